/- The program's device: its steps. -/
import Derived.Test.YtmpcfdjpklmfmaaRows
import Derived.WalkKit
import Derived.Below
import Derived.ProofKit
import Derived.OpenShut
import Derived.ShutString
import Derived.ChangeOld
import Derived.Outline
import Derived.RegionTactic
import Derived.ChangeAlike
import Derived.BigRegion
import Derived.BigQuiet
import Derived.Deep.QuietTactic
import Derived.Deep.RegionWith
import Derived.Deep.RegionLaw
import Derived.Deep.RegionHeld3
import Derived.Deep.AppendLies
import Derived.Deep.Draws
import Derived.StillTailTactics
import Derived.Lib.Hide
import Derived.Lib.SmallJoins
import Derived.Handy
import Derived.WalkSpells
import Derived.WalkLawsBesides
import Derived.Deep.LoopGhost
import Derived.Deep.DeepCutAuto
import Derived.Deep.CutBlock
import Derived.Deep.CutRange
import Derived.Deep.OwnRows
import Derived.Laws.CopyOwn
import Derived.Test.YtmpcfdjpklmfmaaDevPE
namespace Go.Proofs.Ytmpcfdjpklmfmaa
open Go.RowKit
set_option linter.unusedSimpArgs false
set_option linter.unusedVariables false
set_option linter.unnecessarySimpa false
theorem enters {f : Nat} {fn : Func} {c : Code} (hf : Try.prog.funcs[f]? = some fn) (hname : fn.name ≠ "runtime.NumGoroutine") (hb : fn.body = some c) : ∀ (args : Array Value) (w : World), (callFunc f args).run Try.prog w = .ok (.enter f args) w := by
  intro args w
  simp [callFunc, hf, hname, hb]
theorem step_end {bm bl l p : Nat} {uw2 : Value} {d1 : Dv} {w w2 : World} {E : List Nat} {z : Int} (h : PDs w2 bm bl uw2 l p d1) (hf : Fr E w w2) (hp : p ∈ E) (hz : z = ((d1.steps + 1 : Nat) : Int)) :
    PDs (w2.setCell ⟨p, 7, none⟩ (.int .i64 z)) bm bl uw2 l p { d1 with steps := d1.steps + 1 } ∧ Fr E w (w2.setCell ⟨p, 7, none⟩ (.int .i64 z)) := by
  have hr := h.row.set 7 (.int .i64 z)
  rw [hz] at hr ⊢
  exact ⟨h.turn hr ((Fr.refl _ _).setCell (.inl (by simp)) _) rfl rfl h.lf, hf.setCell (.inl hp) _⟩
set_option maxHeartbeats 2000000 in
/-- A step: what it does is said of both closures. -/
theorem pStep_any {bm bl l p : Nat} {uw : Value} {d : Dv} (K : Nat) (cap : Array Value) (hcf : ∀ (args : Array Value) (w : World), (callFunc K args).run Try.prog w = .ok (.enter K args) w) (S : Bool → List (List UInt8)) (V : Bool → List (Nat × List UInt8)) (w : World) (h : PDs w bm bl uw l p d) (hd : d.Few)
    (hdo : ∀ (b : Bool) (w1 : World) (d1 : Dv) (l1 : Nat), PDs w1 bm bl uw l1 p d1 → d1.safe = d.safe → d1.waits = d.waits → Fr [p] w w1 →
      Calls Try.prog K (#[.bool b] ++ cap) w1 fun e w2 => e = .returned (.tuple #[]) ∧ ∃ uw2, PDs w2 bm bl uw2 l1 p { d1 with safe := S b, waits := V b } ∧ Fr (p :: bm :: bl :: blk uw) w1 w2 ∧ ∀ c ∈ blk uw2, c ∈ blk uw ∨ w1.heap.size ≤ c) :
    Calls Try.prog 30 #[.pointer (some ⟨p, 0, none⟩), .func (.func K) #[] cap] w fun e w' => e = .returned (.int .i64 (stepD d).2) ∧
      ∃ uw2 l2, PDs w' bm bl uw2 l2 p { (stepD d).1 with safe := S ((stepD d).2 == 0), waits := V ((stepD d).2 == 0) } ∧ Fr (p :: bm :: bl :: blk uw) w w' ∧ ∀ c ∈ blk uw2, c ∈ blk uw ∨ w.heap.size ≤ c := by
  obtain ⟨sf, ws, on, ar, l0, st⟩ := d
  have hlI : (l0 : Int) < 4611686018427387904 := by have := hd.left; simp at this; omega
  have hsI : (st : Int) < 4611686018427387904 := by have := hd.steps; simp at this; omega
  have c5 := h.row.c 5 (v := .bool ar) rfl
  have c6 := h.row.c 6 (v := .int .i64 (l : Nat)) rfl
  cases ar with
  | false =>
    rw [show stepD ⟨sf, ws, on, false, l0, st⟩ = (⟨sf, ws, on, false, l0, st + 1⟩, 0) from rfl]
    have h1 := hdo true w _ _ h rfl rfl (Fr.refl _ _)
    clear hd hdo h c6 hlI
    go_enter Try.func30, Try.ntmps30
    go_wp2_with fail
    refine h1.mono ?_
    rintro e w2 ⟨rfl, uw2, h2, f2, g2⟩
    clear h1 c5
    have c7 := h2.row.c 7 (v := .int .i64 (st : Nat)) rfl
    have f7 := h2.row.f 7
    go_wp2
    go_ret
    obtain ⟨q1, q2⟩ := step_end (z := (st : Int) + 1) h2 f2 (by simp) (by simp)
    exact ⟨rfl, uw2, _, q1, q2, g2⟩
  | true =>
    have hl := h.lf rfl
    simp only at hl
    subst hl
    rcases Nat.eq_zero_or_pos l with h0 | h0
    · subst h0
      rw [show stepD ⟨sf, ws, on, true, 0, st⟩ = (⟨sf, ws, false, true, 0, st⟩, 14) from rfl]
      have hr := h.row.set 4 (.bool false)
      have hf : Fr [p] w (w.setCell ⟨p, 4, none⟩ (.bool false)) := (Fr.refl _ _).setCell (.inl (by simp)) _
      have h1 := hdo false _ ⟨sf, ws, false, true, 0, st⟩ 0 (h.turn hr hf rfl rfl (fun _ => rfl)) rfl rfl hf
      have c4 := h.row.c 4 (v := .bool on) rfl
      have f4 := h.row.f 4
      clear hd hdo h hlI hr
      go_enter Try.func30, Try.ntmps30
      go_wp2_with fail
      refine h1.mono ?_
      rintro e w2 ⟨rfl, uw2, h2, f2, g2⟩
      clear h1
      go_wp2
      go_ret
      exact ⟨rfl, uw2, _, h2, (hf.more (by simp)).trans f2, fun c hc => (g2 c hc).imp id (fun hh => by simpa [World.setCell] using hh)⟩
    · rw [show stepD ⟨sf, ws, on, true, l, st⟩ = (⟨sf, ws, on, true, l - 1, st + 1⟩, 0) from by unfold stepD; simp; omega]
      obtain ⟨z, hz⟩ : ∃ z : Int, (l : Int) = z := ⟨_, rfl⟩
      have hr := h.row.set 6 (.int .i64 (z - 1))
      have e4 : ((l - 1 : Nat) : Int) = z - 1 := by omega
      have hf : Fr [p] w (w.setCell ⟨p, 6, none⟩ (.int .i64 (z - 1))) := (Fr.refl _ _).setCell (.inl (by simp)) _
      have h1 := hdo true _ ⟨sf, ws, on, true, l - 1, st⟩ (l - 1) (h.turn (by rw [pcs, e4]; exact hr) hf rfl rfl (fun _ => rfl)) rfl rfl hf
      have f6 := h.row.f 6
      rw [hz] at c6 hlI
      have z0 : 0 < z := by omega
      have d0 : (z == 0) = false := by simp; omega
      clear hd hdo h hr e4 hz h0
      go_enter Try.func30, Try.ntmps30
      go_wp2_with fail
      refine h1.mono ?_
      rintro e w2 ⟨rfl, uw2, h2, f2, g2⟩
      clear h1 c5 c6 f6
      have c7 := h2.row.c 7 (v := .int .i64 (st : Nat)) rfl
      have f7 := h2.row.f 7
      go_wp2
      go_ret
      obtain ⟨q1, q2⟩ := step_end (z := (st : Int) + 1) h2 ((hf.more (by simp)).trans f2) (by simp) (by simp)
      exact ⟨rfl, uw2, _, q1, q2, fun c hc => (g2 c hc).imp id (fun hh => by simpa [World.setCell] using hh)⟩
end Go.Proofs.Ytmpcfdjpklmfmaa
