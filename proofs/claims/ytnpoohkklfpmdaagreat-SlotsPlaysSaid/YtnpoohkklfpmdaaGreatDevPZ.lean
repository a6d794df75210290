/- DevPF: The program's device: its steps.
   DevPG: The program's device: Write, Flush.
   DevPH: The program's device: Flush, Crash.
   DevP: The program's device keeps to all that the laws ask of it. -/
import Derived.Test.YtnpoohkklfpmdaaGreatRows
import Derived.WalkKit
import Derived.Below
import Derived.ProofKit
import Derived.OpenShut
import Derived.ShutString
import Derived.ChangeOld
import Derived.Outline
import Derived.RegionTactic
import Derived.ChangeAlike
import Derived.BigRegion
import Derived.BigQuiet
import Derived.Deep.QuietTactic
import Derived.Deep.RegionWith
import Derived.Deep.RegionLaw
import Derived.Deep.RegionHeld3
import Derived.Deep.AppendLies
import Derived.Deep.Draws
import Derived.StillTailTactics
import Derived.Lib.Hide
import Derived.Lib.SmallJoins
import Derived.Handy
import Derived.WalkSpells
import Derived.WalkLawsBesides
import Derived.Deep.LoopGhost
import Derived.Deep.DeepCutAuto
import Derived.Deep.CutBlock
import Derived.Deep.CutRange
import Derived.Deep.OwnRows
import Derived.Laws.CopyOwn
import Derived.Test.YtnpoohkklfpmdaaGreatDevPE
/- DevPF -/
namespace Go.Proofs.YtnpoohkklfpmdaaGreat
open Go.RowKit
set_option maxRecDepth 100000
set_option linter.unusedSimpArgs false
set_option linter.unusedVariables false
set_option linter.unnecessarySimpa false
theorem enters {f : Nat} {fn : Func} {c : Code} (hf : Tryz.prog.funcs[f]? = some fn) (hname : fn.name ≠ "runtime.NumGoroutine") (hb : fn.body = some c) : ∀ (args : Array Value) (w : World), (callFunc f args).run Tryz.prog w = .ok (.enter f args) w := by
  intro args w
  simp [callFunc, hf, hname, hb]
theorem step_end {bm bl l p : Nat} {uw2 : Value} {d1 : Dv} {w w2 : World} {E : List Nat} {z : Int} (h : PDs w2 bm bl uw2 l p d1) (hf : Fr E w w2) (hp : p ∈ E) (hz : z = ((d1.steps + 1 : Nat) : Int)) :
    PDs (w2.setCell ⟨p, 7, none⟩ (.int .i64 z)) bm bl uw2 l p { d1 with steps := d1.steps + 1 } ∧ Fr E w (w2.setCell ⟨p, 7, none⟩ (.int .i64 z)) := by
  have hr := h.row.set 7 (.int .i64 z)
  rw [hz] at hr ⊢
  exact ⟨h.turn hr ((Fr.refl _ _).setCell (.inl (by simp)) _) rfl rfl h.lf, hf.setCell (.inl hp) _⟩
set_option maxHeartbeats 2000000 in
/-- A step: what it does is said of both closures. -/
theorem pStep_any {bm bl l p : Nat} {uw : Value} {d : Dv} (K : Nat) (cap : Array Value) (hcf : ∀ (args : Array Value) (w : World), (callFunc K args).run Tryz.prog w = .ok (.enter K args) w) (S : Bool → List (List UInt8)) (V : Bool → List (Nat × List UInt8)) (w : World) (h : PDs w bm bl uw l p d) (hd : d.Few)
    (hdo : ∀ (b : Bool) (w1 : World) (d1 : Dv) (l1 : Nat), PDs w1 bm bl uw l1 p d1 → d1.safe = d.safe → d1.waits = d.waits → Fr [p] w w1 →
      Calls Tryz.prog K (#[.bool b] ++ cap) w1 fun e w2 => e = .returned (.tuple #[]) ∧ ∃ uw2, PDs w2 bm bl uw2 l1 p { d1 with safe := S b, waits := V b } ∧ Fr (p :: bm :: bl :: blk uw) w1 w2 ∧ ∀ c ∈ blk uw2, c ∈ blk uw ∨ w1.heap.size ≤ c) :
    Calls Tryz.prog 84 #[.pointer (some ⟨p, 0, none⟩), .func (.func K) #[] cap] w fun e w' => e = .returned (.int .i64 (stepD d).2) ∧
      ∃ uw2 l2, PDs w' bm bl uw2 l2 p { (stepD d).1 with safe := S ((stepD d).2 == 0), waits := V ((stepD d).2 == 0) } ∧ Fr (p :: bm :: bl :: blk uw) w w' ∧ ∀ c ∈ blk uw2, c ∈ blk uw ∨ w.heap.size ≤ c := by
  obtain ⟨sf, ws, on, ar, l0, st⟩ := d
  have hlI : (l0 : Int) < 4611686018427387904 := by have := hd.left; simp at this; omega
  have hsI : (st : Int) < 4611686018427387904 := by have := hd.steps; simp at this; omega
  have c5 := h.row.c 5 (v := .bool ar) rfl
  have c6 := h.row.c 6 (v := .int .i64 (l : Nat)) rfl
  cases ar with
  | false =>
    rw [show stepD ⟨sf, ws, on, false, l0, st⟩ = (⟨sf, ws, on, false, l0, st + 1⟩, 0) from rfl]
    have h1 := hdo true w _ _ h rfl rfl (Fr.refl _ _)
    clear hd hdo h c6 hlI
    go_enter Tryz.func84, Tryz.ntmps84
    go_wp2_with fail
    refine h1.mono ?_
    rintro e w2 ⟨rfl, uw2, h2, f2, g2⟩
    clear h1 c5
    have c7 := h2.row.c 7 (v := .int .i64 (st : Nat)) rfl
    have f7 := h2.row.f 7
    go_wp2
    go_ret
    obtain ⟨q1, q2⟩ := step_end (z := (st : Int) + 1) h2 f2 (by simp) (by simp)
    exact ⟨rfl, uw2, _, q1, q2, g2⟩
  | true =>
    have hl := h.lf rfl
    simp only at hl
    subst hl
    rcases Nat.eq_zero_or_pos l with h0 | h0
    · subst h0
      rw [show stepD ⟨sf, ws, on, true, 0, st⟩ = (⟨sf, ws, false, true, 0, st⟩, 14) from rfl]
      have hr := h.row.set 4 (.bool false)
      have hf : Fr [p] w (w.setCell ⟨p, 4, none⟩ (.bool false)) := (Fr.refl _ _).setCell (.inl (by simp)) _
      have h1 := hdo false _ ⟨sf, ws, false, true, 0, st⟩ 0 (h.turn hr hf rfl rfl (fun _ => rfl)) rfl rfl hf
      have c4 := h.row.c 4 (v := .bool on) rfl
      have f4 := h.row.f 4
      clear hd hdo h hlI hr
      go_enter Tryz.func84, Tryz.ntmps84
      go_wp2_with fail
      refine h1.mono ?_
      rintro e w2 ⟨rfl, uw2, h2, f2, g2⟩
      clear h1
      go_wp2
      go_ret
      exact ⟨rfl, uw2, _, h2, (hf.more (by simp)).trans f2, fun c hc => (g2 c hc).imp id (fun hh => by simpa [World.setCell] using hh)⟩
    · rw [show stepD ⟨sf, ws, on, true, l, st⟩ = (⟨sf, ws, on, true, l - 1, st + 1⟩, 0) from by unfold stepD; simp; omega]
      obtain ⟨z, hz⟩ : ∃ z : Int, (l : Int) = z := ⟨_, rfl⟩
      have hr := h.row.set 6 (.int .i64 (z - 1))
      have e4 : ((l - 1 : Nat) : Int) = z - 1 := by omega
      have hf : Fr [p] w (w.setCell ⟨p, 6, none⟩ (.int .i64 (z - 1))) := (Fr.refl _ _).setCell (.inl (by simp)) _
      have h1 := hdo true _ ⟨sf, ws, on, true, l - 1, st⟩ (l - 1) (h.turn (by rw [pcs, e4]; exact hr) hf rfl rfl (fun _ => rfl)) rfl rfl hf
      have f6 := h.row.f 6
      rw [hz] at c6 hlI
      have z0 : 0 < z := by omega
      have d0 : (z == 0) = false := by simp; omega
      clear hd hdo h hr e4 hz h0
      go_enter Tryz.func84, Tryz.ntmps84
      go_wp2_with fail
      refine h1.mono ?_
      rintro e w2 ⟨rfl, uw2, h2, f2, g2⟩
      clear h1 c5 c6 f6
      have c7 := h2.row.c 7 (v := .int .i64 (st : Nat)) rfl
      have f7 := h2.row.f 7
      go_wp2
      go_ret
      obtain ⟨q1, q2⟩ := step_end (z := (st : Int) + 1) h2 ((hf.more (by simp)).trans f2) (by simp) (by simp)
      exact ⟨rfl, uw2, _, q1, q2, fun c hc => (g2 c hc).imp id (fun hh => by simpa [World.setCell] using hh)⟩
end Go.Proofs.YtnpoohkklfpmdaaGreat
/- DevPG -/
namespace Go.Proofs.YtnpoohkklfpmdaaGreat
open Go.RowKit
set_option maxRecDepth 100000
set_option linter.unusedSimpArgs false
set_option linter.unusedVariables false
set_option linter.unnecessarySimpa false
theorem writeD_step {d : Dv} {j : Nat} {s : List UInt8} (hon : d.on = true) (hk : d.has (j : Int) = true) (hs : s.length = 64) : writeD d (j : Nat) s = ({ (stepD d).1 with safe := d.safe, waits := d.waits ++ [(j, s)] }, (stepD d).2) := by
  unfold writeD
  rw [hon, if_pos rfl, if_pos (by simp [hk, hs])]
  have h := stepD_safe d
  generalize stepD d = x at *
  obtain ⟨⟨a, b, c, e, f, g⟩, er⟩ := x
  simp only at h
  subst h
  simp
theorem flushD_step {d : Dv} (hon : d.on = true) : flushD d = ({ (stepD d).1 with safe := if (stepD d).2 == 0 then layW d.safe d.waits else d.safe, waits := if (stepD d).2 == 0 then [] else d.waits }, (stepD d).2) := by
  unfold flushD
  rw [hon, if_pos rfl]
  have h := stepD_safe d
  have h2 := stepD_waits d
  generalize stepD d = x at *
  obtain ⟨⟨a, b, c, e, f, g⟩, er⟩ := x
  simp only at h h2
  subst h h2
  by_cases he : er = 0
  · subst he; simp
  · simp [he]
theorem fnName (f : Func) (h : (f.name == "runtime.NumGoroutine") = false) : f.name ≠ "runtime.NumGoroutine" := by simpa using h
set_option maxHeartbeats 1000000 in
theorem pWriteDo_any {bm bl l p : Nat} {uw : Value} {d : Dv} (b : Bool) (j c0 c1 c2 : Nat) (s : List UInt8) (w : World) (h : PDs w bm bl uw l p d) (hn4 : d.waits.length < 1048576) (hs4 : d.safe.length ≤ 4096) (hj : j < d.safe.length) (hs : s.length = 64)
    (q0 : w.cell? ⟨c0, 0, none⟩ = some (.pointer (some ⟨p, 0, none⟩))) (q1 : w.cell? ⟨c1, 0, none⟩ = some (.int .i64 (j : Nat))) (q2 : w.cell? ⟨c2, 0, none⟩ = some (.string ⟨s.toArray⟩)) :
    Calls Tryz.prog 85 #[.bool b, .pointer (some ⟨c0, 0, none⟩), .pointer (some ⟨c1, 0, none⟩), .pointer (some ⟨c2, 0, none⟩)] w fun e w' => e = .returned (.tuple #[]) ∧ ∃ uw', PDs w' bm bl uw' l p { d with waits := d.waits ++ [(j, s)] } ∧ Fr (p :: bl :: blk uw) w w' ∧ ∀ b ∈ blk uw', b ∈ blk uw ∨ w.heap.size ≤ b := by
  have hc := pWait_any j s w h hn4 hs4 hj hs
  clear h hn4 hs4 hj hs
  go_enter Tryz.func85, Tryz.ntmps85
  go_wp2_with fail
  refine hc.mono ?_
  rintro e w1 ⟨rfl, uw', h1, f1, g1⟩
  go_wp2
  go_end0
  exact ⟨rfl, uw', h1, f1, g1⟩
set_option maxHeartbeats 2000000 in
theorem pWrite_any {bm bl l p : Nat} {uw : Value} {d : Dv} (k : Int) (s : List UInt8) (w : World) (h : PDs w bm bl uw l p d) (hd : d.Few) (hs : (s.length : Int) ≤ 9223372036854775807) :
    Calls Tryz.prog 74 #[.pointer (some ⟨p, 0, none⟩), .int .i64 k, .string ⟨s.toArray⟩] w fun e w' => e = .returned (.int .i64 (writeD d k s).2) ∧ ∃ uw2 l2, PDs w' bm bl uw2 l2 p (writeD d k s).1 ∧ Fr (p :: bm :: bl :: blk uw) w w' ∧ ∀ c ∈ blk uw2, c ∈ blk uw ∨ w.heap.size ≤ c := by
  obtain ⟨wb, hwb⟩ : ∃ wb, wb = ((w.alloc (.cells #[.pointer (some ⟨p, 0, none⟩)] 24)).alloc (.cells #[.int .i64 k] 3)).alloc (.cells #[.string ⟨s.toArray⟩] 9) := ⟨_, rfl⟩
  have bb : Below w.heap.size w wb := by rw [hwb]; exact (((Below.refl _ _).alloc (Nat.le_refl _) _).alloc (by simp) _).alloc (by simp; omega) _
  have hb := h.below bb
  have q0 : Rw wb w.heap.size [.pointer (some ⟨p, 0, none⟩)] 24 := by rw [hwb]; exact ((Rw.new w _ _).alloc _).alloc _
  have q1 : Rw wb (w.heap.size + 1) [.int .i64 k] 3 := by
    have := (Rw.new (w.alloc (.cells #[.pointer (some ⟨p, 0, none⟩)] 24)) [.int .i64 k] 3).alloc (.cells #[.string ⟨s.toArray⟩] 9)
    rw [hwb]; simpa using this
  have q2 : Rw wb (w.heap.size + 1 + 1) [.string ⟨s.toArray⟩] 9 := by
    have := (Rw.new ((w.alloc (.cells #[.pointer (some ⟨p, 0, none⟩)] 24)).alloc (.cells #[.int .i64 k] 3)) [.string ⟨s.toArray⟩] 9)
    rw [hwb]; simpa using this
  have c0 := hb.row.c 0 rfl
  have hready := pReady_any (hb.row.c 4 rfl)
  have hcall := pHas_any k c0
  rw [← has_iff] at hcall
  have np : w.heap.size ≠ p := by have := h.row.lt; omega
  have np1 : w.heap.size + 1 ≠ p := by have := h.row.lt; omega
  have np2 : w.heap.size + 1 + 1 ≠ p := by have := h.row.lt; omega
  have r0 := q0.c 0 rfl
  have r1 := q1.c 0 rfl
  have r2 := q2.c 0 rfl
  clear c0
  go_enter Tryz.func74, Tryz.ntmps74
  go_wp2_with fail
  rw [← hwb]
  have hB := Lib.hid hb
  have Q0 := Lib.hid q0
  have Q1 := Lib.hid q1
  have Q2 := Lib.hid q2
  have BB := Lib.hid bb
  have ZW : w.heap.size + 1 + 1 < wb.heap.size := q2.lt
  clear hwb h hb q0 q1 q2 bb
  cases hon : d.on with
  | false =>
    rw [hon] at hready
    have e : writeD d k s = (d, 14) := by unfold writeD; rw [hon]; rfl
    have HE := Lib.hid e
    clear e hon hcall
    refine hready.mono ?_
    rintro e w1 ⟨rfl, rfl⟩
    go_wp2
    go_ret
    rw [HE.out]
    exact ⟨rfl, uw, l, hB.out, Fr.of_below BB.out, fun c hc => .inl hc⟩
  | true =>
    rw [hon] at hready
    refine hready.mono ?_
    rintro e w1 ⟨rfl, rfl⟩
    go_wp2_with fail
    refine hcall.mono ?_
    rintro e w1 ⟨rfl, rfl⟩
    clear hready hcall
    by_cases hk : d.has k = true
    · rw [hk]
      by_cases hs64 : s.length = 64
      · obtain ⟨k0, k1⟩ := Dv.has_lt hk
        obtain ⟨j, hj⟩ : ∃ j, j = k.toNat := ⟨_, rfl⟩
        obtain rfl : k = (j : Int) := by omega
        have e : writeD d (j : Nat) s = ({ (stepD d).1 with safe := d.safe, waits := d.waits ++ [(j, s)] }, (stepD d).2) := writeD_step hon hk hs64
        have hsI : (s.length : Int) = 64 := by omega
        have hst := pStep_any 85 #[.pointer (some ⟨w.heap.size, 0, none⟩), .pointer (some ⟨w.heap.size + 1, 0, none⟩), .pointer (some ⟨w.heap.size + 1 + 1, 0, none⟩)] (enters Tryz.func85 (fnName _ (by kernel_rfl)) rfl) (fun _ => d.safe) (fun _ => d.waits ++ [(j, s)]) wb hB.out hd (fun b w1 d1 l1 h1 e1 e2 f1 => by
          have t0 := (Q0.out.fr f1 (by simpa using np)).c 0 rfl
          have t1 := (Q1.out.fr f1 (by simpa using np1)).c 0 rfl
          have t2 := (Q2.out.fr f1 (by simpa using np2)).c 0 rfl
          refine (pWriteDo_any b j _ _ _ s w1 h1 (by rw [e2]; exact hd.waits) (by rw [e1]; exact hd.safe) (by rw [e1, hj]; exact k1) hs64 t0 t1 t2).mono ?_
          rintro e w2 ⟨rfl, uw2, h2, f2, g2⟩
          exact ⟨rfl, uw2, by rw [← e1, ← e2]; exact h2, f2.more (fun x hx => by simp only [List.mem_cons] at hx ⊢; rcases hx with e | e | e; exact .inl e; exact .inr (.inr (.inl e)); exact .inr (.inr (.inr e))), g2⟩)
        have HE := Lib.hid e
        clear e hk hon hj k0 k1 hd hs hs64
        go_wp2_with fail
        refine hst.mono ?_
        rintro e w2 ⟨rfl, uw2, l2, h2, f2, g2⟩
        go_wp2
        go_ret
        rw [HE.out]
        exact ⟨rfl, uw2, l2, h2, (Fr.of_below BB.out).trans f2, fun c hc => (g2 c hc).imp id (fun hh => Nat.le_trans BB.out.size hh)⟩
      · have e : writeD d k s = (d, 1) := by unfold writeD; rw [hon, if_pos rfl, if_neg (by simp [hs64])]
        have HE := Lib.hid e
        have d2 : ((s.length : Int) == 64) = false := by simp; omega
        clear e hs64 hk hon
        go_wp2
        go_ret
        rw [HE.out]
        exact ⟨rfl, uw, l, hB.out, Fr.of_below BB.out, fun c hc => .inl hc⟩
    · have hk' : d.has k = false := by simpa using hk
      rw [hk']
      have e : writeD d k s = (d, 1) := by unfold writeD; rw [hon, if_pos rfl, if_neg (by simp [hk'])]
      have HE := Lib.hid e
      clear e hk hk' hon
      go_wp2
      go_ret
      rw [HE.out]
      exact ⟨rfl, uw, l, hB.out, Fr.of_below BB.out, fun c hc => .inl hc⟩
theorem tornS_all {s old : List UInt8} (h : s.length = 64) (h2 : old.length = 64) : tornS 64 s old = s := by
  rw [tornS, List.take_of_length_le (by omega), List.drop_of_length_le (by omega), List.append_nil]
set_option maxHeartbeats 2000000 in
theorem pFlushDo_any {bm bl l p : Nat} {uw : Value} {d : Dv} (b : Bool) (c0 : Nat) (w : World) (h : PDs w bm bl uw l p d) (hml : d.waits.length < 1048576) (hsl : d.safe.length ≤ 4096) (ho : d.Ok) (q0 : Rw w c0 [.pointer (some ⟨p, 0, none⟩)] 24) :
    Calls Tryz.prog 87 #[.bool b, .pointer (some ⟨c0, 0, none⟩)] w fun e w' => e = .returned (.tuple #[]) ∧ ∃ uw', PDs w' bm bl uw' l p { d with safe := if b then layW d.safe d.waits else d.safe, waits := if b then [] else d.waits } ∧ Fr (p :: bm :: bl :: blk uw) w w' ∧ ∀ c ∈ blk uw', c ∈ blk uw ∨ w.heap.size ≤ c := by
  cases b with
  | false =>
    have HH := Lib.hid h
    clear h hml hsl ho
    go_enter Tryz.func87, Tryz.ntmps87
    go_wp2
    refine bodyPost_ret (results_none rfl _ _ _) rfl ?_
    exact ⟨rfl, uw, HH.out, Fr.refl _ _, fun c hc => .inl hc⟩
  | true =>
    obtain ⟨A, cp, rfl⟩ := own_form h.wts
    have r0 := q0.c 0 rfl
    have c2 := h.row.c 2 rfl
    obtain ⟨m, hm⟩ : ∃ m, m = d.waits.length := ⟨_, rfl⟩
    have HM := Lib.hid hm
    have HO := Lib.hid ho
    have hc0 : c0 ≠ bm := by obtain ⟨f, hf, _⟩ := h.sm; exact Ne.symm (mp_row hf q0)
    have L1 := h
    have Q0 := Lib.hid q0
    rw [← hm] at c2 hml
    have H := Lib.hid h
    clear hm ho h
    go_enter Tryz.func87, Tryz.ntmps87
    go_wp2
    go_loopw [12] (fun i wr => ∃ t : Nat, t ≤ m ∧ i = .int .i64 t ∧ PDs wr bm bl (.slice A d.waits.length cp) l p { d with safe := layW d.safe (d.waits.take t) } ∧ Fr [bm] w wr) (fun i _ => m - (intOf i).toNat)
    case atStart => exact ⟨0, by omega, rfl, L1, Fr.refl _ _⟩
    case round =>
      obtain ⟨t, ht, rfl, hL, hF⟩ := hrel
      have q0' := Q0.out.fr hF (by simpa using hc0)
      have r0 := q0'.c 0 rfl
      have lt0 := q0'.lt
      clear q0'
      by_cases hlt : t < m
      · have tl : (t : Int) < m := by omega
        have hmm := HM.out
        obtain ⟨y, hy⟩ : ∃ y, d.waits[t]? = some y := ⟨d.waits[t]'(by omega), List.getElem?_eq_getElem _⟩
        obtain ⟨a1, a2⟩ := wrs_at d.waits t y hy
        obtain ⟨g2, cap2, e2, hc2, _, _, ca, _⟩ := own_cell hL.wts a1
        obtain ⟨g3, cap3, e3, hc3, _, _, cb, _⟩ := own_cell hL.wts a2
        rw [e2] at e3
        obtain ⟨rfl, rfl⟩ : g2 = g3 ∧ cap2 = cap3 := by simpa using e3
        simp only [Value.slice.injEq] at e2
        obtain ⟨rfl, _, rfl⟩ := e2
        have hl := Lib.hid (layW_take d.safe d.waits t y hy)
        have hy2 := HO.out.waits y (List.mem_of_getElem? hy)
        have hlen : (layW d.safe (d.waits.take t)).length = d.safe.length := by rw [layW_len]
        have hmem := layW_mem (d.waits.take t) d.safe HO.out.safe (fun x hx => (HO.out.waits x (List.mem_of_mem_take hx)).2)
        obtain ⟨yi, ys⟩ := y
        simp only at ca cb hl hy2
        obtain ⟨old, hold⟩ : ∃ old, (layW d.safe (d.waits.take t))[yi]? = some old := ⟨_, List.getElem?_eq_getElem (by rw [hlen]; exact hy2.1)⟩
        have hol := hmem old (List.mem_of_getElem? hold)
        have HKp := Lib.hid (fun (W : World) (hW : PDs W bm bl (.slice (some ⟨g2, 0, none⟩) d.waits.length cp) l p { d with safe := layW d.safe (d.waits.take t) }) => pKeep_any yi ys old 64 W hW (by simp only; rw [hlen]; exact hsl) hold hol hy2.2 (by omega))
        rw [tornS_all hy2.2 hol] at HKp
        rw [show ((64 : Nat) : Int) = 64 from rfl] at HKp
        have HL := Lib.hid hL
        have hlt2 := (hL.lt)
        clear e3 a1 a2 hlen hmem hold hol hmm hL
        go_wp2_with fail
        have ba : Below wr.heap.size wr (wr.alloc (.cells #[.int .i64 (yi : Nat), .string ⟨ys.toArray⟩] 74)) := (Below.refl _ _).alloc (Nat.le_refl _) _
        refine (HKp.out _ (HL.out.below ba)).mono ?_
        rintro e w2 ⟨rfl, h2, f2⟩
        have F2 := (hF.trans (Fr.of_below ba)).trans f2
        clear HKp
        go_wp2
        go_roundw
        case rel => exact ⟨t + 1, by omega, by go_num, by rw [hl.out]; exact h2, F2⟩
        case measure => simp [intOf]; omega
      · have tl : ¬ ((t : Int) < m) := by omega
        have hmm := HM.out
        have e : d.waits.take t = d.waits := List.take_of_length_le (by omega)
        rw [e] at hL
        have hmore := pNoMore_any wr hL
        clear e hmm hL
        go_wp2_with fail
        refine hmore.mono ?_
        rintro e w2 ⟨rfl, h2, f2⟩
        go_wp2
        go_end0
        refine ⟨rfl, _, h2, (hF.more (fun x hx => by simp at hx; simp [hx])).trans (f2.more (fun x hx => by simp at hx; rcases hx with e | e <;> simp [e])), fun c hc => ?_⟩
        simp [blk, Value.ownBlock] at hc
end Go.Proofs.YtnpoohkklfpmdaaGreat
/- DevPH -/
namespace Go.Proofs.YtnpoohkklfpmdaaGreat
open Go.RowKit
set_option maxRecDepth 100000
set_option linter.unusedSimpArgs false
set_option linter.unusedVariables false
set_option linter.unnecessarySimpa false
set_option maxHeartbeats 2000000 in
theorem pFlush_any {bm bl l p : Nat} {uw : Value} {d : Dv} (w : World) (h : PDs w bm bl uw l p d) (hd : d.Few) (ho : d.Ok) :
    Calls Tryz.prog 75 #[.pointer (some ⟨p, 0, none⟩)] w fun e w' => e = .returned (.int .i64 (flushD d).2) ∧ ∃ uw2 l2, PDs w' bm bl uw2 l2 p (flushD d).1 ∧ Fr (p :: bm :: bl :: blk uw) w w' ∧ ∀ c ∈ blk uw2, c ∈ blk uw ∨ w.heap.size ≤ c := by
  obtain ⟨wb, hwb⟩ : ∃ wb, wb = w.alloc (.cells #[.pointer (some ⟨p, 0, none⟩)] 24) := ⟨_, rfl⟩
  have bb : Below w.heap.size w wb := by rw [hwb]; exact (Below.refl _ _).alloc (Nat.le_refl _) _
  have hb := h.below bb
  have q0 : Rw wb w.heap.size [.pointer (some ⟨p, 0, none⟩)] 24 := by rw [hwb]; exact Rw.new w _ _
  have hready := pReady_any (hb.row.c 4 rfl)
  have np : w.heap.size ≠ p := by have := h.row.lt; omega
  have r0 := q0.c 0 rfl
  go_enter Tryz.func75, Tryz.ntmps75
  go_wp2_with fail
  rw [← hwb]
  have hB := Lib.hid hb
  have Q0 := Lib.hid q0
  have BB := Lib.hid bb
  have ZW : w.heap.size < wb.heap.size := q0.lt
  clear hwb h hb q0 bb
  cases hon : d.on with
  | false =>
    rw [hon] at hready
    have e : flushD d = (d, 14) := by unfold flushD; rw [hon]; rfl
    have HE := Lib.hid e
    clear e hon
    refine hready.mono ?_
    rintro e w1 ⟨rfl, rfl⟩
    go_wp2
    go_ret
    rw [HE.out]
    exact ⟨rfl, uw, l, hB.out, Fr.of_below BB.out, fun c hc => .inl hc⟩
  | true =>
    rw [hon] at hready
    have HE := Lib.hid (flushD_step hon)
    have hst := pStep_any 87 #[.pointer (some ⟨w.heap.size, 0, none⟩)] (enters Tryz.func87 (fnName _ (by kernel_rfl)) rfl) (fun b => if b then layW d.safe d.waits else d.safe) (fun b => if b then [] else d.waits) wb hB.out hd (fun b w1 d1 l1 h1 e1 e2 f1 => by
      have t0 := Q0.out.fr f1 (by simpa using np)
      refine (pFlushDo_any b _ w1 h1 (by rw [e2]; exact hd.waits) (by rw [e1]; exact hd.safe) ⟨by rw [e1]; exact ho.safe, by rw [e1, e2]; exact ho.waits⟩ t0).mono ?_
      rintro e w2 ⟨rfl, uw2, h2, f2, g2⟩
      rw [e1, e2] at h2
      exact ⟨rfl, uw2, h2, f2, g2⟩)
    refine hready.mono ?_
    rintro e w1 ⟨rfl, rfl⟩
    clear hready hon hd ho
    go_wp2_with fail
    refine hst.mono ?_
    rintro e w2 ⟨rfl, uw2, l2, h2, f2, g2⟩
    go_wp2
    go_ret
    rw [HE.out]
    exact ⟨rfl, uw2, l2, h2, (Fr.of_below BB.out).trans f2, fun c hc => (g2 c hc).imp id (fun hh => Nat.le_trans BB.out.size hh)⟩
theorem keep1_set {keep : List Bool} {torn : Int} {c t yi : Nat} {ys old : List UInt8} {sf : List (List UInt8)} (ho : sf[yi]? = some old) (hs : ys.length = 64) (hol : old.length = 64) :
    keep1 keep torn c t (yi, ys) sf = if keep.getD t false then sf.set yi (tornS (if (t : Int) = torn then c else 64) ys old) else sf := by
  unfold keep1
  split
  · congr 1
    split
    · rw [tornS, List.getD_eq_getElem?_getD, ho]; rfl
    · rw [tornS_all hs hol]
  · rfl
set_option maxHeartbeats 4000000 in
theorem pCrash_any {bm bl l p : Nat} {uw : Value} {d : Dv} (a : Option Addr) (kn kc : Nat) (keep : List Bool) (torn cut : Int) (w : World) (h : PDs w bm bl uw l p d) (hd : d.Few) (ho : d.Ok) (hpos : 0 < d.safe.length) (hb : BoolsAt w a kn keep) (hkc : kn ≤ kc) (hkm : (kn : Int) ≤ 9223372036854775807) (hoff : ∀ b off, 0 < kn → a = some ⟨b, off, none⟩ → b ∉ p :: bm :: bl :: blk uw) :
    Calls Tryz.prog 11 #[.pointer (some ⟨p, 0, none⟩), .slice a kn kc, .int .i64 torn, .int .i64 cut] w fun e w' => e = .returned (.tuple #[]) ∧ PDs w' bm bl (.slice none 0 0) 0 p (crashD d keep torn cut) ∧ Fr (p :: bm :: bl :: blk uw) w w' := by
  obtain ⟨c, hc⟩ : ∃ c, c = cutD cut := ⟨_, rfl⟩
  have hc64 : c ≤ 64 := by rw [hc]; exact cutD_le cut
  have eC : crashD d keep torn cut = { d with safe := keepW keep torn c 0 d.waits d.safe, waits := [], on := true, armed := false } := by rw [hc]; rfl
  rw [eC]
  have hmx : ∀ ty (W : World), (Builtin.max_ #[3, 3] ty #[.int .i64 cut, .int .i64 0]).run Tryz.prog W = .ok (.int .i64 (if (0 : Int) > cut then 0 else cut)) W := fun ty W => run_max_int2 W _ _ _ _ _ _
  have hmn : ∀ ty (W : World), (Builtin.min_ #[3, 3] ty #[.int .i64 (if (0 : Int) > cut then 0 else cut), .int .i64 64]).run Tryz.prog W = .ok (.int .i64 (c : Nat)) W := fun ty W => by
    rw [run_min_int2]
    have : (if (64 : Int) < (if (0 : Int) > cut then 0 else cut) then (64 : Int) else (if (0 : Int) > cut then 0 else cut)) = (c : Nat) := by
      rw [hc]; unfold cutD; split <;> (try split) <;> (try split) <;> omega
    rw [this]
  obtain ⟨z, hz⟩ : ∃ z, z = (if (0 : Int) > cut then 0 else cut) := ⟨_, rfl⟩
  rw [← hz] at hmx
  simp only [← hz] at hmn
  clear hz
  obtain ⟨A, cp, rfl⟩ := own_form h.wts
  have c0 := h.row.c 0 rfl
  have c2 := h.row.c 2 rfl
  obtain ⟨n, hn⟩ : ∃ n, n = d.safe.length := ⟨_, rfl⟩
  rw [← hn] at c0 hpos
  have n0 : ((n : Int) == 0) = false := by simp; omega
  obtain ⟨m, hm⟩ : ∃ m, m = d.waits.length := ⟨_, rfl⟩
  have HM := Lib.hid hm
  have HN := Lib.hid hn
  have hml := hd.waits
  have hsl := hd.safe
  have HO := Lib.hid ho
  have L0 := h
  have H := Lib.hid h
  rw [← hm] at c2 hml
  have hoff' : ∀ b off, 0 < kn → a = some ⟨b, off, none⟩ → b ∉ [bm] := fun b off h1 h2 hm => hoff b off h1 h2 (by simp at hm; simp [hm])
  clear hm hn hd ho h eC hc
  go_enter Tryz.func11, Tryz.ntmps11
  go_wp2
  go_loopw [24] (fun i wr => ∃ t : Nat, t ≤ m ∧ i = .int .i64 t ∧ PDs wr bm bl (.slice A d.waits.length cp) l p { d with safe := keepW keep torn c 0 (d.waits.take t) d.safe } ∧ Fr [bm] w wr) (fun i _ => m - (intOf i).toNat)
  case atStart => exact ⟨0, by omega, rfl, L0, Fr.refl _ _⟩
  case round =>
    obtain ⟨t, ht, rfl, hL, hF⟩ := hrel
    by_cases hlt : t < m
    · have tl : (t : Int) < m := by omega
      have hmm := HM.out
      obtain ⟨y, hy⟩ : ∃ y, d.waits[t]? = some y := ⟨d.waits[t]'(by omega), List.getElem?_eq_getElem _⟩
      obtain ⟨a1, a2⟩ := wrs_at d.waits t y hy
      obtain ⟨g2, cap2, e2, hc2, _, _, ca, _⟩ := own_cell hL.wts a1
      obtain ⟨g3, cap3, e3, hc3, _, _, cb, _⟩ := own_cell hL.wts a2
      rw [e2] at e3
      obtain ⟨rfl, rfl⟩ : g2 = g3 ∧ cap2 = cap3 := by simpa using e3
      simp only [Value.slice.injEq] at e2
      obtain ⟨rfl, _, rfl⟩ := e2
      have hl := keepW_take keep torn c d.waits 0 t d.safe y hy
      have hy2 := HO.out.waits y (List.mem_of_getElem? hy)
      obtain ⟨sf, hsf⟩ : ∃ sf, sf = keepW keep torn c 0 (d.waits.take t) d.safe := ⟨_, rfl⟩
      have hsfl : sf.length = d.safe.length ∧ ∀ z ∈ sf, z.length = 64 := by
        rw [hsf]
        exact keepW_all hc64 _ 0 _ (fun z hz => HO.out.waits z (List.mem_of_mem_take hz)) HO.out.safe
      rw [← hsf] at hl hL
      obtain ⟨yi, ys⟩ := y
      simp only at ca cb hl hy2
      obtain ⟨old, hold⟩ : ∃ old, sf[yi]? = some old := ⟨_, List.getElem?_eq_getElem (by rw [hsfl.1]; exact hy2.1)⟩
      have hol := hsfl.2 old (List.mem_of_getElem? hold)
      rw [Nat.zero_add, keep1_set hold hy2.2 hol] at hl
      have HL := Lib.hid hL
      have ba : Below wr.heap.size wr (wr.alloc (.cells #[.int .i64 (yi : Nat), .string ⟨ys.toArray⟩] 74)) := (Below.refl _ _).alloc (Nat.le_refl _) _
      have BA := Lib.hid ba
      have hbt := hb.fr hF hoff'
      have HKp : ∀ (x : Nat), x ≤ 64 → Calls Tryz.prog 33 #[.pointer (some ⟨p, 0, none⟩), .agg #[.int .i64 (yi : Nat), .string ⟨ys.toArray⟩], .int .i64 (x : Nat)] (wr.alloc (.cells #[.int .i64 (yi : Nat), .string ⟨ys.toArray⟩] 74)) fun e w' => e = .returned (.tuple #[]) ∧ PDs w' bm bl (.slice (some ⟨g2, 0, none⟩) d.waits.length cp) l p { d with safe := sf.set yi (tornS x ys old) } ∧ Fr [bm] (wr.alloc (.cells #[.int .i64 (yi : Nat), .string ⟨ys.toArray⟩] 74)) w' :=
        fun x hx => pKeep_any yi ys old x _ (hL.below ba) (by simp only; rw [hsfl.1]; exact hsl) hold hol hy2.2 hx
      have F1 := hF.trans (Fr.of_below (ex := [bm]) ba)
      have lgp := hL.lt
      clear e3 a1 a2 hsfl hold hol hmm hL ba hy2 hsf hy
      by_cases hkt : keep.getD t false = true
      · rw [if_pos hkt] at hl
        have hq : t < kn := by
          rcases Nat.lt_or_ge t kn with h | h
          · exact h
          · rw [List.getD_eq_getElem?_getD, List.getElem?_eq_none (by rw [hb.1]; exact h)] at hkt; simp at hkt
        have d3 : decide ((kn : Int) ≤ t) = false := decide_eq_false (by omega)
        obtain ⟨x, hx⟩ : ∃ x, keep[t]? = some x := ⟨keep[t]'(by rw [hb.1]; exact hq), List.getElem?_eq_getElem _⟩
        have hxt : x = true := by
          rw [List.getD_eq_getElem?_getD, hx] at hkt; simpa using hkt
        obtain ⟨bb, off, ea, lbb, hcb⟩ := hbt.2 (by omega)
        have cbb := hcb t x hx
        rw [hxt] at cbb
        subst ea
        have tk : (t : Int) < kn := by omega
        by_cases hto : (t : Int) = torn
        · rw [if_pos hto] at hl
          have dto : ((t : Int) == torn) = true := by simp [hto]
          have HKc := Lib.hid (HKp c hc64)
          have hl2 := Lib.hid hl
          clear HKp hcb hx hxt hkt hto hl hbt hb
          go_wp2_with fail
          refine HKc.out.mono ?_
          rintro e w2 ⟨rfl, h2, f2⟩
          go_wp2
          go_roundw
          case rel => exact ⟨t + 1, by omega, by go_num, by rw [hl2.out]; exact h2, F1.trans f2⟩
          case measure => simp [intOf]; omega
        · rw [if_neg hto] at hl
          have dto : ((t : Int) == torn) = false := by simpa using hto
          have HKc := Lib.hid (HKp 64 (by omega))
          rw [show ((64 : Nat) : Int) = 64 from rfl] at HKc
          have hl2 := Lib.hid hl
          clear HKp hcb hx hxt hkt hto hl hbt hb
          go_wp2_with fail
          refine HKc.out.mono ?_
          rintro e w2 ⟨rfl, h2, f2⟩
          go_wp2
          go_roundw
          case rel => exact ⟨t + 1, by omega, by go_num, by rw [hl2.out]; exact h2, F1.trans f2⟩
          case measure => simp [intOf]; omega
      · rw [if_neg hkt] at hl
        have hl2 := Lib.hid hl
        have HB2 := Lib.hid (HL.out.below BA.out)
        clear HKp hl
        by_cases hq : (kn : Int) ≤ t
        · have d3 : decide ((kn : Int) ≤ t) = true := decide_eq_true hq
          clear hbt hb hkt
          go_wp2
          go_roundw
          case rel => exact ⟨t + 1, by omega, by go_num, by rw [hl2.out]; exact HB2.out, F1⟩
          case measure => simp [intOf]; omega
        · have d3 : decide ((kn : Int) ≤ t) = false := decide_eq_false hq
          obtain ⟨x, hx⟩ : ∃ x, keep[t]? = some x := ⟨keep[t]'(by rw [hb.1]; omega), List.getElem?_eq_getElem _⟩
          have hxt : x = false := by
            rw [List.getD_eq_getElem?_getD, hx] at hkt; simpa using hkt
          obtain ⟨bb, off, ea, lbb, hcb⟩ := hbt.2 (by omega)
          have cbb := hcb t x hx
          rw [hxt] at cbb
          subst ea
          have tk : (t : Int) < kn := by omega
          clear hcb hx hxt hkt hbt hb
          go_wp2
          go_roundw
          case rel => exact ⟨t + 1, by omega, by go_num, by rw [hl2.out]; exact HB2.out, F1⟩
          case measure => simp [intOf]; omega
    · have tl : ¬ ((t : Int) < m) := by omega
      have hmm := HM.out
      have e : d.waits.take t = d.waits := List.take_of_length_le (by omega)
      rw [e] at hL
      have hmore := pNoMore_any wr hL
      clear e hmm hL hb
      go_wp2_with fail
      refine hmore.mono ?_
      rintro e w2 ⟨rfl, h2, f2⟩
      have c4 := h2.row.c 4 (v := .bool d.on) rfl
      have c5 := h2.row.c 5 (v := .bool d.armed) rfl
      have c6 := h2.row.c 6 (v := .int .i64 (l : Nat)) rfl
      have f4 := h2.row.f 4
      have f5 := h2.row.f 5
      have f6 := h2.row.f 6
      have F2 := (hF.more (ex' := p :: bm :: bl :: blk (.slice A d.waits.length cp)) (fun x hx => by simp at hx; simp [hx])).trans (f2.more (fun x hx => by simp at hx; rcases hx with e | e <;> simp [e]))
      have hr := ((h2.row.set 4 (.bool true)).set 5 (.bool false)).set 6 (.int .i64 0)
      have H2 := Lib.hid h2
      clear h2
      go_wp2
      go_end0
      exact ⟨rfl, H2.out.turn (l' := 0) hr ((((Fr.refl _ _).setCell (.inl (by simp)) _).setCell (.inl (by simp)) _).setCell (.inl (by simp)) _) rfl rfl (fun h => by cases h), ((F2.setCell (.inl (by simp)) _).setCell (.inl (by simp)) _).setCell (.inl (by simp)) _⟩
end Go.Proofs.YtnpoohkklfpmdaaGreat
/- DevP -/
namespace Go.Proofs.YtnpoohkklfpmdaaGreat
open Go.RowKit
set_option linter.unusedSimpArgs false
set_option linter.unusedVariables false
set_option linter.unnecessarySimpa false
theorem mv_of {bm bl p bm' bl' : Nat} {uw uw' : Value} {w w' : World} (hf : Fr (p :: bm :: bl :: blk uw) w w') (h1 : bm' = bm) (h2 : bl' = bl) (h3 : ∀ c ∈ blk uw', c ∈ blk uw ∨ w.heap.size ≤ c) : Mv (p :: bm :: bl :: blk uw) w (p :: bm' :: bl' :: blk uw') w' := by
  subst h1 h2
  refine ⟨hf, fun b hb => ?_⟩
  simp only [List.mem_cons] at hb ⊢
  rcases hb with e | e | e | e
  · exact .inl (.inl e)
  · exact .inl (.inr (.inl e))
  · exact .inl (.inr (.inr (.inl e)))
  · exact (h3 b e).imp (fun q => .inr (.inr (.inr q))) id
/-- The program's device keeps to all that is asked. -/
theorem iface0 : Iface0 PD where
  keep := pdKeep
  lt := pdLt
  new0 := pNewNo_any
  new := pNew_any
  read := by
    rintro ex p d k w ⟨bm, bl, uw, l, rfl, h⟩ hd ho
    exact pRead_any k w h hd ho
  write := by
    rintro ex p d k s w ⟨bm, bl, uw, l, rfl, h⟩ hd ho hs
    refine (pWrite_any k s w h hd hs).mono ?_
    rintro e w' ⟨rfl, uw2, l2, h2, f2, g2⟩
    exact ⟨rfl, _, h2.pd, mv_of f2 rfl rfl g2⟩
  flush := by
    rintro ex p d w ⟨bm, bl, uw, l, rfl, h⟩ hd ho
    refine (pFlush_any w h hd ho).mono ?_
    rintro e w' ⟨rfl, uw2, l2, h2, f2, g2⟩
    exact ⟨rfl, _, h2.pd, mv_of f2 rfl rfl g2⟩
  arm := by
    rintro ex p d n w ⟨bm, bl, uw, l, rfl, h⟩
    refine (pArm_any n w h).mono ?_
    rintro e w' ⟨rfl, h2, f2⟩
    exact ⟨rfl, _, h2.pd, mv_of (f2.more (by simp)) rfl rfl (fun c hc => .inl hc)⟩
  crash := by
    rintro ex p d a kn kc keep torn cut w ⟨bm, bl, uw, l, rfl, h⟩ hd ho hpos hb hkc hkm hoff
    refine (pCrash_any a kn kc keep torn cut w h hd ho hpos hb hkc hkm hoff).mono ?_
    rintro e w' ⟨rfl, h2, f2⟩
    exact ⟨rfl, _, h2.pd, mv_of f2 rfl rfl (fun c hc => by simp [blk, Value.ownBlock] at hc)⟩
  sectors := by
    rintro ex p d w ⟨bm, bl, uw, l, rfl, h⟩
    exact pSectors_any (h.row.c 0 rfl)
  waiting := by
    rintro ex p d w ⟨bm, bl, uw, l, rfl, h⟩ hd
    exact pWaiting_any w h hd
  safe := by
    rintro ex p d k w ⟨bm, bl, uw, l, rfl, h⟩ hd ho
    exact pSafe_any k w h hd ho
end Go.Proofs.YtnpoohkklfpmdaaGreat
