/- The program's device: New, Arm, Safe, Read, Waiting. -/
import Derived.Test.YtnpoohkklfpmdaaGreatRows
import Derived.WalkKit
import Derived.Below
import Derived.ProofKit
import Derived.OpenShut
import Derived.ShutString
import Derived.ChangeOld
import Derived.Outline
import Derived.RegionTactic
import Derived.ChangeAlike
import Derived.BigRegion
import Derived.BigQuiet
import Derived.Deep.QuietTactic
import Derived.Deep.RegionWith
import Derived.Deep.RegionLaw
import Derived.Deep.RegionHeld3
import Derived.Deep.AppendLies
import Derived.Deep.Draws
import Derived.StillTailTactics
import Derived.Lib.Hide
import Derived.Lib.SmallJoins
import Derived.Handy
import Derived.WalkSpells
import Derived.WalkLawsBesides
import Derived.Deep.LoopGhost
import Derived.Deep.DeepCutAuto
import Derived.Deep.CutBlock
import Derived.Deep.CutRange
import Derived.Deep.OwnRows
import Derived.Laws.CopyOwn
import Derived.Test.YtnpoohkklfpmdaaGreatDevPA
import Derived.Test.YtnpoohkklfpmdaaGreatCopy
namespace Go.Proofs.YtnpoohkklfpmdaaGreat
open Go.RowKit
set_option maxRecDepth 100000
set_option linter.unusedSimpArgs false
set_option linter.unusedVariables false
set_option linter.unnecessarySimpa false
theorem szSec : (Tryz.prog.info? 88).map (·.size) = some 64 := by kernel_rfl
theorem has_iff {d : Dv} (k : Int) : d.has k = (decide (0 ≤ k) && decide (k < d.safe.length)) := rfl
set_option maxHeartbeats 1000000 in
theorem pNewNo_any (z : Int) (w : World) (hz : z < 1 ∨ 4096 < z) : Calls Tryz.prog 5 #[.int .i64 z] w fun e w' => e = .returned (.pointer none) ∧ Below w.heap.size w w' := by
  by_cases h1 : z < 1
  · have d0 : decide (z < 1) = true := decide_eq_true h1
    go_enter Tryz.func5, Tryz.ntmps5
    go_wp2
    go_ret
    exact ⟨rfl, Below.refl _ _⟩
  · have d0 : decide (z < 1) = false := decide_eq_false h1
    have d1 : decide (4096 < z) = true := decide_eq_true (by omega)
    go_enter Tryz.func5, Tryz.ntmps5
    go_wp2
    go_ret
    exact ⟨rfl, Below.refl _ _⟩
set_option maxHeartbeats 1000000 in
theorem pNew_any (n : Nat) (w : World) (h1 : 1 ≤ n) (h2 : n ≤ 4096) : Calls Tryz.prog 5 #[.int .i64 (n : Nat)] w fun e w' => (∃ p, e = .returned (.pointer (some ⟨p, 0, none⟩)) ∧ ∃ ex, PD w' ex p (newD n) ∧ ∀ b ∈ ex, w.heap.size ≤ b) ∧ Below w.heap.size w w' := by
  have hmm := @run_makeMap Tryz.prog
  have d0 : decide ((n : Int) < 1) = false := decide_eq_false (by omega)
  have d1 : decide (4096 < (n : Int)) = false := decide_eq_false (by omega)
  go_enter Tryz.func5, Tryz.ntmps5
  go_wp2
  go_ret
  refine ⟨⟨_, rfl, _, PDs.pd (bm := w.heap.size) (bl := w.heap.size + 1) (uw := .slice none 0 0) (l := 0) ⟨?_, World.ownsRow_nil _ _ _ _, ⟨_, ((Mp.made _ _ w).alloc _).alloc _, sf_new n⟩, ⟨_, ?_, ls_new _⟩, by omega, fun h => by cases h⟩, fun b hb => ?_⟩, (((Below.refl _ _).alloc (Nat.le_refl _) _).alloc (by simp) _).alloc (by simp; omega) _⟩
  · have hr := Rw.new ((w.alloc (.map #[] 0)).alloc (.map #[] 0)) [.int .i64 (n : Nat), .map (some w.heap.size), .slice none 0 0, .map (some (w.heap.size + 1)), .bool true, .bool false, .int .i64 0, .int .i64 0] 63
    rw [show ((w.alloc (.map #[] 0)).alloc (.map #[] 0)).heap.size = w.heap.size + 1 + 1 from by simp] at hr
    rw [pcs, show (newD n).safe.length = n from List.length_replicate]
    exact hr
  · have hm := (Mp.made Tryz.prog 3 (w.alloc (.map #[] 0))).alloc (.cells #[.int .i64 (n : Nat), .map (some w.heap.size), .slice none 0 0, .map (some (w.heap.size + 1)), .bool true, .bool false, .int .i64 0, .int .i64 0] 63)
    rw [show (w.alloc (.map #[] 0)).heap.size = w.heap.size + 1 from by simp] at hm
    exact hm
  · simp [blk, Value.ownBlock] at hb; omega
set_option maxHeartbeats 1000000 in
theorem pArm_any {bm bl l p : Nat} {uw : Value} {d : Dv} (n : Int) (w : World) (h : PDs w bm bl uw l p d) : Calls Tryz.prog 9 #[.pointer (some ⟨p, 0, none⟩), .int .i64 n] w fun e w' => e = .returned (.tuple #[]) ∧ PDs w' bm bl uw n.toNat p (armD d n) ∧ Fr [p] w w' := by
  obtain ⟨sf, ws, on, ar, l0, s⟩ := d
  have c5 := h.row.c 5 (v := .bool ar) rfl
  have c6 := h.row.c 6 (v := .int .i64 (l : Nat)) rfl
  have f5 := h.row.f 5
  have f6 := h.row.f 6
  obtain ⟨z, hz⟩ : ∃ z : Int, ((n.toNat : Nat) : Int) = z := ⟨_, rfl⟩
  have hr := (h.row.set 5 (.bool true)).set 6 (.int .i64 z)
  have hm : ∀ ty (W : World), (Builtin.max_ #[3, 3] ty #[.int .i64 n, .int .i64 0]).run Tryz.prog W = .ok (.int .i64 z) W := by
    intro ty W
    rw [run_max_int2, show (if (0 : Int) > n then 0 else n) = z from by split <;> omega]
  have HZ := Lib.hid hz
  clear hz
  go_enter Tryz.func9, Tryz.ntmps9
  go_wp2
  go_end0
  have hf : Fr [p] w ((w.setCell ⟨p, 5, none⟩ (.bool true)).setCell ⟨p, 6, none⟩ (.int .i64 z)) := ((Fr.refl _ _).setCell (.inl (by simp)) _).setCell (.inl (by simp)) _
  exact ⟨rfl, h.turn (by rw [pcs, show (armD ⟨sf, ws, on, ar, l0, s⟩ n) = ⟨sf, ws, on, true, n.toNat, s⟩ from rfl, HZ.out]; exact hr) hf rfl rfl (fun _ => rfl), hf⟩
set_option maxHeartbeats 1000000 in
theorem pSafe_any {bm bl l p : Nat} {uw : Value} {d : Dv} (k : Int) (w : World) (h : PDs w bm bl uw l p d) (hd : d.Few) (ho : d.Ok) : Calls Tryz.prog 62 #[.pointer (some ⟨p, 0, none⟩), .int .i64 k] w fun e w' => e = .returned (.string ⟨(safeD d k).toArray⟩) ∧ Below w.heap.size w w' := by
  have c0 := h.row.c 0 rfl
  have c1 := h.row.c 1 rfl
  obtain ⟨b, hb⟩ : ∃ b, b = d.has k := ⟨_, rfl⟩
  have hcall := pHas_any k c0
  rw [← has_iff, ← hb] at hcall
  clear c0
  cases b with
  | false =>
    rw [show safeD d k = [] from by unfold safeD; rw [← hb]; rfl]
    clear hb hd ho c1
    go_enter Tryz.func62, Tryz.ntmps62
    go_wp2_with fail
    refine hcall.mono ?_
    rintro e w1 ⟨rfl, rfl⟩
    go_wp2
    go_ret
    exact ⟨rfl, Below.refl _ _⟩
  | true =>
    obtain ⟨k0, k1⟩ := Dv.has_lt hb.symm
    have hkn : k = ((k.toNat : Nat) : Int) := by omega
    obtain ⟨s, hs⟩ : ∃ s, d.safe[k.toNat]? = some s := ⟨_, List.getElem?_eq_getElem k1⟩
    have e : safeD d k = s := by unfold safeD; rw [← hb, if_pos rfl, List.getD, hs]; rfl
    have hsl : s.length = 64 := ho.safe s (List.mem_of_getElem? hs)
    rw [e]
    obtain ⟨f, hf, hf'⟩ := h.sm
    have hv := hf'.at_ _ _ hs
    have hk4 := hd.safe
    have hlk : (Instr.lookup 60 (.map (some bm)) (.int .i64 k) false).run Tryz.prog w = .ok (secV s) w := by
      have := hf.look keyI Tryz.underlying60 (congrFun zsecZ w) (keyAt k (by omega))
      rw [this]
      rw [hkn]
      exact congrArg (fun x => Result.ok x w) hv
    clear hb e hf' hv hs hkn k0 k1 ho hd hk4 hf h
    go_enter Tryz.func62, Tryz.ntmps62
    go_wp2_with fail
    refine hcall.mono ?_
    rintro e w1 ⟨rfl, rfl⟩
    clear hcall
    obtain ⟨S, hS⟩ : ∃ S, S = secV s := ⟨_, rfl⟩
    rw [← hS] at hlk
    have HS := Lib.hid hS
    have HL := Lib.hid hsl
    clear hS hsl
    go_wp2_with (first
      | (refine wpList_alloc_new rfl 88 rfl (bcells zsec) (congrFun zsecZ _) ?_; intro w2 hr2 g2)
      | (refine wpList_store_to rfl 88 (.tmp 5) (.tmp 15) rfl w.heap.size (bcells s) _ 88 rfl HS.out hr2 (by rw [bcells_len, HL.out]; exact szSec) (by simp [bcells_len, HL.out, zsec]) (bcells_one _) ?_; intro w3 hr3 g3; have hcv := strRow w3 43 9 5 w.heap.size 64 64 s 88 (0, 0) Tryz.underlying43 Tryz.underlying5 Tryz.underlying9 hr3 HL.out.symm))
    go_ret
    exact ⟨rfl, g2.trans (g3.below g2.size (fun k hk => by simp at hk; omega))⟩
end Go.Proofs.YtnpoohkklfpmdaaGreat
