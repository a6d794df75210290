/- The program's numbers: what Of, Most, Zero, within, Compare, Add, Sub, Times and Part tell. -/
import Derived.Test.YtppgpdckaaabeaaRows
import Derived.WalkKit
import Derived.Below
import Derived.ProofKit
import Derived.OpenShut
import Derived.ShutString
import Derived.ChangeOld
import Derived.Outline
import Derived.RegionTactic
import Derived.ChangeAlike
import Derived.BigRegion
import Derived.BigQuiet
import Derived.Deep.QuietTactic
import Derived.Deep.RegionWith
import Derived.Deep.RegionLaw
import Derived.Deep.RegionHeld3
import Derived.Deep.AppendLies
import Derived.Deep.Draws
import Derived.StillTailTactics
import Derived.Lib.Hide
import Derived.Lib.SmallJoins
import Derived.Handy
import Derived.WalkSpells
import Derived.WalkLawsBesides
import Derived.Deep.LoopGhost
import Derived.Deep.DeepCutAuto
import Derived.Deep.CutBlock
import Derived.Deep.CutRange
import Derived.Test.YtppgpdckaaabeaaWideO
import Derived.Test.YtppgpdckaaabeaaDiv64
import Derived.Test.YtppgpdckaaabeaaLimbs
namespace Go.Proofs.Ytppgpdckaaabeaa
open Go.RowKit
set_option linter.unusedSimpArgs false
set_option linter.unusedVariables false
set_option linter.unnecessarySimpa false
theorem zeroWd (w : World) : (zeroValue 24).run Try.prog w = .ok (.agg (wcells 0).toArray) w := by kernel_rfl
theorem builtN (n : Nat) (h : n < 18446744073709551616) : Try.prog.built 24 [(0, .int .u64 (n : Nat))] = some (wcells n).toArray := by rw [wcells_small n h]; kernel_rfl
theorem results_cell1 {P : Program} {fn : Func} {p : Tmp} {ty : TypeId} (h : fn.results = #[.cell p ty]) (tmps : Array Value) (w : World) (g : Nat) (t : TypeId) (cs : Array Value) (fr : Nat × Nat) (d : TypeDesc)
    (hp : tmps.getD p undef = .pointer (some ⟨g, 0, none⟩)) (hg : w.heap[g]? = some (.cells cs t fr))
    (hu : P.underlying ty = some d) (hd : (match d with | .struct _ | .array _ _ => true | _ => false) = true) (hi : (P.info? ty).map (·.size) = some cs.size) :
    (results fn tmps).run P w = .ok (.agg cs) w := by
  have hp' : tmps[p]?.getD undef = .pointer (some ⟨g, 0, none⟩) := by simpa using hp
  simp [results, h, hp', asAddr, run_loadVar_row w g t ty cs fr d hg hu hd hi]
theorem zrow : (#[.int .u64 0, .int .u64 0, .int .u64 0, .int .u64 0] : Array Value) = (wcells 0).toArray := rfl
set_option maxHeartbeats 1000000 in
theorem wOf_any (n : Nat) (w : World) (h : n < 18446744073709551616) : Calls Try.prog 21 #[.int .u64 (n : Nat)] w fun e w' => e = .returned (aggN n) ∧ Below w.heap.size w w' := by
  go_enter Try.func21, Try.ntmps21
  go_wp2
  exact bodyPost_ret (v := aggN n) (by rw [aggN, wcells_small n h]; exact results_cell1 Try.results21 _ _ w.heap.size 24 _ (0, 0) _ rfl (heap_alloc_new w _) Try.underlying24 rfl (infoW' 0)) rfl ⟨rfl, (Below.refl _ _).alloc (Nat.le_refl _) _⟩
section
attribute [local go_sem] eqInW guardW zrow
set_option maxHeartbeats 1000000 in
theorem wZero_any (N : Nat) (w : World) (hN : N < 2 ^ 256) : Calls Try.prog 20 #[aggN N] w fun e w' => e = .returned (.bool (N == 0)) ∧ Below w.heap.size w w' := by
  have h0 : 0 < 2 ^ 256 := by decide
  have hE := fun w => eqInW w N 0 hN h0
  have hG := fun w a b => guardW w .eql a b N 0
  go_enter Try.func20, Try.ntmps20
  go_wp2_with (refine wpList_load_row rfl 24 (.tmp 1) rfl w.heap.size rfl 24 (wcells N).toArray (0, 0) _ (heap_alloc_new w _) Try.underlying24 rfl (infoW' _) ?_)
  go_ret
  exact ⟨rfl, (Below.refl _ _).alloc (Nat.le_refl _) _⟩
end
set_option maxHeartbeats 1000000 in
theorem within_any (N k : Nat) (w : World) : Calls Try.prog 34 #[aggN N, .int .u64 (k : Nat)] w fun e w' => e = .returned (.tuple #[aggN (if k = 0 then N else 0), .bool (k == 0)]) ∧ Below w.heap.size w w' := by
  by_cases h : k = 0
  · subst h
    have d : (((0 : Nat) : Int) != 0) = false := rfl
    go_enter Try.func34, Try.ntmps34
    go_wp2_with (first
      | (refine wpList_load_row rfl 24 (.tmp 2) rfl w.heap.size rfl 24 (wcells N).toArray (0, 0) _ (heap_alloc2_old w _ _) Try.underlying24 rfl (infoW' _) ?_)
      | (refine wpList_store_row rfl 24 (.tmp 4) (.tmp 9) rfl (w.heap.size + 1) (wcells N).toArray rfl rfl 24 (wcells 0).toArray (heap_alloc2_new w _ _) (infoW' _) rfl (ones_w _) ?_))
    exact bodyPost_ret (v := .tuple #[aggN N, .bool true]) (results_cell_tmp Try.results34 _ _ (w.heap.size + 1) 24 _ _ _ _ rfl rfl (setRow_heap _ _ _ _ _ _ (heap_alloc2_new w _ _)) Try.underlying24 rfl (infoW' _)) rfl ⟨rfl, below_setRow (((Below.refl _ _).alloc (Nat.le_refl _) _).alloc (by simp) _) (by omega) _⟩
  · have d : ((k : Int) != 0) = true := by simpa using h
    have hk : (k == 0) = false := by simpa using h
    rw [if_neg h, hk]
    go_enter Try.func34, Try.ntmps34
    go_wp2
    exact bodyPost_ret (v := .tuple #[aggN 0, .bool false]) (results_cell_tmp Try.results34 _ _ (w.heap.size + 1) 24 _ (0, 0) _ _ rfl rfl (heap_alloc2_new w _ _) Try.underlying24 rfl (infoW' 0)) rfl ⟨rfl, ((Below.refl _ _).alloc (Nat.le_refl _) _).alloc (by simp) _⟩
set_option maxHeartbeats 1000000 in
theorem wAdd_any (N M : Nat) (w : World) (hN : N < 2 ^ 256) (hM : M < 2 ^ 256) : Calls Try.prog 12 #[aggN N, aggN M] w fun e w' => e = .returned (.tuple #[aggN (addR N M).1, .bool (addR N M).2]) ∧ Below w.heap.size w w' := by
  have HV := Lib.hid (show Ending.returned (.tuple #[aggN (if lcy N M 4 = 0 then N + M else 0), .bool (lcy N M 4 == 0)]) = Ending.returned (.tuple #[aggN (addR N M).1, .bool (addR N M).2]) from by
    rw [lcy_top N M hN hM, addR]
    by_cases h : N + M < 2 ^ 256
    · rw [if_pos h, Nat.div_eq_of_lt h]; rfl
    · have : (N + M) / 2 ^ 256 ≠ 0 := by omega
      rw [if_neg h, if_neg this, show ((N + M) / 2 ^ 256 == 0) = false from by simpa using this])
  go_enter Try.func12, Try.ntmps12
  go_wp2_with fail
  generalize hwa : World.alloc _ _ = wa
  have r0 : wa.heap[w.heap.size]? = some (.cells (wcells N).toArray 24 (0, 0)) := by rw [← hwa]; exact (Below.heap_alloc _ _ _ (by simp <;> omega)).trans (heap_alloc2_old w _ _)
  have r1 : wa.heap[w.heap.size + 1]? = some (.cells (wcells M).toArray 24 (0, 0)) := by rw [← hwa]; exact (Below.heap_alloc _ _ _ (by simp)).trans (heap_alloc2_new w _ _)
  have r2 : wa.heap[w.heap.size + 2]? = some (.cells (wcells 0).toArray 24 (0, 0)) := by rw [← hwa]; exact heap_new_at (by simp)
  have ba : Below w.heap.size w wa := by rw [← hwa]; exact (((Below.refl _ _).alloc (Nat.le_refl _) _).alloc (by simp) _).alloc (by simp <;> omega) _
  have R0 := Lib.hid r0
  have R1 := Lib.hid r1
  have R2 := Lib.hid r2
  clear hwa r0 r1 r2 hN hM
  go_loopw [6, 8] (fun c i wr => ∃ k : Nat, k ≤ 4 ∧ i = .int .i64 k ∧ c = .int .u64 (lcy N M k : Nat) ∧ Hid (wr.heap[w.heap.size]? = some (.cells (mix (wcells (N + M)) (wcells N) k).toArray 24 (0, 0))) ∧ Hid (wr.heap[w.heap.size + 1]? = some (.cells (wcells M).toArray 24 (0, 0))) ∧ Hid (wr.heap[w.heap.size + 2]? = some (.cells (wcells 0).toArray 24 (0, 0))) ∧ Below w.heap.size w wr) (fun _ i _ => 4 - (intOf i).toNat)
  case atStart => exact ⟨0, by omega, rfl, by rw [lcy_zero]; rfl, by rw [mix_zero]; exact R0, R1, R2, ba⟩
  case round =>
    obtain ⟨k, hk, rfl, rfl, Q0, Q1, Q2, hb⟩ := hrel
    by_cases hlt : k < 4
    · have k4 : (k : Int) < 4 := by omega
      have c0 : wr.cell? ⟨w.heap.size, k, none⟩ = some (.int .u64 (limb N k : Nat)) := cell_row Q0.out (by rw [mix_right k (Nat.le_refl _) (by rw [wcells_len]; omega)]; exact wcells_get N k hlt)
      have c1 : wr.cell? ⟨w.heap.size + 1, k, none⟩ = some (.int .u64 (limb M k : Nat)) := cell_row Q1.out (wcells_get M k hlt)
      have e1 := limb_add N M k
      have e2 := lcy_succ N M k
      have hl := lcy_le N M k
      have f0 : wr.frozen? ⟨w.heap.size, k, none⟩ = false := frozen_of_row wr _ _ _ _ Q0.out
      have bx := limb_lt N k
      have bY := limb_lt M k
      have bz := limb_lt (N + M) k
      have HS := Lib.hid (mix_set (wcells_get (N + M) k hlt) (A := wcells (N + M)) (B := wcells N) rfl)
      generalize limb N k = x at *
      generalize limb M k = y at *
      generalize lcy N M k = c at *
      have hcall := fun w => add64N x y c hl w
      rw [← e1, ← e2] at hcall
      clear e1 e2
      obtain ⟨z, hz⟩ : ∃ z, z = limb (N + M) k := ⟨_, rfl⟩
      obtain ⟨d, hd⟩ : ∃ d, d = lcy N M (k + 1) := ⟨_, rfl⟩
      rw [← hz] at hcall bz HS
      rw [← hd] at hcall
      have HD := Lib.hid hd
      clear hz hd
      go_upto_region 5 with (fail)
      go_region
      all_goals
        go_wp2
        go_roundw
        case rel => exact ⟨k + 1, by omega, by go_num, by rw [HD.out], Lib.hid (by rw [← HS.out]; exact set_row Q0.out), Lib.hid ((heap_setCell_other _ _ _ _ (by simp)).trans Q1.out), Lib.hid ((heap_setCell_other _ _ _ _ (by simp)).trans Q2.out), hb.drew.setCell (by simp) _⟩
        case measure => simp [intOf]; omega
    · obtain rfl : k = 4 := by omega
      have q0 := Q0.out
      rw [mix_all (k := 4) rfl rfl] at q0
      obtain ⟨S, hS⟩ : ∃ S, S = N + M := ⟨_, rfl⟩
      rw [← hS] at q0 HV
      clear hS
      have P0 := Lib.hid q0
      clear q0
      go_wp2_with (refine wpList_load_row rfl 24 (.tmp 2) rfl w.heap.size rfl 24 (wcells S).toArray (0, 0) _ P0.out Try.underlying24 rfl (infoW' _) ?_)
      refine (within_any S (lcy N M 4) wr).mono ?_
      rintro e w1 ⟨rfl, g1⟩
      rw [HV.out]
      have R2' := (g1.block _ (row_lt Q2.out)).trans Q2.out
      have b1 := hb.trans (g1.mono hb.size)
      clear g1 hb
      obtain ⟨X, hX⟩ : ∃ X, X = (addR N M).1 := ⟨_, rfl⟩
      obtain ⟨b, hB⟩ : ∃ b, b = (addR N M).2 := ⟨_, rfl⟩
      rw [← hX, ← hB]
      have HX := Lib.hid hX
      have HB := Lib.hid hB
      clear hX hB
      go_wp2_with (refine wpList_store_row rfl 24 (.tmp 4) (.tmp 28) rfl (w.heap.size + 2) (wcells X).toArray rfl rfl 24 (wcells 0).toArray R2' (infoW' _) rfl (ones_w _) ?_)
      exact bodyPost_ret (v := .tuple #[aggN X, .bool b]) (results_cell_tmp Try.results12 _ _ (w.heap.size + 2) 24 _ _ _ _ rfl rfl (setRow_heap _ _ _ _ _ _ R2') Try.underlying24 rfl (infoW' _)) rfl ⟨by rw [HX.out, HB.out], below_setRow b1 (by omega) _⟩
/-- A difference, and what is owed. -/
theorem sub_parts (N M : Nat) (hN : N < 2 ^ 256) (hM : M < 2 ^ 256) : ∃ D c, M + D = N + c * 2 ^ 256 ∧ D < 2 ^ 256 ∧ (M + D) / 2 ^ 256 = c ∧ (if c = 0 then D else 0, c == 0) = subR N M := by
  by_cases h : N < M
  · refine ⟨N + 2 ^ 256 - M, 1, by omega, by omega, by omega, ?_⟩
    rw [subR, if_pos h]; rfl
  · refine ⟨N - M, 0, by omega, by omega, by omega, ?_⟩
    rw [subR, if_neg h]; rfl
set_option maxHeartbeats 1000000 in
theorem wSub_any (N M : Nat) (w : World) (hN : N < 2 ^ 256) (hM : M < 2 ^ 256) : Calls Try.prog 14 #[aggN N, aggN M] w fun e w' => e = .returned (.tuple #[aggN (subR N M).1, .bool (subR N M).2]) ∧ Below w.heap.size w w' := by
  obtain ⟨D, c, hD, hD2, hc, hv⟩ := sub_parts N M hN hM
  have HV := Lib.hid (show Ending.returned (.tuple #[aggN (if lcy M D 4 = 0 then D else 0), .bool (lcy M D 4 == 0)]) = Ending.returned (.tuple #[aggN (subR N M).1, .bool (subR N M).2]) from by
    rw [lcy_top M D hM hD2, hc, ← hv])
  have HD := Lib.hid hD
  clear hD hD2 hc hv hM
  go_enter Try.func14, Try.ntmps14
  go_wp2_with fail
  generalize hwa : World.alloc _ _ = wa
  have r0 : wa.heap[w.heap.size]? = some (.cells (wcells N).toArray 24 (0, 0)) := by rw [← hwa]; exact (Below.heap_alloc _ _ _ (by simp <;> omega)).trans (heap_alloc2_old w _ _)
  have r1 : wa.heap[w.heap.size + 1]? = some (.cells (wcells M).toArray 24 (0, 0)) := by rw [← hwa]; exact (Below.heap_alloc _ _ _ (by simp)).trans (heap_alloc2_new w _ _)
  have r2 : wa.heap[w.heap.size + 2]? = some (.cells (wcells 0).toArray 24 (0, 0)) := by rw [← hwa]; exact heap_new_at (by simp)
  have ba : Below w.heap.size w wa := by rw [← hwa]; exact (((Below.refl _ _).alloc (Nat.le_refl _) _).alloc (by simp) _).alloc (by simp <;> omega) _
  have R0 := Lib.hid r0
  have R1 := Lib.hid r1
  have R2 := Lib.hid r2
  clear hwa r0 r1 r2 hN
  go_loopw [6, 8] (fun c i wr => ∃ k : Nat, k ≤ 4 ∧ i = .int .i64 k ∧ c = .int .u64 (lcy M D k : Nat) ∧ Hid (wr.heap[w.heap.size]? = some (.cells (mix (wcells D) (wcells N) k).toArray 24 (0, 0))) ∧ Hid (wr.heap[w.heap.size + 1]? = some (.cells (wcells M).toArray 24 (0, 0))) ∧ Hid (wr.heap[w.heap.size + 2]? = some (.cells (wcells 0).toArray 24 (0, 0))) ∧ Below w.heap.size w wr) (fun _ i _ => 4 - (intOf i).toNat)
  case atStart => exact ⟨0, by omega, rfl, by rw [lcy_zero]; rfl, by rw [mix_zero]; exact R0, R1, R2, ba⟩
  case round =>
    obtain ⟨k, hk, rfl, rfl, Q0, Q1, Q2, hb⟩ := hrel
    by_cases hlt : k < 4
    · have k4 : (k : Int) < 4 := by omega
      have c0 : wr.cell? ⟨w.heap.size, k, none⟩ = some (.int .u64 (limb N k : Nat)) := cell_row Q0.out (by rw [mix_right k (Nat.le_refl _) (by rw [wcells_len]; omega)]; exact wcells_get N k hlt)
      have c1 : wr.cell? ⟨w.heap.size + 1, k, none⟩ = some (.int .u64 (limb M k : Nat)) := cell_row Q1.out (wcells_get M k hlt)
      have f0 : wr.frozen? ⟨w.heap.size, k, none⟩ = false := frozen_of_row wr _ _ _ _ Q0.out
      obtain ⟨e1, e2⟩ := sub_limb N M D c k HD.out hlt
      have hl := lcy_le M D k
      have bx := limb_lt N k
      have bY := limb_lt M k
      have bz := limb_lt D k
      have HS := Lib.hid (mix_set (wcells_get D k hlt) (A := wcells D) (B := wcells N) rfl)
      generalize limb N k = x at *
      generalize limb M k = y at *
      generalize lcy M D k = b at *
      have hcall := fun w => sub64N x y b hl w
      rw [e1, e2] at hcall
      clear e1 e2
      obtain ⟨z, hz⟩ : ∃ z, z = limb D k := ⟨_, rfl⟩
      obtain ⟨d, hd⟩ : ∃ d, d = lcy M D (k + 1) := ⟨_, rfl⟩
      rw [← hz] at hcall bz HS
      rw [← hd] at hcall
      have HE := Lib.hid hd
      clear hz hd
      go_upto_region 5 with (fail)
      go_region
      all_goals
        go_wp2
        go_roundw
        case rel => exact ⟨k + 1, by omega, by go_num, by rw [HE.out], Lib.hid (by rw [← HS.out]; exact set_row Q0.out), Lib.hid ((heap_setCell_other _ _ _ _ (by simp)).trans Q1.out), Lib.hid ((heap_setCell_other _ _ _ _ (by simp)).trans Q2.out), hb.drew.setCell (by simp) _⟩
        case measure => simp [intOf]; omega
    · obtain rfl : k = 4 := by omega
      have q0 := Q0.out
      rw [mix_all (k := 4) rfl rfl] at q0
      have P0 := Lib.hid q0
      clear q0
      go_wp2_with (refine wpList_load_row rfl 24 (.tmp 2) rfl w.heap.size rfl 24 (wcells D).toArray (0, 0) _ P0.out Try.underlying24 rfl (infoW' _) ?_)
      refine (within_any D (lcy M D 4) wr).mono ?_
      rintro e w1 ⟨rfl, g1⟩
      rw [HV.out]
      have R2' := (g1.block _ (row_lt Q2.out)).trans Q2.out
      have b1 := hb.trans (g1.mono hb.size)
      clear g1 hb
      obtain ⟨X, hX⟩ : ∃ X, X = (subR N M).1 := ⟨_, rfl⟩
      obtain ⟨b, hB⟩ : ∃ b, b = (subR N M).2 := ⟨_, rfl⟩
      rw [← hX, ← hB]
      have HX := Lib.hid hX
      have HB := Lib.hid hB
      clear hX hB
      go_wp2_with (refine wpList_store_row rfl 24 (.tmp 4) (.tmp 28) rfl (w.heap.size + 2) (wcells X).toArray rfl rfl 24 (wcells 0).toArray R2' (infoW' _) rfl (ones_w _) ?_)
      exact bodyPost_ret (v := .tuple #[aggN X, .bool b]) (results_cell_tmp Try.results14 _ _ (w.heap.size + 2) 24 _ _ _ _ rfl rfl (setRow_heap _ _ _ _ _ _ R2') Try.underlying24 rfl (infoW' _)) rfl ⟨by rw [HX.out, HB.out], below_setRow b1 (by omega) _⟩
set_option maxHeartbeats 1000000 in
theorem wTimes_any (N n : Nat) (w : World) (hN : N < 2 ^ 256) (hn : n < 18446744073709551616) : Calls Try.prog 16 #[aggN N, .int .u64 (n : Nat)] w fun e w' => e = .returned (.tuple #[aggN (timesR N n).1, .bool (timesR N n).2]) ∧ Below w.heap.size w w' := by
  have HV := Lib.hid (show Ending.returned (.tuple #[aggN (if mcy N n 4 = 0 then N * n else 0), .bool (mcy N n 4 == 0)]) = Ending.returned (.tuple #[aggN (timesR N n).1, .bool (timesR N n).2]) from by
    rw [mcy_top N n hN, timesR]
    by_cases h : N * n < 2 ^ 256
    · rw [if_pos h, Nat.div_eq_of_lt h]; rfl
    · have : N * n / 2 ^ 256 ≠ 0 := by omega
      rw [if_neg h, if_neg this, show (N * n / 2 ^ 256 == 0) = false from by simpa using this])
  go_enter Try.func16, Try.ntmps16
  go_wp2_with fail
  generalize hwa : World.alloc _ _ = wa
  have r0 : wa.heap[w.heap.size]? = some (.cells (wcells N).toArray 24 (0, 0)) := by rw [← hwa]; exact heap_alloc2_old w _ _
  have r2 : wa.heap[w.heap.size + 1]? = some (.cells (wcells 0).toArray 24 (0, 0)) := by rw [← hwa]; exact heap_alloc2_new w _ _
  have ba : Below w.heap.size w wa := by rw [← hwa]; exact ((Below.refl _ _).alloc (Nat.le_refl _) _).alloc (by simp) _
  have R0 := Lib.hid r0
  have R2 := Lib.hid r2
  clear hwa r0 r2 hN
  go_loopw [6, 8, 9, 10, 11] (fun c _ _ _ i wr => ∃ k : Nat, k ≤ 4 ∧ i = .int .i64 k ∧ c = .int .u64 (mcy N n k : Nat) ∧ Hid (wr.heap[w.heap.size]? = some (.cells (mix (wcells (N * n)) (wcells N) k).toArray 24 (0, 0))) ∧ Hid (wr.heap[w.heap.size + 1]? = some (.cells (wcells 0).toArray 24 (0, 0))) ∧ Below w.heap.size w wr) (fun _ _ _ _ i _ => 4 - (intOf i).toNat)
  case atStart => exact ⟨0, by omega, rfl, by rw [mcy_zero]; rfl, by rw [mix_zero]; exact R0, R2, ba⟩
  case round =>
    obtain ⟨k, hk, rfl, rfl, Q0, Q2, hb⟩ := hrel
    by_cases hlt : k < 4
    · have k4 : (k : Int) < 4 := by omega
      have c0 : wr.cell? ⟨w.heap.size, k, none⟩ = some (.int .u64 (limb N k : Nat)) := cell_row Q0.out (by rw [mix_right k (Nat.le_refl _) (by rw [wcells_len]; omega)]; exact wcells_get N k hlt)
      have f0 : wr.frozen? ⟨w.heap.size, k, none⟩ = false := frozen_of_row wr _ _ _ _ Q0.out
      have e1 := limb_mul N n k
      have e2 := mcy_succ N n k
      have bx := limb_lt N k
      have bc := mcy_le N n k
      have HS := Lib.hid (mix_set (wcells_get (N * n) k hlt) (A := wcells (N * n)) (B := wcells N) rfl)
      have bz := limb_lt (N * n) k
      have bd := mcy_le N n (k + 1)
      generalize limb N k = x at *
      generalize mcy N n k = c at *
      obtain ⟨z, hz⟩ : ∃ z, z = limb (N * n) k := ⟨_, rfl⟩
      obtain ⟨d, hd⟩ : ∃ d, d = mcy N n (k + 1) := ⟨_, rfl⟩
      rw [← hz] at HS bz e1
      rw [← hd] at e2 bd
      have HD := Lib.hid hd
      clear hz hd
      have hm := fun w => mul64N x n bx hn w
      obtain ⟨hi, hhi⟩ : ∃ a, a = x * n / 18446744073709551616 := ⟨_, rfl⟩
      obtain ⟨lo, hlo⟩ : ∃ a, a = x * n % 18446744073709551616 := ⟨_, rfl⟩
      have ep : x * n = hi * 18446744073709551616 + lo := by omega
      rw [ep] at e1 e2
      have lb : lo < 18446744073709551616 := by omega
      rw [← hhi, ← hlo] at hm
      clear hhi hlo ep
      have e3 : (lo + c + 0) % 18446744073709551616 = z := by omega
      obtain ⟨g, hg⟩ : ∃ g, g = (lo + c + 0) / 18446744073709551616 := ⟨_, rfl⟩
      have e4 : hi + g = d := by omega
      have e5 : (hi : Int) + g = (d : Int) := by omega
      have hb1 : hi ≤ 18446744073709551615 := by omega
      have hb2 : hi + g ≤ 18446744073709551615 := by omega
      have ha : ∀ w, (callFunc 33 #[.int .u64 (lo : Nat), .int .u64 (c : Nat), .int .u64 0]).run Try.prog w = .ok (.value (.tuple #[.int .u64 (z : Nat), .int .u64 (g : Nat)])) w := fun w => by rw [← e3, hg]; exact add64N lo c 0 (by omega) w
      clear e1 e2 e3 e4 hg
      go_wp2_with (first
        | (refine (hm _).mono ?_; rintro e w1 ⟨rfl, rfl⟩)
        | simp only [ha])
      go_roundw
      case rel => exact ⟨k + 1, by omega, by go_num, by rw [HD.out], Lib.hid (by rw [← HS.out]; exact set_row Q0.out), Lib.hid ((heap_setCell_other _ _ _ _ (by simp)).trans Q2.out), hb.setCell (by simp) _⟩
      case measure => simp [intOf]; omega
    · obtain rfl : k = 4 := by omega
      have q0 := Q0.out
      rw [mix_all (k := 4) rfl rfl] at q0
      obtain ⟨S, hS⟩ : ∃ S, S = N * n := ⟨_, rfl⟩
      rw [← hS] at q0 HV
      clear hS
      have P0 := Lib.hid q0
      clear q0
      go_wp2_with (refine wpList_load_row rfl 24 (.tmp 2) rfl w.heap.size rfl 24 (wcells S).toArray (0, 0) _ P0.out Try.underlying24 rfl (infoW' _) ?_)
      refine (within_any S (mcy N n 4) wr).mono ?_
      rintro e w1 ⟨rfl, g1⟩
      rw [HV.out]
      have R2' := (g1.block _ (row_lt Q2.out)).trans Q2.out
      have b1 := hb.trans (g1.mono hb.size)
      clear g1 hb
      obtain ⟨X, hX⟩ : ∃ X, X = (timesR N n).1 := ⟨_, rfl⟩
      obtain ⟨b, hB⟩ : ∃ b, b = (timesR N n).2 := ⟨_, rfl⟩
      rw [← hX, ← hB]
      have HX := Lib.hid hX
      have HB := Lib.hid hB
      clear hX hB
      go_wp2_with (refine wpList_store_row rfl 24 (.tmp 4) (.tmp 37) rfl (w.heap.size + 1) (wcells X).toArray rfl rfl 24 (wcells 0).toArray R2' (infoW' _) rfl (ones_w _) ?_)
      exact bodyPost_ret (v := .tuple #[aggN X, .bool b]) (results_cell_tmp Try.results16 _ _ (w.heap.size + 1) 24 _ _ _ _ rfl rfl (setRow_heap _ _ _ _ _ _ R2') Try.underlying24 rfl (infoW' _)) rfl ⟨by rw [HX.out, HB.out], below_setRow b1 (by omega) _⟩
def partR (N n : Nat) : Nat × Nat := if n = 0 then (0, 0) else (N / n, N % n)
set_option maxHeartbeats 1000000 in
theorem wPart_any (N n : Nat) (w : World) (hN : N < 2 ^ 256) (hn : n < 18446744073709551616) : Calls Try.prog 30 #[aggN N, .int .u64 (n : Nat)] w fun e w' => e = .returned (.tuple #[aggN (partR N n).1, .int .u64 ((partR N n).2 : Nat)]) ∧ Below w.heap.size w w' := by
  by_cases h0 : n = 0
  · have d : ((n : Int) == 0) = true := by simpa using h0
    have HV := Lib.hid (show partR N n = (0, 0) from if_pos h0)
    rw [HV.out]
    clear h0
    go_enter Try.func30, Try.ntmps30
    go_wp2
    exact bodyPost_ret (v := .tuple #[aggN 0, .int .u64 ((0 : Nat) : Int)]) (results_cell_tmp Try.results30 _ _ (w.heap.size + 1) 24 _ (0, 0) _ _ rfl rfl (heap_alloc2_new w _ _) Try.underlying24 rfl (infoW' 0)) rfl ⟨rfl, ((Below.refl _ _).alloc (Nat.le_refl _) _).alloc (by simp) _⟩
  have d : ((n : Int) == 0) = false := by simpa using h0
  have HV := Lib.hid (show partR N n = (N / n, N % n) from if_neg h0)
  have hn0 : 0 < n := by omega
  have HP := fun k => Lib.hid (part_limb N n k hn0)
  have HT := Lib.hid (show N / 2 ^ (64 * (4 - 0)) % n = 0 from by rw [show 2 ^ (64 * (4 - 0)) = 2 ^ 256 from rfl, Nat.div_eq_of_lt hN, Nat.zero_mod])
  have HM := fun k => Lib.hid (Nat.mod_lt (N / 2 ^ (64 * k)) hn0)
  obtain ⟨S, hS⟩ : ∃ S, S = N / n := ⟨_, rfl⟩
  rw [← hS] at HV HP
  rw [HV.out]
  obtain ⟨rr, hrr⟩ : ∃ r, r = N % n := ⟨_, rfl⟩
  rw [← hrr]
  have HRR := Lib.hid hrr
  clear hS HV h0 hrr
  go_enter Try.func30, Try.ntmps30
  go_wp2_with fail
  generalize hwa : World.alloc _ _ = wa
  have r0 : wa.heap[w.heap.size]? = some (.cells (wcells N).toArray 24 (0, 0)) := by rw [← hwa]; exact heap_alloc2_old w _ _
  have r2 : wa.heap[w.heap.size + 1]? = some (.cells (wcells 0).toArray 24 (0, 0)) := by rw [← hwa]; exact heap_alloc2_new w _ _
  have ba : Below w.heap.size w wa := by rw [← hwa]; exact ((Below.refl _ _).alloc (Nat.le_refl _) _).alloc (by simp) _
  have R0 := Lib.hid r0
  have R2 := Lib.hid r2
  clear hwa r0 r2 hN
  go_loopw [6, 7, 8, 12] (fun c _ _ i wr => ∃ k : Nat, k ≤ 4 ∧ i = .int .i64 k ∧ c = .int .u64 ((N / 2 ^ (64 * (4 - k)) % n : Nat) : Int) ∧ Hid (wr.heap[w.heap.size]? = some (.cells (mix (wcells N) (wcells S) (4 - k)).toArray 24 (0, 0))) ∧ Hid (wr.heap[w.heap.size + 1]? = some (.cells (wcells 0).toArray 24 (0, 0))) ∧ Below w.heap.size w wr) (fun _ _ _ i _ => 4 - (intOf i).toNat)
  case atStart => exact ⟨0, by omega, rfl, by rw [HT.out]; rfl, by rw [show 4 - 0 = 4 from rfl, mix_all (k := 4) rfl rfl]; exact R0, R2, ba⟩
  case round =>
    obtain ⟨k, hk, rfl, rfl, Q0, Q2, hb⟩ := hrel
    by_cases hlt : k < 4
    · obtain ⟨j, hj⟩ : ∃ j, j + k = 3 := ⟨3 - k, by omega⟩
      have e4 : 4 - k = j + 1 := by omega
      have e5 : 4 - (k + 1) = j := by omega
      have hj4 : j < 4 := by omega
      rw [e4] at Q0
      rw [e4]
      have ej : (3 : Int) - (k : Int) = (j : Int) := by omega
      have k4 : (k : Int) < 4 := by omega
      have j4 : (j : Int) < 4 := by omega
      have c0 : wr.cell? ⟨w.heap.size, j, none⟩ = some (.int .u64 (limb N j : Nat)) := cell_row Q0.out (by rw [mix_left j (by omega) (by rw [wcells_len]; omega)]; exact wcells_get N j hj4)
      have f0 : wr.frozen? ⟨w.heap.size, j, none⟩ = false := frozen_of_row wr _ _ _ _ Q0.out
      have HS := Lib.hid (mix_back (wcells_get S j hj4) (A := wcells N) (B := wcells S) rfl)
      have bx := limb_lt N j
      have bz := limb_lt S j
      obtain ⟨e1, e2⟩ := (HP j).out
      have hm := (HM (j + 1)).out
      obtain ⟨r, hr⟩ : ∃ r, r = N / 2 ^ (64 * (j + 1)) % n := ⟨_, rfl⟩
      rw [← hr] at e1 e2 hm
      rw [← hr]
      generalize limb N j = x at *
      have hc := fun w => div64_any r x n w hm bx hn
      obtain ⟨z, hz⟩ : ∃ z, z = limb S j := ⟨_, rfl⟩
      obtain ⟨q, hq⟩ : ∃ q, q = N / 2 ^ (64 * j) % n := ⟨_, rfl⟩
      rw [← hz] at e1 HS bz
      rw [← hq] at e2
      rw [e1, e2] at hc
      have HQ := Lib.hid hq
      have E5 := Lib.hid e5
      clear e1 e2 hr hz hq e4 e5 hj
      go_upto_region 8 with (fail)
      clear ej
      go_wp2_with fail
      refine (hc _).mono ?_
      rintro e w1 ⟨rfl, g1⟩
      have Q0' := Lib.hid ((g1.block _ (row_lt Q0.out)).trans Q0.out)
      have Q2' := Lib.hid ((g1.block _ (row_lt Q2.out)).trans Q2.out)
      have b1 := hb.trans (g1.mono hb.size)
      have c1 : w1.cell? ⟨w.heap.size, j, none⟩ = some (.int .u64 (x : Nat)) := (g1.cell (p := ⟨w.heap.size, j, none⟩) (row_lt Q0.out)).trans c0
      have f1 : w1.frozen? ⟨w.heap.size, j, none⟩ = false := frozen_of_row w1 _ _ _ _ Q0'.out
      clear g1 c0 f0 Q0 Q2 hb hc
      go_wp2
      go_roundw
      case rel => exact ⟨k + 1, by omega, by go_num, by rw [E5.out, ← HQ.out], Lib.hid (by rw [E5.out, ← HS.out]; exact set_row Q0'.out), Lib.hid ((heap_setCell_other _ _ _ _ (by simp)).trans Q2'.out), b1.setCell (by simp) _⟩
      case measure => simp [intOf]; omega
    · obtain rfl : k = 4 := by omega
      have q0 := Q0.out
      rw [show 4 - 4 = 0 from rfl, mix_zero] at q0
      have P0 := Lib.hid q0
      clear q0
      obtain ⟨q, hq⟩ : ∃ q, q = N / 2 ^ (64 * (4 - 4)) % n := ⟨_, rfl⟩
      rw [← hq]
      have HQ := Lib.hid (hq.trans (show _ = N % n from by simp))
      clear hq
      go_wp2_with (first
        | (refine wpList_load_row rfl 24 (.tmp 2) rfl w.heap.size rfl 24 (wcells S).toArray (0, 0) _ P0.out Try.underlying24 rfl (infoW' _) ?_)
        | (refine wpList_store_row rfl 24 (.tmp 4) (.tmp 29) rfl (w.heap.size + 1) (wcells S).toArray rfl rfl 24 (wcells 0).toArray Q2.out (infoW' _) rfl (ones_w _) ?_))
      exact bodyPost_ret (v := .tuple #[aggN S, .int .u64 (q : Nat)]) (results_cell_tmp Try.results30 _ _ (w.heap.size + 1) 24 _ _ _ _ rfl rfl (setRow_heap _ _ _ _ _ _ Q2.out) Try.underlying24 rfl (infoW' _)) rfl ⟨by rw [HQ.out, HRR.out], below_setRow hb (by omega) _⟩
end Go.Proofs.Ytppgpdckaaabeaa
