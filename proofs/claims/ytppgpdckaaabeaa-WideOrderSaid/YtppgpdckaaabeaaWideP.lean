/- The program's numbers: what Most, Compare, Sum, Bytes, FromBytes, Text and FromText tell. -/
import Derived.Test.YtppgpdckaaabeaaRows
import Derived.WalkKit
import Derived.Below
import Derived.ProofKit
import Derived.OpenShut
import Derived.ShutString
import Derived.ChangeOld
import Derived.Outline
import Derived.RegionTactic
import Derived.ChangeAlike
import Derived.BigRegion
import Derived.BigQuiet
import Derived.Deep.QuietTactic
import Derived.Deep.RegionWith
import Derived.Deep.RegionLaw
import Derived.Deep.RegionHeld3
import Derived.Deep.AppendLies
import Derived.Deep.Draws
import Derived.StillTailTactics
import Derived.Lib.Hide
import Derived.Lib.SmallJoins
import Derived.Handy
import Derived.WalkSpells
import Derived.WalkLawsBesides
import Derived.Deep.LoopGhost
import Derived.Deep.DeepCutAuto
import Derived.Deep.CutBlock
import Derived.Deep.CutRange
import Derived.Test.YtppgpdckaaabeaaWideN
namespace Go.Proofs.Ytppgpdckaaabeaa
open Go.RowKit
set_option linter.unusedSimpArgs false
set_option linter.unusedVariables false
set_option linter.unnecessarySimpa false
theorem most_limb (k : Nat) (hk : k < 4) : limb (2 ^ 256 - 1) k = 18446744073709551615 := by
  obtain rfl | rfl | rfl | rfl : k = 0 ∨ k = 1 ∨ k = 2 ∨ k = 3 := by omega
  all_goals decide
set_option maxHeartbeats 1000000 in
theorem wMost_any (w : World) : Calls Try.prog 32 #[] w fun e w' => e = .returned (aggN (2 ^ 256 - 1)) ∧ Below w.heap.size w w' := by
  obtain ⟨S, hS⟩ : ∃ S, S = 2 ^ 256 - 1 := ⟨_, rfl⟩
  have HL := fun k hk => Lib.hid (most_limb k hk)
  rw [← hS] at HL
  rw [← hS]
  clear hS
  go_enter Try.func32, Try.ntmps32
  go_wp2
  generalize hwa : World.alloc _ _ = wa
  have r0 : wa.heap[w.heap.size]? = some (.cells (wcells 0).toArray 24 (0, 0)) := by rw [← hwa]; exact heap_alloc2_old w _ _
  have r2 : wa.heap[w.heap.size + 1]? = some (.cells (wcells 0).toArray 24 (0, 0)) := by rw [← hwa]; exact heap_alloc2_new w _ _
  have ba : Below w.heap.size w wa := by rw [← hwa]; exact ((Below.refl _ _).alloc (Nat.le_refl _) _).alloc (by simp) _
  have R0 := Lib.hid r0
  have R2 := Lib.hid r2
  clear hwa r0 r2
  go_loopw [2, 3] (fun _ i wr => ∃ k : Nat, k ≤ 4 ∧ i = .int .i64 k ∧ Hid (wr.heap[w.heap.size + 1]? = some (.cells (mix (wcells S) (wcells 0) k).toArray 24 (0, 0))) ∧ Hid (wr.heap[w.heap.size]? = some (.cells (wcells 0).toArray 24 (0, 0))) ∧ Below w.heap.size w wr) (fun _ i _ => 4 - (intOf i).toNat)
  case atStart => exact ⟨0, by omega, rfl, by rw [mix_zero]; exact R2, R0, ba⟩
  case round =>
    obtain ⟨k, hk, rfl, Q0, Q2, hb⟩ := hrel
    by_cases hlt : k < 4
    · have k4 : (k : Int) < 4 := by omega
      have c0 : wr.cell? ⟨w.heap.size + 1, k, none⟩ = some (.int .u64 (limb 0 k : Nat)) := cell_row Q0.out (by rw [mix_right k (Nat.le_refl _) (by rw [wcells_len]; omega)]; exact wcells_get 0 k hlt)
      have f0 : wr.frozen? ⟨w.heap.size + 1, k, none⟩ = false := frozen_of_row wr _ _ _ _ Q0.out
      have HS := Lib.hid (mix_set (wcells_get S k hlt) (A := wcells S) (B := wcells 0) rfl)
      have HZ := HL k hlt
      go_wp2
      go_roundw
      case rel => exact ⟨k + 1, by omega, by go_num, Lib.hid (by rw [← HS.out, HZ.out]; exact set_row Q0.out), Lib.hid ((heap_setCell_other _ _ _ _ (by simp)).trans Q2.out), hb.setCell (by simp) _⟩
      case measure => simp [intOf]; omega
    · obtain rfl : k = 4 := by omega
      have q0 := Q0.out
      rw [mix_all (k := 4) rfl rfl] at q0
      have P0 := Lib.hid q0
      clear q0
      go_wp2_with (first
        | (refine wpList_load_row rfl 24 (.tmp 1) rfl (w.heap.size + 1) rfl 24 (wcells S).toArray (0, 0) _ P0.out Try.underlying24 rfl (infoW' _) ?_)
        | (refine wpList_store_row rfl 24 (.tmp 0) (.tmp 9) rfl w.heap.size (wcells S).toArray rfl rfl 24 (wcells 0).toArray Q2.out (infoW' _) rfl (ones_w _) ?_))
      exact bodyPost_ret (v := aggN S) (results_cell1 Try.results32 _ _ w.heap.size 24 _ _ _ rfl (setRow_heap _ _ _ _ _ _ Q2.out) Try.underlying24 rfl (infoW' _)) rfl ⟨rfl, below_setRow hb (by omega) _⟩
theorem div_lt64 {N M k : Nat} (h : N / 2 ^ (64 * k) < M / 2 ^ (64 * k)) : N < M := by
  rcases Nat.lt_or_ge N M with h1 | h1
  · exact h1
  · have := Nat.div_le_div_right (c := 2 ^ (64 * k)) h1
    omega
section
attribute [local go_sem] guardW
set_option maxHeartbeats 2000000 in
theorem wCompare_any (N M : Nat) (w : World) (hN : N < 2 ^ 256) (hM : M < 2 ^ 256) : Calls Try.prog 18 #[aggN N, aggN M] w fun e w' => e = .returned (.int .i64 (cmpN N M)) ∧ Below w.heap.size w w' := by
  have hE := fun w => eqInW w N M hN hM
  have hG := fun w a b => guardW w .eql a b N M
  by_cases heq : N = M
  · have hd : (N == M) = true := by simpa using heq
    have HZ := Lib.hid (show cmpN N M = 0 from by rw [heq]; simp [cmpN])
    rw [HZ.out]
    rw [hd] at hE
    clear heq hd hN hM
    go_enter Try.func18, Try.ntmps18
    go_wp2
    go_step3
    go_wp2_with (first
      | (refine wpList_load_row rfl 24 (.tmp 2) rfl w.heap.size rfl 24 (wcells N).toArray (0, 0) _ (heap_alloc2_old w _ _) Try.underlying24 rfl (infoW' _) ?_)
      | (refine wpList_load_row rfl 24 (.tmp 3) rfl (w.heap.size + 1) rfl 24 (wcells M).toArray (0, 0) _ (heap_alloc2_new w _ _) Try.underlying24 rfl (infoW' _) ?_))
    try rw [Exit.noGoto_ret]
    go_ret
    exact ⟨rfl, ((Below.refl _ _).alloc (Nat.le_refl _) _).alloc (by simp) _⟩
  have hd : (N == M) = false := by simpa using heq
  rw [hd] at hE
  have HT := Lib.hid (show N / 2 ^ (64 * (4 - 0)) = M / 2 ^ (64 * (4 - 0)) from by rw [show 2 ^ (64 * (4 - 0)) = 2 ^ 256 from rfl, Nat.div_eq_of_lt hN, Nat.div_eq_of_lt hM])
  have HNE := Lib.hid heq
  clear heq hd hN hM
  obtain ⟨R, hR⟩ : ∃ R, R = cmpN N M := ⟨_, rfl⟩
  rw [← hR]
  have HR := Lib.hid hR
  clear hR
  go_enter Try.func18, Try.ntmps18
  go_wp2
  go_step3
  go_wp2_with (first
    | (refine wpList_load_row rfl 24 (.tmp 2) rfl w.heap.size rfl 24 (wcells N).toArray (0, 0) _ (heap_alloc2_old w _ _) Try.underlying24 rfl (infoW' _) ?_)
    | (refine wpList_load_row rfl 24 (.tmp 3) rfl (w.heap.size + 1) rfl 24 (wcells M).toArray (0, 0) _ (heap_alloc2_new w _ _) Try.underlying24 rfl (infoW' _) ?_))
  go_step3
  generalize hwa : World.alloc _ _ = wa
  have r0 : wa.heap[w.heap.size]? = some (.cells (wcells N).toArray 24 (0, 0)) := by rw [← hwa]; exact heap_alloc2_old w _ _
  have r1 : wa.heap[w.heap.size + 1]? = some (.cells (wcells M).toArray 24 (0, 0)) := by rw [← hwa]; exact heap_alloc2_new w _ _
  have ba : Below w.heap.size w wa := by rw [← hwa]; exact ((Below.refl _ _).alloc (Nat.le_refl _) _).alloc (by simp) _
  have R0 := Lib.hid r0
  have R1 := Lib.hid r1
  clear hwa r0 r1 hE hG
  go_wp2
  go_loopw [5, 11] (fun o i wr => ∃ k : Nat, k ≤ 4 ∧ i = .int .i64 k ∧ o = .int .i64 0 ∧ Hid (N / 2 ^ (64 * (4 - k)) = M / 2 ^ (64 * (4 - k))) ∧ Below wa.heap.size wa wr) (fun _ i _ => 4 - (intOf i).toNat)
  case atStart => exact ⟨0, by omega, rfl, rfl, HT, Below.refl _ _⟩
  case round =>
    obtain ⟨k, hk, rfl, rfl, HE, hb⟩ := hrel
    by_cases hlt : k < 4
    · obtain ⟨j, hj⟩ : ∃ j, j + k = 3 := ⟨3 - k, by omega⟩
      have hj4 : j < 4 := by omega
      have e4 : 4 - k = j + 1 := by omega
      have e5 : 4 - (k + 1) = j := by omega
      rw [e4] at HE
      have E5 := Lib.hid e5
      have ej : (3 : Int) - (k : Int) = (j : Int) := by omega
      have k4 : (k : Int) < 4 := by omega
      have j4 : (j : Int) < 4 := by omega
      have c0 : wr.cell? ⟨w.heap.size, j, none⟩ = some (.int .u64 (limb N j : Nat)) := (hb.cell (p := ⟨w.heap.size, j, none⟩) (row_lt R0.out)).trans (cell_row R0.out (wcells_get N j hj4))
      have c1 : wr.cell? ⟨w.heap.size + 1, j, none⟩ = some (.int .u64 (limb M j : Nat)) := (hb.cell (p := ⟨w.heap.size + 1, j, none⟩) (row_lt R1.out)).trans (cell_row R1.out (wcells_get M j hj4))
      have e1 := limb_div N j
      have e2 := limb_div M j
      rw [HE.out] at e1
      clear e4 e5 hj
      rcases Nat.lt_trichotomy (limb N j) (limb M j) with h | h | h
      · have hr : R = -1 := by
          have : N < M := div_lt64 (k := j) (by omega)
          rw [HR.out]; simp [cmpN, this]
        have HZ := Lib.hid hr
        clear hr e1 e2
        generalize limb N j = x at *
        generalize limb M j = y at *
        have hdec : decide (x < y) = true := by simpa using h
        go_upto_region 8 with (fail)
        clear ej
        go_region
        go_wp2
        try rw [Exit.noGoto_ret]
        go_ret
        exact ⟨by rw [HZ.out]; rfl, ba.trans (hb.drew.mono ba.size)⟩
      · have hd2 := Lib.hid (show N / 2 ^ (64 * j) = M / 2 ^ (64 * j) from by rw [e1, e2, h])
        clear e1 e2
        rw [h] at c0
        generalize limb M j = y at c0 c1
        have hdec : decide (y < y) = false := by simp
        clear h
        go_upto_region 8 with (fail)
        clear ej
        go_region
        go_wp2
        go_region
        go_wp2
        go_roundw
        case rel => exact ⟨k + 1, by omega, by go_num, rfl, by rw [E5.out]; exact hd2, hb.drew.drew⟩
        case measure => simp [intOf]; omega
      · have hr : R = 1 := by
          have : M < N := div_lt64 (k := j) (by omega)
          rw [HR.out]; simp [cmpN, this, Nat.not_lt.2 (Nat.le_of_lt this)]
        have HZ := Lib.hid hr
        clear hr e1 e2
        generalize limb N j = x at *
        generalize limb M j = y at *
        have hdec : decide (x < y) = false := by simp; omega
        have hdec2 : decide (y < x) = true := by simpa using h
        go_upto_region 8 with (fail)
        clear ej
        go_region
        go_wp2
        go_region
        go_wp2
        try rw [Exit.noGoto_ret]
        go_ret
        exact ⟨by rw [HZ.out]; rfl, ba.trans (hb.drew.drew.mono ba.size)⟩
    · obtain rfl : k = 4 := by omega
      exact absurd (by have := HE.out; simpa using this) HNE.out
end
def sumR (l : List Nat) : Nat × Bool := l.foldl (fun a N => if a.2 then addR a.1 N else a) (0, true)
theorem sumR_snoc (l : List Nat) (N : Nat) : sumR (l ++ [N]) = if (sumR l).2 then addR (sumR l).1 N else sumR l := by rw [sumR, List.foldl_append]; rfl
theorem sumR_dead (m : List Nat) (a : Nat × Bool) (h : a.2 = false) : m.foldl (fun a N => if a.2 then addR a.1 N else a) a = a := by
  induction m with
  | nil => rfl
  | cons N m ih => rw [List.foldl_cons, if_neg (by simp [h])]; exact ih
theorem sumR_over (ls : List Nat) (k : Nat) (h : (sumR (ls.take k)).2 = false) : sumR ls = sumR (ls.take k) := by
  have e : sumR ls = (ls.drop k).foldl (fun a N => if a.2 then addR a.1 N else a) (sumR (ls.take k)) := by
    conv => lhs; rw [← List.take_append_drop k ls]
    rw [sumR, List.foldl_append]; rfl
  rw [e, sumR_dead _ _ h]
theorem sumR_lt (l : List Nat) : (sumR l).1 < 2 ^ 256 := by
  suffices h : ∀ (l : List Nat) (a : Nat × Bool), a.1 < 2 ^ 256 → (l.foldl (fun a N => if a.2 then addR a.1 N else a) a).1 < 2 ^ 256 from h l (0, true) (by decide)
  intro l
  induction l with
  | nil => exact fun a h => h
  | cons N l ih =>
    intro a h
    rw [List.foldl_cons]
    refine ih _ ?_
    split
    · exact addR_lt _ _
    · exact h
set_option maxHeartbeats 2000000 in
theorem wSum_any (a : Option Addr) (n c : Nat) (ls : List Nat) (w : World) (h : WidesAt w w.heap.size a n ls) (hn : (n : Int) ≤ 140737488351232) : Calls Try.prog 31 #[.slice a n c] w fun e w' => e = .returned (.tuple #[aggN (sumR ls).1, .bool (sumR ls).2]) ∧ Below w.heap.size w w' := by
  have HL := Lib.hid h.1
  have HA := Lib.hid h
  clear h
  obtain ⟨R, hR⟩ : ∃ R, R = sumR ls := ⟨_, rfl⟩
  rw [← hR]
  obtain ⟨X, hX⟩ : ∃ X, X = R.1 := ⟨_, rfl⟩
  obtain ⟨q, hq⟩ : ∃ q, q = R.2 := ⟨_, rfl⟩
  rw [← hX, ← hq]
  have HX := Lib.hid hX
  have Hq := Lib.hid hq
  have HR := Lib.hid hR
  clear hX hq hR
  go_enter Try.func31, Try.ntmps31
  go_wp2
  generalize hwa : World.alloc _ _ = wa
  have r2 : wa.heap[w.heap.size]? = some (.cells (wcells 0).toArray 24 (0, 0)) := by rw [← hwa]; exact heap_alloc2_old w _ _
  have r4 : wa.heap[w.heap.size + 1]? = some (.cells (wcells 0).toArray 24 (0, 0)) := by rw [← hwa]; exact heap_alloc2_new w _ _
  have ba : Below w.heap.size w wa := by rw [← hwa]; exact ((Below.refl _ _).alloc (Nat.le_refl _) _).alloc (by simp) _
  have za : wa.heap.size = w.heap.size + 2 := by rw [← hwa]; simp
  have R2 := Lib.hid r2
  have R4 := Lib.hid r4
  clear hwa r2 r4
  go_loopw [6, 7, 8, 11] (fun _ _ _ i wr => ∃ k : Nat, k ≤ n ∧ i = .int .i64 k ∧ Hid ((sumR (ls.take k)).2 = true) ∧ Hid (wr.heap[w.heap.size + 1]? = some (.cells (wcells (sumR (ls.take k)).1).toArray 24 (0, 0))) ∧ Hid (wr.heap[w.heap.size]? = some (.cells (wcells 0).toArray 24 (0, 0))) ∧ Below w.heap.size w wr ∧ w.heap.size + 2 ≤ wr.heap.size) (fun _ _ _ i _ => n - (intOf i).toNat)
  case atStart => exact ⟨0, by omega, rfl, Lib.hid rfl, R4, R2, ba, by omega⟩
  case round =>
    obtain ⟨k, hk, rfl, HT, Q4, Q2, hb, hz⟩ := hrel
    by_cases hlt : k < n
    · have hkn : (k : Int) < n := by omega
      obtain ⟨b, off, rfl, hbl, hc⟩ := HA.out.2.1 (by omega)
      obtain ⟨N, hN⟩ : ∃ N, ls[k]? = some N := ⟨_, List.getElem?_eq_getElem (by rw [HL.out]; exact hlt)⟩
      have hcN := hc k N hN
      have hrow : wr.rangeAt b (off + k * 4) (wcells N) := fun j v hj => (hb.cell (p := ⟨b, _, none⟩) hbl).trans (hcN j v hj)
      have HN := Lib.hid (HA.out.2.2 N (List.mem_of_getElem? hN))
      have hs := sumR_snoc (ls.take k) N
      rw [← show ls.take (k + 1) = ls.take k ++ [N] from by rw [List.take_add_one, hN]; rfl, if_pos HT.out] at hs
      have HROW := Lib.hid hrow
      clear hc hcN hrow hN
      have hS := HT.out
      obtain ⟨S, eS⟩ : ∃ S, S = (sumR (ls.take k)).1 := ⟨_, rfl⟩
      rw [← eS] at hs Q4
      have HS := Lib.hid (show S < 2 ^ 256 from by rw [eS]; exact sumR_lt _)
      obtain ⟨T, q', hT⟩ : ∃ T q', addR S N = (T, q') := ⟨_, _, rfl⟩
      rw [hT] at hs
      have HS2 := Lib.hid hs
      have HTT := Lib.hid hT
      clear hs hS eS hT
      go_upto_region 5 with (first
        | (refine wpList_load_mid rfl 24 (.tmp 13) rfl b (off + k * 4) rfl (wcells N) _ HROW.out Try.underlying24 rfl infoW ?_)
        | (refine wpList_store_row rfl 24 (.tmp 6) (.tmp 14) rfl wr.heap.size (wcells N).toArray rfl rfl 24 (wcells 0).toArray (heap_alloc_new wr _) (infoW' _) rfl (ones_w _) ?_))
      generalize hwb : World.setRow _ _ _ = wb
      have p6 : wb.heap[wr.heap.size]? = some (.cells (wcells N).toArray 24 (0, 0)) := by rw [← hwb]; exact setRow_heap _ _ _ _ _ _ (heap_alloc_new wr _)
      have bb : Below wr.heap.size wr wb := by rw [← hwb]; exact below_setRow ((Below.refl _ _).alloc (Nat.le_refl _) _) (Nat.le_refl _) _
      clear hwb
      have p4 := (bb.block _ (row_lt Q4.out)).trans Q4.out
      have p2 := (bb.block _ (row_lt Q2.out)).trans Q2.out
      have hb1 := hb.trans (bb.mono hb.size)
      have hz1 : w.heap.size + 2 ≤ wb.heap.size := Nat.le_trans hz bb.size
      have P2 := Lib.hid p2
      clear bb hb hz p2
      go_wp2_with (first
        | (refine wpList_load_row rfl 24 (.tmp 4) rfl (w.heap.size + 1) rfl 24 (wcells S).toArray (0, 0) _ p4 Try.underlying24 rfl (infoW' _) ?_)
        | (refine wpList_load_row rfl 24 (.tmp 6) rfl wr.heap.size rfl 24 (wcells N).toArray (0, 0) _ p6 Try.underlying24 rfl (infoW' _) ?_))
      refine (wAdd_any S N wb HS.out HN.out).mono ?_
      rw [HTT.out]
      rintro e w1 ⟨rfl, g1⟩
      have P4 := Lib.hid ((g1.block _ (row_lt p4)).trans p4)
      have P2' := Lib.hid ((g1.block _ (row_lt P2.out)).trans P2.out)
      have hb2 := hb1.trans (g1.mono hb1.size)
      have hz2 : w.heap.size + 2 ≤ w1.heap.size := Nat.le_trans hz1 g1.size
      clear g1 p4 p6 P2 hb1 hz1
      go_upto_region 6 with (refine wpList_store_row rfl 24 (.tmp 7) (.tmp 19) rfl w1.heap.size (wcells T).toArray rfl rfl 24 (wcells 0).toArray (heap_alloc_new w1 _) (infoW' _) rfl (ones_w _) ?_)
      generalize hwb : World.setRow _ _ _ = wb2
      have p7 : wb2.heap[w1.heap.size]? = some (.cells (wcells T).toArray 24 (0, 0)) := by rw [← hwb]; exact setRow_heap _ _ _ _ _ _ (heap_alloc_new w1 _)
      have bb : Below w1.heap.size w1 wb2 := by rw [← hwb]; exact below_setRow ((Below.refl _ _).alloc (Nat.le_refl _) _) (Nat.le_refl _) _
      clear hwb
      have P7 := Lib.hid p7
      have P4' := Lib.hid ((bb.block _ (row_lt P4.out)).trans P4.out)
      have P2'' := Lib.hid ((bb.block _ (row_lt P2'.out)).trans P2'.out)
      have hb3 := hb2.trans (bb.mono hb2.size)
      have hz3 : w.heap.size + 2 ≤ wb2.heap.size := Nat.le_trans hz2 bb.size
      clear bb P4 P2' hb2 p7
      cases q' with
      | true =>
        go_wp2_with (first
          | (refine wpList_load_row rfl 24 (.tmp 7) rfl w1.heap.size rfl 24 (wcells T).toArray (0, 0) _ P7.out Try.underlying24 rfl (infoW' _) ?_)
          | (refine wpList_store_row rfl 24 (.tmp 4) (.tmp 24) rfl (w.heap.size + 1) (wcells T).toArray rfl rfl 24 (wcells S).toArray P4'.out (infoW' _) rfl (ones_w _) ?_))
        go_roundw
        case rel => exact ⟨k + 1, by omega, by go_num, Lib.hid (by rw [HS2.out]), Lib.hid (by rw [HS2.out]; exact setRow_heap _ _ _ _ _ _ P4'.out), Lib.hid ((setRow_other (by omega)).trans P2''.out), below_setRow hb3 (by omega) _, by rw [size_setRow]; exact hz3⟩
        case measure => simp [intOf]; omega
      | false =>
        have hover := Lib.hid (show R = (T, false) from by rw [HR.out, sumR_over ls (k + 1) (by rw [HS2.out]), HS2.out])
        have hT0 : T = 0 := by
          have := HTT.out
          unfold addR at this
          split at this
          · cases this
          · exact (Prod.mk.inj this).1.symm
        subst hT0
        go_wp2_with (refine wpList_store_row rfl 24 (.tmp 2) (.tmp 23) rfl w.heap.size (wcells 0).toArray rfl rfl 24 (wcells 0).toArray P2''.out (infoW' 0) rfl (ones_w 0) ?_)
        exact bodyPost_ret (v := .tuple #[aggN 0, .bool false]) (results_cell_tmp Try.results31 _ _ w.heap.size 24 _ _ _ _ rfl rfl (setRow_heap _ _ _ _ _ _ P2''.out) Try.underlying24 rfl (infoW' 0)) rfl ⟨by rw [HX.out, Hq.out, hover.out], below_setRow hb3 (by omega) _⟩
    · obtain rfl : k = n := by omega
      have e : ls.take k = ls := List.take_of_length_le (by rw [HL.out]; omega)
      have hS := HT.out
      have q4 := Q4.out
      rw [e, ← HR.out] at hS q4
      rw [← Hq.out] at hS
      rw [← HX.out] at q4
      subst hS
      have P4 := Lib.hid q4
      clear q4 e
      go_wp2_with (first
        | (refine wpList_load_row rfl 24 (.tmp 4) rfl (w.heap.size + 1) rfl 24 (wcells X).toArray (0, 0) _ P4.out Try.underlying24 rfl (infoW' _) ?_)
        | (refine wpList_store_row rfl 24 (.tmp 2) (.tmp 26) rfl w.heap.size (wcells X).toArray rfl rfl 24 (wcells 0).toArray Q2.out (infoW' _) rfl (ones_w _) ?_))
      exact bodyPost_ret (v := .tuple #[aggN X, .bool true]) (results_cell_tmp Try.results31 _ _ w.heap.size 24 _ _ _ _ rfl rfl (setRow_heap _ _ _ _ _ _ Q2.out) Try.underlying24 rfl (infoW' _)) rfl ⟨rfl, below_setRow hb (by omega) _⟩
end Go.Proofs.Ytppgpdckaaabeaa
