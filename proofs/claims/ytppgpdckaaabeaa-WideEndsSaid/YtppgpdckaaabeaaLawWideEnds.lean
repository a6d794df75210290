/- The two ends of the range: for every number the law WideEnds returns true, and its argument reads afterwards as it read before. No condition. -/
import Derived.Test.YtppgpdckaaabeaaRows
import Derived.WalkKit
import Derived.Below
import Derived.ProofKit
import Derived.OpenShut
import Derived.ShutString
import Derived.ChangeOld
import Derived.Outline
import Derived.RegionTactic
import Derived.ChangeAlike
import Derived.BigRegion
import Derived.BigQuiet
import Derived.Deep.QuietTactic
import Derived.Deep.RegionWith
import Derived.Deep.RegionLaw
import Derived.Deep.RegionHeld3
import Derived.Deep.AppendLies
import Derived.Deep.Draws
import Derived.StillTailTactics
import Derived.Lib.Hide
import Derived.Lib.SmallJoins
import Derived.Handy
import Derived.WalkSpells
import Derived.WalkLawsBesides
import Derived.Deep.LoopGhost
import Derived.Deep.DeepCutAuto
import Derived.Great.BuildSlice
import Derived.Test.YtppgpdckaaabeaaWideQ
namespace Go.Proofs.Ytppgpdckaaabeaa.wideEnds
open Go.RowKit
set_option linter.unusedSimpArgs false
set_option linter.unusedVariables false
set_option linter.unnecessarySimpa false
section
attribute [local go_sem] eqNum guardW addNum timesNum fromBNum lit0 ext_list app_list
set_option maxHeartbeats 8000000 in
set_option maxRecDepth 100000 in
theorem walk (N : Nat) (W : World) (hN : N < 2 ^ 256) : Calls Try.prog 8 #[aggN N] W fun e w' => e = .returned (.bool true) ∧ Below W.heap.size W w' := by
  have kN := num hN
  obtain ⟨Mx, hMx⟩ : ∃ M : Nat, M = 2 ^ 256 - 1 := ⟨_, rfl⟩
  have s1 : addR Mx 1 = (0, false) := by rw [hMx]; decide
  have s2 : subR Mx N = (Mx - N, true) := by rw [hMx]; unfold subR; rw [if_neg (by omega)]
  have s3 : addR (Mx - N) N = (Mx, true) := by rw [hMx]; unfold addR; rw [show 2 ^ 256 - 1 - N + N = 2 ^ 256 - 1 from by omega, if_pos (by decide)]
  have s4 : subR 0 N = (0, N == 0) := by
    unfold subR
    by_cases h : N = 0
    · subst h; rfl
    · rw [if_pos (by omega), show (N == 0) = false from by simpa using h]
  obtain ⟨c, hc⟩ : ∃ c : Int, c = cmpN Mx N := ⟨_, rfl⟩
  have c0 : 0 ≤ c := by rw [hc, hMx]; unfold cmpN; rw [if_neg (by omega)]; split <;> decide
  have d0 : decide (0 ≤ c) = true := by simpa using c0
  obtain ⟨t, ht⟩ : ∃ t, t = dec Mx := ⟨_, rfl⟩
  have t78 : t.length = 78 := by rw [ht, hMx]; decide +kernel
  have e0 : dec 0 = [48] := by decide +kernel
  have kM : Mx < 2 ^ 256 := by rw [hMx]; decide
  have kD : Mx - N < 2 ^ 256 := by omega
  have nM := num kM
  have nD := num kD
  have S1 := Lib.hid s1
  have S2 := Lib.hid s2
  have S3 := Lib.hid s3
  have S4 := Lib.hid s4
  have EM := Lib.hid hMx
  have EC := Lib.hid hc
  have ET := Lib.hid ht
  have E0 := Lib.hid e0
  clear s1 s2 s3 s4 hMx hc ht e0
  have hS := Held.start W
  go_enter Try.func8, Try.ntmps8
  go_wp2_with (refine wpList_box_at hS rfl 24 _ rfl (wcells _) rfl ?_; clear hS; intro wn hS hz; clear hz)
  refine (awake4_any _).mono ?_
  rintro e w1 ⟨rfl, gw1⟩
  have hS := hS.below gw1
  clear gw1
  go_wp2_with fail
  refine (wMost_any _).mono ?_
  rw [← EM.out]
  rintro e w2 ⟨rfl, gw2⟩
  have hS := hS.below gw2
  clear gw2
  go_upto_region 3 with (first | (refine wpList_alloc_at hS rfl 24 rfl (wcells 0) (zeroW _) ?_; clear hS; intro wn hS hz; clear hz) | ((first | refine wpList_store_at 0 hS rfl 24 _ _ rfl _ rfl (wcells _) rfl (wcells _) 24 rfl infoW rfl (ones_w _) ?_ | refine wpList_store_at 1 hS rfl 24 _ _ rfl _ rfl (wcells _) rfl (wcells _) 24 rfl infoW rfl (ones_w _) ?_); clear hS; intro wn hS hz; clear hz; simp only [List.set_cons_zero, List.set_cons_succ] at hS))
  try simp only [Act.put, List.getElem_toArray, List.getElem_cons_succ, List.getElem_cons_zero, List.setIfInBounds_toArray, List.set_cons_zero, List.set_cons_succ]
  obtain ⟨LL, eL, hSL⟩ := hS.named
  clear hS
  go_cut [5, 6] (fun u v w' => ∃ b : Nat, u = .pointer (some ⟨b, 0, none⟩) ∧ v = .bool false ∧ Held ((b, wcells 0, 24) :: LL) W w')
  case first =>
    subst eL
    refine wp_region_held_drew (S := Held _ W) (by kernel_rfl) hSL.drew (fun hHeld => ?_)
    refine wpAnyH_take (i := 0) (oi := _) (v := _) rfl (by kernel_rfl) (by kernel_rfl) (by kernel_rfl) (fun _ _ _ h => h) (yieldsIf_load_mid (by kernel_rfl) _ _ rfl _ _ rfl _ _ (fun w h => h.rng 0 rfl) Try.underlying24 rfl infoW) hHeld ?_
    try simp only [Act.put, List.getElem_toArray, List.getElem_cons_succ, List.getElem_cons_zero, List.setIfInBounds_toArray, List.set_cons_zero, List.set_cons_succ]
    refine wpAnyH_ready (rs := [1, 6]) (by kernel_rfl) (by simp) ?_
    refine AllReadyH.cons (o := _) rfl (fun K hK => ?_) (AllReadyH.cons (o := _) rfl (fun K hK => ?_) AllReadyH.nil)
    · go_simp
      go_at_call 21
      refine (wOf_any _ _ (by first | assumption | exact addR_lt _ _ | exact timesR_lt _ _ | exact subR_lt _ _ (by assumption) | exact partR_lt _ _ (by assumption) | exact fromB_lt _ | decide | omega)).mono ?_
      rintro e w3 ⟨rfl, gw3⟩
      refine hK.out _ _ (hHeld.below gw3) (fun hHeld => ?_)
      clear hK K
      try simp only [Act.put, List.getElem_toArray, List.getElem_cons_succ, List.getElem_cons_zero, List.setIfInBounds_toArray, List.set_cons_zero, List.set_cons_succ]
      refine wpAnyH_ready (rs := [2, 6]) (by kernel_rfl) (by simp) ?_
      refine AllReadyH.cons (o := _) rfl (fun K hK => ?_) (AllReadyH.cons (o := _) rfl (fun K hK => ?_) AllReadyH.nil)
      · go_simp
        go_at_call 12
        refine (wAdd_any _ _ _ (by first | assumption | exact addR_lt _ _ | exact timesR_lt _ _ | exact subR_lt _ _ (by assumption) | exact partR_lt _ _ (by assumption) | exact fromB_lt _ | decide | omega) (by first | assumption | exact addR_lt _ _ | exact timesR_lt _ _ | exact subR_lt _ _ (by assumption) | exact partR_lt _ _ (by assumption) | exact fromB_lt _ | decide | omega)).mono ?_
        rw [S1.out]
        rintro e w4 ⟨rfl, gw4⟩
        refine hK.out _ _ (hHeld.below gw4) (fun hHeld => ?_)
        clear hK K
        try simp only [Act.put, List.getElem_toArray, List.getElem_cons_succ, List.getElem_cons_zero, List.setIfInBounds_toArray, List.set_cons_zero, List.set_cons_succ]
        refine wpAnyH_take (i := 3) (oi := _) (v := ?_) rfl (by kernel_rfl) (by kernel_rfl) (by kernel_rfl) (fun _ _ _ h => h) (Or.inl ⟨by kernel_rfl, ?_⟩) hHeld ?_
        rotate_left
        · (intro w hSw; go_simp; try with_reducible rfl)
        try simp only [Act.put, List.getElem_toArray, List.getElem_cons_succ, List.getElem_cons_zero, List.setIfInBounds_toArray, List.set_cons_zero, List.set_cons_succ]
        refine wpAnyH_take (i := 4) (oi := _) (v := ?_) rfl (by kernel_rfl) (by kernel_rfl) (by kernel_rfl) (fun _ _ _ h => h) (Or.inl ⟨by kernel_rfl, ?_⟩) hHeld ?_
        rotate_left
        · (intro w hSw; go_simp; try with_reducible rfl)
        try simp only [Act.put, List.getElem_toArray, List.getElem_cons_succ, List.getElem_cons_zero, List.setIfInBounds_toArray, List.set_cons_zero, List.set_cons_succ]
        refine wpAnyH_take (i := 5) (oi := _) (v := ?_) rfl (by kernel_rfl) (by kernel_rfl) (by kernel_rfl) (fun _ _ _ h => h) (Or.inl ⟨by kernel_rfl, ?_⟩) hHeld ?_
        rotate_left
        · (intro w hSw; go_simp; try with_reducible rfl)
        try simp only [Act.put, List.getElem_toArray, List.getElem_cons_succ, List.getElem_cons_zero, List.setIfInBounds_toArray, List.set_cons_zero, List.set_cons_succ]
        refine wpAnyH_ready (rs := [6]) (by kernel_rfl) (by simp) ?_
        refine AllReadyH.cons (o := _) rfl (fun K hK => ?_) AllReadyH.nil
        go_simp
        have hF := hHeld.fresh (wcells 0) 24
        refine hK.out _ _ (hHeld.alloc _) (fun hHeld => ?_)
        clear hK K
        try simp only [Act.put, List.getElem_toArray, List.getElem_cons_succ, List.getElem_cons_zero, List.setIfInBounds_toArray, List.set_cons_zero, List.set_cons_succ]
        refine wpAnyH_ready (rs := [7]) (by kernel_rfl) (by simp) ?_
        refine AllReadyH.cons (o := _) rfl (fun K hK => ?_) AllReadyH.nil
        refine step_store_row (by kernel_rfl) 24 (.tmp 5) (.tmp 20) rfl _ (wcells _).toArray rfl rfl 24 (wcells 0).toArray hF.row (infoW' _) rfl (ones_w _) ?_
        have hP := hHeld.more hF (wcells 0)
        refine hK.out _ _ (hHeld.stored hF (wcells 0)) (fun hHeld => ?_)
        clear hK K
        try simp only [Act.put, List.getElem_toArray, List.getElem_cons_succ, List.getElem_cons_zero, List.setIfInBounds_toArray, List.set_cons_zero, List.set_cons_succ]
        refine wpAnyH_take (i := 8) (oi := _) (v := ?_) rfl (by kernel_rfl) (by kernel_rfl) (by kernel_rfl) (fun _ _ _ h => h) (Or.inl ⟨by kernel_rfl, ?_⟩) hHeld ?_
        rotate_left
        · (intro w hSw; go_simp; try with_reducible rfl)
        try simp only [Act.put, List.getElem_toArray, List.getElem_cons_succ, List.getElem_cons_zero, List.setIfInBounds_toArray, List.set_cons_zero, List.set_cons_succ]
        refine wpAnyH_done (by kernel_rfl) ?_ _
        go_wp2_with fail
        go_meet
        case rel => exact ⟨_, rfl, rfl, hP⟩
      · go_simp
        have hF := hHeld.fresh (wcells 0) 24
        refine hK.out _ _ (hHeld.alloc _) (fun hHeld => ?_)
        clear hK K
        try simp only [Act.put, List.getElem_toArray, List.getElem_cons_succ, List.getElem_cons_zero, List.setIfInBounds_toArray, List.set_cons_zero, List.set_cons_succ]
        refine wpAnyH_ready (rs := [2]) (by kernel_rfl) (by simp) ?_
        refine AllReadyH.cons (o := _) rfl (fun K hK => ?_) AllReadyH.nil
        go_simp
        go_at_call 12
        refine (wAdd_any _ _ _ (by first | assumption | exact addR_lt _ _ | exact timesR_lt _ _ | exact subR_lt _ _ (by assumption) | exact partR_lt _ _ (by assumption) | exact fromB_lt _ | decide | omega) (by first | assumption | exact addR_lt _ _ | exact timesR_lt _ _ | exact subR_lt _ _ (by assumption) | exact partR_lt _ _ (by assumption) | exact fromB_lt _ | decide | omega)).mono ?_
        rw [S1.out]
        rintro e w4 ⟨rfl, gw4⟩
        have hF := hF.below gw4
        refine hK.out _ _ (hHeld.below gw4) (fun hHeld => ?_)
        clear hK K
        try simp only [Act.put, List.getElem_toArray, List.getElem_cons_succ, List.getElem_cons_zero, List.setIfInBounds_toArray, List.set_cons_zero, List.set_cons_succ]
        refine wpAnyH_take (i := 3) (oi := _) (v := ?_) rfl (by kernel_rfl) (by kernel_rfl) (by kernel_rfl) (fun _ _ _ h => h) (Or.inl ⟨by kernel_rfl, ?_⟩) hHeld ?_
        rotate_left
        · (intro w hSw; go_simp; try with_reducible rfl)
        try simp only [Act.put, List.getElem_toArray, List.getElem_cons_succ, List.getElem_cons_zero, List.setIfInBounds_toArray, List.set_cons_zero, List.set_cons_succ]
        refine wpAnyH_take (i := 4) (oi := _) (v := ?_) rfl (by kernel_rfl) (by kernel_rfl) (by kernel_rfl) (fun _ _ _ h => h) (Or.inl ⟨by kernel_rfl, ?_⟩) hHeld ?_
        rotate_left
        · (intro w hSw; go_simp; try with_reducible rfl)
        try simp only [Act.put, List.getElem_toArray, List.getElem_cons_succ, List.getElem_cons_zero, List.setIfInBounds_toArray, List.set_cons_zero, List.set_cons_succ]
        refine wpAnyH_take (i := 5) (oi := _) (v := ?_) rfl (by kernel_rfl) (by kernel_rfl) (by kernel_rfl) (fun _ _ _ h => h) (Or.inl ⟨by kernel_rfl, ?_⟩) hHeld ?_
        rotate_left
        · (intro w hSw; go_simp; try with_reducible rfl)
        try simp only [Act.put, List.getElem_toArray, List.getElem_cons_succ, List.getElem_cons_zero, List.setIfInBounds_toArray, List.set_cons_zero, List.set_cons_succ]
        refine wpAnyH_ready (rs := [7]) (by kernel_rfl) (by simp) ?_
        refine AllReadyH.cons (o := _) rfl (fun K hK => ?_) AllReadyH.nil
        refine step_store_row (by kernel_rfl) 24 (.tmp 5) (.tmp 20) rfl _ (wcells _).toArray rfl rfl 24 (wcells 0).toArray hF.row (infoW' _) rfl (ones_w _) ?_
        have hP := hHeld.more hF (wcells 0)
        refine hK.out _ _ (hHeld.stored hF (wcells 0)) (fun hHeld => ?_)
        clear hK K
        try simp only [Act.put, List.getElem_toArray, List.getElem_cons_succ, List.getElem_cons_zero, List.setIfInBounds_toArray, List.set_cons_zero, List.set_cons_succ]
        refine wpAnyH_take (i := 8) (oi := _) (v := ?_) rfl (by kernel_rfl) (by kernel_rfl) (by kernel_rfl) (fun _ _ _ h => h) (Or.inl ⟨by kernel_rfl, ?_⟩) hHeld ?_
        rotate_left
        · (intro w hSw; go_simp; try with_reducible rfl)
        try simp only [Act.put, List.getElem_toArray, List.getElem_cons_succ, List.getElem_cons_zero, List.setIfInBounds_toArray, List.set_cons_zero, List.set_cons_succ]
        refine wpAnyH_done (by kernel_rfl) ?_ _
        go_wp2_with fail
        go_meet
        case rel => exact ⟨_, rfl, rfl, hP⟩
    · go_simp
      have hF := hHeld.fresh (wcells 0) 24
      refine hK.out _ _ (hHeld.alloc _) (fun hHeld => ?_)
      clear hK K
      try simp only [Act.put, List.getElem_toArray, List.getElem_cons_succ, List.getElem_cons_zero, List.setIfInBounds_toArray, List.set_cons_zero, List.set_cons_succ]
      refine wpAnyH_ready (rs := [1]) (by kernel_rfl) (by simp) ?_
      refine AllReadyH.cons (o := _) rfl (fun K hK => ?_) AllReadyH.nil
      go_simp
      go_at_call 21
      refine (wOf_any _ _ (by first | assumption | exact addR_lt _ _ | exact timesR_lt _ _ | exact subR_lt _ _ (by assumption) | exact partR_lt _ _ (by assumption) | exact fromB_lt _ | decide | omega)).mono ?_
      rintro e w3 ⟨rfl, gw3⟩
      have hF := hF.below gw3
      refine hK.out _ _ (hHeld.below gw3) (fun hHeld => ?_)
      clear hK K
      try simp only [Act.put, List.getElem_toArray, List.getElem_cons_succ, List.getElem_cons_zero, List.setIfInBounds_toArray, List.set_cons_zero, List.set_cons_succ]
      refine wpAnyH_ready (rs := [2]) (by kernel_rfl) (by simp) ?_
      refine AllReadyH.cons (o := _) rfl (fun K hK => ?_) AllReadyH.nil
      go_simp
      go_at_call 12
      refine (wAdd_any _ _ _ (by first | assumption | exact addR_lt _ _ | exact timesR_lt _ _ | exact subR_lt _ _ (by assumption) | exact partR_lt _ _ (by assumption) | exact fromB_lt _ | decide | omega) (by first | assumption | exact addR_lt _ _ | exact timesR_lt _ _ | exact subR_lt _ _ (by assumption) | exact partR_lt _ _ (by assumption) | exact fromB_lt _ | decide | omega)).mono ?_
      rw [S1.out]
      rintro e w4 ⟨rfl, gw4⟩
      have hF := hF.below gw4
      refine hK.out _ _ (hHeld.below gw4) (fun hHeld => ?_)
      clear hK K
      try simp only [Act.put, List.getElem_toArray, List.getElem_cons_succ, List.getElem_cons_zero, List.setIfInBounds_toArray, List.set_cons_zero, List.set_cons_succ]
      refine wpAnyH_take (i := 3) (oi := _) (v := ?_) rfl (by kernel_rfl) (by kernel_rfl) (by kernel_rfl) (fun _ _ _ h => h) (Or.inl ⟨by kernel_rfl, ?_⟩) hHeld ?_
      rotate_left
      · (intro w hSw; go_simp; try with_reducible rfl)
      try simp only [Act.put, List.getElem_toArray, List.getElem_cons_succ, List.getElem_cons_zero, List.setIfInBounds_toArray, List.set_cons_zero, List.set_cons_succ]
      refine wpAnyH_take (i := 4) (oi := _) (v := ?_) rfl (by kernel_rfl) (by kernel_rfl) (by kernel_rfl) (fun _ _ _ h => h) (Or.inl ⟨by kernel_rfl, ?_⟩) hHeld ?_
      rotate_left
      · (intro w hSw; go_simp; try with_reducible rfl)
      try simp only [Act.put, List.getElem_toArray, List.getElem_cons_succ, List.getElem_cons_zero, List.setIfInBounds_toArray, List.set_cons_zero, List.set_cons_succ]
      refine wpAnyH_take (i := 5) (oi := _) (v := ?_) rfl (by kernel_rfl) (by kernel_rfl) (by kernel_rfl) (fun _ _ _ h => h) (Or.inl ⟨by kernel_rfl, ?_⟩) hHeld ?_
      rotate_left
      · (intro w hSw; go_simp; try with_reducible rfl)
      try simp only [Act.put, List.getElem_toArray, List.getElem_cons_succ, List.getElem_cons_zero, List.setIfInBounds_toArray, List.set_cons_zero, List.set_cons_succ]
      refine wpAnyH_ready (rs := [7]) (by kernel_rfl) (by simp) ?_
      refine AllReadyH.cons (o := _) rfl (fun K hK => ?_) AllReadyH.nil
      refine step_store_row (by kernel_rfl) 24 (.tmp 5) (.tmp 20) rfl _ (wcells _).toArray rfl rfl 24 (wcells 0).toArray hF.row (infoW' _) rfl (ones_w _) ?_
      have hP := hHeld.more hF (wcells 0)
      refine hK.out _ _ (hHeld.stored hF (wcells 0)) (fun hHeld => ?_)
      clear hK K
      try simp only [Act.put, List.getElem_toArray, List.getElem_cons_succ, List.getElem_cons_zero, List.setIfInBounds_toArray, List.set_cons_zero, List.set_cons_succ]
      refine wpAnyH_take (i := 8) (oi := _) (v := ?_) rfl (by kernel_rfl) (by kernel_rfl) (by kernel_rfl) (fun _ _ _ h => h) (Or.inl ⟨by kernel_rfl, ?_⟩) hHeld ?_
      rotate_left
      · (intro w hSw; go_simp; try with_reducible rfl)
      try simp only [Act.put, List.getElem_toArray, List.getElem_cons_succ, List.getElem_cons_zero, List.setIfInBounds_toArray, List.set_cons_zero, List.set_cons_succ]
      refine wpAnyH_done (by kernel_rfl) ?_ _
      go_wp2_with fail
      go_meet
      case rel => exact ⟨_, rfl, rfl, hP⟩
  case rest =>
  obtain ⟨b5, rfl, rfl, hS⟩ := hcut
  clear hSL
  subst eL
  apply_assumption
  go_wp2_with (refine wpList_load_at hS (by rfl) 24 _ rfl _ rfl (wcells _) 24 (by first | exact mem_0 | exact mem_1 | exact mem_2 | exact mem_3 | exact mem_4 | exact mem_5 | exact mem_6 | exact mem_7 | exact mem_8 | exact mem_9 | exact mem_10 | exact mem_11 | exact mem_12 | exact mem_13 | exact mem_14 | exact mem_15) _ Try.underlying24 rfl infoW ?_)
  refine (wSub_any _ _ _ (by first | assumption | exact addR_lt _ _ | exact timesR_lt _ _ | exact subR_lt _ _ (by assumption) | exact partR_lt _ _ (by assumption) | exact fromB_lt _ | decide | omega) (by first | assumption | exact addR_lt _ _ | exact timesR_lt _ _ | exact subR_lt _ _ (by assumption) | exact partR_lt _ _ (by assumption) | exact fromB_lt _ | decide | omega)).mono ?_
  rw [S2.out]
  rintro e w5 ⟨rfl, gw5⟩
  have hS := hS.below gw5
  clear gw5
  go_wp2_with (first
    | (refine wpList_alloc_at hS rfl 24 rfl (wcells 0) (zeroW _) ?_; clear hS; intro wn hS hz; clear hz)
    | ((first | refine wpList_store_at 0 hS rfl 24 _ _ rfl _ rfl (wcells _) rfl (wcells _) 24 rfl infoW rfl (ones_w _) ?_ | refine wpList_store_at 1 hS rfl 24 _ _ rfl _ rfl (wcells _) rfl (wcells _) 24 rfl infoW rfl (ones_w _) ?_ | refine wpList_store_at 2 hS rfl 24 _ _ rfl _ rfl (wcells _) rfl (wcells _) 24 rfl infoW rfl (ones_w _) ?_ | refine wpList_store_at 3 hS rfl 24 _ _ rfl _ rfl (wcells _) rfl (wcells _) 24 rfl infoW rfl (ones_w _) ?_); clear hS; intro wn hS hz; clear hz; simp only [List.set_cons_zero, List.set_cons_succ] at hS)
    | (refine wpList_load_at hS (by rfl) 24 _ rfl _ rfl (wcells _) 24 (by first | exact mem_0 | exact mem_1 | exact mem_2 | exact mem_3 | exact mem_4 | exact mem_5 | exact mem_6 | exact mem_7 | exact mem_8 | exact mem_9 | exact mem_10 | exact mem_11 | exact mem_12 | exact mem_13 | exact mem_14 | exact mem_15) _ Try.underlying24 rfl infoW ?_))
  refine (wAdd_any _ _ _ (by first | assumption | exact addR_lt _ _ | exact timesR_lt _ _ | exact subR_lt _ _ (by assumption) | exact partR_lt _ _ (by assumption) | exact fromB_lt _ | decide | omega) (by first | assumption | exact addR_lt _ _ | exact timesR_lt _ _ | exact subR_lt _ _ (by assumption) | exact partR_lt _ _ (by assumption) | exact fromB_lt _ | decide | omega)).mono ?_
  rw [S3.out]
  rintro e w6 ⟨rfl, gw6⟩
  have hS := hS.below gw6
  clear gw6
  go_upto_region 6 with (first | (refine wpList_alloc_at hS rfl 24 rfl (wcells 0) (zeroW _) ?_; clear hS; intro wn hS hz; clear hz) | ((first | refine wpList_store_at 0 hS rfl 24 _ _ rfl _ rfl (wcells _) rfl (wcells _) 24 rfl infoW rfl (ones_w _) ?_ | refine wpList_store_at 1 hS rfl 24 _ _ rfl _ rfl (wcells _) rfl (wcells _) 24 rfl infoW rfl (ones_w _) ?_ | refine wpList_store_at 2 hS rfl 24 _ _ rfl _ rfl (wcells _) rfl (wcells _) 24 rfl infoW rfl (ones_w _) ?_ | refine wpList_store_at 3 hS rfl 24 _ _ rfl _ rfl (wcells _) rfl (wcells _) 24 rfl infoW rfl (ones_w _) ?_ | refine wpList_store_at 4 hS rfl 24 _ _ rfl _ rfl (wcells _) rfl (wcells _) 24 rfl infoW rfl (ones_w _) ?_); clear hS; intro wn hS hz; clear hz; simp only [List.set_cons_zero, List.set_cons_succ] at hS))
  try simp only [Act.put, List.getElem_toArray, List.getElem_cons_succ, List.getElem_cons_zero, List.setIfInBounds_toArray, List.set_cons_zero, List.set_cons_succ]
  obtain ⟨LL, eL, hSL⟩ := hS.named
  clear hS
  go_cut [11, 12] (fun u v w' => ∃ b : Nat, u = .pointer (some ⟨b, 0, none⟩) ∧ v = .bool (N == 0) ∧ Held ((b, wcells 0, 24) :: LL) W w')
  case first =>
    subst eL
    refine wp_region_held_drew (S := Held _ W) (by kernel_rfl) hSL.drew (fun hHeld => ?_)
    refine wpAnyH_take (i := 1) (oi := _) (v := _) rfl (by kernel_rfl) (by kernel_rfl) (by kernel_rfl) (fun _ _ _ h => h) (yieldsIf_load_mid (by kernel_rfl) _ _ rfl _ _ rfl _ _ (fun w h => h.rng 4 rfl) Try.underlying24 rfl infoW) hHeld ?_
    try simp only [Act.put, List.getElem_toArray, List.getElem_cons_succ, List.getElem_cons_zero, List.setIfInBounds_toArray, List.set_cons_zero, List.set_cons_succ]
    refine wpAnyH_ready (rs := [0, 6]) (by kernel_rfl) (by simp) ?_
    refine AllReadyH.cons (o := _) rfl (fun K hK => ?_) (AllReadyH.cons (o := _) rfl (fun K hK => ?_) AllReadyH.nil)
    · go_simp
      go_at_call 21
      refine (wOf_any _ _ (by first | assumption | exact addR_lt _ _ | exact timesR_lt _ _ | exact subR_lt _ _ (by assumption) | exact partR_lt _ _ (by assumption) | exact fromB_lt _ | decide | omega)).mono ?_
      rintro e w7 ⟨rfl, gw7⟩
      refine hK.out _ _ (hHeld.below gw7) (fun hHeld => ?_)
      clear hK K
      try simp only [Act.put, List.getElem_toArray, List.getElem_cons_succ, List.getElem_cons_zero, List.setIfInBounds_toArray, List.set_cons_zero, List.set_cons_succ]
      refine wpAnyH_ready (rs := [2, 6]) (by kernel_rfl) (by simp) ?_
      refine AllReadyH.cons (o := _) rfl (fun K hK => ?_) (AllReadyH.cons (o := _) rfl (fun K hK => ?_) AllReadyH.nil)
      · go_simp
        go_at_call 14
        refine (wSub_any _ _ _ (by first | assumption | exact addR_lt _ _ | exact timesR_lt _ _ | exact subR_lt _ _ (by assumption) | exact partR_lt _ _ (by assumption) | exact fromB_lt _ | decide | omega) (by first | assumption | exact addR_lt _ _ | exact timesR_lt _ _ | exact subR_lt _ _ (by assumption) | exact partR_lt _ _ (by assumption) | exact fromB_lt _ | decide | omega)).mono ?_
        rw [S4.out]
        rintro e w8 ⟨rfl, gw8⟩
        refine hK.out _ _ (hHeld.below gw8) (fun hHeld => ?_)
        clear hK K
        try simp only [Act.put, List.getElem_toArray, List.getElem_cons_succ, List.getElem_cons_zero, List.setIfInBounds_toArray, List.set_cons_zero, List.set_cons_succ]
        refine wpAnyH_take (i := 3) (oi := _) (v := ?_) rfl (by kernel_rfl) (by kernel_rfl) (by kernel_rfl) (fun _ _ _ h => h) (Or.inl ⟨by kernel_rfl, ?_⟩) hHeld ?_
        rotate_left
        · (intro w hSw; go_simp; try with_reducible rfl)
        try simp only [Act.put, List.getElem_toArray, List.getElem_cons_succ, List.getElem_cons_zero, List.setIfInBounds_toArray, List.set_cons_zero, List.set_cons_succ]
        refine wpAnyH_take (i := 4) (oi := _) (v := ?_) rfl (by kernel_rfl) (by kernel_rfl) (by kernel_rfl) (fun _ _ _ h => h) (Or.inl ⟨by kernel_rfl, ?_⟩) hHeld ?_
        rotate_left
        · (intro w hSw; go_simp; try with_reducible rfl)
        try simp only [Act.put, List.getElem_toArray, List.getElem_cons_succ, List.getElem_cons_zero, List.setIfInBounds_toArray, List.set_cons_zero, List.set_cons_succ]
        refine wpAnyH_take (i := 5) (oi := _) (v := ?_) rfl (by kernel_rfl) (by kernel_rfl) (by kernel_rfl) (fun _ _ _ h => h) (Or.inl ⟨by kernel_rfl, ?_⟩) hHeld ?_
        rotate_left
        · (intro w hSw; go_simp; try with_reducible rfl)
        try simp only [Act.put, List.getElem_toArray, List.getElem_cons_succ, List.getElem_cons_zero, List.setIfInBounds_toArray, List.set_cons_zero, List.set_cons_succ]
        refine wpAnyH_ready (rs := [6]) (by kernel_rfl) (by simp) ?_
        refine AllReadyH.cons (o := _) rfl (fun K hK => ?_) AllReadyH.nil
        go_simp
        have hF := hHeld.fresh (wcells 0) 24
        refine hK.out _ _ (hHeld.alloc _) (fun hHeld => ?_)
        clear hK K
        try simp only [Act.put, List.getElem_toArray, List.getElem_cons_succ, List.getElem_cons_zero, List.setIfInBounds_toArray, List.set_cons_zero, List.set_cons_succ]
        refine wpAnyH_ready (rs := [7]) (by kernel_rfl) (by simp) ?_
        refine AllReadyH.cons (o := _) rfl (fun K hK => ?_) AllReadyH.nil
        refine step_store_row (by kernel_rfl) 24 (.tmp 11) (.tmp 38) rfl _ (wcells _).toArray rfl rfl 24 (wcells 0).toArray hF.row (infoW' _) rfl (ones_w _) ?_
        have hP := hHeld.more hF (wcells 0)
        refine hK.out _ _ (hHeld.stored hF (wcells 0)) (fun hHeld => ?_)
        clear hK K
        try simp only [Act.put, List.getElem_toArray, List.getElem_cons_succ, List.getElem_cons_zero, List.setIfInBounds_toArray, List.set_cons_zero, List.set_cons_succ]
        refine wpAnyH_take (i := 8) (oi := _) (v := ?_) rfl (by kernel_rfl) (by kernel_rfl) (by kernel_rfl) (fun _ _ _ h => h) (Or.inl ⟨by kernel_rfl, ?_⟩) hHeld ?_
        rotate_left
        · (intro w hSw; go_simp; try with_reducible rfl)
        try simp only [Act.put, List.getElem_toArray, List.getElem_cons_succ, List.getElem_cons_zero, List.setIfInBounds_toArray, List.set_cons_zero, List.set_cons_succ]
        refine wpAnyH_done (by kernel_rfl) ?_ _
        go_wp2_with fail
        go_meet
        case rel => exact ⟨_, rfl, rfl, hP⟩
      · go_simp
        have hF := hHeld.fresh (wcells 0) 24
        refine hK.out _ _ (hHeld.alloc _) (fun hHeld => ?_)
        clear hK K
        try simp only [Act.put, List.getElem_toArray, List.getElem_cons_succ, List.getElem_cons_zero, List.setIfInBounds_toArray, List.set_cons_zero, List.set_cons_succ]
        refine wpAnyH_ready (rs := [2]) (by kernel_rfl) (by simp) ?_
        refine AllReadyH.cons (o := _) rfl (fun K hK => ?_) AllReadyH.nil
        go_simp
        go_at_call 14
        refine (wSub_any _ _ _ (by first | assumption | exact addR_lt _ _ | exact timesR_lt _ _ | exact subR_lt _ _ (by assumption) | exact partR_lt _ _ (by assumption) | exact fromB_lt _ | decide | omega) (by first | assumption | exact addR_lt _ _ | exact timesR_lt _ _ | exact subR_lt _ _ (by assumption) | exact partR_lt _ _ (by assumption) | exact fromB_lt _ | decide | omega)).mono ?_
        rw [S4.out]
        rintro e w8 ⟨rfl, gw8⟩
        have hF := hF.below gw8
        refine hK.out _ _ (hHeld.below gw8) (fun hHeld => ?_)
        clear hK K
        try simp only [Act.put, List.getElem_toArray, List.getElem_cons_succ, List.getElem_cons_zero, List.setIfInBounds_toArray, List.set_cons_zero, List.set_cons_succ]
        refine wpAnyH_take (i := 3) (oi := _) (v := ?_) rfl (by kernel_rfl) (by kernel_rfl) (by kernel_rfl) (fun _ _ _ h => h) (Or.inl ⟨by kernel_rfl, ?_⟩) hHeld ?_
        rotate_left
        · (intro w hSw; go_simp; try with_reducible rfl)
        try simp only [Act.put, List.getElem_toArray, List.getElem_cons_succ, List.getElem_cons_zero, List.setIfInBounds_toArray, List.set_cons_zero, List.set_cons_succ]
        refine wpAnyH_take (i := 4) (oi := _) (v := ?_) rfl (by kernel_rfl) (by kernel_rfl) (by kernel_rfl) (fun _ _ _ h => h) (Or.inl ⟨by kernel_rfl, ?_⟩) hHeld ?_
        rotate_left
        · (intro w hSw; go_simp; try with_reducible rfl)
        try simp only [Act.put, List.getElem_toArray, List.getElem_cons_succ, List.getElem_cons_zero, List.setIfInBounds_toArray, List.set_cons_zero, List.set_cons_succ]
        refine wpAnyH_take (i := 5) (oi := _) (v := ?_) rfl (by kernel_rfl) (by kernel_rfl) (by kernel_rfl) (fun _ _ _ h => h) (Or.inl ⟨by kernel_rfl, ?_⟩) hHeld ?_
        rotate_left
        · (intro w hSw; go_simp; try with_reducible rfl)
        try simp only [Act.put, List.getElem_toArray, List.getElem_cons_succ, List.getElem_cons_zero, List.setIfInBounds_toArray, List.set_cons_zero, List.set_cons_succ]
        refine wpAnyH_ready (rs := [7]) (by kernel_rfl) (by simp) ?_
        refine AllReadyH.cons (o := _) rfl (fun K hK => ?_) AllReadyH.nil
        refine step_store_row (by kernel_rfl) 24 (.tmp 11) (.tmp 38) rfl _ (wcells _).toArray rfl rfl 24 (wcells 0).toArray hF.row (infoW' _) rfl (ones_w _) ?_
        have hP := hHeld.more hF (wcells 0)
        refine hK.out _ _ (hHeld.stored hF (wcells 0)) (fun hHeld => ?_)
        clear hK K
        try simp only [Act.put, List.getElem_toArray, List.getElem_cons_succ, List.getElem_cons_zero, List.setIfInBounds_toArray, List.set_cons_zero, List.set_cons_succ]
        refine wpAnyH_take (i := 8) (oi := _) (v := ?_) rfl (by kernel_rfl) (by kernel_rfl) (by kernel_rfl) (fun _ _ _ h => h) (Or.inl ⟨by kernel_rfl, ?_⟩) hHeld ?_
        rotate_left
        · (intro w hSw; go_simp; try with_reducible rfl)
        try simp only [Act.put, List.getElem_toArray, List.getElem_cons_succ, List.getElem_cons_zero, List.setIfInBounds_toArray, List.set_cons_zero, List.set_cons_succ]
        refine wpAnyH_done (by kernel_rfl) ?_ _
        go_wp2_with fail
        go_meet
        case rel => exact ⟨_, rfl, rfl, hP⟩
    · go_simp
      have hF := hHeld.fresh (wcells 0) 24
      refine hK.out _ _ (hHeld.alloc _) (fun hHeld => ?_)
      clear hK K
      try simp only [Act.put, List.getElem_toArray, List.getElem_cons_succ, List.getElem_cons_zero, List.setIfInBounds_toArray, List.set_cons_zero, List.set_cons_succ]
      refine wpAnyH_ready (rs := [0]) (by kernel_rfl) (by simp) ?_
      refine AllReadyH.cons (o := _) rfl (fun K hK => ?_) AllReadyH.nil
      go_simp
      go_at_call 21
      refine (wOf_any _ _ (by first | assumption | exact addR_lt _ _ | exact timesR_lt _ _ | exact subR_lt _ _ (by assumption) | exact partR_lt _ _ (by assumption) | exact fromB_lt _ | decide | omega)).mono ?_
      rintro e w7 ⟨rfl, gw7⟩
      have hF := hF.below gw7
      refine hK.out _ _ (hHeld.below gw7) (fun hHeld => ?_)
      clear hK K
      try simp only [Act.put, List.getElem_toArray, List.getElem_cons_succ, List.getElem_cons_zero, List.setIfInBounds_toArray, List.set_cons_zero, List.set_cons_succ]
      refine wpAnyH_ready (rs := [2]) (by kernel_rfl) (by simp) ?_
      refine AllReadyH.cons (o := _) rfl (fun K hK => ?_) AllReadyH.nil
      go_simp
      go_at_call 14
      refine (wSub_any _ _ _ (by first | assumption | exact addR_lt _ _ | exact timesR_lt _ _ | exact subR_lt _ _ (by assumption) | exact partR_lt _ _ (by assumption) | exact fromB_lt _ | decide | omega) (by first | assumption | exact addR_lt _ _ | exact timesR_lt _ _ | exact subR_lt _ _ (by assumption) | exact partR_lt _ _ (by assumption) | exact fromB_lt _ | decide | omega)).mono ?_
      rw [S4.out]
      rintro e w8 ⟨rfl, gw8⟩
      have hF := hF.below gw8
      refine hK.out _ _ (hHeld.below gw8) (fun hHeld => ?_)
      clear hK K
      try simp only [Act.put, List.getElem_toArray, List.getElem_cons_succ, List.getElem_cons_zero, List.setIfInBounds_toArray, List.set_cons_zero, List.set_cons_succ]
      refine wpAnyH_take (i := 3) (oi := _) (v := ?_) rfl (by kernel_rfl) (by kernel_rfl) (by kernel_rfl) (fun _ _ _ h => h) (Or.inl ⟨by kernel_rfl, ?_⟩) hHeld ?_
      rotate_left
      · (intro w hSw; go_simp; try with_reducible rfl)
      try simp only [Act.put, List.getElem_toArray, List.getElem_cons_succ, List.getElem_cons_zero, List.setIfInBounds_toArray, List.set_cons_zero, List.set_cons_succ]
      refine wpAnyH_take (i := 4) (oi := _) (v := ?_) rfl (by kernel_rfl) (by kernel_rfl) (by kernel_rfl) (fun _ _ _ h => h) (Or.inl ⟨by kernel_rfl, ?_⟩) hHeld ?_
      rotate_left
      · (intro w hSw; go_simp; try with_reducible rfl)
      try simp only [Act.put, List.getElem_toArray, List.getElem_cons_succ, List.getElem_cons_zero, List.setIfInBounds_toArray, List.set_cons_zero, List.set_cons_succ]
      refine wpAnyH_take (i := 5) (oi := _) (v := ?_) rfl (by kernel_rfl) (by kernel_rfl) (by kernel_rfl) (fun _ _ _ h => h) (Or.inl ⟨by kernel_rfl, ?_⟩) hHeld ?_
      rotate_left
      · (intro w hSw; go_simp; try with_reducible rfl)
      try simp only [Act.put, List.getElem_toArray, List.getElem_cons_succ, List.getElem_cons_zero, List.setIfInBounds_toArray, List.set_cons_zero, List.set_cons_succ]
      refine wpAnyH_ready (rs := [7]) (by kernel_rfl) (by simp) ?_
      refine AllReadyH.cons (o := _) rfl (fun K hK => ?_) AllReadyH.nil
      refine step_store_row (by kernel_rfl) 24 (.tmp 11) (.tmp 38) rfl _ (wcells _).toArray rfl rfl 24 (wcells 0).toArray hF.row (infoW' _) rfl (ones_w _) ?_
      have hP := hHeld.more hF (wcells 0)
      refine hK.out _ _ (hHeld.stored hF (wcells 0)) (fun hHeld => ?_)
      clear hK K
      try simp only [Act.put, List.getElem_toArray, List.getElem_cons_succ, List.getElem_cons_zero, List.setIfInBounds_toArray, List.set_cons_zero, List.set_cons_succ]
      refine wpAnyH_take (i := 8) (oi := _) (v := ?_) rfl (by kernel_rfl) (by kernel_rfl) (by kernel_rfl) (fun _ _ _ h => h) (Or.inl ⟨by kernel_rfl, ?_⟩) hHeld ?_
      rotate_left
      · (intro w hSw; go_simp; try with_reducible rfl)
      try simp only [Act.put, List.getElem_toArray, List.getElem_cons_succ, List.getElem_cons_zero, List.setIfInBounds_toArray, List.set_cons_zero, List.set_cons_succ]
      refine wpAnyH_done (by kernel_rfl) ?_ _
      go_wp2_with fail
      go_meet
      case rel => exact ⟨_, rfl, rfl, hP⟩
  case rest =>
  obtain ⟨b11, rfl, rfl, hS⟩ := hcut
  clear hSL
  subst eL
  apply_assumption
  go_wp2_with (first
    | (refine wpList_alloc_at hS rfl 24 rfl (wcells 0) (zeroW _) ?_; clear hS; intro wn hS hz; clear hz)
    | (refine wpList_load_at hS (by rfl) 24 _ rfl _ rfl (wcells _) 24 (by first | exact mem_0 | exact mem_1 | exact mem_2 | exact mem_3 | exact mem_4 | exact mem_5 | exact mem_6 | exact mem_7 | exact mem_8 | exact mem_9 | exact mem_10 | exact mem_11 | exact mem_12 | exact mem_13 | exact mem_14 | exact mem_15) _ Try.underlying24 rfl infoW ?_))
  refine (wCompare_any _ _ _ (by first | assumption | exact addR_lt _ _ | exact timesR_lt _ _ | exact subR_lt _ _ (by assumption) | exact partR_lt _ _ (by assumption) | exact fromB_lt _ | decide | omega) (by first | assumption | exact addR_lt _ _ | exact timesR_lt _ _ | exact subR_lt _ _ (by assumption) | exact partR_lt _ _ (by assumption) | exact fromB_lt _ | decide | omega)).mono ?_
  rw [← EC.out]
  rintro e w9 ⟨rfl, gw9⟩
  have hS := hS.below gw9
  clear gw9
  go_wp2_with (refine wpList_load_at hS (by rfl) 24 _ rfl _ rfl (wcells _) 24 (by first | exact mem_0 | exact mem_1 | exact mem_2 | exact mem_3 | exact mem_4 | exact mem_5 | exact mem_6 | exact mem_7 | exact mem_8 | exact mem_9 | exact mem_10 | exact mem_11 | exact mem_12 | exact mem_13 | exact mem_14 | exact mem_15) _ Try.underlying24 rfl infoW ?_)
  refine (wText_any _ _ (by first | assumption | exact addR_lt _ _ | exact timesR_lt _ _ | exact subR_lt _ _ (by assumption) | exact partR_lt _ _ (by assumption) | exact fromB_lt _ | decide | omega)).mono ?_
  rw [← ET.out]
  rintro e w10 ⟨rfl, gw10⟩
  have hS := hS.below gw10
  clear gw10
  go_wp2_with fail
  refine (wOf_any _ _ (by first | assumption | exact addR_lt _ _ | exact timesR_lt _ _ | exact subR_lt _ _ (by assumption) | exact partR_lt _ _ (by assumption) | exact fromB_lt _ | decide | omega)).mono ?_
  rintro e w11 ⟨rfl, gw11⟩
  have hS := hS.below gw11
  clear gw11
  go_wp2_with fail
  refine (wText_any _ _ (by first | assumption | exact addR_lt _ _ | exact timesR_lt _ _ | exact subR_lt _ _ (by assumption) | exact partR_lt _ _ (by assumption) | exact fromB_lt _ | decide | omega)).mono ?_
  rw [E0.out]
  rintro e w12 ⟨rfl, gw12⟩
  have hS := hS.below gw12
  clear gw12
  go_wp2
  go_ret
  exact ⟨rfl, hS.bel⟩
end
open Go.ChangeShapes Go.WideShapes Go.ChangeAt
set_option maxRecDepth 100000 in
theorem lifted (os : Os) (started : os.Started) (H : Type) (enc : TypeId × Value → H) :
    ReturnsInHanded {} Try.checked os 8 .any (Rows.wideEndsSpec.pre6 enc Try.prog Try.f8 Rows.wideEndsRow.domain false) (Rows.wideEndsSpec.post enc Try.prog Try.f8 false true false false) := by
  refine returnsInHanded_of_change (C := Try.checked) own started (by kernel_rfl) Try.func8
    (ChangeSpec.witness6 (enc := enc) (C := Try.checked) false ⟨#[], #[.agg #[.int .u64 0, .int .u64 0, .int .u64 0, .int .u64 0]], []⟩ 8 (by kernel_rfl) (by kernel_rfl) (by kernel_rfl) (by kernel_rfl)) ?_
  intro W base args ds gs before hval0 hW hcnd _
  have hval : ∀ (j : Nat) t v, Try.f8.params[j]? = some t → args[j]? = some v → Value.okWide Try.prog W .any base t v := hval0
  have hW' := hW
  obtain ⟨p, q, hA0, hV, rfl, hfz, hnd⟩ := hW
  have hA : DataW.TrodAll enc Try.prog W 0 (fun _ => true) true Try.f8.params.toList args.toList ds p := hA0
  rw [Try.params8] at hA hval
  obtain ⟨v0, vs0, d0, ds0, p0, q0, hargs, rfl, rfl, h0, r0⟩ := trodAll_cons hA
  obtain ⟨rfl, rfl, rfl⟩ := trodAll_nil r0
  obtain rfl : args = #[v0] := by cases args; simp_all
  obtain ⟨rfl, rfl⟩ := trodVars_none hV
  have k0 := h0
  have lt0 : ∀ x ∈ p0, x.block < W.heap.size := by obtain ⟨m, hm⟩ := k0; exact DataW.trod_lt m _ _ _ hm
  obtain ⟨Nx0, rfl, hNx0⟩ := op_wide (hval 0 24 v0 rfl rfl) h0
  clear hA0 hval0
  refine (walk Nx0 W hNx0).mono fun e W' ⟨he, bel⟩ => ?_
  subst he
  exact ⟨_, rfl, _, _, _, [], _, [], hW', trodAll_mk1 (shut_bool Try.underlying4 _), trodAll_cons_mk (Below.trod laidOut (by kernel_rfl) (of_decide_eq_true (by kernel_rfl)) k0 bel lt0) (trodAll_mk0), rfl, bel.frame _, fun h => by cases h⟩

theorem over : Rows.wideEndsRow.holds Try.pinned (OpenSpec.ofChange Rows.wideEndsSpec) :=
  OpenClaim.holds_of_wide 8 Try.f8 rfl rfl rfl rfl rfl rfl rfl ⟨rfl, rfl, rfl, rfl, rfl⟩ rfl rfl rfl rfl rfl (by kernel_rfl) Try.func8 (by kernel_rfl)
    (of_decide_eq_true (by kernel_rfl)) (by unfold Func.isWrapper; first | (rw [if_pos (by decide +kernel)]; kernel_rfl) | (rw [if_neg (by decide +kernel)]; exact ⟨rfl, rfl⟩))
    (fun os started H enc _ => lifted os started H enc)

theorem proved : Rows.WideEndsSaid := over
end Go.Proofs.Ytppgpdckaaabeaa.wideEnds
