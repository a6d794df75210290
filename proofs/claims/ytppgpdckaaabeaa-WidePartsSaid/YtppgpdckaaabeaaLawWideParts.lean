/- Quotient and rest: for every number and every number of 64 bits the law WideParts returns true, and its arguments read afterwards as they read before. No condition. -/
import Derived.Test.YtppgpdckaaabeaaRows
import Derived.WalkKit
import Derived.Below
import Derived.ProofKit
import Derived.OpenShut
import Derived.ShutString
import Derived.ChangeOld
import Derived.Outline
import Derived.RegionTactic
import Derived.ChangeAlike
import Derived.BigRegion
import Derived.BigQuiet
import Derived.Deep.QuietTactic
import Derived.Deep.RegionWith
import Derived.Deep.RegionLaw
import Derived.Deep.RegionHeld3
import Derived.Deep.AppendLies
import Derived.Deep.Draws
import Derived.StillTailTactics
import Derived.Lib.Hide
import Derived.Lib.SmallJoins
import Derived.Handy
import Derived.WalkSpells
import Derived.WalkLawsBesides
import Derived.Deep.LoopGhost
import Derived.Deep.DeepCutAuto
import Derived.Great.BuildSlice
import Derived.Test.YtppgpdckaaabeaaWideQ
namespace Go.Proofs.Ytppgpdckaaabeaa.wideParts
open Go.RowKit
set_option linter.unusedSimpArgs false
set_option linter.unusedVariables false
set_option linter.unnecessarySimpa false
section
attribute [local go_sem] eqNum guardW addNum timesNum fromBNum lit0 ext_list app_list
set_option maxHeartbeats 8000000 in
set_option maxRecDepth 100000 in
theorem walk (N n : Nat) (W : World) (hN : N < 2 ^ 256) (hn : n < 18446744073709551616) : Calls Try.prog 5 #[aggN N, .int .u64 (n : Nat)] W fun e w' => e = .returned (.bool true) ∧ Below W.heap.size W w' := by
  have kN := num hN
  have kn := num (N := n) (by omega)
  by_cases hz : n = 0
  · subst hz
    have hS := Held.start W
    have P0 := Lib.hid (show partR N 0 = (0, 0) from rfl)
    go_enter Try.func5, Try.ntmps5
    go_wp2_with (refine wpList_box_at hS rfl 24 _ rfl (wcells _) rfl ?_; clear hS; intro wn hS hz; clear hz)
    refine (awake4_any _).mono ?_
    rintro e w1 ⟨rfl, gw1⟩
    have hS := hS.below gw1
    clear gw1
    go_wp2_with (refine wpList_load_at hS (by rfl) 24 _ rfl _ rfl (wcells _) 24 (by first | exact mem_0 | exact mem_1 | exact mem_2 | exact mem_3 | exact mem_4 | exact mem_5 | exact mem_6 | exact mem_7 | exact mem_8 | exact mem_9 | exact mem_10 | exact mem_11 | exact mem_12 | exact mem_13 | exact mem_14 | exact mem_15) _ Try.underlying24 rfl infoW ?_)
    refine (wPart_any _ _ _ (by first | assumption | exact addR_lt _ _ | exact timesR_lt _ _ | exact subR_lt _ _ (by assumption) | exact partR_lt _ _ (by assumption) | exact fromB_lt _ | decide | omega) (by first | assumption | exact addR_lt _ _ | exact timesR_lt _ _ | exact subR_lt _ _ (by assumption) | exact partR_lt _ _ (by assumption) | exact fromB_lt _ | decide | omega)).mono ?_
    rw [P0.out]
    rintro e w2 ⟨rfl, gw2⟩
    have hS := hS.below gw2
    clear gw2
    go_wp2_with (first
      | (refine wpList_alloc_at hS rfl 24 rfl (wcells 0) (zeroW _) ?_; clear hS; intro wn hS hz; clear hz)
      | ((first | refine wpList_store_at 0 hS rfl 24 _ _ rfl _ rfl (wcells _) rfl (wcells _) 24 rfl infoW rfl (ones_w _) ?_ | refine wpList_store_at 1 hS rfl 24 _ _ rfl _ rfl (wcells _) rfl (wcells _) 24 rfl infoW rfl (ones_w _) ?_ | refine wpList_store_at 2 hS rfl 24 _ _ rfl _ rfl (wcells _) rfl (wcells _) 24 rfl infoW rfl (ones_w _) ?_); clear hS; intro wn hS hz; clear hz; simp only [List.set_cons_zero, List.set_cons_succ] at hS)
      | (refine wpList_load_at hS (by rfl) 24 _ rfl _ rfl (wcells _) 24 (by first | exact mem_0 | exact mem_1 | exact mem_2 | exact mem_3 | exact mem_4 | exact mem_5 | exact mem_6 | exact mem_7 | exact mem_8 | exact mem_9 | exact mem_10 | exact mem_11 | exact mem_12 | exact mem_13 | exact mem_14 | exact mem_15) _ Try.underlying24 rfl infoW ?_))
    go_ret
    exact ⟨rfl, hS.bel⟩
  · obtain ⟨q, hq⟩ : ∃ q, q = N / n := ⟨_, rfl⟩
    obtain ⟨r, hr⟩ : ∃ r, r = N % n := ⟨_, rfl⟩
    have hrn : r < n := by rw [hr]; exact Nat.mod_lt _ (by omega)
    have hN2 : q * n + r = N := by rw [hq, hr, Nat.mul_comm]; exact Nat.div_add_mod N n
    have P0 := Lib.hid (show partR N n = (q, r) from by unfold partR; rw [if_neg hz, hq, hr])
    have kp : q * n < 2 ^ 256 := by omega
    have kq : q < 2 ^ 256 := by rw [hq]; exact Nat.lt_of_le_of_lt (Nat.div_le_self _ _) hN
    have kr : r < 18446744073709551616 := by omega
    have kr2 : r < 2 ^ 256 := by omega
    have T0 := Lib.hid (show timesR q n = (q * n, true) from by unfold timesR; rw [if_pos kp])
    have A0 := Lib.hid (show addR (q * n) r = (N, true) from by unfold addR; rw [hN2, if_pos hN])
    have nq := num kq
    have np := num kp
    have d0 : ((n : Int) == 0) = false := by simpa using hz
    have d1 : decide ((n : Int) = 0) = false := by simpa using hz
    have d2 : decide ((r : Int) < n) = true := by simpa using hrn
    clear hq hr hN2 hz
    have hS := Held.start W
    go_enter Try.func5, Try.ntmps5
    go_wp2_with (refine wpList_box_at hS rfl 24 _ rfl (wcells _) rfl ?_; clear hS; intro wn hS hz; clear hz)
    refine (awake4_any _).mono ?_
    rintro e w1 ⟨rfl, gw1⟩
    have hS := hS.below gw1
    clear gw1
    go_wp2_with (refine wpList_load_at hS (by rfl) 24 _ rfl _ rfl (wcells _) 24 (by first | exact mem_0 | exact mem_1 | exact mem_2 | exact mem_3 | exact mem_4 | exact mem_5 | exact mem_6 | exact mem_7 | exact mem_8 | exact mem_9 | exact mem_10 | exact mem_11 | exact mem_12 | exact mem_13 | exact mem_14 | exact mem_15) _ Try.underlying24 rfl infoW ?_)
    refine (wPart_any _ _ _ (by first | assumption | exact addR_lt _ _ | exact timesR_lt _ _ | exact subR_lt _ _ (by assumption) | exact partR_lt _ _ (by assumption) | exact fromB_lt _ | decide | omega) (by first | assumption | exact addR_lt _ _ | exact timesR_lt _ _ | exact subR_lt _ _ (by assumption) | exact partR_lt _ _ (by assumption) | exact fromB_lt _ | decide | omega)).mono ?_
    rw [P0.out]
    rintro e w2 ⟨rfl, gw2⟩
    have hS := hS.below gw2
    clear gw2
    go_wp2_with (first
      | (refine wpList_alloc_at hS rfl 24 rfl (wcells 0) (zeroW _) ?_; clear hS; intro wn hS hz; clear hz)
      | ((first | refine wpList_store_at 0 hS rfl 24 _ _ rfl _ rfl (wcells _) rfl (wcells _) 24 rfl infoW rfl (ones_w _) ?_ | refine wpList_store_at 1 hS rfl 24 _ _ rfl _ rfl (wcells _) rfl (wcells _) 24 rfl infoW rfl (ones_w _) ?_ | refine wpList_store_at 2 hS rfl 24 _ _ rfl _ rfl (wcells _) rfl (wcells _) 24 rfl infoW rfl (ones_w _) ?_); clear hS; intro wn hS hz; clear hz; simp only [List.set_cons_zero, List.set_cons_succ] at hS)
      | (refine wpList_load_at hS (by rfl) 24 _ rfl _ rfl (wcells _) 24 (by first | exact mem_0 | exact mem_1 | exact mem_2 | exact mem_3 | exact mem_4 | exact mem_5 | exact mem_6 | exact mem_7 | exact mem_8 | exact mem_9 | exact mem_10 | exact mem_11 | exact mem_12 | exact mem_13 | exact mem_14 | exact mem_15) _ Try.underlying24 rfl infoW ?_))
    refine (refTimes_any _ _ _ (by first | assumption | exact addR_lt _ _ | exact timesR_lt _ _ | exact subR_lt _ _ (by assumption) | exact partR_lt _ _ (by assumption) | exact fromB_lt _ | decide | omega) (by first | assumption | exact addR_lt _ _ | exact timesR_lt _ _ | exact subR_lt _ _ (by assumption) | exact partR_lt _ _ (by assumption) | exact fromB_lt _ | decide | omega)).mono ?_
    rw [T0.out]
    rintro e w3 ⟨rfl, gw3⟩
    have hS := hS.below gw3
    clear gw3
    go_upto_region 7 with (first | (refine wpList_alloc_at hS rfl 24 rfl (wcells 0) (zeroW _) ?_; clear hS; intro wn hS hz; clear hz) | ((first | refine wpList_store_at 0 hS rfl 24 _ _ rfl _ rfl (wcells _) rfl (wcells _) 24 rfl infoW rfl (ones_w _) ?_ | refine wpList_store_at 1 hS rfl 24 _ _ rfl _ rfl (wcells _) rfl (wcells _) 24 rfl infoW rfl (ones_w _) ?_ | refine wpList_store_at 2 hS rfl 24 _ _ rfl _ rfl (wcells _) rfl (wcells _) 24 rfl infoW rfl (ones_w _) ?_ | refine wpList_store_at 3 hS rfl 24 _ _ rfl _ rfl (wcells _) rfl (wcells _) 24 rfl infoW rfl (ones_w _) ?_); clear hS; intro wn hS hz; clear hz; simp only [List.set_cons_zero, List.set_cons_succ] at hS))
    try simp only [Act.put, List.getElem_toArray, List.getElem_cons_succ, List.getElem_cons_zero, List.setIfInBounds_toArray, List.set_cons_zero, List.set_cons_succ]
    obtain ⟨LL, eL, hSL⟩ := hS.named
    clear hS
    go_cut [11, 12] (fun u v w' => ∃ b : Nat, u = .pointer (some ⟨b, 0, none⟩) ∧ v = .bool true ∧ Held ((b, wcells N, 24) :: LL) W w')
    case first =>
      subst eL
      refine wp_region_held_drew (S := Held _ W) (by kernel_rfl) hSL.drew (fun hHeld => ?_)
      refine wpAnyH_take (i := 0) (oi := _) (v := _) rfl (by kernel_rfl) (by kernel_rfl) (by kernel_rfl) (fun _ _ _ h => h) (yieldsIf_load_mid (by kernel_rfl) _ _ rfl _ _ rfl _ _ (fun w h => h.rng 0 rfl) Try.underlying24 rfl infoW) hHeld ?_
      try simp only [Act.put, List.getElem_toArray, List.getElem_cons_succ, List.getElem_cons_zero, List.setIfInBounds_toArray, List.set_cons_zero, List.set_cons_succ]
      refine wpAnyH_take (i := 1) (oi := _) (v := ?_) rfl (by kernel_rfl) (by kernel_rfl) (by kernel_rfl) (fun _ _ _ h => h) (Or.inl ⟨by kernel_rfl, ?_⟩) hHeld ?_
      rotate_left
      · (intro w hSw; go_simp; try with_reducible rfl)
      try simp only [Act.put, List.getElem_toArray, List.getElem_cons_succ, List.getElem_cons_zero, List.setIfInBounds_toArray, List.set_cons_zero, List.set_cons_succ]
      refine wpAnyH_ready (rs := [2, 7]) (by kernel_rfl) (by simp) ?_
      refine AllReadyH.cons (o := _) rfl (fun K hK => ?_) (AllReadyH.cons (o := _) rfl (fun K hK => ?_) AllReadyH.nil)
      · go_simp
        go_at_call 21
        refine (wOf_any _ _ (by first | assumption | exact addR_lt _ _ | exact timesR_lt _ _ | exact subR_lt _ _ (by assumption) | exact partR_lt _ _ (by assumption) | exact fromB_lt _ | decide | omega)).mono ?_
        rintro e w4 ⟨rfl, gw4⟩
        refine hK.out _ _ (hHeld.below gw4) (fun hHeld => ?_)
        clear hK K
        try simp only [Act.put, List.getElem_toArray, List.getElem_cons_succ, List.getElem_cons_zero, List.setIfInBounds_toArray, List.set_cons_zero, List.set_cons_succ]
        refine wpAnyH_ready (rs := [3, 7]) (by kernel_rfl) (by simp) ?_
        refine AllReadyH.cons (o := _) rfl (fun K hK => ?_) (AllReadyH.cons (o := _) rfl (fun K hK => ?_) AllReadyH.nil)
        · go_simp
          go_at_call 13
          refine (refAdd_any _ _ _ (by first | assumption | exact addR_lt _ _ | exact timesR_lt _ _ | exact subR_lt _ _ (by assumption) | exact partR_lt _ _ (by assumption) | exact fromB_lt _ | decide | omega) (by first | assumption | exact addR_lt _ _ | exact timesR_lt _ _ | exact subR_lt _ _ (by assumption) | exact partR_lt _ _ (by assumption) | exact fromB_lt _ | decide | omega)).mono ?_
          rw [A0.out]
          rintro e w5 ⟨rfl, gw5⟩
          refine hK.out _ _ (hHeld.below gw5) (fun hHeld => ?_)
          clear hK K
          try simp only [Act.put, List.getElem_toArray, List.getElem_cons_succ, List.getElem_cons_zero, List.setIfInBounds_toArray, List.set_cons_zero, List.set_cons_succ]
          refine wpAnyH_take (i := 4) (oi := _) (v := ?_) rfl (by kernel_rfl) (by kernel_rfl) (by kernel_rfl) (fun _ _ _ h => h) (Or.inl ⟨by kernel_rfl, ?_⟩) hHeld ?_
          rotate_left
          · (intro w hSw; go_simp; try with_reducible rfl)
          try simp only [Act.put, List.getElem_toArray, List.getElem_cons_succ, List.getElem_cons_zero, List.setIfInBounds_toArray, List.set_cons_zero, List.set_cons_succ]
          refine wpAnyH_take (i := 5) (oi := _) (v := ?_) rfl (by kernel_rfl) (by kernel_rfl) (by kernel_rfl) (fun _ _ _ h => h) (Or.inl ⟨by kernel_rfl, ?_⟩) hHeld ?_
          rotate_left
          · (intro w hSw; go_simp; try with_reducible rfl)
          try simp only [Act.put, List.getElem_toArray, List.getElem_cons_succ, List.getElem_cons_zero, List.setIfInBounds_toArray, List.set_cons_zero, List.set_cons_succ]
          refine wpAnyH_take (i := 6) (oi := _) (v := ?_) rfl (by kernel_rfl) (by kernel_rfl) (by kernel_rfl) (fun _ _ _ h => h) (Or.inl ⟨by kernel_rfl, ?_⟩) hHeld ?_
          rotate_left
          · (intro w hSw; go_simp; try with_reducible rfl)
          try simp only [Act.put, List.getElem_toArray, List.getElem_cons_succ, List.getElem_cons_zero, List.setIfInBounds_toArray, List.set_cons_zero, List.set_cons_succ]
          refine wpAnyH_ready (rs := [7]) (by kernel_rfl) (by simp) ?_
          refine AllReadyH.cons (o := _) rfl (fun K hK => ?_) AllReadyH.nil
          go_simp
          have hF := hHeld.fresh (wcells 0) 24
          refine hK.out _ _ (hHeld.alloc _) (fun hHeld => ?_)
          clear hK K
          try simp only [Act.put, List.getElem_toArray, List.getElem_cons_succ, List.getElem_cons_zero, List.setIfInBounds_toArray, List.set_cons_zero, List.set_cons_succ]
          refine wpAnyH_ready (rs := [8]) (by kernel_rfl) (by simp) ?_
          refine AllReadyH.cons (o := _) rfl (fun K hK => ?_) AllReadyH.nil
          refine step_store_row (by kernel_rfl) 24 (.tmp 11) (.tmp 43) rfl _ (wcells _).toArray rfl rfl 24 (wcells 0).toArray hF.row (infoW' _) rfl (ones_w _) ?_
          have hP := hHeld.more hF (wcells N)
          refine hK.out _ _ (hHeld.stored hF (wcells N)) (fun hHeld => ?_)
          clear hK K
          try simp only [Act.put, List.getElem_toArray, List.getElem_cons_succ, List.getElem_cons_zero, List.setIfInBounds_toArray, List.set_cons_zero, List.set_cons_succ]
          refine wpAnyH_take (i := 9) (oi := _) (v := ?_) rfl (by kernel_rfl) (by kernel_rfl) (by kernel_rfl) (fun _ _ _ h => h) (Or.inl ⟨by kernel_rfl, ?_⟩) hHeld ?_
          rotate_left
          · (intro w hSw; go_simp; try with_reducible rfl)
          try simp only [Act.put, List.getElem_toArray, List.getElem_cons_succ, List.getElem_cons_zero, List.setIfInBounds_toArray, List.set_cons_zero, List.set_cons_succ]
          refine wpAnyH_done (by kernel_rfl) ?_ _
          go_wp2_with fail
          go_meet
          case rel => exact ⟨_, rfl, rfl, hP⟩
        · go_simp
          have hF := hHeld.fresh (wcells 0) 24
          refine hK.out _ _ (hHeld.alloc _) (fun hHeld => ?_)
          clear hK K
          try simp only [Act.put, List.getElem_toArray, List.getElem_cons_succ, List.getElem_cons_zero, List.setIfInBounds_toArray, List.set_cons_zero, List.set_cons_succ]
          refine wpAnyH_ready (rs := [3]) (by kernel_rfl) (by simp) ?_
          refine AllReadyH.cons (o := _) rfl (fun K hK => ?_) AllReadyH.nil
          go_simp
          go_at_call 13
          refine (refAdd_any _ _ _ (by first | assumption | exact addR_lt _ _ | exact timesR_lt _ _ | exact subR_lt _ _ (by assumption) | exact partR_lt _ _ (by assumption) | exact fromB_lt _ | decide | omega) (by first | assumption | exact addR_lt _ _ | exact timesR_lt _ _ | exact subR_lt _ _ (by assumption) | exact partR_lt _ _ (by assumption) | exact fromB_lt _ | decide | omega)).mono ?_
          rw [A0.out]
          rintro e w5 ⟨rfl, gw5⟩
          have hF := hF.below gw5
          refine hK.out _ _ (hHeld.below gw5) (fun hHeld => ?_)
          clear hK K
          try simp only [Act.put, List.getElem_toArray, List.getElem_cons_succ, List.getElem_cons_zero, List.setIfInBounds_toArray, List.set_cons_zero, List.set_cons_succ]
          refine wpAnyH_take (i := 4) (oi := _) (v := ?_) rfl (by kernel_rfl) (by kernel_rfl) (by kernel_rfl) (fun _ _ _ h => h) (Or.inl ⟨by kernel_rfl, ?_⟩) hHeld ?_
          rotate_left
          · (intro w hSw; go_simp; try with_reducible rfl)
          try simp only [Act.put, List.getElem_toArray, List.getElem_cons_succ, List.getElem_cons_zero, List.setIfInBounds_toArray, List.set_cons_zero, List.set_cons_succ]
          refine wpAnyH_take (i := 5) (oi := _) (v := ?_) rfl (by kernel_rfl) (by kernel_rfl) (by kernel_rfl) (fun _ _ _ h => h) (Or.inl ⟨by kernel_rfl, ?_⟩) hHeld ?_
          rotate_left
          · (intro w hSw; go_simp; try with_reducible rfl)
          try simp only [Act.put, List.getElem_toArray, List.getElem_cons_succ, List.getElem_cons_zero, List.setIfInBounds_toArray, List.set_cons_zero, List.set_cons_succ]
          refine wpAnyH_take (i := 6) (oi := _) (v := ?_) rfl (by kernel_rfl) (by kernel_rfl) (by kernel_rfl) (fun _ _ _ h => h) (Or.inl ⟨by kernel_rfl, ?_⟩) hHeld ?_
          rotate_left
          · (intro w hSw; go_simp; try with_reducible rfl)
          try simp only [Act.put, List.getElem_toArray, List.getElem_cons_succ, List.getElem_cons_zero, List.setIfInBounds_toArray, List.set_cons_zero, List.set_cons_succ]
          refine wpAnyH_ready (rs := [8]) (by kernel_rfl) (by simp) ?_
          refine AllReadyH.cons (o := _) rfl (fun K hK => ?_) AllReadyH.nil
          refine step_store_row (by kernel_rfl) 24 (.tmp 11) (.tmp 43) rfl _ (wcells _).toArray rfl rfl 24 (wcells 0).toArray hF.row (infoW' _) rfl (ones_w _) ?_
          have hP := hHeld.more hF (wcells N)
          refine hK.out _ _ (hHeld.stored hF (wcells N)) (fun hHeld => ?_)
          clear hK K
          try simp only [Act.put, List.getElem_toArray, List.getElem_cons_succ, List.getElem_cons_zero, List.setIfInBounds_toArray, List.set_cons_zero, List.set_cons_succ]
          refine wpAnyH_take (i := 9) (oi := _) (v := ?_) rfl (by kernel_rfl) (by kernel_rfl) (by kernel_rfl) (fun _ _ _ h => h) (Or.inl ⟨by kernel_rfl, ?_⟩) hHeld ?_
          rotate_left
          · (intro w hSw; go_simp; try with_reducible rfl)
          try simp only [Act.put, List.getElem_toArray, List.getElem_cons_succ, List.getElem_cons_zero, List.setIfInBounds_toArray, List.set_cons_zero, List.set_cons_succ]
          refine wpAnyH_done (by kernel_rfl) ?_ _
          go_wp2_with fail
          go_meet
          case rel => exact ⟨_, rfl, rfl, hP⟩
      · go_simp
        have hF := hHeld.fresh (wcells 0) 24
        refine hK.out _ _ (hHeld.alloc _) (fun hHeld => ?_)
        clear hK K
        try simp only [Act.put, List.getElem_toArray, List.getElem_cons_succ, List.getElem_cons_zero, List.setIfInBounds_toArray, List.set_cons_zero, List.set_cons_succ]
        refine wpAnyH_ready (rs := [2]) (by kernel_rfl) (by simp) ?_
        refine AllReadyH.cons (o := _) rfl (fun K hK => ?_) AllReadyH.nil
        go_simp
        go_at_call 21
        refine (wOf_any _ _ (by first | assumption | exact addR_lt _ _ | exact timesR_lt _ _ | exact subR_lt _ _ (by assumption) | exact partR_lt _ _ (by assumption) | exact fromB_lt _ | decide | omega)).mono ?_
        rintro e w4 ⟨rfl, gw4⟩
        have hF := hF.below gw4
        refine hK.out _ _ (hHeld.below gw4) (fun hHeld => ?_)
        clear hK K
        try simp only [Act.put, List.getElem_toArray, List.getElem_cons_succ, List.getElem_cons_zero, List.setIfInBounds_toArray, List.set_cons_zero, List.set_cons_succ]
        refine wpAnyH_ready (rs := [3]) (by kernel_rfl) (by simp) ?_
        refine AllReadyH.cons (o := _) rfl (fun K hK => ?_) AllReadyH.nil
        go_simp
        go_at_call 13
        refine (refAdd_any _ _ _ (by first | assumption | exact addR_lt _ _ | exact timesR_lt _ _ | exact subR_lt _ _ (by assumption) | exact partR_lt _ _ (by assumption) | exact fromB_lt _ | decide | omega) (by first | assumption | exact addR_lt _ _ | exact timesR_lt _ _ | exact subR_lt _ _ (by assumption) | exact partR_lt _ _ (by assumption) | exact fromB_lt _ | decide | omega)).mono ?_
        rw [A0.out]
        rintro e w5 ⟨rfl, gw5⟩
        have hF := hF.below gw5
        refine hK.out _ _ (hHeld.below gw5) (fun hHeld => ?_)
        clear hK K
        try simp only [Act.put, List.getElem_toArray, List.getElem_cons_succ, List.getElem_cons_zero, List.setIfInBounds_toArray, List.set_cons_zero, List.set_cons_succ]
        refine wpAnyH_take (i := 4) (oi := _) (v := ?_) rfl (by kernel_rfl) (by kernel_rfl) (by kernel_rfl) (fun _ _ _ h => h) (Or.inl ⟨by kernel_rfl, ?_⟩) hHeld ?_
        rotate_left
        · (intro w hSw; go_simp; try with_reducible rfl)
        try simp only [Act.put, List.getElem_toArray, List.getElem_cons_succ, List.getElem_cons_zero, List.setIfInBounds_toArray, List.set_cons_zero, List.set_cons_succ]
        refine wpAnyH_take (i := 5) (oi := _) (v := ?_) rfl (by kernel_rfl) (by kernel_rfl) (by kernel_rfl) (fun _ _ _ h => h) (Or.inl ⟨by kernel_rfl, ?_⟩) hHeld ?_
        rotate_left
        · (intro w hSw; go_simp; try with_reducible rfl)
        try simp only [Act.put, List.getElem_toArray, List.getElem_cons_succ, List.getElem_cons_zero, List.setIfInBounds_toArray, List.set_cons_zero, List.set_cons_succ]
        refine wpAnyH_take (i := 6) (oi := _) (v := ?_) rfl (by kernel_rfl) (by kernel_rfl) (by kernel_rfl) (fun _ _ _ h => h) (Or.inl ⟨by kernel_rfl, ?_⟩) hHeld ?_
        rotate_left
        · (intro w hSw; go_simp; try with_reducible rfl)
        try simp only [Act.put, List.getElem_toArray, List.getElem_cons_succ, List.getElem_cons_zero, List.setIfInBounds_toArray, List.set_cons_zero, List.set_cons_succ]
        refine wpAnyH_ready (rs := [8]) (by kernel_rfl) (by simp) ?_
        refine AllReadyH.cons (o := _) rfl (fun K hK => ?_) AllReadyH.nil
        refine step_store_row (by kernel_rfl) 24 (.tmp 11) (.tmp 43) rfl _ (wcells _).toArray rfl rfl 24 (wcells 0).toArray hF.row (infoW' _) rfl (ones_w _) ?_
        have hP := hHeld.more hF (wcells N)
        refine hK.out _ _ (hHeld.stored hF (wcells N)) (fun hHeld => ?_)
        clear hK K
        try simp only [Act.put, List.getElem_toArray, List.getElem_cons_succ, List.getElem_cons_zero, List.setIfInBounds_toArray, List.set_cons_zero, List.set_cons_succ]
        refine wpAnyH_take (i := 9) (oi := _) (v := ?_) rfl (by kernel_rfl) (by kernel_rfl) (by kernel_rfl) (fun _ _ _ h => h) (Or.inl ⟨by kernel_rfl, ?_⟩) hHeld ?_
        rotate_left
        · (intro w hSw; go_simp; try with_reducible rfl)
        try simp only [Act.put, List.getElem_toArray, List.getElem_cons_succ, List.getElem_cons_zero, List.setIfInBounds_toArray, List.set_cons_zero, List.set_cons_succ]
        refine wpAnyH_done (by kernel_rfl) ?_ _
        go_wp2_with fail
        go_meet
        case rel => exact ⟨_, rfl, rfl, hP⟩
    case rest =>
    obtain ⟨b11, rfl, rfl, hS⟩ := hcut
    clear hSL
    subst eL
    apply_assumption
    go_wp2_with (refine wpList_load_at hS (by rfl) 24 _ rfl _ rfl (wcells _) 24 (by first | exact mem_0 | exact mem_1 | exact mem_2 | exact mem_3 | exact mem_4 | exact mem_5 | exact mem_6 | exact mem_7 | exact mem_8 | exact mem_9 | exact mem_10 | exact mem_11 | exact mem_12 | exact mem_13 | exact mem_14 | exact mem_15) _ Try.underlying24 rfl infoW ?_)
    go_ret
    exact ⟨rfl, hS.bel⟩
end
open Go.ChangeShapes Go.WideShapes Go.ChangeAt
set_option maxRecDepth 100000 in
theorem lifted (os : Os) (started : os.Started) (H : Type) (enc : TypeId × Value → H) :
    ReturnsInHanded {} Try.checked os 5 .any (Rows.widePartsSpec.pre6 enc Try.prog Try.f5 Rows.widePartsRow.domain false) (Rows.widePartsSpec.post enc Try.prog Try.f5 false true false false) := by
  refine returnsInHanded_of_change (C := Try.checked) own started (by kernel_rfl) Try.func5
    (ChangeSpec.witness6 (enc := enc) (C := Try.checked) false ⟨#[], #[.agg #[.int .u64 0, .int .u64 0, .int .u64 0, .int .u64 0], .int .u64 0], []⟩ 8 (by kernel_rfl) (by kernel_rfl) (by kernel_rfl) (by kernel_rfl)) ?_
  intro W base args ds gs before hval0 hW hcnd _
  have hval : ∀ (j : Nat) t v, Try.f5.params[j]? = some t → args[j]? = some v → Value.okWide Try.prog W .any base t v := hval0
  have hW' := hW
  obtain ⟨p, q, hA0, hV, rfl, hfz, hnd⟩ := hW
  have hA : DataW.TrodAll enc Try.prog W 0 (fun _ => true) true Try.f5.params.toList args.toList ds p := hA0
  rw [Try.params5] at hA hval
  obtain ⟨v0, vs0, d0, ds0, p0, q0, hargs, rfl, rfl, h0, r0⟩ := trodAll_cons hA
  obtain ⟨v1, vs1, d1, ds1, p1, q1, rfl, rfl, rfl, h1, r1⟩ := trodAll_cons r0
  obtain ⟨rfl, rfl, rfl⟩ := trodAll_nil r1
  obtain rfl : args = #[v0, v1] := by cases args; simp_all
  obtain ⟨rfl, rfl⟩ := trodVars_none hV
  have k0 := h0
  have lt0 : ∀ x ∈ p0, x.block < W.heap.size := by obtain ⟨m, hm⟩ := k0; exact DataW.trod_lt m _ _ _ hm
  have k1 := h1
  have lt1 : ∀ x ∈ p1, x.block < W.heap.size := by obtain ⟨m, hm⟩ := k1; exact DataW.trod_lt m _ _ _ hm
  obtain ⟨Nx0, rfl, hNx0⟩ := op_wide (hval 0 24 v0 rfl rfl) h0
  obtain ⟨nx1, rfl, hix1⟩ := op_u64 (hval 1 22 v1 rfl rfl) h1
  clear hA0 hval0
  refine (walk Nx0 nx1 W hNx0 hix1).mono fun e W' ⟨he, bel⟩ => ?_
  subst he
  exact ⟨_, rfl, _, _, _, [], _, [], hW', trodAll_mk1 (shut_bool Try.underlying4 _), trodAll_cons_mk (Below.trod laidOut (by kernel_rfl) (of_decide_eq_true (by kernel_rfl)) k0 bel lt0) (trodAll_cons_mk (Below.trod laidOut (by kernel_rfl) (of_decide_eq_true (by kernel_rfl)) k1 bel lt1) (trodAll_mk0)), rfl, bel.frame _, fun h => by cases h⟩

theorem over : Rows.widePartsRow.holds Try.pinned (OpenSpec.ofChange Rows.widePartsSpec) :=
  OpenClaim.holds_of_wide 5 Try.f5 rfl rfl rfl rfl rfl rfl rfl ⟨rfl, rfl, rfl, rfl, rfl⟩ rfl rfl rfl rfl rfl (by kernel_rfl) Try.func5 (by kernel_rfl)
    (of_decide_eq_true (by kernel_rfl)) (by unfold Func.isWrapper; first | (rw [if_pos (by decide +kernel)]; kernel_rfl) | (rw [if_neg (by decide +kernel)]; exact ⟨rfl, rfl⟩))
    (fun os started H enc _ => lifted os started H enc)

theorem proved : Rows.WidePartsSaid := over
end Go.Proofs.Ytppgpdckaaabeaa.wideParts
