/- Sums and differences turned about, without the reference: for every three numbers the law WideTurns returns true, and its arguments read afterwards as they read before. No condition. -/
import Derived.Test.YtppgpdckaaabeaaRows
import Derived.WalkKit
import Derived.Below
import Derived.ProofKit
import Derived.OpenShut
import Derived.ShutString
import Derived.ChangeOld
import Derived.Outline
import Derived.RegionTactic
import Derived.ChangeAlike
import Derived.BigRegion
import Derived.BigQuiet
import Derived.Deep.QuietTactic
import Derived.Deep.RegionWith
import Derived.Deep.RegionLaw
import Derived.Deep.RegionHeld3
import Derived.Deep.AppendLies
import Derived.Deep.Draws
import Derived.StillTailTactics
import Derived.Lib.Hide
import Derived.Lib.SmallJoins
import Derived.Handy
import Derived.WalkSpells
import Derived.WalkLawsBesides
import Derived.Deep.LoopGhost
import Derived.Deep.DeepCutAuto
import Derived.Great.BuildSlice
import Derived.Test.YtppgpdckaaabeaaWideQ
namespace Go.Proofs.Ytppgpdckaaabeaa.wideTurns
open Go.RowKit
set_option linter.unusedSimpArgs false
set_option linter.unusedVariables false
set_option linter.unnecessarySimpa false
section
attribute [local go_sem] eqNum guardW addNum timesNum fromBNum lit0 ext_list app_list
set_option maxHeartbeats 8000000 in
set_option maxRecDepth 100000 in
theorem walk (N M C : Nat) (W : World) (hN : N < 2 ^ 256) (hM : M < 2 ^ 256) (hC : C < 2 ^ 256) : Calls Try.prog 6 #[aggN N, aggN M, aggN C] W fun e w' => e = .returned (.bool true) ∧ Below W.heap.size W w' := by
  have kN := num hN
  have kM := num hM
  have kC := num hC
  by_cases hi : N + M < 2 ^ 256
  · rcases Nat.lt_trichotomy N M with ho | ho | ho
    · have hord : N < M := by omega
      have K1 := Lib.hid (show cmpN N M = -1 from by unfold cmpN; rw [if_pos hord])
      have K2 := Lib.hid (show cmpN M N = 1 from by unfold cmpN; rw [if_neg (by omega), if_pos hord])
      obtain ⟨s, hs⟩ : ∃ s, s = N + M := ⟨_, rfl⟩
      have ks : s < 2 ^ 256 := by rw [hs]; exact hi
      have ns := num ks
      have A1 := Lib.hid (show addR N M = (s, true) from by unfold addR; rw [if_pos hi, hs])
      have A2 := Lib.hid (show addR M N = (s, true) from by unfold addR; rw [Nat.add_comm M N, if_pos hi, hs])
      have D1 := Lib.hid (show subR s M = (N, true) from by unfold subR; rw [if_neg (by omega), hs, Nat.add_sub_cancel])
      obtain ⟨c, hc⟩ : ∃ c : Int, c = cmpN s N := ⟨_, rfl⟩
      have c0 : 0 ≤ c := by rw [hc]; unfold cmpN; rw [if_neg (by omega)]; split <;> decide
      have d0 : decide (c < 0) = false := by simpa using c0
      have K3 := Lib.hid hc
      clear hc hs
      have D2 := Lib.hid (show subR N M = (0, false) from by unfold subR; rw [if_pos hord])
      obtain ⟨u, z, hz⟩ : ∃ u z, sumR [N, M, C] = (u, z) := ⟨_, _, rfl⟩
      have ku : u < 2 ^ 256 := by have e := sum3 (B := M) (C := C) hN; rw [hz] at e; split at e <;> (obtain ⟨rfl, rfl⟩ := Prod.mk.inj e; first | assumption | decide)
      have nu := num ku
      have Z2 := Lib.hid (show sumR [C, N, M] = (u, z) from by rw [← hz, sum3 hN, sum3 hC, show C + N + M = N + M + C by omega])
      have Z1 := Lib.hid hz
      clear hz hi hord ho
      have hS := Held.start W
      go_enter Try.func6, Try.ntmps6
      go_wp2_with (refine wpList_box_at hS rfl 24 _ rfl (wcells _) rfl ?_; clear hS; intro wn hS hz; clear hz)
      refine (awake4_any _).mono ?_
      rintro e w1 ⟨rfl, gw1⟩
      have hS := hS.below gw1
      clear gw1
      go_wp2_with (refine wpList_load_at hS (by rfl) 24 _ rfl _ rfl (wcells _) 24 (by first | exact mem_0 | exact mem_1 | exact mem_2 | exact mem_3 | exact mem_4 | exact mem_5 | exact mem_6 | exact mem_7 | exact mem_8 | exact mem_9 | exact mem_10 | exact mem_11 | exact mem_12 | exact mem_13 | exact mem_14 | exact mem_15) _ Try.underlying24 rfl infoW ?_)
      refine (wAdd_any _ _ _ (by first | assumption | exact addR_lt _ _ | exact timesR_lt _ _ | exact subR_lt _ _ (by assumption) | exact partR_lt _ _ (by assumption) | exact fromB_lt _ | decide | omega) (by first | assumption | exact addR_lt _ _ | exact timesR_lt _ _ | exact subR_lt _ _ (by assumption) | exact partR_lt _ _ (by assumption) | exact fromB_lt _ | decide | omega)).mono ?_
      rw [A1.out]
      rintro e w2 ⟨rfl, gw2⟩
      have hS := hS.below gw2
      clear gw2
      go_wp2_with (first
        | (refine wpList_alloc_at hS rfl 24 rfl (wcells 0) (zeroW _) ?_; clear hS; intro wn hS hz; clear hz)
        | ((first | refine wpList_store_at 0 hS rfl 24 _ _ rfl _ rfl (wcells _) rfl (wcells _) 24 rfl infoW rfl (ones_w _) ?_ | refine wpList_store_at 1 hS rfl 24 _ _ rfl _ rfl (wcells _) rfl (wcells _) 24 rfl infoW rfl (ones_w _) ?_ | refine wpList_store_at 2 hS rfl 24 _ _ rfl _ rfl (wcells _) rfl (wcells _) 24 rfl infoW rfl (ones_w _) ?_ | refine wpList_store_at 3 hS rfl 24 _ _ rfl _ rfl (wcells _) rfl (wcells _) 24 rfl infoW rfl (ones_w _) ?_); clear hS; intro wn hS hz; clear hz; simp only [List.set_cons_zero, List.set_cons_succ] at hS)
        | (refine wpList_load_at hS (by rfl) 24 _ rfl _ rfl (wcells _) 24 (by first | exact mem_0 | exact mem_1 | exact mem_2 | exact mem_3 | exact mem_4 | exact mem_5 | exact mem_6 | exact mem_7 | exact mem_8 | exact mem_9 | exact mem_10 | exact mem_11 | exact mem_12 | exact mem_13 | exact mem_14 | exact mem_15) _ Try.underlying24 rfl infoW ?_))
      refine (wAdd_any _ _ _ (by first | assumption | exact addR_lt _ _ | exact timesR_lt _ _ | exact subR_lt _ _ (by assumption) | exact partR_lt _ _ (by assumption) | exact fromB_lt _ | decide | omega) (by first | assumption | exact addR_lt _ _ | exact timesR_lt _ _ | exact subR_lt _ _ (by assumption) | exact partR_lt _ _ (by assumption) | exact fromB_lt _ | decide | omega)).mono ?_
      rw [A2.out]
      rintro e w3 ⟨rfl, gw3⟩
      have hS := hS.below gw3
      clear gw3
      go_wp2_with (first
        | (refine wpList_alloc_at hS rfl 24 rfl (wcells 0) (zeroW _) ?_; clear hS; intro wn hS hz; clear hz)
        | ((first | refine wpList_store_at 0 hS rfl 24 _ _ rfl _ rfl (wcells _) rfl (wcells _) 24 rfl infoW rfl (ones_w _) ?_ | refine wpList_store_at 1 hS rfl 24 _ _ rfl _ rfl (wcells _) rfl (wcells _) 24 rfl infoW rfl (ones_w _) ?_ | refine wpList_store_at 2 hS rfl 24 _ _ rfl _ rfl (wcells _) rfl (wcells _) 24 rfl infoW rfl (ones_w _) ?_ | refine wpList_store_at 3 hS rfl 24 _ _ rfl _ rfl (wcells _) rfl (wcells _) 24 rfl infoW rfl (ones_w _) ?_ | refine wpList_store_at 4 hS rfl 24 _ _ rfl _ rfl (wcells _) rfl (wcells _) 24 rfl infoW rfl (ones_w _) ?_); clear hS; intro wn hS hz; clear hz; simp only [List.set_cons_zero, List.set_cons_succ] at hS)
        | (refine wpList_load_at hS (by rfl) 24 _ rfl _ rfl (wcells _) 24 (by first | exact mem_0 | exact mem_1 | exact mem_2 | exact mem_3 | exact mem_4 | exact mem_5 | exact mem_6 | exact mem_7 | exact mem_8 | exact mem_9 | exact mem_10 | exact mem_11 | exact mem_12 | exact mem_13 | exact mem_14 | exact mem_15) _ Try.underlying24 rfl infoW ?_))
      refine (wSub_any _ _ _ (by first | assumption | exact addR_lt _ _ | exact timesR_lt _ _ | exact subR_lt _ _ (by assumption) | exact partR_lt _ _ (by assumption) | exact fromB_lt _ | decide | omega) (by first | assumption | exact addR_lt _ _ | exact timesR_lt _ _ | exact subR_lt _ _ (by assumption) | exact partR_lt _ _ (by assumption) | exact fromB_lt _ | decide | omega)).mono ?_
      rw [D1.out]
      rintro e w4 ⟨rfl, gw4⟩
      have hS := hS.below gw4
      clear gw4
      go_wp2_with (first
        | (refine wpList_alloc_at hS rfl 24 rfl (wcells 0) (zeroW _) ?_; clear hS; intro wn hS hz; clear hz)
        | ((first | refine wpList_store_at 0 hS rfl 24 _ _ rfl _ rfl (wcells _) rfl (wcells _) 24 rfl infoW rfl (ones_w _) ?_ | refine wpList_store_at 1 hS rfl 24 _ _ rfl _ rfl (wcells _) rfl (wcells _) 24 rfl infoW rfl (ones_w _) ?_ | refine wpList_store_at 2 hS rfl 24 _ _ rfl _ rfl (wcells _) rfl (wcells _) 24 rfl infoW rfl (ones_w _) ?_ | refine wpList_store_at 3 hS rfl 24 _ _ rfl _ rfl (wcells _) rfl (wcells _) 24 rfl infoW rfl (ones_w _) ?_ | refine wpList_store_at 4 hS rfl 24 _ _ rfl _ rfl (wcells _) rfl (wcells _) 24 rfl infoW rfl (ones_w _) ?_ | refine wpList_store_at 5 hS rfl 24 _ _ rfl _ rfl (wcells _) rfl (wcells _) 24 rfl infoW rfl (ones_w _) ?_); clear hS; intro wn hS hz; clear hz; simp only [List.set_cons_zero, List.set_cons_succ] at hS)
        | (refine wpList_load_at hS (by rfl) 24 _ rfl _ rfl (wcells _) 24 (by first | exact mem_0 | exact mem_1 | exact mem_2 | exact mem_3 | exact mem_4 | exact mem_5 | exact mem_6 | exact mem_7 | exact mem_8 | exact mem_9 | exact mem_10 | exact mem_11 | exact mem_12 | exact mem_13 | exact mem_14 | exact mem_15) _ Try.underlying24 rfl infoW ?_))
      refine (wCompare_any _ _ _ (by first | assumption | exact addR_lt _ _ | exact timesR_lt _ _ | exact subR_lt _ _ (by assumption) | exact partR_lt _ _ (by assumption) | exact fromB_lt _ | decide | omega) (by first | assumption | exact addR_lt _ _ | exact timesR_lt _ _ | exact subR_lt _ _ (by assumption) | exact partR_lt _ _ (by assumption) | exact fromB_lt _ | decide | omega)).mono ?_
      rw [← K3.out]
      rintro e w5 ⟨rfl, gw5⟩
      have hS := hS.below gw5
      clear gw5
      go_wp2_with (first
        | (refine wpList_load_at hS (by rfl) 24 _ rfl _ rfl (wcells _) 24 (by first | exact mem_0 | exact mem_1 | exact mem_2 | exact mem_3 | exact mem_4 | exact mem_5 | exact mem_6 | exact mem_7 | exact mem_8 | exact mem_9 | exact mem_10 | exact mem_11 | exact mem_12 | exact mem_13 | exact mem_14 | exact mem_15) _ Try.underlying24 rfl infoW ?_)
        | (refine wpList_wides3 hS rfl 43 _ rfl Try.underlying43 N M C hN hM hC (by kernel_rfl) ?_; clear hS; intro wn hS hWi))
      refine (wSum_any _ _ _ _ _ hWi (by decide)).mono ?_
      rw [Z1.out]
      rintro e w6 ⟨rfl, gw6⟩
      have hS := hS.below gw6
      clear gw6
      clear hWi
      go_wp2_with (first
        | (refine wpList_alloc_at hS rfl 24 rfl (wcells 0) (zeroW _) ?_; clear hS; intro wn hS hz; clear hz)
        | ((first | refine wpList_store_at 0 hS rfl 24 _ _ rfl _ rfl (wcells _) rfl (wcells _) 24 rfl infoW rfl (ones_w _) ?_ | refine wpList_store_at 1 hS rfl 24 _ _ rfl _ rfl (wcells _) rfl (wcells _) 24 rfl infoW rfl (ones_w _) ?_ | refine wpList_store_at 2 hS rfl 24 _ _ rfl _ rfl (wcells _) rfl (wcells _) 24 rfl infoW rfl (ones_w _) ?_ | refine wpList_store_at 3 hS rfl 24 _ _ rfl _ rfl (wcells _) rfl (wcells _) 24 rfl infoW rfl (ones_w _) ?_ | refine wpList_store_at 4 hS rfl 24 _ _ rfl _ rfl (wcells _) rfl (wcells _) 24 rfl infoW rfl (ones_w _) ?_ | refine wpList_store_at 5 hS rfl 24 _ _ rfl _ rfl (wcells _) rfl (wcells _) 24 rfl infoW rfl (ones_w _) ?_ | refine wpList_store_at 6 hS rfl 24 _ _ rfl _ rfl (wcells _) rfl (wcells _) 24 rfl infoW rfl (ones_w _) ?_); clear hS; intro wn hS hz; clear hz; simp only [List.set_cons_zero, List.set_cons_succ] at hS)
        | (refine wpList_load_at hS (by rfl) 24 _ rfl _ rfl (wcells _) 24 (by first | exact mem_0 | exact mem_1 | exact mem_2 | exact mem_3 | exact mem_4 | exact mem_5 | exact mem_6 | exact mem_7 | exact mem_8 | exact mem_9 | exact mem_10 | exact mem_11 | exact mem_12 | exact mem_13 | exact mem_14 | exact mem_15) _ Try.underlying24 rfl infoW ?_)
        | (refine wpList_wides3 hS rfl 43 _ rfl Try.underlying43 C N M hC hN hM (by kernel_rfl) ?_; clear hS; intro wn hS hWi))
      refine (wSum_any _ _ _ _ _ hWi (by decide)).mono ?_
      rw [Z2.out]
      rintro e w7 ⟨rfl, gw7⟩
      have hS := hS.below gw7
      clear gw7
      clear hWi
      go_wp2_with (first
        | (refine wpList_alloc_at hS rfl 24 rfl (wcells 0) (zeroW _) ?_; clear hS; intro wn hS hz; clear hz)
        | ((first | refine wpList_store_at 0 hS rfl 24 _ _ rfl _ rfl (wcells _) rfl (wcells _) 24 rfl infoW rfl (ones_w _) ?_ | refine wpList_store_at 1 hS rfl 24 _ _ rfl _ rfl (wcells _) rfl (wcells _) 24 rfl infoW rfl (ones_w _) ?_ | refine wpList_store_at 2 hS rfl 24 _ _ rfl _ rfl (wcells _) rfl (wcells _) 24 rfl infoW rfl (ones_w _) ?_ | refine wpList_store_at 3 hS rfl 24 _ _ rfl _ rfl (wcells _) rfl (wcells _) 24 rfl infoW rfl (ones_w _) ?_ | refine wpList_store_at 4 hS rfl 24 _ _ rfl _ rfl (wcells _) rfl (wcells _) 24 rfl infoW rfl (ones_w _) ?_ | refine wpList_store_at 5 hS rfl 24 _ _ rfl _ rfl (wcells _) rfl (wcells _) 24 rfl infoW rfl (ones_w _) ?_ | refine wpList_store_at 6 hS rfl 24 _ _ rfl _ rfl (wcells _) rfl (wcells _) 24 rfl infoW rfl (ones_w _) ?_ | refine wpList_store_at 7 hS rfl 24 _ _ rfl _ rfl (wcells _) rfl (wcells _) 24 rfl infoW rfl (ones_w _) ?_); clear hS; intro wn hS hz; clear hz; simp only [List.set_cons_zero, List.set_cons_succ] at hS)
        | (refine wpList_load_at hS (by rfl) 24 _ rfl _ rfl (wcells _) 24 (by first | exact mem_0 | exact mem_1 | exact mem_2 | exact mem_3 | exact mem_4 | exact mem_5 | exact mem_6 | exact mem_7 | exact mem_8 | exact mem_9 | exact mem_10 | exact mem_11 | exact mem_12 | exact mem_13 | exact mem_14 | exact mem_15) _ Try.underlying24 rfl infoW ?_))
      refine (wSub_any _ _ _ (by first | assumption | exact addR_lt _ _ | exact timesR_lt _ _ | exact subR_lt _ _ (by assumption) | exact partR_lt _ _ (by assumption) | exact fromB_lt _ | decide | omega) (by first | assumption | exact addR_lt _ _ | exact timesR_lt _ _ | exact subR_lt _ _ (by assumption) | exact partR_lt _ _ (by assumption) | exact fromB_lt _ | decide | omega)).mono ?_
      rw [D2.out]
      rintro e w8 ⟨rfl, gw8⟩
      have hS := hS.below gw8
      clear gw8
      go_wp2_with (first
        | (refine wpList_alloc_at hS rfl 24 rfl (wcells 0) (zeroW _) ?_; clear hS; intro wn hS hz; clear hz)
        | ((first | refine wpList_store_at 0 hS rfl 24 _ _ rfl _ rfl (wcells _) rfl (wcells _) 24 rfl infoW rfl (ones_w _) ?_ | refine wpList_store_at 1 hS rfl 24 _ _ rfl _ rfl (wcells _) rfl (wcells _) 24 rfl infoW rfl (ones_w _) ?_ | refine wpList_store_at 2 hS rfl 24 _ _ rfl _ rfl (wcells _) rfl (wcells _) 24 rfl infoW rfl (ones_w _) ?_ | refine wpList_store_at 3 hS rfl 24 _ _ rfl _ rfl (wcells _) rfl (wcells _) 24 rfl infoW rfl (ones_w _) ?_ | refine wpList_store_at 4 hS rfl 24 _ _ rfl _ rfl (wcells _) rfl (wcells _) 24 rfl infoW rfl (ones_w _) ?_ | refine wpList_store_at 5 hS rfl 24 _ _ rfl _ rfl (wcells _) rfl (wcells _) 24 rfl infoW rfl (ones_w _) ?_ | refine wpList_store_at 6 hS rfl 24 _ _ rfl _ rfl (wcells _) rfl (wcells _) 24 rfl infoW rfl (ones_w _) ?_ | refine wpList_store_at 7 hS rfl 24 _ _ rfl _ rfl (wcells _) rfl (wcells _) 24 rfl infoW rfl (ones_w _) ?_ | refine wpList_store_at 8 hS rfl 24 _ _ rfl _ rfl (wcells _) rfl (wcells _) 24 rfl infoW rfl (ones_w _) ?_); clear hS; intro wn hS hz; clear hz; simp only [List.set_cons_zero, List.set_cons_succ] at hS))
      refine wp_region_held_drew (S := Held _ W) (by kernel_rfl) hS.drew (fun hHeld => ?_)
      refine wpAnyH_take (i := 0) (oi := _) (v := ?_) rfl (by kernel_rfl) (by kernel_rfl) (by kernel_rfl) (fun _ _ _ h => h) (Or.inl ⟨by kernel_rfl, ?_⟩) hHeld ?_
      rotate_left
      · (intro w hSw; go_simp; try with_reducible rfl)
      try simp only [Act.put, List.getElem_toArray, List.getElem_cons_succ, List.getElem_cons_zero, List.setIfInBounds_toArray, List.set_cons_zero, List.set_cons_succ]
      refine wpAnyH_take (i := 1) (oi := _) (v := ?_) rfl (by kernel_rfl) (by kernel_rfl) (by kernel_rfl) (fun _ _ _ h => h) (Or.inl ⟨by kernel_rfl, ?_⟩) hHeld ?_
      rotate_left
      · (intro w hSw; go_simp; try with_reducible rfl)
      try simp only [Act.put, List.getElem_toArray, List.getElem_cons_succ, List.getElem_cons_zero, List.setIfInBounds_toArray, List.set_cons_zero, List.set_cons_succ]
      refine wpAnyH_take (i := 2) (oi := _) (v := _) rfl (by kernel_rfl) (by kernel_rfl) (by kernel_rfl) (fun _ _ _ h => h) (yieldsIf_load_mid (by kernel_rfl) _ _ rfl _ _ rfl _ _ (fun w h => h.rng 2 rfl) Try.underlying24 rfl infoW) hHeld ?_
      try simp only [Act.put, List.getElem_toArray, List.getElem_cons_succ, List.getElem_cons_zero, List.setIfInBounds_toArray, List.set_cons_zero, List.set_cons_succ]
      refine wpAnyH_take (i := 3) (oi := _) (v := _) rfl (by kernel_rfl) (by kernel_rfl) (by kernel_rfl) (fun _ _ _ h => h) (yieldsIf_load_mid (by kernel_rfl) _ _ rfl _ _ rfl _ _ (fun w h => h.rng 1 rfl) Try.underlying24 rfl infoW) hHeld ?_
      try simp only [Act.put, List.getElem_toArray, List.getElem_cons_succ, List.getElem_cons_zero, List.setIfInBounds_toArray, List.set_cons_zero, List.set_cons_succ]
      refine wpAnyH_take (i := 4) (oi := _) (v := ?_) rfl (by kernel_rfl) (by kernel_rfl) (by kernel_rfl) (fun _ _ _ h => h) (Or.inl ⟨by kernel_rfl, ?_⟩) hHeld ?_
      rotate_left
      · (intro w hSw; go_simp; try with_reducible rfl)
      try simp only [Act.put, List.getElem_toArray, List.getElem_cons_succ, List.getElem_cons_zero, List.setIfInBounds_toArray, List.set_cons_zero, List.set_cons_succ]
      refine wpAnyH_take (i := 5) (oi := _) (v := ?_) rfl (by kernel_rfl) (by kernel_rfl) (by kernel_rfl) (fun _ _ _ h => h) (Or.inl ⟨by kernel_rfl, ?_⟩) hHeld ?_
      rotate_left
      · (intro w hSw; go_simp; try with_reducible rfl)
      try simp only [Act.put, List.getElem_toArray, List.getElem_cons_succ, List.getElem_cons_zero, List.setIfInBounds_toArray, List.set_cons_zero, List.set_cons_succ]
      refine wpAnyH_take (i := 6) (oi := _) (v := ?_) rfl (by kernel_rfl) (by kernel_rfl) (by kernel_rfl) (fun _ _ _ h => h) (Or.inl ⟨by kernel_rfl, ?_⟩) hHeld ?_
      rotate_left
      · (intro w hSw; go_simp; try with_reducible rfl)
      try simp only [Act.put, List.getElem_toArray, List.getElem_cons_succ, List.getElem_cons_zero, List.setIfInBounds_toArray, List.set_cons_zero, List.set_cons_succ]
      refine wpAnyH_take (i := 7) (oi := _) (v := ?_) rfl (by kernel_rfl) (by kernel_rfl) (by kernel_rfl) (fun _ _ _ h => h) (Or.inl ⟨by kernel_rfl, ?_⟩) hHeld ?_
      rotate_left
      · (intro w hSw; go_simp; try with_reducible rfl)
      try simp only [Act.put, List.getElem_toArray, List.getElem_cons_succ, List.getElem_cons_zero, List.setIfInBounds_toArray, List.set_cons_zero, List.set_cons_succ]
      refine wpAnyH_take (i := 8) (oi := _) (v := ?_) rfl (by kernel_rfl) (by kernel_rfl) (by kernel_rfl) (fun _ _ _ h => h) (Or.inl ⟨by kernel_rfl, ?_⟩) hHeld ?_
      rotate_left
      · (intro w hSw; go_simp; try with_reducible rfl)
      try simp only [Act.put, List.getElem_toArray, List.getElem_cons_succ, List.getElem_cons_zero, List.setIfInBounds_toArray, List.set_cons_zero, List.set_cons_succ]
      refine wpAnyH_take (i := 9) (oi := _) (v := ?_) rfl (by kernel_rfl) (by kernel_rfl) (by kernel_rfl) (fun _ _ _ h => h) (Or.inl ⟨by kernel_rfl, ?_⟩) hHeld ?_
      rotate_left
      · (intro w hSw; go_simp; try with_reducible rfl)
      try simp only [Act.put, List.getElem_toArray, List.getElem_cons_succ, List.getElem_cons_zero, List.setIfInBounds_toArray, List.set_cons_zero, List.set_cons_succ]
      refine wpAnyH_take (i := 10) (oi := _) (v := ?_) rfl (by kernel_rfl) (by kernel_rfl) (by kernel_rfl) (fun _ _ _ h => h) (Or.inl ⟨by kernel_rfl, ?_⟩) hHeld ?_
      rotate_left
      · (intro w hSw; go_simp; try with_reducible rfl)
      try simp only [Act.put, List.getElem_toArray, List.getElem_cons_succ, List.getElem_cons_zero, List.setIfInBounds_toArray, List.set_cons_zero, List.set_cons_succ]
      refine wpAnyH_take (i := 11) (oi := _) (v := ?_) rfl (by kernel_rfl) (by kernel_rfl) (by kernel_rfl) (fun _ _ _ h => h) (Or.inl ⟨by kernel_rfl, ?_⟩) hHeld ?_
      rotate_left
      · (intro w hSw; go_simp; try with_reducible rfl)
      try simp only [Act.put, List.getElem_toArray, List.getElem_cons_succ, List.getElem_cons_zero, List.setIfInBounds_toArray, List.set_cons_zero, List.set_cons_succ]
      refine wpAnyH_take (i := 12) (oi := _) (v := ?_) rfl (by kernel_rfl) (by kernel_rfl) (by kernel_rfl) (fun _ _ _ h => h) (Or.inl ⟨by kernel_rfl, ?_⟩) hHeld ?_
      rotate_left
      · (intro w hSw; go_simp; try with_reducible rfl)
      try simp only [Act.put, List.getElem_toArray, List.getElem_cons_succ, List.getElem_cons_zero, List.setIfInBounds_toArray, List.set_cons_zero, List.set_cons_succ]
      refine wpAnyH_take (i := 13) (oi := _) (v := _) rfl (by kernel_rfl) (by kernel_rfl) (by kernel_rfl) (fun _ _ _ h => h) (yieldsIf_load_mid (by kernel_rfl) _ _ rfl _ _ rfl _ _ (fun w h => h.rng 8 rfl) Try.underlying24 rfl infoW) hHeld ?_
      try simp only [Act.put, List.getElem_toArray, List.getElem_cons_succ, List.getElem_cons_zero, List.setIfInBounds_toArray, List.set_cons_zero, List.set_cons_succ]
      refine wpAnyH_take (i := 14) (oi := _) (v := _) rfl (by kernel_rfl) (by kernel_rfl) (by kernel_rfl) (fun _ _ _ h => h) (yieldsIf_load_mid (by kernel_rfl) _ _ rfl _ _ rfl _ _ (fun w h => h.rng 7 rfl) Try.underlying24 rfl infoW) hHeld ?_
      try simp only [Act.put, List.getElem_toArray, List.getElem_cons_succ, List.getElem_cons_zero, List.setIfInBounds_toArray, List.set_cons_zero, List.set_cons_succ]
      refine wpAnyH_ready (rs := [15]) (by kernel_rfl) (by simp) ?_
      refine AllReadyH.cons (o := _) rfl (fun K hK => ?_) AllReadyH.nil
      go_simp
      go_at_call 18
      refine (wCompare_any _ _ _ (by first | assumption | exact addR_lt _ _ | exact timesR_lt _ _ | exact subR_lt _ _ (by assumption) | exact partR_lt _ _ (by assumption) | exact fromB_lt _ | decide | omega) (by first | assumption | exact addR_lt _ _ | exact timesR_lt _ _ | exact subR_lt _ _ (by assumption) | exact partR_lt _ _ (by assumption) | exact fromB_lt _ | decide | omega)).mono ?_
      first | rw [K1.out] | rw [K2.out]
      rintro e w9 ⟨rfl, gw9⟩
      refine hK.out _ _ (hHeld.below gw9) (fun hHeld => ?_)
      clear hK K
      try simp only [Act.put, List.getElem_toArray, List.getElem_cons_succ, List.getElem_cons_zero, List.setIfInBounds_toArray, List.set_cons_zero, List.set_cons_succ]
      refine wpAnyH_take (i := 16) (oi := _) (v := ?_) rfl (by kernel_rfl) (by kernel_rfl) (by kernel_rfl) (fun _ _ _ h => h) (Or.inl ⟨by kernel_rfl, ?_⟩) hHeld ?_
      rotate_left
      · (intro w hSw; go_simp; try with_reducible rfl)
      try simp only [Act.put, List.getElem_toArray, List.getElem_cons_succ, List.getElem_cons_zero, List.setIfInBounds_toArray, List.set_cons_zero, List.set_cons_succ]
      refine wpAnyH_take (i := 17) (oi := _) (v := ?_) rfl (by kernel_rfl) (by kernel_rfl) (by kernel_rfl) (fun _ _ _ h => h) (Or.inl ⟨by kernel_rfl, ?_⟩) hHeld ?_
      rotate_left
      · (intro w hSw; go_simp; try with_reducible rfl)
      try simp only [Act.put, List.getElem_toArray, List.getElem_cons_succ, List.getElem_cons_zero, List.setIfInBounds_toArray, List.set_cons_zero, List.set_cons_succ]
      refine wpAnyH_take (i := 18) (oi := _) (v := ?_) rfl (by kernel_rfl) (by kernel_rfl) (by kernel_rfl) (fun _ _ _ h => h) (Or.inl ⟨by kernel_rfl, ?_⟩) hHeld ?_
      rotate_left
      · (intro w hSw; go_simp; try with_reducible rfl)
      try simp only [Act.put, List.getElem_toArray, List.getElem_cons_succ, List.getElem_cons_zero, List.setIfInBounds_toArray, List.set_cons_zero, List.set_cons_succ]
      refine wpAnyH_take (i := 19) (oi := _) (v := ?_) rfl (by kernel_rfl) (by kernel_rfl) (by kernel_rfl) (fun _ _ _ h => h) (Or.inl ⟨by kernel_rfl, ?_⟩) hHeld ?_
      rotate_left
      · (intro w hSw; go_simp; try with_reducible rfl)
      try simp only [Act.put, List.getElem_toArray, List.getElem_cons_succ, List.getElem_cons_zero, List.setIfInBounds_toArray, List.set_cons_zero, List.set_cons_succ]
      refine wpAnyH_take (i := 20) (oi := _) (v := _) rfl (by kernel_rfl) (by kernel_rfl) (by kernel_rfl) (fun _ _ _ h => h) (yieldsIf_load_mid (by kernel_rfl) _ _ rfl _ _ rfl _ _ (fun w h => h.rng 8 rfl) Try.underlying24 rfl infoW) hHeld ?_
      try simp only [Act.put, List.getElem_toArray, List.getElem_cons_succ, List.getElem_cons_zero, List.setIfInBounds_toArray, List.set_cons_zero, List.set_cons_succ]
      refine wpAnyH_take (i := 21) (oi := _) (v := _) rfl (by kernel_rfl) (by kernel_rfl) (by kernel_rfl) (fun _ _ _ h => h) (yieldsIf_load_mid (by kernel_rfl) _ _ rfl _ _ rfl _ _ (fun w h => h.rng 7 rfl) Try.underlying24 rfl infoW) hHeld ?_
      try simp only [Act.put, List.getElem_toArray, List.getElem_cons_succ, List.getElem_cons_zero, List.setIfInBounds_toArray, List.set_cons_zero, List.set_cons_succ]
      refine wpAnyH_take (i := 23) (oi := _) (v := _) rfl (by kernel_rfl) (by kernel_rfl) (by kernel_rfl) (fun _ _ _ h => h) (yieldsIf_load_mid (by kernel_rfl) _ _ rfl _ _ rfl _ _ (fun w h => h.rng 7 rfl) Try.underlying24 rfl infoW) hHeld ?_
      try simp only [Act.put, List.getElem_toArray, List.getElem_cons_succ, List.getElem_cons_zero, List.setIfInBounds_toArray, List.set_cons_zero, List.set_cons_succ]
      refine wpAnyH_take (i := 24) (oi := _) (v := _) rfl (by kernel_rfl) (by kernel_rfl) (by kernel_rfl) (fun _ _ _ h => h) (yieldsIf_load_mid (by kernel_rfl) _ _ rfl _ _ rfl _ _ (fun w h => h.rng 8 rfl) Try.underlying24 rfl infoW) hHeld ?_
      try simp only [Act.put, List.getElem_toArray, List.getElem_cons_succ, List.getElem_cons_zero, List.setIfInBounds_toArray, List.set_cons_zero, List.set_cons_succ]
      refine wpAnyH_ready (rs := [22]) (by kernel_rfl) (by simp) ?_
      refine AllReadyH.cons (o := _) rfl (fun K hK => ?_) AllReadyH.nil
      go_simp
      go_at_call 18
      refine (wCompare_any _ _ _ (by first | assumption | exact addR_lt _ _ | exact timesR_lt _ _ | exact subR_lt _ _ (by assumption) | exact partR_lt _ _ (by assumption) | exact fromB_lt _ | decide | omega) (by first | assumption | exact addR_lt _ _ | exact timesR_lt _ _ | exact subR_lt _ _ (by assumption) | exact partR_lt _ _ (by assumption) | exact fromB_lt _ | decide | omega)).mono ?_
      first | rw [K1.out] | rw [K2.out]
      rintro e w10 ⟨rfl, gw10⟩
      refine hK.out _ _ (hHeld.below gw10) (fun hHeld => ?_)
      clear hK K
      try simp only [Act.put, List.getElem_toArray, List.getElem_cons_succ, List.getElem_cons_zero, List.setIfInBounds_toArray, List.set_cons_zero, List.set_cons_succ]
      refine wpAnyH_ready (rs := [25]) (by kernel_rfl) (by simp) ?_
      refine AllReadyH.cons (o := _) rfl (fun K hK => ?_) AllReadyH.nil
      go_simp
      go_at_call 18
      refine (wCompare_any _ _ _ (by first | assumption | exact addR_lt _ _ | exact timesR_lt _ _ | exact subR_lt _ _ (by assumption) | exact partR_lt _ _ (by assumption) | exact fromB_lt _ | decide | omega) (by first | assumption | exact addR_lt _ _ | exact timesR_lt _ _ | exact subR_lt _ _ (by assumption) | exact partR_lt _ _ (by assumption) | exact fromB_lt _ | decide | omega)).mono ?_
      first | rw [K1.out] | rw [K2.out]
      rintro e w11 ⟨rfl, gw11⟩
      refine hK.out _ _ (hHeld.below gw11) (fun hHeld => ?_)
      clear hK K
      try simp only [Act.put, List.getElem_toArray, List.getElem_cons_succ, List.getElem_cons_zero, List.setIfInBounds_toArray, List.set_cons_zero, List.set_cons_succ]
      refine wpAnyH_take (i := 26) (oi := _) (v := ?_) rfl (by kernel_rfl) (by kernel_rfl) (by kernel_rfl) (fun _ _ _ h => h) (Or.inl ⟨by kernel_rfl, ?_⟩) hHeld ?_
      rotate_left
      · (intro w hSw; go_simp; try with_reducible rfl)
      try simp only [Act.put, List.getElem_toArray, List.getElem_cons_succ, List.getElem_cons_zero, List.setIfInBounds_toArray, List.set_cons_zero, List.set_cons_succ]
      refine wpAnyH_take (i := 27) (oi := _) (v := ?_) rfl (by kernel_rfl) (by kernel_rfl) (by kernel_rfl) (fun _ _ _ h => h) (Or.inl ⟨by kernel_rfl, ?_⟩) hHeld ?_
      rotate_left
      · (intro w hSw; go_simp; try with_reducible rfl)
      try simp only [Act.put, List.getElem_toArray, List.getElem_cons_succ, List.getElem_cons_zero, List.setIfInBounds_toArray, List.set_cons_zero, List.set_cons_succ]
      refine wpAnyH_take (i := 28) (oi := _) (v := ?_) rfl (by kernel_rfl) (by kernel_rfl) (by kernel_rfl) (fun _ _ _ h => h) (Or.inl ⟨by kernel_rfl, ?_⟩) hHeld ?_
      rotate_left
      · (intro w hSw; go_simp; try with_reducible rfl)
      try simp only [Act.put, List.getElem_toArray, List.getElem_cons_succ, List.getElem_cons_zero, List.setIfInBounds_toArray, List.set_cons_zero, List.set_cons_succ]
      refine wpAnyH_take (i := 29) (oi := _) (v := ?_) rfl (by kernel_rfl) (by kernel_rfl) (by kernel_rfl) (fun _ _ _ h => h) (Or.inl ⟨by kernel_rfl, ?_⟩) hHeld ?_
      rotate_left
      · (intro w hSw; go_simp; try with_reducible rfl)
      try simp only [Act.put, List.getElem_toArray, List.getElem_cons_succ, List.getElem_cons_zero, List.setIfInBounds_toArray, List.set_cons_zero, List.set_cons_succ]
      refine wpAnyH_done (by kernel_rfl) ?_ _
      go_wp2
      go_ret
      exact ⟨rfl, hHeld.bel⟩
    · have hord : N = M := by omega
      have K1 := Lib.hid (show cmpN N M = 0 from by unfold cmpN; rw [if_neg (by omega), if_neg (by omega)])
      have K2 := Lib.hid (show cmpN M N = 0 from by unfold cmpN; rw [if_neg (by omega), if_neg (by omega)])
      obtain ⟨s, hs⟩ : ∃ s, s = N + M := ⟨_, rfl⟩
      have ks : s < 2 ^ 256 := by rw [hs]; exact hi
      have ns := num ks
      have A1 := Lib.hid (show addR N M = (s, true) from by unfold addR; rw [if_pos hi, hs])
      have A2 := Lib.hid (show addR M N = (s, true) from by unfold addR; rw [Nat.add_comm M N, if_pos hi, hs])
      have D1 := Lib.hid (show subR s M = (N, true) from by unfold subR; rw [if_neg (by omega), hs, Nat.add_sub_cancel])
      obtain ⟨c, hc⟩ : ∃ c : Int, c = cmpN s N := ⟨_, rfl⟩
      have c0 : 0 ≤ c := by rw [hc]; unfold cmpN; rw [if_neg (by omega)]; split <;> decide
      have d0 : decide (c < 0) = false := by simpa using c0
      have K3 := Lib.hid hc
      clear hc hs
      obtain ⟨d, hd⟩ : ∃ d, d = N - M := ⟨_, rfl⟩
      have kd : d < 2 ^ 256 := by omega
      have nd := num kd
      have D2 := Lib.hid (show subR N M = (d, true) from by unfold subR; rw [if_neg (by omega), hd])
      have A3 := Lib.hid (show addR d M = (N, true) from by unfold addR; rw [show d + M = N by omega, if_pos hN])
      clear hd
      obtain ⟨u, z, hz⟩ : ∃ u z, sumR [N, M, C] = (u, z) := ⟨_, _, rfl⟩
      have ku : u < 2 ^ 256 := by have e := sum3 (B := M) (C := C) hN; rw [hz] at e; split at e <;> (obtain ⟨rfl, rfl⟩ := Prod.mk.inj e; first | assumption | decide)
      have nu := num ku
      have Z2 := Lib.hid (show sumR [C, N, M] = (u, z) from by rw [← hz, sum3 hN, sum3 hC, show C + N + M = N + M + C by omega])
      have Z1 := Lib.hid hz
      clear hz hi hord ho
      have hS := Held.start W
      go_enter Try.func6, Try.ntmps6
      go_wp2_with (refine wpList_box_at hS rfl 24 _ rfl (wcells _) rfl ?_; clear hS; intro wn hS hz; clear hz)
      refine (awake4_any _).mono ?_
      rintro e w1 ⟨rfl, gw1⟩
      have hS := hS.below gw1
      clear gw1
      go_wp2_with (refine wpList_load_at hS (by rfl) 24 _ rfl _ rfl (wcells _) 24 (by first | exact mem_0 | exact mem_1 | exact mem_2 | exact mem_3 | exact mem_4 | exact mem_5 | exact mem_6 | exact mem_7 | exact mem_8 | exact mem_9 | exact mem_10 | exact mem_11 | exact mem_12 | exact mem_13 | exact mem_14 | exact mem_15) _ Try.underlying24 rfl infoW ?_)
      refine (wAdd_any _ _ _ (by first | assumption | exact addR_lt _ _ | exact timesR_lt _ _ | exact subR_lt _ _ (by assumption) | exact partR_lt _ _ (by assumption) | exact fromB_lt _ | decide | omega) (by first | assumption | exact addR_lt _ _ | exact timesR_lt _ _ | exact subR_lt _ _ (by assumption) | exact partR_lt _ _ (by assumption) | exact fromB_lt _ | decide | omega)).mono ?_
      rw [A1.out]
      rintro e w2 ⟨rfl, gw2⟩
      have hS := hS.below gw2
      clear gw2
      go_wp2_with (first
        | (refine wpList_alloc_at hS rfl 24 rfl (wcells 0) (zeroW _) ?_; clear hS; intro wn hS hz; clear hz)
        | ((first | refine wpList_store_at 0 hS rfl 24 _ _ rfl _ rfl (wcells _) rfl (wcells _) 24 rfl infoW rfl (ones_w _) ?_ | refine wpList_store_at 1 hS rfl 24 _ _ rfl _ rfl (wcells _) rfl (wcells _) 24 rfl infoW rfl (ones_w _) ?_ | refine wpList_store_at 2 hS rfl 24 _ _ rfl _ rfl (wcells _) rfl (wcells _) 24 rfl infoW rfl (ones_w _) ?_ | refine wpList_store_at 3 hS rfl 24 _ _ rfl _ rfl (wcells _) rfl (wcells _) 24 rfl infoW rfl (ones_w _) ?_); clear hS; intro wn hS hz; clear hz; simp only [List.set_cons_zero, List.set_cons_succ] at hS)
        | (refine wpList_load_at hS (by rfl) 24 _ rfl _ rfl (wcells _) 24 (by first | exact mem_0 | exact mem_1 | exact mem_2 | exact mem_3 | exact mem_4 | exact mem_5 | exact mem_6 | exact mem_7 | exact mem_8 | exact mem_9 | exact mem_10 | exact mem_11 | exact mem_12 | exact mem_13 | exact mem_14 | exact mem_15) _ Try.underlying24 rfl infoW ?_))
      refine (wAdd_any _ _ _ (by first | assumption | exact addR_lt _ _ | exact timesR_lt _ _ | exact subR_lt _ _ (by assumption) | exact partR_lt _ _ (by assumption) | exact fromB_lt _ | decide | omega) (by first | assumption | exact addR_lt _ _ | exact timesR_lt _ _ | exact subR_lt _ _ (by assumption) | exact partR_lt _ _ (by assumption) | exact fromB_lt _ | decide | omega)).mono ?_
      rw [A2.out]
      rintro e w3 ⟨rfl, gw3⟩
      have hS := hS.below gw3
      clear gw3
      go_wp2_with (first
        | (refine wpList_alloc_at hS rfl 24 rfl (wcells 0) (zeroW _) ?_; clear hS; intro wn hS hz; clear hz)
        | ((first | refine wpList_store_at 0 hS rfl 24 _ _ rfl _ rfl (wcells _) rfl (wcells _) 24 rfl infoW rfl (ones_w _) ?_ | refine wpList_store_at 1 hS rfl 24 _ _ rfl _ rfl (wcells _) rfl (wcells _) 24 rfl infoW rfl (ones_w _) ?_ | refine wpList_store_at 2 hS rfl 24 _ _ rfl _ rfl (wcells _) rfl (wcells _) 24 rfl infoW rfl (ones_w _) ?_ | refine wpList_store_at 3 hS rfl 24 _ _ rfl _ rfl (wcells _) rfl (wcells _) 24 rfl infoW rfl (ones_w _) ?_ | refine wpList_store_at 4 hS rfl 24 _ _ rfl _ rfl (wcells _) rfl (wcells _) 24 rfl infoW rfl (ones_w _) ?_); clear hS; intro wn hS hz; clear hz; simp only [List.set_cons_zero, List.set_cons_succ] at hS)
        | (refine wpList_load_at hS (by rfl) 24 _ rfl _ rfl (wcells _) 24 (by first | exact mem_0 | exact mem_1 | exact mem_2 | exact mem_3 | exact mem_4 | exact mem_5 | exact mem_6 | exact mem_7 | exact mem_8 | exact mem_9 | exact mem_10 | exact mem_11 | exact mem_12 | exact mem_13 | exact mem_14 | exact mem_15) _ Try.underlying24 rfl infoW ?_))
      refine (wSub_any _ _ _ (by first | assumption | exact addR_lt _ _ | exact timesR_lt _ _ | exact subR_lt _ _ (by assumption) | exact partR_lt _ _ (by assumption) | exact fromB_lt _ | decide | omega) (by first | assumption | exact addR_lt _ _ | exact timesR_lt _ _ | exact subR_lt _ _ (by assumption) | exact partR_lt _ _ (by assumption) | exact fromB_lt _ | decide | omega)).mono ?_
      rw [D1.out]
      rintro e w4 ⟨rfl, gw4⟩
      have hS := hS.below gw4
      clear gw4
      go_wp2_with (first
        | (refine wpList_alloc_at hS rfl 24 rfl (wcells 0) (zeroW _) ?_; clear hS; intro wn hS hz; clear hz)
        | ((first | refine wpList_store_at 0 hS rfl 24 _ _ rfl _ rfl (wcells _) rfl (wcells _) 24 rfl infoW rfl (ones_w _) ?_ | refine wpList_store_at 1 hS rfl 24 _ _ rfl _ rfl (wcells _) rfl (wcells _) 24 rfl infoW rfl (ones_w _) ?_ | refine wpList_store_at 2 hS rfl 24 _ _ rfl _ rfl (wcells _) rfl (wcells _) 24 rfl infoW rfl (ones_w _) ?_ | refine wpList_store_at 3 hS rfl 24 _ _ rfl _ rfl (wcells _) rfl (wcells _) 24 rfl infoW rfl (ones_w _) ?_ | refine wpList_store_at 4 hS rfl 24 _ _ rfl _ rfl (wcells _) rfl (wcells _) 24 rfl infoW rfl (ones_w _) ?_ | refine wpList_store_at 5 hS rfl 24 _ _ rfl _ rfl (wcells _) rfl (wcells _) 24 rfl infoW rfl (ones_w _) ?_); clear hS; intro wn hS hz; clear hz; simp only [List.set_cons_zero, List.set_cons_succ] at hS)
        | (refine wpList_load_at hS (by rfl) 24 _ rfl _ rfl (wcells _) 24 (by first | exact mem_0 | exact mem_1 | exact mem_2 | exact mem_3 | exact mem_4 | exact mem_5 | exact mem_6 | exact mem_7 | exact mem_8 | exact mem_9 | exact mem_10 | exact mem_11 | exact mem_12 | exact mem_13 | exact mem_14 | exact mem_15) _ Try.underlying24 rfl infoW ?_))
      refine (wCompare_any _ _ _ (by first | assumption | exact addR_lt _ _ | exact timesR_lt _ _ | exact subR_lt _ _ (by assumption) | exact partR_lt _ _ (by assumption) | exact fromB_lt _ | decide | omega) (by first | assumption | exact addR_lt _ _ | exact timesR_lt _ _ | exact subR_lt _ _ (by assumption) | exact partR_lt _ _ (by assumption) | exact fromB_lt _ | decide | omega)).mono ?_
      rw [← K3.out]
      rintro e w5 ⟨rfl, gw5⟩
      have hS := hS.below gw5
      clear gw5
      go_wp2_with (first
        | (refine wpList_load_at hS (by rfl) 24 _ rfl _ rfl (wcells _) 24 (by first | exact mem_0 | exact mem_1 | exact mem_2 | exact mem_3 | exact mem_4 | exact mem_5 | exact mem_6 | exact mem_7 | exact mem_8 | exact mem_9 | exact mem_10 | exact mem_11 | exact mem_12 | exact mem_13 | exact mem_14 | exact mem_15) _ Try.underlying24 rfl infoW ?_)
        | (refine wpList_wides3 hS rfl 43 _ rfl Try.underlying43 N M C hN hM hC (by kernel_rfl) ?_; clear hS; intro wn hS hWi))
      refine (wSum_any _ _ _ _ _ hWi (by decide)).mono ?_
      rw [Z1.out]
      rintro e w6 ⟨rfl, gw6⟩
      have hS := hS.below gw6
      clear gw6
      clear hWi
      go_wp2_with (first
        | (refine wpList_alloc_at hS rfl 24 rfl (wcells 0) (zeroW _) ?_; clear hS; intro wn hS hz; clear hz)
        | ((first | refine wpList_store_at 0 hS rfl 24 _ _ rfl _ rfl (wcells _) rfl (wcells _) 24 rfl infoW rfl (ones_w _) ?_ | refine wpList_store_at 1 hS rfl 24 _ _ rfl _ rfl (wcells _) rfl (wcells _) 24 rfl infoW rfl (ones_w _) ?_ | refine wpList_store_at 2 hS rfl 24 _ _ rfl _ rfl (wcells _) rfl (wcells _) 24 rfl infoW rfl (ones_w _) ?_ | refine wpList_store_at 3 hS rfl 24 _ _ rfl _ rfl (wcells _) rfl (wcells _) 24 rfl infoW rfl (ones_w _) ?_ | refine wpList_store_at 4 hS rfl 24 _ _ rfl _ rfl (wcells _) rfl (wcells _) 24 rfl infoW rfl (ones_w _) ?_ | refine wpList_store_at 5 hS rfl 24 _ _ rfl _ rfl (wcells _) rfl (wcells _) 24 rfl infoW rfl (ones_w _) ?_ | refine wpList_store_at 6 hS rfl 24 _ _ rfl _ rfl (wcells _) rfl (wcells _) 24 rfl infoW rfl (ones_w _) ?_); clear hS; intro wn hS hz; clear hz; simp only [List.set_cons_zero, List.set_cons_succ] at hS)
        | (refine wpList_load_at hS (by rfl) 24 _ rfl _ rfl (wcells _) 24 (by first | exact mem_0 | exact mem_1 | exact mem_2 | exact mem_3 | exact mem_4 | exact mem_5 | exact mem_6 | exact mem_7 | exact mem_8 | exact mem_9 | exact mem_10 | exact mem_11 | exact mem_12 | exact mem_13 | exact mem_14 | exact mem_15) _ Try.underlying24 rfl infoW ?_)
        | (refine wpList_wides3 hS rfl 43 _ rfl Try.underlying43 C N M hC hN hM (by kernel_rfl) ?_; clear hS; intro wn hS hWi))
      refine (wSum_any _ _ _ _ _ hWi (by decide)).mono ?_
      rw [Z2.out]
      rintro e w7 ⟨rfl, gw7⟩
      have hS := hS.below gw7
      clear gw7
      clear hWi
      go_wp2_with (first
        | (refine wpList_alloc_at hS rfl 24 rfl (wcells 0) (zeroW _) ?_; clear hS; intro wn hS hz; clear hz)
        | ((first | refine wpList_store_at 0 hS rfl 24 _ _ rfl _ rfl (wcells _) rfl (wcells _) 24 rfl infoW rfl (ones_w _) ?_ | refine wpList_store_at 1 hS rfl 24 _ _ rfl _ rfl (wcells _) rfl (wcells _) 24 rfl infoW rfl (ones_w _) ?_ | refine wpList_store_at 2 hS rfl 24 _ _ rfl _ rfl (wcells _) rfl (wcells _) 24 rfl infoW rfl (ones_w _) ?_ | refine wpList_store_at 3 hS rfl 24 _ _ rfl _ rfl (wcells _) rfl (wcells _) 24 rfl infoW rfl (ones_w _) ?_ | refine wpList_store_at 4 hS rfl 24 _ _ rfl _ rfl (wcells _) rfl (wcells _) 24 rfl infoW rfl (ones_w _) ?_ | refine wpList_store_at 5 hS rfl 24 _ _ rfl _ rfl (wcells _) rfl (wcells _) 24 rfl infoW rfl (ones_w _) ?_ | refine wpList_store_at 6 hS rfl 24 _ _ rfl _ rfl (wcells _) rfl (wcells _) 24 rfl infoW rfl (ones_w _) ?_ | refine wpList_store_at 7 hS rfl 24 _ _ rfl _ rfl (wcells _) rfl (wcells _) 24 rfl infoW rfl (ones_w _) ?_); clear hS; intro wn hS hz; clear hz; simp only [List.set_cons_zero, List.set_cons_succ] at hS)
        | (refine wpList_load_at hS (by rfl) 24 _ rfl _ rfl (wcells _) 24 (by first | exact mem_0 | exact mem_1 | exact mem_2 | exact mem_3 | exact mem_4 | exact mem_5 | exact mem_6 | exact mem_7 | exact mem_8 | exact mem_9 | exact mem_10 | exact mem_11 | exact mem_12 | exact mem_13 | exact mem_14 | exact mem_15) _ Try.underlying24 rfl infoW ?_))
      refine (wSub_any _ _ _ (by first | assumption | exact addR_lt _ _ | exact timesR_lt _ _ | exact subR_lt _ _ (by assumption) | exact partR_lt _ _ (by assumption) | exact fromB_lt _ | decide | omega) (by first | assumption | exact addR_lt _ _ | exact timesR_lt _ _ | exact subR_lt _ _ (by assumption) | exact partR_lt _ _ (by assumption) | exact fromB_lt _ | decide | omega)).mono ?_
      rw [D2.out]
      rintro e w8 ⟨rfl, gw8⟩
      have hS := hS.below gw8
      clear gw8
      go_wp2_with (first
        | (refine wpList_alloc_at hS rfl 24 rfl (wcells 0) (zeroW _) ?_; clear hS; intro wn hS hz; clear hz)
        | ((first | refine wpList_store_at 0 hS rfl 24 _ _ rfl _ rfl (wcells _) rfl (wcells _) 24 rfl infoW rfl (ones_w _) ?_ | refine wpList_store_at 1 hS rfl 24 _ _ rfl _ rfl (wcells _) rfl (wcells _) 24 rfl infoW rfl (ones_w _) ?_ | refine wpList_store_at 2 hS rfl 24 _ _ rfl _ rfl (wcells _) rfl (wcells _) 24 rfl infoW rfl (ones_w _) ?_ | refine wpList_store_at 3 hS rfl 24 _ _ rfl _ rfl (wcells _) rfl (wcells _) 24 rfl infoW rfl (ones_w _) ?_ | refine wpList_store_at 4 hS rfl 24 _ _ rfl _ rfl (wcells _) rfl (wcells _) 24 rfl infoW rfl (ones_w _) ?_ | refine wpList_store_at 5 hS rfl 24 _ _ rfl _ rfl (wcells _) rfl (wcells _) 24 rfl infoW rfl (ones_w _) ?_ | refine wpList_store_at 6 hS rfl 24 _ _ rfl _ rfl (wcells _) rfl (wcells _) 24 rfl infoW rfl (ones_w _) ?_ | refine wpList_store_at 7 hS rfl 24 _ _ rfl _ rfl (wcells _) rfl (wcells _) 24 rfl infoW rfl (ones_w _) ?_ | refine wpList_store_at 8 hS rfl 24 _ _ rfl _ rfl (wcells _) rfl (wcells _) 24 rfl infoW rfl (ones_w _) ?_); clear hS; intro wn hS hz; clear hz; simp only [List.set_cons_zero, List.set_cons_succ] at hS)
        | (refine wpList_load_at hS (by rfl) 24 _ rfl _ rfl (wcells _) 24 (by first | exact mem_0 | exact mem_1 | exact mem_2 | exact mem_3 | exact mem_4 | exact mem_5 | exact mem_6 | exact mem_7 | exact mem_8 | exact mem_9 | exact mem_10 | exact mem_11 | exact mem_12 | exact mem_13 | exact mem_14 | exact mem_15) _ Try.underlying24 rfl infoW ?_))
      refine (wAdd_any _ _ _ (by first | assumption | exact addR_lt _ _ | exact timesR_lt _ _ | exact subR_lt _ _ (by assumption) | exact partR_lt _ _ (by assumption) | exact fromB_lt _ | decide | omega) (by first | assumption | exact addR_lt _ _ | exact timesR_lt _ _ | exact subR_lt _ _ (by assumption) | exact partR_lt _ _ (by assumption) | exact fromB_lt _ | decide | omega)).mono ?_
      rw [A3.out]
      rintro e w9 ⟨rfl, gw9⟩
      have hS := hS.below gw9
      clear gw9
      go_wp2_with (first
        | (refine wpList_alloc_at hS rfl 24 rfl (wcells 0) (zeroW _) ?_; clear hS; intro wn hS hz; clear hz)
        | ((first | refine wpList_store_at 0 hS rfl 24 _ _ rfl _ rfl (wcells _) rfl (wcells _) 24 rfl infoW rfl (ones_w _) ?_ | refine wpList_store_at 1 hS rfl 24 _ _ rfl _ rfl (wcells _) rfl (wcells _) 24 rfl infoW rfl (ones_w _) ?_ | refine wpList_store_at 2 hS rfl 24 _ _ rfl _ rfl (wcells _) rfl (wcells _) 24 rfl infoW rfl (ones_w _) ?_ | refine wpList_store_at 3 hS rfl 24 _ _ rfl _ rfl (wcells _) rfl (wcells _) 24 rfl infoW rfl (ones_w _) ?_ | refine wpList_store_at 4 hS rfl 24 _ _ rfl _ rfl (wcells _) rfl (wcells _) 24 rfl infoW rfl (ones_w _) ?_ | refine wpList_store_at 5 hS rfl 24 _ _ rfl _ rfl (wcells _) rfl (wcells _) 24 rfl infoW rfl (ones_w _) ?_ | refine wpList_store_at 6 hS rfl 24 _ _ rfl _ rfl (wcells _) rfl (wcells _) 24 rfl infoW rfl (ones_w _) ?_ | refine wpList_store_at 7 hS rfl 24 _ _ rfl _ rfl (wcells _) rfl (wcells _) 24 rfl infoW rfl (ones_w _) ?_ | refine wpList_store_at 8 hS rfl 24 _ _ rfl _ rfl (wcells _) rfl (wcells _) 24 rfl infoW rfl (ones_w _) ?_ | refine wpList_store_at 9 hS rfl 24 _ _ rfl _ rfl (wcells _) rfl (wcells _) 24 rfl infoW rfl (ones_w _) ?_); clear hS; intro wn hS hz; clear hz; simp only [List.set_cons_zero, List.set_cons_succ] at hS)
        | (refine wpList_load_at hS (by rfl) 24 _ rfl _ rfl (wcells _) 24 (by first | exact mem_0 | exact mem_1 | exact mem_2 | exact mem_3 | exact mem_4 | exact mem_5 | exact mem_6 | exact mem_7 | exact mem_8 | exact mem_9 | exact mem_10 | exact mem_11 | exact mem_12 | exact mem_13 | exact mem_14 | exact mem_15) _ Try.underlying24 rfl infoW ?_))
      refine wp_region_held_drew (S := Held _ W) (by kernel_rfl) hS.drew (fun hHeld => ?_)
      refine wpAnyH_take (i := 0) (oi := _) (v := ?_) rfl (by kernel_rfl) (by kernel_rfl) (by kernel_rfl) (fun _ _ _ h => h) (Or.inl ⟨by kernel_rfl, ?_⟩) hHeld ?_
      rotate_left
      · (intro w hSw; go_simp; try with_reducible rfl)
      try simp only [Act.put, List.getElem_toArray, List.getElem_cons_succ, List.getElem_cons_zero, List.setIfInBounds_toArray, List.set_cons_zero, List.set_cons_succ]
      refine wpAnyH_take (i := 1) (oi := _) (v := ?_) rfl (by kernel_rfl) (by kernel_rfl) (by kernel_rfl) (fun _ _ _ h => h) (Or.inl ⟨by kernel_rfl, ?_⟩) hHeld ?_
      rotate_left
      · (intro w hSw; go_simp; try with_reducible rfl)
      try simp only [Act.put, List.getElem_toArray, List.getElem_cons_succ, List.getElem_cons_zero, List.setIfInBounds_toArray, List.set_cons_zero, List.set_cons_succ]
      refine wpAnyH_take (i := 2) (oi := _) (v := _) rfl (by kernel_rfl) (by kernel_rfl) (by kernel_rfl) (fun _ _ _ h => h) (yieldsIf_load_mid (by kernel_rfl) _ _ rfl _ _ rfl _ _ (fun w h => h.rng 3 rfl) Try.underlying24 rfl infoW) hHeld ?_
      try simp only [Act.put, List.getElem_toArray, List.getElem_cons_succ, List.getElem_cons_zero, List.setIfInBounds_toArray, List.set_cons_zero, List.set_cons_succ]
      refine wpAnyH_take (i := 3) (oi := _) (v := _) rfl (by kernel_rfl) (by kernel_rfl) (by kernel_rfl) (fun _ _ _ h => h) (yieldsIf_load_mid (by kernel_rfl) _ _ rfl _ _ rfl _ _ (fun w h => h.rng 2 rfl) Try.underlying24 rfl infoW) hHeld ?_
      try simp only [Act.put, List.getElem_toArray, List.getElem_cons_succ, List.getElem_cons_zero, List.setIfInBounds_toArray, List.set_cons_zero, List.set_cons_succ]
      refine wpAnyH_take (i := 4) (oi := _) (v := ?_) rfl (by kernel_rfl) (by kernel_rfl) (by kernel_rfl) (fun _ _ _ h => h) (Or.inl ⟨by kernel_rfl, ?_⟩) hHeld ?_
      rotate_left
      · (intro w hSw; go_simp; try with_reducible rfl)
      try simp only [Act.put, List.getElem_toArray, List.getElem_cons_succ, List.getElem_cons_zero, List.setIfInBounds_toArray, List.set_cons_zero, List.set_cons_succ]
      refine wpAnyH_take (i := 5) (oi := _) (v := ?_) rfl (by kernel_rfl) (by kernel_rfl) (by kernel_rfl) (fun _ _ _ h => h) (Or.inl ⟨by kernel_rfl, ?_⟩) hHeld ?_
      rotate_left
      · (intro w hSw; go_simp; try with_reducible rfl)
      try simp only [Act.put, List.getElem_toArray, List.getElem_cons_succ, List.getElem_cons_zero, List.setIfInBounds_toArray, List.set_cons_zero, List.set_cons_succ]
      refine wpAnyH_take (i := 6) (oi := _) (v := ?_) rfl (by kernel_rfl) (by kernel_rfl) (by kernel_rfl) (fun _ _ _ h => h) (Or.inl ⟨by kernel_rfl, ?_⟩) hHeld ?_
      rotate_left
      · (intro w hSw; go_simp; try with_reducible rfl)
      try simp only [Act.put, List.getElem_toArray, List.getElem_cons_succ, List.getElem_cons_zero, List.setIfInBounds_toArray, List.set_cons_zero, List.set_cons_succ]
      refine wpAnyH_take (i := 7) (oi := _) (v := ?_) rfl (by kernel_rfl) (by kernel_rfl) (by kernel_rfl) (fun _ _ _ h => h) (Or.inl ⟨by kernel_rfl, ?_⟩) hHeld ?_
      rotate_left
      · (intro w hSw; go_simp; try with_reducible rfl)
      try simp only [Act.put, List.getElem_toArray, List.getElem_cons_succ, List.getElem_cons_zero, List.setIfInBounds_toArray, List.set_cons_zero, List.set_cons_succ]
      refine wpAnyH_take (i := 8) (oi := _) (v := ?_) rfl (by kernel_rfl) (by kernel_rfl) (by kernel_rfl) (fun _ _ _ h => h) (Or.inl ⟨by kernel_rfl, ?_⟩) hHeld ?_
      rotate_left
      · (intro w hSw; go_simp; try with_reducible rfl)
      try simp only [Act.put, List.getElem_toArray, List.getElem_cons_succ, List.getElem_cons_zero, List.setIfInBounds_toArray, List.set_cons_zero, List.set_cons_succ]
      refine wpAnyH_take (i := 9) (oi := _) (v := ?_) rfl (by kernel_rfl) (by kernel_rfl) (by kernel_rfl) (fun _ _ _ h => h) (Or.inl ⟨by kernel_rfl, ?_⟩) hHeld ?_
      rotate_left
      · (intro w hSw; go_simp; try with_reducible rfl)
      try simp only [Act.put, List.getElem_toArray, List.getElem_cons_succ, List.getElem_cons_zero, List.setIfInBounds_toArray, List.set_cons_zero, List.set_cons_succ]
      refine wpAnyH_take (i := 10) (oi := _) (v := ?_) rfl (by kernel_rfl) (by kernel_rfl) (by kernel_rfl) (fun _ _ _ h => h) (Or.inl ⟨by kernel_rfl, ?_⟩) hHeld ?_
      rotate_left
      · (intro w hSw; go_simp; try with_reducible rfl)
      try simp only [Act.put, List.getElem_toArray, List.getElem_cons_succ, List.getElem_cons_zero, List.setIfInBounds_toArray, List.set_cons_zero, List.set_cons_succ]
      refine wpAnyH_take (i := 11) (oi := _) (v := ?_) rfl (by kernel_rfl) (by kernel_rfl) (by kernel_rfl) (fun _ _ _ h => h) (Or.inl ⟨by kernel_rfl, ?_⟩) hHeld ?_
      rotate_left
      · (intro w hSw; go_simp; try with_reducible rfl)
      try simp only [Act.put, List.getElem_toArray, List.getElem_cons_succ, List.getElem_cons_zero, List.setIfInBounds_toArray, List.set_cons_zero, List.set_cons_succ]
      refine wpAnyH_take (i := 12) (oi := _) (v := ?_) rfl (by kernel_rfl) (by kernel_rfl) (by kernel_rfl) (fun _ _ _ h => h) (Or.inl ⟨by kernel_rfl, ?_⟩) hHeld ?_
      rotate_left
      · (intro w hSw; go_simp; try with_reducible rfl)
      try simp only [Act.put, List.getElem_toArray, List.getElem_cons_succ, List.getElem_cons_zero, List.setIfInBounds_toArray, List.set_cons_zero, List.set_cons_succ]
      refine wpAnyH_take (i := 13) (oi := _) (v := _) rfl (by kernel_rfl) (by kernel_rfl) (by kernel_rfl) (fun _ _ _ h => h) (yieldsIf_load_mid (by kernel_rfl) _ _ rfl _ _ rfl _ _ (fun w h => h.rng 9 rfl) Try.underlying24 rfl infoW) hHeld ?_
      try simp only [Act.put, List.getElem_toArray, List.getElem_cons_succ, List.getElem_cons_zero, List.setIfInBounds_toArray, List.set_cons_zero, List.set_cons_succ]
      refine wpAnyH_take (i := 14) (oi := _) (v := _) rfl (by kernel_rfl) (by kernel_rfl) (by kernel_rfl) (fun _ _ _ h => h) (yieldsIf_load_mid (by kernel_rfl) _ _ rfl _ _ rfl _ _ (fun w h => h.rng 8 rfl) Try.underlying24 rfl infoW) hHeld ?_
      try simp only [Act.put, List.getElem_toArray, List.getElem_cons_succ, List.getElem_cons_zero, List.setIfInBounds_toArray, List.set_cons_zero, List.set_cons_succ]
      refine wpAnyH_ready (rs := [15]) (by kernel_rfl) (by simp) ?_
      refine AllReadyH.cons (o := _) rfl (fun K hK => ?_) AllReadyH.nil
      go_simp
      go_at_call 18
      refine (wCompare_any _ _ _ (by first | assumption | exact addR_lt _ _ | exact timesR_lt _ _ | exact subR_lt _ _ (by assumption) | exact partR_lt _ _ (by assumption) | exact fromB_lt _ | decide | omega) (by first | assumption | exact addR_lt _ _ | exact timesR_lt _ _ | exact subR_lt _ _ (by assumption) | exact partR_lt _ _ (by assumption) | exact fromB_lt _ | decide | omega)).mono ?_
      first | rw [K1.out] | rw [K2.out]
      rintro e w10 ⟨rfl, gw10⟩
      refine hK.out _ _ (hHeld.below gw10) (fun hHeld => ?_)
      clear hK K
      try simp only [Act.put, List.getElem_toArray, List.getElem_cons_succ, List.getElem_cons_zero, List.setIfInBounds_toArray, List.set_cons_zero, List.set_cons_succ]
      refine wpAnyH_take (i := 16) (oi := _) (v := ?_) rfl (by kernel_rfl) (by kernel_rfl) (by kernel_rfl) (fun _ _ _ h => h) (Or.inl ⟨by kernel_rfl, ?_⟩) hHeld ?_
      rotate_left
      · (intro w hSw; go_simp; try with_reducible rfl)
      try simp only [Act.put, List.getElem_toArray, List.getElem_cons_succ, List.getElem_cons_zero, List.setIfInBounds_toArray, List.set_cons_zero, List.set_cons_succ]
      refine wpAnyH_take (i := 17) (oi := _) (v := ?_) rfl (by kernel_rfl) (by kernel_rfl) (by kernel_rfl) (fun _ _ _ h => h) (Or.inl ⟨by kernel_rfl, ?_⟩) hHeld ?_
      rotate_left
      · (intro w hSw; go_simp; try with_reducible rfl)
      try simp only [Act.put, List.getElem_toArray, List.getElem_cons_succ, List.getElem_cons_zero, List.setIfInBounds_toArray, List.set_cons_zero, List.set_cons_succ]
      refine wpAnyH_take (i := 18) (oi := _) (v := ?_) rfl (by kernel_rfl) (by kernel_rfl) (by kernel_rfl) (fun _ _ _ h => h) (Or.inl ⟨by kernel_rfl, ?_⟩) hHeld ?_
      rotate_left
      · (intro w hSw; go_simp; try with_reducible rfl)
      try simp only [Act.put, List.getElem_toArray, List.getElem_cons_succ, List.getElem_cons_zero, List.setIfInBounds_toArray, List.set_cons_zero, List.set_cons_succ]
      refine wpAnyH_take (i := 19) (oi := _) (v := ?_) rfl (by kernel_rfl) (by kernel_rfl) (by kernel_rfl) (fun _ _ _ h => h) (Or.inl ⟨by kernel_rfl, ?_⟩) hHeld ?_
      rotate_left
      · (intro w hSw; go_simp; try with_reducible rfl)
      try simp only [Act.put, List.getElem_toArray, List.getElem_cons_succ, List.getElem_cons_zero, List.setIfInBounds_toArray, List.set_cons_zero, List.set_cons_succ]
      refine wpAnyH_take (i := 20) (oi := _) (v := _) rfl (by kernel_rfl) (by kernel_rfl) (by kernel_rfl) (fun _ _ _ h => h) (yieldsIf_load_mid (by kernel_rfl) _ _ rfl _ _ rfl _ _ (fun w h => h.rng 9 rfl) Try.underlying24 rfl infoW) hHeld ?_
      try simp only [Act.put, List.getElem_toArray, List.getElem_cons_succ, List.getElem_cons_zero, List.setIfInBounds_toArray, List.set_cons_zero, List.set_cons_succ]
      refine wpAnyH_take (i := 21) (oi := _) (v := _) rfl (by kernel_rfl) (by kernel_rfl) (by kernel_rfl) (fun _ _ _ h => h) (yieldsIf_load_mid (by kernel_rfl) _ _ rfl _ _ rfl _ _ (fun w h => h.rng 8 rfl) Try.underlying24 rfl infoW) hHeld ?_
      try simp only [Act.put, List.getElem_toArray, List.getElem_cons_succ, List.getElem_cons_zero, List.setIfInBounds_toArray, List.set_cons_zero, List.set_cons_succ]
      refine wpAnyH_take (i := 23) (oi := _) (v := _) rfl (by kernel_rfl) (by kernel_rfl) (by kernel_rfl) (fun _ _ _ h => h) (yieldsIf_load_mid (by kernel_rfl) _ _ rfl _ _ rfl _ _ (fun w h => h.rng 8 rfl) Try.underlying24 rfl infoW) hHeld ?_
      try simp only [Act.put, List.getElem_toArray, List.getElem_cons_succ, List.getElem_cons_zero, List.setIfInBounds_toArray, List.set_cons_zero, List.set_cons_succ]
      refine wpAnyH_take (i := 24) (oi := _) (v := _) rfl (by kernel_rfl) (by kernel_rfl) (by kernel_rfl) (fun _ _ _ h => h) (yieldsIf_load_mid (by kernel_rfl) _ _ rfl _ _ rfl _ _ (fun w h => h.rng 9 rfl) Try.underlying24 rfl infoW) hHeld ?_
      try simp only [Act.put, List.getElem_toArray, List.getElem_cons_succ, List.getElem_cons_zero, List.setIfInBounds_toArray, List.set_cons_zero, List.set_cons_succ]
      refine wpAnyH_ready (rs := [22]) (by kernel_rfl) (by simp) ?_
      refine AllReadyH.cons (o := _) rfl (fun K hK => ?_) AllReadyH.nil
      go_simp
      go_at_call 18
      refine (wCompare_any _ _ _ (by first | assumption | exact addR_lt _ _ | exact timesR_lt _ _ | exact subR_lt _ _ (by assumption) | exact partR_lt _ _ (by assumption) | exact fromB_lt _ | decide | omega) (by first | assumption | exact addR_lt _ _ | exact timesR_lt _ _ | exact subR_lt _ _ (by assumption) | exact partR_lt _ _ (by assumption) | exact fromB_lt _ | decide | omega)).mono ?_
      first | rw [K1.out] | rw [K2.out]
      rintro e w11 ⟨rfl, gw11⟩
      refine hK.out _ _ (hHeld.below gw11) (fun hHeld => ?_)
      clear hK K
      try simp only [Act.put, List.getElem_toArray, List.getElem_cons_succ, List.getElem_cons_zero, List.setIfInBounds_toArray, List.set_cons_zero, List.set_cons_succ]
      refine wpAnyH_ready (rs := [25]) (by kernel_rfl) (by simp) ?_
      refine AllReadyH.cons (o := _) rfl (fun K hK => ?_) AllReadyH.nil
      go_simp
      go_at_call 18
      refine (wCompare_any _ _ _ (by first | assumption | exact addR_lt _ _ | exact timesR_lt _ _ | exact subR_lt _ _ (by assumption) | exact partR_lt _ _ (by assumption) | exact fromB_lt _ | decide | omega) (by first | assumption | exact addR_lt _ _ | exact timesR_lt _ _ | exact subR_lt _ _ (by assumption) | exact partR_lt _ _ (by assumption) | exact fromB_lt _ | decide | omega)).mono ?_
      first | rw [K1.out] | rw [K2.out]
      rintro e w12 ⟨rfl, gw12⟩
      refine hK.out _ _ (hHeld.below gw12) (fun hHeld => ?_)
      clear hK K
      try simp only [Act.put, List.getElem_toArray, List.getElem_cons_succ, List.getElem_cons_zero, List.setIfInBounds_toArray, List.set_cons_zero, List.set_cons_succ]
      refine wpAnyH_take (i := 26) (oi := _) (v := ?_) rfl (by kernel_rfl) (by kernel_rfl) (by kernel_rfl) (fun _ _ _ h => h) (Or.inl ⟨by kernel_rfl, ?_⟩) hHeld ?_
      rotate_left
      · (intro w hSw; go_simp; try with_reducible rfl)
      try simp only [Act.put, List.getElem_toArray, List.getElem_cons_succ, List.getElem_cons_zero, List.setIfInBounds_toArray, List.set_cons_zero, List.set_cons_succ]
      refine wpAnyH_take (i := 27) (oi := _) (v := ?_) rfl (by kernel_rfl) (by kernel_rfl) (by kernel_rfl) (fun _ _ _ h => h) (Or.inl ⟨by kernel_rfl, ?_⟩) hHeld ?_
      rotate_left
      · (intro w hSw; go_simp; try with_reducible rfl)
      try simp only [Act.put, List.getElem_toArray, List.getElem_cons_succ, List.getElem_cons_zero, List.setIfInBounds_toArray, List.set_cons_zero, List.set_cons_succ]
      refine wpAnyH_take (i := 28) (oi := _) (v := ?_) rfl (by kernel_rfl) (by kernel_rfl) (by kernel_rfl) (fun _ _ _ h => h) (Or.inl ⟨by kernel_rfl, ?_⟩) hHeld ?_
      rotate_left
      · (intro w hSw; go_simp; try with_reducible rfl)
      try simp only [Act.put, List.getElem_toArray, List.getElem_cons_succ, List.getElem_cons_zero, List.setIfInBounds_toArray, List.set_cons_zero, List.set_cons_succ]
      refine wpAnyH_take (i := 29) (oi := _) (v := ?_) rfl (by kernel_rfl) (by kernel_rfl) (by kernel_rfl) (fun _ _ _ h => h) (Or.inl ⟨by kernel_rfl, ?_⟩) hHeld ?_
      rotate_left
      · (intro w hSw; go_simp; try with_reducible rfl)
      try simp only [Act.put, List.getElem_toArray, List.getElem_cons_succ, List.getElem_cons_zero, List.setIfInBounds_toArray, List.set_cons_zero, List.set_cons_succ]
      refine wpAnyH_done (by kernel_rfl) ?_ _
      go_wp2
      go_ret
      exact ⟨rfl, hHeld.bel⟩
    · have hord : M < N := by omega
      have K1 := Lib.hid (show cmpN N M = 1 from by unfold cmpN; rw [if_neg (by omega), if_pos hord])
      have K2 := Lib.hid (show cmpN M N = -1 from by unfold cmpN; rw [if_pos hord])
      obtain ⟨s, hs⟩ : ∃ s, s = N + M := ⟨_, rfl⟩
      have ks : s < 2 ^ 256 := by rw [hs]; exact hi
      have ns := num ks
      have A1 := Lib.hid (show addR N M = (s, true) from by unfold addR; rw [if_pos hi, hs])
      have A2 := Lib.hid (show addR M N = (s, true) from by unfold addR; rw [Nat.add_comm M N, if_pos hi, hs])
      have D1 := Lib.hid (show subR s M = (N, true) from by unfold subR; rw [if_neg (by omega), hs, Nat.add_sub_cancel])
      obtain ⟨c, hc⟩ : ∃ c : Int, c = cmpN s N := ⟨_, rfl⟩
      have c0 : 0 ≤ c := by rw [hc]; unfold cmpN; rw [if_neg (by omega)]; split <;> decide
      have d0 : decide (c < 0) = false := by simpa using c0
      have K3 := Lib.hid hc
      clear hc hs
      obtain ⟨d, hd⟩ : ∃ d, d = N - M := ⟨_, rfl⟩
      have kd : d < 2 ^ 256 := by omega
      have nd := num kd
      have D2 := Lib.hid (show subR N M = (d, true) from by unfold subR; rw [if_neg (by omega), hd])
      have A3 := Lib.hid (show addR d M = (N, true) from by unfold addR; rw [show d + M = N by omega, if_pos hN])
      clear hd
      obtain ⟨u, z, hz⟩ : ∃ u z, sumR [N, M, C] = (u, z) := ⟨_, _, rfl⟩
      have ku : u < 2 ^ 256 := by have e := sum3 (B := M) (C := C) hN; rw [hz] at e; split at e <;> (obtain ⟨rfl, rfl⟩ := Prod.mk.inj e; first | assumption | decide)
      have nu := num ku
      have Z2 := Lib.hid (show sumR [C, N, M] = (u, z) from by rw [← hz, sum3 hN, sum3 hC, show C + N + M = N + M + C by omega])
      have Z1 := Lib.hid hz
      clear hz hi hord ho
      have hS := Held.start W
      go_enter Try.func6, Try.ntmps6
      go_wp2_with (refine wpList_box_at hS rfl 24 _ rfl (wcells _) rfl ?_; clear hS; intro wn hS hz; clear hz)
      refine (awake4_any _).mono ?_
      rintro e w1 ⟨rfl, gw1⟩
      have hS := hS.below gw1
      clear gw1
      go_wp2_with (refine wpList_load_at hS (by rfl) 24 _ rfl _ rfl (wcells _) 24 (by first | exact mem_0 | exact mem_1 | exact mem_2 | exact mem_3 | exact mem_4 | exact mem_5 | exact mem_6 | exact mem_7 | exact mem_8 | exact mem_9 | exact mem_10 | exact mem_11 | exact mem_12 | exact mem_13 | exact mem_14 | exact mem_15) _ Try.underlying24 rfl infoW ?_)
      refine (wAdd_any _ _ _ (by first | assumption | exact addR_lt _ _ | exact timesR_lt _ _ | exact subR_lt _ _ (by assumption) | exact partR_lt _ _ (by assumption) | exact fromB_lt _ | decide | omega) (by first | assumption | exact addR_lt _ _ | exact timesR_lt _ _ | exact subR_lt _ _ (by assumption) | exact partR_lt _ _ (by assumption) | exact fromB_lt _ | decide | omega)).mono ?_
      rw [A1.out]
      rintro e w2 ⟨rfl, gw2⟩
      have hS := hS.below gw2
      clear gw2
      go_wp2_with (first
        | (refine wpList_alloc_at hS rfl 24 rfl (wcells 0) (zeroW _) ?_; clear hS; intro wn hS hz; clear hz)
        | ((first | refine wpList_store_at 0 hS rfl 24 _ _ rfl _ rfl (wcells _) rfl (wcells _) 24 rfl infoW rfl (ones_w _) ?_ | refine wpList_store_at 1 hS rfl 24 _ _ rfl _ rfl (wcells _) rfl (wcells _) 24 rfl infoW rfl (ones_w _) ?_ | refine wpList_store_at 2 hS rfl 24 _ _ rfl _ rfl (wcells _) rfl (wcells _) 24 rfl infoW rfl (ones_w _) ?_ | refine wpList_store_at 3 hS rfl 24 _ _ rfl _ rfl (wcells _) rfl (wcells _) 24 rfl infoW rfl (ones_w _) ?_); clear hS; intro wn hS hz; clear hz; simp only [List.set_cons_zero, List.set_cons_succ] at hS)
        | (refine wpList_load_at hS (by rfl) 24 _ rfl _ rfl (wcells _) 24 (by first | exact mem_0 | exact mem_1 | exact mem_2 | exact mem_3 | exact mem_4 | exact mem_5 | exact mem_6 | exact mem_7 | exact mem_8 | exact mem_9 | exact mem_10 | exact mem_11 | exact mem_12 | exact mem_13 | exact mem_14 | exact mem_15) _ Try.underlying24 rfl infoW ?_))
      refine (wAdd_any _ _ _ (by first | assumption | exact addR_lt _ _ | exact timesR_lt _ _ | exact subR_lt _ _ (by assumption) | exact partR_lt _ _ (by assumption) | exact fromB_lt _ | decide | omega) (by first | assumption | exact addR_lt _ _ | exact timesR_lt _ _ | exact subR_lt _ _ (by assumption) | exact partR_lt _ _ (by assumption) | exact fromB_lt _ | decide | omega)).mono ?_
      rw [A2.out]
      rintro e w3 ⟨rfl, gw3⟩
      have hS := hS.below gw3
      clear gw3
      go_wp2_with (first
        | (refine wpList_alloc_at hS rfl 24 rfl (wcells 0) (zeroW _) ?_; clear hS; intro wn hS hz; clear hz)
        | ((first | refine wpList_store_at 0 hS rfl 24 _ _ rfl _ rfl (wcells _) rfl (wcells _) 24 rfl infoW rfl (ones_w _) ?_ | refine wpList_store_at 1 hS rfl 24 _ _ rfl _ rfl (wcells _) rfl (wcells _) 24 rfl infoW rfl (ones_w _) ?_ | refine wpList_store_at 2 hS rfl 24 _ _ rfl _ rfl (wcells _) rfl (wcells _) 24 rfl infoW rfl (ones_w _) ?_ | refine wpList_store_at 3 hS rfl 24 _ _ rfl _ rfl (wcells _) rfl (wcells _) 24 rfl infoW rfl (ones_w _) ?_ | refine wpList_store_at 4 hS rfl 24 _ _ rfl _ rfl (wcells _) rfl (wcells _) 24 rfl infoW rfl (ones_w _) ?_); clear hS; intro wn hS hz; clear hz; simp only [List.set_cons_zero, List.set_cons_succ] at hS)
        | (refine wpList_load_at hS (by rfl) 24 _ rfl _ rfl (wcells _) 24 (by first | exact mem_0 | exact mem_1 | exact mem_2 | exact mem_3 | exact mem_4 | exact mem_5 | exact mem_6 | exact mem_7 | exact mem_8 | exact mem_9 | exact mem_10 | exact mem_11 | exact mem_12 | exact mem_13 | exact mem_14 | exact mem_15) _ Try.underlying24 rfl infoW ?_))
      refine (wSub_any _ _ _ (by first | assumption | exact addR_lt _ _ | exact timesR_lt _ _ | exact subR_lt _ _ (by assumption) | exact partR_lt _ _ (by assumption) | exact fromB_lt _ | decide | omega) (by first | assumption | exact addR_lt _ _ | exact timesR_lt _ _ | exact subR_lt _ _ (by assumption) | exact partR_lt _ _ (by assumption) | exact fromB_lt _ | decide | omega)).mono ?_
      rw [D1.out]
      rintro e w4 ⟨rfl, gw4⟩
      have hS := hS.below gw4
      clear gw4
      go_wp2_with (first
        | (refine wpList_alloc_at hS rfl 24 rfl (wcells 0) (zeroW _) ?_; clear hS; intro wn hS hz; clear hz)
        | ((first | refine wpList_store_at 0 hS rfl 24 _ _ rfl _ rfl (wcells _) rfl (wcells _) 24 rfl infoW rfl (ones_w _) ?_ | refine wpList_store_at 1 hS rfl 24 _ _ rfl _ rfl (wcells _) rfl (wcells _) 24 rfl infoW rfl (ones_w _) ?_ | refine wpList_store_at 2 hS rfl 24 _ _ rfl _ rfl (wcells _) rfl (wcells _) 24 rfl infoW rfl (ones_w _) ?_ | refine wpList_store_at 3 hS rfl 24 _ _ rfl _ rfl (wcells _) rfl (wcells _) 24 rfl infoW rfl (ones_w _) ?_ | refine wpList_store_at 4 hS rfl 24 _ _ rfl _ rfl (wcells _) rfl (wcells _) 24 rfl infoW rfl (ones_w _) ?_ | refine wpList_store_at 5 hS rfl 24 _ _ rfl _ rfl (wcells _) rfl (wcells _) 24 rfl infoW rfl (ones_w _) ?_); clear hS; intro wn hS hz; clear hz; simp only [List.set_cons_zero, List.set_cons_succ] at hS)
        | (refine wpList_load_at hS (by rfl) 24 _ rfl _ rfl (wcells _) 24 (by first | exact mem_0 | exact mem_1 | exact mem_2 | exact mem_3 | exact mem_4 | exact mem_5 | exact mem_6 | exact mem_7 | exact mem_8 | exact mem_9 | exact mem_10 | exact mem_11 | exact mem_12 | exact mem_13 | exact mem_14 | exact mem_15) _ Try.underlying24 rfl infoW ?_))
      refine (wCompare_any _ _ _ (by first | assumption | exact addR_lt _ _ | exact timesR_lt _ _ | exact subR_lt _ _ (by assumption) | exact partR_lt _ _ (by assumption) | exact fromB_lt _ | decide | omega) (by first | assumption | exact addR_lt _ _ | exact timesR_lt _ _ | exact subR_lt _ _ (by assumption) | exact partR_lt _ _ (by assumption) | exact fromB_lt _ | decide | omega)).mono ?_
      rw [← K3.out]
      rintro e w5 ⟨rfl, gw5⟩
      have hS := hS.below gw5
      clear gw5
      go_wp2_with (first
        | (refine wpList_load_at hS (by rfl) 24 _ rfl _ rfl (wcells _) 24 (by first | exact mem_0 | exact mem_1 | exact mem_2 | exact mem_3 | exact mem_4 | exact mem_5 | exact mem_6 | exact mem_7 | exact mem_8 | exact mem_9 | exact mem_10 | exact mem_11 | exact mem_12 | exact mem_13 | exact mem_14 | exact mem_15) _ Try.underlying24 rfl infoW ?_)
        | (refine wpList_wides3 hS rfl 43 _ rfl Try.underlying43 N M C hN hM hC (by kernel_rfl) ?_; clear hS; intro wn hS hWi))
      refine (wSum_any _ _ _ _ _ hWi (by decide)).mono ?_
      rw [Z1.out]
      rintro e w6 ⟨rfl, gw6⟩
      have hS := hS.below gw6
      clear gw6
      clear hWi
      go_wp2_with (first
        | (refine wpList_alloc_at hS rfl 24 rfl (wcells 0) (zeroW _) ?_; clear hS; intro wn hS hz; clear hz)
        | ((first | refine wpList_store_at 0 hS rfl 24 _ _ rfl _ rfl (wcells _) rfl (wcells _) 24 rfl infoW rfl (ones_w _) ?_ | refine wpList_store_at 1 hS rfl 24 _ _ rfl _ rfl (wcells _) rfl (wcells _) 24 rfl infoW rfl (ones_w _) ?_ | refine wpList_store_at 2 hS rfl 24 _ _ rfl _ rfl (wcells _) rfl (wcells _) 24 rfl infoW rfl (ones_w _) ?_ | refine wpList_store_at 3 hS rfl 24 _ _ rfl _ rfl (wcells _) rfl (wcells _) 24 rfl infoW rfl (ones_w _) ?_ | refine wpList_store_at 4 hS rfl 24 _ _ rfl _ rfl (wcells _) rfl (wcells _) 24 rfl infoW rfl (ones_w _) ?_ | refine wpList_store_at 5 hS rfl 24 _ _ rfl _ rfl (wcells _) rfl (wcells _) 24 rfl infoW rfl (ones_w _) ?_ | refine wpList_store_at 6 hS rfl 24 _ _ rfl _ rfl (wcells _) rfl (wcells _) 24 rfl infoW rfl (ones_w _) ?_); clear hS; intro wn hS hz; clear hz; simp only [List.set_cons_zero, List.set_cons_succ] at hS)
        | (refine wpList_load_at hS (by rfl) 24 _ rfl _ rfl (wcells _) 24 (by first | exact mem_0 | exact mem_1 | exact mem_2 | exact mem_3 | exact mem_4 | exact mem_5 | exact mem_6 | exact mem_7 | exact mem_8 | exact mem_9 | exact mem_10 | exact mem_11 | exact mem_12 | exact mem_13 | exact mem_14 | exact mem_15) _ Try.underlying24 rfl infoW ?_)
        | (refine wpList_wides3 hS rfl 43 _ rfl Try.underlying43 C N M hC hN hM (by kernel_rfl) ?_; clear hS; intro wn hS hWi))
      refine (wSum_any _ _ _ _ _ hWi (by decide)).mono ?_
      rw [Z2.out]
      rintro e w7 ⟨rfl, gw7⟩
      have hS := hS.below gw7
      clear gw7
      clear hWi
      go_wp2_with (first
        | (refine wpList_alloc_at hS rfl 24 rfl (wcells 0) (zeroW _) ?_; clear hS; intro wn hS hz; clear hz)
        | ((first | refine wpList_store_at 0 hS rfl 24 _ _ rfl _ rfl (wcells _) rfl (wcells _) 24 rfl infoW rfl (ones_w _) ?_ | refine wpList_store_at 1 hS rfl 24 _ _ rfl _ rfl (wcells _) rfl (wcells _) 24 rfl infoW rfl (ones_w _) ?_ | refine wpList_store_at 2 hS rfl 24 _ _ rfl _ rfl (wcells _) rfl (wcells _) 24 rfl infoW rfl (ones_w _) ?_ | refine wpList_store_at 3 hS rfl 24 _ _ rfl _ rfl (wcells _) rfl (wcells _) 24 rfl infoW rfl (ones_w _) ?_ | refine wpList_store_at 4 hS rfl 24 _ _ rfl _ rfl (wcells _) rfl (wcells _) 24 rfl infoW rfl (ones_w _) ?_ | refine wpList_store_at 5 hS rfl 24 _ _ rfl _ rfl (wcells _) rfl (wcells _) 24 rfl infoW rfl (ones_w _) ?_ | refine wpList_store_at 6 hS rfl 24 _ _ rfl _ rfl (wcells _) rfl (wcells _) 24 rfl infoW rfl (ones_w _) ?_ | refine wpList_store_at 7 hS rfl 24 _ _ rfl _ rfl (wcells _) rfl (wcells _) 24 rfl infoW rfl (ones_w _) ?_); clear hS; intro wn hS hz; clear hz; simp only [List.set_cons_zero, List.set_cons_succ] at hS)
        | (refine wpList_load_at hS (by rfl) 24 _ rfl _ rfl (wcells _) 24 (by first | exact mem_0 | exact mem_1 | exact mem_2 | exact mem_3 | exact mem_4 | exact mem_5 | exact mem_6 | exact mem_7 | exact mem_8 | exact mem_9 | exact mem_10 | exact mem_11 | exact mem_12 | exact mem_13 | exact mem_14 | exact mem_15) _ Try.underlying24 rfl infoW ?_))
      refine (wSub_any _ _ _ (by first | assumption | exact addR_lt _ _ | exact timesR_lt _ _ | exact subR_lt _ _ (by assumption) | exact partR_lt _ _ (by assumption) | exact fromB_lt _ | decide | omega) (by first | assumption | exact addR_lt _ _ | exact timesR_lt _ _ | exact subR_lt _ _ (by assumption) | exact partR_lt _ _ (by assumption) | exact fromB_lt _ | decide | omega)).mono ?_
      rw [D2.out]
      rintro e w8 ⟨rfl, gw8⟩
      have hS := hS.below gw8
      clear gw8
      go_wp2_with (first
        | (refine wpList_alloc_at hS rfl 24 rfl (wcells 0) (zeroW _) ?_; clear hS; intro wn hS hz; clear hz)
        | ((first | refine wpList_store_at 0 hS rfl 24 _ _ rfl _ rfl (wcells _) rfl (wcells _) 24 rfl infoW rfl (ones_w _) ?_ | refine wpList_store_at 1 hS rfl 24 _ _ rfl _ rfl (wcells _) rfl (wcells _) 24 rfl infoW rfl (ones_w _) ?_ | refine wpList_store_at 2 hS rfl 24 _ _ rfl _ rfl (wcells _) rfl (wcells _) 24 rfl infoW rfl (ones_w _) ?_ | refine wpList_store_at 3 hS rfl 24 _ _ rfl _ rfl (wcells _) rfl (wcells _) 24 rfl infoW rfl (ones_w _) ?_ | refine wpList_store_at 4 hS rfl 24 _ _ rfl _ rfl (wcells _) rfl (wcells _) 24 rfl infoW rfl (ones_w _) ?_ | refine wpList_store_at 5 hS rfl 24 _ _ rfl _ rfl (wcells _) rfl (wcells _) 24 rfl infoW rfl (ones_w _) ?_ | refine wpList_store_at 6 hS rfl 24 _ _ rfl _ rfl (wcells _) rfl (wcells _) 24 rfl infoW rfl (ones_w _) ?_ | refine wpList_store_at 7 hS rfl 24 _ _ rfl _ rfl (wcells _) rfl (wcells _) 24 rfl infoW rfl (ones_w _) ?_ | refine wpList_store_at 8 hS rfl 24 _ _ rfl _ rfl (wcells _) rfl (wcells _) 24 rfl infoW rfl (ones_w _) ?_); clear hS; intro wn hS hz; clear hz; simp only [List.set_cons_zero, List.set_cons_succ] at hS)
        | (refine wpList_load_at hS (by rfl) 24 _ rfl _ rfl (wcells _) 24 (by first | exact mem_0 | exact mem_1 | exact mem_2 | exact mem_3 | exact mem_4 | exact mem_5 | exact mem_6 | exact mem_7 | exact mem_8 | exact mem_9 | exact mem_10 | exact mem_11 | exact mem_12 | exact mem_13 | exact mem_14 | exact mem_15) _ Try.underlying24 rfl infoW ?_))
      refine (wAdd_any _ _ _ (by first | assumption | exact addR_lt _ _ | exact timesR_lt _ _ | exact subR_lt _ _ (by assumption) | exact partR_lt _ _ (by assumption) | exact fromB_lt _ | decide | omega) (by first | assumption | exact addR_lt _ _ | exact timesR_lt _ _ | exact subR_lt _ _ (by assumption) | exact partR_lt _ _ (by assumption) | exact fromB_lt _ | decide | omega)).mono ?_
      rw [A3.out]
      rintro e w9 ⟨rfl, gw9⟩
      have hS := hS.below gw9
      clear gw9
      go_wp2_with (first
        | (refine wpList_alloc_at hS rfl 24 rfl (wcells 0) (zeroW _) ?_; clear hS; intro wn hS hz; clear hz)
        | ((first | refine wpList_store_at 0 hS rfl 24 _ _ rfl _ rfl (wcells _) rfl (wcells _) 24 rfl infoW rfl (ones_w _) ?_ | refine wpList_store_at 1 hS rfl 24 _ _ rfl _ rfl (wcells _) rfl (wcells _) 24 rfl infoW rfl (ones_w _) ?_ | refine wpList_store_at 2 hS rfl 24 _ _ rfl _ rfl (wcells _) rfl (wcells _) 24 rfl infoW rfl (ones_w _) ?_ | refine wpList_store_at 3 hS rfl 24 _ _ rfl _ rfl (wcells _) rfl (wcells _) 24 rfl infoW rfl (ones_w _) ?_ | refine wpList_store_at 4 hS rfl 24 _ _ rfl _ rfl (wcells _) rfl (wcells _) 24 rfl infoW rfl (ones_w _) ?_ | refine wpList_store_at 5 hS rfl 24 _ _ rfl _ rfl (wcells _) rfl (wcells _) 24 rfl infoW rfl (ones_w _) ?_ | refine wpList_store_at 6 hS rfl 24 _ _ rfl _ rfl (wcells _) rfl (wcells _) 24 rfl infoW rfl (ones_w _) ?_ | refine wpList_store_at 7 hS rfl 24 _ _ rfl _ rfl (wcells _) rfl (wcells _) 24 rfl infoW rfl (ones_w _) ?_ | refine wpList_store_at 8 hS rfl 24 _ _ rfl _ rfl (wcells _) rfl (wcells _) 24 rfl infoW rfl (ones_w _) ?_ | refine wpList_store_at 9 hS rfl 24 _ _ rfl _ rfl (wcells _) rfl (wcells _) 24 rfl infoW rfl (ones_w _) ?_); clear hS; intro wn hS hz; clear hz; simp only [List.set_cons_zero, List.set_cons_succ] at hS)
        | (refine wpList_load_at hS (by rfl) 24 _ rfl _ rfl (wcells _) 24 (by first | exact mem_0 | exact mem_1 | exact mem_2 | exact mem_3 | exact mem_4 | exact mem_5 | exact mem_6 | exact mem_7 | exact mem_8 | exact mem_9 | exact mem_10 | exact mem_11 | exact mem_12 | exact mem_13 | exact mem_14 | exact mem_15) _ Try.underlying24 rfl infoW ?_))
      refine wp_region_held_drew (S := Held _ W) (by kernel_rfl) hS.drew (fun hHeld => ?_)
      refine wpAnyH_take (i := 0) (oi := _) (v := ?_) rfl (by kernel_rfl) (by kernel_rfl) (by kernel_rfl) (fun _ _ _ h => h) (Or.inl ⟨by kernel_rfl, ?_⟩) hHeld ?_
      rotate_left
      · (intro w hSw; go_simp; try with_reducible rfl)
      try simp only [Act.put, List.getElem_toArray, List.getElem_cons_succ, List.getElem_cons_zero, List.setIfInBounds_toArray, List.set_cons_zero, List.set_cons_succ]
      refine wpAnyH_take (i := 1) (oi := _) (v := ?_) rfl (by kernel_rfl) (by kernel_rfl) (by kernel_rfl) (fun _ _ _ h => h) (Or.inl ⟨by kernel_rfl, ?_⟩) hHeld ?_
      rotate_left
      · (intro w hSw; go_simp; try with_reducible rfl)
      try simp only [Act.put, List.getElem_toArray, List.getElem_cons_succ, List.getElem_cons_zero, List.setIfInBounds_toArray, List.set_cons_zero, List.set_cons_succ]
      refine wpAnyH_take (i := 2) (oi := _) (v := _) rfl (by kernel_rfl) (by kernel_rfl) (by kernel_rfl) (fun _ _ _ h => h) (yieldsIf_load_mid (by kernel_rfl) _ _ rfl _ _ rfl _ _ (fun w h => h.rng 3 rfl) Try.underlying24 rfl infoW) hHeld ?_
      try simp only [Act.put, List.getElem_toArray, List.getElem_cons_succ, List.getElem_cons_zero, List.setIfInBounds_toArray, List.set_cons_zero, List.set_cons_succ]
      refine wpAnyH_take (i := 3) (oi := _) (v := _) rfl (by kernel_rfl) (by kernel_rfl) (by kernel_rfl) (fun _ _ _ h => h) (yieldsIf_load_mid (by kernel_rfl) _ _ rfl _ _ rfl _ _ (fun w h => h.rng 2 rfl) Try.underlying24 rfl infoW) hHeld ?_
      try simp only [Act.put, List.getElem_toArray, List.getElem_cons_succ, List.getElem_cons_zero, List.setIfInBounds_toArray, List.set_cons_zero, List.set_cons_succ]
      refine wpAnyH_take (i := 4) (oi := _) (v := ?_) rfl (by kernel_rfl) (by kernel_rfl) (by kernel_rfl) (fun _ _ _ h => h) (Or.inl ⟨by kernel_rfl, ?_⟩) hHeld ?_
      rotate_left
      · (intro w hSw; go_simp; try with_reducible rfl)
      try simp only [Act.put, List.getElem_toArray, List.getElem_cons_succ, List.getElem_cons_zero, List.setIfInBounds_toArray, List.set_cons_zero, List.set_cons_succ]
      refine wpAnyH_take (i := 5) (oi := _) (v := ?_) rfl (by kernel_rfl) (by kernel_rfl) (by kernel_rfl) (fun _ _ _ h => h) (Or.inl ⟨by kernel_rfl, ?_⟩) hHeld ?_
      rotate_left
      · (intro w hSw; go_simp; try with_reducible rfl)
      try simp only [Act.put, List.getElem_toArray, List.getElem_cons_succ, List.getElem_cons_zero, List.setIfInBounds_toArray, List.set_cons_zero, List.set_cons_succ]
      refine wpAnyH_take (i := 6) (oi := _) (v := ?_) rfl (by kernel_rfl) (by kernel_rfl) (by kernel_rfl) (fun _ _ _ h => h) (Or.inl ⟨by kernel_rfl, ?_⟩) hHeld ?_
      rotate_left
      · (intro w hSw; go_simp; try with_reducible rfl)
      try simp only [Act.put, List.getElem_toArray, List.getElem_cons_succ, List.getElem_cons_zero, List.setIfInBounds_toArray, List.set_cons_zero, List.set_cons_succ]
      refine wpAnyH_take (i := 7) (oi := _) (v := ?_) rfl (by kernel_rfl) (by kernel_rfl) (by kernel_rfl) (fun _ _ _ h => h) (Or.inl ⟨by kernel_rfl, ?_⟩) hHeld ?_
      rotate_left
      · (intro w hSw; go_simp; try with_reducible rfl)
      try simp only [Act.put, List.getElem_toArray, List.getElem_cons_succ, List.getElem_cons_zero, List.setIfInBounds_toArray, List.set_cons_zero, List.set_cons_succ]
      refine wpAnyH_take (i := 8) (oi := _) (v := ?_) rfl (by kernel_rfl) (by kernel_rfl) (by kernel_rfl) (fun _ _ _ h => h) (Or.inl ⟨by kernel_rfl, ?_⟩) hHeld ?_
      rotate_left
      · (intro w hSw; go_simp; try with_reducible rfl)
      try simp only [Act.put, List.getElem_toArray, List.getElem_cons_succ, List.getElem_cons_zero, List.setIfInBounds_toArray, List.set_cons_zero, List.set_cons_succ]
      refine wpAnyH_take (i := 9) (oi := _) (v := ?_) rfl (by kernel_rfl) (by kernel_rfl) (by kernel_rfl) (fun _ _ _ h => h) (Or.inl ⟨by kernel_rfl, ?_⟩) hHeld ?_
      rotate_left
      · (intro w hSw; go_simp; try with_reducible rfl)
      try simp only [Act.put, List.getElem_toArray, List.getElem_cons_succ, List.getElem_cons_zero, List.setIfInBounds_toArray, List.set_cons_zero, List.set_cons_succ]
      refine wpAnyH_take (i := 10) (oi := _) (v := ?_) rfl (by kernel_rfl) (by kernel_rfl) (by kernel_rfl) (fun _ _ _ h => h) (Or.inl ⟨by kernel_rfl, ?_⟩) hHeld ?_
      rotate_left
      · (intro w hSw; go_simp; try with_reducible rfl)
      try simp only [Act.put, List.getElem_toArray, List.getElem_cons_succ, List.getElem_cons_zero, List.setIfInBounds_toArray, List.set_cons_zero, List.set_cons_succ]
      refine wpAnyH_take (i := 11) (oi := _) (v := ?_) rfl (by kernel_rfl) (by kernel_rfl) (by kernel_rfl) (fun _ _ _ h => h) (Or.inl ⟨by kernel_rfl, ?_⟩) hHeld ?_
      rotate_left
      · (intro w hSw; go_simp; try with_reducible rfl)
      try simp only [Act.put, List.getElem_toArray, List.getElem_cons_succ, List.getElem_cons_zero, List.setIfInBounds_toArray, List.set_cons_zero, List.set_cons_succ]
      refine wpAnyH_take (i := 12) (oi := _) (v := ?_) rfl (by kernel_rfl) (by kernel_rfl) (by kernel_rfl) (fun _ _ _ h => h) (Or.inl ⟨by kernel_rfl, ?_⟩) hHeld ?_
      rotate_left
      · (intro w hSw; go_simp; try with_reducible rfl)
      try simp only [Act.put, List.getElem_toArray, List.getElem_cons_succ, List.getElem_cons_zero, List.setIfInBounds_toArray, List.set_cons_zero, List.set_cons_succ]
      refine wpAnyH_take (i := 13) (oi := _) (v := _) rfl (by kernel_rfl) (by kernel_rfl) (by kernel_rfl) (fun _ _ _ h => h) (yieldsIf_load_mid (by kernel_rfl) _ _ rfl _ _ rfl _ _ (fun w h => h.rng 9 rfl) Try.underlying24 rfl infoW) hHeld ?_
      try simp only [Act.put, List.getElem_toArray, List.getElem_cons_succ, List.getElem_cons_zero, List.setIfInBounds_toArray, List.set_cons_zero, List.set_cons_succ]
      refine wpAnyH_take (i := 14) (oi := _) (v := _) rfl (by kernel_rfl) (by kernel_rfl) (by kernel_rfl) (fun _ _ _ h => h) (yieldsIf_load_mid (by kernel_rfl) _ _ rfl _ _ rfl _ _ (fun w h => h.rng 8 rfl) Try.underlying24 rfl infoW) hHeld ?_
      try simp only [Act.put, List.getElem_toArray, List.getElem_cons_succ, List.getElem_cons_zero, List.setIfInBounds_toArray, List.set_cons_zero, List.set_cons_succ]
      refine wpAnyH_ready (rs := [15]) (by kernel_rfl) (by simp) ?_
      refine AllReadyH.cons (o := _) rfl (fun K hK => ?_) AllReadyH.nil
      go_simp
      go_at_call 18
      refine (wCompare_any _ _ _ (by first | assumption | exact addR_lt _ _ | exact timesR_lt _ _ | exact subR_lt _ _ (by assumption) | exact partR_lt _ _ (by assumption) | exact fromB_lt _ | decide | omega) (by first | assumption | exact addR_lt _ _ | exact timesR_lt _ _ | exact subR_lt _ _ (by assumption) | exact partR_lt _ _ (by assumption) | exact fromB_lt _ | decide | omega)).mono ?_
      first | rw [K1.out] | rw [K2.out]
      rintro e w10 ⟨rfl, gw10⟩
      refine hK.out _ _ (hHeld.below gw10) (fun hHeld => ?_)
      clear hK K
      try simp only [Act.put, List.getElem_toArray, List.getElem_cons_succ, List.getElem_cons_zero, List.setIfInBounds_toArray, List.set_cons_zero, List.set_cons_succ]
      refine wpAnyH_take (i := 16) (oi := _) (v := ?_) rfl (by kernel_rfl) (by kernel_rfl) (by kernel_rfl) (fun _ _ _ h => h) (Or.inl ⟨by kernel_rfl, ?_⟩) hHeld ?_
      rotate_left
      · (intro w hSw; go_simp; try with_reducible rfl)
      try simp only [Act.put, List.getElem_toArray, List.getElem_cons_succ, List.getElem_cons_zero, List.setIfInBounds_toArray, List.set_cons_zero, List.set_cons_succ]
      refine wpAnyH_take (i := 17) (oi := _) (v := ?_) rfl (by kernel_rfl) (by kernel_rfl) (by kernel_rfl) (fun _ _ _ h => h) (Or.inl ⟨by kernel_rfl, ?_⟩) hHeld ?_
      rotate_left
      · (intro w hSw; go_simp; try with_reducible rfl)
      try simp only [Act.put, List.getElem_toArray, List.getElem_cons_succ, List.getElem_cons_zero, List.setIfInBounds_toArray, List.set_cons_zero, List.set_cons_succ]
      refine wpAnyH_take (i := 18) (oi := _) (v := ?_) rfl (by kernel_rfl) (by kernel_rfl) (by kernel_rfl) (fun _ _ _ h => h) (Or.inl ⟨by kernel_rfl, ?_⟩) hHeld ?_
      rotate_left
      · (intro w hSw; go_simp; try with_reducible rfl)
      try simp only [Act.put, List.getElem_toArray, List.getElem_cons_succ, List.getElem_cons_zero, List.setIfInBounds_toArray, List.set_cons_zero, List.set_cons_succ]
      refine wpAnyH_take (i := 19) (oi := _) (v := ?_) rfl (by kernel_rfl) (by kernel_rfl) (by kernel_rfl) (fun _ _ _ h => h) (Or.inl ⟨by kernel_rfl, ?_⟩) hHeld ?_
      rotate_left
      · (intro w hSw; go_simp; try with_reducible rfl)
      try simp only [Act.put, List.getElem_toArray, List.getElem_cons_succ, List.getElem_cons_zero, List.setIfInBounds_toArray, List.set_cons_zero, List.set_cons_succ]
      refine wpAnyH_take (i := 20) (oi := _) (v := _) rfl (by kernel_rfl) (by kernel_rfl) (by kernel_rfl) (fun _ _ _ h => h) (yieldsIf_load_mid (by kernel_rfl) _ _ rfl _ _ rfl _ _ (fun w h => h.rng 9 rfl) Try.underlying24 rfl infoW) hHeld ?_
      try simp only [Act.put, List.getElem_toArray, List.getElem_cons_succ, List.getElem_cons_zero, List.setIfInBounds_toArray, List.set_cons_zero, List.set_cons_succ]
      refine wpAnyH_take (i := 21) (oi := _) (v := _) rfl (by kernel_rfl) (by kernel_rfl) (by kernel_rfl) (fun _ _ _ h => h) (yieldsIf_load_mid (by kernel_rfl) _ _ rfl _ _ rfl _ _ (fun w h => h.rng 8 rfl) Try.underlying24 rfl infoW) hHeld ?_
      try simp only [Act.put, List.getElem_toArray, List.getElem_cons_succ, List.getElem_cons_zero, List.setIfInBounds_toArray, List.set_cons_zero, List.set_cons_succ]
      refine wpAnyH_take (i := 23) (oi := _) (v := _) rfl (by kernel_rfl) (by kernel_rfl) (by kernel_rfl) (fun _ _ _ h => h) (yieldsIf_load_mid (by kernel_rfl) _ _ rfl _ _ rfl _ _ (fun w h => h.rng 8 rfl) Try.underlying24 rfl infoW) hHeld ?_
      try simp only [Act.put, List.getElem_toArray, List.getElem_cons_succ, List.getElem_cons_zero, List.setIfInBounds_toArray, List.set_cons_zero, List.set_cons_succ]
      refine wpAnyH_take (i := 24) (oi := _) (v := _) rfl (by kernel_rfl) (by kernel_rfl) (by kernel_rfl) (fun _ _ _ h => h) (yieldsIf_load_mid (by kernel_rfl) _ _ rfl _ _ rfl _ _ (fun w h => h.rng 9 rfl) Try.underlying24 rfl infoW) hHeld ?_
      try simp only [Act.put, List.getElem_toArray, List.getElem_cons_succ, List.getElem_cons_zero, List.setIfInBounds_toArray, List.set_cons_zero, List.set_cons_succ]
      refine wpAnyH_ready (rs := [22]) (by kernel_rfl) (by simp) ?_
      refine AllReadyH.cons (o := _) rfl (fun K hK => ?_) AllReadyH.nil
      go_simp
      go_at_call 18
      refine (wCompare_any _ _ _ (by first | assumption | exact addR_lt _ _ | exact timesR_lt _ _ | exact subR_lt _ _ (by assumption) | exact partR_lt _ _ (by assumption) | exact fromB_lt _ | decide | omega) (by first | assumption | exact addR_lt _ _ | exact timesR_lt _ _ | exact subR_lt _ _ (by assumption) | exact partR_lt _ _ (by assumption) | exact fromB_lt _ | decide | omega)).mono ?_
      first | rw [K1.out] | rw [K2.out]
      rintro e w11 ⟨rfl, gw11⟩
      refine hK.out _ _ (hHeld.below gw11) (fun hHeld => ?_)
      clear hK K
      try simp only [Act.put, List.getElem_toArray, List.getElem_cons_succ, List.getElem_cons_zero, List.setIfInBounds_toArray, List.set_cons_zero, List.set_cons_succ]
      refine wpAnyH_ready (rs := [25]) (by kernel_rfl) (by simp) ?_
      refine AllReadyH.cons (o := _) rfl (fun K hK => ?_) AllReadyH.nil
      go_simp
      go_at_call 18
      refine (wCompare_any _ _ _ (by first | assumption | exact addR_lt _ _ | exact timesR_lt _ _ | exact subR_lt _ _ (by assumption) | exact partR_lt _ _ (by assumption) | exact fromB_lt _ | decide | omega) (by first | assumption | exact addR_lt _ _ | exact timesR_lt _ _ | exact subR_lt _ _ (by assumption) | exact partR_lt _ _ (by assumption) | exact fromB_lt _ | decide | omega)).mono ?_
      first | rw [K1.out] | rw [K2.out]
      rintro e w12 ⟨rfl, gw12⟩
      refine hK.out _ _ (hHeld.below gw12) (fun hHeld => ?_)
      clear hK K
      try simp only [Act.put, List.getElem_toArray, List.getElem_cons_succ, List.getElem_cons_zero, List.setIfInBounds_toArray, List.set_cons_zero, List.set_cons_succ]
      refine wpAnyH_take (i := 26) (oi := _) (v := ?_) rfl (by kernel_rfl) (by kernel_rfl) (by kernel_rfl) (fun _ _ _ h => h) (Or.inl ⟨by kernel_rfl, ?_⟩) hHeld ?_
      rotate_left
      · (intro w hSw; go_simp; try with_reducible rfl)
      try simp only [Act.put, List.getElem_toArray, List.getElem_cons_succ, List.getElem_cons_zero, List.setIfInBounds_toArray, List.set_cons_zero, List.set_cons_succ]
      refine wpAnyH_take (i := 27) (oi := _) (v := ?_) rfl (by kernel_rfl) (by kernel_rfl) (by kernel_rfl) (fun _ _ _ h => h) (Or.inl ⟨by kernel_rfl, ?_⟩) hHeld ?_
      rotate_left
      · (intro w hSw; go_simp; try with_reducible rfl)
      try simp only [Act.put, List.getElem_toArray, List.getElem_cons_succ, List.getElem_cons_zero, List.setIfInBounds_toArray, List.set_cons_zero, List.set_cons_succ]
      refine wpAnyH_take (i := 28) (oi := _) (v := ?_) rfl (by kernel_rfl) (by kernel_rfl) (by kernel_rfl) (fun _ _ _ h => h) (Or.inl ⟨by kernel_rfl, ?_⟩) hHeld ?_
      rotate_left
      · (intro w hSw; go_simp; try with_reducible rfl)
      try simp only [Act.put, List.getElem_toArray, List.getElem_cons_succ, List.getElem_cons_zero, List.setIfInBounds_toArray, List.set_cons_zero, List.set_cons_succ]
      refine wpAnyH_take (i := 29) (oi := _) (v := ?_) rfl (by kernel_rfl) (by kernel_rfl) (by kernel_rfl) (fun _ _ _ h => h) (Or.inl ⟨by kernel_rfl, ?_⟩) hHeld ?_
      rotate_left
      · (intro w hSw; go_simp; try with_reducible rfl)
      try simp only [Act.put, List.getElem_toArray, List.getElem_cons_succ, List.getElem_cons_zero, List.setIfInBounds_toArray, List.set_cons_zero, List.set_cons_succ]
      refine wpAnyH_done (by kernel_rfl) ?_ _
      go_wp2
      go_ret
      exact ⟨rfl, hHeld.bel⟩
  · rcases Nat.lt_trichotomy N M with ho | ho | ho
    · have hord : N < M := by omega
      have K1 := Lib.hid (show cmpN N M = -1 from by unfold cmpN; rw [if_pos hord])
      have K2 := Lib.hid (show cmpN M N = 1 from by unfold cmpN; rw [if_neg (by omega), if_pos hord])
      have A1 := Lib.hid (show addR N M = (0, false) from by unfold addR; rw [if_neg hi])
      have A2 := Lib.hid (show addR M N = (0, false) from by unfold addR; rw [Nat.add_comm M N, if_neg hi])
      have D2 := Lib.hid (show subR N M = (0, false) from by unfold subR; rw [if_pos hord])
      obtain ⟨u, z, hz⟩ : ∃ u z, sumR [N, M, C] = (u, z) := ⟨_, _, rfl⟩
      have ku : u < 2 ^ 256 := by have e := sum3 (B := M) (C := C) hN; rw [hz] at e; split at e <;> (obtain ⟨rfl, rfl⟩ := Prod.mk.inj e; first | assumption | decide)
      have nu := num ku
      have Z2 := Lib.hid (show sumR [C, N, M] = (u, z) from by rw [← hz, sum3 hN, sum3 hC, show C + N + M = N + M + C by omega])
      have Z1 := Lib.hid hz
      clear hz hi hord ho
      have hS := Held.start W
      go_enter Try.func6, Try.ntmps6
      go_wp2_with (refine wpList_box_at hS rfl 24 _ rfl (wcells _) rfl ?_; clear hS; intro wn hS hz; clear hz)
      refine (awake4_any _).mono ?_
      rintro e w1 ⟨rfl, gw1⟩
      have hS := hS.below gw1
      clear gw1
      go_wp2_with (refine wpList_load_at hS (by rfl) 24 _ rfl _ rfl (wcells _) 24 (by first | exact mem_0 | exact mem_1 | exact mem_2 | exact mem_3 | exact mem_4 | exact mem_5 | exact mem_6 | exact mem_7 | exact mem_8 | exact mem_9 | exact mem_10 | exact mem_11 | exact mem_12 | exact mem_13 | exact mem_14 | exact mem_15) _ Try.underlying24 rfl infoW ?_)
      refine (wAdd_any _ _ _ (by first | assumption | exact addR_lt _ _ | exact timesR_lt _ _ | exact subR_lt _ _ (by assumption) | exact partR_lt _ _ (by assumption) | exact fromB_lt _ | decide | omega) (by first | assumption | exact addR_lt _ _ | exact timesR_lt _ _ | exact subR_lt _ _ (by assumption) | exact partR_lt _ _ (by assumption) | exact fromB_lt _ | decide | omega)).mono ?_
      rw [A1.out]
      rintro e w2 ⟨rfl, gw2⟩
      have hS := hS.below gw2
      clear gw2
      go_wp2_with (first
        | (refine wpList_alloc_at hS rfl 24 rfl (wcells 0) (zeroW _) ?_; clear hS; intro wn hS hz; clear hz)
        | ((first | refine wpList_store_at 0 hS rfl 24 _ _ rfl _ rfl (wcells _) rfl (wcells _) 24 rfl infoW rfl (ones_w _) ?_ | refine wpList_store_at 1 hS rfl 24 _ _ rfl _ rfl (wcells _) rfl (wcells _) 24 rfl infoW rfl (ones_w _) ?_ | refine wpList_store_at 2 hS rfl 24 _ _ rfl _ rfl (wcells _) rfl (wcells _) 24 rfl infoW rfl (ones_w _) ?_ | refine wpList_store_at 3 hS rfl 24 _ _ rfl _ rfl (wcells _) rfl (wcells _) 24 rfl infoW rfl (ones_w _) ?_); clear hS; intro wn hS hz; clear hz; simp only [List.set_cons_zero, List.set_cons_succ] at hS)
        | (refine wpList_load_at hS (by rfl) 24 _ rfl _ rfl (wcells _) 24 (by first | exact mem_0 | exact mem_1 | exact mem_2 | exact mem_3 | exact mem_4 | exact mem_5 | exact mem_6 | exact mem_7 | exact mem_8 | exact mem_9 | exact mem_10 | exact mem_11 | exact mem_12 | exact mem_13 | exact mem_14 | exact mem_15) _ Try.underlying24 rfl infoW ?_))
      refine (wAdd_any _ _ _ (by first | assumption | exact addR_lt _ _ | exact timesR_lt _ _ | exact subR_lt _ _ (by assumption) | exact partR_lt _ _ (by assumption) | exact fromB_lt _ | decide | omega) (by first | assumption | exact addR_lt _ _ | exact timesR_lt _ _ | exact subR_lt _ _ (by assumption) | exact partR_lt _ _ (by assumption) | exact fromB_lt _ | decide | omega)).mono ?_
      rw [A2.out]
      rintro e w3 ⟨rfl, gw3⟩
      have hS := hS.below gw3
      clear gw3
      go_wp2_with (first
        | (refine wpList_alloc_at hS rfl 24 rfl (wcells 0) (zeroW _) ?_; clear hS; intro wn hS hz; clear hz)
        | ((first | refine wpList_store_at 0 hS rfl 24 _ _ rfl _ rfl (wcells _) rfl (wcells _) 24 rfl infoW rfl (ones_w _) ?_ | refine wpList_store_at 1 hS rfl 24 _ _ rfl _ rfl (wcells _) rfl (wcells _) 24 rfl infoW rfl (ones_w _) ?_ | refine wpList_store_at 2 hS rfl 24 _ _ rfl _ rfl (wcells _) rfl (wcells _) 24 rfl infoW rfl (ones_w _) ?_ | refine wpList_store_at 3 hS rfl 24 _ _ rfl _ rfl (wcells _) rfl (wcells _) 24 rfl infoW rfl (ones_w _) ?_ | refine wpList_store_at 4 hS rfl 24 _ _ rfl _ rfl (wcells _) rfl (wcells _) 24 rfl infoW rfl (ones_w _) ?_); clear hS; intro wn hS hz; clear hz; simp only [List.set_cons_zero, List.set_cons_succ] at hS)
        | (refine wpList_load_at hS (by rfl) 24 _ rfl _ rfl (wcells _) 24 (by first | exact mem_0 | exact mem_1 | exact mem_2 | exact mem_3 | exact mem_4 | exact mem_5 | exact mem_6 | exact mem_7 | exact mem_8 | exact mem_9 | exact mem_10 | exact mem_11 | exact mem_12 | exact mem_13 | exact mem_14 | exact mem_15) _ Try.underlying24 rfl infoW ?_)
        | (refine wpList_wides3 hS rfl 43 _ rfl Try.underlying43 N M C hN hM hC (by kernel_rfl) ?_; clear hS; intro wn hS hWi))
      refine (wSum_any _ _ _ _ _ hWi (by decide)).mono ?_
      rw [Z1.out]
      rintro e w4 ⟨rfl, gw4⟩
      have hS := hS.below gw4
      clear gw4
      clear hWi
      go_wp2_with (first
        | (refine wpList_alloc_at hS rfl 24 rfl (wcells 0) (zeroW _) ?_; clear hS; intro wn hS hz; clear hz)
        | ((first | refine wpList_store_at 0 hS rfl 24 _ _ rfl _ rfl (wcells _) rfl (wcells _) 24 rfl infoW rfl (ones_w _) ?_ | refine wpList_store_at 1 hS rfl 24 _ _ rfl _ rfl (wcells _) rfl (wcells _) 24 rfl infoW rfl (ones_w _) ?_ | refine wpList_store_at 2 hS rfl 24 _ _ rfl _ rfl (wcells _) rfl (wcells _) 24 rfl infoW rfl (ones_w _) ?_ | refine wpList_store_at 3 hS rfl 24 _ _ rfl _ rfl (wcells _) rfl (wcells _) 24 rfl infoW rfl (ones_w _) ?_ | refine wpList_store_at 4 hS rfl 24 _ _ rfl _ rfl (wcells _) rfl (wcells _) 24 rfl infoW rfl (ones_w _) ?_ | refine wpList_store_at 5 hS rfl 24 _ _ rfl _ rfl (wcells _) rfl (wcells _) 24 rfl infoW rfl (ones_w _) ?_); clear hS; intro wn hS hz; clear hz; simp only [List.set_cons_zero, List.set_cons_succ] at hS)
        | (refine wpList_load_at hS (by rfl) 24 _ rfl _ rfl (wcells _) 24 (by first | exact mem_0 | exact mem_1 | exact mem_2 | exact mem_3 | exact mem_4 | exact mem_5 | exact mem_6 | exact mem_7 | exact mem_8 | exact mem_9 | exact mem_10 | exact mem_11 | exact mem_12 | exact mem_13 | exact mem_14 | exact mem_15) _ Try.underlying24 rfl infoW ?_)
        | (refine wpList_wides3 hS rfl 43 _ rfl Try.underlying43 C N M hC hN hM (by kernel_rfl) ?_; clear hS; intro wn hS hWi))
      refine (wSum_any _ _ _ _ _ hWi (by decide)).mono ?_
      rw [Z2.out]
      rintro e w5 ⟨rfl, gw5⟩
      have hS := hS.below gw5
      clear gw5
      clear hWi
      go_wp2_with (first
        | (refine wpList_alloc_at hS rfl 24 rfl (wcells 0) (zeroW _) ?_; clear hS; intro wn hS hz; clear hz)
        | ((first | refine wpList_store_at 0 hS rfl 24 _ _ rfl _ rfl (wcells _) rfl (wcells _) 24 rfl infoW rfl (ones_w _) ?_ | refine wpList_store_at 1 hS rfl 24 _ _ rfl _ rfl (wcells _) rfl (wcells _) 24 rfl infoW rfl (ones_w _) ?_ | refine wpList_store_at 2 hS rfl 24 _ _ rfl _ rfl (wcells _) rfl (wcells _) 24 rfl infoW rfl (ones_w _) ?_ | refine wpList_store_at 3 hS rfl 24 _ _ rfl _ rfl (wcells _) rfl (wcells _) 24 rfl infoW rfl (ones_w _) ?_ | refine wpList_store_at 4 hS rfl 24 _ _ rfl _ rfl (wcells _) rfl (wcells _) 24 rfl infoW rfl (ones_w _) ?_ | refine wpList_store_at 5 hS rfl 24 _ _ rfl _ rfl (wcells _) rfl (wcells _) 24 rfl infoW rfl (ones_w _) ?_ | refine wpList_store_at 6 hS rfl 24 _ _ rfl _ rfl (wcells _) rfl (wcells _) 24 rfl infoW rfl (ones_w _) ?_); clear hS; intro wn hS hz; clear hz; simp only [List.set_cons_zero, List.set_cons_succ] at hS)
        | (refine wpList_load_at hS (by rfl) 24 _ rfl _ rfl (wcells _) 24 (by first | exact mem_0 | exact mem_1 | exact mem_2 | exact mem_3 | exact mem_4 | exact mem_5 | exact mem_6 | exact mem_7 | exact mem_8 | exact mem_9 | exact mem_10 | exact mem_11 | exact mem_12 | exact mem_13 | exact mem_14 | exact mem_15) _ Try.underlying24 rfl infoW ?_))
      refine (wSub_any _ _ _ (by first | assumption | exact addR_lt _ _ | exact timesR_lt _ _ | exact subR_lt _ _ (by assumption) | exact partR_lt _ _ (by assumption) | exact fromB_lt _ | decide | omega) (by first | assumption | exact addR_lt _ _ | exact timesR_lt _ _ | exact subR_lt _ _ (by assumption) | exact partR_lt _ _ (by assumption) | exact fromB_lt _ | decide | omega)).mono ?_
      rw [D2.out]
      rintro e w6 ⟨rfl, gw6⟩
      have hS := hS.below gw6
      clear gw6
      go_wp2_with (first
        | (refine wpList_alloc_at hS rfl 24 rfl (wcells 0) (zeroW _) ?_; clear hS; intro wn hS hz; clear hz)
        | ((first | refine wpList_store_at 0 hS rfl 24 _ _ rfl _ rfl (wcells _) rfl (wcells _) 24 rfl infoW rfl (ones_w _) ?_ | refine wpList_store_at 1 hS rfl 24 _ _ rfl _ rfl (wcells _) rfl (wcells _) 24 rfl infoW rfl (ones_w _) ?_ | refine wpList_store_at 2 hS rfl 24 _ _ rfl _ rfl (wcells _) rfl (wcells _) 24 rfl infoW rfl (ones_w _) ?_ | refine wpList_store_at 3 hS rfl 24 _ _ rfl _ rfl (wcells _) rfl (wcells _) 24 rfl infoW rfl (ones_w _) ?_ | refine wpList_store_at 4 hS rfl 24 _ _ rfl _ rfl (wcells _) rfl (wcells _) 24 rfl infoW rfl (ones_w _) ?_ | refine wpList_store_at 5 hS rfl 24 _ _ rfl _ rfl (wcells _) rfl (wcells _) 24 rfl infoW rfl (ones_w _) ?_ | refine wpList_store_at 6 hS rfl 24 _ _ rfl _ rfl (wcells _) rfl (wcells _) 24 rfl infoW rfl (ones_w _) ?_ | refine wpList_store_at 7 hS rfl 24 _ _ rfl _ rfl (wcells _) rfl (wcells _) 24 rfl infoW rfl (ones_w _) ?_); clear hS; intro wn hS hz; clear hz; simp only [List.set_cons_zero, List.set_cons_succ] at hS))
      refine wp_region_held_drew (S := Held _ W) (by kernel_rfl) hS.drew (fun hHeld => ?_)
      refine wpAnyH_take (i := 0) (oi := _) (v := ?_) rfl (by kernel_rfl) (by kernel_rfl) (by kernel_rfl) (fun _ _ _ h => h) (Or.inl ⟨by kernel_rfl, ?_⟩) hHeld ?_
      rotate_left
      · (intro w hSw; go_simp; try with_reducible rfl)
      try simp only [Act.put, List.getElem_toArray, List.getElem_cons_succ, List.getElem_cons_zero, List.setIfInBounds_toArray, List.set_cons_zero, List.set_cons_succ]
      refine wpAnyH_take (i := 1) (oi := _) (v := ?_) rfl (by kernel_rfl) (by kernel_rfl) (by kernel_rfl) (fun _ _ _ h => h) (Or.inl ⟨by kernel_rfl, ?_⟩) hHeld ?_
      rotate_left
      · (intro w hSw; go_simp; try with_reducible rfl)
      try simp only [Act.put, List.getElem_toArray, List.getElem_cons_succ, List.getElem_cons_zero, List.setIfInBounds_toArray, List.set_cons_zero, List.set_cons_succ]
      refine wpAnyH_take (i := 2) (oi := _) (v := _) rfl (by kernel_rfl) (by kernel_rfl) (by kernel_rfl) (fun _ _ _ h => h) (yieldsIf_load_mid (by kernel_rfl) _ _ rfl _ _ rfl _ _ (fun w h => h.rng 2 rfl) Try.underlying24 rfl infoW) hHeld ?_
      try simp only [Act.put, List.getElem_toArray, List.getElem_cons_succ, List.getElem_cons_zero, List.setIfInBounds_toArray, List.set_cons_zero, List.set_cons_succ]
      refine wpAnyH_take (i := 3) (oi := _) (v := _) rfl (by kernel_rfl) (by kernel_rfl) (by kernel_rfl) (fun _ _ _ h => h) (yieldsIf_load_mid (by kernel_rfl) _ _ rfl _ _ rfl _ _ (fun w h => h.rng 1 rfl) Try.underlying24 rfl infoW) hHeld ?_
      try simp only [Act.put, List.getElem_toArray, List.getElem_cons_succ, List.getElem_cons_zero, List.setIfInBounds_toArray, List.set_cons_zero, List.set_cons_succ]
      refine wpAnyH_take (i := 4) (oi := _) (v := ?_) rfl (by kernel_rfl) (by kernel_rfl) (by kernel_rfl) (fun _ _ _ h => h) (Or.inl ⟨by kernel_rfl, ?_⟩) hHeld ?_
      rotate_left
      · (intro w hSw; go_simp; try with_reducible rfl)
      try simp only [Act.put, List.getElem_toArray, List.getElem_cons_succ, List.getElem_cons_zero, List.setIfInBounds_toArray, List.set_cons_zero, List.set_cons_succ]
      refine wpAnyH_take (i := 5) (oi := _) (v := ?_) rfl (by kernel_rfl) (by kernel_rfl) (by kernel_rfl) (fun _ _ _ h => h) (Or.inl ⟨by kernel_rfl, ?_⟩) hHeld ?_
      rotate_left
      · (intro w hSw; go_simp; try with_reducible rfl)
      try simp only [Act.put, List.getElem_toArray, List.getElem_cons_succ, List.getElem_cons_zero, List.setIfInBounds_toArray, List.set_cons_zero, List.set_cons_succ]
      refine wpAnyH_take (i := 6) (oi := _) (v := ?_) rfl (by kernel_rfl) (by kernel_rfl) (by kernel_rfl) (fun _ _ _ h => h) (Or.inl ⟨by kernel_rfl, ?_⟩) hHeld ?_
      rotate_left
      · (intro w hSw; go_simp; try with_reducible rfl)
      try simp only [Act.put, List.getElem_toArray, List.getElem_cons_succ, List.getElem_cons_zero, List.setIfInBounds_toArray, List.set_cons_zero, List.set_cons_succ]
      refine wpAnyH_take (i := 7) (oi := _) (v := ?_) rfl (by kernel_rfl) (by kernel_rfl) (by kernel_rfl) (fun _ _ _ h => h) (Or.inl ⟨by kernel_rfl, ?_⟩) hHeld ?_
      rotate_left
      · (intro w hSw; go_simp; try with_reducible rfl)
      try simp only [Act.put, List.getElem_toArray, List.getElem_cons_succ, List.getElem_cons_zero, List.setIfInBounds_toArray, List.set_cons_zero, List.set_cons_succ]
      refine wpAnyH_take (i := 8) (oi := _) (v := ?_) rfl (by kernel_rfl) (by kernel_rfl) (by kernel_rfl) (fun _ _ _ h => h) (Or.inl ⟨by kernel_rfl, ?_⟩) hHeld ?_
      rotate_left
      · (intro w hSw; go_simp; try with_reducible rfl)
      try simp only [Act.put, List.getElem_toArray, List.getElem_cons_succ, List.getElem_cons_zero, List.setIfInBounds_toArray, List.set_cons_zero, List.set_cons_succ]
      refine wpAnyH_take (i := 9) (oi := _) (v := ?_) rfl (by kernel_rfl) (by kernel_rfl) (by kernel_rfl) (fun _ _ _ h => h) (Or.inl ⟨by kernel_rfl, ?_⟩) hHeld ?_
      rotate_left
      · (intro w hSw; go_simp; try with_reducible rfl)
      try simp only [Act.put, List.getElem_toArray, List.getElem_cons_succ, List.getElem_cons_zero, List.setIfInBounds_toArray, List.set_cons_zero, List.set_cons_succ]
      refine wpAnyH_take (i := 10) (oi := _) (v := ?_) rfl (by kernel_rfl) (by kernel_rfl) (by kernel_rfl) (fun _ _ _ h => h) (Or.inl ⟨by kernel_rfl, ?_⟩) hHeld ?_
      rotate_left
      · (intro w hSw; go_simp; try with_reducible rfl)
      try simp only [Act.put, List.getElem_toArray, List.getElem_cons_succ, List.getElem_cons_zero, List.setIfInBounds_toArray, List.set_cons_zero, List.set_cons_succ]
      refine wpAnyH_take (i := 11) (oi := _) (v := ?_) rfl (by kernel_rfl) (by kernel_rfl) (by kernel_rfl) (fun _ _ _ h => h) (Or.inl ⟨by kernel_rfl, ?_⟩) hHeld ?_
      rotate_left
      · (intro w hSw; go_simp; try with_reducible rfl)
      try simp only [Act.put, List.getElem_toArray, List.getElem_cons_succ, List.getElem_cons_zero, List.setIfInBounds_toArray, List.set_cons_zero, List.set_cons_succ]
      refine wpAnyH_take (i := 12) (oi := _) (v := ?_) rfl (by kernel_rfl) (by kernel_rfl) (by kernel_rfl) (fun _ _ _ h => h) (Or.inl ⟨by kernel_rfl, ?_⟩) hHeld ?_
      rotate_left
      · (intro w hSw; go_simp; try with_reducible rfl)
      try simp only [Act.put, List.getElem_toArray, List.getElem_cons_succ, List.getElem_cons_zero, List.setIfInBounds_toArray, List.set_cons_zero, List.set_cons_succ]
      refine wpAnyH_take (i := 13) (oi := _) (v := _) rfl (by kernel_rfl) (by kernel_rfl) (by kernel_rfl) (fun _ _ _ h => h) (yieldsIf_load_mid (by kernel_rfl) _ _ rfl _ _ rfl _ _ (fun w h => h.rng 7 rfl) Try.underlying24 rfl infoW) hHeld ?_
      try simp only [Act.put, List.getElem_toArray, List.getElem_cons_succ, List.getElem_cons_zero, List.setIfInBounds_toArray, List.set_cons_zero, List.set_cons_succ]
      refine wpAnyH_take (i := 14) (oi := _) (v := _) rfl (by kernel_rfl) (by kernel_rfl) (by kernel_rfl) (fun _ _ _ h => h) (yieldsIf_load_mid (by kernel_rfl) _ _ rfl _ _ rfl _ _ (fun w h => h.rng 6 rfl) Try.underlying24 rfl infoW) hHeld ?_
      try simp only [Act.put, List.getElem_toArray, List.getElem_cons_succ, List.getElem_cons_zero, List.setIfInBounds_toArray, List.set_cons_zero, List.set_cons_succ]
      refine wpAnyH_ready (rs := [15]) (by kernel_rfl) (by simp) ?_
      refine AllReadyH.cons (o := _) rfl (fun K hK => ?_) AllReadyH.nil
      go_simp
      go_at_call 18
      refine (wCompare_any _ _ _ (by first | assumption | exact addR_lt _ _ | exact timesR_lt _ _ | exact subR_lt _ _ (by assumption) | exact partR_lt _ _ (by assumption) | exact fromB_lt _ | decide | omega) (by first | assumption | exact addR_lt _ _ | exact timesR_lt _ _ | exact subR_lt _ _ (by assumption) | exact partR_lt _ _ (by assumption) | exact fromB_lt _ | decide | omega)).mono ?_
      first | rw [K1.out] | rw [K2.out]
      rintro e w7 ⟨rfl, gw7⟩
      refine hK.out _ _ (hHeld.below gw7) (fun hHeld => ?_)
      clear hK K
      try simp only [Act.put, List.getElem_toArray, List.getElem_cons_succ, List.getElem_cons_zero, List.setIfInBounds_toArray, List.set_cons_zero, List.set_cons_succ]
      refine wpAnyH_take (i := 16) (oi := _) (v := ?_) rfl (by kernel_rfl) (by kernel_rfl) (by kernel_rfl) (fun _ _ _ h => h) (Or.inl ⟨by kernel_rfl, ?_⟩) hHeld ?_
      rotate_left
      · (intro w hSw; go_simp; try with_reducible rfl)
      try simp only [Act.put, List.getElem_toArray, List.getElem_cons_succ, List.getElem_cons_zero, List.setIfInBounds_toArray, List.set_cons_zero, List.set_cons_succ]
      refine wpAnyH_take (i := 17) (oi := _) (v := ?_) rfl (by kernel_rfl) (by kernel_rfl) (by kernel_rfl) (fun _ _ _ h => h) (Or.inl ⟨by kernel_rfl, ?_⟩) hHeld ?_
      rotate_left
      · (intro w hSw; go_simp; try with_reducible rfl)
      try simp only [Act.put, List.getElem_toArray, List.getElem_cons_succ, List.getElem_cons_zero, List.setIfInBounds_toArray, List.set_cons_zero, List.set_cons_succ]
      refine wpAnyH_take (i := 18) (oi := _) (v := ?_) rfl (by kernel_rfl) (by kernel_rfl) (by kernel_rfl) (fun _ _ _ h => h) (Or.inl ⟨by kernel_rfl, ?_⟩) hHeld ?_
      rotate_left
      · (intro w hSw; go_simp; try with_reducible rfl)
      try simp only [Act.put, List.getElem_toArray, List.getElem_cons_succ, List.getElem_cons_zero, List.setIfInBounds_toArray, List.set_cons_zero, List.set_cons_succ]
      refine wpAnyH_take (i := 19) (oi := _) (v := ?_) rfl (by kernel_rfl) (by kernel_rfl) (by kernel_rfl) (fun _ _ _ h => h) (Or.inl ⟨by kernel_rfl, ?_⟩) hHeld ?_
      rotate_left
      · (intro w hSw; go_simp; try with_reducible rfl)
      try simp only [Act.put, List.getElem_toArray, List.getElem_cons_succ, List.getElem_cons_zero, List.setIfInBounds_toArray, List.set_cons_zero, List.set_cons_succ]
      refine wpAnyH_take (i := 20) (oi := _) (v := _) rfl (by kernel_rfl) (by kernel_rfl) (by kernel_rfl) (fun _ _ _ h => h) (yieldsIf_load_mid (by kernel_rfl) _ _ rfl _ _ rfl _ _ (fun w h => h.rng 7 rfl) Try.underlying24 rfl infoW) hHeld ?_
      try simp only [Act.put, List.getElem_toArray, List.getElem_cons_succ, List.getElem_cons_zero, List.setIfInBounds_toArray, List.set_cons_zero, List.set_cons_succ]
      refine wpAnyH_take (i := 21) (oi := _) (v := _) rfl (by kernel_rfl) (by kernel_rfl) (by kernel_rfl) (fun _ _ _ h => h) (yieldsIf_load_mid (by kernel_rfl) _ _ rfl _ _ rfl _ _ (fun w h => h.rng 6 rfl) Try.underlying24 rfl infoW) hHeld ?_
      try simp only [Act.put, List.getElem_toArray, List.getElem_cons_succ, List.getElem_cons_zero, List.setIfInBounds_toArray, List.set_cons_zero, List.set_cons_succ]
      refine wpAnyH_take (i := 23) (oi := _) (v := _) rfl (by kernel_rfl) (by kernel_rfl) (by kernel_rfl) (fun _ _ _ h => h) (yieldsIf_load_mid (by kernel_rfl) _ _ rfl _ _ rfl _ _ (fun w h => h.rng 6 rfl) Try.underlying24 rfl infoW) hHeld ?_
      try simp only [Act.put, List.getElem_toArray, List.getElem_cons_succ, List.getElem_cons_zero, List.setIfInBounds_toArray, List.set_cons_zero, List.set_cons_succ]
      refine wpAnyH_take (i := 24) (oi := _) (v := _) rfl (by kernel_rfl) (by kernel_rfl) (by kernel_rfl) (fun _ _ _ h => h) (yieldsIf_load_mid (by kernel_rfl) _ _ rfl _ _ rfl _ _ (fun w h => h.rng 7 rfl) Try.underlying24 rfl infoW) hHeld ?_
      try simp only [Act.put, List.getElem_toArray, List.getElem_cons_succ, List.getElem_cons_zero, List.setIfInBounds_toArray, List.set_cons_zero, List.set_cons_succ]
      refine wpAnyH_ready (rs := [22]) (by kernel_rfl) (by simp) ?_
      refine AllReadyH.cons (o := _) rfl (fun K hK => ?_) AllReadyH.nil
      go_simp
      go_at_call 18
      refine (wCompare_any _ _ _ (by first | assumption | exact addR_lt _ _ | exact timesR_lt _ _ | exact subR_lt _ _ (by assumption) | exact partR_lt _ _ (by assumption) | exact fromB_lt _ | decide | omega) (by first | assumption | exact addR_lt _ _ | exact timesR_lt _ _ | exact subR_lt _ _ (by assumption) | exact partR_lt _ _ (by assumption) | exact fromB_lt _ | decide | omega)).mono ?_
      first | rw [K1.out] | rw [K2.out]
      rintro e w8 ⟨rfl, gw8⟩
      refine hK.out _ _ (hHeld.below gw8) (fun hHeld => ?_)
      clear hK K
      try simp only [Act.put, List.getElem_toArray, List.getElem_cons_succ, List.getElem_cons_zero, List.setIfInBounds_toArray, List.set_cons_zero, List.set_cons_succ]
      refine wpAnyH_ready (rs := [25]) (by kernel_rfl) (by simp) ?_
      refine AllReadyH.cons (o := _) rfl (fun K hK => ?_) AllReadyH.nil
      go_simp
      go_at_call 18
      refine (wCompare_any _ _ _ (by first | assumption | exact addR_lt _ _ | exact timesR_lt _ _ | exact subR_lt _ _ (by assumption) | exact partR_lt _ _ (by assumption) | exact fromB_lt _ | decide | omega) (by first | assumption | exact addR_lt _ _ | exact timesR_lt _ _ | exact subR_lt _ _ (by assumption) | exact partR_lt _ _ (by assumption) | exact fromB_lt _ | decide | omega)).mono ?_
      first | rw [K1.out] | rw [K2.out]
      rintro e w9 ⟨rfl, gw9⟩
      refine hK.out _ _ (hHeld.below gw9) (fun hHeld => ?_)
      clear hK K
      try simp only [Act.put, List.getElem_toArray, List.getElem_cons_succ, List.getElem_cons_zero, List.setIfInBounds_toArray, List.set_cons_zero, List.set_cons_succ]
      refine wpAnyH_take (i := 26) (oi := _) (v := ?_) rfl (by kernel_rfl) (by kernel_rfl) (by kernel_rfl) (fun _ _ _ h => h) (Or.inl ⟨by kernel_rfl, ?_⟩) hHeld ?_
      rotate_left
      · (intro w hSw; go_simp; try with_reducible rfl)
      try simp only [Act.put, List.getElem_toArray, List.getElem_cons_succ, List.getElem_cons_zero, List.setIfInBounds_toArray, List.set_cons_zero, List.set_cons_succ]
      refine wpAnyH_take (i := 27) (oi := _) (v := ?_) rfl (by kernel_rfl) (by kernel_rfl) (by kernel_rfl) (fun _ _ _ h => h) (Or.inl ⟨by kernel_rfl, ?_⟩) hHeld ?_
      rotate_left
      · (intro w hSw; go_simp; try with_reducible rfl)
      try simp only [Act.put, List.getElem_toArray, List.getElem_cons_succ, List.getElem_cons_zero, List.setIfInBounds_toArray, List.set_cons_zero, List.set_cons_succ]
      refine wpAnyH_take (i := 28) (oi := _) (v := ?_) rfl (by kernel_rfl) (by kernel_rfl) (by kernel_rfl) (fun _ _ _ h => h) (Or.inl ⟨by kernel_rfl, ?_⟩) hHeld ?_
      rotate_left
      · (intro w hSw; go_simp; try with_reducible rfl)
      try simp only [Act.put, List.getElem_toArray, List.getElem_cons_succ, List.getElem_cons_zero, List.setIfInBounds_toArray, List.set_cons_zero, List.set_cons_succ]
      refine wpAnyH_take (i := 29) (oi := _) (v := ?_) rfl (by kernel_rfl) (by kernel_rfl) (by kernel_rfl) (fun _ _ _ h => h) (Or.inl ⟨by kernel_rfl, ?_⟩) hHeld ?_
      rotate_left
      · (intro w hSw; go_simp; try with_reducible rfl)
      try simp only [Act.put, List.getElem_toArray, List.getElem_cons_succ, List.getElem_cons_zero, List.setIfInBounds_toArray, List.set_cons_zero, List.set_cons_succ]
      refine wpAnyH_done (by kernel_rfl) ?_ _
      go_wp2
      go_ret
      exact ⟨rfl, hHeld.bel⟩
    · have hord : N = M := by omega
      have K1 := Lib.hid (show cmpN N M = 0 from by unfold cmpN; rw [if_neg (by omega), if_neg (by omega)])
      have K2 := Lib.hid (show cmpN M N = 0 from by unfold cmpN; rw [if_neg (by omega), if_neg (by omega)])
      have A1 := Lib.hid (show addR N M = (0, false) from by unfold addR; rw [if_neg hi])
      have A2 := Lib.hid (show addR M N = (0, false) from by unfold addR; rw [Nat.add_comm M N, if_neg hi])
      obtain ⟨d, hd⟩ : ∃ d, d = N - M := ⟨_, rfl⟩
      have kd : d < 2 ^ 256 := by omega
      have nd := num kd
      have D2 := Lib.hid (show subR N M = (d, true) from by unfold subR; rw [if_neg (by omega), hd])
      have A3 := Lib.hid (show addR d M = (N, true) from by unfold addR; rw [show d + M = N by omega, if_pos hN])
      clear hd
      obtain ⟨u, z, hz⟩ : ∃ u z, sumR [N, M, C] = (u, z) := ⟨_, _, rfl⟩
      have ku : u < 2 ^ 256 := by have e := sum3 (B := M) (C := C) hN; rw [hz] at e; split at e <;> (obtain ⟨rfl, rfl⟩ := Prod.mk.inj e; first | assumption | decide)
      have nu := num ku
      have Z2 := Lib.hid (show sumR [C, N, M] = (u, z) from by rw [← hz, sum3 hN, sum3 hC, show C + N + M = N + M + C by omega])
      have Z1 := Lib.hid hz
      clear hz hi hord ho
      have hS := Held.start W
      go_enter Try.func6, Try.ntmps6
      go_wp2_with (refine wpList_box_at hS rfl 24 _ rfl (wcells _) rfl ?_; clear hS; intro wn hS hz; clear hz)
      refine (awake4_any _).mono ?_
      rintro e w1 ⟨rfl, gw1⟩
      have hS := hS.below gw1
      clear gw1
      go_wp2_with (refine wpList_load_at hS (by rfl) 24 _ rfl _ rfl (wcells _) 24 (by first | exact mem_0 | exact mem_1 | exact mem_2 | exact mem_3 | exact mem_4 | exact mem_5 | exact mem_6 | exact mem_7 | exact mem_8 | exact mem_9 | exact mem_10 | exact mem_11 | exact mem_12 | exact mem_13 | exact mem_14 | exact mem_15) _ Try.underlying24 rfl infoW ?_)
      refine (wAdd_any _ _ _ (by first | assumption | exact addR_lt _ _ | exact timesR_lt _ _ | exact subR_lt _ _ (by assumption) | exact partR_lt _ _ (by assumption) | exact fromB_lt _ | decide | omega) (by first | assumption | exact addR_lt _ _ | exact timesR_lt _ _ | exact subR_lt _ _ (by assumption) | exact partR_lt _ _ (by assumption) | exact fromB_lt _ | decide | omega)).mono ?_
      rw [A1.out]
      rintro e w2 ⟨rfl, gw2⟩
      have hS := hS.below gw2
      clear gw2
      go_wp2_with (first
        | (refine wpList_alloc_at hS rfl 24 rfl (wcells 0) (zeroW _) ?_; clear hS; intro wn hS hz; clear hz)
        | ((first | refine wpList_store_at 0 hS rfl 24 _ _ rfl _ rfl (wcells _) rfl (wcells _) 24 rfl infoW rfl (ones_w _) ?_ | refine wpList_store_at 1 hS rfl 24 _ _ rfl _ rfl (wcells _) rfl (wcells _) 24 rfl infoW rfl (ones_w _) ?_ | refine wpList_store_at 2 hS rfl 24 _ _ rfl _ rfl (wcells _) rfl (wcells _) 24 rfl infoW rfl (ones_w _) ?_ | refine wpList_store_at 3 hS rfl 24 _ _ rfl _ rfl (wcells _) rfl (wcells _) 24 rfl infoW rfl (ones_w _) ?_); clear hS; intro wn hS hz; clear hz; simp only [List.set_cons_zero, List.set_cons_succ] at hS)
        | (refine wpList_load_at hS (by rfl) 24 _ rfl _ rfl (wcells _) 24 (by first | exact mem_0 | exact mem_1 | exact mem_2 | exact mem_3 | exact mem_4 | exact mem_5 | exact mem_6 | exact mem_7 | exact mem_8 | exact mem_9 | exact mem_10 | exact mem_11 | exact mem_12 | exact mem_13 | exact mem_14 | exact mem_15) _ Try.underlying24 rfl infoW ?_))
      refine (wAdd_any _ _ _ (by first | assumption | exact addR_lt _ _ | exact timesR_lt _ _ | exact subR_lt _ _ (by assumption) | exact partR_lt _ _ (by assumption) | exact fromB_lt _ | decide | omega) (by first | assumption | exact addR_lt _ _ | exact timesR_lt _ _ | exact subR_lt _ _ (by assumption) | exact partR_lt _ _ (by assumption) | exact fromB_lt _ | decide | omega)).mono ?_
      rw [A2.out]
      rintro e w3 ⟨rfl, gw3⟩
      have hS := hS.below gw3
      clear gw3
      go_wp2_with (first
        | (refine wpList_alloc_at hS rfl 24 rfl (wcells 0) (zeroW _) ?_; clear hS; intro wn hS hz; clear hz)
        | ((first | refine wpList_store_at 0 hS rfl 24 _ _ rfl _ rfl (wcells _) rfl (wcells _) 24 rfl infoW rfl (ones_w _) ?_ | refine wpList_store_at 1 hS rfl 24 _ _ rfl _ rfl (wcells _) rfl (wcells _) 24 rfl infoW rfl (ones_w _) ?_ | refine wpList_store_at 2 hS rfl 24 _ _ rfl _ rfl (wcells _) rfl (wcells _) 24 rfl infoW rfl (ones_w _) ?_ | refine wpList_store_at 3 hS rfl 24 _ _ rfl _ rfl (wcells _) rfl (wcells _) 24 rfl infoW rfl (ones_w _) ?_ | refine wpList_store_at 4 hS rfl 24 _ _ rfl _ rfl (wcells _) rfl (wcells _) 24 rfl infoW rfl (ones_w _) ?_); clear hS; intro wn hS hz; clear hz; simp only [List.set_cons_zero, List.set_cons_succ] at hS)
        | (refine wpList_load_at hS (by rfl) 24 _ rfl _ rfl (wcells _) 24 (by first | exact mem_0 | exact mem_1 | exact mem_2 | exact mem_3 | exact mem_4 | exact mem_5 | exact mem_6 | exact mem_7 | exact mem_8 | exact mem_9 | exact mem_10 | exact mem_11 | exact mem_12 | exact mem_13 | exact mem_14 | exact mem_15) _ Try.underlying24 rfl infoW ?_)
        | (refine wpList_wides3 hS rfl 43 _ rfl Try.underlying43 N M C hN hM hC (by kernel_rfl) ?_; clear hS; intro wn hS hWi))
      refine (wSum_any _ _ _ _ _ hWi (by decide)).mono ?_
      rw [Z1.out]
      rintro e w4 ⟨rfl, gw4⟩
      have hS := hS.below gw4
      clear gw4
      clear hWi
      go_wp2_with (first
        | (refine wpList_alloc_at hS rfl 24 rfl (wcells 0) (zeroW _) ?_; clear hS; intro wn hS hz; clear hz)
        | ((first | refine wpList_store_at 0 hS rfl 24 _ _ rfl _ rfl (wcells _) rfl (wcells _) 24 rfl infoW rfl (ones_w _) ?_ | refine wpList_store_at 1 hS rfl 24 _ _ rfl _ rfl (wcells _) rfl (wcells _) 24 rfl infoW rfl (ones_w _) ?_ | refine wpList_store_at 2 hS rfl 24 _ _ rfl _ rfl (wcells _) rfl (wcells _) 24 rfl infoW rfl (ones_w _) ?_ | refine wpList_store_at 3 hS rfl 24 _ _ rfl _ rfl (wcells _) rfl (wcells _) 24 rfl infoW rfl (ones_w _) ?_ | refine wpList_store_at 4 hS rfl 24 _ _ rfl _ rfl (wcells _) rfl (wcells _) 24 rfl infoW rfl (ones_w _) ?_ | refine wpList_store_at 5 hS rfl 24 _ _ rfl _ rfl (wcells _) rfl (wcells _) 24 rfl infoW rfl (ones_w _) ?_); clear hS; intro wn hS hz; clear hz; simp only [List.set_cons_zero, List.set_cons_succ] at hS)
        | (refine wpList_load_at hS (by rfl) 24 _ rfl _ rfl (wcells _) 24 (by first | exact mem_0 | exact mem_1 | exact mem_2 | exact mem_3 | exact mem_4 | exact mem_5 | exact mem_6 | exact mem_7 | exact mem_8 | exact mem_9 | exact mem_10 | exact mem_11 | exact mem_12 | exact mem_13 | exact mem_14 | exact mem_15) _ Try.underlying24 rfl infoW ?_)
        | (refine wpList_wides3 hS rfl 43 _ rfl Try.underlying43 C N M hC hN hM (by kernel_rfl) ?_; clear hS; intro wn hS hWi))
      refine (wSum_any _ _ _ _ _ hWi (by decide)).mono ?_
      rw [Z2.out]
      rintro e w5 ⟨rfl, gw5⟩
      have hS := hS.below gw5
      clear gw5
      clear hWi
      go_wp2_with (first
        | (refine wpList_alloc_at hS rfl 24 rfl (wcells 0) (zeroW _) ?_; clear hS; intro wn hS hz; clear hz)
        | ((first | refine wpList_store_at 0 hS rfl 24 _ _ rfl _ rfl (wcells _) rfl (wcells _) 24 rfl infoW rfl (ones_w _) ?_ | refine wpList_store_at 1 hS rfl 24 _ _ rfl _ rfl (wcells _) rfl (wcells _) 24 rfl infoW rfl (ones_w _) ?_ | refine wpList_store_at 2 hS rfl 24 _ _ rfl _ rfl (wcells _) rfl (wcells _) 24 rfl infoW rfl (ones_w _) ?_ | refine wpList_store_at 3 hS rfl 24 _ _ rfl _ rfl (wcells _) rfl (wcells _) 24 rfl infoW rfl (ones_w _) ?_ | refine wpList_store_at 4 hS rfl 24 _ _ rfl _ rfl (wcells _) rfl (wcells _) 24 rfl infoW rfl (ones_w _) ?_ | refine wpList_store_at 5 hS rfl 24 _ _ rfl _ rfl (wcells _) rfl (wcells _) 24 rfl infoW rfl (ones_w _) ?_ | refine wpList_store_at 6 hS rfl 24 _ _ rfl _ rfl (wcells _) rfl (wcells _) 24 rfl infoW rfl (ones_w _) ?_); clear hS; intro wn hS hz; clear hz; simp only [List.set_cons_zero, List.set_cons_succ] at hS)
        | (refine wpList_load_at hS (by rfl) 24 _ rfl _ rfl (wcells _) 24 (by first | exact mem_0 | exact mem_1 | exact mem_2 | exact mem_3 | exact mem_4 | exact mem_5 | exact mem_6 | exact mem_7 | exact mem_8 | exact mem_9 | exact mem_10 | exact mem_11 | exact mem_12 | exact mem_13 | exact mem_14 | exact mem_15) _ Try.underlying24 rfl infoW ?_))
      refine (wSub_any _ _ _ (by first | assumption | exact addR_lt _ _ | exact timesR_lt _ _ | exact subR_lt _ _ (by assumption) | exact partR_lt _ _ (by assumption) | exact fromB_lt _ | decide | omega) (by first | assumption | exact addR_lt _ _ | exact timesR_lt _ _ | exact subR_lt _ _ (by assumption) | exact partR_lt _ _ (by assumption) | exact fromB_lt _ | decide | omega)).mono ?_
      rw [D2.out]
      rintro e w6 ⟨rfl, gw6⟩
      have hS := hS.below gw6
      clear gw6
      go_wp2_with (first
        | (refine wpList_alloc_at hS rfl 24 rfl (wcells 0) (zeroW _) ?_; clear hS; intro wn hS hz; clear hz)
        | ((first | refine wpList_store_at 0 hS rfl 24 _ _ rfl _ rfl (wcells _) rfl (wcells _) 24 rfl infoW rfl (ones_w _) ?_ | refine wpList_store_at 1 hS rfl 24 _ _ rfl _ rfl (wcells _) rfl (wcells _) 24 rfl infoW rfl (ones_w _) ?_ | refine wpList_store_at 2 hS rfl 24 _ _ rfl _ rfl (wcells _) rfl (wcells _) 24 rfl infoW rfl (ones_w _) ?_ | refine wpList_store_at 3 hS rfl 24 _ _ rfl _ rfl (wcells _) rfl (wcells _) 24 rfl infoW rfl (ones_w _) ?_ | refine wpList_store_at 4 hS rfl 24 _ _ rfl _ rfl (wcells _) rfl (wcells _) 24 rfl infoW rfl (ones_w _) ?_ | refine wpList_store_at 5 hS rfl 24 _ _ rfl _ rfl (wcells _) rfl (wcells _) 24 rfl infoW rfl (ones_w _) ?_ | refine wpList_store_at 6 hS rfl 24 _ _ rfl _ rfl (wcells _) rfl (wcells _) 24 rfl infoW rfl (ones_w _) ?_ | refine wpList_store_at 7 hS rfl 24 _ _ rfl _ rfl (wcells _) rfl (wcells _) 24 rfl infoW rfl (ones_w _) ?_); clear hS; intro wn hS hz; clear hz; simp only [List.set_cons_zero, List.set_cons_succ] at hS)
        | (refine wpList_load_at hS (by rfl) 24 _ rfl _ rfl (wcells _) 24 (by first | exact mem_0 | exact mem_1 | exact mem_2 | exact mem_3 | exact mem_4 | exact mem_5 | exact mem_6 | exact mem_7 | exact mem_8 | exact mem_9 | exact mem_10 | exact mem_11 | exact mem_12 | exact mem_13 | exact mem_14 | exact mem_15) _ Try.underlying24 rfl infoW ?_))
      refine (wAdd_any _ _ _ (by first | assumption | exact addR_lt _ _ | exact timesR_lt _ _ | exact subR_lt _ _ (by assumption) | exact partR_lt _ _ (by assumption) | exact fromB_lt _ | decide | omega) (by first | assumption | exact addR_lt _ _ | exact timesR_lt _ _ | exact subR_lt _ _ (by assumption) | exact partR_lt _ _ (by assumption) | exact fromB_lt _ | decide | omega)).mono ?_
      rw [A3.out]
      rintro e w7 ⟨rfl, gw7⟩
      have hS := hS.below gw7
      clear gw7
      go_wp2_with (first
        | (refine wpList_alloc_at hS rfl 24 rfl (wcells 0) (zeroW _) ?_; clear hS; intro wn hS hz; clear hz)
        | ((first | refine wpList_store_at 0 hS rfl 24 _ _ rfl _ rfl (wcells _) rfl (wcells _) 24 rfl infoW rfl (ones_w _) ?_ | refine wpList_store_at 1 hS rfl 24 _ _ rfl _ rfl (wcells _) rfl (wcells _) 24 rfl infoW rfl (ones_w _) ?_ | refine wpList_store_at 2 hS rfl 24 _ _ rfl _ rfl (wcells _) rfl (wcells _) 24 rfl infoW rfl (ones_w _) ?_ | refine wpList_store_at 3 hS rfl 24 _ _ rfl _ rfl (wcells _) rfl (wcells _) 24 rfl infoW rfl (ones_w _) ?_ | refine wpList_store_at 4 hS rfl 24 _ _ rfl _ rfl (wcells _) rfl (wcells _) 24 rfl infoW rfl (ones_w _) ?_ | refine wpList_store_at 5 hS rfl 24 _ _ rfl _ rfl (wcells _) rfl (wcells _) 24 rfl infoW rfl (ones_w _) ?_ | refine wpList_store_at 6 hS rfl 24 _ _ rfl _ rfl (wcells _) rfl (wcells _) 24 rfl infoW rfl (ones_w _) ?_ | refine wpList_store_at 7 hS rfl 24 _ _ rfl _ rfl (wcells _) rfl (wcells _) 24 rfl infoW rfl (ones_w _) ?_ | refine wpList_store_at 8 hS rfl 24 _ _ rfl _ rfl (wcells _) rfl (wcells _) 24 rfl infoW rfl (ones_w _) ?_); clear hS; intro wn hS hz; clear hz; simp only [List.set_cons_zero, List.set_cons_succ] at hS)
        | (refine wpList_load_at hS (by rfl) 24 _ rfl _ rfl (wcells _) 24 (by first | exact mem_0 | exact mem_1 | exact mem_2 | exact mem_3 | exact mem_4 | exact mem_5 | exact mem_6 | exact mem_7 | exact mem_8 | exact mem_9 | exact mem_10 | exact mem_11 | exact mem_12 | exact mem_13 | exact mem_14 | exact mem_15) _ Try.underlying24 rfl infoW ?_))
      refine wp_region_held_drew (S := Held _ W) (by kernel_rfl) hS.drew (fun hHeld => ?_)
      refine wpAnyH_take (i := 0) (oi := _) (v := ?_) rfl (by kernel_rfl) (by kernel_rfl) (by kernel_rfl) (fun _ _ _ h => h) (Or.inl ⟨by kernel_rfl, ?_⟩) hHeld ?_
      rotate_left
      · (intro w hSw; go_simp; try with_reducible rfl)
      try simp only [Act.put, List.getElem_toArray, List.getElem_cons_succ, List.getElem_cons_zero, List.setIfInBounds_toArray, List.set_cons_zero, List.set_cons_succ]
      refine wpAnyH_take (i := 1) (oi := _) (v := ?_) rfl (by kernel_rfl) (by kernel_rfl) (by kernel_rfl) (fun _ _ _ h => h) (Or.inl ⟨by kernel_rfl, ?_⟩) hHeld ?_
      rotate_left
      · (intro w hSw; go_simp; try with_reducible rfl)
      try simp only [Act.put, List.getElem_toArray, List.getElem_cons_succ, List.getElem_cons_zero, List.setIfInBounds_toArray, List.set_cons_zero, List.set_cons_succ]
      refine wpAnyH_take (i := 2) (oi := _) (v := _) rfl (by kernel_rfl) (by kernel_rfl) (by kernel_rfl) (fun _ _ _ h => h) (yieldsIf_load_mid (by kernel_rfl) _ _ rfl _ _ rfl _ _ (fun w h => h.rng 3 rfl) Try.underlying24 rfl infoW) hHeld ?_
      try simp only [Act.put, List.getElem_toArray, List.getElem_cons_succ, List.getElem_cons_zero, List.setIfInBounds_toArray, List.set_cons_zero, List.set_cons_succ]
      refine wpAnyH_take (i := 3) (oi := _) (v := _) rfl (by kernel_rfl) (by kernel_rfl) (by kernel_rfl) (fun _ _ _ h => h) (yieldsIf_load_mid (by kernel_rfl) _ _ rfl _ _ rfl _ _ (fun w h => h.rng 2 rfl) Try.underlying24 rfl infoW) hHeld ?_
      try simp only [Act.put, List.getElem_toArray, List.getElem_cons_succ, List.getElem_cons_zero, List.setIfInBounds_toArray, List.set_cons_zero, List.set_cons_succ]
      refine wpAnyH_take (i := 4) (oi := _) (v := ?_) rfl (by kernel_rfl) (by kernel_rfl) (by kernel_rfl) (fun _ _ _ h => h) (Or.inl ⟨by kernel_rfl, ?_⟩) hHeld ?_
      rotate_left
      · (intro w hSw; go_simp; try with_reducible rfl)
      try simp only [Act.put, List.getElem_toArray, List.getElem_cons_succ, List.getElem_cons_zero, List.setIfInBounds_toArray, List.set_cons_zero, List.set_cons_succ]
      refine wpAnyH_take (i := 5) (oi := _) (v := ?_) rfl (by kernel_rfl) (by kernel_rfl) (by kernel_rfl) (fun _ _ _ h => h) (Or.inl ⟨by kernel_rfl, ?_⟩) hHeld ?_
      rotate_left
      · (intro w hSw; go_simp; try with_reducible rfl)
      try simp only [Act.put, List.getElem_toArray, List.getElem_cons_succ, List.getElem_cons_zero, List.setIfInBounds_toArray, List.set_cons_zero, List.set_cons_succ]
      refine wpAnyH_take (i := 6) (oi := _) (v := ?_) rfl (by kernel_rfl) (by kernel_rfl) (by kernel_rfl) (fun _ _ _ h => h) (Or.inl ⟨by kernel_rfl, ?_⟩) hHeld ?_
      rotate_left
      · (intro w hSw; go_simp; try with_reducible rfl)
      try simp only [Act.put, List.getElem_toArray, List.getElem_cons_succ, List.getElem_cons_zero, List.setIfInBounds_toArray, List.set_cons_zero, List.set_cons_succ]
      refine wpAnyH_take (i := 7) (oi := _) (v := ?_) rfl (by kernel_rfl) (by kernel_rfl) (by kernel_rfl) (fun _ _ _ h => h) (Or.inl ⟨by kernel_rfl, ?_⟩) hHeld ?_
      rotate_left
      · (intro w hSw; go_simp; try with_reducible rfl)
      try simp only [Act.put, List.getElem_toArray, List.getElem_cons_succ, List.getElem_cons_zero, List.setIfInBounds_toArray, List.set_cons_zero, List.set_cons_succ]
      refine wpAnyH_take (i := 8) (oi := _) (v := ?_) rfl (by kernel_rfl) (by kernel_rfl) (by kernel_rfl) (fun _ _ _ h => h) (Or.inl ⟨by kernel_rfl, ?_⟩) hHeld ?_
      rotate_left
      · (intro w hSw; go_simp; try with_reducible rfl)
      try simp only [Act.put, List.getElem_toArray, List.getElem_cons_succ, List.getElem_cons_zero, List.setIfInBounds_toArray, List.set_cons_zero, List.set_cons_succ]
      refine wpAnyH_take (i := 9) (oi := _) (v := ?_) rfl (by kernel_rfl) (by kernel_rfl) (by kernel_rfl) (fun _ _ _ h => h) (Or.inl ⟨by kernel_rfl, ?_⟩) hHeld ?_
      rotate_left
      · (intro w hSw; go_simp; try with_reducible rfl)
      try simp only [Act.put, List.getElem_toArray, List.getElem_cons_succ, List.getElem_cons_zero, List.setIfInBounds_toArray, List.set_cons_zero, List.set_cons_succ]
      refine wpAnyH_take (i := 10) (oi := _) (v := ?_) rfl (by kernel_rfl) (by kernel_rfl) (by kernel_rfl) (fun _ _ _ h => h) (Or.inl ⟨by kernel_rfl, ?_⟩) hHeld ?_
      rotate_left
      · (intro w hSw; go_simp; try with_reducible rfl)
      try simp only [Act.put, List.getElem_toArray, List.getElem_cons_succ, List.getElem_cons_zero, List.setIfInBounds_toArray, List.set_cons_zero, List.set_cons_succ]
      refine wpAnyH_take (i := 11) (oi := _) (v := ?_) rfl (by kernel_rfl) (by kernel_rfl) (by kernel_rfl) (fun _ _ _ h => h) (Or.inl ⟨by kernel_rfl, ?_⟩) hHeld ?_
      rotate_left
      · (intro w hSw; go_simp; try with_reducible rfl)
      try simp only [Act.put, List.getElem_toArray, List.getElem_cons_succ, List.getElem_cons_zero, List.setIfInBounds_toArray, List.set_cons_zero, List.set_cons_succ]
      refine wpAnyH_take (i := 12) (oi := _) (v := ?_) rfl (by kernel_rfl) (by kernel_rfl) (by kernel_rfl) (fun _ _ _ h => h) (Or.inl ⟨by kernel_rfl, ?_⟩) hHeld ?_
      rotate_left
      · (intro w hSw; go_simp; try with_reducible rfl)
      try simp only [Act.put, List.getElem_toArray, List.getElem_cons_succ, List.getElem_cons_zero, List.setIfInBounds_toArray, List.set_cons_zero, List.set_cons_succ]
      refine wpAnyH_take (i := 13) (oi := _) (v := _) rfl (by kernel_rfl) (by kernel_rfl) (by kernel_rfl) (fun _ _ _ h => h) (yieldsIf_load_mid (by kernel_rfl) _ _ rfl _ _ rfl _ _ (fun w h => h.rng 8 rfl) Try.underlying24 rfl infoW) hHeld ?_
      try simp only [Act.put, List.getElem_toArray, List.getElem_cons_succ, List.getElem_cons_zero, List.setIfInBounds_toArray, List.set_cons_zero, List.set_cons_succ]
      refine wpAnyH_take (i := 14) (oi := _) (v := _) rfl (by kernel_rfl) (by kernel_rfl) (by kernel_rfl) (fun _ _ _ h => h) (yieldsIf_load_mid (by kernel_rfl) _ _ rfl _ _ rfl _ _ (fun w h => h.rng 7 rfl) Try.underlying24 rfl infoW) hHeld ?_
      try simp only [Act.put, List.getElem_toArray, List.getElem_cons_succ, List.getElem_cons_zero, List.setIfInBounds_toArray, List.set_cons_zero, List.set_cons_succ]
      refine wpAnyH_ready (rs := [15]) (by kernel_rfl) (by simp) ?_
      refine AllReadyH.cons (o := _) rfl (fun K hK => ?_) AllReadyH.nil
      go_simp
      go_at_call 18
      refine (wCompare_any _ _ _ (by first | assumption | exact addR_lt _ _ | exact timesR_lt _ _ | exact subR_lt _ _ (by assumption) | exact partR_lt _ _ (by assumption) | exact fromB_lt _ | decide | omega) (by first | assumption | exact addR_lt _ _ | exact timesR_lt _ _ | exact subR_lt _ _ (by assumption) | exact partR_lt _ _ (by assumption) | exact fromB_lt _ | decide | omega)).mono ?_
      first | rw [K1.out] | rw [K2.out]
      rintro e w8 ⟨rfl, gw8⟩
      refine hK.out _ _ (hHeld.below gw8) (fun hHeld => ?_)
      clear hK K
      try simp only [Act.put, List.getElem_toArray, List.getElem_cons_succ, List.getElem_cons_zero, List.setIfInBounds_toArray, List.set_cons_zero, List.set_cons_succ]
      refine wpAnyH_take (i := 16) (oi := _) (v := ?_) rfl (by kernel_rfl) (by kernel_rfl) (by kernel_rfl) (fun _ _ _ h => h) (Or.inl ⟨by kernel_rfl, ?_⟩) hHeld ?_
      rotate_left
      · (intro w hSw; go_simp; try with_reducible rfl)
      try simp only [Act.put, List.getElem_toArray, List.getElem_cons_succ, List.getElem_cons_zero, List.setIfInBounds_toArray, List.set_cons_zero, List.set_cons_succ]
      refine wpAnyH_take (i := 17) (oi := _) (v := ?_) rfl (by kernel_rfl) (by kernel_rfl) (by kernel_rfl) (fun _ _ _ h => h) (Or.inl ⟨by kernel_rfl, ?_⟩) hHeld ?_
      rotate_left
      · (intro w hSw; go_simp; try with_reducible rfl)
      try simp only [Act.put, List.getElem_toArray, List.getElem_cons_succ, List.getElem_cons_zero, List.setIfInBounds_toArray, List.set_cons_zero, List.set_cons_succ]
      refine wpAnyH_take (i := 18) (oi := _) (v := ?_) rfl (by kernel_rfl) (by kernel_rfl) (by kernel_rfl) (fun _ _ _ h => h) (Or.inl ⟨by kernel_rfl, ?_⟩) hHeld ?_
      rotate_left
      · (intro w hSw; go_simp; try with_reducible rfl)
      try simp only [Act.put, List.getElem_toArray, List.getElem_cons_succ, List.getElem_cons_zero, List.setIfInBounds_toArray, List.set_cons_zero, List.set_cons_succ]
      refine wpAnyH_take (i := 19) (oi := _) (v := ?_) rfl (by kernel_rfl) (by kernel_rfl) (by kernel_rfl) (fun _ _ _ h => h) (Or.inl ⟨by kernel_rfl, ?_⟩) hHeld ?_
      rotate_left
      · (intro w hSw; go_simp; try with_reducible rfl)
      try simp only [Act.put, List.getElem_toArray, List.getElem_cons_succ, List.getElem_cons_zero, List.setIfInBounds_toArray, List.set_cons_zero, List.set_cons_succ]
      refine wpAnyH_take (i := 20) (oi := _) (v := _) rfl (by kernel_rfl) (by kernel_rfl) (by kernel_rfl) (fun _ _ _ h => h) (yieldsIf_load_mid (by kernel_rfl) _ _ rfl _ _ rfl _ _ (fun w h => h.rng 8 rfl) Try.underlying24 rfl infoW) hHeld ?_
      try simp only [Act.put, List.getElem_toArray, List.getElem_cons_succ, List.getElem_cons_zero, List.setIfInBounds_toArray, List.set_cons_zero, List.set_cons_succ]
      refine wpAnyH_take (i := 21) (oi := _) (v := _) rfl (by kernel_rfl) (by kernel_rfl) (by kernel_rfl) (fun _ _ _ h => h) (yieldsIf_load_mid (by kernel_rfl) _ _ rfl _ _ rfl _ _ (fun w h => h.rng 7 rfl) Try.underlying24 rfl infoW) hHeld ?_
      try simp only [Act.put, List.getElem_toArray, List.getElem_cons_succ, List.getElem_cons_zero, List.setIfInBounds_toArray, List.set_cons_zero, List.set_cons_succ]
      refine wpAnyH_take (i := 23) (oi := _) (v := _) rfl (by kernel_rfl) (by kernel_rfl) (by kernel_rfl) (fun _ _ _ h => h) (yieldsIf_load_mid (by kernel_rfl) _ _ rfl _ _ rfl _ _ (fun w h => h.rng 7 rfl) Try.underlying24 rfl infoW) hHeld ?_
      try simp only [Act.put, List.getElem_toArray, List.getElem_cons_succ, List.getElem_cons_zero, List.setIfInBounds_toArray, List.set_cons_zero, List.set_cons_succ]
      refine wpAnyH_take (i := 24) (oi := _) (v := _) rfl (by kernel_rfl) (by kernel_rfl) (by kernel_rfl) (fun _ _ _ h => h) (yieldsIf_load_mid (by kernel_rfl) _ _ rfl _ _ rfl _ _ (fun w h => h.rng 8 rfl) Try.underlying24 rfl infoW) hHeld ?_
      try simp only [Act.put, List.getElem_toArray, List.getElem_cons_succ, List.getElem_cons_zero, List.setIfInBounds_toArray, List.set_cons_zero, List.set_cons_succ]
      refine wpAnyH_ready (rs := [22]) (by kernel_rfl) (by simp) ?_
      refine AllReadyH.cons (o := _) rfl (fun K hK => ?_) AllReadyH.nil
      go_simp
      go_at_call 18
      refine (wCompare_any _ _ _ (by first | assumption | exact addR_lt _ _ | exact timesR_lt _ _ | exact subR_lt _ _ (by assumption) | exact partR_lt _ _ (by assumption) | exact fromB_lt _ | decide | omega) (by first | assumption | exact addR_lt _ _ | exact timesR_lt _ _ | exact subR_lt _ _ (by assumption) | exact partR_lt _ _ (by assumption) | exact fromB_lt _ | decide | omega)).mono ?_
      first | rw [K1.out] | rw [K2.out]
      rintro e w9 ⟨rfl, gw9⟩
      refine hK.out _ _ (hHeld.below gw9) (fun hHeld => ?_)
      clear hK K
      try simp only [Act.put, List.getElem_toArray, List.getElem_cons_succ, List.getElem_cons_zero, List.setIfInBounds_toArray, List.set_cons_zero, List.set_cons_succ]
      refine wpAnyH_ready (rs := [25]) (by kernel_rfl) (by simp) ?_
      refine AllReadyH.cons (o := _) rfl (fun K hK => ?_) AllReadyH.nil
      go_simp
      go_at_call 18
      refine (wCompare_any _ _ _ (by first | assumption | exact addR_lt _ _ | exact timesR_lt _ _ | exact subR_lt _ _ (by assumption) | exact partR_lt _ _ (by assumption) | exact fromB_lt _ | decide | omega) (by first | assumption | exact addR_lt _ _ | exact timesR_lt _ _ | exact subR_lt _ _ (by assumption) | exact partR_lt _ _ (by assumption) | exact fromB_lt _ | decide | omega)).mono ?_
      first | rw [K1.out] | rw [K2.out]
      rintro e w10 ⟨rfl, gw10⟩
      refine hK.out _ _ (hHeld.below gw10) (fun hHeld => ?_)
      clear hK K
      try simp only [Act.put, List.getElem_toArray, List.getElem_cons_succ, List.getElem_cons_zero, List.setIfInBounds_toArray, List.set_cons_zero, List.set_cons_succ]
      refine wpAnyH_take (i := 26) (oi := _) (v := ?_) rfl (by kernel_rfl) (by kernel_rfl) (by kernel_rfl) (fun _ _ _ h => h) (Or.inl ⟨by kernel_rfl, ?_⟩) hHeld ?_
      rotate_left
      · (intro w hSw; go_simp; try with_reducible rfl)
      try simp only [Act.put, List.getElem_toArray, List.getElem_cons_succ, List.getElem_cons_zero, List.setIfInBounds_toArray, List.set_cons_zero, List.set_cons_succ]
      refine wpAnyH_take (i := 27) (oi := _) (v := ?_) rfl (by kernel_rfl) (by kernel_rfl) (by kernel_rfl) (fun _ _ _ h => h) (Or.inl ⟨by kernel_rfl, ?_⟩) hHeld ?_
      rotate_left
      · (intro w hSw; go_simp; try with_reducible rfl)
      try simp only [Act.put, List.getElem_toArray, List.getElem_cons_succ, List.getElem_cons_zero, List.setIfInBounds_toArray, List.set_cons_zero, List.set_cons_succ]
      refine wpAnyH_take (i := 28) (oi := _) (v := ?_) rfl (by kernel_rfl) (by kernel_rfl) (by kernel_rfl) (fun _ _ _ h => h) (Or.inl ⟨by kernel_rfl, ?_⟩) hHeld ?_
      rotate_left
      · (intro w hSw; go_simp; try with_reducible rfl)
      try simp only [Act.put, List.getElem_toArray, List.getElem_cons_succ, List.getElem_cons_zero, List.setIfInBounds_toArray, List.set_cons_zero, List.set_cons_succ]
      refine wpAnyH_take (i := 29) (oi := _) (v := ?_) rfl (by kernel_rfl) (by kernel_rfl) (by kernel_rfl) (fun _ _ _ h => h) (Or.inl ⟨by kernel_rfl, ?_⟩) hHeld ?_
      rotate_left
      · (intro w hSw; go_simp; try with_reducible rfl)
      try simp only [Act.put, List.getElem_toArray, List.getElem_cons_succ, List.getElem_cons_zero, List.setIfInBounds_toArray, List.set_cons_zero, List.set_cons_succ]
      refine wpAnyH_done (by kernel_rfl) ?_ _
      go_wp2
      go_ret
      exact ⟨rfl, hHeld.bel⟩
    · have hord : M < N := by omega
      have K1 := Lib.hid (show cmpN N M = 1 from by unfold cmpN; rw [if_neg (by omega), if_pos hord])
      have K2 := Lib.hid (show cmpN M N = -1 from by unfold cmpN; rw [if_pos hord])
      have A1 := Lib.hid (show addR N M = (0, false) from by unfold addR; rw [if_neg hi])
      have A2 := Lib.hid (show addR M N = (0, false) from by unfold addR; rw [Nat.add_comm M N, if_neg hi])
      obtain ⟨d, hd⟩ : ∃ d, d = N - M := ⟨_, rfl⟩
      have kd : d < 2 ^ 256 := by omega
      have nd := num kd
      have D2 := Lib.hid (show subR N M = (d, true) from by unfold subR; rw [if_neg (by omega), hd])
      have A3 := Lib.hid (show addR d M = (N, true) from by unfold addR; rw [show d + M = N by omega, if_pos hN])
      clear hd
      obtain ⟨u, z, hz⟩ : ∃ u z, sumR [N, M, C] = (u, z) := ⟨_, _, rfl⟩
      have ku : u < 2 ^ 256 := by have e := sum3 (B := M) (C := C) hN; rw [hz] at e; split at e <;> (obtain ⟨rfl, rfl⟩ := Prod.mk.inj e; first | assumption | decide)
      have nu := num ku
      have Z2 := Lib.hid (show sumR [C, N, M] = (u, z) from by rw [← hz, sum3 hN, sum3 hC, show C + N + M = N + M + C by omega])
      have Z1 := Lib.hid hz
      clear hz hi hord ho
      have hS := Held.start W
      go_enter Try.func6, Try.ntmps6
      go_wp2_with (refine wpList_box_at hS rfl 24 _ rfl (wcells _) rfl ?_; clear hS; intro wn hS hz; clear hz)
      refine (awake4_any _).mono ?_
      rintro e w1 ⟨rfl, gw1⟩
      have hS := hS.below gw1
      clear gw1
      go_wp2_with (refine wpList_load_at hS (by rfl) 24 _ rfl _ rfl (wcells _) 24 (by first | exact mem_0 | exact mem_1 | exact mem_2 | exact mem_3 | exact mem_4 | exact mem_5 | exact mem_6 | exact mem_7 | exact mem_8 | exact mem_9 | exact mem_10 | exact mem_11 | exact mem_12 | exact mem_13 | exact mem_14 | exact mem_15) _ Try.underlying24 rfl infoW ?_)
      refine (wAdd_any _ _ _ (by first | assumption | exact addR_lt _ _ | exact timesR_lt _ _ | exact subR_lt _ _ (by assumption) | exact partR_lt _ _ (by assumption) | exact fromB_lt _ | decide | omega) (by first | assumption | exact addR_lt _ _ | exact timesR_lt _ _ | exact subR_lt _ _ (by assumption) | exact partR_lt _ _ (by assumption) | exact fromB_lt _ | decide | omega)).mono ?_
      rw [A1.out]
      rintro e w2 ⟨rfl, gw2⟩
      have hS := hS.below gw2
      clear gw2
      go_wp2_with (first
        | (refine wpList_alloc_at hS rfl 24 rfl (wcells 0) (zeroW _) ?_; clear hS; intro wn hS hz; clear hz)
        | ((first | refine wpList_store_at 0 hS rfl 24 _ _ rfl _ rfl (wcells _) rfl (wcells _) 24 rfl infoW rfl (ones_w _) ?_ | refine wpList_store_at 1 hS rfl 24 _ _ rfl _ rfl (wcells _) rfl (wcells _) 24 rfl infoW rfl (ones_w _) ?_ | refine wpList_store_at 2 hS rfl 24 _ _ rfl _ rfl (wcells _) rfl (wcells _) 24 rfl infoW rfl (ones_w _) ?_ | refine wpList_store_at 3 hS rfl 24 _ _ rfl _ rfl (wcells _) rfl (wcells _) 24 rfl infoW rfl (ones_w _) ?_); clear hS; intro wn hS hz; clear hz; simp only [List.set_cons_zero, List.set_cons_succ] at hS)
        | (refine wpList_load_at hS (by rfl) 24 _ rfl _ rfl (wcells _) 24 (by first | exact mem_0 | exact mem_1 | exact mem_2 | exact mem_3 | exact mem_4 | exact mem_5 | exact mem_6 | exact mem_7 | exact mem_8 | exact mem_9 | exact mem_10 | exact mem_11 | exact mem_12 | exact mem_13 | exact mem_14 | exact mem_15) _ Try.underlying24 rfl infoW ?_))
      refine (wAdd_any _ _ _ (by first | assumption | exact addR_lt _ _ | exact timesR_lt _ _ | exact subR_lt _ _ (by assumption) | exact partR_lt _ _ (by assumption) | exact fromB_lt _ | decide | omega) (by first | assumption | exact addR_lt _ _ | exact timesR_lt _ _ | exact subR_lt _ _ (by assumption) | exact partR_lt _ _ (by assumption) | exact fromB_lt _ | decide | omega)).mono ?_
      rw [A2.out]
      rintro e w3 ⟨rfl, gw3⟩
      have hS := hS.below gw3
      clear gw3
      go_wp2_with (first
        | (refine wpList_alloc_at hS rfl 24 rfl (wcells 0) (zeroW _) ?_; clear hS; intro wn hS hz; clear hz)
        | ((first | refine wpList_store_at 0 hS rfl 24 _ _ rfl _ rfl (wcells _) rfl (wcells _) 24 rfl infoW rfl (ones_w _) ?_ | refine wpList_store_at 1 hS rfl 24 _ _ rfl _ rfl (wcells _) rfl (wcells _) 24 rfl infoW rfl (ones_w _) ?_ | refine wpList_store_at 2 hS rfl 24 _ _ rfl _ rfl (wcells _) rfl (wcells _) 24 rfl infoW rfl (ones_w _) ?_ | refine wpList_store_at 3 hS rfl 24 _ _ rfl _ rfl (wcells _) rfl (wcells _) 24 rfl infoW rfl (ones_w _) ?_ | refine wpList_store_at 4 hS rfl 24 _ _ rfl _ rfl (wcells _) rfl (wcells _) 24 rfl infoW rfl (ones_w _) ?_); clear hS; intro wn hS hz; clear hz; simp only [List.set_cons_zero, List.set_cons_succ] at hS)
        | (refine wpList_load_at hS (by rfl) 24 _ rfl _ rfl (wcells _) 24 (by first | exact mem_0 | exact mem_1 | exact mem_2 | exact mem_3 | exact mem_4 | exact mem_5 | exact mem_6 | exact mem_7 | exact mem_8 | exact mem_9 | exact mem_10 | exact mem_11 | exact mem_12 | exact mem_13 | exact mem_14 | exact mem_15) _ Try.underlying24 rfl infoW ?_)
        | (refine wpList_wides3 hS rfl 43 _ rfl Try.underlying43 N M C hN hM hC (by kernel_rfl) ?_; clear hS; intro wn hS hWi))
      refine (wSum_any _ _ _ _ _ hWi (by decide)).mono ?_
      rw [Z1.out]
      rintro e w4 ⟨rfl, gw4⟩
      have hS := hS.below gw4
      clear gw4
      clear hWi
      go_wp2_with (first
        | (refine wpList_alloc_at hS rfl 24 rfl (wcells 0) (zeroW _) ?_; clear hS; intro wn hS hz; clear hz)
        | ((first | refine wpList_store_at 0 hS rfl 24 _ _ rfl _ rfl (wcells _) rfl (wcells _) 24 rfl infoW rfl (ones_w _) ?_ | refine wpList_store_at 1 hS rfl 24 _ _ rfl _ rfl (wcells _) rfl (wcells _) 24 rfl infoW rfl (ones_w _) ?_ | refine wpList_store_at 2 hS rfl 24 _ _ rfl _ rfl (wcells _) rfl (wcells _) 24 rfl infoW rfl (ones_w _) ?_ | refine wpList_store_at 3 hS rfl 24 _ _ rfl _ rfl (wcells _) rfl (wcells _) 24 rfl infoW rfl (ones_w _) ?_ | refine wpList_store_at 4 hS rfl 24 _ _ rfl _ rfl (wcells _) rfl (wcells _) 24 rfl infoW rfl (ones_w _) ?_ | refine wpList_store_at 5 hS rfl 24 _ _ rfl _ rfl (wcells _) rfl (wcells _) 24 rfl infoW rfl (ones_w _) ?_); clear hS; intro wn hS hz; clear hz; simp only [List.set_cons_zero, List.set_cons_succ] at hS)
        | (refine wpList_load_at hS (by rfl) 24 _ rfl _ rfl (wcells _) 24 (by first | exact mem_0 | exact mem_1 | exact mem_2 | exact mem_3 | exact mem_4 | exact mem_5 | exact mem_6 | exact mem_7 | exact mem_8 | exact mem_9 | exact mem_10 | exact mem_11 | exact mem_12 | exact mem_13 | exact mem_14 | exact mem_15) _ Try.underlying24 rfl infoW ?_)
        | (refine wpList_wides3 hS rfl 43 _ rfl Try.underlying43 C N M hC hN hM (by kernel_rfl) ?_; clear hS; intro wn hS hWi))
      refine (wSum_any _ _ _ _ _ hWi (by decide)).mono ?_
      rw [Z2.out]
      rintro e w5 ⟨rfl, gw5⟩
      have hS := hS.below gw5
      clear gw5
      clear hWi
      go_wp2_with (first
        | (refine wpList_alloc_at hS rfl 24 rfl (wcells 0) (zeroW _) ?_; clear hS; intro wn hS hz; clear hz)
        | ((first | refine wpList_store_at 0 hS rfl 24 _ _ rfl _ rfl (wcells _) rfl (wcells _) 24 rfl infoW rfl (ones_w _) ?_ | refine wpList_store_at 1 hS rfl 24 _ _ rfl _ rfl (wcells _) rfl (wcells _) 24 rfl infoW rfl (ones_w _) ?_ | refine wpList_store_at 2 hS rfl 24 _ _ rfl _ rfl (wcells _) rfl (wcells _) 24 rfl infoW rfl (ones_w _) ?_ | refine wpList_store_at 3 hS rfl 24 _ _ rfl _ rfl (wcells _) rfl (wcells _) 24 rfl infoW rfl (ones_w _) ?_ | refine wpList_store_at 4 hS rfl 24 _ _ rfl _ rfl (wcells _) rfl (wcells _) 24 rfl infoW rfl (ones_w _) ?_ | refine wpList_store_at 5 hS rfl 24 _ _ rfl _ rfl (wcells _) rfl (wcells _) 24 rfl infoW rfl (ones_w _) ?_ | refine wpList_store_at 6 hS rfl 24 _ _ rfl _ rfl (wcells _) rfl (wcells _) 24 rfl infoW rfl (ones_w _) ?_); clear hS; intro wn hS hz; clear hz; simp only [List.set_cons_zero, List.set_cons_succ] at hS)
        | (refine wpList_load_at hS (by rfl) 24 _ rfl _ rfl (wcells _) 24 (by first | exact mem_0 | exact mem_1 | exact mem_2 | exact mem_3 | exact mem_4 | exact mem_5 | exact mem_6 | exact mem_7 | exact mem_8 | exact mem_9 | exact mem_10 | exact mem_11 | exact mem_12 | exact mem_13 | exact mem_14 | exact mem_15) _ Try.underlying24 rfl infoW ?_))
      refine (wSub_any _ _ _ (by first | assumption | exact addR_lt _ _ | exact timesR_lt _ _ | exact subR_lt _ _ (by assumption) | exact partR_lt _ _ (by assumption) | exact fromB_lt _ | decide | omega) (by first | assumption | exact addR_lt _ _ | exact timesR_lt _ _ | exact subR_lt _ _ (by assumption) | exact partR_lt _ _ (by assumption) | exact fromB_lt _ | decide | omega)).mono ?_
      rw [D2.out]
      rintro e w6 ⟨rfl, gw6⟩
      have hS := hS.below gw6
      clear gw6
      go_wp2_with (first
        | (refine wpList_alloc_at hS rfl 24 rfl (wcells 0) (zeroW _) ?_; clear hS; intro wn hS hz; clear hz)
        | ((first | refine wpList_store_at 0 hS rfl 24 _ _ rfl _ rfl (wcells _) rfl (wcells _) 24 rfl infoW rfl (ones_w _) ?_ | refine wpList_store_at 1 hS rfl 24 _ _ rfl _ rfl (wcells _) rfl (wcells _) 24 rfl infoW rfl (ones_w _) ?_ | refine wpList_store_at 2 hS rfl 24 _ _ rfl _ rfl (wcells _) rfl (wcells _) 24 rfl infoW rfl (ones_w _) ?_ | refine wpList_store_at 3 hS rfl 24 _ _ rfl _ rfl (wcells _) rfl (wcells _) 24 rfl infoW rfl (ones_w _) ?_ | refine wpList_store_at 4 hS rfl 24 _ _ rfl _ rfl (wcells _) rfl (wcells _) 24 rfl infoW rfl (ones_w _) ?_ | refine wpList_store_at 5 hS rfl 24 _ _ rfl _ rfl (wcells _) rfl (wcells _) 24 rfl infoW rfl (ones_w _) ?_ | refine wpList_store_at 6 hS rfl 24 _ _ rfl _ rfl (wcells _) rfl (wcells _) 24 rfl infoW rfl (ones_w _) ?_ | refine wpList_store_at 7 hS rfl 24 _ _ rfl _ rfl (wcells _) rfl (wcells _) 24 rfl infoW rfl (ones_w _) ?_); clear hS; intro wn hS hz; clear hz; simp only [List.set_cons_zero, List.set_cons_succ] at hS)
        | (refine wpList_load_at hS (by rfl) 24 _ rfl _ rfl (wcells _) 24 (by first | exact mem_0 | exact mem_1 | exact mem_2 | exact mem_3 | exact mem_4 | exact mem_5 | exact mem_6 | exact mem_7 | exact mem_8 | exact mem_9 | exact mem_10 | exact mem_11 | exact mem_12 | exact mem_13 | exact mem_14 | exact mem_15) _ Try.underlying24 rfl infoW ?_))
      refine (wAdd_any _ _ _ (by first | assumption | exact addR_lt _ _ | exact timesR_lt _ _ | exact subR_lt _ _ (by assumption) | exact partR_lt _ _ (by assumption) | exact fromB_lt _ | decide | omega) (by first | assumption | exact addR_lt _ _ | exact timesR_lt _ _ | exact subR_lt _ _ (by assumption) | exact partR_lt _ _ (by assumption) | exact fromB_lt _ | decide | omega)).mono ?_
      rw [A3.out]
      rintro e w7 ⟨rfl, gw7⟩
      have hS := hS.below gw7
      clear gw7
      go_wp2_with (first
        | (refine wpList_alloc_at hS rfl 24 rfl (wcells 0) (zeroW _) ?_; clear hS; intro wn hS hz; clear hz)
        | ((first | refine wpList_store_at 0 hS rfl 24 _ _ rfl _ rfl (wcells _) rfl (wcells _) 24 rfl infoW rfl (ones_w _) ?_ | refine wpList_store_at 1 hS rfl 24 _ _ rfl _ rfl (wcells _) rfl (wcells _) 24 rfl infoW rfl (ones_w _) ?_ | refine wpList_store_at 2 hS rfl 24 _ _ rfl _ rfl (wcells _) rfl (wcells _) 24 rfl infoW rfl (ones_w _) ?_ | refine wpList_store_at 3 hS rfl 24 _ _ rfl _ rfl (wcells _) rfl (wcells _) 24 rfl infoW rfl (ones_w _) ?_ | refine wpList_store_at 4 hS rfl 24 _ _ rfl _ rfl (wcells _) rfl (wcells _) 24 rfl infoW rfl (ones_w _) ?_ | refine wpList_store_at 5 hS rfl 24 _ _ rfl _ rfl (wcells _) rfl (wcells _) 24 rfl infoW rfl (ones_w _) ?_ | refine wpList_store_at 6 hS rfl 24 _ _ rfl _ rfl (wcells _) rfl (wcells _) 24 rfl infoW rfl (ones_w _) ?_ | refine wpList_store_at 7 hS rfl 24 _ _ rfl _ rfl (wcells _) rfl (wcells _) 24 rfl infoW rfl (ones_w _) ?_ | refine wpList_store_at 8 hS rfl 24 _ _ rfl _ rfl (wcells _) rfl (wcells _) 24 rfl infoW rfl (ones_w _) ?_); clear hS; intro wn hS hz; clear hz; simp only [List.set_cons_zero, List.set_cons_succ] at hS)
        | (refine wpList_load_at hS (by rfl) 24 _ rfl _ rfl (wcells _) 24 (by first | exact mem_0 | exact mem_1 | exact mem_2 | exact mem_3 | exact mem_4 | exact mem_5 | exact mem_6 | exact mem_7 | exact mem_8 | exact mem_9 | exact mem_10 | exact mem_11 | exact mem_12 | exact mem_13 | exact mem_14 | exact mem_15) _ Try.underlying24 rfl infoW ?_))
      refine wp_region_held_drew (S := Held _ W) (by kernel_rfl) hS.drew (fun hHeld => ?_)
      refine wpAnyH_take (i := 0) (oi := _) (v := ?_) rfl (by kernel_rfl) (by kernel_rfl) (by kernel_rfl) (fun _ _ _ h => h) (Or.inl ⟨by kernel_rfl, ?_⟩) hHeld ?_
      rotate_left
      · (intro w hSw; go_simp; try with_reducible rfl)
      try simp only [Act.put, List.getElem_toArray, List.getElem_cons_succ, List.getElem_cons_zero, List.setIfInBounds_toArray, List.set_cons_zero, List.set_cons_succ]
      refine wpAnyH_take (i := 1) (oi := _) (v := ?_) rfl (by kernel_rfl) (by kernel_rfl) (by kernel_rfl) (fun _ _ _ h => h) (Or.inl ⟨by kernel_rfl, ?_⟩) hHeld ?_
      rotate_left
      · (intro w hSw; go_simp; try with_reducible rfl)
      try simp only [Act.put, List.getElem_toArray, List.getElem_cons_succ, List.getElem_cons_zero, List.setIfInBounds_toArray, List.set_cons_zero, List.set_cons_succ]
      refine wpAnyH_take (i := 2) (oi := _) (v := _) rfl (by kernel_rfl) (by kernel_rfl) (by kernel_rfl) (fun _ _ _ h => h) (yieldsIf_load_mid (by kernel_rfl) _ _ rfl _ _ rfl _ _ (fun w h => h.rng 3 rfl) Try.underlying24 rfl infoW) hHeld ?_
      try simp only [Act.put, List.getElem_toArray, List.getElem_cons_succ, List.getElem_cons_zero, List.setIfInBounds_toArray, List.set_cons_zero, List.set_cons_succ]
      refine wpAnyH_take (i := 3) (oi := _) (v := _) rfl (by kernel_rfl) (by kernel_rfl) (by kernel_rfl) (fun _ _ _ h => h) (yieldsIf_load_mid (by kernel_rfl) _ _ rfl _ _ rfl _ _ (fun w h => h.rng 2 rfl) Try.underlying24 rfl infoW) hHeld ?_
      try simp only [Act.put, List.getElem_toArray, List.getElem_cons_succ, List.getElem_cons_zero, List.setIfInBounds_toArray, List.set_cons_zero, List.set_cons_succ]
      refine wpAnyH_take (i := 4) (oi := _) (v := ?_) rfl (by kernel_rfl) (by kernel_rfl) (by kernel_rfl) (fun _ _ _ h => h) (Or.inl ⟨by kernel_rfl, ?_⟩) hHeld ?_
      rotate_left
      · (intro w hSw; go_simp; try with_reducible rfl)
      try simp only [Act.put, List.getElem_toArray, List.getElem_cons_succ, List.getElem_cons_zero, List.setIfInBounds_toArray, List.set_cons_zero, List.set_cons_succ]
      refine wpAnyH_take (i := 5) (oi := _) (v := ?_) rfl (by kernel_rfl) (by kernel_rfl) (by kernel_rfl) (fun _ _ _ h => h) (Or.inl ⟨by kernel_rfl, ?_⟩) hHeld ?_
      rotate_left
      · (intro w hSw; go_simp; try with_reducible rfl)
      try simp only [Act.put, List.getElem_toArray, List.getElem_cons_succ, List.getElem_cons_zero, List.setIfInBounds_toArray, List.set_cons_zero, List.set_cons_succ]
      refine wpAnyH_take (i := 6) (oi := _) (v := ?_) rfl (by kernel_rfl) (by kernel_rfl) (by kernel_rfl) (fun _ _ _ h => h) (Or.inl ⟨by kernel_rfl, ?_⟩) hHeld ?_
      rotate_left
      · (intro w hSw; go_simp; try with_reducible rfl)
      try simp only [Act.put, List.getElem_toArray, List.getElem_cons_succ, List.getElem_cons_zero, List.setIfInBounds_toArray, List.set_cons_zero, List.set_cons_succ]
      refine wpAnyH_take (i := 7) (oi := _) (v := ?_) rfl (by kernel_rfl) (by kernel_rfl) (by kernel_rfl) (fun _ _ _ h => h) (Or.inl ⟨by kernel_rfl, ?_⟩) hHeld ?_
      rotate_left
      · (intro w hSw; go_simp; try with_reducible rfl)
      try simp only [Act.put, List.getElem_toArray, List.getElem_cons_succ, List.getElem_cons_zero, List.setIfInBounds_toArray, List.set_cons_zero, List.set_cons_succ]
      refine wpAnyH_take (i := 8) (oi := _) (v := ?_) rfl (by kernel_rfl) (by kernel_rfl) (by kernel_rfl) (fun _ _ _ h => h) (Or.inl ⟨by kernel_rfl, ?_⟩) hHeld ?_
      rotate_left
      · (intro w hSw; go_simp; try with_reducible rfl)
      try simp only [Act.put, List.getElem_toArray, List.getElem_cons_succ, List.getElem_cons_zero, List.setIfInBounds_toArray, List.set_cons_zero, List.set_cons_succ]
      refine wpAnyH_take (i := 9) (oi := _) (v := ?_) rfl (by kernel_rfl) (by kernel_rfl) (by kernel_rfl) (fun _ _ _ h => h) (Or.inl ⟨by kernel_rfl, ?_⟩) hHeld ?_
      rotate_left
      · (intro w hSw; go_simp; try with_reducible rfl)
      try simp only [Act.put, List.getElem_toArray, List.getElem_cons_succ, List.getElem_cons_zero, List.setIfInBounds_toArray, List.set_cons_zero, List.set_cons_succ]
      refine wpAnyH_take (i := 10) (oi := _) (v := ?_) rfl (by kernel_rfl) (by kernel_rfl) (by kernel_rfl) (fun _ _ _ h => h) (Or.inl ⟨by kernel_rfl, ?_⟩) hHeld ?_
      rotate_left
      · (intro w hSw; go_simp; try with_reducible rfl)
      try simp only [Act.put, List.getElem_toArray, List.getElem_cons_succ, List.getElem_cons_zero, List.setIfInBounds_toArray, List.set_cons_zero, List.set_cons_succ]
      refine wpAnyH_take (i := 11) (oi := _) (v := ?_) rfl (by kernel_rfl) (by kernel_rfl) (by kernel_rfl) (fun _ _ _ h => h) (Or.inl ⟨by kernel_rfl, ?_⟩) hHeld ?_
      rotate_left
      · (intro w hSw; go_simp; try with_reducible rfl)
      try simp only [Act.put, List.getElem_toArray, List.getElem_cons_succ, List.getElem_cons_zero, List.setIfInBounds_toArray, List.set_cons_zero, List.set_cons_succ]
      refine wpAnyH_take (i := 12) (oi := _) (v := ?_) rfl (by kernel_rfl) (by kernel_rfl) (by kernel_rfl) (fun _ _ _ h => h) (Or.inl ⟨by kernel_rfl, ?_⟩) hHeld ?_
      rotate_left
      · (intro w hSw; go_simp; try with_reducible rfl)
      try simp only [Act.put, List.getElem_toArray, List.getElem_cons_succ, List.getElem_cons_zero, List.setIfInBounds_toArray, List.set_cons_zero, List.set_cons_succ]
      refine wpAnyH_take (i := 13) (oi := _) (v := _) rfl (by kernel_rfl) (by kernel_rfl) (by kernel_rfl) (fun _ _ _ h => h) (yieldsIf_load_mid (by kernel_rfl) _ _ rfl _ _ rfl _ _ (fun w h => h.rng 8 rfl) Try.underlying24 rfl infoW) hHeld ?_
      try simp only [Act.put, List.getElem_toArray, List.getElem_cons_succ, List.getElem_cons_zero, List.setIfInBounds_toArray, List.set_cons_zero, List.set_cons_succ]
      refine wpAnyH_take (i := 14) (oi := _) (v := _) rfl (by kernel_rfl) (by kernel_rfl) (by kernel_rfl) (fun _ _ _ h => h) (yieldsIf_load_mid (by kernel_rfl) _ _ rfl _ _ rfl _ _ (fun w h => h.rng 7 rfl) Try.underlying24 rfl infoW) hHeld ?_
      try simp only [Act.put, List.getElem_toArray, List.getElem_cons_succ, List.getElem_cons_zero, List.setIfInBounds_toArray, List.set_cons_zero, List.set_cons_succ]
      refine wpAnyH_ready (rs := [15]) (by kernel_rfl) (by simp) ?_
      refine AllReadyH.cons (o := _) rfl (fun K hK => ?_) AllReadyH.nil
      go_simp
      go_at_call 18
      refine (wCompare_any _ _ _ (by first | assumption | exact addR_lt _ _ | exact timesR_lt _ _ | exact subR_lt _ _ (by assumption) | exact partR_lt _ _ (by assumption) | exact fromB_lt _ | decide | omega) (by first | assumption | exact addR_lt _ _ | exact timesR_lt _ _ | exact subR_lt _ _ (by assumption) | exact partR_lt _ _ (by assumption) | exact fromB_lt _ | decide | omega)).mono ?_
      first | rw [K1.out] | rw [K2.out]
      rintro e w8 ⟨rfl, gw8⟩
      refine hK.out _ _ (hHeld.below gw8) (fun hHeld => ?_)
      clear hK K
      try simp only [Act.put, List.getElem_toArray, List.getElem_cons_succ, List.getElem_cons_zero, List.setIfInBounds_toArray, List.set_cons_zero, List.set_cons_succ]
      refine wpAnyH_take (i := 16) (oi := _) (v := ?_) rfl (by kernel_rfl) (by kernel_rfl) (by kernel_rfl) (fun _ _ _ h => h) (Or.inl ⟨by kernel_rfl, ?_⟩) hHeld ?_
      rotate_left
      · (intro w hSw; go_simp; try with_reducible rfl)
      try simp only [Act.put, List.getElem_toArray, List.getElem_cons_succ, List.getElem_cons_zero, List.setIfInBounds_toArray, List.set_cons_zero, List.set_cons_succ]
      refine wpAnyH_take (i := 17) (oi := _) (v := ?_) rfl (by kernel_rfl) (by kernel_rfl) (by kernel_rfl) (fun _ _ _ h => h) (Or.inl ⟨by kernel_rfl, ?_⟩) hHeld ?_
      rotate_left
      · (intro w hSw; go_simp; try with_reducible rfl)
      try simp only [Act.put, List.getElem_toArray, List.getElem_cons_succ, List.getElem_cons_zero, List.setIfInBounds_toArray, List.set_cons_zero, List.set_cons_succ]
      refine wpAnyH_take (i := 18) (oi := _) (v := ?_) rfl (by kernel_rfl) (by kernel_rfl) (by kernel_rfl) (fun _ _ _ h => h) (Or.inl ⟨by kernel_rfl, ?_⟩) hHeld ?_
      rotate_left
      · (intro w hSw; go_simp; try with_reducible rfl)
      try simp only [Act.put, List.getElem_toArray, List.getElem_cons_succ, List.getElem_cons_zero, List.setIfInBounds_toArray, List.set_cons_zero, List.set_cons_succ]
      refine wpAnyH_take (i := 19) (oi := _) (v := ?_) rfl (by kernel_rfl) (by kernel_rfl) (by kernel_rfl) (fun _ _ _ h => h) (Or.inl ⟨by kernel_rfl, ?_⟩) hHeld ?_
      rotate_left
      · (intro w hSw; go_simp; try with_reducible rfl)
      try simp only [Act.put, List.getElem_toArray, List.getElem_cons_succ, List.getElem_cons_zero, List.setIfInBounds_toArray, List.set_cons_zero, List.set_cons_succ]
      refine wpAnyH_take (i := 20) (oi := _) (v := _) rfl (by kernel_rfl) (by kernel_rfl) (by kernel_rfl) (fun _ _ _ h => h) (yieldsIf_load_mid (by kernel_rfl) _ _ rfl _ _ rfl _ _ (fun w h => h.rng 8 rfl) Try.underlying24 rfl infoW) hHeld ?_
      try simp only [Act.put, List.getElem_toArray, List.getElem_cons_succ, List.getElem_cons_zero, List.setIfInBounds_toArray, List.set_cons_zero, List.set_cons_succ]
      refine wpAnyH_take (i := 21) (oi := _) (v := _) rfl (by kernel_rfl) (by kernel_rfl) (by kernel_rfl) (fun _ _ _ h => h) (yieldsIf_load_mid (by kernel_rfl) _ _ rfl _ _ rfl _ _ (fun w h => h.rng 7 rfl) Try.underlying24 rfl infoW) hHeld ?_
      try simp only [Act.put, List.getElem_toArray, List.getElem_cons_succ, List.getElem_cons_zero, List.setIfInBounds_toArray, List.set_cons_zero, List.set_cons_succ]
      refine wpAnyH_take (i := 23) (oi := _) (v := _) rfl (by kernel_rfl) (by kernel_rfl) (by kernel_rfl) (fun _ _ _ h => h) (yieldsIf_load_mid (by kernel_rfl) _ _ rfl _ _ rfl _ _ (fun w h => h.rng 7 rfl) Try.underlying24 rfl infoW) hHeld ?_
      try simp only [Act.put, List.getElem_toArray, List.getElem_cons_succ, List.getElem_cons_zero, List.setIfInBounds_toArray, List.set_cons_zero, List.set_cons_succ]
      refine wpAnyH_take (i := 24) (oi := _) (v := _) rfl (by kernel_rfl) (by kernel_rfl) (by kernel_rfl) (fun _ _ _ h => h) (yieldsIf_load_mid (by kernel_rfl) _ _ rfl _ _ rfl _ _ (fun w h => h.rng 8 rfl) Try.underlying24 rfl infoW) hHeld ?_
      try simp only [Act.put, List.getElem_toArray, List.getElem_cons_succ, List.getElem_cons_zero, List.setIfInBounds_toArray, List.set_cons_zero, List.set_cons_succ]
      refine wpAnyH_ready (rs := [22]) (by kernel_rfl) (by simp) ?_
      refine AllReadyH.cons (o := _) rfl (fun K hK => ?_) AllReadyH.nil
      go_simp
      go_at_call 18
      refine (wCompare_any _ _ _ (by first | assumption | exact addR_lt _ _ | exact timesR_lt _ _ | exact subR_lt _ _ (by assumption) | exact partR_lt _ _ (by assumption) | exact fromB_lt _ | decide | omega) (by first | assumption | exact addR_lt _ _ | exact timesR_lt _ _ | exact subR_lt _ _ (by assumption) | exact partR_lt _ _ (by assumption) | exact fromB_lt _ | decide | omega)).mono ?_
      first | rw [K1.out] | rw [K2.out]
      rintro e w9 ⟨rfl, gw9⟩
      refine hK.out _ _ (hHeld.below gw9) (fun hHeld => ?_)
      clear hK K
      try simp only [Act.put, List.getElem_toArray, List.getElem_cons_succ, List.getElem_cons_zero, List.setIfInBounds_toArray, List.set_cons_zero, List.set_cons_succ]
      refine wpAnyH_ready (rs := [25]) (by kernel_rfl) (by simp) ?_
      refine AllReadyH.cons (o := _) rfl (fun K hK => ?_) AllReadyH.nil
      go_simp
      go_at_call 18
      refine (wCompare_any _ _ _ (by first | assumption | exact addR_lt _ _ | exact timesR_lt _ _ | exact subR_lt _ _ (by assumption) | exact partR_lt _ _ (by assumption) | exact fromB_lt _ | decide | omega) (by first | assumption | exact addR_lt _ _ | exact timesR_lt _ _ | exact subR_lt _ _ (by assumption) | exact partR_lt _ _ (by assumption) | exact fromB_lt _ | decide | omega)).mono ?_
      first | rw [K1.out] | rw [K2.out]
      rintro e w10 ⟨rfl, gw10⟩
      refine hK.out _ _ (hHeld.below gw10) (fun hHeld => ?_)
      clear hK K
      try simp only [Act.put, List.getElem_toArray, List.getElem_cons_succ, List.getElem_cons_zero, List.setIfInBounds_toArray, List.set_cons_zero, List.set_cons_succ]
      refine wpAnyH_take (i := 26) (oi := _) (v := ?_) rfl (by kernel_rfl) (by kernel_rfl) (by kernel_rfl) (fun _ _ _ h => h) (Or.inl ⟨by kernel_rfl, ?_⟩) hHeld ?_
      rotate_left
      · (intro w hSw; go_simp; try with_reducible rfl)
      try simp only [Act.put, List.getElem_toArray, List.getElem_cons_succ, List.getElem_cons_zero, List.setIfInBounds_toArray, List.set_cons_zero, List.set_cons_succ]
      refine wpAnyH_take (i := 27) (oi := _) (v := ?_) rfl (by kernel_rfl) (by kernel_rfl) (by kernel_rfl) (fun _ _ _ h => h) (Or.inl ⟨by kernel_rfl, ?_⟩) hHeld ?_
      rotate_left
      · (intro w hSw; go_simp; try with_reducible rfl)
      try simp only [Act.put, List.getElem_toArray, List.getElem_cons_succ, List.getElem_cons_zero, List.setIfInBounds_toArray, List.set_cons_zero, List.set_cons_succ]
      refine wpAnyH_take (i := 28) (oi := _) (v := ?_) rfl (by kernel_rfl) (by kernel_rfl) (by kernel_rfl) (fun _ _ _ h => h) (Or.inl ⟨by kernel_rfl, ?_⟩) hHeld ?_
      rotate_left
      · (intro w hSw; go_simp; try with_reducible rfl)
      try simp only [Act.put, List.getElem_toArray, List.getElem_cons_succ, List.getElem_cons_zero, List.setIfInBounds_toArray, List.set_cons_zero, List.set_cons_succ]
      refine wpAnyH_take (i := 29) (oi := _) (v := ?_) rfl (by kernel_rfl) (by kernel_rfl) (by kernel_rfl) (fun _ _ _ h => h) (Or.inl ⟨by kernel_rfl, ?_⟩) hHeld ?_
      rotate_left
      · (intro w hSw; go_simp; try with_reducible rfl)
      try simp only [Act.put, List.getElem_toArray, List.getElem_cons_succ, List.getElem_cons_zero, List.setIfInBounds_toArray, List.set_cons_zero, List.set_cons_succ]
      refine wpAnyH_done (by kernel_rfl) ?_ _
      go_wp2
      go_ret
      exact ⟨rfl, hHeld.bel⟩
end
open Go.ChangeShapes Go.WideShapes Go.ChangeAt
set_option maxRecDepth 100000 in
theorem lifted (os : Os) (started : os.Started) (H : Type) (enc : TypeId × Value → H) :
    ReturnsInHanded {} Try.checked os 6 .any (Rows.wideTurnsSpec.pre6 enc Try.prog Try.f6 Rows.wideTurnsRow.domain false) (Rows.wideTurnsSpec.post enc Try.prog Try.f6 false true false false) := by
  refine returnsInHanded_of_change (C := Try.checked) own started (by kernel_rfl) Try.func6
    (ChangeSpec.witness6 (enc := enc) (C := Try.checked) false ⟨#[], #[.agg #[.int .u64 0, .int .u64 0, .int .u64 0, .int .u64 0], .agg #[.int .u64 0, .int .u64 0, .int .u64 0, .int .u64 0], .agg #[.int .u64 0, .int .u64 0, .int .u64 0, .int .u64 0]], []⟩ 8 (by kernel_rfl) (by kernel_rfl) (by kernel_rfl) (by kernel_rfl)) ?_
  intro W base args ds gs before hval0 hW hcnd _
  have hval : ∀ (j : Nat) t v, Try.f6.params[j]? = some t → args[j]? = some v → Value.okWide Try.prog W .any base t v := hval0
  have hW' := hW
  obtain ⟨p, q, hA0, hV, rfl, hfz, hnd⟩ := hW
  have hA : DataW.TrodAll enc Try.prog W 0 (fun _ => true) true Try.f6.params.toList args.toList ds p := hA0
  rw [Try.params6] at hA hval
  obtain ⟨v0, vs0, d0, ds0, p0, q0, hargs, rfl, rfl, h0, r0⟩ := trodAll_cons hA
  obtain ⟨v1, vs1, d1, ds1, p1, q1, rfl, rfl, rfl, h1, r1⟩ := trodAll_cons r0
  obtain ⟨v2, vs2, d2, ds2, p2, q2, rfl, rfl, rfl, h2, r2⟩ := trodAll_cons r1
  obtain ⟨rfl, rfl, rfl⟩ := trodAll_nil r2
  obtain rfl : args = #[v0, v1, v2] := by cases args; simp_all
  obtain ⟨rfl, rfl⟩ := trodVars_none hV
  have k0 := h0
  have lt0 : ∀ x ∈ p0, x.block < W.heap.size := by obtain ⟨m, hm⟩ := k0; exact DataW.trod_lt m _ _ _ hm
  have k1 := h1
  have lt1 : ∀ x ∈ p1, x.block < W.heap.size := by obtain ⟨m, hm⟩ := k1; exact DataW.trod_lt m _ _ _ hm
  have k2 := h2
  have lt2 : ∀ x ∈ p2, x.block < W.heap.size := by obtain ⟨m, hm⟩ := k2; exact DataW.trod_lt m _ _ _ hm
  obtain ⟨Nx0, rfl, hNx0⟩ := op_wide (hval 0 24 v0 rfl rfl) h0
  obtain ⟨Nx1, rfl, hNx1⟩ := op_wide (hval 1 24 v1 rfl rfl) h1
  obtain ⟨Nx2, rfl, hNx2⟩ := op_wide (hval 2 24 v2 rfl rfl) h2
  clear hA0 hval0
  refine (walk Nx0 Nx1 Nx2 W hNx0 hNx1 hNx2).mono fun e W' ⟨he, bel⟩ => ?_
  subst he
  exact ⟨_, rfl, _, _, _, [], _, [], hW', trodAll_mk1 (shut_bool Try.underlying4 _), trodAll_cons_mk (Below.trod laidOut (by kernel_rfl) (of_decide_eq_true (by kernel_rfl)) k0 bel lt0) (trodAll_cons_mk (Below.trod laidOut (by kernel_rfl) (of_decide_eq_true (by kernel_rfl)) k1 bel lt1) (trodAll_cons_mk (Below.trod laidOut (by kernel_rfl) (of_decide_eq_true (by kernel_rfl)) k2 bel lt2) (trodAll_mk0))), rfl, bel.frame _, fun h => by cases h⟩

theorem over : Rows.wideTurnsRow.holds Try.pinned (OpenSpec.ofChange Rows.wideTurnsSpec) :=
  OpenClaim.holds_of_wide 6 Try.f6 rfl rfl rfl rfl rfl rfl rfl ⟨rfl, rfl, rfl, rfl, rfl⟩ rfl rfl rfl rfl rfl (by kernel_rfl) Try.func6 (by kernel_rfl)
    (of_decide_eq_true (by kernel_rfl)) (by unfold Func.isWrapper; first | (rw [if_pos (by decide +kernel)]; kernel_rfl) | (rw [if_neg (by decide +kernel)]; exact ⟨rfl, rfl⟩))
    (fun os started H enc _ => lifted os started H enc)

theorem proved : Rows.WideTurnsSaid := over
end Go.Proofs.Ytppgpdckaaabeaa.wideTurns
