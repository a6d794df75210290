/- Beside the reference: for every two numbers and every number of 64 bits the law WideCounts returns true, and its arguments read afterwards as they read before. No condition. -/
import Derived.Test.YtppgpdckaaabeaaRows
import Derived.WalkKit
import Derived.Below
import Derived.ProofKit
import Derived.OpenShut
import Derived.ShutString
import Derived.ChangeOld
import Derived.Outline
import Derived.RegionTactic
import Derived.ChangeAlike
import Derived.BigRegion
import Derived.BigQuiet
import Derived.Deep.QuietTactic
import Derived.Deep.RegionWith
import Derived.Deep.RegionLaw
import Derived.Deep.RegionHeld3
import Derived.Deep.AppendLies
import Derived.Deep.Draws
import Derived.StillTailTactics
import Derived.Lib.Hide
import Derived.Lib.SmallJoins
import Derived.Handy
import Derived.WalkSpells
import Derived.WalkLawsBesides
import Derived.Deep.LoopGhost
import Derived.Deep.DeepCutAuto
import Derived.Great.BuildSlice
import Derived.Test.YtppgpdckaaabeaaWideQ
namespace Go.Proofs.Ytppgpdckaaabeaa.wideCounts
open Go.RowKit
set_option linter.unusedSimpArgs false
set_option linter.unusedVariables false
set_option linter.unnecessarySimpa false
section
attribute [local go_sem] eqNum guardW addNum timesNum fromBNum lit0 ext_list app_list
set_option maxHeartbeats 8000000 in
set_option maxRecDepth 100000 in
theorem walk (N M n : Nat) (W : World) (hN : N < 2 ^ 256) (hM : M < 2 ^ 256) (hn : n < 18446744073709551616) : Calls Try.prog 3 #[aggN N, aggN M, .int .u64 (n : Nat)] W fun e w' => e = .returned (.bool true) ∧ Below W.heap.size W w' := by
  have hsub := num (subR_lt N M hN)
  have kN := num hN
  have kM := num hM
  have kn := num (N := n) (by omega)
  have hS := Held.start W
  go_enter Try.func3, Try.ntmps3
  go_wp2_with (refine wpList_box_at hS rfl 24 _ rfl (wcells _) rfl ?_; clear hS; intro wn hS hz; clear hz)
  refine (awake4_any _).mono ?_
  rintro e w1 ⟨rfl, gw1⟩
  have hS := hS.below gw1
  clear gw1
  go_wp2_with (refine wpList_load_at hS (by rfl) 24 _ rfl _ rfl (wcells _) 24 (by first | exact mem_0 | exact mem_1 | exact mem_2 | exact mem_3 | exact mem_4 | exact mem_5 | exact mem_6 | exact mem_7 | exact mem_8 | exact mem_9 | exact mem_10 | exact mem_11 | exact mem_12 | exact mem_13 | exact mem_14 | exact mem_15) _ Try.underlying24 rfl infoW ?_)
  refine (wAdd_any _ _ _ (by first | assumption | exact addR_lt _ _ | exact timesR_lt _ _ | exact subR_lt _ _ (by assumption) | exact partR_lt _ _ (by assumption) | exact fromB_lt _ | decide | omega) (by first | assumption | exact addR_lt _ _ | exact timesR_lt _ _ | exact subR_lt _ _ (by assumption) | exact partR_lt _ _ (by assumption) | exact fromB_lt _ | decide | omega)).mono ?_
  rintro e w2 ⟨rfl, gw2⟩
  have hS := hS.below gw2
  clear gw2
  go_wp2_with (first
    | (refine wpList_alloc_at hS rfl 24 rfl (wcells 0) (zeroW _) ?_; clear hS; intro wn hS hz; clear hz)
    | ((first | refine wpList_store_at 0 hS rfl 24 _ _ rfl _ rfl (wcells _) rfl (wcells _) 24 rfl infoW rfl (ones_w _) ?_ | refine wpList_store_at 1 hS rfl 24 _ _ rfl _ rfl (wcells _) rfl (wcells _) 24 rfl infoW rfl (ones_w _) ?_ | refine wpList_store_at 2 hS rfl 24 _ _ rfl _ rfl (wcells _) rfl (wcells _) 24 rfl infoW rfl (ones_w _) ?_); clear hS; intro wn hS hz; clear hz; simp only [List.set_cons_zero, List.set_cons_succ] at hS)
    | (refine wpList_load_at hS (by rfl) 24 _ rfl _ rfl (wcells _) 24 (by first | exact mem_0 | exact mem_1 | exact mem_2 | exact mem_3 | exact mem_4 | exact mem_5 | exact mem_6 | exact mem_7 | exact mem_8 | exact mem_9 | exact mem_10 | exact mem_11 | exact mem_12 | exact mem_13 | exact mem_14 | exact mem_15) _ Try.underlying24 rfl infoW ?_))
  refine (refAdd_any _ _ _ (by first | assumption | exact addR_lt _ _ | exact timesR_lt _ _ | exact subR_lt _ _ (by assumption) | exact partR_lt _ _ (by assumption) | exact fromB_lt _ | decide | omega) (by first | assumption | exact addR_lt _ _ | exact timesR_lt _ _ | exact subR_lt _ _ (by assumption) | exact partR_lt _ _ (by assumption) | exact fromB_lt _ | decide | omega)).mono ?_
  rintro e w3 ⟨rfl, gw3⟩
  have hS := hS.below gw3
  clear gw3
  go_wp2_with (first
    | (refine wpList_alloc_at hS rfl 24 rfl (wcells 0) (zeroW _) ?_; clear hS; intro wn hS hz; clear hz)
    | ((first | refine wpList_store_at 0 hS rfl 24 _ _ rfl _ rfl (wcells _) rfl (wcells _) 24 rfl infoW rfl (ones_w _) ?_ | refine wpList_store_at 1 hS rfl 24 _ _ rfl _ rfl (wcells _) rfl (wcells _) 24 rfl infoW rfl (ones_w _) ?_ | refine wpList_store_at 2 hS rfl 24 _ _ rfl _ rfl (wcells _) rfl (wcells _) 24 rfl infoW rfl (ones_w _) ?_ | refine wpList_store_at 3 hS rfl 24 _ _ rfl _ rfl (wcells _) rfl (wcells _) 24 rfl infoW rfl (ones_w _) ?_); clear hS; intro wn hS hz; clear hz; simp only [List.set_cons_zero, List.set_cons_succ] at hS)
    | (refine wpList_load_at hS (by rfl) 24 _ rfl _ rfl (wcells _) 24 (by first | exact mem_0 | exact mem_1 | exact mem_2 | exact mem_3 | exact mem_4 | exact mem_5 | exact mem_6 | exact mem_7 | exact mem_8 | exact mem_9 | exact mem_10 | exact mem_11 | exact mem_12 | exact mem_13 | exact mem_14 | exact mem_15) _ Try.underlying24 rfl infoW ?_))
  refine (wSub_any _ _ _ (by first | assumption | exact addR_lt _ _ | exact timesR_lt _ _ | exact subR_lt _ _ (by assumption) | exact partR_lt _ _ (by assumption) | exact fromB_lt _ | decide | omega) (by first | assumption | exact addR_lt _ _ | exact timesR_lt _ _ | exact subR_lt _ _ (by assumption) | exact partR_lt _ _ (by assumption) | exact fromB_lt _ | decide | omega)).mono ?_
  rintro e w4 ⟨rfl, gw4⟩
  have hS := hS.below gw4
  clear gw4
  go_wp2_with (first
    | (refine wpList_alloc_at hS rfl 24 rfl (wcells 0) (zeroW _) ?_; clear hS; intro wn hS hz; clear hz)
    | ((first | refine wpList_store_at 0 hS rfl 24 _ _ rfl _ rfl (wcells _) rfl (wcells _) 24 rfl infoW rfl (ones_w _) ?_ | refine wpList_store_at 1 hS rfl 24 _ _ rfl _ rfl (wcells _) rfl (wcells _) 24 rfl infoW rfl (ones_w _) ?_ | refine wpList_store_at 2 hS rfl 24 _ _ rfl _ rfl (wcells _) rfl (wcells _) 24 rfl infoW rfl (ones_w _) ?_ | refine wpList_store_at 3 hS rfl 24 _ _ rfl _ rfl (wcells _) rfl (wcells _) 24 rfl infoW rfl (ones_w _) ?_ | refine wpList_store_at 4 hS rfl 24 _ _ rfl _ rfl (wcells _) rfl (wcells _) 24 rfl infoW rfl (ones_w _) ?_); clear hS; intro wn hS hz; clear hz; simp only [List.set_cons_zero, List.set_cons_succ] at hS)
    | (refine wpList_load_at hS (by rfl) 24 _ rfl _ rfl (wcells _) 24 (by first | exact mem_0 | exact mem_1 | exact mem_2 | exact mem_3 | exact mem_4 | exact mem_5 | exact mem_6 | exact mem_7 | exact mem_8 | exact mem_9 | exact mem_10 | exact mem_11 | exact mem_12 | exact mem_13 | exact mem_14 | exact mem_15) _ Try.underlying24 rfl infoW ?_))
  refine (refSub_any _ _ _ (by first | assumption | exact addR_lt _ _ | exact timesR_lt _ _ | exact subR_lt _ _ (by assumption) | exact partR_lt _ _ (by assumption) | exact fromB_lt _ | decide | omega) (by first | assumption | exact addR_lt _ _ | exact timesR_lt _ _ | exact subR_lt _ _ (by assumption) | exact partR_lt _ _ (by assumption) | exact fromB_lt _ | decide | omega)).mono ?_
  rintro e w5 ⟨rfl, gw5⟩
  have hS := hS.below gw5
  clear gw5
  go_wp2_with (first
    | (refine wpList_alloc_at hS rfl 24 rfl (wcells 0) (zeroW _) ?_; clear hS; intro wn hS hz; clear hz)
    | ((first | refine wpList_store_at 0 hS rfl 24 _ _ rfl _ rfl (wcells _) rfl (wcells _) 24 rfl infoW rfl (ones_w _) ?_ | refine wpList_store_at 1 hS rfl 24 _ _ rfl _ rfl (wcells _) rfl (wcells _) 24 rfl infoW rfl (ones_w _) ?_ | refine wpList_store_at 2 hS rfl 24 _ _ rfl _ rfl (wcells _) rfl (wcells _) 24 rfl infoW rfl (ones_w _) ?_ | refine wpList_store_at 3 hS rfl 24 _ _ rfl _ rfl (wcells _) rfl (wcells _) 24 rfl infoW rfl (ones_w _) ?_ | refine wpList_store_at 4 hS rfl 24 _ _ rfl _ rfl (wcells _) rfl (wcells _) 24 rfl infoW rfl (ones_w _) ?_ | refine wpList_store_at 5 hS rfl 24 _ _ rfl _ rfl (wcells _) rfl (wcells _) 24 rfl infoW rfl (ones_w _) ?_); clear hS; intro wn hS hz; clear hz; simp only [List.set_cons_zero, List.set_cons_succ] at hS)
    | (refine wpList_load_at hS (by rfl) 24 _ rfl _ rfl (wcells _) 24 (by first | exact mem_0 | exact mem_1 | exact mem_2 | exact mem_3 | exact mem_4 | exact mem_5 | exact mem_6 | exact mem_7 | exact mem_8 | exact mem_9 | exact mem_10 | exact mem_11 | exact mem_12 | exact mem_13 | exact mem_14 | exact mem_15) _ Try.underlying24 rfl infoW ?_))
  refine (wTimes_any _ _ _ (by first | assumption | exact addR_lt _ _ | exact timesR_lt _ _ | exact subR_lt _ _ (by assumption) | exact partR_lt _ _ (by assumption) | exact fromB_lt _ | decide | omega) (by first | assumption | exact addR_lt _ _ | exact timesR_lt _ _ | exact subR_lt _ _ (by assumption) | exact partR_lt _ _ (by assumption) | exact fromB_lt _ | decide | omega)).mono ?_
  rintro e w6 ⟨rfl, gw6⟩
  have hS := hS.below gw6
  clear gw6
  go_wp2_with (first
    | (refine wpList_alloc_at hS rfl 24 rfl (wcells 0) (zeroW _) ?_; clear hS; intro wn hS hz; clear hz)
    | ((first | refine wpList_store_at 0 hS rfl 24 _ _ rfl _ rfl (wcells _) rfl (wcells _) 24 rfl infoW rfl (ones_w _) ?_ | refine wpList_store_at 1 hS rfl 24 _ _ rfl _ rfl (wcells _) rfl (wcells _) 24 rfl infoW rfl (ones_w _) ?_ | refine wpList_store_at 2 hS rfl 24 _ _ rfl _ rfl (wcells _) rfl (wcells _) 24 rfl infoW rfl (ones_w _) ?_ | refine wpList_store_at 3 hS rfl 24 _ _ rfl _ rfl (wcells _) rfl (wcells _) 24 rfl infoW rfl (ones_w _) ?_ | refine wpList_store_at 4 hS rfl 24 _ _ rfl _ rfl (wcells _) rfl (wcells _) 24 rfl infoW rfl (ones_w _) ?_ | refine wpList_store_at 5 hS rfl 24 _ _ rfl _ rfl (wcells _) rfl (wcells _) 24 rfl infoW rfl (ones_w _) ?_ | refine wpList_store_at 6 hS rfl 24 _ _ rfl _ rfl (wcells _) rfl (wcells _) 24 rfl infoW rfl (ones_w _) ?_); clear hS; intro wn hS hz; clear hz; simp only [List.set_cons_zero, List.set_cons_succ] at hS)
    | (refine wpList_load_at hS (by rfl) 24 _ rfl _ rfl (wcells _) 24 (by first | exact mem_0 | exact mem_1 | exact mem_2 | exact mem_3 | exact mem_4 | exact mem_5 | exact mem_6 | exact mem_7 | exact mem_8 | exact mem_9 | exact mem_10 | exact mem_11 | exact mem_12 | exact mem_13 | exact mem_14 | exact mem_15) _ Try.underlying24 rfl infoW ?_))
  refine (refTimes_any _ _ _ (by first | assumption | exact addR_lt _ _ | exact timesR_lt _ _ | exact subR_lt _ _ (by assumption) | exact partR_lt _ _ (by assumption) | exact fromB_lt _ | decide | omega) (by first | assumption | exact addR_lt _ _ | exact timesR_lt _ _ | exact subR_lt _ _ (by assumption) | exact partR_lt _ _ (by assumption) | exact fromB_lt _ | decide | omega)).mono ?_
  rintro e w7 ⟨rfl, gw7⟩
  have hS := hS.below gw7
  clear gw7
  go_wp2_with (first
    | (refine wpList_alloc_at hS rfl 24 rfl (wcells 0) (zeroW _) ?_; clear hS; intro wn hS hz; clear hz)
    | ((first | refine wpList_store_at 0 hS rfl 24 _ _ rfl _ rfl (wcells _) rfl (wcells _) 24 rfl infoW rfl (ones_w _) ?_ | refine wpList_store_at 1 hS rfl 24 _ _ rfl _ rfl (wcells _) rfl (wcells _) 24 rfl infoW rfl (ones_w _) ?_ | refine wpList_store_at 2 hS rfl 24 _ _ rfl _ rfl (wcells _) rfl (wcells _) 24 rfl infoW rfl (ones_w _) ?_ | refine wpList_store_at 3 hS rfl 24 _ _ rfl _ rfl (wcells _) rfl (wcells _) 24 rfl infoW rfl (ones_w _) ?_ | refine wpList_store_at 4 hS rfl 24 _ _ rfl _ rfl (wcells _) rfl (wcells _) 24 rfl infoW rfl (ones_w _) ?_ | refine wpList_store_at 5 hS rfl 24 _ _ rfl _ rfl (wcells _) rfl (wcells _) 24 rfl infoW rfl (ones_w _) ?_ | refine wpList_store_at 6 hS rfl 24 _ _ rfl _ rfl (wcells _) rfl (wcells _) 24 rfl infoW rfl (ones_w _) ?_ | refine wpList_store_at 7 hS rfl 24 _ _ rfl _ rfl (wcells _) rfl (wcells _) 24 rfl infoW rfl (ones_w _) ?_ | refine wpList_store_at 8 hS rfl 24 _ _ rfl _ rfl (wcells _) rfl (wcells _) 24 rfl infoW rfl (ones_w _) ?_ | refine wpList_store_at 9 hS rfl 24 _ _ rfl _ rfl (wcells _) rfl (wcells _) 24 rfl infoW rfl (ones_w _) ?_); clear hS; intro wn hS hz; clear hz; simp only [List.set_cons_zero, List.set_cons_succ] at hS)
    | (refine wpList_buildTo rfl 24 #[(0, .tmp 59)] rfl (some 60) rfl (wcells n).toArray (by simp [Act.eval]; exact builtW n (by first | assumption | exact addR_lt _ _ | exact timesR_lt _ _ | exact subR_lt _ _ (by assumption) | exact partR_lt _ _ (by assumption) | exact fromB_lt _ | decide | omega)) ?_))
  refine wp_region_held_drew (S := Held _ W) (by kernel_rfl) hS.drew (fun hHeld => ?_)
  refine wpAnyH_take (i := 0) (oi := _) (v := ?_) rfl (by kernel_rfl) (by kernel_rfl) (by kernel_rfl) (fun _ _ _ h => h) (Or.inl ⟨by kernel_rfl, ?_⟩) hHeld ?_
  rotate_left
  · (intro w hSw; go_simp; try with_reducible rfl)
  try simp only [Act.put, List.getElem_toArray, List.getElem_cons_succ, List.getElem_cons_zero, List.setIfInBounds_toArray, List.set_cons_zero, List.set_cons_succ]
  refine wpAnyH_take (i := 1) (oi := _) (v := ?_) rfl (by kernel_rfl) (by kernel_rfl) (by kernel_rfl) (fun _ _ _ h => h) (Or.inl ⟨by kernel_rfl, ?_⟩) hHeld ?_
  rotate_left
  · (intro w hSw; go_simp; try with_reducible rfl)
  try simp only [Act.put, List.getElem_toArray, List.getElem_cons_succ, List.getElem_cons_zero, List.setIfInBounds_toArray, List.set_cons_zero, List.set_cons_succ]
  refine wpAnyH_take (i := 2) (oi := _) (v := _) rfl (by kernel_rfl) (by kernel_rfl) (by kernel_rfl) (fun _ _ _ h => h) (yieldsIf_load_mid (by kernel_rfl) _ _ rfl _ _ rfl _ _ (fun w h => h.rng 7 rfl) Try.underlying24 rfl infoW) hHeld ?_
  try simp only [Act.put, List.getElem_toArray, List.getElem_cons_succ, List.getElem_cons_zero, List.setIfInBounds_toArray, List.set_cons_zero, List.set_cons_succ]
  refine wpAnyH_take (i := 3) (oi := _) (v := _) rfl (by kernel_rfl) (by kernel_rfl) (by kernel_rfl) (fun _ _ _ h => h) (yieldsIf_load_mid (by kernel_rfl) _ _ rfl _ _ rfl _ _ (fun w h => h.rng 6 rfl) Try.underlying24 rfl infoW) hHeld ?_
  try simp only [Act.put, List.getElem_toArray, List.getElem_cons_succ, List.getElem_cons_zero, List.setIfInBounds_toArray, List.set_cons_zero, List.set_cons_succ]
  refine wpAnyH_take (i := 4) (oi := _) (v := ?_) rfl (by kernel_rfl) (by kernel_rfl) (by kernel_rfl) (fun _ _ _ h => h) (Or.inl ⟨by kernel_rfl, ?_⟩) hHeld ?_
  rotate_left
  · (intro w hSw; go_simp; try with_reducible rfl)
  try simp only [Act.put, List.getElem_toArray, List.getElem_cons_succ, List.getElem_cons_zero, List.setIfInBounds_toArray, List.set_cons_zero, List.set_cons_succ]
  refine wpAnyH_take (i := 5) (oi := _) (v := ?_) rfl (by kernel_rfl) (by kernel_rfl) (by kernel_rfl) (fun _ _ _ h => h) (Or.inl ⟨by kernel_rfl, ?_⟩) hHeld ?_
  rotate_left
  · (intro w hSw; go_simp; try with_reducible rfl)
  try simp only [Act.put, List.getElem_toArray, List.getElem_cons_succ, List.getElem_cons_zero, List.setIfInBounds_toArray, List.set_cons_zero, List.set_cons_succ]
  refine wpAnyH_take (i := 6) (oi := _) (v := ?_) rfl (by kernel_rfl) (by kernel_rfl) (by kernel_rfl) (fun _ _ _ h => h) (Or.inl ⟨by kernel_rfl, ?_⟩) hHeld ?_
  rotate_left
  · (intro w hSw; go_simp; try with_reducible rfl)
  try simp only [Act.put, List.getElem_toArray, List.getElem_cons_succ, List.getElem_cons_zero, List.setIfInBounds_toArray, List.set_cons_zero, List.set_cons_succ]
  refine wpAnyH_take (i := 7) (oi := _) (v := ?_) rfl (by kernel_rfl) (by kernel_rfl) (by kernel_rfl) (fun _ _ _ h => h) (Or.inl ⟨by kernel_rfl, ?_⟩) hHeld ?_
  rotate_left
  · (intro w hSw; go_simp; try with_reducible rfl)
  try simp only [Act.put, List.getElem_toArray, List.getElem_cons_succ, List.getElem_cons_zero, List.setIfInBounds_toArray, List.set_cons_zero, List.set_cons_succ]
  refine wpAnyH_take (i := 8) (oi := _) (v := ?_) rfl (by kernel_rfl) (by kernel_rfl) (by kernel_rfl) (fun _ _ _ h => h) (Or.inl ⟨by kernel_rfl, ?_⟩) hHeld ?_
  rotate_left
  · (intro w hSw; go_simp; try with_reducible rfl)
  try simp only [Act.put, List.getElem_toArray, List.getElem_cons_succ, List.getElem_cons_zero, List.setIfInBounds_toArray, List.set_cons_zero, List.set_cons_succ]
  refine wpAnyH_take (i := 9) (oi := _) (v := ?_) rfl (by kernel_rfl) (by kernel_rfl) (by kernel_rfl) (fun _ _ _ h => h) (Or.inl ⟨by kernel_rfl, ?_⟩) hHeld ?_
  rotate_left
  · (intro w hSw; go_simp; try with_reducible rfl)
  try simp only [Act.put, List.getElem_toArray, List.getElem_cons_succ, List.getElem_cons_zero, List.setIfInBounds_toArray, List.set_cons_zero, List.set_cons_succ]
  refine wpAnyH_take (i := 10) (oi := _) (v := ?_) rfl (by kernel_rfl) (by kernel_rfl) (by kernel_rfl) (fun _ _ _ h => h) (Or.inl ⟨by kernel_rfl, ?_⟩) hHeld ?_
  rotate_left
  · (intro w hSw; go_simp; try with_reducible rfl)
  try simp only [Act.put, List.getElem_toArray, List.getElem_cons_succ, List.getElem_cons_zero, List.setIfInBounds_toArray, List.set_cons_zero, List.set_cons_succ]
  refine wpAnyH_take (i := 11) (oi := _) (v := ?_) rfl (by kernel_rfl) (by kernel_rfl) (by kernel_rfl) (fun _ _ _ h => h) (Or.inl ⟨by kernel_rfl, ?_⟩) hHeld ?_
  rotate_left
  · (intro w hSw; go_simp; try with_reducible rfl)
  try simp only [Act.put, List.getElem_toArray, List.getElem_cons_succ, List.getElem_cons_zero, List.setIfInBounds_toArray, List.set_cons_zero, List.set_cons_succ]
  refine wpAnyH_take (i := 12) (oi := _) (v := _) rfl (by kernel_rfl) (by kernel_rfl) (by kernel_rfl) (fun _ _ _ h => h) (yieldsIf_load_mid (by kernel_rfl) _ _ rfl _ _ rfl _ _ (fun w h => h.rng 5 rfl) Try.underlying24 rfl infoW) hHeld ?_
  try simp only [Act.put, List.getElem_toArray, List.getElem_cons_succ, List.getElem_cons_zero, List.setIfInBounds_toArray, List.set_cons_zero, List.set_cons_succ]
  refine wpAnyH_take (i := 13) (oi := _) (v := _) rfl (by kernel_rfl) (by kernel_rfl) (by kernel_rfl) (fun _ _ _ h => h) (yieldsIf_load_mid (by kernel_rfl) _ _ rfl _ _ rfl _ _ (fun w h => h.rng 4 rfl) Try.underlying24 rfl infoW) hHeld ?_
  try simp only [Act.put, List.getElem_toArray, List.getElem_cons_succ, List.getElem_cons_zero, List.setIfInBounds_toArray, List.set_cons_zero, List.set_cons_succ]
  refine wpAnyH_take (i := 14) (oi := _) (v := ?_) rfl (by kernel_rfl) (by kernel_rfl) (by kernel_rfl) (fun _ _ _ h => h) (Or.inl ⟨by kernel_rfl, ?_⟩) hHeld ?_
  rotate_left
  · (intro w hSw; go_simp; try with_reducible rfl)
  try simp only [Act.put, List.getElem_toArray, List.getElem_cons_succ, List.getElem_cons_zero, List.setIfInBounds_toArray, List.set_cons_zero, List.set_cons_succ]
  refine wpAnyH_take (i := 15) (oi := _) (v := ?_) rfl (by kernel_rfl) (by kernel_rfl) (by kernel_rfl) (fun _ _ _ h => h) (Or.inl ⟨by kernel_rfl, ?_⟩) hHeld ?_
  rotate_left
  · (intro w hSw; go_simp; try with_reducible rfl)
  try simp only [Act.put, List.getElem_toArray, List.getElem_cons_succ, List.getElem_cons_zero, List.setIfInBounds_toArray, List.set_cons_zero, List.set_cons_succ]
  refine wpAnyH_take (i := 16) (oi := _) (v := ?_) rfl (by kernel_rfl) (by kernel_rfl) (by kernel_rfl) (fun _ _ _ h => h) (Or.inl ⟨by kernel_rfl, ?_⟩) hHeld ?_
  rotate_left
  · (intro w hSw; go_simp; try with_reducible rfl)
  try simp only [Act.put, List.getElem_toArray, List.getElem_cons_succ, List.getElem_cons_zero, List.setIfInBounds_toArray, List.set_cons_zero, List.set_cons_succ]
  refine wpAnyH_take (i := 17) (oi := _) (v := ?_) rfl (by kernel_rfl) (by kernel_rfl) (by kernel_rfl) (fun _ _ _ h => h) (Or.inl ⟨by kernel_rfl, ?_⟩) hHeld ?_
  rotate_left
  · (intro w hSw; go_simp; try with_reducible rfl)
  try simp only [Act.put, List.getElem_toArray, List.getElem_cons_succ, List.getElem_cons_zero, List.setIfInBounds_toArray, List.set_cons_zero, List.set_cons_succ]
  refine wpAnyH_take (i := 18) (oi := _) (v := ?_) rfl (by kernel_rfl) (by kernel_rfl) (by kernel_rfl) (fun _ _ _ h => h) (Or.inl ⟨by kernel_rfl, ?_⟩) hHeld ?_
  rotate_left
  · (intro w hSw; go_simp; try with_reducible rfl)
  try simp only [Act.put, List.getElem_toArray, List.getElem_cons_succ, List.getElem_cons_zero, List.setIfInBounds_toArray, List.set_cons_zero, List.set_cons_succ]
  refine wpAnyH_take (i := 19) (oi := _) (v := ?_) rfl (by kernel_rfl) (by kernel_rfl) (by kernel_rfl) (fun _ _ _ h => h) (Or.inl ⟨by kernel_rfl, ?_⟩) hHeld ?_
  rotate_left
  · (intro w hSw; go_simp; try with_reducible rfl)
  try simp only [Act.put, List.getElem_toArray, List.getElem_cons_succ, List.getElem_cons_zero, List.setIfInBounds_toArray, List.set_cons_zero, List.set_cons_succ]
  refine wpAnyH_take (i := 20) (oi := _) (v := ?_) rfl (by kernel_rfl) (by kernel_rfl) (by kernel_rfl) (fun _ _ _ h => h) (Or.inl ⟨by kernel_rfl, ?_⟩) hHeld ?_
  rotate_left
  · (intro w hSw; go_simp; try with_reducible rfl)
  try simp only [Act.put, List.getElem_toArray, List.getElem_cons_succ, List.getElem_cons_zero, List.setIfInBounds_toArray, List.set_cons_zero, List.set_cons_succ]
  refine wpAnyH_take (i := 21) (oi := _) (v := ?_) rfl (by kernel_rfl) (by kernel_rfl) (by kernel_rfl) (fun _ _ _ h => h) (Or.inl ⟨by kernel_rfl, ?_⟩) hHeld ?_
  rotate_left
  · (intro w hSw; go_simp; try with_reducible rfl)
  try simp only [Act.put, List.getElem_toArray, List.getElem_cons_succ, List.getElem_cons_zero, List.setIfInBounds_toArray, List.set_cons_zero, List.set_cons_succ]
  refine wpAnyH_take (i := 22) (oi := _) (v := _) rfl (by kernel_rfl) (by kernel_rfl) (by kernel_rfl) (fun _ _ _ h => h) (yieldsIf_load_mid (by kernel_rfl) _ _ rfl _ _ rfl _ _ (fun w h => h.rng 3 rfl) Try.underlying24 rfl infoW) hHeld ?_
  try simp only [Act.put, List.getElem_toArray, List.getElem_cons_succ, List.getElem_cons_zero, List.setIfInBounds_toArray, List.set_cons_zero, List.set_cons_succ]
  refine wpAnyH_take (i := 23) (oi := _) (v := _) rfl (by kernel_rfl) (by kernel_rfl) (by kernel_rfl) (fun _ _ _ h => h) (yieldsIf_load_mid (by kernel_rfl) _ _ rfl _ _ rfl _ _ (fun w h => h.rng 2 rfl) Try.underlying24 rfl infoW) hHeld ?_
  try simp only [Act.put, List.getElem_toArray, List.getElem_cons_succ, List.getElem_cons_zero, List.setIfInBounds_toArray, List.set_cons_zero, List.set_cons_succ]
  refine wpAnyH_take (i := 24) (oi := _) (v := ?_) rfl (by kernel_rfl) (by kernel_rfl) (by kernel_rfl) (fun _ _ _ h => h) (Or.inl ⟨by kernel_rfl, ?_⟩) hHeld ?_
  rotate_left
  · (intro w hSw; go_simp; try with_reducible rfl)
  try simp only [Act.put, List.getElem_toArray, List.getElem_cons_succ, List.getElem_cons_zero, List.setIfInBounds_toArray, List.set_cons_zero, List.set_cons_succ]
  refine wpAnyH_take (i := 25) (oi := _) (v := ?_) rfl (by kernel_rfl) (by kernel_rfl) (by kernel_rfl) (fun _ _ _ h => h) (Or.inl ⟨by kernel_rfl, ?_⟩) hHeld ?_
  rotate_left
  · (intro w hSw; go_simp; try with_reducible rfl)
  try simp only [Act.put, List.getElem_toArray, List.getElem_cons_succ, List.getElem_cons_zero, List.setIfInBounds_toArray, List.set_cons_zero, List.set_cons_succ]
  refine wpAnyH_take (i := 26) (oi := _) (v := ?_) rfl (by kernel_rfl) (by kernel_rfl) (by kernel_rfl) (fun _ _ _ h => h) (Or.inl ⟨by kernel_rfl, ?_⟩) hHeld ?_
  rotate_left
  · (intro w hSw; go_simp; try with_reducible rfl)
  try simp only [Act.put, List.getElem_toArray, List.getElem_cons_succ, List.getElem_cons_zero, List.setIfInBounds_toArray, List.set_cons_zero, List.set_cons_succ]
  refine wpAnyH_take (i := 27) (oi := _) (v := ?_) rfl (by kernel_rfl) (by kernel_rfl) (by kernel_rfl) (fun _ _ _ h => h) (Or.inl ⟨by kernel_rfl, ?_⟩) hHeld ?_
  rotate_left
  · (intro w hSw; go_simp; try with_reducible rfl)
  try simp only [Act.put, List.getElem_toArray, List.getElem_cons_succ, List.getElem_cons_zero, List.setIfInBounds_toArray, List.set_cons_zero, List.set_cons_succ]
  refine wpAnyH_take (i := 28) (oi := _) (v := ?_) rfl (by kernel_rfl) (by kernel_rfl) (by kernel_rfl) (fun _ _ _ h => h) (Or.inl ⟨by kernel_rfl, ?_⟩) hHeld ?_
  rotate_left
  · (intro w hSw; go_simp; try with_reducible rfl)
  try simp only [Act.put, List.getElem_toArray, List.getElem_cons_succ, List.getElem_cons_zero, List.setIfInBounds_toArray, List.set_cons_zero, List.set_cons_succ]
  refine wpAnyH_take (i := 29) (oi := _) (v := ?_) rfl (by kernel_rfl) (by kernel_rfl) (by kernel_rfl) (fun _ _ _ h => h) (Or.inl ⟨by kernel_rfl, ?_⟩) hHeld ?_
  rotate_left
  · (intro w hSw; go_simp; try with_reducible rfl)
  try simp only [Act.put, List.getElem_toArray, List.getElem_cons_succ, List.getElem_cons_zero, List.setIfInBounds_toArray, List.set_cons_zero, List.set_cons_succ]
  refine wpAnyH_take (i := 30) (oi := _) (v := ?_) rfl (by kernel_rfl) (by kernel_rfl) (by kernel_rfl) (fun _ _ _ h => h) (Or.inl ⟨by kernel_rfl, ?_⟩) hHeld ?_
  rotate_left
  · (intro w hSw; go_simp; try with_reducible rfl)
  try simp only [Act.put, List.getElem_toArray, List.getElem_cons_succ, List.getElem_cons_zero, List.setIfInBounds_toArray, List.set_cons_zero, List.set_cons_succ]
  refine wpAnyH_take (i := 31) (oi := _) (v := ?_) rfl (by kernel_rfl) (by kernel_rfl) (by kernel_rfl) (fun _ _ _ h => h) (Or.inl ⟨by kernel_rfl, ?_⟩) hHeld ?_
  rotate_left
  · (intro w hSw; go_simp; try with_reducible rfl)
  try simp only [Act.put, List.getElem_toArray, List.getElem_cons_succ, List.getElem_cons_zero, List.setIfInBounds_toArray, List.set_cons_zero, List.set_cons_succ]
  refine wpAnyH_take (i := 32) (oi := _) (v := _) rfl (by kernel_rfl) (by kernel_rfl) (by kernel_rfl) (fun _ _ _ h => h) (yieldsIf_load_mid (by kernel_rfl) _ _ rfl _ _ rfl _ _ (fun w h => h.rng 9 rfl) Try.underlying24 rfl infoW) hHeld ?_
  try simp only [Act.put, List.getElem_toArray, List.getElem_cons_succ, List.getElem_cons_zero, List.setIfInBounds_toArray, List.set_cons_zero, List.set_cons_succ]
  refine wpAnyH_take (i := 33) (oi := _) (v := _) rfl (by kernel_rfl) (by kernel_rfl) (by kernel_rfl) (fun _ _ _ h => h) (yieldsIf_load_mid (by kernel_rfl) _ _ rfl _ _ rfl _ _ (fun w h => h.rng 8 rfl) Try.underlying24 rfl infoW) hHeld ?_
  try simp only [Act.put, List.getElem_toArray, List.getElem_cons_succ, List.getElem_cons_zero, List.setIfInBounds_toArray, List.set_cons_zero, List.set_cons_succ]
  refine wpAnyH_take (i := 35) (oi := _) (v := _) rfl (by kernel_rfl) (by kernel_rfl) (by kernel_rfl) (fun _ _ _ h => h) (yieldsIf_load_mid (by kernel_rfl) _ _ rfl _ _ rfl _ _ (fun w h => h.rng 9 rfl) Try.underlying24 rfl infoW) hHeld ?_
  try simp only [Act.put, List.getElem_toArray, List.getElem_cons_succ, List.getElem_cons_zero, List.setIfInBounds_toArray, List.set_cons_zero, List.set_cons_succ]
  refine wpAnyH_take (i := 36) (oi := _) (v := _) rfl (by kernel_rfl) (by kernel_rfl) (by kernel_rfl) (fun _ _ _ h => h) (yieldsIf_load_mid (by kernel_rfl) _ _ rfl _ _ rfl _ _ (fun w h => h.rng 8 rfl) Try.underlying24 rfl infoW) hHeld ?_
  try simp only [Act.put, List.getElem_toArray, List.getElem_cons_succ, List.getElem_cons_zero, List.setIfInBounds_toArray, List.set_cons_zero, List.set_cons_succ]
  refine wpAnyH_ready (rs := [34]) (by kernel_rfl) (by simp) ?_
  refine AllReadyH.cons (o := _) rfl (fun K hK => ?_) AllReadyH.nil
  go_simp
  go_at_call 18
  refine (wCompare_any _ _ _ (by first | assumption | exact addR_lt _ _ | exact timesR_lt _ _ | exact subR_lt _ _ (by assumption) | exact partR_lt _ _ (by assumption) | exact fromB_lt _ | decide | omega) (by first | assumption | exact addR_lt _ _ | exact timesR_lt _ _ | exact subR_lt _ _ (by assumption) | exact partR_lt _ _ (by assumption) | exact fromB_lt _ | decide | omega)).mono ?_
  rintro e w8 ⟨rfl, gw8⟩
  refine hK.out _ _ (hHeld.below gw8) (fun hHeld => ?_)
  clear hK K
  try simp only [Act.put, List.getElem_toArray, List.getElem_cons_succ, List.getElem_cons_zero, List.setIfInBounds_toArray, List.set_cons_zero, List.set_cons_succ]
  refine wpAnyH_ready (rs := [37]) (by kernel_rfl) (by simp) ?_
  refine AllReadyH.cons (o := _) rfl (fun K hK => ?_) AllReadyH.nil
  go_simp
  go_at_call 19
  refine (compare_any _ _ _ (by first | assumption | exact addR_lt _ _ | exact timesR_lt _ _ | exact subR_lt _ _ (by assumption) | exact partR_lt _ _ (by assumption) | exact fromB_lt _ | decide | omega) (by first | assumption | exact addR_lt _ _ | exact timesR_lt _ _ | exact subR_lt _ _ (by assumption) | exact partR_lt _ _ (by assumption) | exact fromB_lt _ | decide | omega)).mono ?_
  rintro e w9 ⟨rfl, gw9⟩
  refine hK.out _ _ (hHeld.below gw9) (fun hHeld => ?_)
  clear hK K
  try simp only [Act.put, List.getElem_toArray, List.getElem_cons_succ, List.getElem_cons_zero, List.setIfInBounds_toArray, List.set_cons_zero, List.set_cons_succ]
  refine wpAnyH_take (i := 38) (oi := _) (v := ?_) rfl (by kernel_rfl) (by kernel_rfl) (by kernel_rfl) (fun _ _ _ h => h) (Or.inl ⟨by kernel_rfl, ?_⟩) hHeld ?_
  rotate_left
  · (intro w hSw; go_simp; try with_reducible rfl)
  try simp only [Act.put, List.getElem_toArray, List.getElem_cons_succ, List.getElem_cons_zero, List.setIfInBounds_toArray, List.set_cons_zero, List.set_cons_succ]
  refine wpAnyH_take (i := 39) (oi := _) (v := ?_) rfl (by kernel_rfl) (by kernel_rfl) (by kernel_rfl) (fun _ _ _ h => h) (Or.inl ⟨by kernel_rfl, ?_⟩) hHeld ?_
  rotate_left
  · (intro w hSw; go_simp; try with_reducible rfl)
  try simp only [Act.put, List.getElem_toArray, List.getElem_cons_succ, List.getElem_cons_zero, List.setIfInBounds_toArray, List.set_cons_zero, List.set_cons_succ]
  refine wpAnyH_take (i := 40) (oi := _) (v := ?_) rfl (by kernel_rfl) (by kernel_rfl) (by kernel_rfl) (fun _ _ _ h => h) (Or.inl ⟨by kernel_rfl, ?_⟩) hHeld ?_
  rotate_left
  · (intro w hSw; go_simp; try with_reducible rfl)
  try simp only [Act.put, List.getElem_toArray, List.getElem_cons_succ, List.getElem_cons_zero, List.setIfInBounds_toArray, List.set_cons_zero, List.set_cons_succ]
  refine wpAnyH_take (i := 41) (oi := _) (v := _) rfl (by kernel_rfl) (by kernel_rfl) (by kernel_rfl) (fun _ _ _ h => h) (yieldsIf_load_mid (by kernel_rfl) _ _ rfl _ _ rfl _ _ (fun w h => h.rng 9 rfl) Try.underlying24 rfl infoW) hHeld ?_
  try simp only [Act.put, List.getElem_toArray, List.getElem_cons_succ, List.getElem_cons_zero, List.setIfInBounds_toArray, List.set_cons_zero, List.set_cons_succ]
  refine wpAnyH_take (i := 43) (oi := _) (v := _) rfl (by kernel_rfl) (by kernel_rfl) (by kernel_rfl) (fun _ _ _ h => h) (yieldsIf_load_mid (by kernel_rfl) _ _ rfl _ _ rfl _ _ (fun w h => h.rng 9 rfl) Try.underlying24 rfl infoW) hHeld ?_
  try simp only [Act.put, List.getElem_toArray, List.getElem_cons_succ, List.getElem_cons_zero, List.setIfInBounds_toArray, List.set_cons_zero, List.set_cons_succ]
  refine wpAnyH_take (i := 44) (oi := _) (v := _) rfl (by kernel_rfl) (by kernel_rfl) (by kernel_rfl) (fun _ _ _ h => h) (yieldsIf_load_mid (by kernel_rfl) _ _ rfl _ _ rfl _ _ (fun w h => h.rng 1 rfl) Try.underlying24 rfl infoW) hHeld ?_
  try simp only [Act.put, List.getElem_toArray, List.getElem_cons_succ, List.getElem_cons_zero, List.setIfInBounds_toArray, List.set_cons_zero, List.set_cons_succ]
  refine wpAnyH_take (i := 45) (oi := _) (v := ?_) rfl (by kernel_rfl) (by kernel_rfl) (by kernel_rfl) (fun _ _ _ h => h) (Or.inl ⟨by kernel_rfl, ?_⟩) hHeld ?_
  rotate_left
  · (intro w hSw; go_simp; try with_reducible rfl)
  try simp only [Act.put, List.getElem_toArray, List.getElem_cons_succ, List.getElem_cons_zero, List.setIfInBounds_toArray, List.set_cons_zero, List.set_cons_succ]
  refine wpAnyH_ready (rs := [42]) (by kernel_rfl) (by simp) ?_
  refine AllReadyH.cons (o := _) rfl (fun K hK => ?_) AllReadyH.nil
  go_simp
  go_at_call 20
  refine (wZero_any _ _ (by first | assumption | exact addR_lt _ _ | exact timesR_lt _ _ | exact subR_lt _ _ (by assumption) | exact partR_lt _ _ (by assumption) | exact fromB_lt _ | decide | omega)).mono ?_
  rintro e w10 ⟨rfl, gw10⟩
  refine hK.out _ _ (hHeld.below gw10) (fun hHeld => ?_)
  clear hK K
  try simp only [Act.put, List.getElem_toArray, List.getElem_cons_succ, List.getElem_cons_zero, List.setIfInBounds_toArray, List.set_cons_zero, List.set_cons_succ]
  refine wpAnyH_take (i := 46) (oi := _) (v := ?_) rfl (by kernel_rfl) (by kernel_rfl) (by kernel_rfl) (fun _ _ _ h => h) (Or.inl ⟨by kernel_rfl, ?_⟩) hHeld ?_
  rotate_left
  · (intro w hSw; go_simp; try with_reducible rfl)
  try simp only [Act.put, List.getElem_toArray, List.getElem_cons_succ, List.getElem_cons_zero, List.setIfInBounds_toArray, List.set_cons_zero, List.set_cons_succ]
  refine wpAnyH_take (i := 47) (oi := _) (v := ?_) rfl (by kernel_rfl) (by kernel_rfl) (by kernel_rfl) (fun _ _ _ h => h) (Or.inl ⟨by kernel_rfl, ?_⟩) hHeld ?_
  rotate_left
  · (intro w hSw; go_simp; try with_reducible rfl)
  try simp only [Act.put, List.getElem_toArray, List.getElem_cons_succ, List.getElem_cons_zero, List.setIfInBounds_toArray, List.set_cons_zero, List.set_cons_succ]
  refine wpAnyH_take (i := 48) (oi := _) (v := ?_) rfl (by kernel_rfl) (by kernel_rfl) (by kernel_rfl) (fun _ _ _ h => h) (Or.inl ⟨by kernel_rfl, ?_⟩) hHeld ?_
  rotate_left
  · (intro w hSw; go_simp; try with_reducible rfl)
  try simp only [Act.put, List.getElem_toArray, List.getElem_cons_succ, List.getElem_cons_zero, List.setIfInBounds_toArray, List.set_cons_zero, List.set_cons_succ]
  refine wpAnyH_take (i := 49) (oi := _) (v := ?_) rfl (by kernel_rfl) (by kernel_rfl) (by kernel_rfl) (fun _ _ _ h => h) (Or.inl ⟨by kernel_rfl, ?_⟩) hHeld ?_
  rotate_left
  · (intro w hSw; go_simp; try with_reducible rfl)
  try simp only [Act.put, List.getElem_toArray, List.getElem_cons_succ, List.getElem_cons_zero, List.setIfInBounds_toArray, List.set_cons_zero, List.set_cons_succ]
  refine wpAnyH_take (i := 51) (oi := _) (v := _) rfl (by kernel_rfl) (by kernel_rfl) (by kernel_rfl) (fun _ _ _ h => h) (yieldsIf_load_mid (by kernel_rfl) _ _ rfl _ _ rfl _ _ (fun w h => h.rng 0 rfl) Try.underlying24 rfl infoW) hHeld ?_
  try simp only [Act.put, List.getElem_toArray, List.getElem_cons_succ, List.getElem_cons_zero, List.setIfInBounds_toArray, List.set_cons_zero, List.set_cons_succ]
  refine wpAnyH_ready (rs := [50]) (by kernel_rfl) (by simp) ?_
  refine AllReadyH.cons (o := _) rfl (fun K hK => ?_) AllReadyH.nil
  go_simp
  go_at_call 21
  refine (wOf_any _ _ (by first | assumption | exact addR_lt _ _ | exact timesR_lt _ _ | exact subR_lt _ _ (by assumption) | exact partR_lt _ _ (by assumption) | exact fromB_lt _ | decide | omega)).mono ?_
  rintro e w11 ⟨rfl, gw11⟩
  refine hK.out _ _ (hHeld.below gw11) (fun hHeld => ?_)
  clear hK K
  try simp only [Act.put, List.getElem_toArray, List.getElem_cons_succ, List.getElem_cons_zero, List.setIfInBounds_toArray, List.set_cons_zero, List.set_cons_succ]
  refine wpAnyH_take (i := 52) (oi := _) (v := ?_) rfl (by kernel_rfl) (by kernel_rfl) (by kernel_rfl) (fun _ _ _ h => h) (Or.inl ⟨by kernel_rfl, ?_⟩) hHeld ?_
  rotate_left
  · (intro w hSw; go_simp; try with_reducible rfl)
  try simp only [Act.put, List.getElem_toArray, List.getElem_cons_succ, List.getElem_cons_zero, List.setIfInBounds_toArray, List.set_cons_zero, List.set_cons_succ]
  refine wpAnyH_take (i := 53) (oi := _) (v := ?_) rfl (by kernel_rfl) (by kernel_rfl) (by kernel_rfl) (fun _ _ _ h => h) (Or.inl ⟨by kernel_rfl, ?_⟩) hHeld ?_
  rotate_left
  · (intro w hSw; go_simp; try with_reducible rfl)
  try simp only [Act.put, List.getElem_toArray, List.getElem_cons_succ, List.getElem_cons_zero, List.setIfInBounds_toArray, List.set_cons_zero, List.set_cons_succ]
  refine wpAnyH_take (i := 54) (oi := _) (v := ?_) rfl (by kernel_rfl) (by kernel_rfl) (by kernel_rfl) (fun _ _ _ h => h) (Or.inl ⟨by kernel_rfl, ?_⟩) hHeld ?_
  rotate_left
  · (intro w hSw; go_simp; try with_reducible rfl)
  try simp only [Act.put, List.getElem_toArray, List.getElem_cons_succ, List.getElem_cons_zero, List.setIfInBounds_toArray, List.set_cons_zero, List.set_cons_succ]
  refine wpAnyH_done (by kernel_rfl) ?_ _
  go_wp2
  go_ret
  exact ⟨rfl, hHeld.bel⟩
end
open Go.ChangeShapes Go.WideShapes Go.ChangeAt
set_option maxRecDepth 100000 in
theorem lifted (os : Os) (started : os.Started) (H : Type) (enc : TypeId × Value → H) :
    ReturnsInHanded {} Try.checked os 3 .any (Rows.wideCountsSpec.pre6 enc Try.prog Try.f3 Rows.wideCountsRow.domain false) (Rows.wideCountsSpec.post enc Try.prog Try.f3 false true false false) := by
  refine returnsInHanded_of_change (C := Try.checked) own started (by kernel_rfl) Try.func3
    (ChangeSpec.witness6 (enc := enc) (C := Try.checked) false ⟨#[], #[.agg #[.int .u64 0, .int .u64 0, .int .u64 0, .int .u64 0], .agg #[.int .u64 0, .int .u64 0, .int .u64 0, .int .u64 0], .int .u64 0], []⟩ 8 (by kernel_rfl) (by kernel_rfl) (by kernel_rfl) (by kernel_rfl)) ?_
  intro W base args ds gs before hval0 hW hcnd _
  have hval : ∀ (j : Nat) t v, Try.f3.params[j]? = some t → args[j]? = some v → Value.okWide Try.prog W .any base t v := hval0
  have hW' := hW
  obtain ⟨p, q, hA0, hV, rfl, hfz, hnd⟩ := hW
  have hA : DataW.TrodAll enc Try.prog W 0 (fun _ => true) true Try.f3.params.toList args.toList ds p := hA0
  rw [Try.params3] at hA hval
  obtain ⟨v0, vs0, d0, ds0, p0, q0, hargs, rfl, rfl, h0, r0⟩ := trodAll_cons hA
  obtain ⟨v1, vs1, d1, ds1, p1, q1, rfl, rfl, rfl, h1, r1⟩ := trodAll_cons r0
  obtain ⟨v2, vs2, d2, ds2, p2, q2, rfl, rfl, rfl, h2, r2⟩ := trodAll_cons r1
  obtain ⟨rfl, rfl, rfl⟩ := trodAll_nil r2
  obtain rfl : args = #[v0, v1, v2] := by cases args; simp_all
  obtain ⟨rfl, rfl⟩ := trodVars_none hV
  have k0 := h0
  have lt0 : ∀ x ∈ p0, x.block < W.heap.size := by obtain ⟨m, hm⟩ := k0; exact DataW.trod_lt m _ _ _ hm
  have k1 := h1
  have lt1 : ∀ x ∈ p1, x.block < W.heap.size := by obtain ⟨m, hm⟩ := k1; exact DataW.trod_lt m _ _ _ hm
  have k2 := h2
  have lt2 : ∀ x ∈ p2, x.block < W.heap.size := by obtain ⟨m, hm⟩ := k2; exact DataW.trod_lt m _ _ _ hm
  obtain ⟨Nx0, rfl, hNx0⟩ := op_wide (hval 0 24 v0 rfl rfl) h0
  obtain ⟨Nx1, rfl, hNx1⟩ := op_wide (hval 1 24 v1 rfl rfl) h1
  obtain ⟨nx2, rfl, hix2⟩ := op_u64 (hval 2 22 v2 rfl rfl) h2
  clear hA0 hval0
  refine (walk Nx0 Nx1 nx2 W hNx0 hNx1 hix2).mono fun e W' ⟨he, bel⟩ => ?_
  subst he
  exact ⟨_, rfl, _, _, _, [], _, [], hW', trodAll_mk1 (shut_bool Try.underlying4 _), trodAll_cons_mk (Below.trod laidOut (by kernel_rfl) (of_decide_eq_true (by kernel_rfl)) k0 bel lt0) (trodAll_cons_mk (Below.trod laidOut (by kernel_rfl) (of_decide_eq_true (by kernel_rfl)) k1 bel lt1) (trodAll_cons_mk (Below.trod laidOut (by kernel_rfl) (of_decide_eq_true (by kernel_rfl)) k2 bel lt2) (trodAll_mk0))), rfl, bel.frame _, fun h => by cases h⟩

theorem over : Rows.wideCountsRow.holds Try.pinned (OpenSpec.ofChange Rows.wideCountsSpec) :=
  OpenClaim.holds_of_wide 3 Try.f3 rfl rfl rfl rfl rfl rfl rfl ⟨rfl, rfl, rfl, rfl, rfl⟩ rfl rfl rfl rfl rfl (by kernel_rfl) Try.func3 (by kernel_rfl)
    (of_decide_eq_true (by kernel_rfl)) (by unfold Func.isWrapper; first | (rw [if_pos (by decide +kernel)]; kernel_rfl) | (rw [if_neg (by decide +kernel)]; exact ⟨rfl, rfl⟩))
    (fun os started H enc _ => lifted os started H enc)

theorem proved : Rows.WideCountsSaid := over
end Go.Proofs.Ytppgpdckaaabeaa.wideCounts
