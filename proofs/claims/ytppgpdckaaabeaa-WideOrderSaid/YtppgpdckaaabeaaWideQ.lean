/- The law's example; what the laws lean on. -/
import Derived.Test.YtppgpdckaaabeaaRows
import Derived.WalkKit
import Derived.Below
import Derived.ProofKit
import Derived.OpenShut
import Derived.ShutString
import Derived.ChangeOld
import Derived.Outline
import Derived.RegionTactic
import Derived.ChangeAlike
import Derived.BigRegion
import Derived.BigQuiet
import Derived.Deep.QuietTactic
import Derived.Deep.RegionWith
import Derived.Deep.RegionLaw
import Derived.Deep.RegionHeld3
import Derived.Deep.AppendLies
import Derived.Deep.Draws
import Derived.StillTailTactics
import Derived.Lib.Hide
import Derived.Lib.SmallJoins
import Derived.Handy
import Derived.WalkSpells
import Derived.WalkLawsBesides
import Derived.Deep.LoopGhost
import Derived.Deep.DeepCutAuto
import Derived.Great.Walk
import Derived.Test.YtppgpdckaaabeaaWideU
import Derived.Test.YtppgpdckaaabeaaRowsAt
namespace Go.Proofs.Ytppgpdckaaabeaa
open Go.RowKit
set_option linter.unusedSimpArgs false
set_option linter.unusedVariables false
set_option linter.unnecessarySimpa false
theorem zeroW (w : World) : (zeroValue 24).run Try.prog w = .ok (.agg (wcells 0).toArray) w := by kernel_rfl
theorem lit0 : (#[.int .u64 0, .int .u64 0, .int .u64 0, .int .u64 0] : Array Value) = (wcells 0).toArray := rfl
theorem litn (n : Nat) (h : n < 18446744073709551616) : (#[.int .u64 (n : Nat), .int .u64 0, .int .u64 0, .int .u64 0] : Array Value) = (wcells n).toArray := by rw [wcells_small n h]
theorem num {N : Nat} (h : N < 2 ^ 256) : N < 115792089237316195423570985008687907853269984665640564039457584007913129639936 := h
theorem eqNum (w : World) (N M : Nat) (hN : N < 115792089237316195423570985008687907853269984665640564039457584007913129639936) (hM : M < 115792089237316195423570985008687907853269984665640564039457584007913129639936) : (Op.equalIn 10000 24 (.agg (wcells N).toArray) (.agg (wcells M).toArray)).run Try.prog w = .ok (N == M) w := eqInW w N M hN hM
theorem addNum (N M : Nat) : (addR N M).1 < 115792089237316195423570985008687907853269984665640564039457584007913129639936 := addR_lt N M
theorem timesNum (N n : Nat) : (timesR N n).1 < 115792089237316195423570985008687907853269984665640564039457584007913129639936 := timesR_lt N n
theorem fromBNum (s : List UInt8) : (fromB s).1 < 115792089237316195423570985008687907853269984665640564039457584007913129639936 := fromB_lt s
theorem builtW (n : Nat) (h : n < 18446744073709551616) : Try.prog.built 24 [(0, .int .u64 (n : Nat))] = some (wcells n).toArray := by rw [wcells_small n h]; kernel_rfl
theorem dec64 : dec 18446744073709551616 = [49, 56, 52, 52, 54, 55, 52, 52, 48, 55, 51, 55, 48, 57, 53, 53, 49, 54, 49, 54] := by
  decide +kernel
def u2c (a b : Nat) : List Value := [.int .u64 (a : Nat), .int .u64 (b : Nat)]
theorem built3 (A B C : Nat) : Try.prog.builtSlice 24 3 [(0, aggN A), (1, aggN B), (2, aggN C)] = some (wcells A ++ (wcells B ++ wcells C)).toArray := by kernel_rfl
theorem wides3 {w : World} {b : Nat} {A B C : Nat} {t : TypeId} {fr : Nat × Nat} (hA : A < 2 ^ 256) (hB : B < 2 ^ 256) (hC : C < 2 ^ 256) (h : w.heap[b]? = some (.cells (wcells A ++ (wcells B ++ wcells C)).toArray t fr)) : WidesAt w w.heap.size (some ⟨b, 0, none⟩) 3 [A, B, C] := by
  refine ⟨rfl, fun _ => ⟨b, 0, rfl, row_lt h, fun k N hk j v hv => ?_⟩, fun N hN => by simp only [List.mem_cons, List.not_mem_nil, or_false] at hN; rcases hN with rfl | rfl | rfl <;> assumption⟩
  have hj : j < 4 := (List.getElem?_eq_some_iff.1 hv).1
  match k, hk with
  | 0, hk =>
    obtain rfl := Option.some.inj hk
    exact cell_row h (by simp only [Nat.zero_mul, Nat.zero_add, Nat.add_zero]; rw [List.getElem?_append_left (by exact hj)]; exact hv)
  | 1, hk =>
    obtain rfl := Option.some.inj hk
    refine cell_row h ?_
    have e : (wcells A).length = 4 := rfl
    rw [List.getElem?_append_right (by omega), List.getElem?_append_left (by show _ < 4; omega), show 0 + 1 * 4 + j - (wcells A).length = j by omega]
    exact hv
  | 2, hk =>
    obtain rfl := Option.some.inj hk
    refine cell_row h ?_
    have e : (wcells A).length = 4 := rfl
    have e2 : (wcells B).length = 4 := rfl
    rw [List.getElem?_append_right (by omega), List.getElem?_append_right (by omega), show 0 + 2 * 4 + j - (wcells A).length - (wcells B).length = j by omega]
    exact hv
/-- A literal of three numbers. -/
theorem wpList_wides3 {l : List (Nat × List Value × TypeId)} {W w : World} {ops : Array Oper} {rest : List Oper} {o : Oper} {a : Act} {Q : Exit → Act → World → Prop} (hS : Held l W w) (hgd : o.guard = none) (t : TypeId) (parts : Array (Nat × Operand)) (ho : o.op = .buildSlice t 3 parts)
    (hu : Try.prog.underlying t = some (.slice 24)) (A B C : Nat) (hA : A < 2 ^ 256) (hB : B < 2 ^ 256) (hC : C < 2 ^ 256) (hf : (parts.map fun (i, x) => (i, a.eval x)).toList = [(0, aggN A), (1, aggN B), (2, aggN C)])
    (h : ∀ w', Held l W w' → WidesAt w' w'.heap.size (some ⟨w.heap.size, 0, none⟩) 3 [A, B, C] → wpList Try.prog ops Q rest (a.put o.dst (.slice (some ⟨w.heap.size, 0, none⟩) 3 3)) w') : wpList Try.prog ops Q (o :: rest) a w :=
  Go.Great.wpList_buildSliceTo hgd t 24 3 parts ho _ rfl _ rfl hu _ ((congrArg _ hf).trans (built3 A B C)) (h _ (hS.alloc _) (wides3 hA hB hC (heap_alloc_new w _)))
theorem sum3 {A B C : Nat} (hA : A < 2 ^ 256) : sumR [A, B, C] = if A + B + C < 2 ^ 256 then (A + B + C, true) else (0, false) := by
  have e : addR 0 A = (A, true) := by unfold addR; rw [Nat.zero_add, if_pos hA]
  simp only [sumR, List.foldl, if_true, e]
  unfold addR
  by_cases h1 : A + B < 2 ^ 256
  · rw [if_pos h1]; simp only [if_true]
  · rw [if_neg h1, if_neg (show ¬ A + B + C < 2 ^ 256 by omega)]; rfl
section
attribute [local go_sem] eqInW guardW addR_lt timesR_lt fromB_lt lit0
set_option maxHeartbeats 2000000 in
set_option maxRecDepth 100000 in
theorem awake4_any (w : World) : Calls Try.prog 11 #[] w fun e w' => e = .returned (.bool true) ∧ Below w.heap.size w w' := by
  have a1 : addR 18446744073709551615 1 = (18446744073709551616, true) := by decide
  have a2 : subR 1 2 = (0, false) := by decide
  have a3 : addR (2 ^ 256 - 1) 1 = (0, false) := by decide
  have HD := Lib.hid dec64
  have hS := Held.start w
  go_enter Try.func11, Try.ntmps11
  go_wp2_with fail
  refine (wOf_any _ _ (by first | assumption | exact addR_lt _ _ | exact timesR_lt _ _ | exact subR_lt _ _ (by assumption) | exact partR_lt _ _ (by assumption) | exact fromB_lt _ | decide | omega)).mono ?_
  rintro e w1 ⟨rfl, gw1⟩
  have hS := hS.below gw1
  clear gw1
  go_wp2_with fail
  refine (wOf_any _ _ (by first | assumption | exact addR_lt _ _ | exact timesR_lt _ _ | exact subR_lt _ _ (by assumption) | exact partR_lt _ _ (by assumption) | exact fromB_lt _ | decide | omega)).mono ?_
  rintro e w2 ⟨rfl, gw2⟩
  have hS := hS.below gw2
  clear gw2
  go_wp2_with fail
  refine (wAdd_any _ _ _ (by first | assumption | exact addR_lt _ _ | exact timesR_lt _ _ | exact subR_lt _ _ (by assumption) | exact partR_lt _ _ (by assumption) | exact fromB_lt _ | decide | omega) (by first | assumption | exact addR_lt _ _ | exact timesR_lt _ _ | exact subR_lt _ _ (by assumption) | exact partR_lt _ _ (by assumption) | exact fromB_lt _ | decide | omega)).mono ?_
  rw [a1]
  rintro e w3 ⟨rfl, gw3⟩
  have hS := hS.below gw3
  clear gw3
  go_wp2_with (first
    | (refine wpList_alloc_at hS rfl 24 rfl (wcells 0) (zeroW _) ?_; clear hS; intro wn hS hz; clear hz)
    | ((first | refine wpList_store_at 0 hS rfl 24 _ _ rfl _ rfl (wcells _) rfl (wcells _) 24 rfl infoW rfl (ones_w _) ?_); clear hS; intro wn hS hz; clear hz; simp only [List.set_cons_zero, List.set_cons_succ] at hS))
  refine (wOf_any _ _ (by first | assumption | exact addR_lt _ _ | exact timesR_lt _ _ | exact subR_lt _ _ (by assumption) | exact partR_lt _ _ (by assumption) | exact fromB_lt _ | decide | omega)).mono ?_
  rintro e w4 ⟨rfl, gw4⟩
  have hS := hS.below gw4
  clear gw4
  go_wp2_with fail
  refine (wOf_any _ _ (by first | assumption | exact addR_lt _ _ | exact timesR_lt _ _ | exact subR_lt _ _ (by assumption) | exact partR_lt _ _ (by assumption) | exact fromB_lt _ | decide | omega)).mono ?_
  rintro e w5 ⟨rfl, gw5⟩
  have hS := hS.below gw5
  clear gw5
  go_wp2_with fail
  refine (wSub_any _ _ _ (by first | assumption | exact addR_lt _ _ | exact timesR_lt _ _ | exact subR_lt _ _ (by assumption) | exact partR_lt _ _ (by assumption) | exact fromB_lt _ | decide | omega) (by first | assumption | exact addR_lt _ _ | exact timesR_lt _ _ | exact subR_lt _ _ (by assumption) | exact partR_lt _ _ (by assumption) | exact fromB_lt _ | decide | omega)).mono ?_
  rw [a2]
  rintro e w6 ⟨rfl, gw6⟩
  have hS := hS.below gw6
  clear gw6
  go_wp2_with (first
    | (refine wpList_alloc_at hS rfl 24 rfl (wcells 0) (zeroW _) ?_; clear hS; intro wn hS hz; clear hz)
    | ((first | refine wpList_store_at 0 hS rfl 24 _ _ rfl _ rfl (wcells _) rfl (wcells _) 24 rfl infoW rfl (ones_w _) ?_ | refine wpList_store_at 1 hS rfl 24 _ _ rfl _ rfl (wcells _) rfl (wcells _) 24 rfl infoW rfl (ones_w _) ?_); clear hS; intro wn hS hz; clear hz; simp only [List.set_cons_zero, List.set_cons_succ] at hS))
  refine (wMost_any _).mono ?_
  rintro e w7 ⟨rfl, gw7⟩
  have hS := hS.below gw7
  clear gw7
  go_wp2_with fail
  refine (wOf_any _ _ (by first | assumption | exact addR_lt _ _ | exact timesR_lt _ _ | exact subR_lt _ _ (by assumption) | exact partR_lt _ _ (by assumption) | exact fromB_lt _ | decide | omega)).mono ?_
  rintro e w8 ⟨rfl, gw8⟩
  have hS := hS.below gw8
  clear gw8
  go_wp2_with fail
  refine (wAdd_any _ _ _ (by first | assumption | exact addR_lt _ _ | exact timesR_lt _ _ | exact subR_lt _ _ (by assumption) | exact partR_lt _ _ (by assumption) | exact fromB_lt _ | decide | omega) (by first | assumption | exact addR_lt _ _ | exact timesR_lt _ _ | exact subR_lt _ _ (by assumption) | exact partR_lt _ _ (by assumption) | exact fromB_lt _ | decide | omega)).mono ?_
  rw [a3]
  rintro e w9 ⟨rfl, gw9⟩
  have hS := hS.below gw9
  clear gw9
  go_wp2_with (first
    | (refine wpList_alloc_at hS rfl 24 rfl (wcells 0) (zeroW _) ?_; clear hS; intro wn hS hz; clear hz)
    | ((first | refine wpList_store_at 0 hS rfl 24 _ _ rfl _ rfl (wcells _) rfl (wcells _) 24 rfl infoW rfl (ones_w _) ?_ | refine wpList_store_at 1 hS rfl 24 _ _ rfl _ rfl (wcells _) rfl (wcells _) 24 rfl infoW rfl (ones_w _) ?_ | refine wpList_store_at 2 hS rfl 24 _ _ rfl _ rfl (wcells _) rfl (wcells _) 24 rfl infoW rfl (ones_w _) ?_); clear hS; intro wn hS hz; clear hz; simp only [List.set_cons_zero, List.set_cons_succ] at hS)
    | (refine wpList_load_at hS (by rfl) 24 _ rfl _ rfl (wcells _) 24 (by first | exact mem_0 | exact mem_1 | exact mem_2 | exact mem_3 | exact mem_4 | exact mem_5 | exact mem_6 | exact mem_7 | exact mem_8 | exact mem_9 | exact mem_10 | exact mem_11 | exact mem_12 | exact mem_13 | exact mem_14 | exact mem_15) _ Try.underlying24 rfl infoW ?_))
  refine (wText_any _ _ (by first | assumption | exact addR_lt _ _ | exact timesR_lt _ _ | exact subR_lt _ _ (by assumption) | exact partR_lt _ _ (by assumption) | exact fromB_lt _ | decide | omega)).mono ?_
  rw [HD.out]
  rintro e w10 ⟨rfl, gw10⟩
  have hS := hS.below gw10
  clear gw10
  go_wp2
  go_ret
  exact ⟨rfl, hS.bel⟩
end
end Go.Proofs.Ytppgpdckaaabeaa
