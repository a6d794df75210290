/- The document's number of digits. -/
import Derived.Test.YtppgpdckaaabeaaRows
import Derived.WalkKit
import Derived.Below
import Derived.ProofKit
import Derived.OpenShut
import Derived.ShutString
import Derived.ChangeOld
import Derived.Outline
import Derived.RegionTactic
import Derived.ChangeAlike
import Derived.BigRegion
import Derived.BigQuiet
import Derived.Deep.QuietTactic
import Derived.Deep.RegionWith
import Derived.Deep.RegionLaw
import Derived.Deep.RegionHeld3
import Derived.Deep.AppendLies
import Derived.Deep.Draws
import Derived.StillTailTactics
import Derived.Lib.Hide
import Derived.Lib.SmallJoins
import Derived.Handy
import Derived.WalkSpells
import Derived.WalkLawsBesides
import Derived.Deep.LoopGhost
import Derived.Deep.DeepCutAuto
import Derived.Test.YtppgpdckaaabeaaWideC
namespace Go.Proofs.Ytppgpdckaaabeaa
open Go.RowKit
set_option linter.unusedSimpArgs false
set_option linter.unusedVariables false
set_option linter.unnecessarySimpa false
/-- The number of digits, if it is one of 256 bits. -/
def numR (d : List Nat) : Nat × Bool := if val d < 2 ^ 256 then (val d, true) else (0, false)
theorem val_take_succ (d : List Nat) (k : Nat) (h : k < d.length) : val (d.take (k + 1)) = val (d.take k) + d.getD k 0 * 256 ^ k := by
  have e : d.take (k + 1) = d.take k ++ [d.getD k 0] := by rw [List.take_add_one, List.getElem?_eq_getElem h]; simp [h]
  rw [e, val_snoc, List.length_take, Nat.min_eq_left (by omega)]
theorem val_take_lt (d : List Nat) (k : Nat) (hd : ∀ x ∈ d, x < 256) (h : k ≤ d.length) : val (d.take k) < 256 ^ k := by
  have := val_lt (d.take k) (fun x hx => hd x (List.mem_of_mem_take hx))
  rwa [List.length_take, Nat.min_eq_left h] at this
theorem wcells_put (S x k : Nat) (hS : S < 256 ^ k) (hx : x < 256) (hk : k < 32) : (wcells S).set (k / 8) (.int .u64 (limb S (k / 8) ||| x * 2 ^ (8 * (k % 8)) : Nat)) = wcells (S + x * 256 ^ k) := by
  have h := fun j => limb_put S x k j hS hx
  have h4 : k / 8 < 4 := by omega
  unfold wcells wints
  simp only [h]
  generalize k / 8 = q at *
  obtain rfl | rfl | rfl | rfl : q = 0 ∨ q = 1 ∨ q = 2 ∨ q = 3 := by omega
  all_goals rfl
theorem or_shl (a x s : Nat) (ha : a < 18446744073709551616) (hx : x * 2 ^ s < 18446744073709551616) : bits .or .u64 (a : Int) ((x : Int) * 2 ^ s % 18446744073709551616) = ((a ||| x * 2 ^ s : Nat) : Int) := by
  have e : (x : Int) * 2 ^ s % 18446744073709551616 = ((x * 2 ^ s : Nat) : Int) := by
    rw [Int.natCast_mul, Int.natCast_pow]
    exact Int.emod_eq_of_lt (by have : 0 ≤ ((x * 2 ^ s : Nat) : Int) := by omega
                                rw [Int.natCast_mul, Int.natCast_pow] at this; exact this) (by have h : ((x * 2 ^ s : Nat) : Int) < 18446744073709551616 := by omega
                                                                                               rw [Int.natCast_mul, Int.natCast_pow] at h; exact h)
  rw [e, u64_or_nat _ _ ha hx]
theorem or_shlw (a x s : Nat) (ha : a < 18446744073709551616) (hx : x * 2 ^ s < 18446744073709551616) : bits .or .u64 (a : Int) (IntKind.u64.wrap ((x : Int) * 2 ^ s)) = ((a ||| x * 2 ^ s : Nat) : Int) := by
  rw [IntKind.wrap_u64]; exact or_shl a x s ha hx
theorem shl_lt (x k : Nat) (hx : x < 256) : x * 2 ^ (8 * (k % 8)) < 18446744073709551616 := by
  have h1 : x * 2 ^ (8 * (k % 8)) < 256 * 2 ^ (8 * (k % 8)) := Nat.mul_lt_mul_of_pos_right hx (Nat.two_pow_pos _)
  have h2 : 256 * 2 ^ (8 * (k % 8)) = 2 ^ (8 + 8 * (k % 8)) := by rw [Nat.pow_add]
  have h3 : 2 ^ (8 + 8 * (k % 8)) ≤ 2 ^ 64 := Nat.pow_le_pow_right (by decide) (by omega)
  omega
theorem numR_ok (d : List Nat) (hd : ∀ x ∈ d, x < 256) (hz : ∀ j, 32 ≤ j → j < d.length → d.getD j 0 = 0) : numR d = (val d, true) := by
  unfold numR
  rw [if_pos]
  rw [show (2 : Nat) ^ 256 = 256 ^ 32 from by decide]
  rcases Nat.lt_or_ge d.length 32 with h | h
  · exact Nat.lt_of_lt_of_le (val_lt d hd) (Nat.pow_le_pow_right (by decide) (by omega))
  · have e0 : val (d.drop 32) = 0 := by
      refine (val_zero_iff _).2 (fun x hx => ?_)
      obtain ⟨i, hi, rfl⟩ := List.mem_iff_getElem.1 hx
      have := hz (32 + i) (by omega) (by simp at hi; omega)
      simpa [show 32 + i < d.length by simp at hi; omega] using this
    rw [val_split d 32 h, e0, Nat.mul_zero, Nat.add_zero]
    exact val_take_lt d 32 hd h
theorem numR_no (d : List Nat) (k : Nat) (hk : 32 ≤ k) (hl : k < d.length) (h : d.getD k 0 ≠ 0) : numR d = (0, false) := by
  unfold numR
  rw [if_neg]
  rw [show (2 : Nat) ^ 256 = 256 ^ 32 from by decide, val_split d k (by omega)]
  have e : val (d.drop k) ≠ 0 := fun e => h (by
    have := (val_zero_iff _).1 e (d.getD k 0) (by
      rw [List.drop_eq_getElem_cons hl, List.getD_eq_getElem?_getD, List.getElem?_eq_getElem hl]; exact List.mem_cons_self)
    exact this)
  have h1 : 256 ^ 32 ≤ 256 ^ k := Nat.pow_le_pow_right (by decide) hk
  have h2 : 256 ^ k * 1 ≤ 256 ^ k * val (d.drop k) := Nat.mul_le_mul_left _ (by omega)
  omega
set_option maxHeartbeats 2000000 in
set_option maxRecDepth 100000 in
theorem number_any (v : Value) (d : List Nat) (w : World) (hv : NatsAt w v d) (hd : ∀ x ∈ d, x < 256) (hlen : d.length ≤ 1000000) :
    Calls Try.prog 36 #[v] w fun e w' => e = .returned (.tuple #[aggN (numR d).1, .bool (numR d).2]) ∧ Below w.heap.size w w' := by
  obtain ⟨b, cap, rfl, hb, hcell⟩ := hv
  have HC := Lib.hid hcell
  clear hcell
  go_enter Try.func36, Try.ntmps36
  go_wp2_with fail
  generalize hwa : World.alloc _ _ = wa
  have r0 : wa.heap[w.heap.size]? = some (.cells (wcells 0).toArray 24 (0, 0)) := by rw [← hwa]; exact heap_alloc2_old w _ _
  have r1 : wa.heap[w.heap.size + 1]? = some (.cells (wcells 0).toArray 24 (0, 0)) := by rw [← hwa]; exact heap_alloc2_new w _ _
  have ba : Below w.heap.size w wa := by rw [← hwa]; exact ((Below.refl _ _).alloc (Nat.le_refl _) _).alloc (by simp) _
  have R0 := Lib.hid r0
  have R1 := Lib.hid r1
  clear hwa r0 r1
  go_loopw [5] (fun i wr => ∃ k : Nat, k ≤ d.length ∧ i = .int .i64 k ∧ (∀ j, 32 ≤ j → j < k → d.getD j 0 = 0) ∧ Hid (wr.heap[w.heap.size]? = some (.cells (wcells 0).toArray 24 (0, 0))) ∧ Hid (wr.heap[w.heap.size + 1]? = some (.cells (wcells (val (d.take k))).toArray 24 (0, 0))) ∧ Below w.heap.size w wr) (fun i _ => d.length - (intOf i).toNat)
  case atStart => exact ⟨0, by omega, rfl, fun j h1 h2 => absurd h2 (by omega), R0, R1, ba⟩
  case round =>
    clear R0 R1 ba
    obtain ⟨k, hk, rfl, hz, hr0, hr1, hbel⟩ := hrel
    by_cases hlt : k < d.length
    · have kl : (k : Int) < d.length := by omega
      have cd : wr.cell? ⟨b, k, none⟩ = some (.int .i64 (d.getD k 0 : Nat)) := (hbel.cell (p := ⟨b, k, none⟩) hb).trans (HC.out k hlt)
      have hx : d.getD k 0 < 256 := by
        have := hd (d.getD k 0) (by simp [hlt])
        exact this
      have VS := Lib.hid (val_take_succ d k hlt)
      have VL := Lib.hid (val_take_lt d k hd (by omega))
      have HZ := Lib.hid hz
      obtain ⟨x, ex⟩ : ∃ x, x = d.getD k 0 := ⟨_, rfl⟩
      rw [← ex] at cd hx VS
      have EX := Lib.hid ex
      clear ex hz
      by_cases h32 : k < 32
      · have k32 : (k : Int) < 32 := by omega
        have kd : decide ((32 : Int) ≤ k) = false := by simp; omega
        have hlm := limb_lt (val (d.take k)) (k / 8)
        have c0 : wr.cell? ⟨w.heap.size + 1, k / 8, none⟩ = some (.int .u64 (limb (val (d.take k)) (k / 8) : Nat)) := cell_row hr1.out (wcells_get _ _ (by omega))
        have f0 : wr.frozen? ⟨w.heap.size + 1, k / 8, none⟩ = false := frozen_of_row wr _ _ _ _ hr1.out
        have HOR := Lib.hid (or_shlw (limb (val (d.take k)) (k / 8)) x (8 * (k % 8)) hlm (shl_lt x k hx))
        have PUT := Lib.hid (wcells_put (val (d.take k)) x k VL.out hx h32)
        generalize limb (val (d.take k)) (k / 8) = y at c0 hlm HOR PUT
        go_wp2
        go_region
        all_goals
          go_wp2
          go_roundw
          case rel =>
            refine ⟨k + 1, by omega, by go_num, fun j h1 h2 => absurd h2 (by omega), Lib.hid ?_, Lib.hid ?_, (hbel.setCell (by simp) _).drew⟩
            · rw [heap_drew, heap_setCell_other _ _ _ _ (by simp)]; exact hr0.out
            · rw [heap_drew, VS.out, ← PUT.out, HOR.out]; exact set_row hr1.out
          case measure => simp [intOf]; omega
      · have k32 : ¬ (k : Int) < 32 := by omega
        have kd : decide ((32 : Int) ≤ k) = true := by simp; omega
        by_cases hx0 : x = 0
        · have hx1 : ((x : Int) != 0) = false := by simp [hx0]
          have hz2 : ∀ j, 32 ≤ j → j < k + 1 → d.getD j 0 = 0 := fun j h1 h2 => by
            rcases Nat.lt_or_ge j k with h | h
            · exact HZ.out j h1 h
            · obtain rfl : j = k := by omega
              rw [← EX.out]; exact hx0
          have VS2 := Lib.hid (show val (d.take (k + 1)) = val (d.take k) from by rw [VS.out, hx0]; simp)
          clear hx0
          have HZ2 := Lib.hid hz2
          clear hz2
          go_wp2
          go_roundw
          case rel => exact ⟨k + 1, by omega, by go_num, HZ2.out, hr0, by rw [VS2.out]; exact hr1, hbel⟩
          case measure => simp [intOf]; omega
        · have hx1 : ((x : Int) != 0) = true := by simp; omega
          have NR := Lib.hid (numR_no d k (by omega) hlt (by rw [← EX.out]; exact hx0))
          clear hx0
          go_wp2_with (refine wpList_store_row rfl 24 (.tmp 2) (.tmp 21) rfl w.heap.size (wcells 0).toArray rfl rfl 24 (wcells 0).toArray hr0.out (infoW' 0) rfl (ones_w 0) ?_)
          rw [NR.out]
          exact bodyPost_ret (v := .tuple #[aggN 0, .bool false]) (results_cell_tmp Try.results36 _ _ w.heap.size 24 _ _ _ _ rfl rfl (setRow_heap _ _ _ _ _ _ hr0.out) Try.underlying24 rfl (infoW' 0)) rfl ⟨rfl, below_setRow hbel (Nat.le_refl _) _⟩
    · obtain rfl : k = d.length := by omega
      have NR := Lib.hid (numR_ok d hd hz)
      rw [List.take_length] at hr1
      clear hz
      go_wp2_with (first
        | (refine wpList_load_row rfl 24 (.tmp 4) rfl (w.heap.size + 1) rfl 24 (wcells (val d)).toArray (0, 0) _ hr1.out Try.underlying24 rfl (infoW' _) ?_)
        | (refine wpList_store_row rfl 24 (.tmp 2) (.tmp 42) rfl w.heap.size (wcells (val d)).toArray rfl rfl 24 (wcells 0).toArray hr0.out (infoW' _) rfl (ones_w _) ?_))
      rw [NR.out]
      exact bodyPost_ret (v := .tuple #[aggN (val d), .bool true]) (results_cell_tmp Try.results36 _ _ w.heap.size 24 _ _ _ _ rfl rfl (setRow_heap _ _ _ _ _ _ hr0.out) Try.underlying24 rfl (infoW' _)) rfl ⟨rfl, below_setRow hbel (Nat.le_refl _) _⟩
end Go.Proofs.Ytppgpdckaaabeaa
