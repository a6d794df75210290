import Derived.Test.YtpopocfkeiplbaaRows
import Derived.Test.YtpopocfkeiplbaaTlvC
import Derived.ProofKit
import Derived.OpenShut
import Derived.ShutString
import Derived.ChangeOld
import Derived.Outline
import Derived.RegionTactic
import Derived.ChangeAlike
import Derived.BigRegion
import Derived.BigQuiet
import Derived.Deep.QuietTactic
import Derived.Deep.RegionWith
import Derived.Deep.RegionLaw
import Derived.Deep.AppendLies
import Derived.Deep.Draws
import Derived.Lib.Hide
import Derived.Lib.SmallJoins
import Derived.Handy
namespace Go.Proofs.Ytpopocfkeiplbaa
open Go.RowKit
theorem ret_int {k : IntKind} {a b : Int} (h : a = b) : Ending.returned (.int k a) = .returned (.int k b) := by rw [h]
theorem three (x y z : UInt8) : bits .or .i64 (wrap64 (bits .or .i64 (wrap64 (bits .or .i64 0 x.toNat * 256)) y.toNat * 256)) z.toNat = ((x.toNat * 65536 + y.toNat * 256 + z.toNat : Nat) : Int) := by
  have hx := x.toNat_lt
  have hy := y.toNat_lt
  have hz := z.toNat_lt
  have e1 : bits .or .i64 0 (x.toNat : Int) = x.toNat := by
    have := lor_i64 0 x.toNat (by omega) (by omega)
    simpa using this
  rw [e1]
  have w1 : wrap64 ((x.toNat : Int) * 256) = (x.toNat : Int) * 256 := by simp only [wrap64]; omega
  rw [w1, lor_i64 x.toNat y.toNat (by omega) (by omega)]
  have w2 : wrap64 (((x.toNat * 256 + y.toNat : Nat) : Int) * 256) = ((x.toNat * 256 + y.toNat : Nat) : Int) * 256 := by simp only [wrap64]; omega
  rw [w2, lor_i64 _ z.toNat (by omega) (by omega)]
  omega

set_option maxHeartbeats 400000 in
theorem lnumber_any (x y z : UInt8) (w : World) :
    Calls Try.prog 39 #[.agg #[.int .u8 x.toNat, .int .u8 y.toNat, .int .u8 z.toNat]] w fun e w' => e = .returned (.int .i64 (x.toNat * 65536 + y.toNat * 256 + z.toNat : Nat)) ∧ Below w.heap.size w w' := by
  have hx : (x.toNat : Int) < 256 := by have := x.toNat_lt; omega
  have hy : (y.toNat : Int) < 256 := by have := y.toNat_lt; omega
  have hz : (z.toNat : Int) < 256 := by have := z.toNat_lt; omega
  have i0 : ∀ w, (Instr.index 57 (.agg #[.int .u8 x.toNat, .int .u8 y.toNat, .int .u8 z.toNat]) (.int .i64 0)).run Try.prog w = .ok (.int .u8 x.toNat) w := fun _ => by kernel_rfl
  have i1 : ∀ w, (Instr.index 57 (.agg #[.int .u8 x.toNat, .int .u8 y.toNat, .int .u8 z.toNat]) (.int .i64 1)).run Try.prog w = .ok (.int .u8 y.toNat) w := fun _ => by kernel_rfl
  have i2 : ∀ w, (Instr.index 57 (.agg #[.int .u8 x.toNat, .int .u8 y.toNat, .int .u8 z.toNat]) (.int .i64 2)).run Try.prog w = .ok (.int .u8 z.toNat) w := fun _ => by kernel_rfl
  go_enter Try.func39, Try.ntmps39
  go_wp2
  go_rounds 4
  go_ret
  exact ⟨ret_int (three x y z), (Below.refl _ _).alloc (Nat.le_refl _) _⟩

theorem orstep (m : Nat) (x : UInt8) (hm : m < 72057594037927936) : bits .or .u64 (IntKind.u64.wrap ((m : Int) * 256)) (IntKind.u64.wrap (x.toNat : Int)) = ((m * 256 + x.toNat : Nat) : Int) := by
  have hx := x.toNat_lt
  have e1 : IntKind.u64.wrap ((m : Int) * 256) = (m : Int) * 256 := by simp only [IntKind.wrap_u64]; omega
  have e2 : IntKind.u64.wrap (x.toNat : Int) = (x.toNat : Int) := by simp only [IntKind.wrap_u64]; omega
  rw [e1, e2, lor_u64 m x.toNat hm (by omega)]
theorem int_eq {k : IntKind} {a b : Int} (h : a = b) : Value.int k a = .int k b := by rw [h]
theorem idx_list (l : List UInt8) (i : Nat) (h : i < (ByteArray.mk l.toArray).size) : (ByteArray.mk l.toArray)[i]'h = l[i]'h := rfl
section
attribute [local go_sem] idx_list
theorem number_none (l : List UInt8) (w : World) (h : nbr l = none) :
    Calls Try.prog 36 #[.string ⟨l.toArray⟩] w fun e w' => e = .returned (.tuple #[.int .u64 0, .bool false]) ∧ w = w' := by
  cases l with
  | nil => simp [nbr] at h
  | cons x r =>
    simp [nbr] at h
    by_cases h8 : 7 < r.length
    · have hd : decide ((8 : Int) < ((r.length : Int) + 1)) = true := by simp; omega
      clear h
      go_enter Try.func36, Try.ntmps36
      go_wp2
      go_ret2
      exact ⟨rfl, rfl⟩
    · obtain rfl : x = 0 := h (by omega)
      have hd : decide ((8 : Int) < ((r.length : Int) + 1)) = false := by simp; omega
      clear h
      go_enter Try.func36, Try.ntmps36
      go_wp2
      go_ret2
      exact ⟨rfl, rfl⟩

theorem tuple_int {k : IntKind} {a b : Int} {c : Value} (h : a = b) : Ending.returned (.tuple #[.int k a, c]) = .returned (.tuple #[.int k b, c]) := by rw [h]
set_option maxHeartbeats 400000 in
theorem number_some (l : List UInt8) (n : Nat) (w : World) (h : nbr l = some n) :
    Calls Try.prog 36 #[.string ⟨l.toArray⟩] w fun e w' => e = .returned (.tuple #[.int .u64 n, .bool true]) ∧ w = w' := by
  cases l with
  | nil =>
    obtain rfl : 0 = n := by simpa [nbr] using h
    go_enter Try.func36, Try.ntmps36
    go_wp2
    go_rounds 1
    go_ret2
    exact ⟨rfl, rfl⟩
  | cons x r =>
    simp only [nbr] at h
    split at h
    · cases h
    · rename_i hc
      obtain rfl : be (x :: r) = n := by simpa using h
      have hr : r.length ≤ 7 := by omega
      have hx0 : x ≠ 0 := by intro e; exact hc (.inr e)
      have hx : ((x.toNat : Int) == 0) = false := by
        have : x.toNat ≠ 0 := fun e => hx0 (UInt8.toNat_inj.1 e)
        simp; omega
      have hd : decide ((8 : Int) < ((r.length : Int) + 1)) = false := by simp; omega
      have hlen : (x :: r).length = r.length + 1 := rfl
      clear h hc hx0
      have Hl := Lib.hid hlen
      clear hlen
      go_enter Try.func36, Try.ntmps36
      go_wp2
      go_loop [4, 5, 21] (fun v _ i => ∃ k : Nat, k ≤ r.length + 1 ∧ i = .int .i64 k ∧ v = .int .u64 (be ((x :: r).take k) : Nat)) (fun _ _ i => r.length + 1 - (intOf i).toNat)
      case atStart => exact ⟨0, Nat.zero_le _, rfl, rfl⟩
      case round =>
        obtain ⟨k, hk, rfl, rfl⟩ := hrel
        have hb := be_lt ((x :: r).take k)
        have hl2 : ((x :: r).take k).length ≤ k := List.length_take_le _ _
        by_cases hlt : k < r.length + 1
        · have hkl : k < (x :: r).length := by simpa using hlt
          have hs := be_take_succ (x :: r) k _ (List.getElem?_eq_getElem hkl)
          have hp : be ((x :: r).take k) < 72057594037927936 := Nat.lt_of_lt_of_le hb (Nat.le_trans (Nat.pow_le_pow_right (by omega) (Nat.le_trans hl2 (by omega : k ≤ 7))) (by decide))
          generalize hm : be ((x :: r).take k) = m at *
          have Hs := Lib.hid hs
          have Hp := Lib.hid hp
          clear hs hb hl2 hm hp
          go_wp2
          go_round
          case rel => exact ⟨k + 1, by omega, by go_num, int_eq (by rw [Hs.out]; exact orstep m _ Hp.out)⟩
          case measure => simp [intOf]; omega
        · have e : (x :: r).take k = x :: r := List.take_of_length_le (by simp; omega)
          rw [e]
          clear e hb hl2
          generalize hm : be (x :: r) = m at *
          go_wp2
          go_ret2
          exact ⟨rfl, rfl⟩
end
end Go.Proofs.Ytpopocfkeiplbaa
