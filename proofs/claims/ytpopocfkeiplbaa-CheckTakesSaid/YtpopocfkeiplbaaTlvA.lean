import Derived.Test.YtpopocfkeiplbaaRows
import Derived.Test.YtpopocfkeiplbaaBase
import Derived.ProofKit
import Derived.OpenShut
import Derived.ShutString
import Derived.ChangeOld
import Derived.Outline
import Derived.RegionTactic
import Derived.ChangeAlike
import Derived.BigRegion
import Derived.BigQuiet
import Derived.Deep.QuietTactic
import Derived.Deep.RegionWith
import Derived.Deep.RegionLaw
import Derived.Deep.AppendLies
import Derived.Deep.Draws
import Derived.Lib.Hide
import Derived.Lib.SmallJoins
namespace Go.Proofs.Ytpopocfkeiplbaa
open Go.RowKit

theorem lengthOf_any (n : Int) (w : World) (h0 : 0 ≤ n) (h1 : n < 16777216) :
    Calls Try.prog 30 #[.int .i64 n] w fun e w' => e = .returned (.agg #[.int .u8 (n/65536), .int .u8 (n/256%256), .int .u8 (n%256)]) ∧ Below w.heap.size w w' := by
  go_enter Try.func30, Try.ntmps30
  go_wp2
  exact bodyPost_ret (v := .agg #[.int .u8 (n/65536), .int .u8 (n/256%256), .int .u8 (n%256)]) (by simp [results, Try.results30, go_sem]) rfl ⟨rfl, (Below.refl _ _).alloc (Nat.le_refl _) _⟩

theorem conv1 (w : World) (a : Addr) (c : Nat) : (convert 24 9 (.slice (some a) 1 c)).run Try.prog w = match w.cell? a with
      | some (.int .u8 n) => .ok (.string ⟨[UInt8.ofNat n.toNat].toArray⟩) w
      | _ => (Conv.bytesToString (.slice (some a) 1 c)).run Try.prog w := run_b2s1 w _ _ _ a c Try.underlying24 Try.underlying5 Try.underlying9
theorem conv3 (w : World) (a : Addr) (c : Nat) : (convert 24 9 (.slice (some a) 3 c)).run Try.prog w = match w.cell? a, w.cell? (a.add 1), w.cell? (a.add 2) with
      | some (.int .u8 x), some (.int .u8 y), some (.int .u8 z) => .ok (.string ⟨[UInt8.ofNat x.toNat, UInt8.ofNat y.toNat, UInt8.ofNat z.toNat].toArray⟩) w
      | _, _, _ => (Conv.bytesToString (.slice (some a) 3 c)).run Try.prog w := run_b2s3 w _ _ _ a c Try.underlying24 Try.underlying5 Try.underlying9

section
attribute [local go_sem] ext_list conv1 conv3
set_option maxHeartbeats 400000 in
theorem Text_any (c : UInt8) (l : List UInt8) (w : World) (hl : (l.length : Int) ≤ 16777215) :
    Calls Try.prog 20 #[.int .u8 c.toNat, .string ⟨l.toArray⟩] w fun e w' => e = .returned (.string ⟨(fld c l).toArray⟩) ∧ Below w.heap.size w w' := by
  have hn := List.take_length (l := l)
  go_enter Try.func20, Try.ntmps20
  go_wp2_with (go_at_call 30; refine (lengthOf_any _ _ (by omega) (by omega)).mono ?_; rintro e w' ⟨rfl, hb⟩)
  have hsz := hb.size
  go_region
  go_wp2
  go_ret
  exact ⟨by rw [fld_eq]; rfl, (((hb.alloc hb.size _).alloc (by simp; omega) _)).drew⟩
end

theorem conv0 (w : World) (a : Addr) (c : Nat) : (convert 24 9 (.slice (some a) 0 c)).run Try.prog w = .ok (.string ⟨([] : List UInt8).toArray⟩) w := run_b2s0 w _ _ _ a c Try.underlying24 Try.underlying5 Try.underlying9
section
attribute [local go_sem] conv0
set_option maxHeartbeats 400000 in
theorem Num_any (c : UInt8) (n : Nat) (w : World) (hn : n < 18446744073709551616) :
    Calls Try.prog 21 #[.int .u8 c.toNat, .int .u64 n] w fun e w' => e = .returned (.string ⟨(fld c (digs n)).toArray⟩) ∧ Below w.heap.size w w' := by
  go_enter Try.func21, Try.ntmps21
  go_wp2
  go_loopw [1, 6] (fun v at_ wr => ∃ m j : Nat, ∃ acc : List UInt8, v = .int .u64 m ∧ at_ = .int .i64 j ∧ acc.length + j = 8 ∧ m < 256 ^ j ∧ m < 18446744073709551616 ∧ dgF j m acc = digs n ∧
      wr.heap[w.heap.size]? = some (.cells (List.replicate j (Value.int .u8 0) ++ bcells acc).toArray 59 (0, 0)) ∧ Below w.heap.size w wr) (fun v _ _ => (intOf v).toNat)
  case atStart => exact ⟨n, 8, [], rfl, rfl, rfl, by omega, hn, rfl, heap_alloc_new w _, (Below.refl _ _).alloc (Nat.le_refl _) _⟩
  case round =>
    obtain ⟨m, j, acc, rfl, rfl, hj, hm, hm2, hd, hb, hbel⟩ := hrel
    have hj8 : (j : Int) ≤ 8 := by omega
    by_cases h0 : m = 0
    · subst h0
      rw [dgF_zero] at hd
      subst hd
      by_cases h8 : 8 = j
      · have : (digs n).length = 0 := by omega
        have hd0 : digs n = [] := List.eq_nil_of_length_eq_zero this
        have H := Lib.hid hd0
        clear hd0 this hb
        subst h8
        go_wp2_with (go_at_call 20; refine (Text_any _ _ _ (by simp)).mono ?_; rintro e w' ⟨rfl, hb2⟩)
        go_ret
        exact ⟨by rw [H.out]; rfl, hbel.trans (hb2.mono hbel.size)⟩
      · have hconv := run_b2s_tail (P := Try.prog) wr 24 9 5 w.heap.size j (8 - j) (8 - j) (.int .u8 0) (digs n) _ _ Try.underlying24 Try.underlying5 Try.underlying9 hb (by omega)
        clear hb
        go_wp2_with (go_at_call 20; refine (Text_any _ _ _ (by omega)).mono ?_; rintro e w' ⟨rfl, hb2⟩)
        go_ret
        exact ⟨rfl, hbel.trans (hb2.mono hbel.size)⟩
    · have hp : 0 < m := by omega
      obtain ⟨i, rfl⟩ : ∃ i, j = i + 1 := ⟨j - 1, by cases j <;> simp_all⟩
      have hc : wr.cell? ⟨w.heap.size, i, none⟩ = some (.int .u8 0) := cell_tail hb
      have hf : wr.frozen? ⟨w.heap.size, i, none⟩ = false := by
        unfold World.frozen?
        simp only [hb]
        simp
      have hi1 : (i : Int) < 8 := by omega
      have Hb := Lib.hid hb
      have Hd := Lib.hid hd
      have Hj := Lib.hid hj
      have Hm := Lib.hid hm
      clear hb hd hj hm
      go_wp2
      go_roundw
      case rel =>
        have e : (Value.int .u8 ((m : Int) % 256)) = .int .u8 ((UInt8.ofNat m).toNat : Nat) := by simp
        rw [e]
        exact ⟨m / 256, i, UInt8.ofNat m :: acc, rfl, rfl, by have := Hj.out; simp; omega, Nat.div_lt_of_lt_mul (by have := Hm.out; rw [Nat.pow_succ] at this; omega), by omega, by rw [← dgF_pos i m acc hp]; exact Hd.out, setCell_tail _ Hb.out, hbel.setCell (Nat.le_refl _) _⟩
      case measure => simp [intOf]; omega
end

end Go.Proofs.Ytpopocfkeiplbaa
