import Derived.Test.YtpopocfkeiplbaaRows
import Derived.Test.YtpopocfkeiplbaaTlvB
import Derived.ProofKit
import Derived.OpenShut
import Derived.ShutString
import Derived.ChangeOld
import Derived.Outline
import Derived.RegionTactic
import Derived.ChangeAlike
import Derived.BigRegion
import Derived.BigQuiet
import Derived.Deep.QuietTactic
import Derived.Deep.RegionWith
import Derived.Deep.RegionLaw
import Derived.Deep.AppendLies
import Derived.Deep.Draws
import Derived.Lib.Hide
import Derived.Lib.SmallJoins
namespace Go.Proofs.Ytpopocfkeiplbaa
open Go.RowKit

theorem conv4 (w : World) (a : Addr) (c : Nat) : (convert 24 9 (.slice (some a) 4 c)).run Try.prog w = match w.cell? a, w.cell? (a.add 1), w.cell? (a.add 2), w.cell? (a.add 3) with
      | some (.int .u8 x), some (.int .u8 y), some (.int .u8 z), some (.int .u8 u) => .ok (.string ⟨[UInt8.ofNat x.toNat, UInt8.ofNat y.toNat, UInt8.ofNat z.toNat, UInt8.ofNat u.toNat].toArray⟩) w
      | _, _, _, _ => (Conv.bytesToString (.slice (some a) 4 c)).run Try.prog w := run_b2s4 w _ _ _ a c Try.underlying24 Try.underlying5 Try.underlying9
section
attribute [local go_sem] conv1 app_list
set_option maxHeartbeats 400000 in
theorem refDigits_any (n : Nat) (w : World) (hn : n < 18446744073709551616) :
    Calls Try.prog 37 #[.int .u64 n] w fun e w' => e = .returned (.string ⟨(digs n).toArray⟩) ∧ Below w.heap.size w w' := by
  go_enter Try.func37, Try.ntmps37
  go_wp2
  go_loopw [0, 3] (fun v s wr => ∃ m j : Nat, ∃ acc : List UInt8, v = .int .u64 m ∧ s = .string ⟨acc.toArray⟩ ∧ m < 256 ^ j ∧ acc.length + j = 8 ∧ dgF j m acc = digs n ∧ m < 18446744073709551616 ∧ Below w.heap.size w wr) (fun v _ _ => (intOf v).toNat)
  case atStart => exact ⟨n, 8, [], rfl, rfl, hn, rfl, rfl, hn, Below.refl _ _⟩
  case round =>
    obtain ⟨m, j, acc, rfl, rfl, hm, hj, hd, hm2, hbel⟩ := hrel
    have hal : acc.length ≤ 8 := by omega
    have Hj := Lib.hid hj
    clear hj
    have Hm := Lib.hid hm
    have Hd := Lib.hid hd
    have hsz := hbel.size
    clear hm hd
    by_cases h0 : m = 0
    · subst h0
      go_wp2
      go_ret
      exact ⟨by rw [← Hd.out, dgF_zero]; rfl, hbel⟩
    · have hp : 0 < m := by omega
      go_wp2
      go_roundw
      case rel =>
        have := Hm.out
        match j, this, Hd, Hj with
        | 0, h, _, _ => exact absurd hp (by simpa using h)
        | i + 1, h, Hd, Hj => exact ⟨m / 256, i, UInt8.ofNat m :: acc, rfl, by rw [ofNat_mod], Nat.div_lt_of_lt_mul (by rw [Nat.pow_succ] at h; omega), by have := Hj.out; simp; omega, by rw [← dgF_pos i m acc hp]; exact Hd.out, by omega, hbel.alloc hsz _⟩
      case measure => simp [intOf]; omega
end
section
attribute [local go_sem] ext_list conv4
set_option maxHeartbeats 400000 in
theorem refText_any (c : UInt8) (l : List UInt8) (w : World) (hl : decide ((16777215 : Int) < (l.length : Int)) = false) :
    Calls Try.prog 31 #[.int .u8 c.toNat, .string ⟨l.toArray⟩] w fun e w' => e = .returned (.string ⟨(fld c l).toArray⟩) ∧ Below w.heap.size w w' := by
  have hn := List.take_length (l := l)
  have hl2 : (l.length : Int) < 16777216 := by simp at hl; omega
  go_enter Try.func31, Try.ntmps31
  go_wp2
  go_ret
  exact ⟨by rw [fld_eq4]; rfl, (Below.refl _ _).alloc (Nat.le_refl _) _⟩
end

theorem digs_len (n : Nat) : (digs n).length ≤ 8 := by
  have h : ∀ f m acc, (dgF f m acc).length ≤ acc.length + f := by
    intro f
    induction f with
    | zero => intro m acc; simp [dgF]
    | succ f ih =>
      intro m acc
      unfold dgF
      split
      · omega
      · have := ih (m / 256) (UInt8.ofNat m :: acc); simp at this; omega
  have := h 8 n []
  simpa [digs] using this

theorem refNum_any (c : UInt8) (n : Nat) (w : World) (hn : n < 18446744073709551616) :
    Calls Try.prog 32 #[.int .u8 c.toNat, .int .u64 n] w fun e w' => e = .returned (.string ⟨(fld c (digs n)).toArray⟩) ∧ Below w.heap.size w w' := by
  have Hn := Lib.hid hn
  clear hn
  have hb := digs_len n
  have Hd : Hid (decide ((16777215 : Int) < ((digs n).length : Int)) = false) := Lib.hid (by simp; omega)
  clear hb
  go_enter Try.func32, Try.ntmps32
  go_wp2_with (first | (go_at_call 37; refine (refDigits_any n _ Hn.out).mono ?_; rintro e w' ⟨rfl, hb1⟩) | (go_at_call 31; refine (refText_any _ _ _ Hd.out).mono ?_; rintro e w' ⟨rfl, hb2⟩))
  go_ret
  exact ⟨rfl, hb1.trans (hb2.mono hb1.size)⟩

section
attribute [local go_sem] app_list
end
end Go.Proofs.Ytpopocfkeiplbaa
