import Derived.Test.YtkhmhffphmkefaaRows
import Derived.Test.YtkhmhffphmkefaaTlvB
import Derived.ProofKit
import Derived.OpenShut
import Derived.ShutString
import Derived.ChangeOld
import Derived.Outline
import Derived.RegionTactic
import Derived.ChangeAlike
import Derived.BigRegion
import Derived.BigQuiet
import Derived.Deep.QuietTactic
import Derived.Deep.RegionWith
import Derived.Deep.RegionLaw
import Derived.Deep.AppendLies
import Derived.Deep.Draws
import Derived.Lib.Hide
import Derived.Lib.SmallJoins
namespace Go.Proofs.Ytkhmhffphmkefaa
open Go.RowKit

theorem conv4 (w : World) (a : Addr) (c : Nat) : (convert 65 9 (.slice (some a) 4 c)).run Try.prog w = match w.cell? a, w.cell? (a.add 1), w.cell? (a.add 2), w.cell? (a.add 3) with
      | some (.int .u8 x), some (.int .u8 y), some (.int .u8 z), some (.int .u8 u) => .ok (.string ⟨[UInt8.ofNat x.toNat, UInt8.ofNat y.toNat, UInt8.ofNat z.toNat, UInt8.ofNat u.toNat].toArray⟩) w
      | _, _, _, _ => (Conv.bytesToString (.slice (some a) 4 c)).run Try.prog w := run_b2s4 w _ _ _ a c Try.underlying65 Try.underlying5 Try.underlying9
section
attribute [local go_sem] conv1 app_list
set_option maxHeartbeats 400000 in
theorem refDigits_any (n : Nat) (w : World) (hn : n < 18446744073709551616) :
    Calls Try.prog 40 #[.int .u64 n] w fun e w' => e = .returned (.string ⟨(digs n).toArray⟩) ∧ Below w.heap.size w w' := by
  go_enter Try.func40, Try.ntmps40
  go_wp2
  go_loopw [0, 3] (fun v s wr => ∃ m j : Nat, ∃ acc : List UInt8, v = .int .u64 m ∧ s = .string ⟨acc.toArray⟩ ∧ m < 256 ^ j ∧ acc.length + j = 8 ∧ dgF j m acc = digs n ∧ m < 18446744073709551616 ∧ Below w.heap.size w wr) (fun v _ _ => (intOf v).toNat)
  case atStart => exact ⟨n, 8, [], rfl, rfl, hn, rfl, rfl, hn, Below.refl _ _⟩
  case round =>
    obtain ⟨m, j, acc, rfl, rfl, hm, hj, hd, hm2, hbel⟩ := hrel
    have hal : acc.length ≤ 8 := by omega
    have Hj := Lib.hid hj
    clear hj
    have Hm := Lib.hid hm
    have Hd := Lib.hid hd
    have hsz := hbel.size
    clear hm hd
    by_cases h0 : m = 0
    · subst h0
      go_wp2
      go_ret
      exact ⟨by rw [← Hd.out, dgF_zero]; rfl, hbel⟩
    · have hp : 0 < m := by omega
      go_wp2
      go_roundw
      case rel =>
        have := Hm.out
        match j, this, Hd, Hj with
        | 0, h, _, _ => exact absurd hp (by simpa using h)
        | i + 1, h, Hd, Hj => exact ⟨m / 256, i, UInt8.ofNat m :: acc, rfl, by rw [ofNat_mod], Nat.div_lt_of_lt_mul (by rw [Nat.pow_succ] at h; omega), by have := Hj.out; simp; omega, by rw [← dgF_pos i m acc hp]; exact Hd.out, by omega, hbel.alloc hsz _⟩
      case measure => simp [intOf]; omega
end
section
attribute [local go_sem] ext_list conv4
set_option maxHeartbeats 400000 in
theorem refText_any (c : UInt8) (l : List UInt8) (w : World) (hl : decide ((16777215 : Int) < (l.length : Int)) = false) :
    Calls Try.prog 19 #[.int .u8 c.toNat, .string ⟨l.toArray⟩] w fun e w' => e = .returned (.string ⟨(fld c l).toArray⟩) ∧ Below w.heap.size w w' := by
  have hn := List.take_length (l := l)
  have hl2 : (l.length : Int) < 16777216 := by simp at hl; omega
  go_enter Try.func19, Try.ntmps19
  go_wp2
  go_ret
  exact ⟨by rw [fld_eq4]; rfl, (Below.refl _ _).alloc (Nat.le_refl _) _⟩
end

theorem digs_len (n : Nat) : (digs n).length ≤ 8 := by
  have h : ∀ f m acc, (dgF f m acc).length ≤ acc.length + f := by
    intro f
    induction f with
    | zero => intro m acc; simp [dgF]
    | succ f ih =>
      intro m acc
      unfold dgF
      split
      · omega
      · have := ih (m / 256) (UInt8.ofNat m :: acc); simp at this; omega
  have := h 8 n []
  simpa [digs] using this

theorem refNum_any (c : UInt8) (n : Nat) (w : World) (hn : n < 18446744073709551616) :
    Calls Try.prog 15 #[.int .u8 c.toNat, .int .u64 n] w fun e w' => e = .returned (.string ⟨(fld c (digs n)).toArray⟩) ∧ Below w.heap.size w w' := by
  have Hn := Lib.hid hn
  clear hn
  have hb := digs_len n
  have Hd : Hid (decide ((16777215 : Int) < ((digs n).length : Int)) = false) := Lib.hid (by simp; omega)
  clear hb
  go_enter Try.func15, Try.ntmps15
  go_wp2_with (first | (go_at_call 40; refine (refDigits_any n _ Hn.out).mono ?_; rintro e w' ⟨rfl, hb1⟩) | (go_at_call 19; refine (refText_any _ _ _ Hd.out).mono ?_; rintro e w' ⟨rfl, hb2⟩))
  go_ret
  exact ⟨rfl, hb1.trans (hb2.mono hb1.size)⟩

theorem refInt_any (c : UInt8) (n : Int) (w : World) (h0 : -9223372036854775808 ≤ n) (h1 : n < 9223372036854775808) :
    Calls Try.prog 17 #[.int .u8 c.toNat, .int .i64 n] w fun e w' => e = .returned (.string ⟨(fld c (digs n.toNat)).toArray⟩) ∧ Below w.heap.size w w' := by
  rcases Int.lt_or_le n 0 with h | h
  · have e0 : n.toNat = 0 := by omega
    have H := Lib.hid e0
    clear e0
    go_enter Try.func17, Try.ntmps17
    go_wp2_with (go_at_call 15; refine (refNum_any _ 0 _ (by omega)).mono ?_; rintro e w' ⟨rfl, hb2⟩)
    go_ret
    exact ⟨by rw [H.out]; rfl, hb2⟩
  · obtain ⟨m, rfl⟩ := Int.eq_ofNat_of_zero_le h
    rw [Int.toNat_natCast]
    have hm : m < 9223372036854775808 := by omega
    have hd : decide ((m : Int) < 0) = false := by simp
    have Hm := Lib.hid hm
    have hw : IntKind.u64.wrap (m : Int) = m := by simp [IntKind.wrap_u64]; omega
    clear h0 h1 h hm
    go_enter Try.func17, Try.ntmps17
    go_wp2_with (go_at_call 15; refine (refNum_any _ m _ (by have := Hm.out; omega)).mono ?_; rintro e w' ⟨rfl, hb2⟩)
    go_ret
    exact ⟨rfl, hb2⟩

section
attribute [local go_sem] app_list
set_option maxHeartbeats 400000 in
theorem refAll_any (c : UInt8) (a : Option Addr) (n cap : Nat) (ls : List (List UInt8)) (w : World) (hr : StrsAt w w.heap.size a n ls) (hn : (n : Int) ≤ 140737488351232) (hlen : ((flds c ls).length : Int) < 16777215) :
    Calls Try.prog 21 #[.int .u8 c.toNat, .slice a n cap] w fun e w' => e = .returned (.string ⟨(fld c (flds c ls)).toArray⟩) ∧ Below w.heap.size w w' := by
  have Hlen := Lib.hid hlen
  clear hlen
  go_enter Try.func21, Try.ntmps21
  go_wp2
  go_loopw [5, 6] (fun v i wr => ∃ k : Nat, k ≤ n ∧ i = .int .i64 k ∧ v = .string ⟨(flds c (ls.take k)).toArray⟩ ∧ Below w.heap.size w wr) (fun _ i _ => n - (intOf i).toNat)
  case atStart => exact ⟨0, Nat.zero_le _, rfl, rfl, Below.refl _ _⟩
  case round =>
    obtain ⟨k, hk, rfl, rfl, hbel⟩ := hrel
    have hle := flds_take_le c ls k
    have Hle := Lib.hid hle
    clear hle
    by_cases hlt : k < n
    · obtain ⟨b, off, rfl, hb, hcell⟩ := hr.2 (by omega)
      have hkl : k < ls.length := by rw [hr.1]; exact hlt
      have hget := List.getElem?_eq_getElem hkl
      have hcw := hcell k _ hget
      have hc : wr.cell? ⟨b, off + k, none⟩ = some (.string ⟨ls[k].toArray⟩) := (hbel.cell (p := ⟨b, off + k, none⟩) hb).trans hcw
      have hstep := flds_take_succ c ls k _ hget
      have hle2 := flds_take_le c ls (k + 1)
      rw [hstep, List.length_append, fld_len] at hle2
      obtain ⟨l, hl⟩ : ∃ l, l = ls[k] := ⟨_, rfl⟩
      rw [← hl] at hc hstep hle2
      have Hs := Lib.hid hstep
      have Hlk : Hid (decide ((16777215 : Int) < (l.length : Int)) = false) := Lib.hid (by have := Hlen.out; simp; omega)
      generalize hg : flds c (ls.take k) = acc at *
      have hsum : acc.length + (fld c l).length ≤ 16777215 := by have := Hlen.out; rw [fld_len]; omega
      have hsum2 : ¬ (9223372036854775807 < acc.length + (fld c l).length) := by omega
      have Hg := Lib.hid hg
      clear hstep hcw hcell hget hl hg hle2 hsum
      have hsz := hbel.size
      go_wp2_with (go_at_call 19; refine (refText_any _ l _ Hlk.out).mono ?_; rintro e w' ⟨rfl, hb2⟩)
      go_roundw
      case rel => exact ⟨k + 1, by omega, by go_num, by rw [Hs.out], hbel.trans (hb2.mono hsz)⟩
      case measure => simp [intOf]; omega
    · have hkn : ls.take k = ls := List.take_of_length_le (by rw [hr.1]; omega)
      rw [hkn]
      have Hl2 : Hid (decide ((16777215 : Int) < ((flds c ls).length : Int)) = false) := Lib.hid (by have := Hlen.out; simp; omega)
      clear hkn
      go_wp2_with (go_at_call 19; refine (refText_any _ (flds c ls) _ Hl2.out).mono ?_; rintro e w' ⟨rfl, hb2⟩)
      go_ret
      exact ⟨rfl, hbel.trans (hb2.mono hbel.size)⟩
end
end Go.Proofs.Ytkhmhffphmkefaa
