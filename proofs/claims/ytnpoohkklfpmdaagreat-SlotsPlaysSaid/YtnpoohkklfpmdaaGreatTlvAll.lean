/- TlvA: 
   TlvB: 
   TlvC: 
   TlvD: 
   TlvE: 
   TlvF: 
   TlvG: 
   TlvH: 
   TlvI:  -/
import Derived.Test.YtnpoohkklfpmdaaGreatRows
import Derived.ProofKit
import Derived.OpenShut
import Derived.ShutString
import Derived.ChangeOld
import Derived.Outline
import Derived.RegionTactic
import Derived.ChangeAlike
import Derived.BigRegion
import Derived.BigQuiet
import Derived.Deep.QuietTactic
import Derived.Deep.RegionWith
import Derived.Deep.RegionLaw
import Derived.Deep.AppendLies
import Derived.Deep.Draws
import Derived.Lib.Hide
import Derived.Lib.SmallJoins
import Derived.Handy
import Derived.Test.YtnpoohkklfpmdaaGreatBase
import Derived.Test.YtnpoohkklfpmdaaGreatFr
/- TlvA -/
namespace Go.Proofs.YtnpoohkklfpmdaaGreat
open Go.RowKit

theorem lengthOf_any (n : Int) (w : World) (h0 : 0 ≤ n) (h1 : n < 16777216) :
    Calls Tryz.prog 71 #[.int .i64 n] w fun e w' => e = .returned (.agg #[.int .u8 (n/65536), .int .u8 (n/256%256), .int .u8 (n%256)]) ∧ Below w.heap.size w w' := by
  go_enter Tryz.func71, Tryz.ntmps71
  go_wp2
  exact bodyPost_ret (v := .agg #[.int .u8 (n/65536), .int .u8 (n/256%256), .int .u8 (n%256)]) (by simp [results, Tryz.results71, go_sem]) rfl ⟨rfl, (Below.refl _ _).alloc (Nat.le_refl _) _⟩

theorem conv1 (w : World) (a : Addr) (c : Nat) : (convert 43 9 (.slice (some a) 1 c)).run Tryz.prog w = match w.cell? a with
      | some (.int .u8 n) => .ok (.string ⟨[UInt8.ofNat n.toNat].toArray⟩) w
      | _ => (Conv.bytesToString (.slice (some a) 1 c)).run Tryz.prog w := run_b2s1 w _ _ _ a c Tryz.underlying43 Tryz.underlying5 Tryz.underlying9
theorem conv3 (w : World) (a : Addr) (c : Nat) : (convert 43 9 (.slice (some a) 3 c)).run Tryz.prog w = match w.cell? a, w.cell? (a.add 1), w.cell? (a.add 2) with
      | some (.int .u8 x), some (.int .u8 y), some (.int .u8 z) => .ok (.string ⟨[UInt8.ofNat x.toNat, UInt8.ofNat y.toNat, UInt8.ofNat z.toNat].toArray⟩) w
      | _, _, _ => (Conv.bytesToString (.slice (some a) 3 c)).run Tryz.prog w := run_b2s3 w _ _ _ a c Tryz.underlying43 Tryz.underlying5 Tryz.underlying9

section
attribute [local go_sem] ext_list conv1 conv3
set_option maxHeartbeats 400000 in
theorem Text_any (c : UInt8) (l : List UInt8) (w : World) (hl : (l.length : Int) ≤ 16777215) :
    Calls Tryz.prog 50 #[.int .u8 c.toNat, .string ⟨l.toArray⟩] w fun e w' => e = .returned (.string ⟨(fld c l).toArray⟩) ∧ Below w.heap.size w w' := by
  have hn := List.take_length (l := l)
  go_enter Tryz.func50, Tryz.ntmps50
  go_wp2_with (go_at_call 71; refine (lengthOf_any _ _ (by omega) (by omega)).mono ?_; rintro e w' ⟨rfl, hb⟩)
  have hsz := hb.size
  go_region
  go_wp2
  go_ret
  exact ⟨by rw [fld_eq]; rfl, (((hb.alloc hb.size _).alloc (by simp; omega) _)).drew⟩
end

theorem conv0 (w : World) (a : Addr) (c : Nat) : (convert 43 9 (.slice (some a) 0 c)).run Tryz.prog w = .ok (.string ⟨([] : List UInt8).toArray⟩) w := run_b2s0 w _ _ _ a c Tryz.underlying43 Tryz.underlying5 Tryz.underlying9
section
attribute [local go_sem] conv0
set_option maxHeartbeats 400000 in
theorem Num_any (c : UInt8) (n : Nat) (w : World) (hn : n < 18446744073709551616) :
    Calls Tryz.prog 51 #[.int .u8 c.toNat, .int .u64 n] w fun e w' => e = .returned (.string ⟨(fld c (digs n)).toArray⟩) ∧ Below w.heap.size w w' := by
  go_enter Tryz.func51, Tryz.ntmps51
  go_wp2
  go_loopw [1, 6] (fun v at_ wr => ∃ m j : Nat, ∃ acc : List UInt8, v = .int .u64 m ∧ at_ = .int .i64 j ∧ acc.length + j = 8 ∧ m < 256 ^ j ∧ m < 18446744073709551616 ∧ dgF j m acc = digs n ∧
      wr.heap[w.heap.size]? = some (.cells (List.replicate j (Value.int .u8 0) ++ bcells acc).toArray 112 (0, 0)) ∧ Below w.heap.size w wr) (fun v _ _ => (intOf v).toNat)
  case atStart => exact ⟨n, 8, [], rfl, rfl, rfl, by omega, hn, rfl, heap_alloc_new w _, (Below.refl _ _).alloc (Nat.le_refl _) _⟩
  case round =>
    obtain ⟨m, j, acc, rfl, rfl, hj, hm, hm2, hd, hb, hbel⟩ := hrel
    have hj8 : (j : Int) ≤ 8 := by omega
    by_cases h0 : m = 0
    · subst h0
      rw [dgF_zero] at hd
      subst hd
      by_cases h8 : 8 = j
      · have : (digs n).length = 0 := by omega
        have hd0 : digs n = [] := List.eq_nil_of_length_eq_zero this
        have H := Lib.hid hd0
        clear hd0 this hb
        subst h8
        go_wp2_with (go_at_call 50; refine (Text_any _ _ _ (by simp)).mono ?_; rintro e w' ⟨rfl, hb2⟩)
        go_ret
        exact ⟨by rw [H.out]; rfl, hbel.trans (hb2.mono hbel.size)⟩
      · have hconv := run_b2s_tail (P := Tryz.prog) wr 43 9 5 w.heap.size j (8 - j) (8 - j) (.int .u8 0) (digs n) _ _ Tryz.underlying43 Tryz.underlying5 Tryz.underlying9 hb (by omega)
        clear hb
        go_wp2_with (go_at_call 50; refine (Text_any _ _ _ (by omega)).mono ?_; rintro e w' ⟨rfl, hb2⟩)
        go_ret
        exact ⟨rfl, hbel.trans (hb2.mono hbel.size)⟩
    · have hp : 0 < m := by omega
      obtain ⟨i, rfl⟩ : ∃ i, j = i + 1 := ⟨j - 1, by cases j <;> simp_all⟩
      have hc : wr.cell? ⟨w.heap.size, i, none⟩ = some (.int .u8 0) := cell_tail hb
      have hf : wr.frozen? ⟨w.heap.size, i, none⟩ = false := by
        unfold World.frozen?
        simp only [hb]
        simp
      have hi1 : (i : Int) < 8 := by omega
      have Hb := Lib.hid hb
      have Hd := Lib.hid hd
      have Hj := Lib.hid hj
      have Hm := Lib.hid hm
      clear hb hd hj hm
      go_wp2
      go_roundw
      case rel =>
        have e : (Value.int .u8 ((m : Int) % 256)) = .int .u8 ((UInt8.ofNat m).toNat : Nat) := by simp
        rw [e]
        exact ⟨m / 256, i, UInt8.ofNat m :: acc, rfl, rfl, by have := Hj.out; simp; omega, Nat.div_lt_of_lt_mul (by have := Hm.out; rw [Nat.pow_succ] at this; omega), by omega, by rw [← dgF_pos i m acc hp]; exact Hd.out, setCell_tail _ Hb.out, hbel.setCell (Nat.le_refl _) _⟩
      case measure => simp [intOf]; omega
end

end Go.Proofs.YtnpoohkklfpmdaaGreat
/- TlvB -/
namespace Go.Proofs.YtnpoohkklfpmdaaGreat
open Go.RowKit

theorem info5 : (Tryz.prog.info? 5).map (fun i => (i.zero, i.size, i.bytes)) = some (some (.int .u8 0), 1, 1) := by kernel_rfl

end Go.Proofs.YtnpoohkklfpmdaaGreat
/- TlvC -/
namespace Go.Proofs.YtnpoohkklfpmdaaGreat
open Go.RowKit

theorem conv4 (w : World) (a : Addr) (c : Nat) : (convert 43 9 (.slice (some a) 4 c)).run Tryz.prog w = match w.cell? a, w.cell? (a.add 1), w.cell? (a.add 2), w.cell? (a.add 3) with
      | some (.int .u8 x), some (.int .u8 y), some (.int .u8 z), some (.int .u8 u) => .ok (.string ⟨[UInt8.ofNat x.toNat, UInt8.ofNat y.toNat, UInt8.ofNat z.toNat, UInt8.ofNat u.toNat].toArray⟩) w
      | _, _, _, _ => (Conv.bytesToString (.slice (some a) 4 c)).run Tryz.prog w := run_b2s4 w _ _ _ a c Tryz.underlying43 Tryz.underlying5 Tryz.underlying9
section
attribute [local go_sem] conv1 app_list
set_option maxHeartbeats 400000 in
theorem refDigits_any (n : Nat) (w : World) (hn : n < 18446744073709551616) :
    Calls Tryz.prog 94 #[.int .u64 n] w fun e w' => e = .returned (.string ⟨(digs n).toArray⟩) ∧ Below w.heap.size w w' := by
  go_enter Tryz.func94, Tryz.ntmps94
  go_wp2
  go_loopw [0, 3] (fun v s wr => ∃ m j : Nat, ∃ acc : List UInt8, v = .int .u64 m ∧ s = .string ⟨acc.toArray⟩ ∧ m < 256 ^ j ∧ acc.length + j = 8 ∧ dgF j m acc = digs n ∧ m < 18446744073709551616 ∧ Below w.heap.size w wr) (fun v _ _ => (intOf v).toNat)
  case atStart => exact ⟨n, 8, [], rfl, rfl, hn, rfl, rfl, hn, Below.refl _ _⟩
  case round =>
    obtain ⟨m, j, acc, rfl, rfl, hm, hj, hd, hm2, hbel⟩ := hrel
    have hal : acc.length ≤ 8 := by omega
    have Hj := Lib.hid hj
    clear hj
    have Hm := Lib.hid hm
    have Hd := Lib.hid hd
    have hsz := hbel.size
    clear hm hd
    by_cases h0 : m = 0
    · subst h0
      go_wp2
      go_ret
      exact ⟨by rw [← Hd.out, dgF_zero]; rfl, hbel⟩
    · have hp : 0 < m := by omega
      go_wp2
      go_roundw
      case rel =>
        have := Hm.out
        match j, this, Hd, Hj with
        | 0, h, _, _ => exact absurd hp (by simpa using h)
        | i + 1, h, Hd, Hj => exact ⟨m / 256, i, UInt8.ofNat m :: acc, rfl, by rw [ofNat_mod], Nat.div_lt_of_lt_mul (by rw [Nat.pow_succ] at h; omega), by have := Hj.out; simp; omega, by rw [← dgF_pos i m acc hp]; exact Hd.out, by omega, hbel.alloc hsz _⟩
      case measure => simp [intOf]; omega
end
section
attribute [local go_sem] ext_list conv4
set_option maxHeartbeats 400000 in
theorem refText_any (c : UInt8) (l : List UInt8) (w : World) (hl : decide ((16777215 : Int) < (l.length : Int)) = false) :
    Calls Tryz.prog 77 #[.int .u8 c.toNat, .string ⟨l.toArray⟩] w fun e w' => e = .returned (.string ⟨(fld c l).toArray⟩) ∧ Below w.heap.size w w' := by
  have hn := List.take_length (l := l)
  have hl2 : (l.length : Int) < 16777216 := by simp at hl; omega
  go_enter Tryz.func77, Tryz.ntmps77
  go_wp2
  go_ret
  exact ⟨by rw [fld_eq4]; rfl, (Below.refl _ _).alloc (Nat.le_refl _) _⟩
end

theorem digs_len (n : Nat) : (digs n).length ≤ 8 := by
  have h : ∀ f m acc, (dgF f m acc).length ≤ acc.length + f := by
    intro f
    induction f with
    | zero => intro m acc; simp [dgF]
    | succ f ih =>
      intro m acc
      unfold dgF
      split
      · omega
      · have := ih (m / 256) (UInt8.ofNat m :: acc); simp at this; omega
  have := h 8 n []
  simpa [digs] using this

theorem refNum_any (c : UInt8) (n : Nat) (w : World) (hn : n < 18446744073709551616) :
    Calls Tryz.prog 78 #[.int .u8 c.toNat, .int .u64 n] w fun e w' => e = .returned (.string ⟨(fld c (digs n)).toArray⟩) ∧ Below w.heap.size w w' := by
  have Hn := Lib.hid hn
  clear hn
  have hb := digs_len n
  have Hd : Hid (decide ((16777215 : Int) < ((digs n).length : Int)) = false) := Lib.hid (by simp; omega)
  clear hb
  go_enter Tryz.func78, Tryz.ntmps78
  go_wp2_with (first | (go_at_call 94; refine (refDigits_any n _ Hn.out).mono ?_; rintro e w' ⟨rfl, hb1⟩) | (go_at_call 77; refine (refText_any _ _ _ Hd.out).mono ?_; rintro e w' ⟨rfl, hb2⟩))
  go_ret
  exact ⟨rfl, hb1.trans (hb2.mono hb1.size)⟩

section
attribute [local go_sem] app_list
end
end Go.Proofs.YtnpoohkklfpmdaaGreat
/- TlvD -/
namespace Go.Proofs.YtnpoohkklfpmdaaGreat
open Go.RowKit
theorem ret_int {k : IntKind} {a b : Int} (h : a = b) : Ending.returned (.int k a) = .returned (.int k b) := by rw [h]
theorem three (x y z : UInt8) : bits .or .i64 (wrap64 (bits .or .i64 (wrap64 (bits .or .i64 0 x.toNat * 256)) y.toNat * 256)) z.toNat = ((x.toNat * 65536 + y.toNat * 256 + z.toNat : Nat) : Int) := by
  have hx := x.toNat_lt
  have hy := y.toNat_lt
  have hz := z.toNat_lt
  have e1 : bits .or .i64 0 (x.toNat : Int) = x.toNat := by
    have := lor_i64 0 x.toNat (by omega) (by omega)
    simpa using this
  rw [e1]
  have w1 : wrap64 ((x.toNat : Int) * 256) = (x.toNat : Int) * 256 := by simp only [wrap64]; omega
  rw [w1, lor_i64 x.toNat y.toNat (by omega) (by omega)]
  have w2 : wrap64 (((x.toNat * 256 + y.toNat : Nat) : Int) * 256) = ((x.toNat * 256 + y.toNat : Nat) : Int) * 256 := by simp only [wrap64]; omega
  rw [w2, lor_i64 _ z.toNat (by omega) (by omega)]
  omega

set_option maxHeartbeats 400000 in
theorem lnumber_any (x y z : UInt8) (w : World) :
    Calls Tryz.prog 101 #[.agg #[.int .u8 x.toNat, .int .u8 y.toNat, .int .u8 z.toNat]] w fun e w' => e = .returned (.int .i64 (x.toNat * 65536 + y.toNat * 256 + z.toNat : Nat)) ∧ Below w.heap.size w w' := by
  have hx : (x.toNat : Int) < 256 := by have := x.toNat_lt; omega
  have hy : (y.toNat : Int) < 256 := by have := y.toNat_lt; omega
  have hz : (z.toNat : Int) < 256 := by have := z.toNat_lt; omega
  have i0 : ∀ w, (Instr.index 110 (.agg #[.int .u8 x.toNat, .int .u8 y.toNat, .int .u8 z.toNat]) (.int .i64 0)).run Tryz.prog w = .ok (.int .u8 x.toNat) w := fun _ => by kernel_rfl
  have i1 : ∀ w, (Instr.index 110 (.agg #[.int .u8 x.toNat, .int .u8 y.toNat, .int .u8 z.toNat]) (.int .i64 1)).run Tryz.prog w = .ok (.int .u8 y.toNat) w := fun _ => by kernel_rfl
  have i2 : ∀ w, (Instr.index 110 (.agg #[.int .u8 x.toNat, .int .u8 y.toNat, .int .u8 z.toNat]) (.int .i64 2)).run Tryz.prog w = .ok (.int .u8 z.toNat) w := fun _ => by kernel_rfl
  go_enter Tryz.func101, Tryz.ntmps101
  go_wp2
  go_rounds 4
  go_ret
  exact ⟨ret_int (three x y z), (Below.refl _ _).alloc (Nat.le_refl _) _⟩

theorem orstep (m : Nat) (x : UInt8) (hm : m < 72057594037927936) : bits .or .u64 (IntKind.u64.wrap ((m : Int) * 256)) (IntKind.u64.wrap (x.toNat : Int)) = ((m * 256 + x.toNat : Nat) : Int) := by
  have hx := x.toNat_lt
  have e1 : IntKind.u64.wrap ((m : Int) * 256) = (m : Int) * 256 := by simp only [IntKind.wrap_u64]; omega
  have e2 : IntKind.u64.wrap (x.toNat : Int) = (x.toNat : Int) := by simp only [IntKind.wrap_u64]; omega
  rw [e1, e2, lor_u64 m x.toNat hm (by omega)]
theorem int_eq {k : IntKind} {a b : Int} (h : a = b) : Value.int k a = .int k b := by rw [h]
theorem idx_list (l : List UInt8) (i : Nat) (h : i < (ByteArray.mk l.toArray).size) : (ByteArray.mk l.toArray)[i]'h = l[i]'h := rfl
section
attribute [local go_sem] idx_list
theorem number_none (l : List UInt8) (w : World) (h : nbr l = none) :
    Calls Tryz.prog 83 #[.string ⟨l.toArray⟩] w fun e w' => e = .returned (.tuple #[.int .u64 0, .bool false]) ∧ w = w' := by
  cases l with
  | nil => simp [nbr] at h
  | cons x r =>
    simp [nbr] at h
    by_cases h8 : 7 < r.length
    · have hd : decide ((8 : Int) < ((r.length : Int) + 1)) = true := by simp; omega
      clear h
      go_enter Tryz.func83, Tryz.ntmps83
      go_wp2
      go_ret2
      exact ⟨rfl, rfl⟩
    · obtain rfl : x = 0 := h (by omega)
      have hd : decide ((8 : Int) < ((r.length : Int) + 1)) = false := by simp; omega
      clear h
      go_enter Tryz.func83, Tryz.ntmps83
      go_wp2
      go_ret2
      exact ⟨rfl, rfl⟩

theorem tuple_int {k : IntKind} {a b : Int} {c : Value} (h : a = b) : Ending.returned (.tuple #[.int k a, c]) = .returned (.tuple #[.int k b, c]) := by rw [h]
set_option maxHeartbeats 400000 in
theorem number_some (l : List UInt8) (n : Nat) (w : World) (h : nbr l = some n) :
    Calls Tryz.prog 83 #[.string ⟨l.toArray⟩] w fun e w' => e = .returned (.tuple #[.int .u64 n, .bool true]) ∧ w = w' := by
  cases l with
  | nil =>
    obtain rfl : 0 = n := by simpa [nbr] using h
    go_enter Tryz.func83, Tryz.ntmps83
    go_wp2
    go_rounds 1
    go_ret2
    exact ⟨rfl, rfl⟩
  | cons x r =>
    simp only [nbr] at h
    split at h
    · cases h
    · rename_i hc
      obtain rfl : be (x :: r) = n := by simpa using h
      have hr : r.length ≤ 7 := by omega
      have hx0 : x ≠ 0 := by intro e; exact hc (.inr e)
      have hx : ((x.toNat : Int) == 0) = false := by
        have : x.toNat ≠ 0 := fun e => hx0 (UInt8.toNat_inj.1 e)
        simp; omega
      have hd : decide ((8 : Int) < ((r.length : Int) + 1)) = false := by simp; omega
      have hlen : (x :: r).length = r.length + 1 := rfl
      clear h hc hx0
      have Hl := Lib.hid hlen
      clear hlen
      go_enter Tryz.func83, Tryz.ntmps83
      go_wp2
      go_loop [4, 5, 21] (fun v _ i => ∃ k : Nat, k ≤ r.length + 1 ∧ i = .int .i64 k ∧ v = .int .u64 (be ((x :: r).take k) : Nat)) (fun _ _ i => r.length + 1 - (intOf i).toNat)
      case atStart => exact ⟨0, Nat.zero_le _, rfl, rfl⟩
      case round =>
        obtain ⟨k, hk, rfl, rfl⟩ := hrel
        have hb := be_lt ((x :: r).take k)
        have hl2 : ((x :: r).take k).length ≤ k := List.length_take_le _ _
        by_cases hlt : k < r.length + 1
        · have hkl : k < (x :: r).length := by simpa using hlt
          have hs := be_take_succ (x :: r) k _ (List.getElem?_eq_getElem hkl)
          have hp : be ((x :: r).take k) < 72057594037927936 := Nat.lt_of_lt_of_le hb (Nat.le_trans (Nat.pow_le_pow_right (by omega) (Nat.le_trans hl2 (by omega : k ≤ 7))) (by decide))
          generalize hm : be ((x :: r).take k) = m at *
          have Hs := Lib.hid hs
          have Hp := Lib.hid hp
          clear hs hb hl2 hm hp
          go_wp2
          go_round
          case rel => exact ⟨k + 1, by omega, by go_num, int_eq (by rw [Hs.out]; exact orstep m _ Hp.out)⟩
          case measure => simp [intOf]; omega
        · have e : (x :: r).take k = x :: r := List.take_of_length_le (by simp; omega)
          rw [e]
          clear e hb hl2
          generalize hm : be (x :: r) = m at *
          go_wp2
          go_ret2
          exact ⟨rfl, rfl⟩
end
end Go.Proofs.YtnpoohkklfpmdaaGreat
/- TlvE -/
namespace Go.Proofs.YtnpoohkklfpmdaaGreat
open Go.RowKit
/-- What 'cut' tells: the body of a field of that letter, and what stands behind it. -/
def tkF (c : UInt8) : List UInt8 → Option (List UInt8 × List UInt8)
  | x :: a :: b :: d :: r => if x = c ∧ a.toNat * 65536 + b.toNat * 256 + d.toNat ≤ r.length then some (r.take (a.toNat * 65536 + b.toNat * 256 + d.toNat), r.drop (a.toNat * 65536 + b.toNat * 256 + d.toNat)) else none
  | _ => none
def str (l : List UInt8) : Value := .string ⟨l.toArray⟩
theorem setRow_new (w : World) (cs ds : Array Value) (t : TypeId) : (w.alloc (.cells cs t)).setRow w.heap.size ds = w.alloc (.cells ds t) := by
  have hm : ∀ (a : Array Obj) (x : Obj) (f : Obj → Obj), (a.push x).modify a.size f = a.push (f x) := by
    intro a x f
    apply Array.ext
    · simp
    · intro i h1 h2
      simp only [Array.getElem_modify, Array.getElem_push]
      by_cases h : a.size = i
      · subst h; simp
      · have hi : i < a.size := by simp at h1; omega
        simp [h, hi]
  unfold World.setRow
  show ({ w with heap := (w.heap.push (.cells cs t)).modify w.heap.size _ } : World) = _
  rw [hm]
  rfl
theorem copy3 (w : World) (x y z : Value) (t : TypeId) (a b d : UInt8) : (Builtin.copy_ #[43, 9] 3 #[.slice (some ⟨w.heap.size, 0, none⟩) 3 3, .string ⟨#[a, b, d]⟩]).run Tryz.prog (w.alloc (.cells #[x, y, z] t)).drew =
    .ok (.int .i64 3) (w.alloc (.cells #[.int .u8 a.toNat, .int .u8 b.toNat, .int .u8 d.toNat] t)).drew := by
  obtain ⟨i0, hi, hz0, hz1, hz2⟩ := info_parts info5
  have hs := run_storeCells_at Tryz.prog w.heap.size 0 t [.int .u8 a.toNat, .int .u8 b.toNat, .int .u8 d.toNat] 0 #[x, y, z] (w.alloc (.cells #[x, y, z] t)).drew (heap_alloc_new w _) (by simp) (by simp [Value.oneCell'])
  have hf := Lib.run_firstCells_string (P := Tryz.prog) (w.alloc (.cells #[x, y, z] t)).drew 1 ⟨#[a, b, d]⟩
  have e : ((w.alloc (.cells #[x, y, z] t)).drew).setRow w.heap.size #[.int .u8 a.toNat, .int .u8 b.toNat, .int .u8 d.toNat] = (w.alloc (.cells #[.int .u8 a.toNat, .int .u8 b.toNat, .int .u8 d.toNat] t)).drew := by
    rw [← setRow_new w #[x, y, z] #[.int .u8 a.toNat, .int .u8 b.toNat, .int .u8 d.toNat] t]
    rfl
  have hf' : (Builtin.firstCells 1 3 (.string ⟨#[a, b, d]⟩)).run Tryz.prog (w.alloc (.cells #[x, y, z] t)).drew = .ok #[.int .u8 a.toNat, .int .u8 b.toNat, .int .u8 d.toNat] (w.alloc (.cells #[x, y, z] t)).drew := hf
  have hs' : (storeCells ⟨w.heap.size, 0, none⟩ [.int .u8 a.toNat, .int .u8 b.toNat, .int .u8 d.toNat] 0).run Tryz.prog (w.alloc (.cells #[x, y, z] t)).drew = .ok () (w.alloc (.cells #[.int .u8 a.toNat, .int .u8 b.toNat, .int .u8 d.toNat] t)).drew := hs.trans (by rw [← e]; rfl)
  have e3 : (ByteArray.mk #[a, b, d]).size = 3 := rfl
  simp [Builtin.copy_, run_underlying Tryz.underlying43, sizeOf, typeInfo, hi, hz1, Builtin.lenOf, e3, hf', hs', goInt]
section
attribute [local go_sem] idx_list ext_list copy3
theorem cut_short (c : UInt8) (l : List UInt8) (w : World) (h : l.length < 4) :
    Calls Tryz.prog 95 #[.int .u8 c.toNat, .string ⟨l.toArray⟩] w fun e w' => e = .returned (.tuple #[.string ⟨#[]⟩, .string ⟨#[]⟩, .bool false]) ∧ Below w.heap.size w w' := by
  have h1 : decide ((l.length : Int) < 4) = true := by simp; omega
  go_enter Tryz.func95, Tryz.ntmps95
  go_wp2
  go_ret3
  exact ⟨rfl, (Below.refl _ _).alloc (Nat.le_refl _) _⟩
theorem cut_other (c x a b d : UInt8) (r : List UInt8) (w : World) (h : x ≠ c) :
    Calls Tryz.prog 95 #[.int .u8 c.toNat, .string ⟨(x :: a :: b :: d :: r).toArray⟩] w fun e w' => e = .returned (.tuple #[.string ⟨#[]⟩, .string ⟨#[]⟩, .bool false]) ∧ Below w.heap.size w w' := by
  have h1 : ((x.toNat : Int) == (c.toNat : Int)) = false := by
    have : x.toNat ≠ c.toNat := fun e => h (UInt8.toNat_inj.1 e)
    simp; omega
  have h2 : ((x.toNat : Int) != (c.toNat : Int)) = true := by rw [bne, h1]; rfl
  clear h
  go_enter Tryz.func95, Tryz.ntmps95
  go_wp2
  go_ret3
  exact ⟨rfl, (Below.refl _ _).alloc (Nat.le_refl _) _⟩
set_option maxHeartbeats 400000 in
theorem cut_long (c a b d : UInt8) (r : List UInt8) (w : World) (h : r.length < a.toNat * 65536 + b.toNat * 256 + d.toNat) :
    Calls Tryz.prog 95 #[.int .u8 c.toNat, .string ⟨(c :: a :: b :: d :: r).toArray⟩] w fun e w' => e = .returned (.tuple #[.string ⟨#[]⟩, .string ⟨#[]⟩, .bool false]) ∧ Below w.heap.size w w' := by
  go_enter Tryz.func95, Tryz.ntmps95
  go_wp2
  go_region
  have hn : decide ((r.length : Int) < ((a.toNat * 65536 + b.toNat * 256 + d.toNat : Nat) : Int)) = true := by simp; omega
  go_wp2_with (go_at_call 101; refine (lnumber_any a b d _).mono ?_; rintro e w' ⟨rfl, hb⟩)
  go_ret3
  exact ⟨rfl, ((Below.refl _ _).alloc (Nat.le_refl _) _).drew.trans (hb.mono (by simp))⟩
set_option maxHeartbeats 400000 in
theorem cut_ok (c a b d : UInt8) (r : List UInt8) (w : World) (h : a.toNat * 65536 + b.toNat * 256 + d.toNat ≤ r.length) :
    Calls Tryz.prog 95 #[.int .u8 c.toNat, .string ⟨(c :: a :: b :: d :: r).toArray⟩] w fun e w' =>
      e = .returned (.tuple #[.string ⟨(r.take (a.toNat * 65536 + b.toNat * 256 + d.toNat)).toArray⟩, .string ⟨(r.drop (a.toNat * 65536 + b.toNat * 256 + d.toNat)).toArray⟩, .bool true]) ∧ Below w.heap.size w w' := by
  have hn : decide ((r.length : Int) < ((a.toNat * 65536 + b.toNat * 256 + d.toNat : Nat) : Int)) = false := by simp; omega
  have hle : ((a.toNat * 65536 + b.toNat * 256 + d.toNat : Nat) : Int) ≤ (r.length : Int) := by omega
  generalize hm : a.toNat * 65536 + b.toNat * 256 + d.toNat = m at *
  have Hm := Lib.hid hm
  clear hm
  go_enter Tryz.func95, Tryz.ntmps95
  go_wp2
  go_region
  go_wp2_with (go_at_call 101; refine (lnumber_any a b d _).mono ?_; rw [Hm.out]; rintro e w' ⟨rfl, hb⟩)
  go_region
  go_wp2
  go_ret3
  refine ⟨?_, ((((Below.refl _ _).alloc (Nat.le_refl _) _).drew.trans (hb.mono (by simp)))).drew⟩
  simp
end
theorem cut_any (c : UInt8) (l : List UInt8) (w : World) :
    Calls Tryz.prog 95 #[.int .u8 c.toNat, .string ⟨l.toArray⟩] w fun e w' =>
      (∀ p, tkF c l = some p → e = .returned (.tuple #[.string ⟨p.1.toArray⟩, .string ⟨p.2.toArray⟩, .bool true])) ∧ (tkF c l = none → e = .returned (.tuple #[.string ⟨#[]⟩, .string ⟨#[]⟩, .bool false])) ∧ Below w.heap.size w w' := by
  match l with
  | [] => exact (cut_short c _ w (by simp)).mono fun e w' h => ⟨fun p hp => by simp [tkF] at hp, fun _ => h.1, h.2⟩
  | [_] => exact (cut_short c _ w (by simp)).mono fun e w' h => ⟨fun p hp => by simp [tkF] at hp, fun _ => h.1, h.2⟩
  | [_, _] => exact (cut_short c _ w (by simp)).mono fun e w' h => ⟨fun p hp => by simp [tkF] at hp, fun _ => h.1, h.2⟩
  | [_, _, _] => exact (cut_short c _ w (by simp)).mono fun e w' h => ⟨fun p hp => by simp [tkF] at hp, fun _ => h.1, h.2⟩
  | x :: a :: b :: d :: r =>
    by_cases hx : x = c
    · subst hx
      by_cases hm : a.toNat * 65536 + b.toNat * 256 + d.toNat ≤ r.length
      · exact (cut_ok x a b d r w hm).mono fun e w' h => ⟨fun p hp => by simp [tkF, hm] at hp; subst hp; exact h.1, fun hn => by simp [tkF, hm] at hn, h.2⟩
      · exact (cut_long x a b d r w (by omega)).mono fun e w' h => ⟨fun p hp => by simp [tkF, hm] at hp, fun _ => h.1, h.2⟩
    · exact (cut_other c x a b d r w hx).mono fun e w' h => ⟨fun p hp => by simp [tkF, hx] at hp, fun _ => h.1, h.2⟩
end Go.Proofs.YtnpoohkklfpmdaaGreat
/- TlvF -/
namespace Go.Proofs.YtnpoohkklfpmdaaGreat
open Go.RowKit
/-- A reader in block b: what is left; none: it is bad. -/
def Rd (w : World) (b : Nat) (st : Option (List UInt8)) : Prop := w.heap[b]? = some (.cells #[.string ⟨(st.getD []).toArray⟩, .bool st.isNone] 115 (0, 0))
theorem Rd.cell0 {w : World} {b : Nat} {st : Option (List UInt8)} (h : Rd w b st) : w.cell? ⟨b, 0, none⟩ = some (.string ⟨(st.getD []).toArray⟩) := by
  unfold World.cell?; unfold Rd at h; simp only [h]; rfl
theorem Rd.cell1 {w : World} {b : Nat} {st : Option (List UInt8)} (h : Rd w b st) : w.cell? ⟨b, 1, none⟩ = some (.bool st.isNone) := by
  unfold World.cell?; unfold Rd at h; simp only [h]; rfl
theorem Rd.frozen {w : World} {b : Nat} {st : Option (List UInt8)} (h : Rd w b st) (i : Nat) : w.frozen? ⟨b, i, none⟩ = false := by
  unfold World.frozen?; unfold Rd at h; simp [h]
theorem Rd.lt {w : World} {b : Nat} {st : Option (List UInt8)} (h : Rd w b st) : b < w.heap.size := by
  rcases Nat.lt_or_ge b w.heap.size with hlt | hge
  · exact hlt
  · unfold Rd at h; rw [Array.getElem?_eq_none hge] at h; cases h
theorem Rd.keep {w w' : World} {b : Nat} {st : Option (List UInt8)} (h : Rd w b st) (hb : w'.heap[b]? = w.heap[b]?) : Rd w' b st := hb.trans h
theorem Rd.fr {ex : List Nat} {w w' : World} {b : Nat} {st : Option (List UInt8)} (h : Rd w b st) (hf : Fr ex w w') (hn : b ∉ ex) : Rd w' b st := h.keep (hf.block b h.lt hn)
theorem Rd.below {w w' : World} {b : Nat} {st : Option (List UInt8)} (h : Rd w b st) (hf : Below w.heap.size w w') : Rd w' b st := h.keep (hf.block b h.lt)
theorem heap_set {w : World} {b i : Nat} {cs : Array Value} {t : TypeId} {fr : Nat × Nat} (h : w.heap[b]? = some (.cells cs t fr)) (v : Value) : (w.setCell ⟨b, i, none⟩ v).heap[b]? = some (.cells (cs.setIfInBounds i v) t fr) := by
  simp [World.setCell, Array.getElem?_modify, h]
theorem Rd.bad {w : World} {b : Nat} {st : Option (List UInt8)} (h : Rd w b st) : Rd ((w.setCell ⟨b, 0, none⟩ (.string ⟨#[]⟩)).setCell ⟨b, 1, none⟩ (.bool true)) b none := by
  unfold Rd at h ⊢
  rw [heap_set (heap_set h _) _]
  rfl
theorem Rd.on {w : World} {b : Nat} {l : List UInt8} (h : Rd w b (some l)) (l' : List UInt8) : Rd (w.setCell ⟨b, 0, none⟩ (.string ⟨l'.toArray⟩)) b (some l') := by
  unfold Rd at h ⊢
  rw [heap_set h _]
  rfl

set_option maxHeartbeats 400000 in
theorem take_none (c : UInt8) (st : Option (List UInt8)) (b : Nat) (fv : Value) (w : World) (hrd : Rd w b st) (h : tkF c (st.getD []) = none) :
    Calls Tryz.prog 80 #[.pointer (some ⟨b, 0, none⟩), .int .u8 c.toNat, fv] w fun e w' => e = .returned (.bool false) ∧ Rd w' b none ∧ Fr [b] w w' := by
  have H := Lib.hid h
  have hc0 := hrd.cell0
  clear h
  have hlt : b < w.heap.size := hrd.lt
  go_enter Tryz.func80, Tryz.ntmps80
  go_wp2_with (go_at_call 95; refine (cut_any c _ _).mono ?_; rintro e w' ⟨_, h2, hb⟩; obtain rfl := h2 H.out; have hr2 := hrd.below hb; have d0 := hr2.cell0; have d1 := hr2.cell1; have f0 := hr2.frozen 0; have f1 := hr2.frozen 1; clear h2)
  go_ret
  exact ⟨rfl, hr2.bad, ((Fr.of_below hb).setCell (.inl (by simp)) _).setCell (.inl (by simp)) _⟩
set_option maxHeartbeats 400000 in
theorem take_some (c : UInt8) (l : List UInt8) (b k : Nat) (cap : Array Value) (body rest : List UInt8) (ex : List Nat) (w : World) (hrd : Rd w b (some l)) (h : tkF c l = some (body, rest)) (ok : Bool) (R : World → Prop) (hex : b ∉ ex)
    (hcl : ∀ W, Below w.heap.size w W → Calls Tryz.prog k (#[.string ⟨body.toArray⟩] ++ cap) W fun e W' => e = .returned (.bool ok) ∧ Fr ex W W' ∧ R W') (hst : ∀ W i v, R W → R (W.setCell ⟨b, i, none⟩ v))
    (hk : ∀ W, (callFunc k (#[.string ⟨body.toArray⟩] ++ cap)).run Tryz.prog W = .ok (.enter k (#[.string ⟨body.toArray⟩] ++ cap)) W) :
    Calls Tryz.prog 80 #[.pointer (some ⟨b, 0, none⟩), .int .u8 c.toNat, .func (.func k) #[] cap] w fun e w' => e = .returned (.bool ok) ∧ Rd w' b (if ok then some rest else none) ∧ R w' ∧ Fr (b :: ex) w w' := by
  have H := Lib.hid h
  have hc0 : w.cell? ⟨b, 0, none⟩ = some (.string ⟨l.toArray⟩) := hrd.cell0
  clear h
  have hlt : b < w.heap.size := hrd.lt
  have Hcl := Lib.hid hcl
  have Hst := Lib.hid hst
  clear hcl hst
  cases ok
  · go_enter Tryz.func80, Tryz.ntmps80
    go_wp2_with (first | (go_at_call 95; refine (cut_any c _ _).mono ?_; rintro e w' ⟨h1, _, hb⟩; obtain rfl := h1 _ H.out; clear h1) | (refine (Hcl.out _ (by assumption)).mono ?_; rintro e2 w2 ⟨rfl, hfr, hR⟩; have hr2 := (hrd.below (by assumption)).fr hfr hex; have d0 := hr2.cell0; have d1 := hr2.cell1; have f0 := hr2.frozen 0; have f1 := hr2.frozen 1))
    go_ret
    exact ⟨rfl, hr2.bad, Hst.out _ _ _ (Hst.out _ _ _ hR), (((Fr.of_below hb).trans (hfr.more (by simp_all))).setCell (.inl (by simp)) _).setCell (.inl (by simp)) _⟩
  · go_enter Tryz.func80, Tryz.ntmps80
    go_wp2_with (first | (go_at_call 95; refine (cut_any c _ _).mono ?_; rintro e w' ⟨h1, _, hb⟩; obtain rfl := h1 _ H.out; clear h1) | (refine (Hcl.out _ (by assumption)).mono ?_; rintro e2 w2 ⟨rfl, hfr, hR⟩; have hr2 := (hrd.below (by assumption)).fr hfr hex; have d0 := hr2.cell0; have f0 := hr2.frozen 0))
    go_ret
    exact ⟨rfl, hr2.on _, Hst.out _ _ _ hR, ((Fr.of_below hb).trans (hfr.more (by simp_all))).setCell (.inl (by simp)) _⟩
end Go.Proofs.YtnpoohkklfpmdaaGreat
/- TlvG -/
namespace Go.Proofs.YtnpoohkklfpmdaaGreat
open Go.RowKit

/-- A block of one cell. -/
def Cl (w : World) (g t : Nat) (v : Value) : Prop := w.heap[g]? = some (.cells #[v] t (0, 0))
theorem Cl.cell {w : World} {g t : Nat} {v : Value} (h : Cl w g t v) : w.cell? ⟨g, 0, none⟩ = some v := by
  unfold World.cell?; unfold Cl at h; simp only [h]; rfl
theorem Cl.frozen {w : World} {g t : Nat} {v : Value} (h : Cl w g t v) : w.frozen? ⟨g, 0, none⟩ = false := by
  unfold World.frozen?; unfold Cl at h; simp [h]
theorem Cl.set_ {w : World} {g t : Nat} {v : Value} (h : Cl w g t v) (u : Value) : Cl (w.setCell ⟨g, 0, none⟩ u) g t u := by
  unfold Cl at h ⊢; rw [heap_set h _]; rfl
theorem Cl.far {w : World} {g t : Nat} {v : Value} (h : Cl w g t v) {p : Addr} (hp : g ≠ p.block) (u : Value) : Cl (w.setCell p u) g t v := (Below.heap_setCell w p u g hp).trans h
theorem Cl.lt {w : World} {g t : Nat} {v : Value} (h : Cl w g t v) : g < w.heap.size := by
  rcases Nat.lt_or_ge g w.heap.size with hlt | hge
  · exact hlt
  · unfold Cl at h; rw [Array.getElem?_eq_none hge] at h; cases h
theorem Cl.fr {ex : List Nat} {w w' : World} {g t : Nat} {v : Value} (h : Cl w g t v) (hf : Fr ex w w') (hn : g ∉ ex) : Cl w' g t v := (hf.block g h.lt hn).trans h
theorem Cl.below {w w' : World} {g t : Nat} {v : Value} (h : Cl w g t v) (hf : Below w.heap.size w w') : Cl w' g t v := (hf.block g h.lt).trans h
theorem Cl.new (w : World) (t : Nat) (v : Value) : Cl (w.alloc (.cells #[v] t)) w.heap.size t v := heap_alloc_new w _

def rdNum (c : UInt8) (l : List UInt8) : Nat × Option (List UInt8) :=
  match tkF c l with
  | none => (0, none)
  | some (body, rest) => match nbr body with
    | none => (0, none)
    | some n => (n, some rest)

theorem num1 (body : List UInt8) (g : Nat) (v : Value) (w : World) (hg : Cl w g 84 v) :
    Calls Tryz.prog 82 #[.string ⟨body.toArray⟩, .pointer (some ⟨g, 0, none⟩)] w fun e w' => e = .returned (.bool (nbr body).isSome) ∧ Fr [g] w w' ∧ Cl w' g 84 (.int .u64 ((nbr body).getD 0 : Nat)) := by
  have hc := hg.cell
  have hf := hg.frozen
  cases hn : nbr body with
  | none =>
    have H := Lib.hid hn
    clear hn
    go_enter Tryz.func82, Tryz.ntmps82
    go_wp2_with (go_at_call 83; refine (number_none body _ H.out).mono ?_; rintro e w' ⟨rfl, rfl⟩)
    go_ret
    exact ⟨rfl, (Fr.refl _ _).setCell (.inl (by simp)) _, hg.set_ _⟩
  | some n =>
    have H := Lib.hid hn
    clear hn
    go_enter Tryz.func82, Tryz.ntmps82
    go_wp2_with (go_at_call 83; refine (number_some body n _ H.out).mono ?_; rintro e w' ⟨rfl, rfl⟩)
    go_ret
    exact ⟨rfl, (Fr.refl _ _).setCell (.inl (by simp)) _, hg.set_ _⟩

theorem call43 (args : Array Value) (W : World) : (callFunc 82 args).run Tryz.prog W = .ok (.enter 82 args) W := by kernel_rfl
theorem tkF_nil (c : UInt8) : tkF c [] = none := rfl
theorem rdNum_any (c : UInt8) (st : Option (List UInt8)) (b : Nat) (w : World) (hrd : Rd w b st) :
    Calls Tryz.prog 66 #[.pointer (some ⟨b, 0, none⟩), .int .u8 c.toNat] w fun e w' => e = .returned (.int .u64 (rdNum c (st.getD [])).1) ∧ Rd w' b (rdNum c (st.getD [])).2 ∧ Fr [b] w w' := by
  have hlt := hrd.lt
  have hne : b ≠ w.heap.size := by omega
  cases ht : tkF c (st.getD []) with
  | none =>
    have e : rdNum c (st.getD []) = (0, none) := by simp [rdNum, ht]
    rw [e]
    have H := Lib.hid ht
    clear ht e
    go_enter Tryz.func66, Tryz.ntmps66
    go_wp2_with (go_at_call 80; refine (take_none c st b _ _ (hrd.below ((Below.refl _ _).alloc (Nat.le_refl _) _)) H.out).mono ?_; rintro e w' ⟨rfl, hr2, hfr⟩; have d0 := ((Cl.new w _ _).fr hfr (by simp; omega)).cell)
    go_ret
    exact ⟨rfl, hr2, ((Fr.refl _ _).alloc _).trans (hfr.more (by simp))⟩
  | some p =>
    obtain ⟨body, rest⟩ := p
    obtain ⟨l, rfl⟩ : ∃ l, st = some l := by
      cases st with
      | none => simp [tkF_nil] at ht
      | some l => exact ⟨l, rfl⟩
    have e : rdNum c ((some l).getD []) = ((nbr body).getD 0, if (nbr body).isSome then some rest else none) := by
      simp only [rdNum, ht]; cases nbr body <;> rfl
    rw [e]
    have H : Hid (tkF c l = some (body, rest)) := Lib.hid ht
    clear ht e
    generalize hok : (nbr body).isSome = ok
    have Hok := Lib.hid hok
    generalize hv : (nbr body).getD 0 = v
    have Hv := Lib.hid hv
    clear hok hv
    generalize hs2 : (if ok then some rest else none) = st2
    have Hs2 := Lib.hid hs2
    clear hs2
    go_enter Tryz.func66, Tryz.ntmps66
    go_wp2_with (go_at_call 80; refine (take_some c l b 82 #[.pointer (some ⟨w.heap.size, 0, none⟩)] body rest [w.heap.size] _ (hrd.below ((Below.refl _ _).alloc (Nat.le_refl _) _)) H.out ok (fun W => Cl W w.heap.size 84 (.int .u64 (v : Nat))) (by simp; omega) (fun W hW => (num1 body w.heap.size _ W ((Cl.new w _ _).below hW)).mono fun e W' h => by rw [Hok.out, Hv.out] at h; exact h) (fun W i u hW => hW.far (by simp; omega) u) (call43 _)).mono ?_; rw [Hs2.out]; rintro e w' ⟨rfl, hr2, hR, hfr⟩; have d0 := hR.cell)
    go_ret
    exact ⟨rfl, hr2, (((Fr.refl _ _).alloc _).trans hfr).drop (by simp)⟩
end Go.Proofs.YtnpoohkklfpmdaaGreat
/- TlvH -/
namespace Go.Proofs.YtnpoohkklfpmdaaGreat
open Go.RowKit
theorem Cl.new1 (w : World) (o : Obj) (t : Nat) (v : Value) : Cl ((w.alloc o).alloc (.cells #[v] t)) (w.heap.size + 1) t v := by simpa using Cl.new (w.alloc o) t v
theorem Cl.new2 (w : World) (o o' : Obj) (t : Nat) (v : Value) : Cl (((w.alloc o).alloc o').alloc (.cells #[v] t)) (w.heap.size + 2) t v := by simpa using Cl.new1 (w.alloc o) o' t v
theorem Cl.new3 (w : World) (o o' o2 : Obj) (t : Nat) (v : Value) : Cl ((((w.alloc o).alloc o').alloc o2).alloc (.cells #[v] t)) (w.heap.size + 3) t v := by simpa using Cl.new2 (w.alloc o) o' o2 t v
def intOk (body : List UInt8) (most : Int) : Bool × Nat :=
  match nbr body with
  | none => (false, 0)
  | some n => if 0 ≤ most ∧ (n : Int) ≤ most then (true, n) else (false, 0)
def rdInt (c : UInt8) (most : Int) (l : List UInt8) : Nat × Option (List UInt8) :=
  match tkF c l with
  | none => (0, none)
  | some (body, rest) => ((intOk body most).2, if (intOk body most).1 then some rest else none)
theorem nbr_lt {l : List UInt8} {n : Nat} (h : nbr l = some n) : n < 18446744073709551616 := by
  cases l with
  | nil => simp [nbr] at h; omega
  | cons x r =>
    simp only [nbr] at h
    split at h
    · cases h
    · rename_i hc
      obtain rfl : be (x :: r) = n := by simpa using h
      have := be_lt (x :: r)
      refine Nat.lt_of_lt_of_le this ?_
      have h8 : (x :: r).length ≤ 8 := by simp; omega
      exact Nat.le_trans (Nat.pow_le_pow_right (by omega) h8) (by decide)
def txtOk (body : List UInt8) (most : Int) : Bool := decide ((body.length : Int) ≤ most)
def rdTxt (c : UInt8) (most : Int) (l : List UInt8) : List UInt8 × Option (List UInt8) :=
  match tkF c l with
  | none => ([], none)
  | some (body, rest) => if txtOk body most then (body, some rest) else ([], none)
theorem txt1 (body : List UInt8) (g1 g2 : Nat) (most : Int) (w : World) (h1 : Cl w g1 3 (.int .i64 most)) (h2 : Cl w g2 9 (.string ⟨#[]⟩)) :
    Calls Tryz.prog 81 #[.string ⟨body.toArray⟩, .pointer (some ⟨g1, 0, none⟩), .pointer (some ⟨g2, 0, none⟩)] w fun e w' => e = .returned (.bool (txtOk body most)) ∧ Fr [g2] w w' ∧ Cl w' g2 9 (.string ⟨(if txtOk body most then body else []).toArray⟩) := by
  have hc := h1.cell
  have hc2 := h2.cell
  have hf := h2.frozen
  by_cases h : (body.length : Int) ≤ most
  · have e : txtOk body most = true := by simp [txtOk, h]
    rw [e]
    have hd : decide (most < (body.length : Int)) = false := by simp; omega
    clear e h
    go_enter Tryz.func81, Tryz.ntmps81
    go_wp2
    go_ret
    exact ⟨rfl, (Fr.refl _ _).setCell (.inl (by simp)) _, h2.set_ _⟩
  · have e : txtOk body most = false := by simp [txtOk, h]
    rw [e]
    have hd : decide (most < (body.length : Int)) = true := by simp; omega
    clear e h
    go_enter Tryz.func81, Tryz.ntmps81
    go_wp2
    go_ret
    exact ⟨rfl, Fr.refl _ _, h2⟩

theorem call46 (args : Array Value) (W : World) : (callFunc 81 args).run Tryz.prog W = .ok (.enter 81 args) W := by kernel_rfl
theorem rdTxt_any (c : UInt8) (most : Int) (st : Option (List UInt8)) (b : Nat) (w : World) (hrd : Rd w b st) :
    Calls Tryz.prog 64 #[.pointer (some ⟨b, 0, none⟩), .int .u8 c.toNat, .int .i64 most] w fun e w' => e = .returned (.string ⟨(rdTxt c most (st.getD [])).1.toArray⟩) ∧ Rd w' b (rdTxt c most (st.getD [])).2 ∧ Fr [b] w w' := by
  have hlt := hrd.lt
  cases ht : tkF c (st.getD []) with
  | none =>
    have e : rdTxt c most (st.getD []) = ([], none) := by simp [rdTxt, ht]
    rw [e]
    have H := Lib.hid ht
    clear ht e
    go_enter Tryz.func64, Tryz.ntmps64
    go_wp2_with (go_at_call 80; refine (take_none c st b _ _ (hrd.below (((Below.refl _ _).alloc (Nat.le_refl _) _).alloc (by simp) _)) H.out).mono ?_; rintro e w' ⟨rfl, hr2, hfr⟩; have d0 := ((Cl.new1 w _ _ _).fr hfr (by simp; omega)).cell)
    go_ret
    exact ⟨rfl, hr2, (((Fr.refl _ _).alloc _).alloc _).trans (hfr.more (by simp))⟩
  | some p =>
    obtain ⟨body, rest⟩ := p
    obtain ⟨l, rfl⟩ : ∃ l, st = some l := by
      cases st with
      | none => simp [tkF_nil] at ht
      | some l => exact ⟨l, rfl⟩
    have e : rdTxt c most ((some l).getD []) = (if txtOk body most then body else [], if txtOk body most then some rest else none) := by
      simp only [rdTxt, ht]; cases txtOk body most <;> rfl
    rw [e]
    have H : Hid (tkF c l = some (body, rest)) := Lib.hid ht
    clear ht e
    generalize hok : txtOk body most = ok
    have Hok := Lib.hid hok
    clear hok
    generalize hv : (if ok then body else []) = v
    have Hv := Lib.hid hv
    clear hv
    generalize hs2 : (if ok then some rest else none) = st2
    have Hs2 := Lib.hid hs2
    clear hs2
    go_enter Tryz.func64, Tryz.ntmps64
    go_wp2_with (go_at_call 80; refine (take_some c l b 81 #[.pointer (some ⟨w.heap.size, 0, none⟩), .pointer (some ⟨w.heap.size + 1, 0, none⟩)] body rest [w.heap.size + 1] _ (hrd.below (((Below.refl _ _).alloc (Nat.le_refl _) _).alloc (by simp) _)) H.out ok (fun W => Cl W (w.heap.size + 1) 9 (.string ⟨v.toArray⟩)) (by simp; omega) (fun W hW => (txt1 body w.heap.size (w.heap.size + 1) most W (((Cl.new w 3 (.int .i64 most)).below ((Below.refl _ _).alloc (Nat.le_refl _) _)).below hW) ((Cl.new1 w _ _ _).below hW)).mono fun e W' h => by rw [Hok.out, Hv.out] at h; exact h) (fun W i u hW => hW.far (by simp; omega) u) (call46 _)).mono ?_; rw [Hs2.out]; rintro e w' ⟨rfl, hr2, hR, hfr⟩; have d0 := hR.cell)
    go_ret
    exact ⟨rfl, hr2, ((((Fr.refl _ _).alloc _).alloc _).trans hfr).drop (by simp)⟩
end Go.Proofs.YtnpoohkklfpmdaaGreat
/- TlvI -/
namespace Go.Proofs.YtnpoohkklfpmdaaGreat
open Go.RowKit
theorem Read_any (l : List UInt8) (w : World) :
    Calls Tryz.prog 63 #[.string ⟨l.toArray⟩] w fun e w' => ∃ b, e = .returned (.pointer (some ⟨b, 0, none⟩)) ∧ w.heap.size ≤ b ∧ Rd w' b (some l) ∧ Below w.heap.size w w' := by
  go_enter Tryz.func63, Tryz.ntmps63
  go_wp2
  go_ret
  exact ⟨_, rfl, Nat.le_refl _, heap_alloc_new w _, (Below.refl _ _).alloc (Nat.le_refl _) _⟩
theorem Left_any (st : Option (List UInt8)) (b : Nat) (w : World) (h : Rd w b st) :
    Calls Tryz.prog 65 #[.pointer (some ⟨b, 0, none⟩)] w fun e w' => e = .returned (.int .i64 (st.getD []).length) ∧ w = w' := by
  have hc := h.cell0
  go_enter Tryz.func65, Tryz.ntmps65
  go_wp2
  go_ret
  exact ⟨rfl, rfl⟩
theorem Good_any (st : Option (List UInt8)) (b : Nat) (w : World) (h : Rd w b st) :
    Calls Tryz.prog 67 #[.pointer (some ⟨b, 0, none⟩)] w fun e w' => e = .returned (.bool st.isSome) ∧ w = w' := by
  have hc := h.cell1
  cases st
  all_goals
    go_enter Tryz.func67, Tryz.ntmps67
    go_wp2
    go_ret
    exact ⟨rfl, rfl⟩
section
attribute [local go_sem] idx_list
end
def endOf (st : Option (List UInt8)) : Int := if st = some [] then 0 else 10
/-! Of no reader nothing comes. -/
theorem take_nil (c : UInt8) (fv : Value) (w : World) :
    Calls Tryz.prog 80 #[.pointer none, .int .u8 c.toNat, fv] w fun e w' => e = .returned (.bool false) ∧ w = w' := by
  go_enter Tryz.func80, Tryz.ntmps80
  go_wp2
  go_ret
  exact ⟨rfl, rfl⟩
theorem Num_nil (c : UInt8) (w : World) :
    Calls Tryz.prog 66 #[.pointer none, .int .u8 c.toNat] w fun e w' => e = .returned (.int .u64 0) ∧ Below w.heap.size w w' := by
  go_enter Tryz.func66, Tryz.ntmps66
  go_wp2_with (go_at_call 80; refine (take_nil c _ _).mono ?_; rintro e w' ⟨rfl, rfl⟩)
  go_ret
  exact ⟨rfl, (Below.refl _ _).alloc (Nat.le_refl _) _⟩
theorem Text_nil (c : UInt8) (most : Int) (w : World) :
    Calls Tryz.prog 64 #[.pointer none, .int .u8 c.toNat, .int .i64 most] w fun e w' => e = .returned (.string ⟨#[]⟩) ∧ Below w.heap.size w w' := by
  go_enter Tryz.func64, Tryz.ntmps64
  go_wp2_with (go_at_call 80; refine (take_nil c _ _).mono ?_; rintro e w' ⟨rfl, rfl⟩)
  go_ret
  exact ⟨rfl, ((Below.refl _ _).alloc (Nat.le_refl _) _).alloc (by simp) _⟩
theorem Left_nil (w : World) : Calls Tryz.prog 65 #[.pointer none] w fun e w' => e = .returned (.int .i64 0) ∧ w = w' := by
  go_enter Tryz.func65, Tryz.ntmps65
  go_wp2
  go_ret
  exact ⟨rfl, rfl⟩
theorem Good_nil (w : World) : Calls Tryz.prog 67 #[.pointer none] w fun e w' => e = .returned (.bool false) ∧ w = w' := by
  go_enter Tryz.func67, Tryz.ntmps67
  go_wp2
  go_ret
  exact ⟨rfl, rfl⟩
end Go.Proofs.YtnpoohkklfpmdaaGreat
