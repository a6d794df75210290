import Derived.Test.YtpopocfkeiplbaaRows
import Derived.Test.YtpopocfkeiplbaaTlvD
import Derived.ProofKit
import Derived.OpenShut
import Derived.ShutString
import Derived.ChangeOld
import Derived.Outline
import Derived.RegionTactic
import Derived.ChangeAlike
import Derived.BigRegion
import Derived.BigQuiet
import Derived.Deep.QuietTactic
import Derived.Deep.RegionWith
import Derived.Deep.RegionLaw
import Derived.Deep.AppendLies
import Derived.Deep.Draws
import Derived.Lib.Hide
import Derived.Lib.SmallJoins
import Derived.Handy
namespace Go.Proofs.Ytpopocfkeiplbaa
open Go.RowKit
/-- What 'cut' tells: the body of a field of that letter, and what stands behind it. -/
def tkF (c : UInt8) : List UInt8 → Option (List UInt8 × List UInt8)
  | x :: a :: b :: d :: r => if x = c ∧ a.toNat * 65536 + b.toNat * 256 + d.toNat ≤ r.length then some (r.take (a.toNat * 65536 + b.toNat * 256 + d.toNat), r.drop (a.toNat * 65536 + b.toNat * 256 + d.toNat)) else none
  | _ => none
def str (l : List UInt8) : Value := .string ⟨l.toArray⟩
theorem setRow_new (w : World) (cs ds : Array Value) (t : TypeId) : (w.alloc (.cells cs t)).setRow w.heap.size ds = w.alloc (.cells ds t) := by
  have hm : ∀ (a : Array Obj) (x : Obj) (f : Obj → Obj), (a.push x).modify a.size f = a.push (f x) := by
    intro a x f
    apply Array.ext
    · simp
    · intro i h1 h2
      simp only [Array.getElem_modify, Array.getElem_push]
      by_cases h : a.size = i
      · subst h; simp
      · have hi : i < a.size := by simp at h1; omega
        simp [h, hi]
  unfold World.setRow
  show ({ w with heap := (w.heap.push (.cells cs t)).modify w.heap.size _ } : World) = _
  rw [hm]
  rfl
theorem copy3 (w : World) (x y z : Value) (t : TypeId) (a b d : UInt8) : (Builtin.copy_ #[24, 9] 3 #[.slice (some ⟨w.heap.size, 0, none⟩) 3 3, .string ⟨#[a, b, d]⟩]).run Try.prog (w.alloc (.cells #[x, y, z] t)).drew =
    .ok (.int .i64 3) (w.alloc (.cells #[.int .u8 a.toNat, .int .u8 b.toNat, .int .u8 d.toNat] t)).drew := by
  obtain ⟨i0, hi, hz0, hz1, hz2⟩ := info_parts info5
  have hs := run_storeCells_at Try.prog w.heap.size 0 t [.int .u8 a.toNat, .int .u8 b.toNat, .int .u8 d.toNat] 0 #[x, y, z] (w.alloc (.cells #[x, y, z] t)).drew (heap_alloc_new w _) (by simp) (by simp [Value.oneCell'])
  have hf := Lib.run_firstCells_string (P := Try.prog) (w.alloc (.cells #[x, y, z] t)).drew 1 ⟨#[a, b, d]⟩
  have e : ((w.alloc (.cells #[x, y, z] t)).drew).setRow w.heap.size #[.int .u8 a.toNat, .int .u8 b.toNat, .int .u8 d.toNat] = (w.alloc (.cells #[.int .u8 a.toNat, .int .u8 b.toNat, .int .u8 d.toNat] t)).drew := by
    rw [← setRow_new w #[x, y, z] #[.int .u8 a.toNat, .int .u8 b.toNat, .int .u8 d.toNat] t]
    rfl
  have hf' : (Builtin.firstCells 1 3 (.string ⟨#[a, b, d]⟩)).run Try.prog (w.alloc (.cells #[x, y, z] t)).drew = .ok #[.int .u8 a.toNat, .int .u8 b.toNat, .int .u8 d.toNat] (w.alloc (.cells #[x, y, z] t)).drew := hf
  have hs' : (storeCells ⟨w.heap.size, 0, none⟩ [.int .u8 a.toNat, .int .u8 b.toNat, .int .u8 d.toNat] 0).run Try.prog (w.alloc (.cells #[x, y, z] t)).drew = .ok () (w.alloc (.cells #[.int .u8 a.toNat, .int .u8 b.toNat, .int .u8 d.toNat] t)).drew := hs.trans (by rw [← e]; rfl)
  have e3 : (ByteArray.mk #[a, b, d]).size = 3 := rfl
  simp [Builtin.copy_, run_underlying Try.underlying24, sizeOf, typeInfo, hi, hz1, Builtin.lenOf, e3, hf', hs', goInt]
section
attribute [local go_sem] idx_list ext_list copy3
theorem cut_short (c : UInt8) (l : List UInt8) (w : World) (h : l.length < 4) :
    Calls Try.prog 38 #[.int .u8 c.toNat, .string ⟨l.toArray⟩] w fun e w' => e = .returned (.tuple #[.string ⟨#[]⟩, .string ⟨#[]⟩, .bool false]) ∧ Below w.heap.size w w' := by
  have h1 : decide ((l.length : Int) < 4) = true := by simp; omega
  go_enter Try.func38, Try.ntmps38
  go_wp2
  go_ret3
  exact ⟨rfl, (Below.refl _ _).alloc (Nat.le_refl _) _⟩
theorem cut_other (c x a b d : UInt8) (r : List UInt8) (w : World) (h : x ≠ c) :
    Calls Try.prog 38 #[.int .u8 c.toNat, .string ⟨(x :: a :: b :: d :: r).toArray⟩] w fun e w' => e = .returned (.tuple #[.string ⟨#[]⟩, .string ⟨#[]⟩, .bool false]) ∧ Below w.heap.size w w' := by
  have h1 : ((x.toNat : Int) == (c.toNat : Int)) = false := by
    have : x.toNat ≠ c.toNat := fun e => h (UInt8.toNat_inj.1 e)
    simp; omega
  have h2 : ((x.toNat : Int) != (c.toNat : Int)) = true := by rw [bne, h1]; rfl
  clear h
  go_enter Try.func38, Try.ntmps38
  go_wp2
  go_ret3
  exact ⟨rfl, (Below.refl _ _).alloc (Nat.le_refl _) _⟩
set_option maxHeartbeats 400000 in
theorem cut_long (c a b d : UInt8) (r : List UInt8) (w : World) (h : r.length < a.toNat * 65536 + b.toNat * 256 + d.toNat) :
    Calls Try.prog 38 #[.int .u8 c.toNat, .string ⟨(c :: a :: b :: d :: r).toArray⟩] w fun e w' => e = .returned (.tuple #[.string ⟨#[]⟩, .string ⟨#[]⟩, .bool false]) ∧ Below w.heap.size w w' := by
  go_enter Try.func38, Try.ntmps38
  go_wp2
  go_region
  have hn : decide ((r.length : Int) < ((a.toNat * 65536 + b.toNat * 256 + d.toNat : Nat) : Int)) = true := by simp; omega
  go_wp2_with (go_at_call 39; refine (lnumber_any a b d _).mono ?_; rintro e w' ⟨rfl, hb⟩)
  go_ret3
  exact ⟨rfl, ((Below.refl _ _).alloc (Nat.le_refl _) _).drew.trans (hb.mono (by simp))⟩
set_option maxHeartbeats 400000 in
theorem cut_ok (c a b d : UInt8) (r : List UInt8) (w : World) (h : a.toNat * 65536 + b.toNat * 256 + d.toNat ≤ r.length) :
    Calls Try.prog 38 #[.int .u8 c.toNat, .string ⟨(c :: a :: b :: d :: r).toArray⟩] w fun e w' =>
      e = .returned (.tuple #[.string ⟨(r.take (a.toNat * 65536 + b.toNat * 256 + d.toNat)).toArray⟩, .string ⟨(r.drop (a.toNat * 65536 + b.toNat * 256 + d.toNat)).toArray⟩, .bool true]) ∧ Below w.heap.size w w' := by
  have hn : decide ((r.length : Int) < ((a.toNat * 65536 + b.toNat * 256 + d.toNat : Nat) : Int)) = false := by simp; omega
  have hle : ((a.toNat * 65536 + b.toNat * 256 + d.toNat : Nat) : Int) ≤ (r.length : Int) := by omega
  generalize hm : a.toNat * 65536 + b.toNat * 256 + d.toNat = m at *
  have Hm := Lib.hid hm
  clear hm
  go_enter Try.func38, Try.ntmps38
  go_wp2
  go_region
  go_wp2_with (go_at_call 39; refine (lnumber_any a b d _).mono ?_; rw [Hm.out]; rintro e w' ⟨rfl, hb⟩)
  go_region
  go_wp2
  go_ret3
  refine ⟨?_, ((((Below.refl _ _).alloc (Nat.le_refl _) _).drew.trans (hb.mono (by simp)))).drew⟩
  simp
end
theorem cut_any (c : UInt8) (l : List UInt8) (w : World) :
    Calls Try.prog 38 #[.int .u8 c.toNat, .string ⟨l.toArray⟩] w fun e w' =>
      (∀ p, tkF c l = some p → e = .returned (.tuple #[.string ⟨p.1.toArray⟩, .string ⟨p.2.toArray⟩, .bool true])) ∧ (tkF c l = none → e = .returned (.tuple #[.string ⟨#[]⟩, .string ⟨#[]⟩, .bool false])) ∧ Below w.heap.size w w' := by
  match l with
  | [] => exact (cut_short c _ w (by simp)).mono fun e w' h => ⟨fun p hp => by simp [tkF] at hp, fun _ => h.1, h.2⟩
  | [_] => exact (cut_short c _ w (by simp)).mono fun e w' h => ⟨fun p hp => by simp [tkF] at hp, fun _ => h.1, h.2⟩
  | [_, _] => exact (cut_short c _ w (by simp)).mono fun e w' h => ⟨fun p hp => by simp [tkF] at hp, fun _ => h.1, h.2⟩
  | [_, _, _] => exact (cut_short c _ w (by simp)).mono fun e w' h => ⟨fun p hp => by simp [tkF] at hp, fun _ => h.1, h.2⟩
  | x :: a :: b :: d :: r =>
    by_cases hx : x = c
    · subst hx
      by_cases hm : a.toNat * 65536 + b.toNat * 256 + d.toNat ≤ r.length
      · exact (cut_ok x a b d r w hm).mono fun e w' h => ⟨fun p hp => by simp [tkF, hm] at hp; subst hp; exact h.1, fun hn => by simp [tkF, hm] at hn, h.2⟩
      · exact (cut_long x a b d r w (by omega)).mono fun e w' h => ⟨fun p hp => by simp [tkF, hm] at hp, fun _ => h.1, h.2⟩
    · exact (cut_other c x a b d r w hx).mono fun e w' h => ⟨fun p hp => by simp [tkF, hx] at hp, fun _ => h.1, h.2⟩
end Go.Proofs.Ytpopocfkeiplbaa
