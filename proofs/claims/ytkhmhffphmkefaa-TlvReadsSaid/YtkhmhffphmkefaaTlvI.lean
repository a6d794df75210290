import Derived.Test.YtkhmhffphmkefaaRows
import Derived.Test.YtkhmhffphmkefaaTlvH
import Derived.ProofKit
import Derived.OpenShut
import Derived.ShutString
import Derived.ChangeOld
import Derived.Outline
import Derived.RegionTactic
import Derived.ChangeAlike
import Derived.BigRegion
import Derived.BigQuiet
import Derived.Deep.QuietTactic
import Derived.Deep.RegionWith
import Derived.Deep.RegionLaw
import Derived.Deep.AppendLies
import Derived.Deep.Draws
import Derived.Lib.Hide
import Derived.Lib.SmallJoins
import Derived.Handy
namespace Go.Proofs.Ytkhmhffphmkefaa
open Go.RowKit
theorem Read_any (l : List UInt8) (w : World) :
    Calls Try.prog 22 #[.string ⟨l.toArray⟩] w fun e w' => ∃ b, e = .returned (.pointer (some ⟨b, 0, none⟩)) ∧ w.heap.size ≤ b ∧ Rd w' b (some l) ∧ Below w.heap.size w w' := by
  go_enter Try.func22, Try.ntmps22
  go_wp2
  go_ret
  exact ⟨_, rfl, Nat.le_refl _, heap_alloc_new w _, (Below.refl _ _).alloc (Nat.le_refl _) _⟩
theorem Left_any (st : Option (List UInt8)) (b : Nat) (w : World) (h : Rd w b st) :
    Calls Try.prog 35 #[.pointer (some ⟨b, 0, none⟩)] w fun e w' => e = .returned (.int .i64 (st.getD []).length) ∧ w = w' := by
  have hc := h.cell0
  go_enter Try.func35, Try.ntmps35
  go_wp2
  go_ret
  exact ⟨rfl, rfl⟩
theorem Good_any (st : Option (List UInt8)) (b : Nat) (w : World) (h : Rd w b st) :
    Calls Try.prog 34 #[.pointer (some ⟨b, 0, none⟩)] w fun e w' => e = .returned (.bool st.isSome) ∧ w = w' := by
  have hc := h.cell1
  cases st
  all_goals
    go_enter Try.func34, Try.ntmps34
    go_wp2
    go_ret
    exact ⟨rfl, rfl⟩
section
attribute [local go_sem] idx_list
theorem Next_any (st : Option (List UInt8)) (b : Nat) (w : World) (h : Rd w b st) :
    Calls Try.prog 23 #[.pointer (some ⟨b, 0, none⟩)] w fun e w' => e = .returned (.tuple #[.int .u8 ((st.getD []).headD 0).toNat, .bool !(st.getD []).isEmpty]) ∧ w = w' := by
  have hc := h.cell0
  generalize hl : st.getD [] = l at *
  cases l with
  | nil =>
    have hL := (Left_any st b w h)
    rw [hl] at hL
    have HL := Lib.hid hL
    clear hL hl
    go_enter Try.func23, Try.ntmps23
    go_wp2_with (go_at_call 35; refine HL.out.mono ?_; rintro e w' ⟨rfl, rfl⟩)
    go_ret2
    exact ⟨rfl, rfl⟩
  | cons x r =>
    have hL := (Left_any st b w h)
    rw [hl] at hL
    have HL := Lib.hid hL
    clear hL hl
    have hd : (((r.length : Int) + 1) == 0) = false := by simp; omega
    have hlen : ((x :: r).length : Int) = (r.length : Int) + 1 := by simp
    have Hlen := Lib.hid hlen
    clear hlen
    go_enter Try.func23, Try.ntmps23
    go_wp2_with (go_at_call 35; refine HL.out.mono ?_; rw [Hlen.out]; rintro e w' ⟨rfl, rfl⟩)
    go_ret2
    exact ⟨rfl, rfl⟩
end
def endOf (st : Option (List UInt8)) : Int := if st = some [] then 0 else 10
theorem End_any (st : Option (List UInt8)) (b : Nat) (w : World) (h : Rd w b st) :
    Calls Try.prog 37 #[.pointer (some ⟨b, 0, none⟩)] w fun e w' => e = .returned (.int .i64 (endOf st)) ∧ w = w' := by
  have HL := Lib.hid (Left_any st b w h)
  have HG := Lib.hid (Good_any st b w h)
  match st, HL, HG with
  | none, HL, HG =>
    go_enter Try.func37, Try.ntmps37
    go_wp2_with (first | (go_at_call 34; refine HG.out.mono ?_; rintro e w' ⟨rfl, rfl⟩) | (go_at_call 35; refine HL.out.mono ?_; rintro e w' ⟨rfl, rfl⟩))
    go_ret
    exact ⟨rfl, rfl⟩
  | some [], HL, HG =>
    go_enter Try.func37, Try.ntmps37
    go_wp2_with (first | (go_at_call 34; refine HG.out.mono ?_; rintro e w' ⟨rfl, rfl⟩) | (go_at_call 35; refine HL.out.mono ?_; rintro e w' ⟨rfl, rfl⟩))
    go_ret
    exact ⟨rfl, rfl⟩
  | some (x :: r), HL, HG =>
    have hp : 0 < ((some (x :: r)).getD []).length := by simp
    generalize hn : (((some (x :: r)).getD []).length) = n at *
    have Hn := Lib.hid hn
    clear hn
    go_enter Try.func37, Try.ntmps37
    go_wp2_with (first | (go_at_call 34; refine HG.out.mono ?_; rintro e w' ⟨rfl, rfl⟩) | (go_at_call 35; refine HL.out.mono ?_; rintro e w' ⟨rfl, rfl⟩))
    go_ret
    exact ⟨rfl, rfl⟩

/-! Of no reader nothing comes. -/
theorem take_nil (c : UInt8) (fv : Value) (w : World) :
    Calls Try.prog 42 #[.pointer none, .int .u8 c.toNat, fv] w fun e w' => e = .returned (.bool false) ∧ w = w' := by
  go_enter Try.func42, Try.ntmps42
  go_wp2
  go_ret
  exact ⟨rfl, rfl⟩
theorem Num_nil (c : UInt8) (w : World) :
    Calls Try.prog 25 #[.pointer none, .int .u8 c.toNat] w fun e w' => e = .returned (.int .u64 0) ∧ Below w.heap.size w w' := by
  go_enter Try.func25, Try.ntmps25
  go_wp2_with (go_at_call 42; refine (take_nil c _ _).mono ?_; rintro e w' ⟨rfl, rfl⟩)
  go_ret
  exact ⟨rfl, (Below.refl _ _).alloc (Nat.le_refl _) _⟩
theorem Int_nil (c : UInt8) (most : Int) (w : World) :
    Calls Try.prog 27 #[.pointer none, .int .u8 c.toNat, .int .i64 most] w fun e w' => e = .returned (.int .i64 0) ∧ Below w.heap.size w w' := by
  go_enter Try.func27, Try.ntmps27
  go_wp2_with (go_at_call 42; refine (take_nil c _ _).mono ?_; rintro e w' ⟨rfl, rfl⟩)
  go_ret
  exact ⟨rfl, ((Below.refl _ _).alloc (Nat.le_refl _) _).alloc (by simp) _⟩
theorem Text_nil (c : UInt8) (most : Int) (w : World) :
    Calls Try.prog 29 #[.pointer none, .int .u8 c.toNat, .int .i64 most] w fun e w' => e = .returned (.string ⟨#[]⟩) ∧ Below w.heap.size w w' := by
  go_enter Try.func29, Try.ntmps29
  go_wp2_with (go_at_call 42; refine (take_nil c _ _).mono ?_; rintro e w' ⟨rfl, rfl⟩)
  go_ret
  exact ⟨rfl, ((Below.refl _ _).alloc (Nat.le_refl _) _).alloc (by simp) _⟩
theorem All_nil (c : UInt8) (many most : Int) (w : World) :
    Calls Try.prog 32 #[.pointer none, .int .u8 c.toNat, .int .i64 many, .int .i64 most] w fun e w' => e = .returned (.slice none 0 0) ∧ Below w.heap.size w w' := by
  go_enter Try.func32, Try.ntmps32
  go_wp2_with (go_at_call 42; refine (take_nil c _ _).mono ?_; rintro e w' ⟨rfl, rfl⟩)
  go_ret
  exact ⟨rfl, ((((Below.refl _ _).alloc (Nat.le_refl _) _).alloc (by simp) _).alloc (by simp; omega) _).alloc (by simp; omega) _⟩
theorem Left_nil (w : World) : Calls Try.prog 35 #[.pointer none] w fun e w' => e = .returned (.int .i64 0) ∧ w = w' := by
  go_enter Try.func35, Try.ntmps35
  go_wp2
  go_ret
  exact ⟨rfl, rfl⟩
theorem Good_nil (w : World) : Calls Try.prog 34 #[.pointer none] w fun e w' => e = .returned (.bool false) ∧ w = w' := by
  go_enter Try.func34, Try.ntmps34
  go_wp2
  go_ret
  exact ⟨rfl, rfl⟩
theorem Next_nil (w : World) : Calls Try.prog 23 #[.pointer none] w fun e w' => e = .returned (.tuple #[.int .u8 0, .bool false]) ∧ w = w' := by
  go_enter Try.func23, Try.ntmps23
  go_wp2_with (go_at_call 35; refine (Left_nil _).mono ?_; rintro e w' ⟨rfl, rfl⟩)
  go_ret2
  exact ⟨rfl, rfl⟩
theorem End_nil (w : World) : Calls Try.prog 37 #[.pointer none] w fun e w' => e = .returned (.int .i64 10) ∧ w = w' := by
  go_enter Try.func37, Try.ntmps37
  go_wp2_with (go_at_call 34; refine (Good_nil _).mono ?_; rintro e w' ⟨rfl, rfl⟩)
  go_ret
  exact ⟨rfl, rfl⟩
end Go.Proofs.Ytkhmhffphmkefaa
