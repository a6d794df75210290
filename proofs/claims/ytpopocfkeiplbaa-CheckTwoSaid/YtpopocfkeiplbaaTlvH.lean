import Derived.Test.YtpopocfkeiplbaaRows
import Derived.Test.YtpopocfkeiplbaaTlvG
import Derived.ProofKit
import Derived.OpenShut
import Derived.ShutString
import Derived.ChangeOld
import Derived.Outline
import Derived.RegionTactic
import Derived.ChangeAlike
import Derived.BigRegion
import Derived.BigQuiet
import Derived.Deep.QuietTactic
import Derived.Deep.RegionWith
import Derived.Deep.RegionLaw
import Derived.Deep.AppendLies
import Derived.Deep.Draws
import Derived.Lib.Hide
import Derived.Lib.SmallJoins
import Derived.Handy
namespace Go.Proofs.Ytpopocfkeiplbaa
open Go.RowKit
theorem Cl.new1 (w : World) (o : Obj) (t : Nat) (v : Value) : Cl ((w.alloc o).alloc (.cells #[v] t)) (w.heap.size + 1) t v := by simpa using Cl.new (w.alloc o) t v
theorem Cl.new2 (w : World) (o o' : Obj) (t : Nat) (v : Value) : Cl (((w.alloc o).alloc o').alloc (.cells #[v] t)) (w.heap.size + 2) t v := by simpa using Cl.new1 (w.alloc o) o' t v
theorem Cl.new3 (w : World) (o o' o2 : Obj) (t : Nat) (v : Value) : Cl ((((w.alloc o).alloc o').alloc o2).alloc (.cells #[v] t)) (w.heap.size + 3) t v := by simpa using Cl.new2 (w.alloc o) o' o2 t v
def intOk (body : List UInt8) (most : Int) : Bool × Nat :=
  match nbr body with
  | none => (false, 0)
  | some n => if 0 ≤ most ∧ (n : Int) ≤ most then (true, n) else (false, 0)
def rdInt (c : UInt8) (most : Int) (l : List UInt8) : Nat × Option (List UInt8) :=
  match tkF c l with
  | none => (0, none)
  | some (body, rest) => ((intOk body most).2, if (intOk body most).1 then some rest else none)
theorem nbr_lt {l : List UInt8} {n : Nat} (h : nbr l = some n) : n < 18446744073709551616 := by
  cases l with
  | nil => simp [nbr] at h; omega
  | cons x r =>
    simp only [nbr] at h
    split at h
    · cases h
    · rename_i hc
      obtain rfl : be (x :: r) = n := by simpa using h
      have := be_lt (x :: r)
      refine Nat.lt_of_lt_of_le this ?_
      have h8 : (x :: r).length ≤ 8 := by simp; omega
      exact Nat.le_trans (Nat.pow_le_pow_right (by omega) h8) (by decide)
def txtOk (body : List UInt8) (most : Int) : Bool := decide ((body.length : Int) ≤ most)
def rdTxt (c : UInt8) (most : Int) (l : List UInt8) : List UInt8 × Option (List UInt8) :=
  match tkF c l with
  | none => ([], none)
  | some (body, rest) => if txtOk body most then (body, some rest) else ([], none)
theorem txt1 (body : List UInt8) (g1 g2 : Nat) (most : Int) (w : World) (h1 : Cl w g1 3 (.int .i64 most)) (h2 : Cl w g2 9 (.string ⟨#[]⟩)) :
    Calls Try.prog 34 #[.string ⟨body.toArray⟩, .pointer (some ⟨g1, 0, none⟩), .pointer (some ⟨g2, 0, none⟩)] w fun e w' => e = .returned (.bool (txtOk body most)) ∧ Fr [g2] w w' ∧ Cl w' g2 9 (.string ⟨(if txtOk body most then body else []).toArray⟩) := by
  have hc := h1.cell
  have hc2 := h2.cell
  have hf := h2.frozen
  by_cases h : (body.length : Int) ≤ most
  · have e : txtOk body most = true := by simp [txtOk, h]
    rw [e]
    have hd : decide (most < (body.length : Int)) = false := by simp; omega
    clear e h
    go_enter Try.func34, Try.ntmps34
    go_wp2
    go_ret
    exact ⟨rfl, (Fr.refl _ _).setCell (.inl (by simp)) _, h2.set_ _⟩
  · have e : txtOk body most = false := by simp [txtOk, h]
    rw [e]
    have hd : decide (most < (body.length : Int)) = true := by simp; omega
    clear e h
    go_enter Try.func34, Try.ntmps34
    go_wp2
    go_ret
    exact ⟨rfl, Fr.refl _ _, h2⟩

theorem call46 (args : Array Value) (W : World) : (callFunc 34 args).run Try.prog W = .ok (.enter 34 args) W := by kernel_rfl
theorem rdTxt_any (c : UInt8) (most : Int) (st : Option (List UInt8)) (b : Nat) (w : World) (hrd : Rd w b st) :
    Calls Try.prog 25 #[.pointer (some ⟨b, 0, none⟩), .int .u8 c.toNat, .int .i64 most] w fun e w' => e = .returned (.string ⟨(rdTxt c most (st.getD [])).1.toArray⟩) ∧ Rd w' b (rdTxt c most (st.getD [])).2 ∧ Fr [b] w w' := by
  have hlt := hrd.lt
  cases ht : tkF c (st.getD []) with
  | none =>
    have e : rdTxt c most (st.getD []) = ([], none) := by simp [rdTxt, ht]
    rw [e]
    have H := Lib.hid ht
    clear ht e
    go_enter Try.func25, Try.ntmps25
    go_wp2_with (go_at_call 33; refine (take_none c st b _ _ (hrd.below (((Below.refl _ _).alloc (Nat.le_refl _) _).alloc (by simp) _)) H.out).mono ?_; rintro e w' ⟨rfl, hr2, hfr⟩; have d0 := ((Cl.new1 w _ _ _).fr hfr (by simp; omega)).cell)
    go_ret
    exact ⟨rfl, hr2, (((Fr.refl _ _).alloc _).alloc _).trans (hfr.more (by simp))⟩
  | some p =>
    obtain ⟨body, rest⟩ := p
    obtain ⟨l, rfl⟩ : ∃ l, st = some l := by
      cases st with
      | none => simp [tkF_nil] at ht
      | some l => exact ⟨l, rfl⟩
    have e : rdTxt c most ((some l).getD []) = (if txtOk body most then body else [], if txtOk body most then some rest else none) := by
      simp only [rdTxt, ht]; cases txtOk body most <;> rfl
    rw [e]
    have H : Hid (tkF c l = some (body, rest)) := Lib.hid ht
    clear ht e
    generalize hok : txtOk body most = ok
    have Hok := Lib.hid hok
    clear hok
    generalize hv : (if ok then body else []) = v
    have Hv := Lib.hid hv
    clear hv
    generalize hs2 : (if ok then some rest else none) = st2
    have Hs2 := Lib.hid hs2
    clear hs2
    go_enter Try.func25, Try.ntmps25
    go_wp2_with (go_at_call 33; refine (take_some c l b 34 #[.pointer (some ⟨w.heap.size, 0, none⟩), .pointer (some ⟨w.heap.size + 1, 0, none⟩)] body rest [w.heap.size + 1] _ (hrd.below (((Below.refl _ _).alloc (Nat.le_refl _) _).alloc (by simp) _)) H.out ok (fun W => Cl W (w.heap.size + 1) 9 (.string ⟨v.toArray⟩)) (by simp; omega) (fun W hW => (txt1 body w.heap.size (w.heap.size + 1) most W (((Cl.new w 3 (.int .i64 most)).below ((Below.refl _ _).alloc (Nat.le_refl _) _)).below hW) ((Cl.new1 w _ _ _).below hW)).mono fun e W' h => by rw [Hok.out, Hv.out] at h; exact h) (fun W i u hW => hW.far (by simp; omega) u) (call46 _)).mono ?_; rw [Hs2.out]; rintro e w' ⟨rfl, hr2, hR, hfr⟩; have d0 := hR.cell)
    go_ret
    exact ⟨rfl, hr2, ((((Fr.refl _ _).alloc _).alloc _).trans hfr).drop (by simp)⟩
end Go.Proofs.Ytpopocfkeiplbaa
