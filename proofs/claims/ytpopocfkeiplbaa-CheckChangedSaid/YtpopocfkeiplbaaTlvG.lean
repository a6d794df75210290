import Derived.Test.YtpopocfkeiplbaaRows
import Derived.Test.YtpopocfkeiplbaaTlvF
import Derived.ProofKit
import Derived.OpenShut
import Derived.ShutString
import Derived.ChangeOld
import Derived.Outline
import Derived.RegionTactic
import Derived.ChangeAlike
import Derived.BigRegion
import Derived.BigQuiet
import Derived.Deep.QuietTactic
import Derived.Deep.RegionWith
import Derived.Deep.RegionLaw
import Derived.Deep.AppendLies
import Derived.Deep.Draws
import Derived.Lib.Hide
import Derived.Lib.SmallJoins
import Derived.Handy
namespace Go.Proofs.Ytpopocfkeiplbaa
open Go.RowKit

/-- A block of one cell. -/
def Cl (w : World) (g t : Nat) (v : Value) : Prop := w.heap[g]? = some (.cells #[v] t (0, 0))
theorem Cl.cell {w : World} {g t : Nat} {v : Value} (h : Cl w g t v) : w.cell? ⟨g, 0, none⟩ = some v := by
  unfold World.cell?; unfold Cl at h; simp only [h]; rfl
theorem Cl.frozen {w : World} {g t : Nat} {v : Value} (h : Cl w g t v) : w.frozen? ⟨g, 0, none⟩ = false := by
  unfold World.frozen?; unfold Cl at h; simp [h]
theorem Cl.set_ {w : World} {g t : Nat} {v : Value} (h : Cl w g t v) (u : Value) : Cl (w.setCell ⟨g, 0, none⟩ u) g t u := by
  unfold Cl at h ⊢; rw [heap_set h _]; rfl
theorem Cl.far {w : World} {g t : Nat} {v : Value} (h : Cl w g t v) {p : Addr} (hp : g ≠ p.block) (u : Value) : Cl (w.setCell p u) g t v := (Below.heap_setCell w p u g hp).trans h
theorem Cl.lt {w : World} {g t : Nat} {v : Value} (h : Cl w g t v) : g < w.heap.size := by
  rcases Nat.lt_or_ge g w.heap.size with hlt | hge
  · exact hlt
  · unfold Cl at h; rw [Array.getElem?_eq_none hge] at h; cases h
theorem Cl.fr {ex : List Nat} {w w' : World} {g t : Nat} {v : Value} (h : Cl w g t v) (hf : Fr ex w w') (hn : g ∉ ex) : Cl w' g t v := (hf.block g h.lt hn).trans h
theorem Cl.below {w w' : World} {g t : Nat} {v : Value} (h : Cl w g t v) (hf : Below w.heap.size w w') : Cl w' g t v := (hf.block g h.lt).trans h
theorem Cl.new (w : World) (t : Nat) (v : Value) : Cl (w.alloc (.cells #[v] t)) w.heap.size t v := heap_alloc_new w _

def rdNum (c : UInt8) (l : List UInt8) : Nat × Option (List UInt8) :=
  match tkF c l with
  | none => (0, none)
  | some (body, rest) => match nbr body with
    | none => (0, none)
    | some n => (n, some rest)

theorem num1 (body : List UInt8) (g : Nat) (v : Value) (w : World) (hg : Cl w g 44 v) :
    Calls Try.prog 35 #[.string ⟨body.toArray⟩, .pointer (some ⟨g, 0, none⟩)] w fun e w' => e = .returned (.bool (nbr body).isSome) ∧ Fr [g] w w' ∧ Cl w' g 44 (.int .u64 ((nbr body).getD 0 : Nat)) := by
  have hc := hg.cell
  have hf := hg.frozen
  cases hn : nbr body with
  | none =>
    have H := Lib.hid hn
    clear hn
    go_enter Try.func35, Try.ntmps35
    go_wp2_with (go_at_call 36; refine (number_none body _ H.out).mono ?_; rintro e w' ⟨rfl, rfl⟩)
    go_ret
    exact ⟨rfl, (Fr.refl _ _).setCell (.inl (by simp)) _, hg.set_ _⟩
  | some n =>
    have H := Lib.hid hn
    clear hn
    go_enter Try.func35, Try.ntmps35
    go_wp2_with (go_at_call 36; refine (number_some body n _ H.out).mono ?_; rintro e w' ⟨rfl, rfl⟩)
    go_ret
    exact ⟨rfl, (Fr.refl _ _).setCell (.inl (by simp)) _, hg.set_ _⟩

theorem call43 (args : Array Value) (W : World) : (callFunc 35 args).run Try.prog W = .ok (.enter 35 args) W := by kernel_rfl
theorem tkF_nil (c : UInt8) : tkF c [] = none := rfl
theorem rdNum_any (c : UInt8) (st : Option (List UInt8)) (b : Nat) (w : World) (hrd : Rd w b st) :
    Calls Try.prog 27 #[.pointer (some ⟨b, 0, none⟩), .int .u8 c.toNat] w fun e w' => e = .returned (.int .u64 (rdNum c (st.getD [])).1) ∧ Rd w' b (rdNum c (st.getD [])).2 ∧ Fr [b] w w' := by
  have hlt := hrd.lt
  have hne : b ≠ w.heap.size := by omega
  cases ht : tkF c (st.getD []) with
  | none =>
    have e : rdNum c (st.getD []) = (0, none) := by simp [rdNum, ht]
    rw [e]
    have H := Lib.hid ht
    clear ht e
    go_enter Try.func27, Try.ntmps27
    go_wp2_with (go_at_call 33; refine (take_none c st b _ _ (hrd.below ((Below.refl _ _).alloc (Nat.le_refl _) _)) H.out).mono ?_; rintro e w' ⟨rfl, hr2, hfr⟩; have d0 := ((Cl.new w _ _).fr hfr (by simp; omega)).cell)
    go_ret
    exact ⟨rfl, hr2, ((Fr.refl _ _).alloc _).trans (hfr.more (by simp))⟩
  | some p =>
    obtain ⟨body, rest⟩ := p
    obtain ⟨l, rfl⟩ : ∃ l, st = some l := by
      cases st with
      | none => simp [tkF_nil] at ht
      | some l => exact ⟨l, rfl⟩
    have e : rdNum c ((some l).getD []) = ((nbr body).getD 0, if (nbr body).isSome then some rest else none) := by
      simp only [rdNum, ht]; cases nbr body <;> rfl
    rw [e]
    have H : Hid (tkF c l = some (body, rest)) := Lib.hid ht
    clear ht e
    generalize hok : (nbr body).isSome = ok
    have Hok := Lib.hid hok
    generalize hv : (nbr body).getD 0 = v
    have Hv := Lib.hid hv
    clear hok hv
    generalize hs2 : (if ok then some rest else none) = st2
    have Hs2 := Lib.hid hs2
    clear hs2
    go_enter Try.func27, Try.ntmps27
    go_wp2_with (go_at_call 33; refine (take_some c l b 35 #[.pointer (some ⟨w.heap.size, 0, none⟩)] body rest [w.heap.size] _ (hrd.below ((Below.refl _ _).alloc (Nat.le_refl _) _)) H.out ok (fun W => Cl W w.heap.size 44 (.int .u64 (v : Nat))) (by simp; omega) (fun W hW => (num1 body w.heap.size _ W ((Cl.new w _ _).below hW)).mono fun e W' h => by rw [Hok.out, Hv.out] at h; exact h) (fun W i u hW => hW.far (by simp; omega) u) (call43 _)).mono ?_; rw [Hs2.out]; rintro e w' ⟨rfl, hr2, hR, hfr⟩; have d0 := hR.cell)
    go_ret
    exact ⟨rfl, hr2, (((Fr.refl _ _).alloc _).trans hfr).drop (by simp)⟩
end Go.Proofs.Ytpopocfkeiplbaa
