import Derived.Test.YtpopocfkeiplbaaRows
import Derived.Test.YtpopocfkeiplbaaFr
import Derived.Test.YtpopocfkeiplbaaTlvE
import Derived.ProofKit
import Derived.OpenShut
import Derived.ShutString
import Derived.ChangeOld
import Derived.Outline
import Derived.RegionTactic
import Derived.ChangeAlike
import Derived.BigRegion
import Derived.BigQuiet
import Derived.Deep.QuietTactic
import Derived.Deep.RegionWith
import Derived.Deep.RegionLaw
import Derived.Deep.AppendLies
import Derived.Deep.Draws
import Derived.Lib.Hide
import Derived.Lib.SmallJoins
import Derived.Handy
namespace Go.Proofs.Ytpopocfkeiplbaa
open Go.RowKit
/-- A reader in block b: what is left; none: it is bad. -/
def Rd (w : World) (b : Nat) (st : Option (List UInt8)) : Prop := w.heap[b]? = some (.cells #[.string ⟨(st.getD []).toArray⟩, .bool st.isNone] 61 (0, 0))
theorem Rd.cell0 {w : World} {b : Nat} {st : Option (List UInt8)} (h : Rd w b st) : w.cell? ⟨b, 0, none⟩ = some (.string ⟨(st.getD []).toArray⟩) := by
  unfold World.cell?; unfold Rd at h; simp only [h]; rfl
theorem Rd.cell1 {w : World} {b : Nat} {st : Option (List UInt8)} (h : Rd w b st) : w.cell? ⟨b, 1, none⟩ = some (.bool st.isNone) := by
  unfold World.cell?; unfold Rd at h; simp only [h]; rfl
theorem Rd.frozen {w : World} {b : Nat} {st : Option (List UInt8)} (h : Rd w b st) (i : Nat) : w.frozen? ⟨b, i, none⟩ = false := by
  unfold World.frozen?; unfold Rd at h; simp [h]
theorem Rd.lt {w : World} {b : Nat} {st : Option (List UInt8)} (h : Rd w b st) : b < w.heap.size := by
  rcases Nat.lt_or_ge b w.heap.size with hlt | hge
  · exact hlt
  · unfold Rd at h; rw [Array.getElem?_eq_none hge] at h; cases h
theorem Rd.keep {w w' : World} {b : Nat} {st : Option (List UInt8)} (h : Rd w b st) (hb : w'.heap[b]? = w.heap[b]?) : Rd w' b st := hb.trans h
theorem Rd.fr {ex : List Nat} {w w' : World} {b : Nat} {st : Option (List UInt8)} (h : Rd w b st) (hf : Fr ex w w') (hn : b ∉ ex) : Rd w' b st := h.keep (hf.block b h.lt hn)
theorem Rd.below {w w' : World} {b : Nat} {st : Option (List UInt8)} (h : Rd w b st) (hf : Below w.heap.size w w') : Rd w' b st := h.keep (hf.block b h.lt)
theorem heap_set {w : World} {b i : Nat} {cs : Array Value} {t : TypeId} {fr : Nat × Nat} (h : w.heap[b]? = some (.cells cs t fr)) (v : Value) : (w.setCell ⟨b, i, none⟩ v).heap[b]? = some (.cells (cs.setIfInBounds i v) t fr) := by
  simp [World.setCell, Array.getElem?_modify, h]
theorem Rd.bad {w : World} {b : Nat} {st : Option (List UInt8)} (h : Rd w b st) : Rd ((w.setCell ⟨b, 0, none⟩ (.string ⟨#[]⟩)).setCell ⟨b, 1, none⟩ (.bool true)) b none := by
  unfold Rd at h ⊢
  rw [heap_set (heap_set h _) _]
  rfl
theorem Rd.on {w : World} {b : Nat} {l : List UInt8} (h : Rd w b (some l)) (l' : List UInt8) : Rd (w.setCell ⟨b, 0, none⟩ (.string ⟨l'.toArray⟩)) b (some l') := by
  unfold Rd at h ⊢
  rw [heap_set h _]
  rfl

set_option maxHeartbeats 400000 in
theorem take_none (c : UInt8) (st : Option (List UInt8)) (b : Nat) (fv : Value) (w : World) (hrd : Rd w b st) (h : tkF c (st.getD []) = none) :
    Calls Try.prog 33 #[.pointer (some ⟨b, 0, none⟩), .int .u8 c.toNat, fv] w fun e w' => e = .returned (.bool false) ∧ Rd w' b none ∧ Fr [b] w w' := by
  have H := Lib.hid h
  have hc0 := hrd.cell0
  clear h
  have hlt : b < w.heap.size := hrd.lt
  go_enter Try.func33, Try.ntmps33
  go_wp2_with (go_at_call 38; refine (cut_any c _ _).mono ?_; rintro e w' ⟨_, h2, hb⟩; obtain rfl := h2 H.out; have hr2 := hrd.below hb; have d0 := hr2.cell0; have d1 := hr2.cell1; have f0 := hr2.frozen 0; have f1 := hr2.frozen 1; clear h2)
  go_ret
  exact ⟨rfl, hr2.bad, ((Fr.of_below hb).setCell (.inl (by simp)) _).setCell (.inl (by simp)) _⟩
set_option maxHeartbeats 400000 in
theorem take_some (c : UInt8) (l : List UInt8) (b k : Nat) (cap : Array Value) (body rest : List UInt8) (ex : List Nat) (w : World) (hrd : Rd w b (some l)) (h : tkF c l = some (body, rest)) (ok : Bool) (R : World → Prop) (hex : b ∉ ex)
    (hcl : ∀ W, Below w.heap.size w W → Calls Try.prog k (#[.string ⟨body.toArray⟩] ++ cap) W fun e W' => e = .returned (.bool ok) ∧ Fr ex W W' ∧ R W') (hst : ∀ W i v, R W → R (W.setCell ⟨b, i, none⟩ v))
    (hk : ∀ W, (callFunc k (#[.string ⟨body.toArray⟩] ++ cap)).run Try.prog W = .ok (.enter k (#[.string ⟨body.toArray⟩] ++ cap)) W) :
    Calls Try.prog 33 #[.pointer (some ⟨b, 0, none⟩), .int .u8 c.toNat, .func (.func k) #[] cap] w fun e w' => e = .returned (.bool ok) ∧ Rd w' b (if ok then some rest else none) ∧ R w' ∧ Fr (b :: ex) w w' := by
  have H := Lib.hid h
  have hc0 : w.cell? ⟨b, 0, none⟩ = some (.string ⟨l.toArray⟩) := hrd.cell0
  clear h
  have hlt : b < w.heap.size := hrd.lt
  have Hcl := Lib.hid hcl
  have Hst := Lib.hid hst
  clear hcl hst
  cases ok
  · go_enter Try.func33, Try.ntmps33
    go_wp2_with (first | (go_at_call 38; refine (cut_any c _ _).mono ?_; rintro e w' ⟨h1, _, hb⟩; obtain rfl := h1 _ H.out; clear h1) | (refine (Hcl.out _ (by assumption)).mono ?_; rintro e2 w2 ⟨rfl, hfr, hR⟩; have hr2 := (hrd.below (by assumption)).fr hfr hex; have d0 := hr2.cell0; have d1 := hr2.cell1; have f0 := hr2.frozen 0; have f1 := hr2.frozen 1))
    go_ret
    exact ⟨rfl, hr2.bad, Hst.out _ _ _ (Hst.out _ _ _ hR), (((Fr.of_below hb).trans (hfr.more (by simp_all))).setCell (.inl (by simp)) _).setCell (.inl (by simp)) _⟩
  · go_enter Try.func33, Try.ntmps33
    go_wp2_with (first | (go_at_call 38; refine (cut_any c _ _).mono ?_; rintro e w' ⟨h1, _, hb⟩; obtain rfl := h1 _ H.out; clear h1) | (refine (Hcl.out _ (by assumption)).mono ?_; rintro e2 w2 ⟨rfl, hfr, hR⟩; have hr2 := (hrd.below (by assumption)).fr hfr hex; have d0 := hr2.cell0; have f0 := hr2.frozen 0))
    go_ret
    exact ⟨rfl, hr2.on _, Hst.out _ _ _ hR, ((Fr.of_below hb).trans (hfr.more (by simp_all))).setCell (.inl (by simp)) _⟩
end Go.Proofs.Ytpopocfkeiplbaa
