import Derived.Test.YtnpoohkklfpmdaaGreatRows
import Derived.Test.YtnpoohkklfpmdaaGreatTlvJ
import Derived.ProofKit
import Derived.OpenShut
import Derived.ShutString
import Derived.ChangeOld
import Derived.Outline
import Derived.RegionTactic
import Derived.ChangeAlike
import Derived.BigRegion
import Derived.BigQuiet
import Derived.Deep.QuietTactic
import Derived.Deep.RegionWith
import Derived.Deep.RegionLaw
import Derived.Deep.AppendLies
import Derived.Deep.Draws
import Derived.Lib.Hide
import Derived.Lib.SmallJoins
import Derived.Handy
import Derived.Deep.LoopGhost
import Derived.Deep.RegionHeld3
import Derived.StillTactics
import Derived.OwnWalk
namespace Go.Proofs.YtnpoohkklfpmdaaGreat
open Go.RowKit
theorem own_base {w : World} {base base' size n : Nat} {e : TypeId} {v : Value} {xs : List Value} (h : w.ownsRow base e size v n xs) (hb : base' ≤ base) : w.ownsRow base' e size v n xs := by
  refine ⟨h.1, ?_⟩
  rcases h.2 with h2 | ⟨g, cap, cur, hv, hg, r⟩
  · exact Or.inl h2
  · exact Or.inr ⟨g, cap, cur, hv, by omega, r⟩
theorem strsAt_own {w : World} {base : Nat} {A : Option Addr} {cp : Nat} {ls : List (List UInt8)} (h : w.ownsRow base 9 1 (.slice A ls.length cp) ls.length (strs ls)) : StrsAt w w.heap.size A ls.length ls := by
  refine ⟨rfl, fun hn => ?_⟩
  obtain ⟨g, cap, hv, _, hlt⟩ := h.form hn
  have hA : A = some ⟨g, 0, none⟩ := by injection hv
  subst hA
  refine ⟨g, 0, rfl, hlt, fun k l hk => ?_⟩
  have := h.cells (g := g) rfl k (.string ⟨l.toArray⟩) (by simp [strs, hk])
  rwa [show (⟨g, 0, none⟩ : Addr).add k = ⟨g, 0 + k, none⟩ from by unfold Addr.add; split <;> simp_all] at this
def allT (c : UInt8) (most : Int) (body : List UInt8) : Option (List (List UInt8)) := allF c most (body.length + 1) body
def rdAll (c : UInt8) (many most : Int) (l : List UInt8) : List (List UInt8) × Option (List UInt8) :=
  match tkF c l with
  | none => ([], none)
  | some (body, rest) => if okAll many (allT c most body) then ((allT c most body).getD [], some rest) else ([], none)
theorem tkF_len {c : UInt8} {l body rest : List UInt8} (h : tkF c l = some (body, rest)) : body.length ≤ l.length ∧ rest.length ≤ l.length := by
  match l with
  | [] => simp [tkF] at h
  | [_] => simp [tkF] at h
  | [_, _] => simp [tkF] at h
  | [_, _, _] => simp [tkF] at h
  | x :: a :: b :: d :: r =>
    simp only [tkF] at h
    split at h
    · simp only [Option.some.injEq, Prod.mk.injEq] at h
      rw [← h.1, ← h.2]
      simp; omega
    · cases h
/-- What 'All' tells: a slice that reads as these texts. -/
def IsStrs (ls : List (List UInt8)) (e : Ending) (w : World) : Prop := ∃ a n cap, e = .returned (.slice a n cap) ∧ n ≤ cap ∧ StrsAt w w.heap.size a n ls
theorem own_cap {w : World} {base size n cp : Nat} {A : Option Addr} {e : TypeId} {xs : List Value} (h : w.ownsRow base e size (.slice A n cp) n xs) : n ≤ cp := by
  rcases h.2 with ⟨h1, h2⟩ | ⟨g, cap, cur, hv, _, _, hnc, _⟩
  · injection h1; omega
  · injection hv; omega
theorem al4 (w : World) (o1 o2 o3 o4 : Obj) : Below w.heap.size w ((((w.alloc o1).alloc o2).alloc o3).alloc o4) := ((((Below.refl _ _).alloc (Nat.le_refl _) _).alloc (by simp) _).alloc (by simp; omega) _).alloc (by simp; omega) _
theorem new0of4 (w : World) (o2 o3 o4 : Obj) (t : Nat) (v : Value) : Cl ((((w.alloc (.cells #[v] t)).alloc o2).alloc o3).alloc o4) w.heap.size t v :=
  (((Cl.new w t v).below ((Below.refl _ _).alloc (Nat.le_refl _) _)).below ((Below.refl _ _).alloc (Nat.le_refl _) _)).below ((Below.refl _ _).alloc (Nat.le_refl _) _)
theorem new1of4 (w : World) (o1 o3 o4 : Obj) (t : Nat) (v : Value) : Cl ((((w.alloc o1).alloc (.cells #[v] t)).alloc o3).alloc o4) (w.heap.size + 1) t v :=
  ((Cl.new1 w o1 t v).below ((Below.refl _ _).alloc (Nat.le_refl _) _)).below ((Below.refl _ _).alloc (Nat.le_refl _) _)
theorem new2of4 (w : World) (o1 o2 o4 : Obj) (t : Nat) (v : Value) : Cl ((((w.alloc o1).alloc o2).alloc (.cells #[v] t)).alloc o4) (w.heap.size + 1 + 1) t v :=
  (Cl.new2 w o1 o2 t v).below ((Below.refl _ _).alloc (Nat.le_refl _) _)
end Go.Proofs.YtnpoohkklfpmdaaGreat
