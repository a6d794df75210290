/- From one world on to another: only the blocks of a list may have turned, and new ones come. It hangs on no program. -/
import Derived.WalkKit
import Derived.Below
import Derived.Deep.Draws
namespace Go.Proofs.YtnpoohkklfpmdaaGreat
open Go.RowKit
/-- From w on to w': what lay in w's blocks is as it was, but for the blocks ex. -/
structure Fr (ex : List Nat) (w w' : World) : Prop where
  os : w'.os = w.os
  tape : w'.tape = w.tape
  output : w'.output = w.output
  size : w.heap.size ≤ w'.heap.size
  block : ∀ k, k < w.heap.size → k ∉ ex → w'.heap[k]? = w.heap[k]?
theorem Fr.refl (ex : List Nat) (w : World) : Fr ex w w := ⟨rfl, rfl, rfl, Nat.le_refl _, fun _ _ _ => rfl⟩
theorem Fr.trans {ex : List Nat} {a b c : World} (h : Fr ex a b) (k : Fr ex b c) : Fr ex a c :=
  ⟨k.os.trans h.os, k.tape.trans h.tape, k.output.trans h.output, Nat.le_trans h.size k.size, fun i hi hn => (k.block i (Nat.lt_of_lt_of_le hi h.size) hn).trans (h.block i hi hn)⟩
theorem Fr.more {ex ex' : List Nat} {a b : World} (h : Fr ex a b) (hs : ∀ k, k ∈ ex → k ∈ ex') : Fr ex' a b :=
  ⟨h.os, h.tape, h.output, h.size, fun k hk hn => h.block k hk fun e => hn (hs k e)⟩
theorem Fr.of_below {ex : List Nat} {a b : World} (h : Below a.heap.size a b) : Fr ex a b := ⟨h.os, h.tape, h.output, h.size, fun k hk _ => h.block k hk⟩
theorem Fr.below {ex : List Nat} {a b : World} {B : Nat} (h : Fr ex a b) (hB : B ≤ a.heap.size) (hx : ∀ k, k ∈ ex → B ≤ k) : Below B a b :=
  ⟨h.os, h.tape, h.output, h.size, fun k hk => h.block k (by omega) fun e => by have := hx k e; omega⟩
theorem Fr.alloc {ex : List Nat} {a b : World} (h : Fr ex a b) (o : Obj) : Fr ex a (b.alloc o) :=
  h.trans ⟨rfl, rfl, rfl, by simp, fun k hk _ => Below.heap_alloc _ _ _ hk⟩
theorem Fr.drew {ex : List Nat} {a b : World} (h : Fr ex a b) : Fr ex a b.drew := ⟨h.os, h.tape, h.output, h.size, h.block⟩
theorem Fr.setCell {ex : List Nat} {a b : World} (h : Fr ex a b) {p : Addr} (hp : p.block ∈ ex ∨ a.heap.size ≤ p.block) (u : Value) : Fr ex a (b.setCell p u) := by
  refine ⟨h.os, h.tape, h.output, by simpa [World.setCell] using h.size, fun k hk hn => ?_⟩
  rw [Below.heap_setCell _ _ _ _ (by rintro rfl; exact hp.elim (fun hp => hn hp) (fun hp => by omega))]
  exact h.block k hk hn
/-- What is new may be left out of the list. -/
theorem Fr.less {ex : List Nat} {a b : World} {g : Nat} (h : Fr (g :: ex) a b) (hg : a.heap.size ≤ g) : Fr ex a b :=
  ⟨h.os, h.tape, h.output, h.size, fun k hk hn => h.block k hk fun e => by
    rcases List.mem_cons.1 e with e | e
    · omega
    · exact hn e⟩

theorem Fr.drop {ex ex' : List Nat} {a b : World} (h : Fr ex a b) (hs : ∀ k, k ∈ ex → k ∈ ex' ∨ a.heap.size ≤ k) : Fr ex' a b :=
  ⟨h.os, h.tape, h.output, h.size, fun k hk hn => h.block k hk fun e => (hs k e).elim hn (fun e => by omega)⟩

theorem Fr.drewN {ex : List Nat} {a b : World} (h : Fr ex a b) (n : Nat) : Fr ex a (b.drewN n) := ⟨h.os, h.tape, h.output, h.size, h.block⟩
theorem Fr.undrew {w w' : World} {ex : List Nat} (h : Fr ex w.drew w') : Fr ex w w' := ⟨h.os, h.tape, h.output, h.size, h.block⟩
theorem below_undrew {w w' : World} (h : Below w.drew.heap.size w.drew w') : Below w.heap.size w w' := ⟨h.os, h.tape, h.output, h.size, h.block⟩
theorem below_drewN {B : Nat} {a w : World} (h : Below B a w) (n : Nat) : Below B a (w.drewN n) := ⟨h.os, h.tape, h.output, h.size, h.block⟩
end Go.Proofs.YtnpoohkklfpmdaaGreat
