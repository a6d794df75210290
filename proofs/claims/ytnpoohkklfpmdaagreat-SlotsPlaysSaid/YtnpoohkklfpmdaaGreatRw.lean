/- One block of cells, read and written; what a slice's own row has in it. For all layers; it hangs on no program. -/
import Derived.Test.YtnpoohkklfpmdaaGreatBase
import Derived.Test.YtnpoohkklfpmdaaGreatFr
import Derived.Test.YtnpoohkklfpmdaaGreatKit
import Derived.Laws.OwnMore
import Derived.OneCell
namespace Go.Proofs.YtnpoohkklfpmdaaGreat
open Go.RowKit
/-- Block p holds just these cells. -/
def Rw (w : World) (p : Nat) (cs : List Value) (t : TypeId) : Prop := w.heap[p]? = some (.cells cs.toArray t (0, 0))
section
variable {w w' : World} {p q : Nat} {cs : List Value} {t : TypeId}
theorem Rw.c (h : Rw w p cs t) (k : Nat) {v : Value} (hk : cs[k]? = some v) : w.cell? ⟨p, k, none⟩ = some v := cell_row h hk
theorem Rw.f (h : Rw w p cs t) (k : Nat) : w.frozen? ⟨p, k, none⟩ = false := by unfold World.frozen?; unfold Rw at h; simp [h]
theorem Rw.lt (h : Rw w p cs t) : p < w.heap.size := row_lt h
theorem Rw.set (h : Rw w p cs t) (k : Nat) (v : Value) : Rw (w.setCell ⟨p, k, none⟩ v) p (cs.set k v) t := set_row h
theorem Rw.other (h : Rw w p cs t) {a : Addr} (hn : p ≠ a.block) (v : Value) : Rw (w.setCell a v) p cs t := (Below.heap_setCell _ _ _ _ hn).trans h
theorem Rw.keep (h : Rw w p cs t) (hb : w'.heap[p]? = w.heap[p]?) : Rw w' p cs t := hb.trans h
theorem Rw.fr {ex : List Nat} (h : Rw w p cs t) (hf : Fr ex w w') (hn : p ∉ ex) : Rw w' p cs t := h.keep (hf.block p h.lt hn)
theorem Rw.below (h : Rw w p cs t) (hf : Below w.heap.size w w') : Rw w' p cs t := h.keep (hf.block p h.lt)
theorem Rw.alloc (h : Rw w p cs t) (o : Obj) : Rw (w.alloc o) p cs t := h.keep (Below.heap_alloc _ _ _ h.lt)
theorem Rw.new (w : World) (cs : List Value) (t : TypeId) : Rw (w.alloc (.cells cs.toArray t)) w.heap.size cs t := heap_alloc_new w _
end
/-- The block of a slice's row. -/
def blk (v : Value) : List Nat := v.ownBlock.toList
theorem mem_blk {v : Value} {k : Nat} : k ∈ blk v ↔ v.ownBlock = some k := by unfold blk; simp
section
variable {w w' : World} {base size n p : Nat} {e t : TypeId} {v : Value} {xs cs : List Value}
/-- A row of other elements lies elsewhere. -/
theorem own_off (h : w.ownsRow base e size v n xs) (hr : Rw w p cs t) (hne : t ≠ e) : v.ownBlock ≠ some p := by
  rcases h.2 with ⟨rfl, _⟩ | ⟨g, cap, cur, rfl, _, hg, _⟩
  · simp [Value.ownBlock]
  · intro he
    simp only [Value.ownBlock, Option.some.injEq] at he
    subst he
    unfold Rw at hr
    rw [hr] at hg
    simp only [Option.some.injEq, Obj.cells.injEq] at hg
    exact hne hg.2.1
/-- Two rows of unlike elements lie apart. -/
theorem own_apart {base' size' n' : Nat} {e' : TypeId} {v' : Value} {ys : List Value} (h : w.ownsRow base e size v n xs) (h' : w.ownsRow base' e' size' v' n' ys) (hne : e ≠ e') : ∀ k, v.ownBlock = some k → v'.ownBlock ≠ some k := by
  intro k hk hk'
  rcases h.2 with ⟨rfl, _⟩ | ⟨g, cap, cur, rfl, _, hg, _⟩
  · simp [Value.ownBlock] at hk
  · rcases h'.2 with ⟨rfl, _⟩ | ⟨g', cap', cur', rfl, _, hg', _⟩
    · simp [Value.ownBlock] at hk'
    · simp only [Value.ownBlock, Option.some.injEq] at hk hk'
      subst hk
      subst hk'
      rw [hg] at hg'
      simp only [Option.some.injEq, Obj.cells.injEq] at hg'
      exact hne hg'.2.1
/-- A row stands where its block does. -/
theorem own_keep (h : w.ownsRow base e size v n xs) (hb : ∀ k, v.ownBlock = some k → w'.heap[k]? = w.heap[k]?) : w'.ownsRow base e size v n xs := by
  refine ⟨h.1, ?_⟩
  rcases h.2 with h2 | ⟨g, cap, cur, hv, hg, hh, r⟩
  · exact Or.inl h2
  · exact Or.inr ⟨g, cap, cur, hv, hg, (hb g (by rw [hv]; rfl)).trans hh, r⟩
theorem own_lt (h : w.ownsRow base e size v n xs) {k : Nat} (hk : v.ownBlock = some k) : k < w.heap.size := (h.lt k hk).2
theorem own_frame {ex : List Nat} (h : w.ownsRow base e size v n xs) (hf : Fr ex w w') (hn : ∀ k, v.ownBlock = some k → k ∉ ex) : w'.ownsRow base e size v n xs :=
  own_keep h fun k hk => hf.block k (own_lt h hk) (hn k hk)
theorem Fr.grownRow {r : Option Nat} (h : w.grownBy w' r) : Fr r.toList w w' := ⟨h.os, h.tape, h.output, h.size, fun k hk hn => h.block k hk fun e => hn (by rw [← e]; simp)⟩
/-- The cells of a row that is not empty, where they lie. -/
theorem own_cell (h : w.ownsRow base e size v n xs) {j : Nat} {x : Value} (hj : xs[j]? = some x) : ∃ g cap, v = .slice (some ⟨g, 0, none⟩) n cap ∧ n ≤ cap ∧ base ≤ g ∧ g < w.heap.size ∧ w.cell? ⟨g, j, none⟩ = some x ∧ w.frozen? ⟨g, j, none⟩ = false := by
  rcases h.2 with ⟨rfl, h0⟩ | ⟨g, cap, cur, rfl, hb, hg, hnc, _, _, ht⟩
  · have := h.1
    rw [h0, Nat.zero_mul] at this
    rw [List.eq_nil_of_length_eq_zero this] at hj
    simp at hj
  · refine ⟨g, cap, rfl, hnc, hb, row_lt hg, ?_, ?_⟩
    · rw [cell_of_row w g j _ e (0, 0) hg]
      rw [← ht, List.getElem?_take] at hj
      split at hj
      · simpa using hj
      · cases hj
    · unfold World.frozen?; simp [hg]
end
end Go.Proofs.YtnpoohkklfpmdaaGreat
