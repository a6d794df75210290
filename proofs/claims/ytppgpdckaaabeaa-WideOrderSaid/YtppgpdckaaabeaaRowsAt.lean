/- What stands while a law goes on: blocks as listed; loads and stores of whole rows by it. -/
import Derived.WalkKit
import Derived.Below
import Derived.BigFrame
import Derived.BigRegion
import Derived.BigQuiet
import Derived.Laws.Rows
import Derived.Laws.Tables
import Derived.Deep.MidRow
import Derived.Deep.RegionHeld3
import Derived.Deep.AppendLies
import Derived.Lib.Hide
import Derived.Test.YtppgpdckaaabeaaBase
import Derived.Test.YtppgpdckaaabeaaFr
import Derived.Test.YtppgpdckaaabeaaKit
namespace Go.Proofs.Ytppgpdckaaabeaa
open Go.RowKit
set_option linter.unusedSimpArgs false
set_option linter.unusedVariables false
/-- What stands: blocks as listed, all below W's size as it was. -/
def RowsAt (l : List (Nat × List Value × TypeId)) (W w : World) : Prop := (∀ p ∈ l, w.heap[p.1]? = some (.cells p.2.1.toArray p.2.2 (0, 0))) ∧ Below W.heap.size W w
theorem RowsAt.below {l : List (Nat × List Value × TypeId)} {W w w' : World} (h : RowsAt l W w) (hb : Below w.heap.size w w') : RowsAt l W w' :=
  ⟨fun p hp => (hb.block _ (row_lt (h.1 p hp))).trans (h.1 p hp), h.2.trans (hb.mono h.2.size)⟩
theorem RowsAt.drew {l : List (Nat × List Value × TypeId)} {W w : World} (h : RowsAt l W w) : RowsAt l W w.drew := h.below (Below.refl _ _).drew
theorem RowsAt.alloc {l : List (Nat × List Value × TypeId)} {W w : World} (h : RowsAt l W w) (o : Obj) : RowsAt l W (w.alloc o) := h.below ((Below.refl _ _).alloc (Nat.le_refl _) _)
theorem RowsAt.row {l : List (Nat × List Value × TypeId)} {W w : World} (h : RowsAt l W w) (i : Nat) {b : Nat} {cs : List Value} {t : TypeId} (hi : l[i]? = some (b, cs, t)) : w.heap[b]? = some (.cells cs.toArray t (0, 0)) :=
  h.1 (b, cs, t) (List.mem_of_getElem? hi)
theorem RowsAt.rng {l : List (Nat × List Value × TypeId)} {W w : World} (h : RowsAt l W w) (i : Nat) {b : Nat} {cs : List Value} {t : TypeId} (hi : l[i]? = some (b, cs, t)) : w.rangeAt b 0 cs := range_cells (h.row i hi)
theorem RowsAt.push {l : List (Nat × List Value × TypeId)} {W w : World} {b : Nat} {cs : List Value} {t : TypeId} (h : RowsAt l W w) (hr : w.heap[b]? = some (.cells cs.toArray t (0, 0))) : RowsAt ((b, cs, t) :: l) W w :=
  ⟨fun p hp => (List.mem_cons.1 hp).elim (fun e => by rw [e]; exact hr) (fun e => h.1 p e), h.2⟩
theorem RowsAt.newRow {l : List (Nat × List Value × TypeId)} {W w : World} (h : RowsAt l W w) (o : Obj) (cs : Array Value) : RowsAt l W ((w.alloc o).setRow w.heap.size cs) :=
  h.below (below_setRow ((Below.refl _ _).alloc (Nat.le_refl _) _) (Nat.le_refl _) _)
theorem RowsAt.setRow {l : List (Nat × List Value × TypeId)} {W w : World} {b : Nat} {cs : Array Value} (h : RowsAt l W w) (hb : ∀ p ∈ l, p.1 < b) (hW : W.heap.size ≤ b) : RowsAt l W (w.setRow b cs) :=
  ⟨fun p hp => (setRow_other (by have := hb p hp; omega)).trans (h.1 p hp), below_setRow h.2 hW _⟩
theorem RowsAt.lt {l : List (Nat × List Value × TypeId)} {W w : World} (h : RowsAt l W w) : ∀ p ∈ l, p.1 < w.heap.size := fun p hp => row_lt (h.1 p hp)
theorem RowsAt.start (W : World) : RowsAt [] W W := ⟨(fun p hp => by cases hp), Below.refl _ _⟩
theorem RowsAt.here {l : List (Nat × List Value × TypeId)} {W w : World} (h : RowsAt l W w) : RowsAt l w w := ⟨h.1, Below.refl _ _⟩
/-- The same, and the blocks are new, each another one. -/
structure Held (l : List (Nat × List Value × TypeId)) (W w : World) : Prop where
  rows : RowsAt l W w
  new : ∀ p ∈ l, W.heap.size ≤ p.1
  apart : l.Pairwise (fun p q => p.1 ≠ q.1)
theorem Held.start (W : World) : Held [] W W := ⟨RowsAt.start W, (fun p hp => by cases hp), List.Pairwise.nil⟩
theorem Held.below {l : List (Nat × List Value × TypeId)} {W w w' : World} (h : Held l W w) (hb : Below w.heap.size w w') : Held l W w' := ⟨h.rows.below hb, h.new, h.apart⟩
theorem Held.drew {l : List (Nat × List Value × TypeId)} {W w : World} (h : Held l W w) : Held l W w.drew := h.below (Below.refl _ _).drew
theorem Held.alloc {l : List (Nat × List Value × TypeId)} {W w : World} (h : Held l W w) (o : Obj) : Held l W (w.alloc o) := h.below ((Below.refl _ _).alloc (Nat.le_refl _) _)
theorem Held.bel {l : List (Nat × List Value × TypeId)} {W w : World} (h : Held l W w) : Below W.heap.size W w := h.rows.2
theorem Held.row {l : List (Nat × List Value × TypeId)} {W w : World} (h : Held l W w) (i : Nat) {b : Nat} {cs : List Value} {t : TypeId} (hi : l[i]? = some (b, cs, t)) : w.heap[b]? = some (.cells cs.toArray t (0, 0)) := h.rows.row i hi
theorem Held.rng {l : List (Nat × List Value × TypeId)} {W w : World} (h : Held l W w) (i : Nat) {b : Nat} {cs : List Value} {t : TypeId} (hi : l[i]? = some (b, cs, t)) : w.rangeAt b 0 cs := h.rows.rng i hi
theorem Held.push {l : List (Nat × List Value × TypeId)} {W w : World} (h : Held l W w) (cs : List Value) (t : TypeId) : Held ((w.heap.size, cs, t) :: l) W (w.alloc (.cells cs.toArray t)) :=
  ⟨(h.rows.alloc _).push (heap_alloc_new w _), fun p hp => (List.mem_cons.1 hp).elim (fun e => by rw [e]; exact h.bel.size) (h.new p), List.pairwise_cons.2 ⟨fun p hp e => by have := h.rows.lt p hp; simp only at e; omega, h.apart⟩⟩
theorem Held.put {l : List (Nat × List Value × TypeId)} {W w : World} (h : Held l W w) (i : Nat) {b : Nat} {old : List Value} {t : TypeId} (hi : l[i]? = some (b, old, t)) (cs : List Value) : Held (l.set i (b, cs, t)) W (w.setRow b cs.toArray) := by
  have hmem := List.mem_of_getElem? hi
  have hil := (List.getElem?_eq_some_iff.1 hi).1
  have key : (l.set i (b, cs, t)).map (·.1) = l.map (·.1) := by
    apply List.ext_getElem?
    intro j
    rw [List.getElem?_map, List.getElem?_map, List.getElem?_set]
    by_cases e : i = j
    · subst e; rw [if_pos rfl, if_pos hil, hi]; rfl
    · rw [if_neg e]
  refine ⟨⟨fun p hp => ?_, below_setRow h.bel (h.new _ hmem) _⟩, fun p hp => ?_, ?_⟩
  · obtain ⟨j, hj⟩ := List.mem_iff_getElem?.1 hp
    rw [List.getElem?_set] at hj
    by_cases e : i = j
    · subst e
      rw [if_pos rfl, if_pos hil] at hj
      obtain rfl := Option.some.inj hj
      exact setRow_heap _ _ _ _ _ _ (h.rows.1 _ hmem)
    · rw [if_neg e] at hj
      have hpl := List.mem_of_getElem? hj
      refine (setRow_other ?_).trans (h.rows.1 p hpl)
      intro e2
      rw [List.getElem?_eq_some_iff] at hi hj
      obtain ⟨h1, e3⟩ := hi
      obtain ⟨h2, e4⟩ := hj
      have ap := List.pairwise_iff_getElem.1 h.apart
      rcases Nat.lt_or_gt_of_ne e with h3 | h3
      · exact ap i j h1 h2 h3 (by rw [e3, e4]; exact e2)
      · exact ap j i h2 h1 h3 (by rw [e3, e4]; exact e2.symm)
  · rcases List.mem_or_eq_of_mem_set hp with h1 | h1
    · exact h.new p h1
    · rw [h1]; exact h.new (b, old, t) hmem
  · have h1 : (l.map (·.1)).Pairwise (· ≠ ·) := List.pairwise_map.2 h.apart
    rw [← key] at h1
    exact List.pairwise_map.1 h1
/-- A variable is made. -/
theorem wpList_alloc_at {P : Program} {l : List (Nat × List Value × TypeId)} {W w : World} {ops : Array Oper} {rest : List Oper} {o : Oper} {a : Act} {Q : Exit → Act → World → Prop} (hS : Held l W w) (hgd : o.guard = none) (ty : TypeId) (ho : o.op = .alloc ty)
    (zs : List Value) (hz : (zeroValue ty).run P w = .ok (.agg zs.toArray) w)
    (h : ∀ w', Held ((w.heap.size, zs, ty) :: l) W w' → Below w.heap.size w w' → wpList P ops Q rest (a.put o.dst (.pointer (some ⟨w.heap.size, 0, none⟩))) w') : wpList P ops Q (o :: rest) a w :=
  wpList_plain hgd fun K hK => by
    unfold Oper.wp execOp
    simp only [ho, Instr.alloc, Sem.run_bind, hz, Result.andThen_ok, newVar, newRow]
    refine hK _ _ (h _ (hS.push zs ty) ((Below.refl _ _).alloc (Nat.le_refl _) _))
/-- A block just made: it holds cs, and is none of those that are listed. -/
structure Fresh (l : List (Nat × List Value × TypeId)) (W : World) (cs : List Value) (t : TypeId) (b : Nat) (w : World) : Prop where
  row : w.heap[b]? = some (.cells cs.toArray t (0, 0))
  lt : ∀ p ∈ l, p.1 < b
  le : W.heap.size ≤ b
theorem Held.fresh {l : List (Nat × List Value × TypeId)} {W w : World} (h : Held l W w) (cs : List Value) (t : TypeId) : Fresh l W cs t w.heap.size (w.alloc (.cells cs.toArray t)) := ⟨heap_alloc_new w _, h.rows.lt, h.bel.size⟩
theorem Fresh.below {l : List (Nat × List Value × TypeId)} {W w w' : World} {cs : List Value} {t : TypeId} {b : Nat} (h : Fresh l W cs t b w) (g : Below w.heap.size w w') : Fresh l W cs t b w' := ⟨(g.block _ (row_lt h.row)).trans h.row, h.lt, h.le⟩
theorem Held.stored {l : List (Nat × List Value × TypeId)} {W w : World} {old : List Value} {t : TypeId} {b : Nat} (h : Held l W w) (f : Fresh l W old t b w) (cs : List Value) : Held l W (w.setRow b cs.toArray) := ⟨h.rows.setRow f.lt f.le, h.new, h.apart⟩
theorem Held.more {l : List (Nat × List Value × TypeId)} {W w : World} {old : List Value} {t : TypeId} {b : Nat} (h : Held l W w) (f : Fresh l W old t b w) (cs : List Value) : Held ((b, cs, t) :: l) W (w.setRow b cs.toArray) :=
  ⟨(h.rows.setRow f.lt f.le).push (setRow_heap _ _ _ _ _ _ f.row), fun p hp => (List.mem_cons.1 hp).elim (fun e => by rw [e]; exact f.le) (h.new p), List.pairwise_cons.2 ⟨fun p hp e => by have := f.lt p hp; simp only at e; omega, h.apart⟩⟩
theorem Held.named {l : List (Nat × List Value × TypeId)} {W w : World} (h : Held l W w) : ∃ L, L = l ∧ Held L W w := ⟨l, rfl, h⟩
/-- A value goes into a variable of its own. -/
theorem wpList_box_at {P : Program} {l : List (Nat × List Value × TypeId)} {W w : World} {ops : Array Oper} {rest : List Oper} {o : Oper} {a : Act} {Q : Exit → Act → World → Prop} (hS : Held l W w) (hgd : o.guard = none) (ty : TypeId) (x : Operand) (ho : o.op = .box ty x)
    (cs : List Value) (hx : a.eval x = .agg cs.toArray)
    (h : ∀ w', Held ((w.heap.size, cs, ty) :: l) W w' → Below w.heap.size w w' → wpList P ops Q rest (a.put o.dst (.pointer (some ⟨w.heap.size, 0, none⟩))) w') : wpList P ops Q (o :: rest) a w :=
  wpList_plain hgd fun K hK => by
    unfold Oper.wp execOp
    simp only [ho, hx, Instr.box, Sem.run_bind, Result.andThen_ok, newVar, newRow]
    refine hK _ _ (h _ (hS.push cs ty) ((Below.refl _ _).alloc (Nat.le_refl _) _))
/-- A row that stands is stored into. -/
theorem wpList_store_at {P : Program} {l : List (Nat × List Value × TypeId)} {W w : World} {ops : Array Oper} {rest : List Oper} {o : Oper} {a : Act} {Q : Exit → Act → World → Prop} (i : Nat) (hS : Held l W w) (hgd : o.guard = none) (ty : TypeId) (x y : Operand) (ho : o.op = .store ty x y)
    (b : Nat) (hx : a.eval x = .pointer (some ⟨b, 0, none⟩)) (cells : List Value) (hy : a.eval y = .agg cells.toArray) (old : List Value) (t : TypeId) (hm : l[i]? = some (b, old, t))
    (hi : (P.info? ty).map (·.size) = some cells.length) (hold : old.length = cells.length) (h1 : cells.toArray.all (·.oneCell') = true)
    (h : ∀ w', Held (l.set i (b, cells, t)) W w' → w'.heap.size = w.heap.size → wpList P ops Q rest (a.put o.dst undef) w') : wpList P ops Q (o :: rest) a w :=
  wpList_store_row hgd ty x y ho b cells.toArray hx hy t old.toArray (hS.row i hm) (by simpa using hi) (by simpa using hold) h1
    (h _ (hS.put i hm cells) (size_setRow _ _ _))
/-- A row that stands is loaded. -/
theorem wpList_load_at {P : Program} {l : List (Nat × List Value × TypeId)} {W w : World} {ops : Array Oper} {rest : List Oper} {o : Oper} {a : Act} {Q : Exit → Act → World → Prop} (hS : Held l W w) (hw : Region.wanted o (yielded ops a.tmps) = true) (ty : TypeId) (x : Operand) (ho : o.op = .load ty x)
    (b : Nat) (hx : a.eval x = .pointer (some ⟨b, 0, none⟩)) (cs : List Value) (t : TypeId) (hm : (b, cs, t) ∈ l) (d : TypeDesc)
    (hu : P.underlying ty = some d) (hd : d.isRow = true) (hi : (P.info? ty).map (·.size) = some cs.length)
    (h : wpList P ops Q rest (a.put o.dst (.agg cs.toArray)) w) : wpList P ops Q (o :: rest) a w :=
  BigFrame.wpList_want hw fun _ hK => wp_load_mid ty x ho b 0 hx cs d (range_cells (hS.rows.1 _ hm)) hu hd hi (hK _ _ h)
theorem mem_0 {α : Type} {a  : α} {l : List α} : a ∈ a :: l := List.mem_cons_self
theorem mem_1 {α : Type} {a x0 : α} {l : List α} : a ∈ x0 :: a :: l := List.mem_cons_of_mem _ List.mem_cons_self
theorem mem_2 {α : Type} {a x0 x1 : α} {l : List α} : a ∈ x0 :: x1 :: a :: l := List.mem_cons_of_mem _ (List.mem_cons_of_mem _ List.mem_cons_self)
theorem mem_3 {α : Type} {a x0 x1 x2 : α} {l : List α} : a ∈ x0 :: x1 :: x2 :: a :: l := List.mem_cons_of_mem _ (List.mem_cons_of_mem _ (List.mem_cons_of_mem _ List.mem_cons_self))
theorem mem_4 {α : Type} {a x0 x1 x2 x3 : α} {l : List α} : a ∈ x0 :: x1 :: x2 :: x3 :: a :: l := List.mem_cons_of_mem _ (List.mem_cons_of_mem _ (List.mem_cons_of_mem _ (List.mem_cons_of_mem _ List.mem_cons_self)))
theorem mem_5 {α : Type} {a x0 x1 x2 x3 x4 : α} {l : List α} : a ∈ x0 :: x1 :: x2 :: x3 :: x4 :: a :: l := List.mem_cons_of_mem _ (List.mem_cons_of_mem _ (List.mem_cons_of_mem _ (List.mem_cons_of_mem _ (List.mem_cons_of_mem _ List.mem_cons_self))))
theorem mem_6 {α : Type} {a x0 x1 x2 x3 x4 x5 : α} {l : List α} : a ∈ x0 :: x1 :: x2 :: x3 :: x4 :: x5 :: a :: l := List.mem_cons_of_mem _ (List.mem_cons_of_mem _ (List.mem_cons_of_mem _ (List.mem_cons_of_mem _ (List.mem_cons_of_mem _ (List.mem_cons_of_mem _ List.mem_cons_self)))))
theorem mem_7 {α : Type} {a x0 x1 x2 x3 x4 x5 x6 : α} {l : List α} : a ∈ x0 :: x1 :: x2 :: x3 :: x4 :: x5 :: x6 :: a :: l := List.mem_cons_of_mem _ (List.mem_cons_of_mem _ (List.mem_cons_of_mem _ (List.mem_cons_of_mem _ (List.mem_cons_of_mem _ (List.mem_cons_of_mem _ (List.mem_cons_of_mem _ List.mem_cons_self))))))
theorem mem_8 {α : Type} {a x0 x1 x2 x3 x4 x5 x6 x7 : α} {l : List α} : a ∈ x0 :: x1 :: x2 :: x3 :: x4 :: x5 :: x6 :: x7 :: a :: l := List.mem_cons_of_mem _ (List.mem_cons_of_mem _ (List.mem_cons_of_mem _ (List.mem_cons_of_mem _ (List.mem_cons_of_mem _ (List.mem_cons_of_mem _ (List.mem_cons_of_mem _ (List.mem_cons_of_mem _ List.mem_cons_self)))))))
theorem mem_9 {α : Type} {a x0 x1 x2 x3 x4 x5 x6 x7 x8 : α} {l : List α} : a ∈ x0 :: x1 :: x2 :: x3 :: x4 :: x5 :: x6 :: x7 :: x8 :: a :: l := List.mem_cons_of_mem _ (List.mem_cons_of_mem _ (List.mem_cons_of_mem _ (List.mem_cons_of_mem _ (List.mem_cons_of_mem _ (List.mem_cons_of_mem _ (List.mem_cons_of_mem _ (List.mem_cons_of_mem _ (List.mem_cons_of_mem _ List.mem_cons_self))))))))
theorem mem_10 {α : Type} {a x0 x1 x2 x3 x4 x5 x6 x7 x8 x9 : α} {l : List α} : a ∈ x0 :: x1 :: x2 :: x3 :: x4 :: x5 :: x6 :: x7 :: x8 :: x9 :: a :: l := List.mem_cons_of_mem _ (List.mem_cons_of_mem _ (List.mem_cons_of_mem _ (List.mem_cons_of_mem _ (List.mem_cons_of_mem _ (List.mem_cons_of_mem _ (List.mem_cons_of_mem _ (List.mem_cons_of_mem _ (List.mem_cons_of_mem _ (List.mem_cons_of_mem _ List.mem_cons_self)))))))))
theorem mem_11 {α : Type} {a x0 x1 x2 x3 x4 x5 x6 x7 x8 x9 x10 : α} {l : List α} : a ∈ x0 :: x1 :: x2 :: x3 :: x4 :: x5 :: x6 :: x7 :: x8 :: x9 :: x10 :: a :: l := List.mem_cons_of_mem _ (List.mem_cons_of_mem _ (List.mem_cons_of_mem _ (List.mem_cons_of_mem _ (List.mem_cons_of_mem _ (List.mem_cons_of_mem _ (List.mem_cons_of_mem _ (List.mem_cons_of_mem _ (List.mem_cons_of_mem _ (List.mem_cons_of_mem _ (List.mem_cons_of_mem _ List.mem_cons_self))))))))))
theorem mem_12 {α : Type} {a x0 x1 x2 x3 x4 x5 x6 x7 x8 x9 x10 x11 : α} {l : List α} : a ∈ x0 :: x1 :: x2 :: x3 :: x4 :: x5 :: x6 :: x7 :: x8 :: x9 :: x10 :: x11 :: a :: l := List.mem_cons_of_mem _ (List.mem_cons_of_mem _ (List.mem_cons_of_mem _ (List.mem_cons_of_mem _ (List.mem_cons_of_mem _ (List.mem_cons_of_mem _ (List.mem_cons_of_mem _ (List.mem_cons_of_mem _ (List.mem_cons_of_mem _ (List.mem_cons_of_mem _ (List.mem_cons_of_mem _ (List.mem_cons_of_mem _ List.mem_cons_self)))))))))))
theorem mem_13 {α : Type} {a x0 x1 x2 x3 x4 x5 x6 x7 x8 x9 x10 x11 x12 : α} {l : List α} : a ∈ x0 :: x1 :: x2 :: x3 :: x4 :: x5 :: x6 :: x7 :: x8 :: x9 :: x10 :: x11 :: x12 :: a :: l := List.mem_cons_of_mem _ (List.mem_cons_of_mem _ (List.mem_cons_of_mem _ (List.mem_cons_of_mem _ (List.mem_cons_of_mem _ (List.mem_cons_of_mem _ (List.mem_cons_of_mem _ (List.mem_cons_of_mem _ (List.mem_cons_of_mem _ (List.mem_cons_of_mem _ (List.mem_cons_of_mem _ (List.mem_cons_of_mem _ (List.mem_cons_of_mem _ List.mem_cons_self))))))))))))
theorem mem_14 {α : Type} {a x0 x1 x2 x3 x4 x5 x6 x7 x8 x9 x10 x11 x12 x13 : α} {l : List α} : a ∈ x0 :: x1 :: x2 :: x3 :: x4 :: x5 :: x6 :: x7 :: x8 :: x9 :: x10 :: x11 :: x12 :: x13 :: a :: l := List.mem_cons_of_mem _ (List.mem_cons_of_mem _ (List.mem_cons_of_mem _ (List.mem_cons_of_mem _ (List.mem_cons_of_mem _ (List.mem_cons_of_mem _ (List.mem_cons_of_mem _ (List.mem_cons_of_mem _ (List.mem_cons_of_mem _ (List.mem_cons_of_mem _ (List.mem_cons_of_mem _ (List.mem_cons_of_mem _ (List.mem_cons_of_mem _ (List.mem_cons_of_mem _ List.mem_cons_self)))))))))))))
theorem mem_15 {α : Type} {a x0 x1 x2 x3 x4 x5 x6 x7 x8 x9 x10 x11 x12 x13 x14 : α} {l : List α} : a ∈ x0 :: x1 :: x2 :: x3 :: x4 :: x5 :: x6 :: x7 :: x8 :: x9 :: x10 :: x11 :: x12 :: x13 :: x14 :: a :: l := List.mem_cons_of_mem _ (List.mem_cons_of_mem _ (List.mem_cons_of_mem _ (List.mem_cons_of_mem _ (List.mem_cons_of_mem _ (List.mem_cons_of_mem _ (List.mem_cons_of_mem _ (List.mem_cons_of_mem _ (List.mem_cons_of_mem _ (List.mem_cons_of_mem _ (List.mem_cons_of_mem _ (List.mem_cons_of_mem _ (List.mem_cons_of_mem _ (List.mem_cons_of_mem _ (List.mem_cons_of_mem _ List.mem_cons_self))))))))))))))
end Go.Proofs.Ytppgpdckaaabeaa
