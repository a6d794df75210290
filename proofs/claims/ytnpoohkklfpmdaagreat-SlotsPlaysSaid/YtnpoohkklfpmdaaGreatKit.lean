/- Words and laws that hang on no program, for all layers. -/
import Derived.WalkKit
import Derived.Below
import Derived.BigFrame
import Derived.BigRegion
import Derived.BigQuiet
import Derived.Laws.Rows
import Derived.Laws.Tables
import Derived.Deep.MidRow
import Derived.Deep.RegionHeld3
import Derived.Deep.AppendLies
import Derived.Lib.Hide
import Derived.Test.YtnpoohkklfpmdaaGreatBase
import Derived.Test.YtnpoohkklfpmdaaGreatFr
namespace Go.Proofs.YtnpoohkklfpmdaaGreat
open Go.RowKit
set_option linter.unusedSimpArgs false
set_option linter.unusedVariables false
theorem take_set {α : Type} (M S : List α) (k : Nat) (x : α) (h : M.take k = S.take k) (hk : k < M.length) (hx : S[k]? = some x) : (M.set k x).take (k + 1) = S.take (k + 1) := by
  rw [List.take_add_one, List.take_add_one, hx, List.take_set_of_le (Nat.le_refl k), h]
  simp [hk]
theorem take_all {α : Type} (M S : List α) (n : Nat) (h : M.take n = S.take n) (hM : M.length = n) (hS : S.length = n) : M = S := by
  rw [← List.take_length (l := M), ← List.take_length (l := S), hM, hS, h]
theorem cell_row {w : World} {b k : Nat} {l : List Value} {t : TypeId} {fr : Nat × Nat} {v : Value} (hb : w.heap[b]? = some (.cells l.toArray t fr)) (h : l[k]? = some v) : w.cell? ⟨b, k, none⟩ = some v := by
  rw [cell_of_row w b k _ t fr hb]; simpa using h
theorem set_row {w : World} {b k : Nat} {l : List Value} {t : TypeId} {v : Value} (hb : w.heap[b]? = some (.cells l.toArray t (0, 0))) :
    (w.setCell ⟨b, k, none⟩ v).heap[b]? = some (.cells (l.set k v).toArray t (0, 0)) := by
  simp only [World.setCell, Array.getElem?_modify, hb]
  simp
theorem row_lt {w : World} {b : Nat} {o : Obj} (h : w.heap[b]? = some o) : b < w.heap.size := by
  rcases Nat.lt_or_ge b w.heap.size with hlt | hge
  · exact hlt
  · rw [Array.getElem?_eq_none hge] at h; cases h
theorem heap_new_at {w : World} {o : Obj} {n : Nat} (h : w.heap.size = n) : (w.alloc o).heap[n]? = some o := by subst h; exact heap_alloc_new w o
theorem bcells_get {l : List UInt8} {k : Nat} (h : k < l.length) : (bcells l)[k]? = some (.int .u8 (l.getD k 0).toNat) := by
  simp [bcells, h]
theorem bcells_set (l : List UInt8) (k : Nat) (x : UInt8) : (bcells l).set k (.int .u8 x.toNat) = bcells (l.set k x) := by simp [bcells, List.map_set]
theorem bcells_rep (n : Nat) : bcells (List.replicate n 0) = List.replicate n (.int .u8 0) := by simp [bcells]
theorem bcells_snoc (l : List UInt8) (x : UInt8) : bcells l ++ [.int .u8 x.toNat] = bcells (l ++ [x]) := by simp [bcells]
theorem bcells_take_succ (x : List UInt8) (k : Nat) (h : k < x.length) : bcells (x.take k) ++ [.int .u8 (x.getD k 0).toNat] = bcells (x.take (k + 1)) := by
  have e : (x.take (k + 1)) = x.take k ++ [x.getD k 0] := by
    rw [List.take_add_one, List.getElem?_eq_getElem h]; simp [h]
  rw [e]
  simp [bcells]
theorem below_setRow {B : Nat} {a w : World} (h : Below B a w) {g : Nat} (hp : B ≤ g) (cs : Array Value) : Below B a (w.setRow g cs) :=
  ⟨h.os, h.tape, h.output, by rw [size_setRow]; exact h.size, fun k hk => (by
    rw [← h.block k hk]
    unfold World.setRow
    simp only [Array.getElem?_modify]
    rw [if_neg (by omega)])⟩
theorem range_row {w : World} {b : Nat} {x : List UInt8} {t : TypeId} {fr : Nat × Nat} (h : w.heap[b]? = some (.cells (bcells x).toArray t fr)) : w.rangeAt b 0 (bcells x) := fun j v hv => by
  rw [Nat.zero_add]; exact cell_row h hv
theorem range_cells {w : World} {b : Nat} {l : List Value} {t : TypeId} {fr : Nat × Nat} (h : w.heap[b]? = some (.cells l.toArray t fr)) : w.rangeAt b 0 l := fun j v hv => by
  rw [Nat.zero_add]; exact cell_row h hv
theorem range_below {w w' : World} {b B : Nat} {cs : List Value} (h : w.rangeAt b 0 cs) (hb : Below B w w') (hlt : b < B) : w'.rangeAt b 0 cs := fun j v hv =>
  (hb.cell (p := ⟨b, 0 + j, none⟩) hlt).trans (h j v hv)
theorem wpList_load_g {P : Program} {ops : Array Oper} {rest : List Oper} {o : Oper} {a : Act} {w : World} {Q : Exit → Act → World → Prop} (hw : Region.wanted o (yielded ops a.tmps) = true) (ty : TypeId) (x : Operand) (ho : o.op = .load ty x)
    (b : Nat) (hx : a.eval x = .pointer (some ⟨b, 0, none⟩)) (cs : List Value) (d : TypeDesc) (hc : w.rangeAt b 0 cs)
    (hu : P.underlying ty = some d) (hd : d.isRow = true) (hi : (P.info? ty).map (·.size) = some cs.length)
    (h : wpList P ops Q rest (a.put o.dst (.agg cs.toArray)) w) : wpList P ops Q (o :: rest) a w :=
  BigFrame.wpList_want hw fun _ hK => wp_load_mid ty x ho b 0 hx cs d hc hu hd hi (hK _ _ h)
theorem results_cell_tmp {P : Program} {fn : Func} {p q : Tmp} {ty : TypeId} (h : fn.results = #[.cell p ty, .tmp q]) (tmps : Array Value) (w : World) (g : Nat) (t : TypeId) (cs : Array Value) (fr : Nat × Nat) (d : TypeDesc) (v : Value)
    (hp : tmps.getD p undef = .pointer (some ⟨g, 0, none⟩)) (hq : tmps.getD q undef = v) (hg : w.heap[g]? = some (.cells cs t fr))
    (hu : P.underlying ty = some d) (hd : (match d with | .struct _ | .array _ _ => true | _ => false) = true) (hi : (P.info? ty).map (·.size) = some cs.size) :
    (results fn tmps).run P w = .ok (.tuple #[.agg cs, v]) w := by
  have hp' : tmps[p]?.getD undef = .pointer (some ⟨g, 0, none⟩) := by simpa using hp
  have hq' : tmps[q]?.getD undef = v := by simpa using hq
  simp [results, h, hp', hq', asAddr, run_loadVar_row w g t ty cs fr d hg hu hd hi]
theorem Fr.cell {ex : List Nat} {a b : World} (h : Fr ex a b) {p : Addr} (hp : p.block < a.heap.size) (hx : p.block ∉ ex) : b.cell? p = a.cell? p := by
  unfold World.cell?; rw [h.block _ hp hx]
theorem Fr.then_below {ex : List Nat} {a b c : World} (h : Fr ex a b) (k : Below a.heap.size b c) : Fr ex a c :=
  ⟨k.os.trans h.os, k.tape.trans h.tape, k.output.trans h.output, Nat.le_trans h.size k.size, fun i hi hn => (k.block i hi).trans (h.block i hi hn)⟩
theorem own_setCell {w : World} {B size n : Nat} {e : TypeId} {v : Value} {xs : List Value} {p : Addr} (h : w.ownsRow B e size v n xs) (hp : p.block < B) (x : Value) : (w.setCell p x).ownsRow B e size v n xs := by
  refine ⟨h.1, ?_⟩
  rcases h.2 with h0 | ⟨g, cap, cur, e1, e2, hg, h3⟩
  · exact Or.inl h0
  · exact Or.inr ⟨g, cap, cur, e1, e2, by rw [heap_setCell_other _ _ _ _ (by omega)]; exact hg, h3⟩
theorem own_setRow {w : World} {B size n g : Nat} {e : TypeId} {v : Value} {xs : List Value} (h : w.ownsRow B e size v n xs) (hp : g < B) (cs : Array Value) : (w.setRow g cs).ownsRow B e size v n xs := by
  refine ⟨h.1, ?_⟩
  rcases h.2 with h0 | ⟨b, cap, cur, e1, e2, hg, h3⟩
  · exact Or.inl h0
  · refine Or.inr ⟨b, cap, cur, e1, e2, ?_, h3⟩
    rw [← hg]
    unfold World.setRow
    simp only [Array.getElem?_modify]
    rw [if_neg (by omega)]
theorem step_store_row {P : Program} {ops : Array Oper} {o : Oper} {a : Act} {w : World} {K : Act → World → Prop} {Q : Exit → Act → World → Prop} {E : Prop} (hw : Region.wanted o (yielded ops a.tmps) = true) (ty : TypeId) (x y : Operand) (ho : o.op = .store ty x y)
    (g : Nat) (cells : Array Value) (hx : a.eval x = .pointer (some ⟨g, 0, none⟩)) (hy : a.eval y = .agg cells)
    (t : TypeId) (old : Array Value) (hg : w.heap[g]? = some (.cells old t (0, 0))) (hi : (P.info? ty).map (·.size) = some cells.size)
    (hold : old.size = cells.size) (h1 : cells.all (·.oneCell') = true)
    (h : K (a.put o.dst undef) (w.setRow g cells)) : if Region.wanted o (yielded ops a.tmps) = true then Oper.wp P o a w K Q else E := by
  rw [if_pos hw]
  exact wp_store_row ty x y ho g cells hx hy t old hg hi hold h1 h
theorem idx_list (l : List UInt8) (i : Nat) (h : i < (ByteArray.mk l.toArray).size) : (ByteArray.mk l.toArray)[i]'h = l[i]'h := rfl
theorem setRow_other {w : World} {g k : Nat} {cs : Array Value} (h : g ≠ k) : (w.setRow g cs).heap[k]? = w.heap[k]? := by
  unfold World.setRow
  simp only [Array.getElem?_modify]
  rw [if_neg h]
end Go.Proofs.YtnpoohkklfpmdaaGreat
