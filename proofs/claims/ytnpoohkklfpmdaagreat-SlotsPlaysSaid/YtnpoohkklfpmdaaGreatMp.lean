/- Maps in memory, told as plain functions from keys: whatever their elements are. For all layers; it hangs on no program. -/
import Derived.Maps.OwnSet
import Derived.Maps.OwnOps
import Derived.Maps.Range
import Derived.Test.YtnpoohkklfpmdaaGreatFr
namespace Go.Proofs.YtnpoohkklfpmdaaGreat
open Go.RowKit
open Go.Maps (Keyed)
set_option linter.unusedSimpArgs false
set_option linter.unusedVariables false
/-- An element is told as it is. -/
def anyElem (v : Value) : Option (DataW Value × List MemPlace) := some (.held v, [])
/-- What stands at each key. -/
abbrev Tell := Lit → Option Value
def Tell.put (f : Tell) (k : Lit) (v : Value) : Tell := fun x => if x.sameKey k then some v else f x
def Tell.del (f : Tell) (k : Lit) : Tell := fun x => if x.sameKey k then none else f x
theorem Tell.put_same (f : Tell) {k : Lit} (hk : WideAt.IsKeyLit k) (v : Value) : f.put k v k = some v := by simp [Tell.put, WideAt.sameKey_self hk]
theorem Tell.put_other (f : Tell) {k x : Lit} (h : x ≠ k) (v : Value) : f.put k v x = f x := by simp [Tell.put, Maps.sameKey_ne h]
theorem Tell.del_same (f : Tell) {k : Lit} (hk : WideAt.IsKeyLit k) : f.del k k = none := by simp [Tell.del, WideAt.sameKey_self hk]
theorem Tell.del_other (f : Tell) {k x : Lit} (h : x ≠ k) : f.del k x = f x := by simp [Tell.del, Maps.sameKey_ne h]
/-- The datum tells f. -/
def Tells (D : DataW Value) (f : Tell) : Prop := ∀ k, WideAt.IsKeyLit k → Maps.has D k = (f k).isSome ∧ ∀ z v, f k = some v → D.atKey k z = .held v
/-- Block b is a map that tells f. -/
def Mp (P : Program) (k : TypeId) (w : World) (b : Nat) (f : Tell) : Prop := ∃ D n, w.ownsMap P k anyElem b n D ∧ Tells D f
section
variable {P : Program} {k e t : TypeId} {w w' : World} {b : Nat} {f : Tell} {key v z : Value} {kl : Lit} {D : DataW Value}
theorem Mp.made (P : Program) (k : TypeId) (w : World) : Mp P k (w.alloc (.map #[] 0)) w.heap.size (fun _ => none) :=
  ⟨_, 0, World.ownsMap_made w P k anyElem, fun _ _ => ⟨rfl, fun _ _ h => by cases h⟩⟩
theorem Mp.keep (h : Mp P k w b f) (hb : w'.heap[b]? = w.heap[b]?) : Mp P k w' b f := by
  obtain ⟨D, n, ⟨es, clock, h1, h2, h3, h4⟩, ht⟩ := h
  exact ⟨D, n, ⟨es, clock, hb.trans h1, h2, h3, h4⟩, ht⟩
theorem Mp.lt (h : Mp P k w b f) : b < w.heap.size := by
  obtain ⟨D, n, h, _⟩ := h
  exact h.lt
theorem Mp.fr {ex : List Nat} (h : Mp P k w b f) (hf : Fr ex w w') (hn : b ∉ ex) : Mp P k w' b f := h.keep (hf.block b h.lt hn)
theorem Mp.below (h : Mp P k w b f) (hf : Below w.heap.size w w') : Mp P k w' b f := h.keep (hf.block b h.lt)
theorem Mp.alloc (h : Mp P k w b f) (o : Obj) : Mp P k (w.alloc o) b f := h.keep (Below.heap_alloc _ _ _ h.lt)
theorem Mp.isMap (h : Mp P k w b f) : ∃ es clock, w.heap[b]? = some (.map es clock) := by
  obtain ⟨D, n, ⟨es, clock, h1, _⟩, _⟩ := h
  exact ⟨es, clock, h1⟩
theorem Mp.set (h : Mp P k w b f) (a : Addr) (u : Value) : Mp P k (w.setCell a u) b f := by
  by_cases hb : b = a.block
  · obtain ⟨es, clock, h1⟩ := h.isMap
    refine h.keep ?_
    rw [World.setCell, Array.getElem?_modify, if_pos hb.symm, h1]
    rfl
  · exact h.keep (Below.heap_setCell _ _ _ _ hb)
theorem Mp.as {g : Tell} (h : Mp P k w b f) (e : ∀ k, WideAt.IsKeyLit k → f k = g k) : Mp P k w b g := by
  obtain ⟨D, n, h1, h2⟩ := h
  exact ⟨D, n, h1, fun x hx => by rw [← e x hx]; exact h2 x hx⟩
theorem mapTurned_fr (h : w.mapTurned w' b) : Fr [b] w w' := by
  obtain ⟨es, clock, es', clock', hb, rfl⟩ := h
  refine ⟨rfl, rfl, rfl, by simp [ChangeMaps.setBlock], fun j hj hn => ?_⟩
  simp only [ChangeMaps.setBlock]
  rw [Array.getElem?_setIfInBounds_ne]
  intro e
  exact hn (by rw [e]; exact List.mem_cons_self)
/-- 'v, ok := m[k]' -/
theorem Mp.look_ok (h : Mp P k w b f) (K : Keyed P k) (ht : P.underlying t = some (.map k e)) (hz : (zeroValue e).run P w = .ok z w) (hkey : keyOf P k key = some kl) :
    (Instr.lookup t (.map (some b)) key true).run P w = .ok (.tuple #[(f kl).getD z, .bool (f kl).isSome]) w := by
  obtain ⟨D, n, h1, h2⟩ := h
  obtain ⟨v, ps, hr, hv⟩ := h1.look_ok K ht hz (zd := .held z) (zp := []) rfl hkey
  obtain ⟨ha, hb⟩ := h2 kl (K.key hkey)
  rw [hr, ha]
  have hv' : D.atKey kl (.held z) = .held v := by
    simp only [anyElem, Option.some.injEq, Prod.mk.injEq] at hv
    exact hv.1.symm
  cases hf : f kl with
  | none =>
    rw [Maps.atKey_of_not_has (by rw [ha, hf]; rfl)] at hv'
    cases hv'
    rfl
  | some u =>
    rw [hb _ u hf] at hv'
    cases hv'
    rfl
/-- 'm[k]' -/
theorem Mp.look (h : Mp P k w b f) (K : Keyed P k) (ht : P.underlying t = some (.map k e)) (hz : (zeroValue e).run P w = .ok z w) (hkey : keyOf P k key = some kl) :
    (Instr.lookup t (.map (some b)) key false).run P w = .ok ((f kl).getD z) w := by
  obtain ⟨D, n, h1, h2⟩ := h
  obtain ⟨v, ps, hr, hv⟩ := h1.lookup K ht hz (zd := .held z) (zp := []) rfl hkey
  obtain ⟨ha, hb⟩ := h2 kl (K.key hkey)
  rw [hr]
  have hv' : D.atKey kl (.held z) = .held v := by
    simp only [anyElem, Option.some.injEq, Prod.mk.injEq] at hv
    exact hv.1.symm
  cases hf : f kl with
  | none =>
    rw [Maps.atKey_of_not_has (by rw [ha, hf]; rfl)] at hv'
    cases hv'
    rfl
  | some u =>
    rw [hb _ u hf] at hv'
    cases hv'
    rfl
theorem le_of_apart {α : Type} : ∀ (l L : List α), l.Pairwise (fun a b => a ≠ b) → (∀ x ∈ l, x ∈ L) → l.length ≤ L.length
  | [], _, _, _ => Nat.zero_le _
  | x :: l, L, h, hs => by
    obtain ⟨h1, h2⟩ := List.pairwise_cons.1 h
    obtain ⟨s, t, rfl⟩ := List.append_of_mem (hs x List.mem_cons_self)
    have := le_of_apart l (s ++ t) h2 fun y hy => by
      have hm := hs y (List.mem_cons_of_mem _ hy)
      simp only [List.mem_append, List.mem_cons] at hm ⊢
      rcases hm with hm | hm | hm
      · exact .inl hm
      · exact absurd hm.symm (h1 y hy)
      · exact .inr hm
    simp only [List.length_append, List.length_cons] at this ⊢
    omega
/-- A map has no more entries than there are keys. -/
theorem Mp.few (h : Mp P k w b f) (K : Keyed P k) (L : List Lit) (hL : ∀ x, WideAt.IsKeyLit x → (f x).isSome = true → x ∈ L) : ∃ D, w.ownsMap P k anyElem b L.length D ∧ Tells D f := by
  obtain ⟨D, n, h1, h2⟩ := h
  refine ⟨D, ?_, h2⟩
  obtain ⟨es, rfl, hp, hk⟩ := h1.entries K
  obtain ⟨xs, clock, hb, F, _, hD⟩ := h1
  refine ⟨xs, clock, hb, F, ?_, hD⟩
  have hl : es.length = xs.size := by
    simp only [DataW.map.injEq] at hD
    rw [hD, length_sorted]; simp
  rw [← hl]
  have := le_of_apart (es.map (·.1)) L (List.pairwise_map.2 hp) fun x hx => by
    obtain ⟨p, hp, rfl⟩ := List.mem_map.1 hx
    refine hL _ (hk p hp) ?_
    rw [← (h2 _ (hk p hp)).1, Maps.has_eq, List.any_eq_true]
    exact ⟨p, hp, WideAt.sameKey_self (hk p hp)⟩
  simpa using this
theorem Tells.put (h : Tells D f) (hD : Maps.IsMap D) (hk : WideAt.IsKeyLit kl) (v : Value) : Tells (D.put kl (.held v)) (f.put kl v) := by
  intro x hx
  by_cases e : x = kl
  · subst e
    rw [Maps.has_put_same hD hk, Tell.put_same f hk]
    refine ⟨rfl, fun z u hu => ?_⟩
    cases hu
    exact Maps.atKey_put_same hD hk _ _
  · rw [Maps.has_put_other e, Tell.put_other f e]
    exact ⟨(h x hx).1, fun z u hu => (Maps.atKey_put_other e _ _).trans ((h x hx).2 z u hu)⟩
theorem Tells.del (h : Tells D f) (hk : WideAt.IsKeyLit kl) : Tells (D.del kl) (f.del kl) := by
  intro x hx
  by_cases e : x = kl
  · subst e
    rw [Maps.has_del_same, Tell.del_same f hk]
    exact ⟨rfl, fun z u hu => by cases hu⟩
  · rw [Maps.has_del_other e, Tell.del_other f e]
    exact ⟨(h x hx).1, fun z u hu => (Maps.atKey_del_other e _).trans ((h x hx).2 z u hu)⟩
/-- 'm[k] = v' -/
theorem Mp.store (h : Mp P k w b f) (K : Keyed P k) (ht : P.underlying t = some (.map k e)) (L : List Lit) (hl : L.length < maxLen) (hL : ∀ x, WideAt.IsKeyLit x → (f x).isSome = true → x ∈ L) (hkey : keyOf P k key = some kl) (v : Value) :
    ∃ w', (Instr.mapUpdate t (.map (some b)) key v).run P w = .ok () w' ∧ Mp P k w' b (f.put kl v) ∧ w.mapTurned w' b := by
  obtain ⟨D, h1, h2⟩ := h.few K L hL
  obtain ⟨w', hr, ho, hm⟩ := h1.store K ht hl (d := .held v) (ps := []) hkey rfl
  exact ⟨w', hr, ⟨_, _, ho, h2.put h1.isMap (K.key hkey) v⟩, hm⟩
/-- 'delete(m, k)' -/
theorem Mp.drop (h : Mp P k w b f) (K : Keyed P k) (ht : P.underlying t = some (.map k e)) (hkey : keyOf P k key = some kl) (ty : TypeId) :
    ∃ w', (Builtin.delete_ #[t, k] ty #[.map (some b), key]).run P w = .ok (.tuple #[]) w' ∧ Mp P k w' b (f.del kl) ∧ w.mapTurned w' b := by
  obtain ⟨D, n, h1, h2⟩ := h
  obtain ⟨w', hr, ho, hm⟩ := h1.drop K ht hkey ty
  exact ⟨w', hr, ⟨_, _, ho, h2.del (K.key hkey)⟩, hm⟩
/-- 'clear(m)' -/
theorem Mp.clear (h : Mp P k w b f) (ht : P.underlying t = some (.map k e)) (ty : TypeId) :
    ∃ w', (Builtin.clear_ #[t] ty #[.map (some b)]).run P w = .ok (.tuple #[]) w' ∧ Mp P k w' b (fun _ => none) ∧ w.mapTurned w' b := by
  obtain ⟨D, n, ⟨es, clock, hb, F, hs, hD⟩, _⟩ := h
  refine ⟨ChangeMaps.setBlock w b (.map #[] clock), ?_, ⟨.map [], 0, ⟨#[], clock, ChangeMaps.heap_setBlock_same hb _, ⟨by simp, MapKept.stamped_empty clock, by simp⟩, Nat.le_refl _, rfl⟩, fun _ _ => ⟨rfl, fun _ _ h => by cases h⟩⟩, ⟨es, clock, #[], clock, hb, rfl⟩⟩
  simp [Builtin.clear_, run_underlying ht, MapKept.run_getObj_map hb, Result.andThen, MapKept.run_setObj_map _ hb, ChangeMaps.setBlock]
end
/-! ### at the operation -/
section
variable {P : Program} (w : World) {ops : Array Oper} {rest : List Oper} {o : Oper} {a : Act} {Q : Exit → Act → World → Prop}
/-- 'm[k]' -/
theorem wpList_look (hg : o.guard = none) (m x : Operand) (t : TypeId) (hop : o.op = Op.lookup t m x false) (k e : TypeId) (K : Keyed P k) (ht : P.underlying t = some (.map k e)) (z : Value) (hz : (zeroValue e).run P w = .ok z w) (b : Nat) (f : Tell)
    (hm : a.eval m = .map (some b)) (h : Mp P k w b f) (key : Value) (kl : Lit) (hx : a.eval x = key) (hkey : keyOf P k key = some kl) (v : Value) (hv : (f kl).getD z = v)
    (hK : wpList P ops Q rest (a.put o.dst v) w) : wpList P ops Q (o :: rest) a w := by
  refine wpList_plain hg fun K' hK' => ?_
  have hr := h.look K ht hz hkey
  rw [hv] at hr
  unfold Oper.wp
  simp [execOp, hop, hm, hx, hr, Result.andThen]
  exact hK' _ _ hK
/-- 'v, ok := m[k]' -/
theorem wpList_look_ok (hg : o.guard = none) (m x : Operand) (t : TypeId) (hop : o.op = Op.lookup t m x true) (k e : TypeId) (K : Keyed P k) (ht : P.underlying t = some (.map k e)) (z : Value) (hz : (zeroValue e).run P w = .ok z w) (b : Nat) (f : Tell)
    (hm : a.eval m = .map (some b)) (h : Mp P k w b f) (key : Value) (kl : Lit) (hx : a.eval x = key) (hkey : keyOf P k key = some kl) (v : Value) (hv : (f kl).getD z = v) (ok : Bool) (hok : (f kl).isSome = ok)
    (hK : wpList P ops Q rest (a.put o.dst (.tuple #[v, .bool ok])) w) : wpList P ops Q (o :: rest) a w := by
  refine wpList_plain hg fun K' hK' => ?_
  have hr := h.look_ok K ht hz hkey
  rw [hv, hok] at hr
  unfold Oper.wp
  simp [execOp, hop, hm, hx, hr, Result.andThen]
  exact hK' _ _ hK
/-- 'm[k] = v' -/
theorem wpList_store (hg : o.guard = none) (m x v : Operand) (t : TypeId) (hop : o.op = Op.mapUpdate t m x v) (k e : TypeId) (K : Keyed P k) (ht : P.underlying t = some (.map k e)) (b : Nat) (f : Tell)
    (hm : a.eval m = .map (some b)) (h : Mp P k w b f) (L : List Lit) (hl : L.length < maxLen) (hL : ∀ x, WideAt.IsKeyLit x → (f x).isSome = true → x ∈ L) (key val : Value) (kl : Lit) (hx : a.eval x = key) (hv : a.eval v = val) (hkey : keyOf P k key = some kl)
    (hK : ∀ w', Mp P k w' b (f.put kl val) → w.mapTurned w' b → wpList P ops Q rest (a.put o.dst undef) w') : wpList P ops Q (o :: rest) a w := by
  refine wpList_plain hg fun K' hK' => ?_
  obtain ⟨w', hr, h1, h2⟩ := h.store K ht L hl hL hkey val
  unfold Oper.wp
  simp [execOp, hop, hm, hx, hv, hr, Result.andThen]
  exact hK' _ _ (hK w' h1 h2)
/-- 'delete(m, k)' -/
theorem wpList_drop (hg : o.guard = none) (m x : Operand) (t k : TypeId) (hop : o.op = Op.call { callee := Callee.builtin Builtin.delete, args := #[m, x], argTypes := #[t, k] }) (e : TypeId) (K : Keyed P k) (ht : P.underlying t = some (.map k e)) (b : Nat) (f : Tell)
    (hm : a.eval m = .map (some b)) (h : Mp P k w b f) (key : Value) (kl : Lit) (hx : a.eval x = key) (hkey : keyOf P k key = some kl)
    (hK : ∀ w', Mp P k w' b (f.del kl) → w.mapTurned w' b → wpList P ops Q rest (a.put o.dst (.tuple #[])) w') : wpList P ops Q (o :: rest) a w := by
  refine wpList_plain hg fun K' hK' => ?_
  obtain ⟨w', hr, h1, h2⟩ := h.drop K ht hkey o.type
  unfold Oper.wp
  simp [execOp, hop, resolve, invoke, builtin, hm, hx, hr, Result.andThen]
  exact hK' _ _ (hK w' h1 h2)
/-- 'clear(m)' -/
theorem wpList_clear (hg : o.guard = none) (m : Operand) (t : TypeId) (hop : o.op = Op.call { callee := Callee.builtin Builtin.clear, args := #[m], argTypes := #[t] }) (k e : TypeId) (ht : P.underlying t = some (.map k e)) (b : Nat) (f : Tell)
    (hm : a.eval m = .map (some b)) (h : Mp P k w b f)
    (hK : ∀ w', Mp P k w' b (fun _ => none) → w.mapTurned w' b → wpList P ops Q rest (a.put o.dst (.tuple #[])) w') : wpList P ops Q (o :: rest) a w := by
  refine wpList_plain hg fun K' hK' => ?_
  obtain ⟨w', hr, h1, h2⟩ := h.clear ht o.type
  unfold Oper.wp
  simp [execOp, hop, resolve, invoke, builtin, hm, hr, Result.andThen]
  exact hK' _ _ (hK w' h1 h2)
end
end Go.Proofs.YtnpoohkklfpmdaaGreat
