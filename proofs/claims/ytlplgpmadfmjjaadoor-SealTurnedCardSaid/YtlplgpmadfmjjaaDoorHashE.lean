import Derived.Test.YtlplgpmadfmjjaaDoorRows
import Derived.WalkKit
import Derived.Below
import Derived.ProofKit
import Derived.OpenShut
import Derived.ShutString
import Derived.ChangeOld
import Derived.Outline
import Derived.RegionTactic
import Derived.ChangeAlike
import Derived.BigRegion
import Derived.BigQuiet
import Derived.Deep.QuietTactic
import Derived.Deep.RegionWith
import Derived.Deep.RegionLaw
import Derived.Deep.RegionHeld3
import Derived.Deep.AppendLies
import Derived.Deep.Draws
import Derived.StillTailTactics
import Derived.Lib.Hide
import Derived.Lib.SmallJoins
import Derived.Handy
import Derived.Deep.LoopGhost
import Derived.Deep.DeepCutAuto
import Derived.Laws.CopyOwn
import Derived.Laws.CopyRow
import Derived.Test.YtlplgpmadfmjjaaDoorHashD
namespace Go.Proofs.YtlplgpmadfmjjaaDoor
open Go.RowKit
set_option linter.unusedSimpArgs false
set_option linter.unusedVariables false
theorem bcells_ones (l : List UInt8) : ∀ v ∈ bcells l, v.oneCell' = true := by
  intro v hv; simp only [bcells, List.mem_map] at hv; obtain ⟨x, _, rfl⟩ := hv; rfl
/-- 'copy(dst, s)' of a text, as much of it as there is room for. -/
theorem run_copy_text {P : Program} (w : World) (dT sT ty elem : TypeId) (g o dLen dCap n : Nat) (l : List UInt8) (cur : List Value) (t : TypeId)
    (hu : P.underlying dT = some (.slice elem)) (hs : (P.info? elem).map (·.size) = some 1) (hg : w.heap[g]? = some (.cells cur.toArray t (0, 0))) (hn : n = Nat.min l.length dLen) (hfit : o + n ≤ cur.length) :
    (Builtin.copy_ #[dT, sT] ty #[.slice (some ⟨g, o, none⟩) dLen dCap, .string ⟨l.toArray⟩]).run P w = .ok (goInt n) (w.setRow g (cur.take o ++ (bcells (l.take n) ++ cur.drop (o + n))).toArray) := by
  have hlen : (bcells (l.take n)).length = n := by rw [bcells_len, List.length_take, hn]; exact Nat.min_eq_left (Nat.min_le_left _ _)
  have hst := run_storeCells_at P g o t (bcells (l.take n)) 0 cur.toArray w hg (by rw [hlen]; simpa using hfit) (bcells_ones _)
  rw [hlen] at hst
  have htk : List.take n (List.map (fun b : UInt8 => Value.int IntKind.u8 (b.toNat : Int)) l) = bcells (l.take n) := by simp [bcells, List.map_take]
  have hsz : (ByteArray.mk l.toArray).size = l.length := by simp [ByteArray.size]
  cases hq : P.info? elem with
  | none => simp [hq] at hs
  | some i =>
    simp [Builtin.copy_, run_underlying hu, Builtin.lenOf, Builtin.firstCells, sizeOf, typeInfo, hq, hsz, ← hn]
    rw [htk, hst]
    simp [Result.andThen]
theorem wpList_copy_text {P : Program} {w : World} {ops : Array Oper} {rest : List Oper} {o : Oper} {a : Act} {Q : Exit → Act → World → Prop} (hgd : o.guard = none) (d s : Operand) (dT sT : TypeId)
    (ho : o.op = .call { callee := .builtin .copy, args := #[d, s], argTypes := #[dT, sT] }) (elem : TypeId) (hu : P.underlying dT = some (.slice elem)) (hsz : (P.info? elem).map (·.size) = some 1)
    (g off dLen dCap n : Nat) (l : List UInt8) (hd : a.eval d = .slice (some ⟨g, off, none⟩) dLen dCap) (hs : a.eval s = .string ⟨l.toArray⟩)
    (cur : List Value) (t : TypeId) (hg : w.heap[g]? = some (.cells cur.toArray t (0, 0))) (hn : n = Nat.min l.length dLen) (hfit : off + n ≤ cur.length)
    (h : ∀ w', w'.heap[g]? = some (.cells (cur.take off ++ (bcells (l.take n) ++ cur.drop (off + n))).toArray t (0, 0)) → Fr [g] w w' → wpList P ops Q rest (a.put o.dst (goInt n)) w') : wpList P ops Q (o :: rest) a w := by
  refine wpList_plain hgd fun K hK => ?_
  have hrun := run_copy_text (P := P) w dT sT o.type elem g off dLen dCap n l cur t hu hsz hg hn hfit
  unfold Oper.wp
  simp [execOp, ho, resolve, invoke, builtin, hd, hs, hrun, Result.andThen]
  refine hK _ _ (h _ (setRow_heap w g _ _ t _ hg) ⟨rfl, rfl, rfl, by simp, fun k hk hn => ?_⟩)
  unfold World.setRow
  simp only [Array.getElem?_modify]
  rw [if_neg (by rintro rfl; exact hn (by simp))]

/-- A hasher's cells: 8 numbers, a block, a count. -/
def hcells (A : List (BitVec 32)) (blk : List UInt8) (n : Nat) : List Value := uc A ++ (bcells blk ++ [.int .i64 n])
/-- Block b is a hasher that has the text l. -/
def Has (w : World) (b : Nat) (l : List UInt8) : Prop := ∃ (A : List (BitVec 32)) (blk : List UInt8), A.length = 8 ∧ blk.length = 64 ∧ sum8 A = blks l (l.length / 64) ∧ blk.take (l.length % 64) = l.drop (64 * (l.length / 64)) ∧ w.heap[b]? = some (.cells (hcells A blk l.length).toArray 63 (0, 0))
theorem Has.lt {w : World} {b : Nat} {l : List UInt8} (h : Has w b l) : b < w.heap.size := by
  obtain ⟨A, blk, _, _, _, _, h⟩ := h
  rcases Nat.lt_or_ge b w.heap.size with hlt | hge
  · exact hlt
  · rw [Array.getElem?_eq_none hge] at h; cases h
theorem Has.fr {w w' : World} {b : Nat} {l : List UInt8} {ex : List Nat} (h : Has w b l) (hf : Fr ex w w') (hb : b ∉ ex) : Has w' b l := by
  have hlt := h.lt
  obtain ⟨A, blk, h1, h2, h3, h4, h5⟩ := h
  exact ⟨A, blk, h1, h2, h3, h4, (hf.block b hlt hb).trans h5⟩
theorem Has.below {w w' : World} {b : Nat} {l : List UInt8} (h : Has w b l) (hf : Below w.heap.size w w') : Has w' b l := h.fr (Fr.of_below (ex := []) hf) (by simp)
theorem info5 : (Tryd.prog.info? 5).map (·.size) = some 1 := by kernel_rfl

theorem hcells_n (A : List (BitVec 32)) (blk : List UInt8) (n : Nat) (h1 : A.length = 8) (h2 : blk.length = 64) : (hcells A blk n)[72]? = some (.int .i64 n) := by
  unfold hcells
  rw [List.getElem?_append_right (by rw [uc_len]; omega), List.getElem?_append_right (by rw [uc_len, bcells_len]; omega), uc_len, bcells_len, h1, h2]
  rfl
theorem hcells_set (A : List (BitVec 32)) (blk : List UInt8) (n m : Nat) (h1 : A.length = 8) (h2 : blk.length = 64) : (hcells A blk n).set 72 (.int .i64 m) = hcells A blk m := by
  unfold hcells
  rw [List.set_append_right _ _ (by rw [uc_len]; omega), List.set_append_right _ _ (by rw [uc_len, bcells_len]; omega), uc_len, bcells_len, h1, h2]
  rfl
theorem hcells_copy (A : List (BitVec 32)) (blk c : List UInt8) (n u : Nat) (h1 : A.length = 8) (h2 : blk.length = 64) (h3 : u + c.length ≤ 64) :
    (hcells A blk n).take (8 + u) ++ (bcells c ++ (hcells A blk n).drop (8 + u + c.length)) = hcells A (blk.take u ++ (c ++ blk.drop (u + c.length))) n := by
  unfold hcells
  rw [List.take_append, List.drop_append, uc_len, h1, show 8 + u - 8 = u from by omega, show 8 + u + c.length - 8 = u + c.length from by omega,
    List.take_of_length_le (by rw [uc_len]; omega), List.drop_of_length_le (by rw [uc_len]; omega), List.take_append_of_le_length (by rw [bcells_len]; omega), List.drop_append_of_le_length (by rw [bcells_len]; omega)]
  simp [bcells, List.map_take, List.map_drop]
theorem copy_len (blk c : List UInt8) (u : Nat) (h2 : blk.length = 64) (h3 : u + c.length ≤ 64) : (blk.take u ++ (c ++ blk.drop (u + c.length))).length = 64 := by
  simp; omega
/-- A piece that does not fill the block. -/
theorem step_part (A : List (BitVec 32)) (l c blk : List UInt8) (h2 : blk.length = 64) (hS : sum8 A = blks l (l.length / 64)) (hB : blk.take (l.length % 64) = l.drop (64 * (l.length / 64))) (h3 : l.length % 64 + c.length < 64) :
    sum8 A = blks (l ++ c) ((l ++ c).length / 64) ∧ (blk.take (l.length % 64) ++ (c ++ blk.drop (l.length % 64 + c.length))).take ((l ++ c).length % 64) = (l ++ c).drop (64 * ((l ++ c).length / 64)) := by
  have e1 : (l ++ c).length / 64 = l.length / 64 := by rw [List.length_append]; omega
  have e2 : (l ++ c).length % 64 = l.length % 64 + c.length := by rw [List.length_append]; omega
  have e3 : (blk.take (l.length % 64)).length = l.length % 64 := by rw [List.length_take]; omega
  rw [e1, e2]
  refine ⟨hS.trans (blks_append _ _ _ (by omega)).symm, ?_⟩
  rw [List.drop_append_of_le_length (by omega), ← hB, ← List.append_assoc, List.take_append_of_le_length (by rw [List.length_append, e3]; exact Nat.le_refl _)]
  exact List.take_of_length_le (by rw [List.length_append, e3]; exact Nat.le_refl _)
/-- A piece that fills the block. -/
theorem step_full (A : List (BitVec 32)) (l c blk : List UInt8) (h2 : blk.length = 64) (hS : sum8 A = blks l (l.length / 64)) (hB : blk.take (l.length % 64) = l.drop (64 * (l.length / 64))) (h3 : l.length % 64 + c.length = 64) :
    compress (sum8 A) (blk.take (l.length % 64) ++ (c ++ blk.drop (l.length % 64 + c.length))) = blks (l ++ c) ((l ++ c).length / 64) ∧ (l ++ c).length % 64 = 0 ∧ (l ++ c).drop (64 * ((l ++ c).length / 64)) = [] := by
  have e1 : (l ++ c).length / 64 = l.length / 64 + 1 := by rw [List.length_append]; omega
  have e2 : (l ++ c).length % 64 = 0 := by rw [List.length_append]; omega
  refine ⟨?_, e2, List.drop_of_length_le (by omega)⟩
  rw [e1, blks, blks_append _ _ _ (by omega), hS, hB, List.drop_append_of_le_length (by omega)]
  congr 1
  rw [h3, show blk.drop 64 = [] from List.drop_of_length_le (by omega), List.append_nil]
  exact (List.take_of_length_le (by rw [List.length_append, List.length_drop]; omega)).symm
theorem has_block {w : World} {b n : Nat} {A : List (BitVec 32)} {blk : List UInt8} (h1 : A.length = 8) (h2 : blk.length = 64) (hb : b < w.heap.size) (h : w.heap[b]? = some (.cells (hcells A blk n).toArray 63 (0, 0))) : B64At w b blk :=
  ⟨h2, hb, fun k hk => cell_row h (by
    unfold hcells
    rw [List.getElem?_append_right (by rw [uc_len]; omega), uc_len, h1, show 8 + k - 8 = k from by omega, List.getElem?_append_left (by rw [bcells_len]; omega)]
    exact bcells_get (by omega))⟩
theorem Tabs.fr {w w' : World} {ex : List Nat} (h : Tabs w) (hf : Fr ex w w') (hx : ∀ k, k ∈ ex → 1 < k) : Tabs w' := by
  have h2 := h.2.2
  have b0 := hf.block 0 (by omega) (fun e => by have := hx 0 e; omega)
  have b1 := hf.block 1 (by omega) (fun e => by have := hx 1 e; omega)
  exact ⟨fun k hk => (World.cell?_of_block (w := w) b0).trans (h.1 k hk), fun k hk => (World.cell?_of_block (w := w) b1).trans (h.2.1 k hk), Nat.lt_of_lt_of_le h2 hf.size⟩
end Go.Proofs.YtlplgpmadfmjjaaDoor
