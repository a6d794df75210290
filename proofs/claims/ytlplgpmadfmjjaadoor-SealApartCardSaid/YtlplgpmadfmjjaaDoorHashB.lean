import Derived.Test.YtlplgpmadfmjjaaDoorRows
import Derived.WalkKit
import Derived.Below
import Derived.ProofKit
import Derived.OpenShut
import Derived.ShutString
import Derived.ChangeOld
import Derived.Outline
import Derived.RegionTactic
import Derived.ChangeAlike
import Derived.BigRegion
import Derived.BigQuiet
import Derived.Deep.QuietTactic
import Derived.Deep.RegionWith
import Derived.Deep.RegionLaw
import Derived.Deep.RegionHeld3
import Derived.Deep.AppendLies
import Derived.Deep.Draws
import Derived.StillTailTactics
import Derived.Lib.Hide
import Derived.Lib.SmallJoins
import Derived.Handy
import Derived.Test.YtlplgpmadfmjjaaDoorBase
import Derived.Test.YtlplgpmadfmjjaaDoorHashA
namespace Go.Proofs.YtlplgpmadfmjjaaDoor
open Go.RowKit
set_option linter.unusedSimpArgs false
set_option linter.unusedVariables false

/-- Numbers of 32 bits, and bytes, as cells. -/
def uc (l : List (BitVec 32)) : List Value := l.map fun x => .int .u32 x.toNat
theorem uc_len (l : List (BitVec 32)) : (uc l).length = l.length := by simp [uc]
theorem take_set {α : Type} (M S : List α) (k : Nat) (x : α) (h : M.take k = S.take k) (hk : k < M.length) (hx : S[k]? = some x) : (M.set k x).take (k + 1) = S.take (k + 1) := by
  rw [List.take_add_one, List.take_add_one, hx, List.take_set_of_le (Nat.le_refl k), h]
  simp [hk]
theorem take_all {α : Type} (M S : List α) (n : Nat) (h : M.take n = S.take n) (hM : M.length = n) (hS : S.length = n) : M = S := by
  rw [← List.take_length (l := M), ← List.take_length (l := S), hM, hS, h]
theorem cell_row {w : World} {b k : Nat} {l : List Value} {t : TypeId} {fr : Nat × Nat} {v : Value} (hb : w.heap[b]? = some (.cells l.toArray t fr)) (h : l[k]? = some v) : w.cell? ⟨b, k, none⟩ = some v := by
  rw [cell_of_row w b k _ t fr hb]; simpa using h
theorem set_row {w : World} {b k : Nat} {l : List Value} {t : TypeId} {v : Value} (hb : w.heap[b]? = some (.cells l.toArray t (0, 0))) :
    (w.setCell ⟨b, k, none⟩ v).heap[b]? = some (.cells (l.set k v).toArray t (0, 0)) := by
  simp only [World.setCell, Array.getElem?_modify, hb]
  simp
theorem uc_get {l : List (BitVec 32)} {k : Nat} (h : k < l.length) : (uc l)[k]? = some (.int .u32 (l.getD k 0).toNat) := by
  simp [uc, h]
theorem uc_set (l : List (BitVec 32)) (k : Nat) (x : BitVec 32) : (uc l).set k (.int .u32 x.toNat) = uc (l.set k x) := by simp [uc, List.map_set]
theorem uc_rep (n : Nat) : uc (List.replicate n 0) = List.replicate n (.int .u32 0) := by simp [uc]
theorem bcells_get {l : List UInt8} {k : Nat} (h : k < l.length) : (bcells l)[k]? = some (.int .u8 (l.getD k 0).toNat) := by
  simp [bcells, h]
theorem bcells_set (l : List UInt8) (k : Nat) (x : UInt8) : (bcells l).set k (.int .u8 x.toNat) = bcells (l.set k x) := by simp [bcells, List.map_set]
theorem bcells_rep (n : Nat) : bcells (List.replicate n 0) = List.replicate n (.int .u8 0) := by simp [bcells]

/-- The two tables of the program, as they lie in memory. -/
def Tabs (w : World) : Prop := (∀ k, k < 64 → w.cell? ⟨0, k, none⟩ = some (.int .u32 (ks.getD k 0).toNat)) ∧ (∀ k, k < 8 → w.cell? ⟨1, k, none⟩ = some (.int .u32 (h0s.getD k 0).toNat)) ∧ 1 < w.heap.size
theorem Tabs.below {w w' : World} (h : Tabs w) (hb : Below w.heap.size w w') : Tabs w' := by
  have h2 := h.2.2
  have e0 : 0 < w.heap.size := by omega
  have e1 : 1 < w.heap.size := by omega
  exact ⟨fun k hk => (hb.cell (p := ⟨_, k, none⟩) e0).trans (h.1 k hk), fun k hk => (hb.cell (p := ⟨_, k, none⟩) e1).trans (h.2.1 k hk), Nat.lt_of_lt_of_le h2 hb.size⟩
theorem Tabs.heap {w w' : World} (h : Tabs w) (hh : w'.heap = w.heap) : Tabs w' := by
  unfold Tabs World.cell?; rw [hh]; exact h

/-- The cells of 8 numbers at the head of a block. -/
def U8At (w : World) (b : Nat) (A : List (BitVec 32)) : Prop := A.length = 8 ∧ b < w.heap.size ∧ ∀ k, k < 8 → w.cell? ⟨b, k, none⟩ = some (.int .u32 (A.getD k 0).toNat)
theorem U8At.below {w w' : World} {b : Nat} {A : List (BitVec 32)} (h : U8At w b A) (hb : Below w.heap.size w w') : U8At w' b A :=
  ⟨h.1, Nat.lt_of_lt_of_le h.2.1 hb.size, fun k hk => (hb.cell (p := ⟨_, k, none⟩) h.2.1).trans (h.2.2 k hk)⟩
def sum8 (A : List (BitVec 32)) : List (BitVec 32) := List.zipWith (· + ·) h0s A
theorem sum8_len {A : List (BitVec 32)} (h : A.length = 8) : (sum8 A).length = 8 := by simp [sum8, h, h0s]
theorem sum8_get {A : List (BitVec 32)} (h : A.length = 8) {k : Nat} (hk : k < 8) : (sum8 A)[k]? = some (h0s.getD k 0 + A.getD k 0) := by
  have h0 : h0s.length = 8 := rfl
  simp [sum8, List.getElem?_zipWith, h, h0, hk]
/-- The numbers, as one value. -/
def aggU (l : List (BitVec 32)) : Value := .agg (uc l).toArray

theorem below_setRow {B : Nat} {a w : World} (h : Below B a w) {g : Nat} (hp : B ≤ g) (cs : Array Value) : Below B a (w.setRow g cs) :=
  ⟨h.os, h.tape, h.output, by rw [size_setRow]; exact h.size, fun k hk => (by
    rw [← h.block k hk]
    unfold World.setRow
    simp only [Array.getElem?_modify]
    rw [if_neg (by omega)])⟩
theorem info51 : (Tryd.prog.info? 60).map (·.size) = some 8 := by kernel_rfl
theorem rep8 : List.replicate 8 (Value.int .u32 0) = uc (List.replicate 8 0) := rfl
theorem ones_uc (l : List (BitVec 32)) : (uc l).toArray.all (·.oneCell') = true := by
  rw [Array.all_eq_true_iff_forall_mem]; intro x hx; simp [uc] at hx; obtain ⟨a, _, rfl⟩ := hx; rfl
set_option maxHeartbeats 400000 in
theorem whole_any (b : Nat) (A : List (BitVec 32)) (w : World) (ht : Tabs w) (ha : U8At w b A) :
    Calls Tryd.prog 34 #[.pointer (some ⟨b, 0, none⟩)] w fun e w' => e = .returned (aggU (sum8 A)) ∧ Below w.heap.size w w' := by
  have hlen := sum8_len ha.1
  have Hlen := Lib.hid hlen
  clear hlen
  have h1 := ht.2.2
  have hbs := ha.2.1
  go_enter Tryd.func34, Tryd.ntmps34
  go_wp2
  go_loopw [5] (fun i wr => ∃ k : Nat, ∃ M : List (BitVec 32), k ≤ 8 ∧ i = .int .i64 k ∧ M.length = 8 ∧ M.take k = (sum8 A).take k ∧ wr.heap[w.heap.size]? = some (.cells (uc (List.replicate 8 0)).toArray 60 (0, 0)) ∧ wr.heap[w.heap.size + 1]? = some (.cells (uc M).toArray 60 (0, 0)) ∧ Below w.heap.size w wr) (fun i _ => 8 - (intOf i).toNat)
  case atStart =>
    exact ⟨0, List.replicate 8 0, by omega, rfl, rfl, rfl, heap_alloc2_old w _ _, heap_alloc2_new w _ _, ((Below.refl _ _).alloc (Nat.le_refl _) _).alloc (by simp) _⟩
  case round =>
    obtain ⟨k, M, hk, rfl, hM, hT, hr0, hr1, hbel⟩ := hrel
    by_cases hlt : k < 8
    · have c1 := (ht.below hbel).2.1 k hlt
      have c2 := (ha.below hbel).2.2 k hlt
      have c3 : wr.cell? ⟨w.heap.size + 1, k, none⟩ = some (.int .u32 (M.getD k 0).toNat) := cell_row hr1 (uc_get (by omega))
      have f3 : wr.frozen? ⟨w.heap.size + 1, k, none⟩ = false := frozen_of_row wr _ k _ _ hr1
      have kk : (k : Int) < 8 := by omega
      have hS := sum8_get ha.1 hlt
      generalize h0s.getD k 0 = x at c1 hS
      generalize A.getD k 0 = y at c2 hS
      generalize M.getD k 0 = z at c3
      have HS := Lib.hid hS
      clear hS
      have HM := Lib.hid hM
      have HT := Lib.hid hT
      have R0 := Lib.hid hr0
      have R1 := Lib.hid hr1
      clear hM hT hr0 hr1
      go_wp2
      go_region
      go_wp2
      go_roundw
      case rel =>
        refine ⟨k + 1, M.set k (x + y), by omega, by go_num, by simpa using HM.out, take_set _ _ _ _ HT.out (by rw [HM.out]; omega) HS.out, ?_, ?_, ?_⟩
        · rw [heap_drew, heap_setCell_other _ _ _ _ (by simp)]; exact R0.out
        · rw [heap_drew, add32, ← uc_set]; exact set_row R1.out
        · exact (hbel.setCell (by simp) _).drew
      case measure => simp [intOf]; omega
    · obtain rfl : k = 8 := by omega
      obtain rfl : M = sum8 A := take_all _ _ 8 hT hM Hlen.out
      clear hT hM
      have sz : ((uc (List.replicate 8 (0 : BitVec 32))).toArray).size = (uc (sum8 A)).toArray.size := by simp [uc, Hlen.out]
      have sz2 : (Tryd.prog.info? 60).map (·.size) = some (uc (sum8 A)).toArray.size := by simp [uc, Hlen.out, info51]
      have SZ := Lib.hid sz
      have SZ2 := Lib.hid sz2
      have R0 := Lib.hid hr0
      have R1 := Lib.hid hr1
      clear sz sz2 hr0 hr1
      go_wp2_with (first
        | (refine wpList_load_row rfl 60 (.tmp 3) rfl (w.heap.size + 1) rfl 60 (uc (sum8 A)).toArray (0, 0) _ R1.out Tryd.underlying60 rfl SZ2.out ?_)
        | (refine wpList_store_row rfl 60 (.tmp 2) (.tmp 20) rfl w.heap.size (uc (sum8 A)).toArray rfl rfl 60 (uc (List.replicate 8 0)).toArray R0.out SZ2.out SZ.out (ones_uc _) ?_))
      exact bodyPost_ret (v := aggU (sum8 A)) (results_cell_row Tryd.results34 _ _ w.heap.size 60 _ _ _ rfl (setRow_heap _ _ _ _ _ _ R0.out) Tryd.underlying60 rfl SZ2.out) rfl ⟨rfl, below_setRow hbel (Nat.le_refl _) _⟩
end Go.Proofs.YtlplgpmadfmjjaaDoor
