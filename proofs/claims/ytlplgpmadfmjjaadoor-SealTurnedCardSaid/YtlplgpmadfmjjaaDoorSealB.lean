/- The sealer: it is made; its key's block by closure. -/
import Derived.Test.YtlplgpmadfmjjaaDoorRows
import Derived.WalkKit
import Derived.Below
import Derived.ProofKit
import Derived.OpenShut
import Derived.ShutString
import Derived.ChangeOld
import Derived.Outline
import Derived.RegionTactic
import Derived.ChangeAlike
import Derived.BigRegion
import Derived.BigQuiet
import Derived.Deep.QuietTactic
import Derived.Deep.RegionWith
import Derived.Deep.RegionLaw
import Derived.Deep.RegionHeld3
import Derived.Deep.AppendLies
import Derived.Deep.Draws
import Derived.StillTailTactics
import Derived.Lib.Hide
import Derived.Lib.SmallJoins
import Derived.Handy
import Derived.Stop.BytesEq
import Derived.WalkSpells
import Derived.WalkLawsBesides
import Derived.Deep.LoopGhost
import Derived.Deep.DeepCutAuto
import Derived.Laws.Tables
import Derived.Great.FillDense
import Derived.Test.YtlplgpmadfmjjaaDoorSealA
namespace Go.Proofs.YtlplgpmadfmjjaaDoor
open Go.RowKit
set_option linter.unusedSimpArgs false
set_option linter.unusedVariables false
set_option linter.unnecessarySimpa false
/-- Block g is a sealer with the key's block B. -/
def Slr (w : World) (g : Nat) (B : List UInt8) : Prop := B.length = 64 ∧ w.heap[g]? = some (.cells (bcells B).toArray 42 (0, 0))
theorem Slr.lt {w : World} {g : Nat} {B : List UInt8} (h : Slr w g B) : g < w.heap.size := by
  rcases Nat.lt_or_ge g w.heap.size with hlt | hge
  · exact hlt
  · have := h.2; rw [Array.getElem?_eq_none hge] at this; cases this
theorem Slr.fr {w w' : World} {g : Nat} {B : List UInt8} {ex : List Nat} (h : Slr w g B) (hf : Fr ex w w') (hx : g ∉ ex) : Slr w' g B := ⟨h.1, (hf.block _ h.lt hx).trans h.2⟩
theorem Slr.below {w w' : World} {g : Nat} {B : List UInt8} (h : Slr w g B) (hf : Below w.heap.size w w') : Slr w' g B := h.fr (Fr.of_below (ex := []) hf) (by simp)
theorem fill_one (cs zs : List Value) (n : Nat) (hc : cs.length = n) (hz : zs.length = n) : Instr.fill (fun i => (#[(0, n)] : Array (Nat × Nat))[i]?) zs.toArray [(0, .agg cs.toArray)] = some cs.toArray := by
  unfold Instr.fill
  simp only [List.getElem?_toArray, List.getElem?_cons_zero, Value.cells]
  rw [if_neg (by simp [hc, hz])]
  unfold Instr.fill
  congr 1
  obtain ⟨h1, h2⟩ := Great.foldl_set 0 cs 0 zs.toArray
  apply Array.ext_getElem?
  intro k
  have e : ((cs.toArray.zipIdx).foldl (fun cs (x : Value × Nat) => cs.setIfInBounds (0 + x.2) x.1) zs.toArray) = ((cs.zipIdx 0).foldl (fun cs (x : Value × Nat) => cs.setIfInBounds (0 + x.2) x.1) zs.toArray) := by
    rw [← Array.foldl_toList]; simp
  refine Eq.trans (congrArg (·[k]?) e) ?_
  show _[k]? = _
  rw [h2 k]
  by_cases hk : k < n
  · rw [if_pos (by simp [hc, hz, hk])]; simp
  · rw [if_neg (by omega)]
    simp
    rw [List.getElem?_eq_none (by omega), List.getElem?_eq_none (by omega)]
theorem built42f (v : Value) : Tryd.prog.built 42 [(0, v)] = Instr.fill (fun i => (#[(0, 64)] : Array (Nat × Nat))[i]?) (bcells (List.replicate 64 0)).toArray [(0, v)] := by kernel_rfl
theorem built42 (B : List UInt8) (h : B.length = 64) : Tryd.prog.built 42 [(0, aggB B)] = some (bcells B).toArray := by
  rw [built42f]
  exact fill_one _ _ 64 (by rw [bcells_len, h]) (by rw [bcells_len, List.length_replicate])
/-- A new sealer with the key's block B. -/
def IsNew (w : World) (B : List UInt8) (e : Ending) (w' : World) : Prop := ∃ g, e = .returned (.pointer (some ⟨g, 0, none⟩)) ∧ w.heap.size ≤ g ∧ Slr w' g B ∧ Below w.heap.size w w'
set_option maxHeartbeats 1000000 in
set_option maxRecDepth 100000 in
theorem sealNew_any (key : List UInt8) (w : World) (ht : Tabs w) (hl : (key.length : Int) ≤ 1125899906842624) :
    Calls Tryd.prog 14 #[.string ⟨key.toArray⟩] w (IsNew w (blkK key)) := by
  have hB := blkK_len key
  have hb := built42 (blkK key) hB
  have HB := Lib.hid hB
  have HBU := Lib.hid hb
  clear hB hb
  go_enter Tryd.func14, Tryd.ntmps14
  go_wp2_with fail
  refine (blockOf_any key w ht hl).mono ?_
  generalize blkK key = B at *
  rintro e w2 ⟨rfl, g2⟩
  go_wp2_with (refine wpList_buildTo rfl 42 #[(0, .tmp 4)] rfl (some 5) rfl (bcells B).toArray (by simp [Act.eval]; exact HBU.out) ?_)
  go_ret
  exact ⟨w2.heap.size, rfl, g2.size, ⟨HB.out, heap_alloc_new w2 _⟩, g2.alloc g2.size _⟩
theorem xor8 (x y : UInt8) : bits .xor .u8 (x.toNat : Int) (y.toNat : Int) = ((x ^^^ y).toNat : Int) := by
  rw [u8_xor_nat _ _ x.toNat_lt y.toNat_lt, UInt8.toNat_xor]
/-- The block of which the first k bytes have been put to others. -/
def mixB (c : UInt8) (B : List UInt8) (k : Nat) : List UInt8 := xorB c (B.take k) ++ B.drop k
theorem mixB_len (c : UInt8) (B : List UInt8) (k : Nat) : (mixB c B k).length = B.length := by simp [mixB, xorB]; omega
theorem mixB_get (c : UInt8) (B : List UInt8) (k : Nat) (h : k < B.length) : (bcells (mixB c B k))[k]? = some (.int .u8 (B.getD k 0).toNat) := by
  have e : (mixB c B k)[k]? = B[k]? := by
    unfold mixB
    have hm : min k B.length = k := Nat.min_eq_left (by omega)
    rw [List.getElem?_append_right (by simp [xorB]; omega)]
    simp [xorB, hm]
  simp [bcells, e, h]
theorem mixB_set (c : UInt8) (B : List UInt8) (k : Nat) (h : k < B.length) : (mixB c B k).set k (B.getD k 0 ^^^ c) = mixB c B (k + 1) := by
  have hm : (List.map (fun x => x ^^^ c) (List.take k B)).length = k := by simp; omega
  unfold mixB xorB
  rw [List.set_append_right _ _ (by omega), hm, Nat.sub_self, List.drop_eq_getElem_cons h, List.set_cons_zero, List.take_add_one, List.getElem?_eq_getElem h, List.map_append, List.append_assoc]
  simp [h]
theorem mixB_end (c : UInt8) (B : List UInt8) : mixB c B B.length = xorB c B := by simp [mixB]
set_option maxHeartbeats 1000000 in
set_option maxRecDepth 100000 in
/-- The closure: the key's block, each byte put to another one. -/
theorem with_any (c : UInt8) (p g : Nat) (B : List UInt8) (w : World) (hp : w.cell? ⟨p, 0, none⟩ = some (.pointer (some ⟨g, 0, none⟩))) (hs : Slr w g B) :
    Calls Tryd.prog 21 #[.int .u8 c.toNat, .pointer (some ⟨p, 0, none⟩)] w fun e w' => e = .returned (.string ⟨(xorB c B).toArray⟩) ∧ Below w.heap.size w w' := by
  have hgl := hs.lt
  obtain ⟨hB, hrow⟩ := id hs
  have SZ := Lib.hid (show (Tryd.prog.info? 40).map (·.size) = some (bcells B).toArray.size from by rw [info40]; simp [bcells_len, hB])
  have SZ3 := Lib.hid (show ((bcells (List.replicate 64 (0 : UInt8))).toArray).size = (bcells B).toArray.size from by simp [bcells_len, hB])
  have HB := Lib.hid hB
  have HR := Lib.hid hrow
  clear hB hrow hs
  go_enter Tryd.func21, Tryd.ntmps21
  go_wp2_with (first
    | (refine wpList_load_row rfl 40 (.tmp 8) rfl g rfl 42 (bcells B).toArray (0, 0) _ HR.out Tryd.underlying40 rfl SZ.out ?_)
    | (refine wpList_store_row rfl 40 (.tmp 4) (.tmp 9) rfl w.heap.size (bcells B).toArray rfl rfl 40 (bcells (List.replicate 64 0)).toArray (heap_alloc_new w _) SZ.out SZ3.out (ones_bc _) ?_))
  generalize hw2 : World.setRow _ _ _ = w2
  have r2 : w2.heap[w.heap.size]? = some (.cells (bcells (mixB c B 0)).toArray 40 (0, 0)) := by
    rw [← hw2]; exact setRow_heap _ _ _ _ _ _ (heap_alloc_new w _)
  have b2 : Below w.heap.size w w2 := by rw [← hw2]; exact below_setRow ((Below.refl _ _).alloc (Nat.le_refl _) _) (Nat.le_refl _) _
  clear hw2
  have R2 := Lib.hid r2
  clear r2
  go_loopw [10] (fun i wr => ∃ k : Nat, k ≤ 64 ∧ i = .int .i64 k ∧ Hid (wr.heap[w.heap.size]? = some (.cells (bcells (mixB c B k)).toArray 40 (0, 0))) ∧ Below w.heap.size w wr) (fun i _ => 64 - (intOf i).toNat)
  case atStart => exact ⟨0, by omega, rfl, R2, b2⟩
  case round =>
    clear R2 b2
    obtain ⟨k, hk, rfl, hr, hbel⟩ := hrel
    by_cases hlt : k < 64
    · have kk : (k : Int) < 64 := by omega
      have c0 : wr.cell? ⟨w.heap.size, k, none⟩ = some (.int .u8 (B.getD k 0).toNat) := cell_row hr.out (mixB_get c B k (by rw [HB.out]; exact hlt))
      have f0 : wr.frozen? ⟨w.heap.size, k, none⟩ = false := frozen_of_row wr _ k _ _ hr.out
      have HS := Lib.hid (mixB_set c B k (by rw [HB.out]; exact hlt))
      generalize B.getD k 0 = x at c0 HS
      go_wp2
      go_roundw
      case rel =>
        refine ⟨k + 1, by omega, by go_num, Lib.hid ?_, hbel.setCell (by exact Nat.le_refl _) _⟩
        rw [xor8, ← HS.out, ← bcells_set]; exact set_row hr.out
      case measure => simp [intOf]; omega
    · obtain rfl : k = 64 := by omega
      have e : mixB c B 64 = xorB c B := by have := mixB_end c B; rw [HB.out] at this; exact this
      have hr2 : wr.heap[w.heap.size]? = some (.cells (List.replicate 0 (Value.int .u8 0) ++ bcells (xorB c B)).toArray 40 (0, 0)) := by rw [← e]; exact hr.out
      have hconv := run_b2s_tail (P := Tryd.prog) wr 45 9 5 w.heap.size 0 64 64 (.int .u8 0) (xorB c B) 40 (0, 0) Tryd.underlying45 Tryd.underlying5 Tryd.underlying9 hr2 (by rw [xorB_len, HB.out])
      clear hr2 e hr
      go_wp2
      go_ret
      exact ⟨rfl, hbel⟩
end Go.Proofs.YtlplgpmadfmjjaaDoor
