import Derived.Test.YtlplgpmadfmjjaaDoorRows
import Derived.WalkKit
import Derived.Below
import Derived.ProofKit
import Derived.OpenShut
import Derived.ShutString
import Derived.ChangeOld
import Derived.Outline
import Derived.RegionTactic
import Derived.ChangeAlike
import Derived.BigRegion
import Derived.BigQuiet
import Derived.Deep.QuietTactic
import Derived.Deep.RegionWith
import Derived.Deep.RegionLaw
import Derived.Deep.RegionHeld3
import Derived.Deep.AppendLies
import Derived.Deep.Draws
import Derived.StillTailTactics
import Derived.Lib.Hide
import Derived.Lib.SmallJoins
import Derived.Handy
import Derived.Stop.BytesEq
import Derived.WalkSpells
import Derived.WalkSpells
import Derived.WalkLawsBesides
import Derived.Deep.LoopGhost
import Derived.Deep.DeepCutAuto
import Derived.Great.BuildSlice
import Derived.Test.YtlplgpmadfmjjaaDoorRefH
namespace Go.Proofs.YtlplgpmadfmjjaaDoor
open Go.RowKit
set_option linter.unusedSimpArgs false
set_option linter.unusedVariables false
set_option linter.unnecessarySimpa false
theorem cells_h0s : ((h0s.map fun x => (x.toNat : Int)).map (Value.int .u32)) = uc h0s := by simp [uc]
theorem cells_ks : ((ks.map fun x => (x.toNat : Int)).map (Value.int .u32)) = uc ks := by simp [uc]
theorem heap_new_at {w : World} {o : Obj} {n : Nat} (h : w.heap.size = n) : (w.alloc o).heap[n]? = some o := by subst h; exact heap_alloc_new w o
theorem words_row {w : World} {b n c : Nat} {l : List (BitVec 32)} {t : TypeId} {fr : Nat × Nat} (h : w.heap[b]? = some (.cells (uc l).toArray t fr)) (hn : n = l.length) : WordsAt w (.slice (some ⟨b, 0, none⟩) n c) l := by
  subst hn
  refine ⟨b, c, rfl, ?_, fun k hk => cell_row h (uc_get hk)⟩
  rcases Nat.lt_or_ge b w.heap.size with hlt | hge
  · exact hlt
  · rw [Array.getElem?_eq_none hge] at h; cases h
set_option maxHeartbeats 1000000 in
set_option maxRecDepth 100000 in
theorem quick_any (l : List UInt8) (w : World) (hl : l.length ≤ 1099511627776) :
    Calls Tryd.prog 18 #[.string ⟨l.toArray⟩] w fun e w' => e = .returned (aggB (sha l)) ∧ Below w.heap.size w w' := by
  have SZ := Lib.hid (show ((bcells (List.replicate 32 (0 : UInt8))).toArray).size = (bcells (sha l)).toArray.size from by simp [bcells, sha_len])
  have SZ2 := Lib.hid (show (Tryd.prog.info? 23).map (·.size) = some (bcells (sha l)).toArray.size from by simp [bcells, sha_len, info26])
  go_enter Tryd.func18, Tryd.ntmps18
  go_wp2_with (first
    | (refine wpList_buildFlatAt rfl 49 52 8 _ rfl .u32 (h0s.map fun x => (x.toNat : Int)) (w.heap.size + 2) (by simp) (some 4) rfl Tryd.underlying49 (by kernel_rfl) (by kernel_rfl) rfl (by decide) (by decide) (by kernel_rfl) ?_; rw [cells_h0s])
    | (refine wpList_buildFlatAt rfl 49 52 64 _ rfl .u32 (ks.map fun x => (x.toNat : Int)) (w.heap.size + 3) (by simp) (some 6) rfl Tryd.underlying49 (by kernel_rfl) (by kernel_rfl) rfl (by decide) (by decide) (by kernel_rfl) ?_; rw [cells_ks]))
  generalize hwa : World.alloc _ _ = wa
  have r0 : wa.heap[w.heap.size]? = some (.cells (bcells (List.replicate 32 0)).toArray 23 (0, 0)) := by
    rw [← hwa]
    exact (Below.heap_alloc _ _ _ (by simp <;> omega)).trans ((Below.heap_alloc _ _ _ (by simp <;> omega)).trans ((Below.heap_alloc _ _ _ (by simp)).trans (heap_alloc_new _ _)))
  have r2 : wa.heap[w.heap.size + 2]? = some (.cells (uc h0s).toArray 52 (0, 0)) := by
    rw [← hwa]
    exact (Below.heap_alloc _ _ _ (by simp)).trans (heap_new_at (by simp))
  have r3 : wa.heap[w.heap.size + 3]? = some (.cells (uc ks).toArray 52 (0, 0)) := by
    rw [← hwa]
    exact heap_new_at (by simp)
  have b1 : Below w.heap.size w wa := by
    rw [← hwa]
    exact ((((Below.refl _ _).alloc (Nat.le_refl _) _).alloc (by simp) _).alloc (by simp <;> omega) _).alloc (by simp <;> omega) _
  clear hwa
  have z0 : w.heap.size < wa.heap.size := by
    rcases Nat.lt_or_ge w.heap.size wa.heap.size with h | h
    · exact h
    · rw [Array.getElem?_eq_none h] at r0; cases r0
  refine (tsum_any _ _ l wa (words_row r2 rfl) (words_row r3 rfl) hl).mono ?_
  rintro e w2 ⟨rfl, g2⟩
  have R2 := Lib.hid ((g2.block _ z0).trans r0)
  have b2 := b1.trans (g2.mono b1.size)
  clear g2 b1 r0 r2 r3
  go_wp2_with (refine wpList_store_row rfl 23 (.tmp 2) (.tmp 10) rfl w.heap.size (bcells (sha l)).toArray rfl rfl 23 (bcells (List.replicate 32 0)).toArray R2.out SZ2.out SZ.out (ones_bc _) ?_)
  exact bodyPost_ret (v := aggB (sha l)) (results_cell_row Tryd.results18 _ _ w.heap.size 23 _ _ _ rfl (setRow_heap _ _ _ _ _ _ R2.out) Tryd.underlying23 rfl SZ2.out) rfl ⟨rfl, below_setRow b2 (Nat.le_refl _) _⟩
end Go.Proofs.YtlplgpmadfmjjaaDoor
