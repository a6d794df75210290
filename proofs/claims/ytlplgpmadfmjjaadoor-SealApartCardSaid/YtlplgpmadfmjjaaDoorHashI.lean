import Derived.Test.YtlplgpmadfmjjaaDoorRows
import Derived.WalkKit
import Derived.Below
import Derived.ProofKit
import Derived.OpenShut
import Derived.ShutString
import Derived.ChangeOld
import Derived.Outline
import Derived.RegionTactic
import Derived.ChangeAlike
import Derived.BigRegion
import Derived.BigQuiet
import Derived.Deep.QuietTactic
import Derived.Deep.RegionWith
import Derived.Deep.RegionLaw
import Derived.Deep.RegionHeld3
import Derived.Deep.AppendLies
import Derived.Deep.Draws
import Derived.StillTailTactics
import Derived.Lib.Hide
import Derived.Lib.SmallJoins
import Derived.Handy
import Derived.Deep.LoopGhost
import Derived.Deep.DeepCutAuto
import Derived.Laws.CopyOwn
import Derived.Test.YtlplgpmadfmjjaaDoorHashH
namespace Go.Proofs.YtlplgpmadfmjjaaDoor
open Go.RowKit
set_option linter.unusedSimpArgs false
set_option linter.unusedVariables false
theorem info55 : (Tryd.prog.info? 63).map (·.size) = some 73 := by kernel_rfl
theorem hcells_len (A : List (BitVec 32)) (blk : List UInt8) (n : Nat) (h1 : A.length = 8) (h2 : blk.length = 64) : (hcells A blk n).length = 73 := by
  unfold hcells; simp [uc_len, bcells_len, h1, h2]
theorem ones_h (A : List (BitVec 32)) (blk : List UInt8) (n : Nat) : (hcells A blk n).toArray.all (·.oneCell') = true := by
  rw [Array.all_eq_true_iff_forall_mem]; intro x hx
  simp only [hcells, List.mem_toArray, List.mem_append, List.mem_singleton] at hx
  rcases hx with hx | hx | hx
  · simp [uc] at hx; obtain ⟨a, _, rfl⟩ := hx; rfl
  · exact bcells_ones blk x hx
  · subst hx; rfl
/-- The cells of a zero hasher. -/
def hz0 : List Value := hcells (List.replicate 8 0) (List.replicate 64 0) 0
theorem zero55 (w : World) : (zeroValue 63).run Tryd.prog w = .ok (.agg hz0.toArray) w := by kernel_rfl
theorem hz0_len : hz0.length = 73 := rfl
theorem Has.zero {w : World} {b : Nat} (h : w.heap[b]? = some (.cells hz0.toArray 63 (0, 0))) : Has w b [] :=
  ⟨List.replicate 8 0, List.replicate 64 0, rfl, rfl, by decide, rfl, h⟩
theorem Has.u8 {w : World} {b : Nat} {l : List UInt8} (h : Has w b l) : ∃ A, U8At w b A ∧ sum8 A = blks l (l.length / 64) := by
  have hlt := h.lt
  obtain ⟨A, blk, hA, hblk, hS, _, hrow⟩ := h
  exact ⟨A, ⟨hA, hlt, fun k hk => cell_row hrow (by unfold hcells; rw [List.getElem?_append_left (by rw [uc_len]; omega)]; exact uc_get (by omega))⟩, hS⟩
set_option maxHeartbeats 1000000 in
set_option maxRecDepth 100000 in
theorem Sum_any (b : Nat) (l : List UInt8) (w : World) (ht : Tabs w) (hh : Has w b l) (hlen : (l.length : Int) ≤ 1125899906842624) :
    Calls Tryd.prog 27 #[.pointer (some ⟨b, 0, none⟩)] w fun e w' => e = .returned (aggB (sha l)) ∧ Below w.heap.size w w' := by
  have hbs := hh.lt
  have h1w := ht.2.2
  obtain ⟨A, blk, hA, hblk, hS, hB, hrow⟩ := id hh
  have h73 := hcells_len A blk l.length hA hblk
  have sz0 : (Tryd.prog.info? 63).map (·.size) = some (hcells A blk l.length).toArray.size := by simp [h73, info55]
  have SZ0 := Lib.hid sz0
  have szl : (hcells A blk l.length).toArray.size = 73 := by simp [h73]
  have SZL := Lib.hid szl
  have HL := Lib.hid hlen
  have HA := Lib.hid hA
  have HK := Lib.hid hblk
  have HS := Lib.hid hS
  have HB := Lib.hid hB
  have r0 : (w.alloc (.cells (bcells (List.replicate 32 0)).toArray 23)).heap[b]? = some (.cells (hcells A blk l.length).toArray 63 (0, 0)) := (Below.heap_alloc _ _ _ hbs).trans hrow
  have R0 := Lib.hid r0
  clear sz0 szl hlen hA hblk hS hB hrow h73 r0
  have z55 := zero55
  go_enter Tryd.func27, Tryd.ntmps27
  go_wp2_with (first
    | (refine wpList_load_row rfl 63 (.tmp 8) rfl b rfl 63 (hcells A blk l.length).toArray (0, 0) _ R0.out Tryd.underlying63 rfl SZ0.out ?_)
    | (refine wpList_store_row rfl 63 (.tmp 3) (.tmp 9) rfl (w.heap.size + 1) (hcells A blk l.length).toArray rfl rfl 63 _ (heap_alloc2_new w _ _) SZ0.out (by rw [SZL.out]; rfl) (ones_h _ _ _) ?_))
  generalize hw2 : World.setRow _ _ _ = w2
  have r2 : w2.heap[w.heap.size + 1]? = some (.cells (hcells A blk l.length).toArray 63 (0, 0)) := by rw [← hw2]; exact setRow_heap _ _ _ _ _ _ (heap_alloc2_new w _ _)
  have q2 : w2.heap[w.heap.size]? = some (.cells (bcells (List.replicate 32 0)).toArray 23 (0, 0)) := by
    rw [← hw2]; unfold World.setRow; simp only [Array.getElem?_modify]; rw [if_neg (by omega)]; exact heap_alloc2_old w _ _
  have bel2 : Below w.heap.size w w2 := by rw [← hw2]; exact below_setRow (((Below.refl _ _).alloc (Nat.le_refl _) _).alloc (by simp) _) (by omega) _
  clear hw2 R0
  have ht2 := ht.below bel2
  have hh2 : Has w2 (w.heap.size + 1) l := ⟨A, blk, HA.out, HK.out, HS.out, HB.out, r2⟩
  have Q2 := Lib.hid q2
  have lq : w.heap.size < w2.heap.size := by have := hh2.lt; omega
  clear q2 r2
  refine (end_any (w.heap.size + 1) l w2 ht2 (by omega) hh2 HL.out).mono ?_
  rintro e w3 ⟨rfl, h3, hf3⟩
  have hm : (l ++ padS l.length).length % 64 = 0 := by rw [List.length_append]; exact pad_mod _
  have ht3 := ht2.fr hf3 (fun k hk => by simp at hk; omega)
  obtain ⟨A3, u3, s3⟩ := h3.u8
  have q3 := (hf3.block _ lq (by simp)).trans Q2.out
  have hs : outB (sum8 A3) = sha l := by rw [s3]; rfl
  have HSh := Lib.hid hs
  clear hs s3 hm h3
  have lq3 := hf3.size
  go_wp2_with fail
  refine (hash_any _ A3 w3 ht3 u3).mono ?_
  rw [HSh.out]
  rintro e w4 ⟨rfl, h4⟩
  have q4 := (h4.block _ (show w.heap.size < w3.heap.size by omega)).trans q3
  have sz : ((bcells (List.replicate 32 (0 : UInt8))).toArray).size = (bcells (sha l)).toArray.size := by simp [bcells, sha_len]
  have sz2 : (Tryd.prog.info? 23).map (·.size) = some (bcells (sha l)).toArray.size := by simp [bcells, sha_len, info26]
  have SZ := Lib.hid sz
  have SZ2 := Lib.hid sz2
  have Q4 := Lib.hid q4
  clear sz sz2 q3 q4
  go_wp2_with (refine wpList_store_row rfl 23 (.tmp 2) (.tmp 12) rfl w.heap.size (bcells (sha l)).toArray rfl rfl 23 (bcells (List.replicate 32 0)).toArray Q4.out SZ2.out SZ.out (ones_bc _) ?_)
  refine bodyPost_ret (v := aggB (sha l)) (results_cell_row Tryd.results27 _ _ w.heap.size 23 _ _ _ rfl (setRow_heap _ _ _ _ _ _ Q4.out) Tryd.underlying23 rfl SZ2.out) rfl ⟨rfl, below_setRow ?_ (Nat.le_refl _) _⟩
  exact (bel2.trans (hf3.below (by omega) (fun k hk => by simp at hk; omega))).trans (h4.mono (by omega))
end Go.Proofs.YtlplgpmadfmjjaaDoor
