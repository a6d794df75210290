/- Seals as plain functions; a key's block; the sealer's contracts. -/
import Derived.Test.YtlplgpmadfmjjaaDoorRows
import Derived.WalkKit
import Derived.Below
import Derived.ProofKit
import Derived.OpenShut
import Derived.ShutString
import Derived.ChangeOld
import Derived.Outline
import Derived.RegionTactic
import Derived.ChangeAlike
import Derived.BigRegion
import Derived.BigQuiet
import Derived.Deep.QuietTactic
import Derived.Deep.RegionWith
import Derived.Deep.RegionLaw
import Derived.Deep.RegionHeld3
import Derived.Deep.AppendLies
import Derived.Deep.Draws
import Derived.StillTailTactics
import Derived.Lib.Hide
import Derived.Lib.SmallJoins
import Derived.Handy
import Derived.Stop.BytesEq
import Derived.WalkSpells
import Derived.WalkLawsBesides
import Derived.Deep.LoopGhost
import Derived.Deep.DeepCutAuto
import Derived.Laws.Tables
import Derived.Great.FillDense
import Derived.Great.BuildSlice
import Derived.Test.YtlplgpmadfmjjaaDoorHashM
namespace Go.Proofs.YtlplgpmadfmjjaaDoor
open Go.RowKit
set_option linter.unusedSimpArgs false
set_option linter.unusedVariables false
set_option linter.unnecessarySimpa false
/-- A key's block, out of at most 64 bytes. -/
def padB (k : List UInt8) : List UInt8 := k ++ List.replicate (64 - k.length) 0
def shortK (key : List UInt8) : List UInt8 := if 64 < key.length then sha key else key
def blkK (key : List UInt8) : List UInt8 := padB (shortK key)
def xorB (c : UInt8) (l : List UInt8) : List UInt8 := l.map (· ^^^ c)
/-- The seal of a text under a key's block; under a key. -/
def hmacB (B s : List UInt8) : List UInt8 := sha (xorB 92 B ++ sha (xorB 54 B ++ s))
def hmac (key s : List UInt8) : List UInt8 := hmacB (blkK key) s
theorem shortK_len (key : List UInt8) : (shortK key).length ≤ 64 := by
  unfold shortK; split
  · rw [sha_len]; omega
  · omega
theorem padB_len (k : List UInt8) (h : k.length ≤ 64) : (padB k).length = 64 := by simp [padB]; omega
theorem blkK_len (key : List UInt8) : (blkK key).length = 64 := padB_len _ (shortK_len key)
theorem hmac_len (B s : List UInt8) : (hmacB B s).length = 32 := sha_len _
theorem hmac_len' (key s : List UInt8) : (hmac key s).length = 32 := sha_len _
theorem xorB_len (c : UInt8) (l : List UInt8) : (xorB c l).length = l.length := by simp [xorB]
theorem zero_block : padB [] = List.replicate 64 0 := rfl
theorem blkK_nil : blkK [] = List.replicate 64 0 := rfl

theorem info40 : (Tryd.prog.info? 40).map (·.size) = some 64 := by kernel_rfl
theorem info42 : (Tryd.prog.info? 42).map (·.size) = some 64 := by kernel_rfl
theorem infoH : (Tryd.prog.info? 45).map (·.size) = some 1 := by kernel_rfl
set_option maxHeartbeats 1000000 in
set_option maxRecDepth 100000 in
theorem blockOf_any (key : List UInt8) (w : World) (ht : Tabs w) (hl : (key.length : Int) ≤ 1125899906842624) :
    Calls Tryd.prog 19 #[.string ⟨key.toArray⟩] w fun e w' => e = .returned (aggB (blkK key)) ∧ Below w.heap.size w w' := by
  obtain ⟨k, hk⟩ : ∃ k, k = shortK key := ⟨_, rfl⟩
  have hk64 : k.length ≤ 64 := by rw [hk]; exact shortK_len key
  have hB : blkK key = padB k := by rw [hk]; rfl
  have HB := Lib.hid hB
  have HK := Lib.hid hk
  clear hB hk
  have SZ := Lib.hid (show (Tryd.prog.info? 40).map (·.size) = some (bcells (padB k)).toArray.size from by rw [info40]; simp [bcells_len, padB_len k hk64])
  have SZ3 := Lib.hid (show ((bcells (List.replicate 64 (0 : UInt8))).toArray).size = (bcells (padB k)).toArray.size from by simp [bcells_len, padB_len k hk64])
  have hlast : bcells k ++ (bcells (List.replicate 64 0)).drop k.length = bcells (padB k) := by
    rw [bcells_rep, List.drop_replicate, padB, bcells_append, bcells_rep]
  have HLAST := Lib.hid hlast
  have HN := Lib.hid (show k.length = Nat.min k.length 64 from (Nat.min_eq_left hk64).symm)
  have HL := Lib.hid hl
  clear hlast hl
  go_enter Tryd.func19, Tryd.ntmps19
  go_upto_if 6 with (fail)
  generalize hwa : World.alloc _ _ = wa
  have r0 : wa.heap[w.heap.size]? = some (.cells (bcells (List.replicate 64 0)).toArray 40 (0, 0)) := by rw [← hwa]; exact heap_alloc2_old w _ _
  have r1 : wa.heap[w.heap.size + 1]? = some (.cells (bcells (List.replicate 64 0)).toArray 40 (0, 0)) := by rw [← hwa]; exact heap_alloc2_new w _ _
  have ba : Below w.heap.size w wa := by rw [← hwa]; exact ((Below.refl _ _).alloc (Nat.le_refl _) _).alloc (by simp) _
  have za : wa.heap.size = w.heap.size + 2 := by rw [← hwa]; simp
  have ta := ht.below ba
  have R0 := Lib.hid r0
  have R1 := Lib.hid r1
  have ZA := Lib.hid za
  clear hwa r0 r1 za ht
  go_cut [0] (fun u w' => u = .string ⟨k.toArray⟩ ∧ Below wa.heap.size wa w')
  case first =>
    by_cases h : 64 < key.length
    · have hi : (64 : Int) < key.length := by omega
      have hks : sha key = k := by rw [HK.out, shortK, if_pos h]
      have HKS := Lib.hid hks
      clear hks
      go_wp2_with fail
      have a1 : Below wa.heap.size wa (wa.alloc (.cells #[.string ⟨key.toArray⟩] 9)) := (Below.refl _ _).alloc (Nat.le_refl _) _
      have s1 := strs_one (heap_alloc_new wa (.cells #[.string ⟨key.toArray⟩] 9))
      refine (Of_any (some ⟨wa.heap.size, 0, none⟩) 1 1 [key] _ (ta.below a1) s1 (by decide) (by have := HL.out; simp; omega)).mono ?_
      rw [sha_one, HKS.out]
      rintro e w2 ⟨rfl, g2⟩
      have b2 := a1.trans (g2.mono a1.size)
      clear a1 s1 g2
      go_wp2_with fail
      refine (Text_any k w2 (by rw [← HKS.out, sha_len])).mono ?_
      rintro e w3 ⟨rfl, g3⟩
      have b3 := b2.trans (g3.mono b2.size)
      clear b2 g3
      go_wp2
      go_meet
      case rel => exact ⟨rfl, b3⟩
    · have hi : (key.length : Int) ≤ 64 := by omega
      have hks : k = key := by rw [HK.out, shortK, if_neg h]
      have HKS := Lib.hid hks
      clear hks
      go_wp2
      go_meet
      case rel => exact ⟨by rw [HKS.out], Below.refl _ _⟩
  case rest =>
  obtain ⟨rfl, g1⟩ := hcut
  apply_assumption
  have z0 : w.heap.size < wa.heap.size := by have := ZA.out; omega
  have z1 : w.heap.size + 1 < wa.heap.size := by have := ZA.out; omega
  have S0 := Lib.hid ((g1.block _ z0).trans R0.out)
  have S1 := Lib.hid ((g1.block _ z1).trans R1.out)
  have b1 := ba.trans (g1.mono ba.size)
  have zc : w.heap.size + 1 < wc.heap.size := Nat.lt_of_lt_of_le z1 g1.size
  clear g1 ba R0 R1 ta z0 z1
  go_wp2_with (refine wpList_copy_text rfl (.tmp 11) (.tmp 12) 45 9 rfl 5 Tryd.underlying45 info5 (w.heap.size + 1) 0 64 64 k.length k rfl rfl (bcells (List.replicate 64 0)) 40 S1.out HN.out (by rw [bcells_len, List.length_replicate]; omega) ?_)
  intro w2 hr2' hf2
  have hr2 : w2.heap[w.heap.size + 1]? = some (.cells (bcells (padB k)).toArray 40 (0, 0)) := by rw [← HLAST.out]; exact hr2'
  clear hr2'
  have hr0 := (hf2.block w.heap.size (by omega) (by simp)).trans S0.out
  have bel2 : Below w.heap.size w w2 := b1.trans (hf2.below (by omega) (fun k hk => by simp at hk; omega))
  have R0 := Lib.hid hr0
  have R2 := Lib.hid hr2
  clear hr0 hr2 hf2 b1 zc
  go_wp2_with (first
    | (refine wpList_load_row rfl 40 (.tmp 3) rfl (w.heap.size + 1) rfl 40 (bcells (padB k)).toArray (0, 0) _ R2.out Tryd.underlying40 rfl SZ.out ?_)
    | (refine wpList_store_row rfl 40 (.tmp 2) (.tmp 14) rfl w.heap.size (bcells (padB k)).toArray rfl rfl 40 _ R0.out SZ.out SZ3.out (ones_bc _) ?_))
  rw [HB.out]
  exact bodyPost_ret (v := aggB (padB k)) (results_cell_row Tryd.results19 _ _ w.heap.size 40 _ _ _ rfl (setRow_heap _ _ _ _ _ _ R0.out) Tryd.underlying40 rfl SZ.out) rfl ⟨rfl, below_setRow bel2 (Nat.le_refl _) _⟩
end Go.Proofs.YtlplgpmadfmjjaaDoor
