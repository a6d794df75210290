/- Of and Right of seals; the law's example. -/
import Derived.WalkKit
import Derived.Below
import Derived.ProofKit
import Derived.OpenShut
import Derived.ShutString
import Derived.ChangeOld
import Derived.Outline
import Derived.RegionTactic
import Derived.ChangeAlike
import Derived.BigRegion
import Derived.BigQuiet
import Derived.Deep.QuietTactic
import Derived.Deep.RegionWith
import Derived.Deep.RegionLaw
import Derived.Deep.RegionHeld3
import Derived.Deep.AppendLies
import Derived.Deep.Draws
import Derived.StillTailTactics
import Derived.Lib.Hide
import Derived.Lib.SmallJoins
import Derived.Handy
import Derived.Stop.BytesEq
import Derived.WalkSpells
import Derived.WalkLawsBesides
import Derived.Deep.LoopGhost
import Derived.Deep.DeepCutAuto
import Derived.Laws.Tables
import Derived.Great.FillDense
import Derived.Test.YtlplgpmadfmjjaaDoorRows
import Derived.Test.YtlplgpmadfmjjaaDoorSealC
import Derived.Test.YtlplgpmadfmjjaaDoorHashO
namespace Go.Proofs.YtlplgpmadfmjjaaDoor
open Go.RowKit
set_option linter.unusedSimpArgs false
set_option linter.unusedVariables false
set_option linter.unnecessarySimpa false
set_option maxHeartbeats 1000000 in
set_option maxRecDepth 100000 in
theorem sealOf_any (key s V : List UInt8) (w : World) (hV : hmac key s = V) (ht : Tabs w) (hk : (key.length : Int) ≤ 1099511627776) (hs : (s.length : Int) ≤ 1099511627776) :
    Calls Tryd.prog 12 #[.string ⟨key.toArray⟩, .string ⟨s.toArray⟩] w fun e w' => e = .returned (aggB V) ∧ Below w.heap.size w w' := by
  have hv32 : V.length = 32 := by rw [← hV, hmac_len']
  have SZ := Lib.hid (show ((bcells (List.replicate 32 (0 : UInt8))).toArray).size = (bcells V).toArray.size from by simp [bcells, hv32])
  have SZ2 := Lib.hid (show (Tryd.prog.info? 23).map (·.size) = some (bcells V).toArray.size from by simp [bcells, hv32, info26])
  have HV := Lib.hid hV
  have HK := Lib.hid hk
  have HS := Lib.hid hs
  clear hV hv32 hk hs
  go_enter Tryd.func12, Tryd.ntmps12
  go_wp2_with fail
  generalize hwa : World.alloc _ _ = wa
  have r0 : wa.heap[w.heap.size]? = some (.cells (bcells (List.replicate 32 0)).toArray 23 (0, 0)) := by rw [← hwa]; exact heap_alloc_new w _
  have ba : Below w.heap.size w wa := by rw [← hwa]; exact (Below.refl _ _).alloc (Nat.le_refl _) _
  have R0 := Lib.hid r0
  have za := row_lt r0
  clear hwa r0
  refine (sealNew_any key wa (ht.below ba) (by have := HK.out; omega)).mono ?_
  rintro e w2 ⟨g, rfl, hg, hsl, g2⟩
  have R2 := Lib.hid ((g2.block _ za).trans R0.out)
  have b2 := ba.trans (g2.mono ba.size)
  have z2 := Nat.lt_of_lt_of_le za g2.size
  clear R0 ba g2 za
  go_wp2_with fail
  have a3 : Below w2.heap.size w2 (w2.alloc (.cells #[.string ⟨s.toArray⟩] 9)) := (Below.refl _ _).alloc (Nat.le_refl _) _
  have s3 := strs_one (heap_alloc_new w2 (.cells #[.string ⟨s.toArray⟩] 9))
  refine (Seal_any g (blkK key) (some ⟨w2.heap.size, 0, none⟩) 1 1 [s] _ ((ht.below b2).below a3) (hsl.below a3) s3 (by decide) (by have := HS.out; simp; omega)).mono ?_
  rw [show hmacB (blkK key) [s].flatten = V from by rw [← HV.out]; simp [hmac]]
  rintro e w4 ⟨rfl, g4⟩
  have R4 := Lib.hid ((g4.block _ (Nat.lt_of_lt_of_le z2 a3.size)).trans ((a3.block _ z2).trans R2.out))
  have b4 := (b2.trans (a3.mono b2.size)).trans (g4.mono (Nat.le_trans b2.size a3.size))
  clear g4 a3 s3 R2 b2 hsl
  go_wp2_with (refine wpList_store_row rfl 23 (.tmp 4) (.tmp 9) rfl w.heap.size (bcells V).toArray rfl rfl 23 (bcells (List.replicate 32 0)).toArray R4.out SZ2.out SZ.out (ones_bc _) ?_)
  exact bodyPost_ret (v := aggB V) (results_cell_row Tryd.results12 _ _ w.heap.size 23 _ _ _ rfl (setRow_heap _ _ _ _ _ _ R4.out) Tryd.underlying23 rfl SZ2.out) rfl ⟨rfl, below_setRow b4 (Nat.le_refl _) _⟩
section
attribute [local go_sem] eqIn26 guard26 sha_len hmac_len hmac_len'
set_option maxHeartbeats 1000000 in
set_option maxRecDepth 100000 in
theorem Right_any (key s mac V : List UInt8) (w : World) (hV : hmac key s = V) (hm : mac.length = 32) (ht : Tabs w) (hk : (key.length : Int) ≤ 1099511627776) (hs : (s.length : Int) ≤ 1099511627776) :
    Calls Tryd.prog 13 #[.string ⟨key.toArray⟩, .string ⟨s.toArray⟩, aggB mac] w fun e w' => e = .returned (.bool (V == mac)) ∧ Below w.heap.size w w' := by
  have SM := Lib.hid (show (Tryd.prog.info? 23).map (·.size) = some (bcells mac).length from by simp [bcells_len, hm, info26])
  have HV := Lib.hid (show hmacB (blkK key) [s].flatten = V from by rw [← hV]; simp [hmac])
  clear hV
  go_enter Tryd.func13, Tryd.ntmps13
  go_wp2
  have hS := ((Std.start ht).alloc (.cells (bcells mac).toArray 23)).push (heap_alloc_new w (.cells (bcells mac).toArray 23))
  generalize World.alloc _ _ = wa at *
  refine wp_region_held_drew (S := Std [(w.heap.size, bcells mac, 23)] w) (by kernel_rfl) hS.drew (fun hHeld => ?_)
  refine wpAnyH_take (i := 0) (oi := _) (v := ?_) rfl (by kernel_rfl) (by kernel_rfl) (by kernel_rfl) (fun _ _ _ h => h) (Or.inl ⟨by kernel_rfl, ?_⟩) hHeld ?_
  rotate_left
  · (intro w hSw; go_simp; try with_reducible rfl)
  try simp only [Act.put, List.getElem_toArray, List.getElem_cons_succ, List.getElem_cons_zero, List.setIfInBounds_toArray, List.set_cons_zero, List.set_cons_succ]
  refine wpAnyH_take (i := 2) (oi := _) (v := _) rfl (by kernel_rfl) (by kernel_rfl) (by kernel_rfl) (fun _ _ _ h => h) (yieldsIf_load_mid (by kernel_rfl) _ _ rfl _ _ rfl _ _ (fun w h => h.rng 0 rfl) Tryd.underlying23 rfl SM.out) hHeld ?_
  try simp only [Act.put, List.getElem_toArray, List.getElem_cons_succ, List.getElem_cons_zero, List.setIfInBounds_toArray, List.set_cons_zero, List.set_cons_succ]
  refine wpAnyH_take (i := 3) (oi := _) (v := ?_) rfl (by kernel_rfl) (by kernel_rfl) (by kernel_rfl) (fun _ _ _ h => h) (Or.inl ⟨by kernel_rfl, ?_⟩) hHeld ?_
  rotate_left
  · (intro w hSw; go_simp; try with_reducible rfl)
  try simp only [Act.put, List.getElem_toArray, List.getElem_cons_succ, List.getElem_cons_zero, List.setIfInBounds_toArray, List.set_cons_zero, List.set_cons_succ]
  refine wpAnyH_ready (rs := [1, 4]) (by kernel_rfl) (by simp) ?_
  refine AllReadyH.cons (o := _) rfl (fun K hK => ?_) (AllReadyH.cons (o := _) rfl (fun K hK => ?_) AllReadyH.nil)
  · go_simp
    go_at_call 14
    refine (sealNew_any key _ hHeld.1 (by omega)).mono ?_
    rintro e v1 ⟨g, rfl, hg, hsl, g1⟩
    refine hK.out _ _ (hHeld.below g1) (fun hHeld => ?_)
    clear hK K
    try simp only [Act.put, List.getElem_toArray, List.getElem_cons_succ, List.getElem_cons_zero, List.setIfInBounds_toArray, List.set_cons_zero, List.set_cons_succ]
    refine wpAnyH_ready (rs := [4]) (by kernel_rfl) (by simp) ?_
    refine AllReadyH.cons (o := _) rfl (fun K hK => ?_) AllReadyH.nil
    go_simp
    refine hK.out _ _ (hHeld.alloc _) (fun hHeld => ?_)
    clear hK K
    try simp only [Act.put, List.getElem_toArray, List.getElem_cons_succ, List.getElem_cons_zero, List.setIfInBounds_toArray, List.set_cons_zero, List.set_cons_succ]
    refine wpAnyH_ready (rs := [5]) (by kernel_rfl) (by simp) ?_
    refine AllReadyH.cons (o := _) rfl (fun K hK => ?_) AllReadyH.nil
    go_simp
    go_at_call 16
    refine (Check_any g (blkK key) mac V (some ⟨v1.heap.size, 0, none⟩) 1 1 [s] _ HV.out hm hHeld.1 (hsl.below ((Below.refl _ _).alloc (Nat.le_refl _) _)) (strs_one (heap_alloc_new v1 _)) (by decide) (by simp; omega)).mono ?_
    rintro e v2 ⟨rfl, g2⟩
    refine hK.out _ _ (hHeld.below g2) (fun hHeld => ?_)
    clear hK K
    try simp only [Act.put, List.getElem_toArray, List.getElem_cons_succ, List.getElem_cons_zero, List.setIfInBounds_toArray, List.set_cons_zero, List.set_cons_succ]
    refine wpAnyH_take (i := 6) (oi := _) (v := ?_) rfl (by kernel_rfl) (by kernel_rfl) (by kernel_rfl) (fun _ _ _ h => h) (Or.inl ⟨by kernel_rfl, ?_⟩) hHeld ?_
    rotate_left
    · (intro w hSw; go_simp; try with_reducible rfl)
    try simp only [Act.put, List.getElem_toArray, List.getElem_cons_succ, List.getElem_cons_zero, List.setIfInBounds_toArray, List.set_cons_zero, List.set_cons_succ]
    refine wpAnyH_done (by kernel_rfl) ?_ _
    go_wp2
    go_ret
    exact ⟨rfl, hHeld.2.2⟩
  · go_simp
    refine hK.out _ _ (hHeld.alloc _) (fun hHeld => ?_)
    clear hK K
    try simp only [Act.put, List.getElem_toArray, List.getElem_cons_succ, List.getElem_cons_zero, List.setIfInBounds_toArray, List.set_cons_zero, List.set_cons_succ]
    refine wpAnyH_ready (rs := [1]) (by kernel_rfl) (by simp) ?_
    refine AllReadyH.cons (o := _) rfl (fun K hK => ?_) AllReadyH.nil
    go_simp
    go_at_call 14
    refine (sealNew_any key _ hHeld.1 (by omega)).mono ?_
    rintro e v1 ⟨g, rfl, hg, hsl, g1⟩
    refine hK.out _ _ (hHeld.below g1) (fun hHeld => ?_)
    clear hK K
    try simp only [Act.put, List.getElem_toArray, List.getElem_cons_succ, List.getElem_cons_zero, List.setIfInBounds_toArray, List.set_cons_zero, List.set_cons_succ]
    refine wpAnyH_ready (rs := [5]) (by kernel_rfl) (by simp) ?_
    refine AllReadyH.cons (o := _) rfl (fun K hK => ?_) AllReadyH.nil
    go_simp
    go_at_call 16
    refine (Check_any g (blkK key) mac V (some ⟨wa.heap.size, 0, none⟩) 1 1 [s] _ HV.out hm hHeld.1 (hsl) ((strs_one (w := wa.alloc (.cells #[.string ⟨s.toArray⟩] 9)) (heap_alloc_new wa _)).lt' (below_undrew g1)) (by decide) (by simp; omega)).mono ?_
    rintro e v2 ⟨rfl, g2⟩
    refine hK.out _ _ (hHeld.below g2) (fun hHeld => ?_)
    clear hK K
    try simp only [Act.put, List.getElem_toArray, List.getElem_cons_succ, List.getElem_cons_zero, List.setIfInBounds_toArray, List.set_cons_zero, List.set_cons_succ]
    refine wpAnyH_take (i := 6) (oi := _) (v := ?_) rfl (by kernel_rfl) (by kernel_rfl) (by kernel_rfl) (fun _ _ _ h => h) (Or.inl ⟨by kernel_rfl, ?_⟩) hHeld ?_
    rotate_left
    · (intro w hSw; go_simp; try with_reducible rfl)
    try simp only [Act.put, List.getElem_toArray, List.getElem_cons_succ, List.getElem_cons_zero, List.setIfInBounds_toArray, List.set_cons_zero, List.set_cons_succ]
    refine wpAnyH_done (by kernel_rfl) ?_ _
    go_wp2
    go_ret
    exact ⟨rfl, hHeld.2.2⟩
end
section
attribute [local go_sem] eqIn26 guard26 sha_len hmac_len hmac_len'
set_option maxRecDepth 100000 in
theorem hmac_fox : hmac [107, 101, 121] [84, 104, 101, 32, 113, 117, 105, 99, 107, 32, 98, 114, 111, 119, 110, 32, 102, 111, 120, 32, 106, 117, 109, 112, 115, 32, 111, 118, 101, 114, 32, 116, 104, 101, 32, 108, 97, 122, 121, 32, 100, 111, 103] = [247, 188, 131, 244, 48, 83, 132, 36, 177, 50, 152, 230, 170, 111, 177, 67, 239, 77, 89, 161, 73, 70, 23, 89, 151, 71, 157, 188, 45, 26, 60, 216] := by decide +kernel
end
end Go.Proofs.YtlplgpmadfmjjaaDoor
