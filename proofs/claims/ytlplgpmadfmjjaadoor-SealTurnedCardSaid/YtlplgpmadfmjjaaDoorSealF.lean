/- Seals as the laws ask them; the law's example. -/
import Derived.WalkKit
import Derived.Below
import Derived.ProofKit
import Derived.OpenShut
import Derived.ShutString
import Derived.ChangeOld
import Derived.Outline
import Derived.RegionTactic
import Derived.ChangeAlike
import Derived.BigRegion
import Derived.BigQuiet
import Derived.Deep.QuietTactic
import Derived.Deep.RegionWith
import Derived.Deep.RegionLaw
import Derived.Deep.RegionHeld3
import Derived.Deep.AppendLies
import Derived.Deep.Draws
import Derived.StillTailTactics
import Derived.Lib.Hide
import Derived.Lib.SmallJoins
import Derived.Handy
import Derived.Stop.BytesEq
import Derived.WalkSpells
import Derived.WalkLawsBesides
import Derived.Deep.LoopGhost
import Derived.Deep.DeepCutAuto
import Derived.Laws.Tables
import Derived.Great.FillDense
import Derived.Test.YtlplgpmadfmjjaaDoorRows
import Derived.Test.YtlplgpmadfmjjaaDoorSealE
namespace Go.Proofs.YtlplgpmadfmjjaaDoor
open Go.RowKit
set_option linter.unusedSimpArgs false
set_option linter.unusedVariables false
set_option linter.unnecessarySimpa false
theorem Seal_is (g : Nat) (B V : List UInt8) (a : Option Addr) (n cap : Nat) (ls : List (List UInt8)) (w : World) (hV : hmacB B ls.flatten = V) (ht : Tabs w) (hs : Slr w g B) (hr : StrsAt w w.heap.size a n ls) (hn : (n : Int) ≤ 140737488351232) (hlen : (ls.flatten.length : Int) ≤ 1099511627776) :
    Calls Tryd.prog 15 #[.pointer (some ⟨g, 0, none⟩), .slice a n cap] w fun e w' => e = .returned (aggB V) ∧ Below w.heap.size w w' := by
  subst hV; exact Seal_any g B a n cap ls w ht hs hr hn hlen
theorem SealNil_is (V : List UInt8) (a : Option Addr) (n cap : Nat) (ls : List (List UInt8)) (w : World) (hV : hmac [] ls.flatten = V) (ht : Tabs w) (hr : StrsAt w w.heap.size a n ls) (hn : (n : Int) ≤ 140737488351232) (hlen : (ls.flatten.length : Int) ≤ 1099511627776) :
    Calls Tryd.prog 15 #[.pointer none, .slice a n cap] w fun e w' => e = .returned (aggB V) ∧ Below w.heap.size w w' := by
  subst hV; exact Seal_nil a n cap ls w ht hr hn hlen
section
attribute [local go_sem] eqIn26 guard26 sha_len hmac_len hmac_len'
set_option maxHeartbeats 1000000 in
set_option maxRecDepth 100000 in
theorem CheckNil_is (mac V : List UInt8) (a : Option Addr) (n cap : Nat) (ls : List (List UInt8)) (w : World) (hV : hmac [] ls.flatten = V) (hm : mac.length = 32) (ht : Tabs w) (hr : StrsAt w w.heap.size a n ls) (hn : (n : Int) ≤ 140737488351232) (hlen : (ls.flatten.length : Int) ≤ 1099511627776) :
    Calls Tryd.prog 16 #[.pointer none, aggB mac, .slice a n cap] w fun e w' => e = .returned (.bool (V == mac)) ∧ Below w.heap.size w w' := by
  have SM := Lib.hid (show (Tryd.prog.info? 23).map (·.size) = some (bcells mac).length from by simp [bcells_len, hm, info26])
  have hv32 : V.length = 32 := by rw [← hV, hmac_len']
  have HV := Lib.hid hV
  clear hV
  go_enter Tryd.func16, Tryd.ntmps16
  go_wp2
  have hS := ((Std.start ht).alloc (.cells (bcells mac).toArray 23)).push (heap_alloc_new w (.cells (bcells mac).toArray 23))
  generalize World.alloc _ _ = wa at *
  refine wp_region_held_drew (S := Std [(w.heap.size, bcells mac, 23)] w) (by kernel_rfl) hS.drew (fun hHeld => ?_)
  refine wpAnyH_take (i := 0) (oi := _) (v := ?_) rfl (by kernel_rfl) (by kernel_rfl) (by kernel_rfl) (fun _ _ _ h => h) (Or.inl ⟨by kernel_rfl, ?_⟩) hHeld ?_
  rotate_left
  · (intro w hSw; go_simp; try with_reducible rfl)
  try simp only [Act.put, List.getElem_toArray, List.getElem_cons_succ, List.getElem_cons_zero, List.setIfInBounds_toArray, List.set_cons_zero, List.set_cons_succ]
  refine wpAnyH_take (i := 1) (oi := _) (v := ?_) rfl (by kernel_rfl) (by kernel_rfl) (by kernel_rfl) (fun _ _ _ h => h) (Or.inl ⟨by kernel_rfl, ?_⟩) hHeld ?_
  rotate_left
  · (intro w hSw; go_simp; try with_reducible rfl)
  try simp only [Act.put, List.getElem_toArray, List.getElem_cons_succ, List.getElem_cons_zero, List.setIfInBounds_toArray, List.set_cons_zero, List.set_cons_succ]
  refine wpAnyH_take (i := 3) (oi := _) (v := _) rfl (by kernel_rfl) (by kernel_rfl) (by kernel_rfl) (fun _ _ _ h => h) (yieldsIf_load_mid (by kernel_rfl) _ _ rfl _ _ rfl _ _ (fun w h => h.rng 0 rfl) Tryd.underlying23 rfl SM.out) hHeld ?_
  try simp only [Act.put, List.getElem_toArray, List.getElem_cons_succ, List.getElem_cons_zero, List.setIfInBounds_toArray, List.set_cons_zero, List.set_cons_succ]
  refine wpAnyH_ready (rs := [2]) (by kernel_rfl) (by simp) ?_
  refine AllReadyH.cons (o := _) rfl (fun K hK => ?_) AllReadyH.nil
  go_simp
  go_at_call 15
  refine (SealNil_is V a n cap ls _ HV.out hHeld.1 (hr.lt' hHeld.2.2) hn hlen).mono ?_
  rintro e v1 ⟨rfl, g1⟩
  refine hK.out _ _ (hHeld.below g1) (fun hHeld => ?_)
  clear hK K
  try simp only [Act.put, List.getElem_toArray, List.getElem_cons_succ, List.getElem_cons_zero, List.setIfInBounds_toArray, List.set_cons_zero, List.set_cons_succ]
  refine wpAnyH_take (i := 4) (oi := _) (v := ?_) rfl (by kernel_rfl) (by kernel_rfl) (by kernel_rfl) (fun _ _ _ h => h) (Or.inl ⟨by kernel_rfl, ?_⟩) hHeld ?_
  rotate_left
  · (intro w hSw; go_simp; try with_reducible rfl)
  try simp only [Act.put, List.getElem_toArray, List.getElem_cons_succ, List.getElem_cons_zero, List.setIfInBounds_toArray, List.set_cons_zero, List.set_cons_succ]
  refine wpAnyH_take (i := 5) (oi := _) (v := ?_) rfl (by kernel_rfl) (by kernel_rfl) (by kernel_rfl) (fun _ _ _ h => h) (Or.inl ⟨by kernel_rfl, ?_⟩) hHeld ?_
  rotate_left
  · (intro w hSw; go_simp; try with_reducible rfl)
  try simp only [Act.put, List.getElem_toArray, List.getElem_cons_succ, List.getElem_cons_zero, List.setIfInBounds_toArray, List.set_cons_zero, List.set_cons_succ]
  refine wpAnyH_done (by kernel_rfl) ?_ _
  go_wp2
  go_ret
  exact ⟨rfl, hHeld.2.2⟩
set_option maxHeartbeats 1000000 in
set_option maxRecDepth 100000 in
theorem awake3_any (w : World) (ht : Tabs w) : Calls Tryd.prog 9 #[] w fun e w' => e = .returned (.bool true) ∧ Below w.heap.size w w' := by
  have hfox := hmac_fox
  obtain ⟨V, hV⟩ : ∃ V : List UInt8, V = [247, 188, 131, 244, 48, 83, 132, 36, 177, 50, 152, 230, 170, 111, 177, 67, 239, 77, 89, 161, 73, 70, 23, 89, 151, 71, 157, 188, 45, 26, 60, 216] := ⟨_, rfl⟩
  rw [← hV] at hfox
  have hv32 : V.length = 32 := by rw [hV]; rfl
  have SZ := Lib.hid (show ((bcells (List.replicate 32 (0 : UInt8))).toArray).size = (bcells V).toArray.size from by simp [bcells, hv32])
  have SZ2 := Lib.hid (show (Tryd.prog.info? 23).map (·.size) = some (bcells V).toArray.size from by simp [bcells, hv32, info26])
  have HF := Lib.hid hfox
  have EV := Lib.hid hV
  clear hfox hV
  go_enter Tryd.func9, Tryd.ntmps9
  go_wp2_with fail
  refine (sealOf_any _ _ V w HF.out ht (by decide) (by decide)).mono ?_
  rintro e w2 ⟨rfl, g2⟩
  go_wp2_with (first
    | (refine wpList_store_row rfl 23 (.tmp 1) (.tmp 2) rfl w2.heap.size (bcells V).toArray rfl rfl 23 (bcells (List.replicate 32 0)).toArray (heap_alloc_new w2 _) SZ2.out SZ.out (ones_bc _) ?_)
    | (refine wpList_load_row rfl 23 (.tmp 1) rfl w2.heap.size rfl 23 (bcells V).toArray (0, 0) _ (setRow_heap _ _ _ _ _ _ (heap_alloc_new w2 _)) Tryd.underlying23 rfl SZ2.out ?_))
  generalize hw3 : World.setRow _ _ _ = w3
  have r3 : w3.heap[w2.heap.size]? = some (.cells (bcells V).toArray 23 (0, 0)) := by rw [← hw3]; exact setRow_heap _ _ _ _ _ _ (heap_alloc_new w2 _)
  have b3 : Below w.heap.size w w3 := by rw [← hw3]; exact below_setRow (g2.alloc g2.size _) g2.size _
  clear hw3 g2
  refine (refText_any V w3 hv32).mono ?_
  rintro e w4 ⟨rfl, g4⟩
  have r4 := (g4.block _ (row_lt r3)).trans r3
  have b4 := b3.trans (g4.mono b3.size)
  have SL := Lib.hid (show (Tryd.prog.info? 23).map (·.size) = some (bcells V).length from by simp [bcells_len, hv32, info26])
  clear g4 r3 b3
  obtain rfl := EV.out
  go_wp2_with (refine wpList_load_g (by kernel_rfl) 23 (.tmp 1) rfl w2.heap.size rfl (bcells [247, 188, 131, 244, 48, 83, 132, 36, 177, 50, 152, 230, 170, 111, 177, 67, 239, 77, 89, 161, 73, 70, 23, 89, 151, 71, 157, 188, 45, 26, 60, 216]) _ (range_cells r4) Tryd.underlying23 rfl SL.out ?_)
  refine (Right_any _ _ _ _ w4 HF.out rfl (ht.below b4) (by decide) (by decide)).mono ?_
  rw [beq_self_eq_true]
  rintro e w5 ⟨rfl, g5⟩
  go_wp2
  go_ret
  exact ⟨rfl, b4.trans (g5.mono b4.size)⟩
end
end Go.Proofs.YtlplgpmadfmjjaaDoor
