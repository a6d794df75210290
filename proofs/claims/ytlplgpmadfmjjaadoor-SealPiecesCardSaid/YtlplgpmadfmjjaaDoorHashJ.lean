import Derived.Test.YtlplgpmadfmjjaaDoorRows
import Derived.WalkKit
import Derived.Below
import Derived.ProofKit
import Derived.OpenShut
import Derived.ShutString
import Derived.ChangeOld
import Derived.Outline
import Derived.RegionTactic
import Derived.ChangeAlike
import Derived.BigRegion
import Derived.BigQuiet
import Derived.Deep.QuietTactic
import Derived.Deep.RegionWith
import Derived.Deep.RegionLaw
import Derived.Deep.RegionHeld3
import Derived.Deep.AppendLies
import Derived.Deep.Draws
import Derived.StillTailTactics
import Derived.Lib.Hide
import Derived.Lib.SmallJoins
import Derived.Handy
import Derived.Deep.LoopGhost
import Derived.Deep.DeepCutAuto
import Derived.Laws.CopyOwn
import Derived.Test.YtlplgpmadfmjjaaDoorHashI
namespace Go.Proofs.YtlplgpmadfmjjaaDoor
open Go.RowKit
set_option linter.unusedSimpArgs false
set_option linter.unusedVariables false
theorem Write_nil (s : List UInt8) (w : World) :
    Calls Tryd.prog 26 #[.pointer none, .string ⟨s.toArray⟩] w fun e w' => e = .returned (.tuple #[]) ∧ w = w' := by
  go_enter Tryd.func26, Tryd.ntmps26
  go_wp2
  exact bodyPost_ret (v := .tuple #[]) (results_none Tryd.results26 _ _ _) rfl ⟨rfl, rfl⟩
theorem New_any (w : World) :
    Calls Tryd.prog 25 #[] w fun e w' => e = .returned (.pointer (some ⟨w.heap.size, 0, none⟩)) ∧ Has w' w.heap.size [] ∧ Below w.heap.size w w' := by
  have z55 := zero55
  go_enter Tryd.func25, Tryd.ntmps25
  go_wp2
  go_ret
  exact ⟨rfl, Has.zero (heap_alloc_new w _), (Below.refl _ _).alloc (Nat.le_refl _) _⟩
theorem flat_succ (ls : List (List UInt8)) (k : Nat) (l : List UInt8) (h : ls[k]? = some l) : (ls.take (k + 1)).flatten = (ls.take k).flatten ++ l := by
  rw [List.take_add_one, h]; simp
theorem flat_le (ls : List (List UInt8)) (k : Nat) : (ls.take k).flatten.length ≤ ls.flatten.length := by
  have h : ls.flatten = (ls.take k).flatten ++ (ls.drop k).flatten := by rw [← List.flatten_append, List.take_append_drop]
  rw [h, List.length_append]; omega
set_option maxHeartbeats 1000000 in
set_option maxRecDepth 100000 in
theorem Of_any (a : Option Addr) (n cap : Nat) (ls : List (List UInt8)) (w : World) (ht : Tabs w) (hr : StrsAt w w.heap.size a n ls) (hn : (n : Int) ≤ 140737488351232) (hlen : (ls.flatten.length : Int) ≤ 1125899906842624) :
    Calls Tryd.prog 24 #[.slice a n cap] w fun e w' => e = .returned (aggB (sha ls.flatten)) ∧ Below w.heap.size w w' := by
  have HL := Lib.hid hlen
  have h1 := ht.2.2
  clear hlen
  have z55 := zero55
  go_enter Tryd.func24, Tryd.ntmps24
  go_wp2
  go_loopw [8] (fun i wr => ∃ k : Nat, k ≤ n ∧ i = .int .i64 k ∧ Has wr (w.heap.size + 1) (ls.take k).flatten ∧ Hid (wr.heap[w.heap.size]? = some (.cells (bcells (List.replicate 32 0)).toArray 23 (0, 0))) ∧ Below w.heap.size w wr) (fun i _ => n - (intOf i).toNat)
  case atStart => exact ⟨0, Nat.zero_le _, rfl, Has.zero (heap_alloc2_new w _ _), Lib.hid (heap_alloc2_old w _ _), ((Below.refl _ _).alloc (Nat.le_refl _) _).alloc (by simp) _⟩
  case round =>
    clear z55
    obtain ⟨k, hk, rfl, hh, hr0, hbel⟩ := hrel
    have ht1 := ht.below hbel
    have hfl := flat_le ls k
    by_cases hlt : k < n
    · obtain ⟨b, off, rfl, hb, hcell⟩ := hr.2 (by omega)
      have hkl : k < ls.length := by rw [hr.1]; exact hlt
      have hget := List.getElem?_eq_getElem hkl
      have hcw := hcell k _ hget
      have hc : wr.cell? ⟨b, off + k, none⟩ = some (.string ⟨ls[k].toArray⟩) := (hbel.cell (p := ⟨b, off + k, none⟩) hb).trans hcw
      have hstep := flat_succ ls k _ hget
      have hle2 := flat_le ls (k + 1)
      rw [hstep, List.length_append] at hle2
      obtain ⟨l, hl⟩ : ∃ l, l = ls[k] := ⟨_, rfl⟩
      rw [← hl] at hc hstep hle2
      have Hs := Lib.hid hstep
      have Hl2 := Lib.hid hle2
      have hkn : (k : Int) < n := by omega
      clear hstep hcw hcell hget hl hle2
      go_wp2_with (go_at_call 26; refine (Write_any (w.heap.size + 1) _ l _ ht1 (by omega) hh (by have := HL.out; have := Hl2.out; omega)).mono ?_; rintro e w2 ⟨rfl, h2, hf2⟩)
      go_roundw
      case rel =>
        refine ⟨k + 1, by omega, by go_num, ?_, ?_, ?_⟩
        · rw [Hs.out]; exact h2
        · exact Lib.hid ((hf2.block _ (by have := hh.lt; omega) (by simp)).trans hr0.out)
        · exact hbel.trans (hf2.below hbel.size (by simp))
      case measure => simp [intOf]; omega
    · have hkn : ls.take k = ls := List.take_of_length_le (by rw [hr.1]; omega)
      rw [hkn] at hh
      have sz : ((bcells (List.replicate 32 (0 : UInt8))).toArray).size = (bcells (sha ls.flatten)).toArray.size := by simp [bcells, sha_len]
      have sz2 : (Tryd.prog.info? 23).map (·.size) = some (bcells (sha ls.flatten)).toArray.size := by simp [bcells, sha_len, info26]
      have SZ := Lib.hid sz
      have SZ2 := Lib.hid sz2
      have hlt2 := hh.lt
      clear sz sz2 hkn
      go_wp2_with fail
      refine (Sum_any (w.heap.size + 1) _ wr ht1 hh HL.out).mono ?_
      rintro e w4 ⟨rfl, h4⟩
      have Q4 := Lib.hid ((h4.block _ (show w.heap.size < wr.heap.size by omega)).trans hr0.out)
      go_wp2_with (refine wpList_store_row rfl 23 (.tmp 2) (.tmp 15) rfl w.heap.size (bcells (sha ls.flatten)).toArray rfl rfl 23 (bcells (List.replicate 32 0)).toArray Q4.out SZ2.out SZ.out (ones_bc _) ?_)
      refine bodyPost_ret (v := aggB (sha ls.flatten)) (results_cell_row Tryd.results24 _ _ w.heap.size 23 _ _ _ rfl (setRow_heap _ _ _ _ _ _ Q4.out) Tryd.underlying23 rfl SZ2.out) rfl ⟨rfl, below_setRow ?_ (Nat.le_refl _) _⟩
      exact hbel.trans (h4.mono hbel.size)
theorem Sum_nil (w : World) (ht : Tabs w) :
    Calls Tryd.prog 27 #[.pointer none] w fun e w' => e = .returned (aggB (sha [])) ∧ Below w.heap.size w w' := by
  have h1 := ht.2.2
  have sz : ((bcells (List.replicate 32 (0 : UInt8))).toArray).size = (bcells (sha [])).toArray.size := by simp [bcells, sha_len]
  have sz2 : (Tryd.prog.info? 23).map (·.size) = some (bcells (sha [])).toArray.size := by simp [bcells, sha_len, info26]
  have SZ := Lib.hid sz
  have SZ2 := Lib.hid sz2
  have ht1 : Tabs (w.alloc (.cells (bcells (List.replicate 32 0)).toArray 23)) := ht.below ((Below.refl _ _).alloc (Nat.le_refl _) _)
  clear sz sz2
  go_enter Tryd.func27, Tryd.ntmps27
  go_wp2_with fail
  refine (Of_any none 0 0 [] _ ht1 ⟨rfl, fun h => absurd h (by decide)⟩ (by decide) (by decide)).mono ?_
  rintro e w4 ⟨rfl, h4⟩
  have Q4 := Lib.hid ((h4.block _ (show w.heap.size < _ by simp)).trans (heap_alloc_new w _))
  go_wp2_with (refine wpList_store_row rfl 23 (.tmp 2) (.tmp 6) rfl w.heap.size (bcells (sha [])).toArray rfl rfl 23 (bcells (List.replicate 32 0)).toArray Q4.out SZ2.out SZ.out (ones_bc _) ?_)
  refine bodyPost_ret (v := aggB (sha [])) (results_cell_row Tryd.results27 _ _ w.heap.size 23 _ _ _ rfl (setRow_heap _ _ _ _ _ _ Q4.out) Tryd.underlying23 rfl SZ2.out) rfl ⟨rfl, below_setRow ?_ (Nat.le_refl _) _⟩
  exact ((Below.refl _ _).alloc (Nat.le_refl _) _).trans (h4.mono (by simp))
theorem info26i : (Tryd.prog.info? 23).map (fun i => (i.size)) = some 32 := by kernel_rfl
set_option maxHeartbeats 400000 in
theorem Text_any (x : List UInt8) (w : World) (hx : x.length = 32) :
    Calls Tryd.prog 23 #[aggB x] w fun e w' => e = .returned (.string ⟨x.toArray⟩) ∧ Below w.heap.size w w' := by
  have hconv := run_b2s_tail (P := Tryd.prog) (w.alloc (.cells (bcells x).toArray 23)) 45 9 5 w.heap.size 0 32 32 (.int .u8 0) x 23 (0, 0) Tryd.underlying45 Tryd.underlying5 Tryd.underlying9 (heap_alloc_new w _) hx.symm
  unfold aggB
  have HX := Lib.hid hx
  clear hx
  go_enter Tryd.func23, Tryd.ntmps23
  go_wp2
  go_ret
  exact ⟨rfl, (Below.refl _ _).alloc (Nat.le_refl _) _⟩
end Go.Proofs.YtlplgpmadfmjjaaDoor
