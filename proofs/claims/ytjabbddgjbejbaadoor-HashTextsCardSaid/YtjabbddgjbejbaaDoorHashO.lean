import Derived.Test.YtjabbddgjbejbaaDoorRows
import Derived.WalkKit
import Derived.Below
import Derived.ProofKit
import Derived.OpenShut
import Derived.ShutString
import Derived.ChangeOld
import Derived.Outline
import Derived.RegionTactic
import Derived.ChangeAlike
import Derived.BigRegion
import Derived.BigQuiet
import Derived.Deep.QuietTactic
import Derived.Deep.RegionWith
import Derived.Deep.RegionLaw
import Derived.Deep.RegionHeld3
import Derived.Deep.AppendLies
import Derived.Deep.Draws
import Derived.StillTailTactics
import Derived.Lib.Hide
import Derived.Lib.SmallJoins
import Derived.Handy
import Derived.Stop.BytesEq
import Derived.WalkSpells
import Derived.WalkLawsBesides
import Derived.Deep.LoopGhost
import Derived.Deep.DeepCutAuto
import Derived.Laws.CopyOwn
import Derived.Test.YtjabbddgjbejbaaDoorHashN
namespace Go.Proofs.YtjabbddgjbejbaaDoor
open Go.RowKit
set_option linter.unusedSimpArgs false
set_option linter.unusedVariables false
theorem info5p : (Tryd.prog.info? 5).map (fun i => (i.zero, i.size, i.bytes)) = some (some (.int .u8 0), 1, 1) := by kernel_rfl
theorem bcells_take_succ (x : List UInt8) (k : Nat) (h : k < x.length) : bcells (x.take k) ++ [.int .u8 (x.getD k 0).toNat] = bcells (x.take (k + 1)) := by
  have e : (x.take (k + 1)) = x.take k ++ [x.getD k 0] := by
    rw [List.take_add_one, List.getElem?_eq_getElem h]; simp [h]
  rw [e]
  simp [bcells]
set_option maxHeartbeats 1000000 in
theorem refText_any (x : List UInt8) (w : World) (hx : x.length = 32) :
    Calls Tryd.prog 21 #[aggB x] w fun e w' => e = .returned (.string ⟨x.toArray⟩) ∧ Below w.heap.size w w' := by
  obtain ⟨i0, hi, hz0, hz1, hz2⟩ := info_parts info5p
  have HX := Lib.hid hx
  clear hx
  go_enter Tryd.func21, Tryd.ntmps21
  go_wp2
  have hw1 : w.heap.size + 1 = (w.alloc (.cells (bcells x).toArray 26)).heap.size := by simp
  have HW1 := Lib.hid hw1
  clear hw1
  go_loopw [3, 4] (fun v i wr => ∃ k : Nat, k ≤ 32 ∧ i = .int .i64 k ∧ wr.ownsRow (w.heap.size + 1) 5 1 v k (bcells (x.take k)) ∧ Below (w.heap.size + 1) (w.alloc (.cells (bcells x).toArray 26)) wr) (fun _ i _ => 32 - (intOf i).toNat)
  case atStart => exact ⟨0, by omega, rfl, World.ownsRow_nil _ _ _ _, Below.refl _ _⟩
  case round =>
    obtain ⟨k, hk, rfl, hown, hbel⟩ := hrel
    obtain ⟨A, cp, rfl⟩ := own_form hown
    have hws : w.heap.size + 1 ≤ wr.heap.size := by have := hbel.size; rw [← HW1.out] at this; exact this
    have hbw : Below w.heap.size w wr := ((Below.refl _ _).alloc (Nat.le_refl _) _).trans (hbel.mono (by omega))
    by_cases hlt : k < 32
    · have c0 : wr.cell? ⟨w.heap.size, k, none⟩ = some (.int .u8 (x.getD k 0).toNat) := cell_row ((hbel.block _ (by omega)).trans (heap_alloc_new w _)) (bcells_get (by rw [HX.out]; exact hlt))
      have kk : (k : Int) < 32 := by omega
      have hs := Lib.hid (bcells_take_succ x k (by rw [HX.out]; exact hlt))
      generalize x.getD k 0 = z at c0 hs
      go_wp2_with (at_builtin; refine wpList_append_own _ rfl _ _ 24 rfl (w.heap.size + 1) 5 i0 (.int .u8 0) 1 1 Tryd.underlying24 hi hz0 hz1 hz2 rfl (by decide) _ _ _ rfl (hown.alloc _) ⟨wr.heap.size, 0, none⟩ 1 1 [.int .u8 z.toNat] rfl rfl ?c1 ?c2 ?c3 ?c4 ?c5 ?_)
      case c1 =>
        intro j u hj
        match j with
        | 0 => simp at hj; subst hj; exact cell_of_row _ _ _ _ _ _ (heap_alloc_new wr _)
        | j + 1 => simp at hj
      case c2 => intro u hu; simp at hu; subst hu; rfl
      case c3 => unfold maxLen; omega
      case c4 => omega
      case c5 => simp; omega
      intro v' w2 hown3 hgrow _
      have hb2 : Below (w.heap.size + 1) (w.alloc (.cells (bcells x).toArray 26)) w2 := (hbel.alloc hws _).grown hgrow (by simp; omega) (own_block_ge hown)
      rw [hs.out] at hown3
      clear hown hgrow hbel hbw c0
      go_wp2
      go_roundw
      case rel => exact ⟨k + 1, by omega, by go_num, hown3, hb2⟩
      case measure => simp [intOf]; omega
    · obtain rfl : k = 32 := by omega
      have hconv := run_b2s_own (P := Tryd.prog) wr 24 9 5 _ (x.take 32) (w.heap.size + 1) 32 Tryd.underlying24 Tryd.underlying5 Tryd.underlying9 hown
      rw [show x.take 32 = x from List.take_of_length_le (by rw [HX.out]; exact Nat.le_refl _)] at hconv
      clear hown
      go_wp2
      go_ret
      exact ⟨rfl, hbw⟩
theorem results_cell_tmp {P : Program} {fn : Func} {p q : Tmp} {ty : TypeId} (h : fn.results = #[.cell p ty, .tmp q]) (tmps : Array Value) (w : World) (g : Nat) (t : TypeId) (cs : Array Value) (fr : Nat × Nat) (d : TypeDesc) (v : Value)
    (hp : tmps.getD p undef = .pointer (some ⟨g, 0, none⟩)) (hq : tmps.getD q undef = v) (hg : w.heap[g]? = some (.cells cs t fr))
    (hu : P.underlying ty = some d) (hd : (match d with | .struct _ | .array _ _ => true | _ => false) = true) (hi : (P.info? ty).map (·.size) = some cs.size) :
    (results fn tmps).run P w = .ok (.tuple #[.agg cs, v]) w := by
  have hp' : tmps[p]?.getD undef = .pointer (some ⟨g, 0, none⟩) := by simpa using hp
  have hq' : tmps[q]?.getD undef = v := by simpa using hq
  simp [results, h, hp', hq', asAddr, run_loadVar_row w g t ty cs fr d hg hu hd hi]
set_option maxHeartbeats 1000000 in
set_option maxRecDepth 100000 in
theorem From_ok (l : List UInt8) (w : World) (h : l.length = 32) :
    Calls Tryd.prog 19 #[.string ⟨l.toArray⟩] w fun e w' => e = .returned (.tuple #[aggB l, .int .i64 0]) ∧ Below w.heap.size w w' := by
  have HS := Lib.hid h
  have h0 : ((l.length : Int) != 32) = false := by simp [h]
  have SZ := Lib.hid (show (Tryd.prog.info? 26).map (·.size) = some (bcells l).toArray.size from by simp [bcells, h, info26])
  have SZ3 := Lib.hid (show ((bcells (List.replicate 32 (0 : UInt8))).toArray).size = (bcells l).toArray.size from by simp [bcells, h])
  have hlast : (bcells (List.replicate 32 0)).take 0 ++ (bcells (l.take 32) ++ (bcells (List.replicate 32 0)).drop (0 + 32)) = bcells l := by
    rw [show l.take 32 = l from List.take_of_length_le (by omega), List.drop_of_length_le (by simp [bcells])]
    simp
  have HLAST := Lib.hid hlast
  have HN := Lib.hid (show (32 : Nat) = Nat.min l.length 32 from by rw [h]; rfl)
  clear h hlast
  go_enter Tryd.func19, Tryd.ntmps19
  go_wp2_with (refine wpList_copy_text rfl (.tmp 9) (.tmp 10) 24 9 rfl 5 Tryd.underlying24 info5 (w.heap.size + 1) 0 32 32 32 l rfl rfl (bcells (List.replicate 32 0)) 26 (heap_alloc2_new w _ _) HN.out (by simp [bcells]) ?_)
  intro w2 hr2' hf2
  have hr2 : w2.heap[w.heap.size + 1]? = some (.cells (bcells l).toArray 26 (0, 0)) := by rw [← HLAST.out]; exact hr2'
  clear hr2'
  have hr0 := (hf2.block w.heap.size (by simp <;> omega) (by simp)).trans (heap_alloc2_old w _ _)
  have bel2 : Below w.heap.size w w2 := (((Below.refl w.heap.size w).alloc (Nat.le_refl _) _).alloc (by simp) _).trans (hf2.below (by simp <;> omega) (fun k hk => by simp at hk; omega))
  have R0 := Lib.hid hr0
  have R2 := Lib.hid hr2
  clear hr0 hr2 hf2
  go_wp2_with (first
    | (refine wpList_load_row rfl 26 (.tmp 4) rfl (w.heap.size + 1) rfl 26 (bcells l).toArray (0, 0) _ R2.out Tryd.underlying26 rfl SZ.out ?_)
    | (refine wpList_store_row rfl 26 (.tmp 2) (.tmp 12) rfl w.heap.size (bcells l).toArray rfl rfl 26 _ R0.out SZ.out SZ3.out (ones_bc _) ?_))
  exact bodyPost_ret (v := .tuple #[aggB l, .int .i64 0]) (results_cell_tmp Tryd.results19 _ _ w.heap.size 26 _ _ _ _ rfl rfl (setRow_heap _ _ _ _ _ _ R0.out) Tryd.underlying26 rfl SZ.out) rfl ⟨rfl, below_setRow bel2 (Nat.le_refl _) _⟩
set_option maxHeartbeats 1000000 in
set_option maxRecDepth 100000 in
theorem From_bad (l : List UInt8) (w : World) (h : ¬ l.length = 32) :
    Calls Tryd.prog 19 #[.string ⟨l.toArray⟩] w fun e w' => e = .returned (.tuple #[aggB (List.replicate 32 0), .int .i64 10]) ∧ Below w.heap.size w w' := by
  have h0 : ((l.length : Int) != 32) = true := by simp; omega
  have SZ := Lib.hid (show (Tryd.prog.info? 26).map (·.size) = some (bcells (List.replicate 32 (0 : UInt8))).toArray.size from by simp [bcells, info26])
  clear h
  have bel2 : Below w.heap.size w ((w.alloc (.cells (bcells (List.replicate 32 0)).toArray 26)).alloc (.cells (bcells (List.replicate 32 0)).toArray 26)) := ((Below.refl w.heap.size w).alloc (Nat.le_refl _) _).alloc (by simp) _
  go_enter Tryd.func19, Tryd.ntmps19
  go_wp2_with (first
    | (refine wpList_load_row rfl 26 (.tmp 4) rfl (w.heap.size + 1) rfl 26 (bcells (List.replicate 32 0)).toArray (0, 0) _ (heap_alloc2_new w _ _) Tryd.underlying26 rfl SZ.out ?_)
    | (refine wpList_store_row rfl 26 (.tmp 2) (.tmp 8) rfl w.heap.size (bcells (List.replicate 32 0)).toArray rfl rfl 26 (bcells (List.replicate 32 0)).toArray (heap_alloc2_old w _ _) SZ.out rfl (ones_bc _) ?_))
  exact bodyPost_ret (v := .tuple #[aggB (List.replicate 32 0), .int .i64 10]) (results_cell_tmp Tryd.results19 _ _ w.heap.size 26 _ _ _ _ rfl rfl (setRow_heap _ _ _ _ _ _ (heap_alloc2_old w _ _)) Tryd.underlying26 rfl SZ.out) rfl ⟨rfl, below_setRow bel2 (Nat.le_refl _) _⟩
end Go.Proofs.YtjabbddgjbejbaaDoor
