import Derived.Test.YtlplgpmadfmjjaaDoorRows
import Derived.WalkKit
import Derived.Below
import Derived.ProofKit
import Derived.OpenShut
import Derived.ShutString
import Derived.ChangeOld
import Derived.Outline
import Derived.RegionTactic
import Derived.ChangeAlike
import Derived.BigRegion
import Derived.BigQuiet
import Derived.Deep.QuietTactic
import Derived.Deep.RegionWith
import Derived.Deep.RegionLaw
import Derived.Deep.RegionHeld3
import Derived.Deep.AppendLies
import Derived.Deep.Draws
import Derived.StillTailTactics
import Derived.Lib.Hide
import Derived.Lib.SmallJoins
import Derived.Handy
import Derived.Deep.LoopGhost
import Derived.Deep.DeepCutAuto
import Derived.Laws.CopyOwn
import Derived.Test.YtlplgpmadfmjjaaDoorHashF
namespace Go.Proofs.YtlplgpmadfmjjaaDoor
open Go.RowKit
set_option linter.unusedSimpArgs false
set_option linter.unusedVariables false
/-- Bytes, as one value. -/
abbrev aggB (l : List UInt8) : Value := .agg (bcells l).toArray
theorem list8 (H : List (BitVec 32)) (h8 : H.length = 8) : H = (s8 H).list := by
  match H, h8 with
  | [_, _, _, _, _, _, _, _], _ => rfl
theorem ix51s (S : S8) (k : Nat) (hk : k < 8) (w : World) : Sem.run Tryd.prog (Instr.index 60 (aggU S.list) (Value.int IntKind.i64 (k : Int))) w = .ok (.int .u32 (S.list.getD k 0).toNat) w := by
  obtain rfl | rfl | rfl | rfl | rfl | rfl | rfl | rfl : k = 0 ∨ k = 1 ∨ k = 2 ∨ k = 3 ∨ k = 4 ∨ k = 5 ∨ k = 6 ∨ k = 7 := by omega
  all_goals kernel_rfl
theorem ix51 (H : List (BitVec 32)) (h8 : H.length = 8) (k : Nat) (hk : k < 8) (w : World) : Sem.run Tryd.prog (Instr.index 60 (aggU H) (Value.int IntKind.i64 (k : Int))) w = .ok (.int .u32 (H.getD k 0).toNat) w := by
  have := ix51s (s8 H) k hk w
  rwa [← list8 H h8] at this
theorem outB_get (H : List (BitVec 32)) (k j : Nat) (hk : k < 8) (hj : j < 4) : (outB H)[4 * k + j]? = some (UInt8.ofNat ((H.getD k 0).toNat >>> (24 - 8 * j))) := by
  have e1 : (4 * k + j) / 4 = k := by omega
  have e2 : (4 * k + j) % 4 = j := by omega
  have e3 : 4 * k + j < 32 := by omega
  simp [outB, e1, e2, e3]
theorem byte_eq (n k : Nat) : (n : Int) / 2 ^ k % 256 = ((UInt8.ofNat (n >>> k)).toNat : Int) := by
  rw [UInt8.toNat_ofNat', Nat.shiftRight_eq_div_pow]; simp
theorem info26 : (Tryd.prog.info? 23).map (·.size) = some 32 := by kernel_rfl
theorem ones_bc (l : List UInt8) : (bcells l).toArray.all (·.oneCell') = true := by
  rw [Array.all_eq_true_iff_forall_mem]; intro x hx; exact bcells_ones l x (by simpa using hx)
set_option maxHeartbeats 1000000 in
set_option maxRecDepth 100000 in
theorem hash_any (b : Nat) (A : List (BitVec 32)) (w : World) (ht : Tabs w) (ha : U8At w b A) :
    Calls Tryd.prog 31 #[.pointer (some ⟨b, 0, none⟩)] w fun e w' => e = .returned (aggB (outB (sum8 A))) ∧ Below w.heap.size w w' := by
  have hbs := ha.2.1
  have h8 := sum8_len ha.1
  obtain ⟨H, hH⟩ : ∃ H, H = sum8 A := ⟨_, rfl⟩
  have HH := Lib.hid hH
  rw [← hH] at h8 ⊢
  clear hH
  have H8 := Lib.hid h8
  have OL := Lib.hid (outB_len H)
  clear h8
  go_enter Tryd.func31, Tryd.ntmps31
  go_wp2_with fail
  have wh := whole_any b A ((w.alloc (.cells (bcells (List.replicate 32 0)).toArray 23)).alloc (.cells (bcells (List.replicate 32 0)).toArray 23)) (ht.below (((Below.refl _ _).alloc (Nat.le_refl _) _).alloc (by simp) _)) (ha.below (((Below.refl _ _).alloc (Nat.le_refl _) _).alloc (by simp) _))
  rw [← HH.out] at wh
  refine wh.mono ?_
  clear wh
  rintro e w1 ⟨rfl, h1⟩
  have bel1 : Below w.heap.size w w1 := (((Below.refl _ _).alloc (Nat.le_refl _) _).alloc (by simp) _).trans (h1.mono (by simp; omega))
  have r0 : w1.heap[w.heap.size]? = some (.cells (bcells (List.replicate 32 0)).toArray 23 (0, 0)) := (h1.block _ (by simp <;> omega)).trans (heap_alloc2_old w _ _)
  have r1 : w1.heap[w.heap.size + 1]? = some (.cells (bcells (List.replicate 32 0)).toArray 23 (0, 0)) := (h1.block _ (by simp <;> omega)).trans (heap_alloc2_new w _ _)
  clear h1
  have R0 := Lib.hid r0
  have R1 := Lib.hid r1
  clear r0 r1
  go_wp2
  go_loopw [9] (fun i wr => ∃ k : Nat, ∃ M : List UInt8, k ≤ 8 ∧ i = .int .i64 k ∧ M.length = 32 ∧ M.take (4 * k) = (outB H).take (4 * k) ∧ Hid (wr.heap[w.heap.size]? = some (.cells (bcells (List.replicate 32 0)).toArray 23 (0, 0))) ∧ Hid (wr.heap[w.heap.size + 1]? = some (.cells (bcells M).toArray 23 (0, 0))) ∧ Below w.heap.size w wr) (fun i _ => 8 - (intOf i).toNat)
  case atStart => exact ⟨0, List.replicate 32 0, by omega, rfl, rfl, rfl, R0, R1, bel1⟩
  case round =>
    clear R0 R1 bel1
    obtain ⟨k, M, hk, rfl, hM, hT, hr0, hr1, hbel⟩ := hrel
    by_cases hlt : k < 8
    · have kk : (k : Int) < 8 := by omega
      have hix := ix51 H H8.out k hlt wr
      generalize hx : H.getD k 0 = x at hix
      have HX := Lib.hid hx
      have HM := Lib.hid hM
      have HT := Lib.hid hT
      clear hM hT hx
      obtain ⟨wo, rfl⟩ : ∃ wo : World, wo = wr := ⟨_, rfl⟩
      go_wp2
      clear hix
      go_loopw [13] (fun i wr => ∃ j : Nat, ∃ M : List UInt8, j ≤ 4 ∧ i = .int .i64 j ∧ M.length = 32 ∧ M.take (4 * k + j) = (outB H).take (4 * k + j) ∧ Hid (wr.heap[w.heap.size]? = some (.cells (bcells (List.replicate 32 0)).toArray 23 (0, 0))) ∧ Hid (wr.heap[w.heap.size + 1]? = some (.cells (bcells M).toArray 23 (0, 0))) ∧ Below w.heap.size w wr) (fun i _ => 4 - (intOf i).toNat)
      case atStart => exact ⟨0, M, by omega, rfl, HM.out, HT.out, hr0, hr1, hbel⟩
      case round =>
        clear HM HT hr0 hr1 hbel M
        obtain ⟨j, M, hj, rfl, hM, hT, hr0, hr1, hbel⟩ := hrel
        by_cases hjt : j < 4
        · have c0 : wr.cell? ⟨w.heap.size + 1, 4 * k + j, none⟩ = some (.int .u8 (M.getD (4 * k + j) 0).toNat) := cell_row hr1.out (bcells_get (by omega))
          have f0 : wr.frozen? ⟨w.heap.size + 1, 4 * k + j, none⟩ = false := frozen_of_row wr _ _ _ _ hr1.out
          have jj : (j : Int) < 4 := by omega
          have HM := Lib.hid hM
          have HT := Lib.hid hT
          clear hM hT
          generalize M.getD (4 * k + j) 0 = z at c0
          go_wp2
          go_roundw
          case rel =>
            refine ⟨j + 1, M.set (4 * k + j) (UInt8.ofNat (x.toNat >>> (24 - 8 * j))), by omega, by go_num, by simpa using HM.out, take_set _ _ _ _ HT.out (by rw [HM.out]; show 4 * k + j < 32; omega) (by rw [← HX.out]; exact outB_get H k j hlt hjt), ?_, ?_, ?_⟩
            · refine Lib.hid ?_; rw [heap_setCell_other _ _ _ _ (by simp)]; exact hr0.out
            · refine Lib.hid ?_; rw [← bcells_set, byte_eq]; exact set_row hr1.out
            · exact hbel.setCell (by simp) _
          case measure => simp [intOf]; omega
        · obtain rfl : j = 4 := by omega
          go_wp2
          go_roundw
          case rel => exact ⟨k + 1, M, by omega, by go_num, hM, hT, hr0, hr1, hbel⟩
          case measure => simp [intOf]; omega
    · obtain rfl : k = 8 := by omega
      have e := take_all _ _ 32 hT hM OL.out
      subst e
      clear hT hM
      have sz : ((bcells (List.replicate 32 (0 : UInt8))).toArray).size = (bcells (outB H)).toArray.size := by simp [bcells, outB_len]
      have sz2 : (Tryd.prog.info? 23).map (·.size) = some (bcells (outB H)).toArray.size := by simp [bcells, outB_len, info26]
      have SZ := Lib.hid sz
      have SZ2 := Lib.hid sz2
      clear sz sz2
      go_wp2_with (first
        | (refine wpList_load_row rfl 23 (.tmp 3) rfl (w.heap.size + 1) rfl 23 (bcells (outB H)).toArray (0, 0) _ hr1.out Tryd.underlying23 rfl SZ2.out ?_)
        | (refine wpList_store_row rfl 23 (.tmp 2) (.tmp 29) rfl w.heap.size (bcells (outB H)).toArray rfl rfl 23 (bcells (List.replicate 32 0)).toArray hr0.out SZ2.out SZ.out (ones_bc _) ?_))
      exact bodyPost_ret (v := aggB (outB H)) (results_cell_row Tryd.results31 _ _ w.heap.size 23 _ _ _ rfl (setRow_heap _ _ _ _ _ _ hr0.out) Tryd.underlying23 rfl SZ2.out) rfl ⟨rfl, below_setRow hbel (Nat.le_refl _) _⟩
end Go.Proofs.YtlplgpmadfmjjaaDoor
