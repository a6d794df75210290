/- The document's difference; bytes. -/
import Derived.Test.YtppgpdckaaabeaaRows
import Derived.WalkKit
import Derived.Below
import Derived.ProofKit
import Derived.OpenShut
import Derived.ShutString
import Derived.ChangeOld
import Derived.Outline
import Derived.RegionTactic
import Derived.ChangeAlike
import Derived.BigRegion
import Derived.BigQuiet
import Derived.Deep.QuietTactic
import Derived.Deep.RegionWith
import Derived.Deep.RegionLaw
import Derived.Deep.RegionHeld3
import Derived.Deep.AppendLies
import Derived.Deep.Draws
import Derived.StillTailTactics
import Derived.Lib.Hide
import Derived.Lib.SmallJoins
import Derived.Handy
import Derived.WalkSpells
import Derived.WalkLawsBesides
import Derived.Deep.LoopGhost
import Derived.Deep.DeepCutAuto
import Derived.Test.YtppgpdckaaabeaaWideE
namespace Go.Proofs.Ytppgpdckaaabeaa
open Go.RowKit
set_option linter.unusedSimpArgs false
set_option linter.unusedVariables false
set_option linter.unnecessarySimpa false
def subR (N M : Nat) : Nat × Bool := if N < M then (0, false) else (N - M, true)
theorem numR_dgs (N : Nat) (h : N < 2 ^ 256) : numR (dgs N 32) = (N, true) := by
  have e : val (dgs N 32) = N := by rw [dgs_val]; exact Nat.mod_eq_of_lt h
  unfold numR
  rw [e, if_pos h]
theorem cmpN_lt {N M : Nat} (h : N < M) : cmpN N M = -1 := by simp [cmpN, h]
theorem cmpN_ge {N M : Nat} (h : ¬ N < M) : (decide (cmpN N M < 0)) = false := by
  unfold cmpN; rw [if_neg h]; split <;> simp
set_option maxHeartbeats 2000000 in
set_option maxRecDepth 100000 in
theorem refSub_any (N M : Nat) (w : World) (hN : N < 2 ^ 256) (hM : M < 2 ^ 256) :
    Calls Try.prog 15 #[aggN N, aggN M] w fun e w' => e = .returned (.tuple #[aggN (subR N M).1, .bool (subR N M).2]) ∧ Below w.heap.size w w' := by
  obtain ⟨i0, hi, hz0, hz1, hz2⟩ := info_parts infoI
  have HN := Lib.hid hN
  have HM := Lib.hid hM
  clear hN hM
  go_enter Try.func15, Try.ntmps15
  go_wp2_with (first
    | (refine wpList_load_row rfl 24 (.tmp 2) rfl w.heap.size rfl 24 (wcells N).toArray (0, 0) _ ((Below.heap_alloc _ _ _ (by simp <;> omega)).trans (heap_alloc2_old w _ _)) Try.underlying24 rfl (infoW' _) ?_)
    | (refine wpList_load_row rfl 24 (.tmp 3) rfl (w.heap.size + 1) rfl 24 (wcells M).toArray (0, 0) _ ((Below.heap_alloc _ _ _ (by simp)).trans (heap_alloc2_new w _ _)) Try.underlying24 rfl (infoW' _) ?_))
  generalize hwa : World.alloc _ _ = wa
  have r0 : wa.heap[w.heap.size]? = some (.cells (wcells N).toArray 24 (0, 0)) := by rw [← hwa]; exact (Below.heap_alloc _ _ _ (by simp <;> omega)).trans (heap_alloc2_old w _ _)
  have r1 : wa.heap[w.heap.size + 1]? = some (.cells (wcells M).toArray 24 (0, 0)) := by rw [← hwa]; exact (Below.heap_alloc _ _ _ (by simp)).trans (heap_alloc2_new w _ _)
  have r2 : wa.heap[w.heap.size + 2]? = some (.cells (wcells 0).toArray 24 (0, 0)) := by rw [← hwa]; exact heap_new_at (by simp)
  have ba : Below w.heap.size w wa := by rw [← hwa]; exact (((Below.refl _ _).alloc (Nat.le_refl _) _).alloc (by simp) _).alloc (by simp <;> omega) _
  clear hwa
  refine (compare_any N M wa HN.out HM.out).mono ?_
  rintro e w0 ⟨rfl, g0⟩
  have p0 := (g0.block _ (row_lt r0)).trans r0
  have p1 := (g0.block _ (row_lt r1)).trans r1
  have p2 := (g0.block _ (row_lt r2)).trans r2
  have b0 := ba.trans (g0.mono ba.size)
  clear g0 r0 r1 r2 ba
  by_cases hlt : N < M
  · rw [cmpN_lt hlt]
    have NR := Lib.hid (show subR N M = (0, false) from by rw [subR, if_pos hlt])
    go_wp2_with (refine wpList_store_row rfl 24 (.tmp 4) (.tmp 16) rfl (w.heap.size + 2) (wcells 0).toArray rfl rfl 24 (wcells 0).toArray p2 (infoW' 0) rfl (ones_w 0) ?_)
    rw [NR.out]
    exact bodyPost_ret (v := .tuple #[aggN 0, .bool false]) (results_cell_tmp Try.results15 _ _ (w.heap.size + 2) 24 _ _ _ _ rfl rfl (setRow_heap _ _ _ _ _ _ p2) Try.underlying24 rfl (infoW' 0)) rfl ⟨rfl, below_setRow b0 (by omega) _⟩
  · have hdec := cmpN_ge hlt
    have NR := Lib.hid (show subR N M = (N - M, true) from by rw [subR, if_neg hlt])
    obtain ⟨D, hD⟩ : ∃ D, N = M + D := ⟨N - M, by omega⟩
    have HDF := Lib.hid hD
    generalize cmpN N M = cm at hdec
    have R1 := Lib.hid p1
    have R2 := Lib.hid p2
    clear hD p1 p2
    go_wp2_with (refine wpList_load_row rfl 24 (.tmp 2) rfl w.heap.size rfl 24 (wcells N).toArray (0, 0) _ p0 Try.underlying24 rfl (infoW' _) ?_)
    refine (digs_any N w0).mono ?_
    rintro e w1 ⟨⟨vx, rfl, hx⟩, g1⟩
    have q1 := (g1.block _ (row_lt R1.out)).trans R1.out
    have q2 := Lib.hid ((g1.block _ (row_lt R2.out)).trans R2.out)
    have b1 := b0.trans (g1.mono b0.size)
    clear g1 R1 R2 b0 p0 hdec
    go_wp2_with (refine wpList_load_row rfl 24 (.tmp 3) rfl (w.heap.size + 1) rfl 24 (wcells M).toArray (0, 0) _ q1 Try.underlying24 rfl (infoW' _) ?_)
    refine (digs_any M w1).mono ?_
    rintro e w2 ⟨⟨vy, rfl, hy⟩, g2⟩
    have hx2 := hx.below g2
    have R2 := Lib.hid ((g2.block _ (row_lt q2.out)).trans q2.out)
    have b2 := b1.trans (g2.mono b1.size)
    clear g2 q1 q2 b1 hx
    obtain ⟨bx, cx, rfl, hbx, hcx⟩ := hx2
    obtain ⟨bY, cY, rfl, hbY, hcY⟩ := hy
    have HX := Lib.hid hcx
    have HY := Lib.hid hcY
    clear hcx hcY
    go_wp2
    go_loopw [8, 9, 10] (fun v c i wr => ∃ k : Nat, k ≤ 32 ∧ i = .int .i64 k ∧ c = .int .i64 (cy M D k : Nat) ∧ wr.ownsRow w2.heap.size 3 1 v k (ncells (dgs D k)) ∧ Below w2.heap.size w2 wr) (fun _ _ i _ => 32 - (intOf i).toNat)
    case atStart => exact ⟨0, by omega, rfl, by rw [cy_zero]; rfl, by simpa [dgs, ncells] using World.ownsRow_nil w2 w2.heap.size 3 1, Below.refl _ _⟩
    case round =>
      obtain ⟨k, hk, rfl, rfl, hown, hbel⟩ := hrel
      obtain ⟨A, cp, rfl⟩ := own_form hown
      have hz := hbel.size
      by_cases hlt : k < 32
      · have k32 : (k : Int) < 32 := by omega
        have cx0 : wr.cell? ⟨bx, k, none⟩ = some (.int .i64 (dg N k : Nat)) := (hbel.cell (p := ⟨bx, k, none⟩) hbx).trans (HX.out k (by omega))
        have cy0 : wr.cell? ⟨bY, k, none⟩ = some (.int .i64 (dg M k : Nat)) := (hbel.cell (p := ⟨bY, k, none⟩) hbY).trans (HY.out k (by omega))
        have hs := sub_step M D k
        rw [← HDF.out] at hs
        have lx := dg_lt N k
        have ly := dg_lt M k
        have lc := cy_le M D k
        have lc2 := cy_le M D (k + 1)
        have HS := Lib.hid (dgs_snoc D k)
        have ld := dg_lt D k
        generalize dg N k = x at *
        generalize dg M k = y at *
        generalize cy M D k = c at *
        obtain ⟨z, ez⟩ : ∃ z, z = dg D k := ⟨_, rfl⟩
        rw [← ez] at hs HS ld
        obtain ⟨c2, ec2⟩ : ∃ c2, c2 = cy M D (k + 1) := ⟨_, rfl⟩
        rw [← ec2] at hs lc2
        have EC2 := Lib.hid ec2
        clear ez ec2
        have hc2 : c2 = 0 ∨ c2 = 1 := by omega
        rcases hc2 with rfl | rfl
        · have i1 : (x : Int) - y - c = (z : Int) := by omega
          have hdec : decide ((z : Int) < 0) = false := by simp
          go_wp2
          go_region
          go_wp2_with (at_builtin; refine wpList_append_own _ rfl (.tmp 40) (.tmp 42) 51 rfl w2.heap.size 3 i0 (.int .i64 0) 1 8 Try.underlying51 hi hz0 hz1 hz2 rfl (by decide) (.slice A k cp) k (ncells (dgs D k)) rfl ((hown.drew).alloc _) ⟨wr.drew.heap.size, 0, none⟩ 1 1 [.int .i64 (z : Nat)] rfl rfl (World.news_of_block (cs := #[.int .i64 (z : Nat)]) (t := 3) (fr := (0, 0)) (heap_alloc_new wr.drew _)) (by simp [Value.oneCell']) (by unfold maxLen; omega) (by omega) (by simp; omega) ?_; intro v' w6 hown6 hgrow _; rw [HS.out] at hown6; have b6 : Below w2.heap.size w2 w6 := (hbel.drew.alloc hz _).grown hgrow (by simp; omega) (own_block_ge hown))
          go_roundw
          case rel => exact ⟨k + 1, by omega, by go_num, by rw [← EC2.out]; rfl, hown6, b6⟩
          case measure => simp [intOf]; omega
        · have i1 : (x : Int) - y - c = (z : Int) - 256 := by omega
          have hdec : decide ((z : Int) - 256 < 0) = true := by simp; omega
          have i2 : (z : Int) - 256 + 256 = z := by omega
          go_wp2
          go_region
          go_wp2_with (at_builtin; refine wpList_append_own _ rfl (.tmp 40) (.tmp 42) 51 rfl w2.heap.size 3 i0 (.int .i64 0) 1 8 Try.underlying51 hi hz0 hz1 hz2 rfl (by decide) (.slice A k cp) k (ncells (dgs D k)) rfl ((hown.drew).alloc _) ⟨wr.drew.heap.size, 0, none⟩ 1 1 [.int .i64 (z : Nat)] rfl rfl (World.news_of_block (cs := #[.int .i64 (z : Nat)]) (t := 3) (fr := (0, 0)) (heap_alloc_new wr.drew _)) (by simp [Value.oneCell']) (by unfold maxLen; omega) (by omega) (by simp; omega) ?_; intro v' w6 hown6 hgrow _; rw [HS.out] at hown6; have b6 : Below w2.heap.size w2 w6 := (hbel.drew.alloc hz _).grown hgrow (by simp; omega) (own_block_ge hown))
          go_roundw
          case rel => exact ⟨k + 1, by omega, by go_num, by rw [← EC2.out]; rfl, hown6, b6⟩
          case measure => simp [intOf]; omega
      · obtain rfl : k = 32 := by omega
        clear HX HY
        rw [show ((32 : Nat) : Int) = 32 from rfl]
        have hv := NatsAt.of_own hown (by omega)
        have R6 := Lib.hid ((hbel.block _ (row_lt R2.out)).trans R2.out)
        have b7 := b2.trans (hbel.mono b2.size)
        clear hown hbel
        go_wp2_with fail
        refine (number_any _ _ wr hv (dgs_lt _ _) (by simp [dgs_len])).mono ?_
        rw [numR_dgs D (by have := HN.out; have := HDF.out; omega)]
        rintro e w8 ⟨rfl, g8⟩
        have R8 := Lib.hid ((g8.block _ (row_lt R6.out)).trans R6.out)
        have b8 := b7.trans (g8.mono b7.size)
        clear g8 hv b7 R6
        go_wp2_with (refine wpList_store_row rfl 24 (.tmp 4) (.tmp 46) rfl (w.heap.size + 2) (wcells D).toArray rfl rfl 24 (wcells 0).toArray R8.out (infoW' _) rfl (ones_w _) ?_)
        exact bodyPost_ret (v := .tuple #[aggN D, .bool true]) (results_cell_tmp Try.results15 _ _ (w.heap.size + 2) 24 _ _ _ _ rfl rfl (setRow_heap _ _ _ _ _ _ R8.out) Try.underlying24 rfl (infoW' _)) rfl ⟨by rw [NR.out, show N - M = D from by have := HDF.out; omega], below_setRow b8 (by omega) _⟩
end Go.Proofs.Ytppgpdckaaabeaa
