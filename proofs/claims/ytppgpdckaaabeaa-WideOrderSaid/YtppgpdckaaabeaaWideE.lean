/- The document's compare, sum and difference. -/
import Derived.Test.YtppgpdckaaabeaaRows
import Derived.WalkKit
import Derived.Below
import Derived.ProofKit
import Derived.OpenShut
import Derived.ShutString
import Derived.ChangeOld
import Derived.Outline
import Derived.RegionTactic
import Derived.ChangeAlike
import Derived.BigRegion
import Derived.BigQuiet
import Derived.Deep.QuietTactic
import Derived.Deep.RegionWith
import Derived.Deep.RegionLaw
import Derived.Deep.RegionHeld3
import Derived.Deep.AppendLies
import Derived.Deep.Draws
import Derived.StillTailTactics
import Derived.Lib.Hide
import Derived.Lib.SmallJoins
import Derived.Handy
import Derived.WalkSpells
import Derived.WalkLawsBesides
import Derived.Deep.LoopGhost
import Derived.Deep.DeepCutAuto
import Derived.Test.YtppgpdckaaabeaaWideD
namespace Go.Proofs.Ytppgpdckaaabeaa
open Go.RowKit
set_option linter.unusedSimpArgs false
set_option linter.unusedVariables false
set_option linter.unnecessarySimpa false
def cmpN (N M : Nat) : Int := if N < M then -1 else if M < N then 1 else 0
theorem div_lt_of {N M k : Nat} (h : N / 256 ^ k < M / 256 ^ k) : N < M := by
  rcases Nat.lt_or_ge N M with h1 | h1
  · exact h1
  · have := Nat.div_le_div_right (c := 256 ^ k) h1
    omega
set_option maxHeartbeats 1000000 in
set_option maxRecDepth 100000 in
theorem compare_any (N M : Nat) (w : World) (hN : N < 2 ^ 256) (hM : M < 2 ^ 256) :
    Calls Try.prog 19 #[aggN N, aggN M] w fun e w' => e = .returned (.int .i64 (cmpN N M)) ∧ Below w.heap.size w w' := by
  have htop : N / 256 ^ 32 = M / 256 ^ 32 := by
    rw [show (256 : Nat) ^ 32 = 2 ^ 256 from by decide, Nat.div_eq_of_lt hN, Nat.div_eq_of_lt hM]
  have HT := Lib.hid htop
  clear htop hN hM
  go_enter Try.func19, Try.ntmps19
  go_wp2_with (first
    | (refine wpList_load_row rfl 24 (.tmp 2) rfl w.heap.size rfl 24 (wcells N).toArray (0, 0) _ (heap_alloc2_old w _ _) Try.underlying24 rfl (infoW' _) ?_))
  generalize hwa : World.alloc _ _ = wa
  have r1 : wa.heap[w.heap.size + 1]? = some (.cells (wcells M).toArray 24 (0, 0)) := by rw [← hwa]; exact heap_alloc2_new w _ _
  have ba : Below w.heap.size w wa := by rw [← hwa]; exact ((Below.refl _ _).alloc (Nat.le_refl _) _).alloc (by simp) _
  clear hwa
  refine (digs_any N wa).mono ?_
  rintro e w1 ⟨⟨vx, rfl, hx⟩, g1⟩
  have r2 := (g1.block _ (row_lt r1)).trans r1
  have b1 := ba.trans (g1.mono ba.size)
  clear g1 r1 ba
  go_wp2_with (refine wpList_load_row rfl 24 (.tmp 3) rfl (w.heap.size + 1) rfl 24 (wcells M).toArray (0, 0) _ r2 Try.underlying24 rfl (infoW' _) ?_)
  refine (digs_any M w1).mono ?_
  rintro e w2 ⟨⟨vy, rfl, hy⟩, g2⟩
  have hx2 := hx.below g2
  have b2 := b1.trans (g2.mono b1.size)
  clear g2 r2 b1 hx
  obtain ⟨bx, cx, rfl, hbx, hcx⟩ := hx2
  obtain ⟨bY, cY, rfl, hbY, hcY⟩ := hy
  have HX := Lib.hid hcx
  have HY := Lib.hid hcY
  clear hcx hcY
  go_wp2
  go_loopw [7] (fun i wr => ∃ k : Nat, k ≤ 32 ∧ i = .int .i64 ((k : Int) - 1) ∧ Hid (N / 256 ^ k = M / 256 ^ k) ∧ Below w2.heap.size w2 wr) (fun i _ => (intOf i + 1).toNat)
  case atStart => exact ⟨32, by omega, rfl, HT, Below.refl _ _⟩
  case round =>
    obtain ⟨k, hk, rfl, hd, hbel⟩ := hrel
    cases k with
    | zero =>
      have hz : cmpN N M = 0 := by
        have := hd.out
        simp at this
        simp [cmpN, this]
      have HZ := Lib.hid hz
      clear hz
      go_wp2
      go_ret
      exact ⟨by rw [HZ.out]; rfl, b2.trans (hbel.mono b2.size)⟩
    | succ k =>
      have ek : ((k + 1 : Nat) : Int) - 1 = (k : Int) := by omega
      rw [ek]
      have k32 : (k : Int) < 32 := by omega
      have cx0 : wr.cell? ⟨bx, k, none⟩ = some (.int .i64 (dg N k : Nat)) := (hbel.cell (p := ⟨bx, k, none⟩) hbx).trans (HX.out k (by omega))
      have cy0 : wr.cell? ⟨bY, k, none⟩ = some (.int .i64 (dg M k : Nat)) := (hbel.cell (p := ⟨bY, k, none⟩) hbY).trans (HY.out k (by omega))
      have e1 := dg_div N k
      have e2 := dg_div M k
      rw [hd.out] at e1
      rcases Nat.lt_trichotomy (dg N k) (dg M k) with h | h | h
      · have hlt : cmpN N M = -1 := by
          have : N < M := div_lt_of (k := k) (by omega)
          simp [cmpN, this]
        have HZ := Lib.hid hlt
        clear hlt e1 e2
        generalize dg N k = x at *
        generalize dg M k = y at *
        have hdec : decide (x < y) = true := by simpa using h
        clear ek
        go_wp2
        go_region
        go_wp2
        go_ret
        exact ⟨by rw [HZ.out]; rfl, b2.trans (hbel.drew.mono b2.size)⟩
      · have hd2 := Lib.hid (show N / 256 ^ k = M / 256 ^ k from by rw [e1, e2, h])
        clear e1 e2
        rw [h] at cx0
        generalize dg M k = y at cx0 cy0
        clear ek h
        have hdec : decide (y < y) = false := by simp
        go_wp2
        go_region
        go_wp2
        go_region
        go_wp2
        go_roundw
        case rel => exact ⟨k, by omega, rfl, hd2, hbel.drew.drew⟩
        case measure => simp [intOf]
      · have hlt : cmpN N M = 1 := by
          have : M < N := div_lt_of (k := k) (by omega)
          simp [cmpN, this, Nat.not_lt.2 (Nat.le_of_lt this)]
        have HZ := Lib.hid hlt
        clear hlt e1 e2
        generalize dg N k = x at *
        generalize dg M k = y at *
        have hdec : decide (x < y) = false := by simp; omega
        have hdec2 : decide (y < x) = true := by simpa using h
        clear ek
        go_wp2
        go_region
        go_wp2
        go_region
        go_wp2
        go_ret
        exact ⟨by rw [HZ.out]; rfl, b2.trans (hbel.drew.drew.mono b2.size)⟩
def addR (N M : Nat) : Nat × Bool := if N + M < 2 ^ 256 then (N + M, true) else (0, false)
theorem numR_add (N M : Nat) (hN : N < 2 ^ 256) (hM : M < 2 ^ 256) : numR (dgs (N + M) 32 ++ [cy N M 32]) = addR N M := by
  have e : val (dgs (N + M) 32 ++ [cy N M 32]) = N + M := by
    rw [val_snoc, dgs_val, dgs_len, cy_top N M (by exact hN) (by exact hM), Nat.mul_comm]
    exact Nat.mod_add_div _ _
  unfold numR addR
  rw [e]
set_option maxHeartbeats 1000000 in
set_option maxRecDepth 100000 in
theorem refAdd_any (N M : Nat) (w : World) (hN : N < 2 ^ 256) (hM : M < 2 ^ 256) :
    Calls Try.prog 13 #[aggN N, aggN M] w fun e w' => e = .returned (.tuple #[aggN (addR N M).1, .bool (addR N M).2]) ∧ Below w.heap.size w w' := by
  obtain ⟨i0, hi, hz0, hz1, hz2⟩ := info_parts infoI
  have NR := Lib.hid (numR_add N M hN hM)
  clear hN hM
  go_enter Try.func13, Try.ntmps13
  go_wp2_with (first
    | (refine wpList_load_row rfl 24 (.tmp 2) rfl w.heap.size rfl 24 (wcells N).toArray (0, 0) _ ((Below.heap_alloc _ _ _ (by simp <;> omega)).trans (heap_alloc2_old w _ _)) Try.underlying24 rfl (infoW' _) ?_))
  generalize hwa : World.alloc _ _ = wa
  have r1 : wa.heap[w.heap.size + 1]? = some (.cells (wcells M).toArray 24 (0, 0)) := by rw [← hwa]; exact (Below.heap_alloc _ _ _ (by simp)).trans (heap_alloc2_new w _ _)
  have r2 : wa.heap[w.heap.size + 2]? = some (.cells (wcells 0).toArray 24 (0, 0)) := by rw [← hwa]; exact heap_new_at (by simp)
  have ba : Below w.heap.size w wa := by rw [← hwa]; exact (((Below.refl _ _).alloc (Nat.le_refl _) _).alloc (by simp) _).alloc (by simp <;> omega) _
  clear hwa
  refine (digs_any N wa).mono ?_
  rintro e w1 ⟨⟨vx, rfl, hx⟩, g1⟩
  have q1 := (g1.block _ (row_lt r1)).trans r1
  have q2 := (g1.block _ (row_lt r2)).trans r2
  have b1 := ba.trans (g1.mono ba.size)
  clear g1 r1 r2 ba
  go_wp2_with (refine wpList_load_row rfl 24 (.tmp 3) rfl (w.heap.size + 1) rfl 24 (wcells M).toArray (0, 0) _ q1 Try.underlying24 rfl (infoW' _) ?_)
  refine (digs_any M w1).mono ?_
  rintro e w2 ⟨⟨vy, rfl, hy⟩, g2⟩
  have hx2 := hx.below g2
  have R2 := Lib.hid ((g2.block _ (row_lt q2)).trans q2)
  have b2 := b1.trans (g2.mono b1.size)
  clear g2 q1 q2 b1 hx
  obtain ⟨bx, cx, rfl, hbx, hcx⟩ := hx2
  obtain ⟨bY, cY, rfl, hbY, hcY⟩ := hy
  have HX := Lib.hid hcx
  have HY := Lib.hid hcY
  clear hcx hcY
  go_wp2
  go_loopw [8, 9, 10] (fun v c i wr => ∃ k : Nat, k ≤ 32 ∧ i = .int .i64 k ∧ c = .int .i64 (cy N M k : Nat) ∧ wr.ownsRow w2.heap.size 3 1 v k (ncells (dgs (N + M) k)) ∧ Below w2.heap.size w2 wr) (fun _ _ i _ => 32 - (intOf i).toNat)
  case atStart => exact ⟨0, by omega, rfl, by rw [cy_zero]; rfl, by simpa [dgs, ncells] using World.ownsRow_nil w2 w2.heap.size 3 1, Below.refl _ _⟩
  case round =>
    obtain ⟨k, hk, rfl, rfl, hown, hbel⟩ := hrel
    obtain ⟨A, cp, rfl⟩ := own_form hown
    have hz := hbel.size
    by_cases hlt : k < 32
    · have k32 : (k : Int) < 32 := by omega
      have cx0 : wr.cell? ⟨bx, k, none⟩ = some (.int .i64 (dg N k : Nat)) := (hbel.cell (p := ⟨bx, k, none⟩) hbx).trans (HX.out k (by omega))
      have cy0 : wr.cell? ⟨bY, k, none⟩ = some (.int .i64 (dg M k : Nat)) := (hbel.cell (p := ⟨bY, k, none⟩) hbY).trans (HY.out k (by omega))
      have hd := dg_add N M k
      have hc := cy_succ N M k
      have lx := dg_lt N k
      have ly := dg_lt M k
      have lc := cy_le N M k
      have HS := Lib.hid (dgs_snoc (N + M) k)
      have ld := dg_lt (N + M) k
      generalize dg N k = x at *
      generalize dg M k = y at *
      generalize cy N M k = c at *
      obtain ⟨z, ez⟩ : ∃ z, z = dg (N + M) k := ⟨_, rfl⟩
      rw [← ez] at hd HS ld
      have i1 : ((x : Int) + y + c) % 256 = (z : Int) := by omega
      have i2 : ((x : Int) + y + c) / 256 = ((cy N M (k + 1) : Nat) : Int) := by omega
      have I2 := Lib.hid i2
      clear hd hc ez i2
      go_wp2
      go_region
      go_wp2_with (at_builtin; refine wpList_append_own _ rfl (.tmp 31) (.tmp 34) 51 rfl w2.heap.size 3 i0 (.int .i64 0) 1 8 Try.underlying51 hi hz0 hz1 hz2 rfl (by decide) (.slice A k cp) k (ncells (dgs (N + M) k)) rfl ((hown.drew).alloc _) ⟨wr.drew.heap.size, 0, none⟩ 1 1 [.int .i64 (z : Nat)] rfl rfl (World.news_of_block (cs := #[.int .i64 (z : Nat)]) (t := 3) (fr := (0, 0)) (heap_alloc_new wr.drew _)) (by simp [Value.oneCell']) (by unfold maxLen; omega) (by omega) (by simp; omega) ?_; intro v' w6 hown6 hgrow _)
      rw [HS.out] at hown6
      have b6 : Below w2.heap.size w2 w6 := (hbel.drew.alloc hz _).grown hgrow (by simp; omega) (own_block_ge hown)
      go_roundw
      case rel => exact ⟨k + 1, by omega, by go_num, by rw [I2.out], hown6, b6⟩
      case measure => simp [intOf]; omega
    · obtain rfl : k = 32 := by omega
      have hc2 := cy_le N M 32
      obtain ⟨c, hc⟩ : ∃ c, c = cy N M 32 := ⟨_, rfl⟩
      rw [← hc] at hc2
      rw [← hc]
      have EC := Lib.hid hc
      clear hc HX HY
      rw [show ((32 : Nat) : Int) = 32 from rfl]
      go_wp2_with (at_builtin; refine wpList_append_lies _ rfl (.tmp 38) (.tmp 40) 51 rfl w2.heap.size 3 i0 (.int .i64 0) 1 8 Try.underlying51 hi hz0 hz1 hz2 rfl (by decide) (.slice A 32 cp) 32 (ncells (dgs (N + M) 32)) rfl (hown.alloc _) ⟨wr.heap.size, 0, none⟩ 1 1 [.int .i64 (c : Nat)] rfl rfl (World.news_of_block (cs := #[.int .i64 (c : Nat)]) (t := 3) (fr := (0, 0)) (heap_alloc_new wr _)) (by simp [Value.oneCell']) (by decide) (by unfold maxLen; omega) (by omega) (by simp; omega) (wr.heap.size + 1) (by simp) ?_; intro g6 c6 w6 hown6 hgrow _ _)
      have b6 : Below w2.heap.size w2 w6 := (hbel.alloc hz _).grown hgrow (by simp; omega) (own_block_ge hown)
      rw [ncells_snoc, EC.out] at hown6
      have hv := NatsAt.of_own hown6 (by omega)
      have R6 := Lib.hid ((b6.block _ (row_lt R2.out)).trans R2.out)
      have b7 := b2.trans (b6.mono b2.size)
      clear hgrow hown hown6 b6 hbel
      refine (number_any _ _ w6 hv (fun x hx => by
        rcases List.mem_append.1 hx with h | h
        · exact dgs_lt _ _ x h
        · have := cy_le N M 32; simp at h; omega) (by simp [dgs_len])).mono ?_
      rw [NR.out]
      rintro e w8 ⟨rfl, g8⟩
      have R8 := Lib.hid ((g8.block _ (row_lt R6.out)).trans R6.out)
      have b8 := b7.trans (g8.mono b7.size)
      clear g8 hv b7 R6
      obtain ⟨X, hX⟩ : ∃ X, X = (addR N M).1 := ⟨_, rfl⟩
      obtain ⟨q, hq⟩ : ∃ q, q = (addR N M).2 := ⟨_, rfl⟩
      rw [← hX, ← hq]
      have EX := Lib.hid hX
      have EQ := Lib.hid hq
      clear hX hq
      go_wp2_with (refine wpList_store_row rfl 24 (.tmp 4) (.tmp 43) rfl (w.heap.size + 2) (wcells X).toArray rfl rfl 24 (wcells 0).toArray R8.out (infoW' _) rfl (ones_w _) ?_)
      exact bodyPost_ret (v := .tuple #[aggN X, .bool q]) (results_cell_tmp Try.results13 _ _ (w.heap.size + 2) 24 _ _ _ _ rfl rfl (setRow_heap _ _ _ _ _ _ R8.out) Try.underlying24 rfl (infoW' _)) rfl ⟨by rw [EX.out, EQ.out], below_setRow b8 (by omega) _⟩
end Go.Proofs.Ytppgpdckaaabeaa
