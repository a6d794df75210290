/- The document's product. -/
import Derived.Test.YtppgpdckaaabeaaRows
import Derived.WalkKit
import Derived.Below
import Derived.ProofKit
import Derived.OpenShut
import Derived.ShutString
import Derived.ChangeOld
import Derived.Outline
import Derived.RegionTactic
import Derived.ChangeAlike
import Derived.BigRegion
import Derived.BigQuiet
import Derived.Deep.QuietTactic
import Derived.Deep.RegionWith
import Derived.Deep.RegionLaw
import Derived.Deep.RegionHeld3
import Derived.Deep.AppendLies
import Derived.Deep.Draws
import Derived.StillTailTactics
import Derived.Lib.Hide
import Derived.Lib.SmallJoins
import Derived.Handy
import Derived.WalkSpells
import Derived.WalkLawsBesides
import Derived.Deep.LoopGhost
import Derived.Deep.DeepCutAuto
import Derived.Test.YtppgpdckaaabeaaWideI
namespace Go.Proofs.Ytppgpdckaaabeaa
open Go.RowKit
set_option linter.unusedSimpArgs false
set_option linter.unusedVariables false
set_option linter.unnecessarySimpa false
def timesR (N n : Nat) : Nat × Bool := if N * n < 2 ^ 256 then (N * n, true) else (0, false)
theorem make41 (w : World) : (Instr.makeSlice 51 (.int .i64 41) (.int .i64 41)).run Try.prog w = .ok (.slice (some ⟨w.heap.size, 0, none⟩) 41 41) (w.alloc (.cells (ncells (List.replicate 41 0)).toArray 3)) := by kernel_rfl
theorem mem_set_lt {M : List Nat} {p v : Nat} (h : ∀ d ∈ M, d < 256) (hv : v < 256) : ∀ d ∈ M.set p v, d < 256 := fun d hd => by
  rcases List.mem_or_eq_of_mem_set hd with h1 | h1
  · exact h d h1
  · omega
theorem getD_lt {M : List Nat} {p : Nat} (h : ∀ d ∈ M, d < 256) (hp : p < M.length) : M.getD p 0 < 256 := by
  have : M.getD p 0 = M[p] := by simp [hp]
  rw [this]; exact h _ (List.getElem_mem hp)
/-- One step of a product: the digit at p, and what goes over. -/
theorem times_step (M : List Nat) (p m c a R : Nat) (hp : p < M.length) (hm : m = M.getD p 0 + a + c) (hR : val M + c * 256 ^ p = R) : val (M.set p (m % 256)) + m / 256 * 256 ^ (p + 1) = R + a * 256 ^ p := by
  have h := val_set M p (m % 256) hp
  have e1 : m / 256 * 256 ^ (p + 1) = m / 256 * 256 * 256 ^ p := by rw [Nat.pow_succ, Nat.mul_assoc, Nat.mul_comm 256]
  have e2 : m * 256 ^ p = m / 256 * 256 * 256 ^ p + m % 256 * 256 ^ p := by rw [← Nat.add_mul]; congr 1; omega
  have e3 : m * 256 ^ p = M.getD p 0 * 256 ^ p + a * 256 ^ p + c * 256 ^ p := by rw [hm, Nat.add_mul, Nat.add_mul]
  omega
theorem numR_val (M : List Nat) (X : Nat) (h : val M = X) : numR M = if X < 2 ^ 256 then (X, true) else (0, false) := by unfold numR; rw [h]
theorem times_le (N n k : Nat) (hN : N < 256 ^ 32) : N * (n % 256 ^ k) < 256 ^ (32 + k) := by
  rw [Nat.pow_add]
  exact Nat.mul_lt_mul_of_lt_of_le hN (Nat.le_of_lt (Nat.mod_lt _ (pos256 k))) (pos256 k)
set_option maxHeartbeats 4000000 in
set_option maxRecDepth 100000 in
theorem refTimes_any (N n : Nat) (w : World) (hN : N < 2 ^ 256) (hn : n < 18446744073709551616) :
    Calls Try.prog 17 #[aggN N, .int .u64 (n : Nat)] w fun e w' => e = .returned (.tuple #[aggN (timesR N n).1, .bool (timesR N n).2]) ∧ Below w.heap.size w w' := by
  have HN := Lib.hid (show N < 256 ^ 32 from by rw [show (256 : Nat) ^ 32 = 2 ^ 256 from by decide]; exact hN)
  have hmk := make41
  clear hN
  go_enter Try.func17, Try.ntmps17
  go_wp2_with (refine wpList_load_row rfl 24 (.tmp 2) rfl w.heap.size rfl 24 (wcells N).toArray (0, 0) _ (heap_alloc2_old w _ _) Try.underlying24 rfl (infoW' _) ?_)
  generalize hwa : World.alloc _ _ = wa
  have r1 : wa.heap[w.heap.size + 1]? = some (.cells (wcells 0).toArray 24 (0, 0)) := by rw [← hwa]; exact heap_alloc2_new w _ _
  have ba : Below w.heap.size w wa := by rw [← hwa]; exact ((Below.refl _ _).alloc (Nat.le_refl _) _).alloc (by simp) _
  clear hwa
  refine (digs_any N wa).mono ?_
  rintro e w2 ⟨⟨vx, rfl, hx⟩, g1⟩
  have R2 := Lib.hid ((g1.block _ (row_lt r1)).trans r1)
  have b2 := ba.trans (g1.mono ba.size)
  clear g1 ba r1
  obtain ⟨bx, cx, rfl, hbx, hcx⟩ := hx
  have HX := Lib.hid hcx
  clear hcx
  go_wp2
  clear hmk
  generalize hwb : World.alloc _ _ = wb
  have rb : wb.heap[w2.heap.size]? = some (.cells (ncells (List.replicate 41 0)).toArray 3 (0, 0)) := by rw [← hwb]; exact heap_alloc_new w2 _
  have bb : Below w2.heap.size w2 wb := by rw [← hwb]; exact (Below.refl _ _).alloc (Nat.le_refl _) _
  have RB := Lib.hid rb
  clear hwb rb
  go_loopw [8] (fun i wr => ∃ (k : Nat) (M : List Nat), k ≤ 8 ∧ i = .int .i64 k ∧ Hid (M.length = 41) ∧ Hid (∀ d ∈ M, d < 256) ∧ Hid (val M = N * (n % 256 ^ k)) ∧ Hid (wr.heap[w2.heap.size]? = some (.cells (ncells M).toArray 3 (0, 0))) ∧ Below w2.heap.size w2 wr) (fun i _ => 8 - (intOf i).toNat)
  case atStart => exact ⟨0, List.replicate 41 0, by omega, rfl, Lib.hid (by simp), Lib.hid (fun d hd => by simp at hd; omega), Lib.hid (by rw [val_rep]; simp [Nat.mod_one]), RB, bb⟩
  case round =>
    clear RB bb
    obtain ⟨k, M, hk, rfl, hM, hMd, hval, hr, hbel⟩ := hrel
    by_cases hlt : k < 8
    · have k8 : (k : Int) < 8 := by omega
      have h255 := shr_and n (8 * k) hn
      rw [show n / 2 ^ (8 * k) % 256 = dg n k from by rw [dg, pow256]] at h255
      have ld := dg_lt n k
      have HMS := Lib.hid (mod_step N k n)
      obtain ⟨d, hd⟩ : ∃ d, d = dg n k := ⟨_, rfl⟩
      rw [← hd] at h255 ld HMS
      have ED := Lib.hid hd
      clear hd
      obtain ⟨wo, rfl⟩ : ∃ wo : World, wo = wr := ⟨_, rfl⟩
      go_wp2
      go_loopw [10, 11] (fun c i wr => ∃ (j C : Nat) (M : List Nat), j ≤ 32 ∧ i = .int .i64 j ∧ c = .int .i64 (C : Nat) ∧ C < 256 ∧ Hid (M.length = 41) ∧ Hid (∀ d ∈ M, d < 256) ∧ Hid (val M + C * 256 ^ (j + k) = N * (n % 256 ^ k) + N % 256 ^ j * d * 256 ^ k) ∧ Hid (wr.heap[w2.heap.size]? = some (.cells (ncells M).toArray 3 (0, 0))) ∧ Below w2.heap.size w2 wr) (fun _ i _ => 32 - (intOf i).toNat)
      case atStart => exact ⟨0, 0, M, by omega, rfl, rfl, by omega, hM, hMd, Lib.hid (by rw [hval.out]; simp [Nat.mod_one]), hr, hbel⟩
      case round =>
        clear hM hMd hval hr hbel M
        obtain ⟨j, C, M, hj, rfl, rfl, hC, hM, hMd, hval, hr, hbel⟩ := hrel
        by_cases hjt : j < 32
        · have j32 : (j : Int) < 32 := by omega
          have cx0 : wr.cell? ⟨bx, j, none⟩ = some (.int .i64 (dg N j : Nat)) := (hbel.cell (p := ⟨bx, j, none⟩) hbx).trans (HX.out j (by omega))
          have hp : j + k < M.length := by rw [hM.out]; omega
          have co : wr.cell? ⟨w2.heap.size, j + k, none⟩ = some (.int .i64 (M.getD (j + k) 0 : Nat)) := cell_row hr.out (ncells_get hp)
          have fo : wr.frozen? ⟨w2.heap.size, j + k, none⟩ = false := frozen_of_row wr _ _ _ _ hr.out
          have lo := getD_lt hMd.out hp
          have lx := dg_lt N j
          have ST := fun m hm => times_step M (j + k) m C (dg N j * d) _ hp hm hval.out
          obtain ⟨x, hx⟩ : ∃ x, x = dg N j := ⟨_, rfl⟩
          obtain ⟨o, ho⟩ : ∃ o, o = M.getD (j + k) 0 := ⟨_, rfl⟩
          rw [← hx] at cx0 lx ST
          rw [← ho] at co lo ST
          have EXX := Lib.hid hx
          have HST := Lib.hid ST
          have lm : x * d ≤ 255 * 255 := Nat.mul_le_mul (by omega) (by omega)
          obtain ⟨p, hp2⟩ : ∃ p, p = x * d := ⟨_, rfl⟩
          rw [← hp2] at lm HST
          have ip : (x : Int) * d = (p : Int) := by rw [hp2]; simp
          obtain ⟨m, hm⟩ : ∃ m, m = o + p + C := ⟨_, rfl⟩
          have im : (o : Int) + p + C = (m : Int) := by omega
          have lm2 : m ≤ 65535 := by omega
          have EP := Lib.hid hp2
          have EM := Lib.hid hm
          have ijk : (0 : Int) ≤ (j : Int) + k := by omega
          have ijk2 : (j : Int) + k ≤ 39 := by omega
          have ijn : ((j : Int) + k).toNat = j + k := by omega
          clear ST hx ho hp hp2 hm
          go_wp2
          go_region
          go_wp2
          go_roundw
          case rel =>
            have h1 := HST.out m (by rw [EM.out])
            refine ⟨j + 1, m / 256, M.set (j + k) (m % 256), by omega, by go_num, by go_num, by omega, Lib.hid (by rw [List.length_set]; exact hM.out), Lib.hid (mem_set_lt hMd.out (Nat.mod_lt _ (by decide))), Lib.hid ?_, Lib.hid ?_, ?_⟩
            · rw [show j + 1 + k = j + k + 1 by omega, h1, mod_next, EP.out, Nat.add_mul, Nat.add_mul, ← EXX.out, Nat.add_assoc]
              congr 2
              rw [Nat.pow_add, Nat.mul_comm (256 ^ j) x, Nat.mul_assoc, Nat.mul_assoc, Nat.mul_assoc]
              congr 1
              rw [Nat.mul_left_comm]
            · rw [heap_drew, ← ncells_set]; exact set_row hr.out
            · exact (hbel.setCell (by exact Nat.le_refl _) _).drew
          case measure => simp [intOf]; omega
        · obtain rfl : j = 32 := by omega
          have hv1 : Hid (val M + C * 256 ^ (32 + k) = N * (n % 256 ^ (k + 1))) := Lib.hid (by rw [hval.out, mod_self_of_lt N 32 HN.out, HMS.out])
          clear hval
          go_wp2
          go_loopw [10, 13] (fun c i wr => ∃ (j C : Nat) (M : List Nat), j ≤ 40 ∧ 32 ≤ j ∧ i = .int .i64 j ∧ c = .int .i64 (C : Nat) ∧ C < 256 ∧ Hid (M.length = 41) ∧ Hid (∀ d ∈ M, d < 256) ∧ Hid (val M + C * 256 ^ j = N * (n % 256 ^ (k + 1))) ∧ Hid (wr.heap[w2.heap.size]? = some (.cells (ncells M).toArray 3 (0, 0))) ∧ Below w2.heap.size w2 wr) (fun _ i _ => 50 - (intOf i).toNat)
          case atStart => exact ⟨32 + k, C, M, by omega, by omega, by go_num, rfl, hC, hM, hMd, hv1, hr, hbel⟩
          case round =>
            clear hM hMd hv1 hr hbel M
            obtain ⟨j, C, M, hj, hj32, rfl, rfl, hC, hM, hMd, hval, hr, hbel⟩ := hrel
            by_cases hC0 : C = 0
            · subst hC0
              have hv2 : Hid (val M = N * (n % 256 ^ (k + 1))) := Lib.hid (by have := hval.out; omega)
              clear hval
              go_wp2
              go_roundw
              case rel => exact ⟨k + 1, M, by omega, by go_num, hM, hMd, hv2, hr, hbel⟩
              case measure => simp [intOf]; omega
            · have hj40 : j < 40 := by
                have h1 := times_le N n (k + 1) HN.out
                have h2 : 256 ^ (32 + (k + 1)) ≤ 256 ^ 40 := Nat.pow_le_pow_right (by decide) (by omega)
                have h3 : 1 * 256 ^ j ≤ C * 256 ^ j := Nat.mul_le_mul_right _ (by omega)
                have h4 := hval.out
                have h5 : 256 ^ j < 256 ^ 40 := by omega
                exact (Nat.pow_lt_pow_iff_right (by decide)).1 h5
              have hCi : (0 : Int) < C := by omega
              have hdec : decide (0 < C) = true := by simp; omega
              have hp : j < M.length := by rw [hM.out]; omega
              have co : wr.cell? ⟨w2.heap.size, j, none⟩ = some (.int .i64 (M.getD j 0 : Nat)) := cell_row hr.out (ncells_get hp)
              have fo : wr.frozen? ⟨w2.heap.size, j, none⟩ = false := frozen_of_row wr _ _ _ _ hr.out
              have lo := getD_lt hMd.out hp
              have ST := fun m hm => times_step M j m C 0 _ hp hm hval.out
              obtain ⟨o, ho⟩ : ∃ o, o = M.getD j 0 := ⟨_, rfl⟩
              rw [← ho] at co lo ST
              have HST := Lib.hid ST
              obtain ⟨m, hm⟩ : ∃ m, m = o + 0 + C := ⟨_, rfl⟩
              have im : (o : Int) + C = (m : Int) := by omega
              have lm2 : m ≤ 511 := by omega
              have EM := Lib.hid hm
              clear ST ho hp hm hC0
              go_wp2
              go_roundw
              case rel =>
                have h1 := HST.out m (by rw [EM.out])
                refine ⟨j + 1, m / 256, M.set j (m % 256), by omega, by omega, by go_num, by go_num, by omega, Lib.hid (by rw [List.length_set]; exact hM.out), Lib.hid (mem_set_lt hMd.out (Nat.mod_lt _ (by decide))), Lib.hid (by rw [h1]; simp), Lib.hid ?_, ?_⟩
                · rw [← ncells_set]; exact set_row hr.out
                · exact hbel.setCell (by exact Nat.le_refl _) _
              case measure => simp [intOf]; omega
    · obtain rfl : k = 8 := by omega
      have hv := NatsAt.of_row (n := 41) (c := 41) hr.out hM.out.symm
      have hnr : numR M = timesR N n := by
        have h1 : val M = N * n := by rw [hval.out, Nat.mod_eq_of_lt (by rw [show (256 : Nat) ^ 8 = 18446744073709551616 from by decide]; exact hn)]
        rw [numR_val M _ h1]; rfl
      have NR := Lib.hid hnr
      have R5 := Lib.hid ((hbel.block _ (row_lt R2.out)).trans R2.out)
      have b5 := b2.trans (hbel.mono b2.size)
      clear hval hr hbel HX R2 b2 hnr
      go_wp2_with fail
      refine (number_any _ _ wr hv hMd.out (by rw [hM.out]; decide)).mono ?_
      rw [NR.out]
      rintro e w8 ⟨rfl, g8⟩
      have R8 := Lib.hid ((g8.block _ (row_lt R5.out)).trans R5.out)
      have b8 := b5.trans (g8.mono b5.size)
      clear g8 hv b5 R5 hM hMd
      obtain ⟨X, hX⟩ : ∃ X, X = (timesR N n).1 := ⟨_, rfl⟩
      obtain ⟨q, hq⟩ : ∃ q, q = (timesR N n).2 := ⟨_, rfl⟩
      rw [← hX, ← hq]
      have EX := Lib.hid hX
      have EQ := Lib.hid hq
      clear hX hq
      go_wp2_with (refine wpList_store_row rfl 24 (.tmp 4) (.tmp 78) rfl (w.heap.size + 1) (wcells X).toArray rfl rfl 24 (wcells 0).toArray R8.out (infoW' _) rfl (ones_w _) ?_)
      exact bodyPost_ret (v := .tuple #[aggN X, .bool q]) (results_cell_tmp Try.results17 _ _ (w.heap.size + 1) 24 _ _ _ _ rfl rfl (setRow_heap _ _ _ _ _ _ R8.out) Try.underlying24 rfl (infoW' _)) rfl ⟨by rw [EX.out, EQ.out], below_setRow b8 (by omega) _⟩
end Go.Proofs.Ytppgpdckaaabeaa
