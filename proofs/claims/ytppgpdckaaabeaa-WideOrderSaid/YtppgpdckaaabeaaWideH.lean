/- The document's tenth of a number; its text. -/
import Derived.Test.YtppgpdckaaabeaaRows
import Derived.WalkKit
import Derived.Below
import Derived.ProofKit
import Derived.OpenShut
import Derived.ShutString
import Derived.ChangeOld
import Derived.Outline
import Derived.RegionTactic
import Derived.ChangeAlike
import Derived.BigRegion
import Derived.BigQuiet
import Derived.Deep.QuietTactic
import Derived.Deep.RegionWith
import Derived.Deep.RegionLaw
import Derived.Deep.RegionHeld3
import Derived.Deep.AppendLies
import Derived.Deep.Draws
import Derived.StillTailTactics
import Derived.Lib.Hide
import Derived.Lib.SmallJoins
import Derived.Handy
import Derived.WalkSpells
import Derived.WalkLawsBesides
import Derived.Deep.LoopGhost
import Derived.Deep.DeepCutAuto
import Derived.Test.YtppgpdckaaabeaaWideG
namespace Go.Proofs.Ytppgpdckaaabeaa
open Go.RowKit
set_option linter.unusedSimpArgs false
set_option linter.unusedVariables false
set_option linter.unnecessarySimpa false
theorem ncells_get {l : List Nat} {k : Nat} (h : k < l.length) : (ncells l)[k]? = some (.int .i64 (l.getD k 0 : Nat)) := by simp [ncells, h]
theorem ncells_set (l : List Nat) (k n : Nat) : (ncells l).set k (.int .i64 (n : Nat)) = ncells (l.set k n) := by simp [ncells, List.map_set]
theorem ncells_rep (n : Nat) : ncells (List.replicate n 0) = List.replicate n (.int .i64 0) := by simp [ncells]
theorem drop_put {α : Type} (M S : List α) (k : Nat) (x : α) (h : M.drop (k + 1) = S.drop (k + 1)) (hk : k < M.length) (hx : S[k]? = some x) : (M.set k x).drop k = S.drop k := by
  obtain ⟨hS, rfl⟩ := List.getElem?_eq_some_iff.1 hx
  rw [List.drop_eq_getElem_cons (by simpa using hk), List.drop_eq_getElem_cons hS, List.drop_set_of_lt (Nat.lt_succ_self k), h]
  simp
theorem NatsAt.of_row {w : World} {b n c : Nat} {l : List Nat} {t : TypeId} {fr : Nat × Nat} (h : w.heap[b]? = some (.cells (ncells l).toArray t fr)) (hn : n = l.length) : NatsAt w (.slice (some ⟨b, 0, none⟩) n c) l := by
  subst hn
  exact ⟨b, c, rfl, row_lt h, fun k hk => cell_row h (ncells_get hk)⟩
theorem make32 (w : World) : (Instr.makeSlice 51 (.int .i64 32) (.int .i64 32)).run Try.prog w = .ok (.slice (some ⟨w.heap.size, 0, none⟩) 32 32) (w.alloc (.cells (ncells (List.replicate 32 0)).toArray 3)) := by kernel_rfl
set_option maxHeartbeats 1000000 in
set_option maxRecDepth 100000 in
theorem ten_any (N : Nat) (w : World) (hN : N < 2 ^ 256) :
    Calls Try.prog 40 #[aggN N] w fun e w' => e = .returned (.tuple #[aggN (N / 10), .int .i64 (N % 10 : Nat)]) ∧ Below w.heap.size w w' := by
  have HT := Lib.hid (show N / 256 ^ 32 % 10 = 0 from by rw [show (256 : Nat) ^ 32 = 2 ^ 256 from by decide, Nat.div_eq_of_lt hN])
  have HN := Lib.hid hN
  clear hN
  have hmk := make32
  go_enter Try.func40, Try.ntmps40
  go_wp2_with (refine wpList_load_row rfl 24 (.tmp 1) rfl w.heap.size rfl 24 (wcells N).toArray (0, 0) _ (heap_alloc2_old w _ _) Try.underlying24 rfl (infoW' _) ?_)
  generalize hwa : World.alloc _ _ = wa
  have r1 : wa.heap[w.heap.size + 1]? = some (.cells (wcells 0).toArray 24 (0, 0)) := by rw [← hwa]; exact heap_alloc2_new w _ _
  have ba : Below w.heap.size w wa := by rw [← hwa]; exact ((Below.refl _ _).alloc (Nat.le_refl _) _).alloc (by simp) _
  clear hwa
  refine (digs_any N wa).mono ?_
  rintro e w2 ⟨⟨vx, rfl, hx⟩, g1⟩
  have R2 := Lib.hid ((g1.block _ (row_lt r1)).trans r1)
  have b2 := ba.trans (g1.mono ba.size)
  clear g1 ba r1
  obtain ⟨bx, cx, rfl, hbx, hcx⟩ := hx
  have HX := Lib.hid hcx
  clear hcx
  go_wp2
  clear hmk
  generalize hwb : World.alloc _ _ = wb
  have rb : wb.heap[w2.heap.size]? = some (.cells (ncells (List.replicate 32 0)).toArray 3 (0, 0)) := by rw [← hwb]; exact heap_alloc_new w2 _
  have bb : Below w2.heap.size w2 wb := by rw [← hwb]; exact (Below.refl _ _).alloc (Nat.le_refl _) _
  have RB := Lib.hid rb
  clear hwb rb
  go_loopw [6, 7] (fun r i wr => ∃ (k : Nat) (M : List Nat), k ≤ 32 ∧ i = .int .i64 ((k : Int) - 1) ∧ r = .int .i64 (N / 256 ^ k % 10 : Nat) ∧ Hid (M.length = 32) ∧ Hid (M.drop k = (dgs (N / 10) 32).drop k) ∧ Hid (wr.heap[w2.heap.size]? = some (.cells (ncells M).toArray 3 (0, 0))) ∧ Below w2.heap.size w2 wr) (fun _ i _ => (intOf i + 1).toNat)
  case atStart => exact ⟨32, List.replicate 32 0, by omega, rfl, by rw [HT.out]; rfl, Lib.hid (by simp), Lib.hid (by rw [List.drop_of_length_le (by simp), List.drop_of_length_le (by simp [dgs_len])]), RB, bb⟩
  case round =>
    clear RB bb
    obtain ⟨k, M, hk, rfl, rfl, hM, hd, hr, hbel⟩ := hrel
    cases k with
    | zero =>
      have hv := NatsAt.of_row (n := 32) (c := 32) hr.out hM.out.symm
      have hM2 : M = dgs (N / 10) 32 := by have := hd.out; simpa using this
      rw [hM2] at hv
      have R5 := Lib.hid ((hbel.block _ (row_lt R2.out)).trans R2.out)
      have b5 := b2.trans (hbel.mono b2.size)
      clear hM hd hr hbel HX hM2 R2 b2
      rw [show N / 256 ^ 0 % 10 = N % 10 by simp]
      go_wp2_with fail
      refine (number_any _ _ wr hv (dgs_lt _ _) (by simp [dgs_len])).mono ?_
      rw [numR_dgs (N / 10) (by have := HN.out; omega)]
      rintro e w8 ⟨rfl, g8⟩
      have R8 := Lib.hid ((g8.block _ (row_lt R5.out)).trans R5.out)
      have b8 := b5.trans (g8.mono b5.size)
      clear g8 hv b5 R5
      obtain ⟨X, hX⟩ : ∃ X, X = N / 10 := ⟨_, rfl⟩
      obtain ⟨q, hq⟩ : ∃ q, q = N % 10 := ⟨_, rfl⟩
      rw [← hX, ← hq]
      have EX := Lib.hid hX
      have EQ := Lib.hid hq
      clear hX hq
      have z8 := row_lt R8.out
      have r9 := heap_alloc_new w8 (.cells (wcells 0).toArray 24)
      have q9 : ((w8.alloc (.cells (wcells 0).toArray 24)).setRow w8.heap.size (wcells X).toArray).heap[w.heap.size + 1]? = some (.cells (wcells 0).toArray 24 (0, 0)) := (setRow_other (by omega)).trans ((Below.heap_alloc _ _ _ z8).trans R8.out)
      have R9 := Lib.hid r9
      have Q9 := Lib.hid q9
      clear r9 q9
      go_wp2_with (first
        | (refine wpList_store_row rfl 24 (.tmp 9) (.tmp 35) rfl w8.heap.size (wcells X).toArray rfl rfl 24 (wcells 0).toArray R9.out (infoW' _) rfl (ones_w _) ?_)
        | (refine wpList_load_row rfl 24 (.tmp 9) rfl w8.heap.size rfl 24 (wcells X).toArray (0, 0) _ (setRow_heap _ _ _ _ _ _ R9.out) Try.underlying24 rfl (infoW' _) ?_)
        | (refine wpList_store_row rfl 24 (.tmp 2) (.tmp 37) rfl (w.heap.size + 1) (wcells X).toArray rfl rfl 24 (wcells 0).toArray Q9.out (infoW' _) rfl (ones_w _) ?_))
      exact bodyPost_ret (v := .tuple #[aggN X, .int .i64 (q : Nat)]) (results_cell_tmp Try.results40 _ _ (w.heap.size + 1) 24 _ _ _ _ rfl rfl (setRow_heap _ _ _ _ _ _ Q9.out) Try.underlying24 rfl (infoW' _)) rfl ⟨by rw [EX.out, EQ.out], below_setRow (below_setRow (b8.alloc b8.size _) b8.size _) (by omega) _⟩
    | succ k =>
      have ek : ((k + 1 : Nat) : Int) - 1 = (k : Int) := by omega
      rw [ek]
      have k32 : (k : Int) < 32 := by omega
      have cx0 : wr.cell? ⟨bx, k, none⟩ = some (.int .i64 (dg N k : Nat)) := (hbel.cell (p := ⟨bx, k, none⟩) hbx).trans (HX.out k (by omega))
      have co : wr.cell? ⟨w2.heap.size, k, none⟩ = some (.int .i64 (M.getD k 0 : Nat)) := cell_row hr.out (ncells_get (by rw [hM.out]; omega))
      have fo : wr.frozen? ⟨w2.heap.size, k, none⟩ = false := frozen_of_row wr _ k _ _ hr.out
      obtain ⟨t1, t2⟩ := ten_step N k
      have lx := dg_lt N k
      have lr : N / 256 ^ (k + 1) % 10 < 10 := Nat.mod_lt _ (by decide)
      generalize dg N k = x at *
      generalize N / 256 ^ (k + 1) % 10 = r at *
      generalize M.getD k 0 = o at *
      have hget := dgs_get (N / 10) 32 k (by omega)
      obtain ⟨z, hz⟩ : ∃ z, z = dg (N / 10) k := ⟨_, rfl⟩
      obtain ⟨r2, hr2⟩ : ∃ r2, r2 = N / 256 ^ k % 10 := ⟨_, rfl⟩
      rw [← hz] at t1 hget
      rw [← hr2] at t2
      have i1 : ((r : Int) * 256 + x) / 10 = (z : Int) := by omega
      have i2 : ((r : Int) * 256 + x) % 10 = (r2 : Int) := by omega
      have ER := Lib.hid hr2
      have GET := Lib.hid hget
      have HK := Lib.hid hk
      clear t1 t2 hz hr2 hget ek
      go_wp2
      go_roundw
      case rel =>
        refine ⟨k, M.set k z, by omega, rfl, by rw [← ER.out, i2], Lib.hid (by rw [List.length_set]; exact hM.out), Lib.hid (drop_put _ _ _ _ hd.out (by rw [hM.out]; omega) GET.out), Lib.hid ?_, hbel.setCell (by exact Nat.le_refl _) _⟩
        rw [← ncells_set]; exact set_row hr.out
      case measure => simp [intOf]
end Go.Proofs.Ytppgpdckaaabeaa
