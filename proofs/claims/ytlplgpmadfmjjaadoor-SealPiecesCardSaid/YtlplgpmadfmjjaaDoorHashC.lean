import Derived.Test.YtlplgpmadfmjjaaDoorRows
import Derived.WalkKit
import Derived.Below
import Derived.ProofKit
import Derived.OpenShut
import Derived.ShutString
import Derived.ChangeOld
import Derived.Outline
import Derived.RegionTactic
import Derived.ChangeAlike
import Derived.BigRegion
import Derived.BigQuiet
import Derived.Deep.QuietTactic
import Derived.Deep.RegionWith
import Derived.Deep.RegionLaw
import Derived.Deep.RegionHeld3
import Derived.Deep.AppendLies
import Derived.Deep.Draws
import Derived.StillTailTactics
import Derived.Lib.Hide
import Derived.Lib.SmallJoins
import Derived.Handy
import Derived.Deep.LoopGhost
import Derived.Deep.DeepCutAuto
import Derived.Test.YtlplgpmadfmjjaaDoorHashB
namespace Go.Proofs.YtlplgpmadfmjjaaDoor
open Go.RowKit
set_option linter.unusedSimpArgs false
set_option linter.unusedVariables false
/-- The 64 bytes of a block, behind 8 numbers. -/
def B64At (w : World) (b : Nat) (l : List UInt8) : Prop := l.length = 64 ∧ b < w.heap.size ∧ ∀ k, k < 64 → w.cell? ⟨b, 8 + k, none⟩ = some (.int .u8 (l.getD k 0).toNat)
theorem B64At.below {w w' : World} {b : Nat} {l : List UInt8} (h : B64At w b l) (hb : Below w.heap.size w w') : B64At w' b l :=
  ⟨h.1, Nat.lt_of_lt_of_le h.2.1 hb.size, fun k hk => (hb.cell (p := ⟨_, 8 + k, none⟩) h.2.1).trans (h.2.2 k hk)⟩
theorem wide16_len (l : List UInt8) : (wide16 l).length = 16 := by simp [wide16]
theorem wide16_get (l : List UInt8) {k : Nat} (hk : k < 16) : (wide16 l)[k]? = some (be4 l k) := by simp [wide16, hk]
theorem sched_prefix (l : List UInt8) (n m : Nat) (h : n ≤ m) : (sched l m).take (16 + n) = sched l n := by
  induction m with
  | zero => obtain rfl : n = 0 := by omega
            exact List.take_of_length_le (by rw [sched_len]; exact Nat.le_refl _)
  | succ m ih =>
    by_cases e : n = m + 1
    · subst e; exact List.take_of_length_le (by rw [sched_len]; exact Nat.le_refl _)
    · rw [sched, List.take_append_of_le_length (by rw [sched_len]; omega)]; exact ih (by omega)
theorem getD_take {α : Type} (M S : List α) (i j : Nat) (d : α) (h : M.take i = S.take i) (hj : j < i) : M.getD j d = S.getD j d := by
  have e : (M.take i)[j]? = (S.take i)[j]? := by rw [h]
  rw [List.getElem?_take_of_lt hj, List.getElem?_take_of_lt hj] at e
  rw [List.getD_eq_getElem?_getD, List.getD_eq_getElem?_getD, e]
theorem nextW_take (M S : List (BitVec 32)) (i : Nat) (h : M.take i = S.take i) (hi : 16 ≤ i) : nextW M i = nextW S i := by
  unfold nextW
  rw [getD_take M S i (i - 2) 0 h (by omega), getD_take M S i (i - 7) 0 h (by omega), getD_take M S i (i - 15) 0 h (by omega), getD_take M S i (i - 16) 0 h (by omega)]
theorem sched_get (l : List UInt8) (M : List (BitVec 32)) (i : Nat) (h : M.take i = (sched l 48).take i) (h1 : 16 ≤ i) (h2 : i < 64) : (sched l 48)[i]? = some (nextW M i) := by
  obtain ⟨n, rfl⟩ : ∃ n, i = 16 + n := ⟨i - 16, by omega⟩
  have e := sched_prefix l (n + 1) 48 (by omega)
  have e2 : (sched l 48)[16 + n]? = ((sched l 48).take (16 + (n + 1)))[16 + n]? := by rw [List.getElem?_take_of_lt (by omega)]
  rw [e2, e, sched, List.getElem?_append_right (by rw [sched_len]; omega)]
  rw [sched_len, show 16 + n - (16 + n) = 0 from by omega]
  simp only [List.getElem?_cons_zero, Option.some.injEq]
  refine nextW_take _ _ _ ?_ (by omega)
  rw [h, sched_prefix l n 48 (by omega)]
  exact List.take_of_length_le (by rw [sched_len]; omega)
theorem move_1 (x : BitVec 32) (w : World) : Calls Tryd.prog 38 #[.int .u32 x.toNat, .int .i64 17, .int .i64 19, .int .i64 10] w fun e w' => e = .returned (.int .u32 (move3 x 17 19 10).toNat) ∧ ∃ n, w' = w.drewN n :=
  move_any x 17 19 10 w (by decide) (by decide) (by decide)
theorem move_0 (x : BitVec 32) (w : World) : Calls Tryd.prog 38 #[.int .u32 x.toNat, .int .i64 7, .int .i64 18, .int .i64 3] w fun e w' => e = .returned (.int .u32 (move3 x 7 18 3).toNat) ∧ ∃ n, w' = w.drewN n :=
  move_any x 7 18 3 w (by decide) (by decide) (by decide)
theorem u8_wide (x : UInt8) : (x.toNat : Int) = ((x.toBitVec.setWidth 32).toNat : Int) := by
  have := x.toNat_lt
  simp [BitVec.toNat_setWidth]
theorem be4_eq (x0 x1 x2 x3 : UInt8) : bits .or .u32 (bits .or .u32 (bits .or .u32 ((x0.toNat : Int) % 4294967296 * 16777216 % 4294967296) ((x1.toNat : Int) % 4294967296 * 65536 % 4294967296)) ((x2.toNat : Int) % 4294967296 * 256 % 4294967296)) ((x3.toNat : Int) % 4294967296)
    = ((BitVec.setWidth 32 x0.toBitVec <<< 24 ||| BitVec.setWidth 32 x1.toBitVec <<< 16 ||| BitVec.setWidth 32 x2.toBitVec <<< 8 ||| BitVec.setWidth 32 x3.toBitVec).toNat : Int) := by
  have h (x : UInt8) : (x.toNat : Int) % 4294967296 = ((x.toBitVec.setWidth 32).toNat : Int) := by
    rw [← u8_wide]; have := x.toNat_lt; omega
  rw [h, h, h, h]
  have e0 := shl32 (x0.toBitVec.setWidth 32) 24
  have e1 := shl32 (x1.toBitVec.setWidth 32) 16
  have e2 := shl32 (x2.toBitVec.setWidth 32) 8
  rw [show (2 : Int) ^ 24 = 16777216 from rfl] at e0
  rw [show (2 : Int) ^ 16 = 65536 from rfl] at e1
  rw [show (2 : Int) ^ 8 = 256 from rfl] at e2
  rw [e0, e1, e2, or32, or32, or32]
theorem off_set (w : World) (b i j : Nat) (v : Value) (h : ¬ (j = i)) : (w.setCell ⟨b, i, none⟩ v).cell? ⟨b, j, none⟩ = w.cell? ⟨b, j, none⟩ := by
  simp only [World.cell?, World.setCell, Array.getElem?_modify]
  simp only [↓reduceIte]
  cases h2 : w.heap[b]? with
  | none => simp
  | some o =>
    cases o <;> simp [Array.getElem?_setIfInBounds, Ne.symm h]
theorem on_set {w : World} {b i : Nat} {v z : Value} (h : w.cell? ⟨b, i, none⟩ = some z) : (w.setCell ⟨b, i, none⟩ v).cell? ⟨b, i, none⟩ = some v := by
  simp only [World.cell?, World.setCell, Array.getElem?_modify] at h ⊢
  simp only [↓reduceIte]
  cases h2 : w.heap[b]? with
  | none => simp [h2] at h
  | some o =>
    cases o <;> simp [h2] at h ⊢
    obtain ⟨hi, _⟩ := Array.getElem?_eq_some_iff.1 h
    simp [hi]
theorem frz_set (w : World) (a a' : Addr) (v : Value) : (w.setCell a v).frozen? a' = w.frozen? a' := by
  simp
theorem add32w (x y : BitVec 32) : IntKind.u32.wrap ((x.toNat : Int) + (y.toNat : Int)) = ((x + y).toNat : Int) := by
  rw [IntKind.wrap_u32', add32]
theorem below_drewN {B : Nat} {a w : World} (h : Below B a w) (n : Nat) : Below B a (w.drewN n) := ⟨h.os, h.tape, h.output, h.size, h.block⟩
theorem info70 : (Tryd.prog.info? 66).map (·.size) = some 64 := by kernel_rfl
section
attribute [local go_sem] add32
set_option maxHeartbeats 2000000 in
set_option maxRecDepth 100000 in
theorem widened_at (b : Nat) (l : List UInt8) (S : List (BitVec 32)) (w : World) (hl : B64At w b l) (hS64 : Hid (S.length = 64)) (h16 : Hid (S.take 16 = wide16 l)) (hget : Hid (∀ (M : List (BitVec 32)) (i : Nat), M.take i = S.take i → 16 ≤ i → i < 64 → S[i]? = some (nextW M i))) :
    Calls Tryd.prog 33 #[.pointer (some ⟨b, 8, none⟩)] w fun e w' => e = .returned (aggU S) ∧ Below w.heap.size w w' := by
  have hbs := hl.2.1
  go_enter Tryd.func33, Tryd.ntmps33
  go_wp2
  go_loopw [6] (fun i wr => ∃ k : Nat, ∃ M : List (BitVec 32), k ≤ 16 ∧ i = .int .i64 k ∧ M.length = 64 ∧ M.take k = (wide16 l).take k ∧ wr.heap[w.heap.size]? = some (.cells (uc (List.replicate 64 0)).toArray 66 (0, 0)) ∧ wr.heap[w.heap.size + 1]? = some (.cells (uc M).toArray 66 (0, 0)) ∧ Below w.heap.size w wr) (fun i _ => 16 - (intOf i).toNat)
  case atStart =>
    exact ⟨0, List.replicate 64 0, by omega, rfl, rfl, rfl, heap_alloc2_old w _ _, heap_alloc2_new w _ _, ((Below.refl _ _).alloc (Nat.le_refl _) _).alloc (by simp) _⟩
  case round =>
    obtain ⟨k, M, hk, rfl, hM, hT, hr0, hr1, hbel⟩ := hrel
    by_cases hlt : k < 16
    · have hb := hl.below hbel
      have c0 := hb.2.2 (4 * k) (by omega)
      have c1 := hb.2.2 (4 * k + 1) (by omega)
      have c2 := hb.2.2 (4 * k + 2) (by omega)
      have c3 := hb.2.2 (4 * k + 3) (by omega)
      have c4 : wr.cell? ⟨w.heap.size + 1, k, none⟩ = some (.int .u32 (M.getD k 0).toNat) := cell_row hr1 (uc_get (by omega))
      have f4 : wr.frozen? ⟨w.heap.size + 1, k, none⟩ = false := frozen_of_row wr _ k _ _ hr1
      have kk : (k : Int) < 16 := by omega
      have hS := wide16_get l hlt
      unfold be4 at hS
      generalize l.getD (4 * k) 0 = x0 at c0 hS
      generalize l.getD (4 * k + 1) 0 = x1 at c1 hS
      generalize l.getD (4 * k + 2) 0 = x2 at c2 hS
      generalize l.getD (4 * k + 3) 0 = x3 at c3 hS
      generalize M.getD k 0 = z at c4
      have HS := Lib.hid hS
      have HM := Lib.hid hM
      have HT := Lib.hid hT
      have R0 := Lib.hid hr0
      have R1 := Lib.hid hr1
      clear hM hT hr0 hr1 hS hb
      go_wp2
      go_region
      go_wp2
      go_roundw
      case rel =>
        refine ⟨k + 1, _, by omega, by go_num, ?_, take_set _ _ _ _ HT.out (by rw [HM.out]; omega) HS.out, ?_, ?_, ?_⟩
        · simpa using HM.out
        · rw [heap_drew, heap_setCell_other _ _ _ _ (by simp)]; exact R0.out
        · rw [heap_drew, be4_eq, ← uc_set]; exact set_row R1.out
        · exact (hbel.setCell (by simp) _).drew
      case measure => simp [intOf]; omega
    · obtain rfl : k = 16 := by omega
      have hT2 : M.take 16 = S.take 16 := by
        rw [hT, h16.out]; exact List.take_of_length_le (by rw [wide16_len]; exact Nat.le_refl _)
      clear hT
      rw [show ((16 : Nat) : Int) = 16 from rfl]
      go_wp2
      go_loopw [5] (fun i wr => ∃ k : Nat, ∃ M : List (BitVec 32), 16 ≤ k ∧ k ≤ 64 ∧ i = .int .i64 k ∧ M.length = 64 ∧ M.take k = S.take k ∧ wr.heap[w.heap.size]? = some (.cells (uc (List.replicate 64 0)).toArray 66 (0, 0)) ∧ wr.heap[w.heap.size + 1]? = some (.cells (uc M).toArray 66 (0, 0)) ∧ Below w.heap.size w wr) (fun i _ => 64 - (intOf i).toNat)
      case atStart => exact ⟨16, M, by omega, by omega, rfl, hM, hT2, hr0, hr1, hbel⟩
      case round =>
        clear hr0 hr1 hbel hM hT2 hk hlt M
        obtain ⟨k, M, hk0, hk, rfl, hM, hT, hr0, hr1, hbel⟩ := hrel
        by_cases hlt : k < 64
        · have c0 : wr.cell? ⟨w.heap.size + 1, k - 2, none⟩ = some (.int .u32 (M.getD (k - 2) 0).toNat) := cell_row hr1 (uc_get (by omega))
          have c1 : wr.cell? ⟨w.heap.size + 1, k - 7, none⟩ = some (.int .u32 (M.getD (k - 7) 0).toNat) := cell_row hr1 (uc_get (by omega))
          have c2 : wr.cell? ⟨w.heap.size + 1, k - 15, none⟩ = some (.int .u32 (M.getD (k - 15) 0).toNat) := cell_row hr1 (uc_get (by omega))
          have c3 : wr.cell? ⟨w.heap.size + 1, k - 16, none⟩ = some (.int .u32 (M.getD (k - 16) 0).toNat) := cell_row hr1 (uc_get (by omega))
          have c4 : wr.cell? ⟨w.heap.size + 1, k, none⟩ = some (.int .u32 (M.getD k 0).toNat) := cell_row hr1 (uc_get (by omega))
          have f4 : wr.frozen? ⟨w.heap.size + 1, k, none⟩ = false := frozen_of_row wr _ k _ _ hr1
          have kk : (k : Int) < 64 := by omega
          have kk0 : (16 : Int) ≤ k := by omega
          have hS := hget.out M k hT hk0 hlt
          unfold nextW at hS
          generalize M.getD (k - 2) 0 = x0 at c0 hS
          generalize M.getD (k - 7) 0 = x1 at c1 hS
          generalize M.getD (k - 15) 0 = x2 at c2 hS
          generalize M.getD (k - 16) 0 = x3 at c3 hS
          generalize M.getD k 0 = z at c4
          have m0 : ¬ (k - 2 = k) := by omega
          have m1 : ¬ (k - 7 = k) := by omega
          have m2 : ¬ (k - 15 = k) := by omega
          have m3 : ¬ (k - 16 = k) := by omega
          have HS := Lib.hid hS
          have HM := Lib.hid hM
          have HT := Lib.hid hT
          have R0 := Lib.hid hr0
          have R1 := Lib.hid hr1
          clear hM hT hr0 hr1 hS
          have x16 : (k : Int).toNat = k := by omega
          have e2 : IntKind.i64.wrap ((k : Int) - 2) = ((k - 2 : Nat) : Int) := by rw [IntWalk.i64_in _ (by omega)]; omega
          have b2 : ((k - 2 : Nat) : Int) < 64 := by omega
          have t2 : (((k - 2 : Nat) : Int)).toNat = k - 2 := by omega
          have e7 : IntKind.i64.wrap ((k : Int) - 7) = ((k - 7 : Nat) : Int) := by rw [IntWalk.i64_in _ (by omega)]; omega
          have b7 : ((k - 7 : Nat) : Int) < 64 := by omega
          have t7 : (((k - 7 : Nat) : Int)).toNat = k - 7 := by omega
          have e15 : IntKind.i64.wrap ((k : Int) - 15) = ((k - 15 : Nat) : Int) := by rw [IntWalk.i64_in _ (by omega)]; omega
          have b15 : ((k - 15 : Nat) : Int) < 64 := by omega
          have t15 : (((k - 15 : Nat) : Int)).toNat = k - 15 := by omega
          have e16 : IntKind.i64.wrap ((k : Int) - 16) = ((k - 16 : Nat) : Int) := by rw [IntWalk.i64_in _ (by omega)]; omega
          have b16 : ((k - 16 : Nat) : Int) < 64 := by omega
          have t16 : (((k - 16 : Nat) : Int)).toNat = k - 16 := by omega
          go_wp2
          go_region_held3 (fun w' => w'.cell? ⟨w.heap.size + 1, k - 2, none⟩ = some (.int .u32 x0.toNat) ∧ w'.cell? ⟨w.heap.size + 1, k - 7, none⟩ = some (.int .u32 x1.toNat) ∧ w'.cell? ⟨w.heap.size + 1, k - 15, none⟩ = some (.int .u32 x2.toNat) ∧ w'.cell? ⟨w.heap.size + 1, k - 16, none⟩ = some (.int .u32 x3.toNat) ∧ w'.frozen? ⟨w.heap.size + 1, k, none⟩ = false ∧ ∃ z, w'.cell? ⟨w.heap.size + 1, k, none⟩ = some z)
            (first | (go_keep; done) | (refine ⟨?_, ?_, ?_, ?_, ?_, ?_⟩ <;> first | (go_keep; done) | exact (off_set _ _ _ _ _ m0).trans (by exact c0) | exact (off_set _ _ _ _ _ m1).trans (by exact c1) | exact (off_set _ _ _ _ _ m2).trans (by exact c2) | exact (off_set _ _ _ _ _ m3).trans (by exact c3) | exact ⟨_, on_set (z := .int .u32 z.toNat) (by exact c4)⟩))
            (first
              | (go_at_call 38; (with_reducible refine (move_1 _ _).mono ?_); rintro e w1 ⟨rfl, n1, rfl⟩)
              | (go_at_call 38; (with_reducible refine (move_0 _ _).mono ?_); rintro e w1 ⟨rfl, n1, rfl⟩))
          rename_i hh
          clear hh c0 c1 c2 c3 c4 f4 e2 b2 t2 e7 b7 t7 e15 b15 t15 e16 b16 t16 m0 m1 m2 m3 x16
          go_wp2
          go_roundw
          case rel =>
            refine ⟨k + 1, M.set k (move3 x0 17 19 10 + x1 + move3 x2 7 18 3 + x3), by omega, by omega, by go_num, by simpa using HM.out, take_set _ _ _ _ HT.out (by rw [HM.out]; omega) HS.out, ?_, ?_, ?_⟩
            · rw [heap_setCell_other _ _ _ _ (by simp)]; exact R0.out
            · rw [← uc_set]; first | exact set_row (by exact R1.out) | (simp only [add32w]; exact set_row (by exact R1.out))
            · exact Below.setCell (below_drewN hbel _) (by simp) _
          case measure => simp [intOf]; omega
        · obtain rfl : k = 64 := by omega
          have e := take_all _ _ 64 hT hM hS64.out
          rw [e] at hr1
          clear hT hM e
          have sz : ((uc (List.replicate 64 (0 : BitVec 32))).toArray).size = (uc S).toArray.size := by simp [uc, hS64.out]
          have sz2 : (Tryd.prog.info? 66).map (·.size) = some (uc S).toArray.size := by simp [uc, hS64.out, info70]
          have SZ := Lib.hid sz
          have SZ2 := Lib.hid sz2
          have R0 := Lib.hid hr0
          have R1 := Lib.hid hr1
          clear sz sz2 hr0 hr1
          go_wp2_with (first
            | (refine wpList_load_row rfl 66 (.tmp 3) rfl (w.heap.size + 1) rfl 66 (uc S).toArray (0, 0) _ R1.out Tryd.underlying66 rfl SZ2.out ?_)
            | (refine wpList_store_row rfl 66 (.tmp 2) (.tmp 76) rfl w.heap.size (uc S).toArray rfl rfl 66 (uc (List.replicate 64 0)).toArray R0.out SZ2.out SZ.out (ones_uc _) ?_))
          exact bodyPost_ret (v := aggU S) (results_cell_row Tryd.results33 _ _ w.heap.size 66 _ _ _ rfl (setRow_heap _ _ _ _ _ _ R0.out) Tryd.underlying66 rfl SZ2.out) rfl ⟨rfl, below_setRow hbel (Nat.le_refl _) _⟩
end
theorem widened_any (b : Nat) (l : List UInt8) (w : World) (hl : B64At w b l) :
    Calls Tryd.prog 33 #[.pointer (some ⟨b, 8, none⟩)] w fun e w' => e = .returned (aggU (sched l 48)) ∧ Below w.heap.size w w' :=
  widened_at b l (sched l 48) w hl (Lib.hid (by rw [sched_len])) (Lib.hid (sched_prefix l 0 48 (by omega))) (Lib.hid (fun M i h h1 h2 => sched_get l M i h h1 h2))
end Go.Proofs.YtlplgpmadfmjjaaDoor
