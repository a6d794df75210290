import Derived.Test.YtlplgpmadfmjjaaDoorRows
import Derived.WalkKit
import Derived.Below
import Derived.ProofKit
import Derived.OpenShut
import Derived.ShutString
import Derived.ChangeOld
import Derived.Outline
import Derived.RegionTactic
import Derived.ChangeAlike
import Derived.BigRegion
import Derived.BigQuiet
import Derived.Deep.QuietTactic
import Derived.Deep.RegionWith
import Derived.Deep.RegionLaw
import Derived.Deep.RegionHeld3
import Derived.Deep.AppendLies
import Derived.Deep.Draws
import Derived.StillTailTactics
import Derived.Lib.Hide
import Derived.Lib.SmallJoins
import Derived.Handy
import Derived.Stop.BytesEq
import Derived.WalkSpells
import Derived.WalkSpells
import Derived.WalkLawsBesides
import Derived.Deep.LoopGhost
import Derived.Deep.DeepCutAuto
import Derived.Laws.CopyOwn
import Derived.Test.YtlplgpmadfmjjaaDoorRefE
import Derived.Test.YtlplgpmadfmjjaaDoorHashG
namespace Go.Proofs.YtlplgpmadfmjjaaDoor
open Go.RowKit
set_option linter.unusedSimpArgs false
set_option linter.unusedVariables false
set_option linter.unnecessarySimpa false
theorem not32 (x : BitVec 32) : bits .xor .u32 4294967295 (x.toNat : Int) = ((~~~x).toNat : Int) := by
  rw [show (4294967295 : Int) = (((-1#32 : BitVec 32)).toNat : Int) from rfl, xor32]
  congr 2
theorem ch_alt (x y z : BitVec 32) : (x &&& y) ^^^ (~~~x &&& z) = chF x y z := by
  unfold chF
  ext i hi
  simp only [BitVec.getElem_xor, BitVec.getElem_and, BitVec.getElem_not]
  cases x[i] <;> cases y[i] <;> cases z[i] <;> rfl
theorem maj_alt (x y z : BitVec 32) : (x &&& y) ^^^ (x &&& z) ^^^ (y &&& z) = majF x y z := by
  unfold majF
  ext i hi
  simp only [BitVec.getElem_xor, BitVec.getElem_and, BitVec.getElem_or]
  cases x[i] <;> cases y[i] <;> cases z[i] <;> rfl
theorem turned_any (x : BitVec 32) (k : Nat) (w : World) (h : 1 ≤ k ∧ k ≤ 31) :
    Calls Tryd.prog 32 #[.int .u32 x.toNat, .int .u64 k] w fun e w' => e = .returned (.int .u32 (rotr x k).toNat) ∧ w' = w := by
  obtain ⟨h1, h2⟩ := h
  have e : IntKind.u64.wrap (32 - (k : Int)) = ((32 - k : Nat) : Int) := by rw [IntKind.wrap_u64]; omega
  have H := Lib.hid (show rotr x k = (x >>> k) ||| (x <<< (32 - k)) from rfl)
  go_enter Tryd.func32, Tryd.ntmps32
  go_wp2
  go_ret
  refine ⟨ret_int ?_, rfl⟩
  rw [shl32, shr32, or32, H.out]
theorem turned_z (x : BitVec 32) (k : Int) (w : World) (h : 1 ≤ k ∧ k ≤ 31) :
    Calls Tryd.prog 32 #[.int .u32 x.toNat, .int .u64 k] w fun e w' => e = .returned (.int .u32 (rotr x k.toNat).toNat) ∧ w' = w := by
  have := turned_any x k.toNat w (by omega)
  rw [Int.toNat_of_nonneg (by omega)] at this
  exact this
/-- A table: so many words, as a slice. -/
def WordsAt (w : World) (v : Value) (l : List (BitVec 32)) : Prop := ∃ b cap, v = .slice (some ⟨b, 0, none⟩) l.length cap ∧ b < w.heap.size ∧ ∀ k, k < l.length → w.cell? ⟨b, k, none⟩ = some (.int .u32 (l.getD k 0).toNat)
theorem WordsAt.below {w w' : World} {v : Value} {l : List (BitVec 32)} (h : WordsAt w v l) (hb : Below w.heap.size w w') : WordsAt w' v l := by
  obtain ⟨b, cap, e, hl, hc⟩ := h
  exact ⟨b, cap, e, Nat.lt_of_lt_of_le hl hb.size, fun k hk => (hb.cell (p := ⟨b, k, none⟩) hl).trans (hc k hk)⟩
/-- 64 bytes behind a place. -/
def BytesAt (w : World) (b off : Nat) (l : List UInt8) : Prop := l.length = 64 ∧ b < w.heap.size ∧ ∀ k, k < 64 → w.cell? ⟨b, off + k, none⟩ = some (.int .u8 (l.getD k 0).toNat)
theorem BytesAt.below {w w' : World} {b off : Nat} {l : List UInt8} (h : BytesAt w b off l) (hb : Below w.heap.size w w') : BytesAt w' b off l :=
  ⟨h.1, Nat.lt_of_lt_of_le h.2.1 hb.size, fun k hk => (hb.cell (p := ⟨_, off + k, none⟩) h.2.1).trans (h.2.2 k hk)⟩
theorem heap_keep {w : World} {o v : Obj} {k : Nat} (h : w.heap[k]? = some v) : (w.alloc o).heap[k]? = some v :=
  ((((Below.refl w.heap.size w).alloc (Nat.le_refl _) o).block k (by obtain ⟨hk, _⟩ := Array.getElem?_eq_some_iff.1 h; exact hk))).trans h
theorem heap4 (w : World) (o0 o1 o2 o3 : Obj) : ((((w.alloc o0).alloc o1).alloc o2).alloc o3).heap[w.heap.size]? = some o0 ∧ ((((w.alloc o0).alloc o1).alloc o2).alloc o3).heap[w.heap.size + 1]? = some o1 ∧ ((((w.alloc o0).alloc o1).alloc o2).alloc o3).heap[w.heap.size + 2]? = some o2 ∧ ((((w.alloc o0).alloc o1).alloc o2).alloc o3).heap[w.heap.size + 3]? = some o3 := by
  have a0 := heap_alloc_new w o0
  have a1 := heap_alloc_new (w.alloc o0) o1
  have a2 := heap_alloc_new ((w.alloc o0).alloc o1) o2
  have a3 := heap_alloc_new (((w.alloc o0).alloc o1).alloc o2) o3
  rw [show (w.alloc o0).heap.size = w.heap.size + 1 by simp] at a1
  rw [show ((w.alloc o0).alloc o1).heap.size = w.heap.size + 2 by simp] at a2
  rw [show (((w.alloc o0).alloc o1).alloc o2).heap.size = w.heap.size + 3 by simp] at a3
  exact ⟨heap_keep (heap_keep (heap_keep a0)), heap_keep (heap_keep a1), heap_keep a2, a3⟩
theorem below4 (w : World) (o0 o1 o2 o3 : Obj) : Below w.heap.size w ((((w.alloc o0).alloc o1).alloc o2).alloc o3) :=
  ((((Below.refl _ _).alloc (Nat.le_refl _) _).alloc (by simp) _).alloc (by simp; omega) _).alloc (by simp; omega) _
theorem info50 : (Tryd.prog.info? 58).map (·.size) = some 8 := by kernel_rfl
theorem sum4 (a b c d : BitVec 32) : ((a.toNat : Int) + b.toNat + c.toNat + d.toNat) % 4294967296 = ((a + b + c + d).toNat : Int) := by
  simp only [BitVec.toNat_add]; omega
theorem s8_list (A : List (BitVec 32)) (h : A.length = 8) : (s8 A).list = A := by
  match A, h with
  | [a, b, c, d, e, f, g, h], _ => rfl
theorem sumA (a b c d e f g : BitVec 32) : ((a.toNat : Int) + b.toNat + c.toNat + d.toNat + e.toNat + ((f.toNat : Int) + g.toNat)) % 4294967296 = (((a + b + c + d + e) + (f + g)).toNat : Int) := by
  simp only [BitVec.toNat_add]; omega
theorem sumE (x a b c d e : BitVec 32) : ((x.toNat : Int) + ((a.toNat : Int) + b.toNat + c.toNat + d.toNat + e.toNat)) % 4294967296 = ((x + (a + b + c + d + e)).toNat : Int) := by
  simp only [BitVec.toNat_add]; omega
theorem mv3 (x : BitVec 32) (i j k : Nat) (n : Int) (hn : n = 2 ^ k) : bits .xor .u32 (bits .xor .u32 ((rotr x i).toNat : Int) (rotr x j).toNat) ((x.toNat : Int) / n) = ((move3 x i j k).toNat : Int) := by
  subst hn
  rw [xor32, shr32, xor32]; rfl
set_option maxHeartbeats 4000000 in
set_option maxRecDepth 100000 in
theorem block_at (vb vk : Value) (A : List (BitVec 32)) (b off cap : Nat) (l : List UInt8) (S : List (BitVec 32)) (w : World) (hk : WordsAt w vk ks) (hA : A.length = 8) (hl : BytesAt w b off l)
    (hS64 : Hid (S.length = 64)) (h16 : Hid (S.take 16 = wide16 l)) (hget : Hid (∀ (M : List (BitVec 32)) (i : Nat), M.take i = S.take i → 16 ≤ i → i < 64 → S[i]? = some (nextW M i))) :
    Calls Tryd.prog 28 #[.agg #[vb, vk], (.agg (uc A).toArray), .slice (some ⟨b, off, none⟩) 64 cap] w fun e w' => e = .returned (.agg (uc (List.zipWith (· + ·) A (rounds S (s8 A) 64).list)).toArray) ∧ Below w.heap.size w w' := by
  have hbs := hl.2.1
  obtain ⟨kb, kcap, rfl, hkb, hkc⟩ := hk
  rw [show ks.length = 64 from rfl] at hkc ⊢
  go_enter Tryd.func28, Tryd.ntmps28
  go_wp2
  go_loopw [8] (fun i wr => ∃ k : Nat, ∃ M : List (BitVec 32), k ≤ 64 ∧ i = .int .i64 k ∧ M.length = 64 ∧ M.take k = S.take k ∧ Hid (wr.heap[w.heap.size]? = some (.cells #[vb, .slice (some ⟨kb, 0, none⟩) 64 kcap] 51 (0, 0))) ∧ Hid (wr.heap[w.heap.size + 1]? = some (.cells (uc A).toArray 58 (0, 0))) ∧ Hid (wr.heap[w.heap.size + 2]? = some (.cells (uc (List.replicate 8 0)).toArray 58 (0, 0))) ∧ wr.heap[w.heap.size + 3]? = some (.cells (uc M).toArray 66 (0, 0)) ∧ Below w.heap.size w wr) (fun i _ => 64 - (intOf i).toNat)
  case atStart =>
    obtain ⟨q0, q1, q2, q3⟩ := heap4 w (.cells #[vb, .slice (some ⟨kb, 0, none⟩) 64 kcap] 51) (.cells (uc A).toArray 58) (.cells (uc (List.replicate 8 0)).toArray 58) (.cells (uc (List.replicate 64 0)).toArray 66)
    exact ⟨0, List.replicate 64 0, by omega, rfl, rfl, rfl, Lib.hid q0, Lib.hid q1, Lib.hid q2, q3, below4 _ _ _ _ _⟩
  case round =>
    obtain ⟨k, M, hkk, rfl, hM, hT, F0, F1, F2, hr1, hbel⟩ := hrel
    by_cases h0 : k < 64
    · have c4 : wr.cell? ⟨w.heap.size + 3, k, none⟩ = some (.int .u32 (M.getD k 0).toNat) := cell_row hr1 (uc_get (by omega))
      have f4 : wr.frozen? ⟨w.heap.size + 3, k, none⟩ = false := frozen_of_row wr _ k _ _ hr1
      generalize M.getD k 0 = z at c4
      have kk : (k : Int) < 64 := by omega
      by_cases hlt : k < 16
      · have hb := hl.below hbel
        have c0 := hb.2.2 (4 * k) (by omega)
        have c1 := hb.2.2 (4 * k + 1) (by omega)
        have c2 := hb.2.2 (4 * k + 2) (by omega)
        have c3 := hb.2.2 (4 * k + 3) (by omega)
        have kk16 : (k : Int) < 16 := by omega
        have hS : S[k]? = some (be4 l k) := by
          have e := wide16_get l hlt
          rw [← h16.out, List.getElem?_take_of_lt hlt] at e
          exact e
        unfold be4 at hS
        generalize l.getD (4 * k) 0 = x0 at c0 hS
        generalize l.getD (4 * k + 1) 0 = x1 at c1 hS
        generalize l.getD (4 * k + 2) 0 = x2 at c2 hS
        generalize l.getD (4 * k + 3) 0 = x3 at c3 hS
        have HS := Lib.hid hS
        have HM := Lib.hid hM
        have HT := Lib.hid hT
        have R1 := Lib.hid hr1
        clear hM hT hr1 hS hb
        go_wp2
        go_region
        go_wp2
        go_roundw
        case rel =>
          refine ⟨k + 1, _, by omega, by go_num, ?_, take_set _ _ _ _ HT.out (by rw [HM.out]; omega) HS.out, Lib.hid ?_, Lib.hid ?_, Lib.hid ?_, ?_, ?_⟩
          · simpa using HM.out
          · rw [heap_drew, heap_setCell_other _ _ _ _ (by first | (simp; done) | (simp; omega))]; exact F0.out
          · rw [heap_drew, heap_setCell_other _ _ _ _ (by first | (simp; done) | (simp; omega))]; exact F1.out
          · rw [heap_drew, heap_setCell_other _ _ _ _ (by first | (simp; done) | (simp; omega))]; exact F2.out
          · rw [heap_drew, be4_eq, ← uc_set]; exact set_row R1.out
          · exact (hbel.setCell (by first | (simp; done) | (simp; omega)) _).drew
        case measure => simp [intOf]; omega
      · have c0 : wr.cell? ⟨w.heap.size + 3, k - 2, none⟩ = some (.int .u32 (M.getD (k - 2) 0).toNat) := cell_row hr1 (uc_get (by omega))
        have c1 : wr.cell? ⟨w.heap.size + 3, k - 7, none⟩ = some (.int .u32 (M.getD (k - 7) 0).toNat) := cell_row hr1 (uc_get (by omega))
        have c2 : wr.cell? ⟨w.heap.size + 3, k - 15, none⟩ = some (.int .u32 (M.getD (k - 15) 0).toNat) := cell_row hr1 (uc_get (by omega))
        have c3 : wr.cell? ⟨w.heap.size + 3, k - 16, none⟩ = some (.int .u32 (M.getD (k - 16) 0).toNat) := cell_row hr1 (uc_get (by omega))
        have kk0 : (16 : Int) ≤ k := by omega
        have kkn : ¬ (k : Int) < 16 := by omega
        have hS := hget.out M k hT (by omega) h0
        unfold nextW at hS
        generalize M.getD (k - 2) 0 = x0 at c0 hS
        generalize M.getD (k - 7) 0 = x1 at c1 hS
        generalize M.getD (k - 15) 0 = x2 at c2 hS
        generalize M.getD (k - 16) 0 = x3 at c3 hS
        have HS := Lib.hid hS
        have HM := Lib.hid hM
        have HT := Lib.hid hT
        have R1 := Lib.hid hr1
        clear hM hT hr1 hS
        have x16 : (k : Int).toNat = k := by omega
        have e2 : IntKind.i64.wrap ((k : Int) - 2) = ((k - 2 : Nat) : Int) := by rw [IntWalk.i64_in _ (by omega)]; omega
        have b2 : ((k - 2 : Nat) : Int) < 64 := by omega
        have t2 : (((k - 2 : Nat) : Int)).toNat = k - 2 := by omega
        have e7 : IntKind.i64.wrap ((k : Int) - 7) = ((k - 7 : Nat) : Int) := by rw [IntWalk.i64_in _ (by omega)]; omega
        have b7 : ((k - 7 : Nat) : Int) < 64 := by omega
        have t7 : (((k - 7 : Nat) : Int)).toNat = k - 7 := by omega
        have e15 : IntKind.i64.wrap ((k : Int) - 15) = ((k - 15 : Nat) : Int) := by rw [IntWalk.i64_in _ (by omega)]; omega
        have b15 : ((k - 15 : Nat) : Int) < 64 := by omega
        have t15 : (((k - 15 : Nat) : Int)).toNat = k - 15 := by omega
        have e16 : IntKind.i64.wrap ((k : Int) - 16) = ((k - 16 : Nat) : Int) := by rw [IntWalk.i64_in _ (by omega)]; omega
        have b16 : ((k - 16 : Nat) : Int) < 64 := by omega
        have t16 : (((k - 16 : Nat) : Int)).toNat = k - 16 := by omega
        go_wp2
        go_quiet ((go_at_call 32; exact Calls.quiet_of_same (turned_z x2 _ _ (by decide))))
        obtain ⟨wq, hwq⟩ : ∃ v, v = wr.drewN nq := ⟨_, rfl⟩
        rw [← hwq]
        have d0 : wq.cell? ⟨w.heap.size + 3, k - 2, none⟩ = some (.int .u32 x0.toNat) := by rw [hwq]; exact c0
        have d1 : wq.cell? ⟨w.heap.size + 3, k - 7, none⟩ = some (.int .u32 x1.toNat) := by rw [hwq]; exact c1
        have d3 : wq.cell? ⟨w.heap.size + 3, k - 16, none⟩ = some (.int .u32 x3.toNat) := by rw [hwq]; exact c3
        have d4 : wq.cell? ⟨w.heap.size + 3, k, none⟩ = some (.int .u32 z.toNat) := by rw [hwq]; exact c4
        have df : wq.frozen? ⟨w.heap.size + 3, k, none⟩ = false := by rw [hwq]; exact f4
        have HWQ := Lib.hid hwq
        clear hwq c0 c1 c2 c3 c4 f4
        go_wp2
        go_quiet ((go_at_call 32; exact Calls.quiet_of_same (turned_z x0 _ _ (by decide))))
        go_wp2
        obtain ⟨wp, hwp⟩ : ∃ v, v = wq.drewN nq := ⟨_, rfl⟩
        rw [← hwp]
        have c1 : wp.cell? ⟨w.heap.size + 3, k - 7, none⟩ = some (.int .u32 x1.toNat) := by rw [hwp]; exact d1
        have c3 : wp.cell? ⟨w.heap.size + 3, k - 16, none⟩ = some (.int .u32 x3.toNat) := by rw [hwp]; exact d3
        have c4 : wp.cell? ⟨w.heap.size + 3, k, none⟩ = some (.int .u32 z.toNat) := by rw [hwp]; exact d4
        have f4 : wp.frozen? ⟨w.heap.size + 3, k, none⟩ = false := by rw [hwp]; exact df
        have HWP := Lib.hid hwp
        clear hwp d0 d1 d3 d4 df
        rw [show (bits BinOp.xor IntKind.u32 (bits BinOp.xor IntKind.u32 ((rotr x2 7).toNat : Int) (rotr x2 18).toNat) ((x2.toNat : Int) / 8)) = ((move3 x2 7 18 3).toNat : Int) from mv3 x2 7 18 3 8 rfl, show (bits BinOp.xor IntKind.u32 (bits BinOp.xor IntKind.u32 ((rotr x0 17).toNat : Int) (rotr x0 19).toNat) ((x0.toNat : Int) / 1024)) = ((move3 x0 17 19 10).toNat : Int) from mv3 x0 17 19 10 1024 rfl]
        go_region
        go_wp2
        go_roundw
        case rel =>
          have belq : Below w.heap.size w wp := by rw [HWP.out, HWQ.out]; exact below_drewN (below_drewN hbel _) _
          refine ⟨k + 1, M.set k (move3 x0 17 19 10 + x1 + move3 x2 7 18 3 + x3), by omega, by go_num, by simpa using HM.out, take_set _ _ _ _ HT.out (by rw [HM.out]; omega) HS.out, Lib.hid ?_, Lib.hid ?_, Lib.hid ?_, ?_, ?_⟩
          · rw [heap_drew, heap_setCell_other _ _ _ _ (by first | (simp; done) | (simp; omega))]; rw [HWP.out, HWQ.out]; exact F0.out
          · rw [heap_drew, heap_setCell_other _ _ _ _ (by first | (simp; done) | (simp; omega))]; rw [HWP.out, HWQ.out]; exact F1.out
          · rw [heap_drew, heap_setCell_other _ _ _ _ (by first | (simp; done) | (simp; omega))]; rw [HWP.out, HWQ.out]; exact F2.out
          · rw [heap_drew, sum4, ← uc_set]; exact set_row (by rw [HWP.out, HWQ.out]; exact R1.out)
          · exact (belq.setCell (by first | (simp; done) | (simp; omega)) _).drew
        case measure => simp [intOf]; omega
    · obtain rfl : k = 64 := by omega
      have e := take_all _ _ 64 hT hM hS64.out
      rw [e] at hr1
      clear hT hM e
      have c0 := uc_cell8 F1.out (k := 0) (by rw [hA]; decide)
      have c1 := uc_cell8 F1.out (k := 1) (by rw [hA]; decide)
      have c2 := uc_cell8 F1.out (k := 2) (by rw [hA]; decide)
      have c3 := uc_cell8 F1.out (k := 3) (by rw [hA]; decide)
      have c4 := uc_cell8 F1.out (k := 4) (by rw [hA]; decide)
      have c5 := uc_cell8 F1.out (k := 5) (by rw [hA]; decide)
      have c6 := uc_cell8 F1.out (k := 6) (by rw [hA]; decide)
      have c7 := uc_cell8 F1.out (k := 7) (by rw [hA]; decide)
      have R1 := Lib.hid hr1
      clear hr1
      rw [show ((64 : Nat) : Int) = 64 from rfl]
      have hW8 : (uc A).toArray.size = 8 := by simp [uc, hA]
      have H8 := Lib.hid hW8
      clear hW8
      have sz2 : (Tryd.prog.info? 58).map (·.size) = some (uc A).toArray.size := by simp [uc, hA, info50]
      have SZ2 := Lib.hid sz2
      clear sz2
      go_wp2_with (first
        | (refine wpList_load_row rfl 58 (.tmp 4) rfl (w.heap.size + 1) rfl 58 (uc A).toArray (0, 0) _ F1.out Tryd.underlying58 rfl SZ2.out ?_)
        | (refine wpList_store_row rfl 58 (.tmp 11) (.tmp 110) rfl wr.heap.size (uc A).toArray rfl rfl 58 _ (heap_alloc_new wr _) SZ2.out (by rw [H8.out]; rfl) (ones_uc _) ?_))
      generalize hwy : World.setRow _ _ _ = wy
      obtain ⟨Y, hY⟩ : ∃ Y, Y = wr.heap.size := ⟨_, rfl⟩
      have ry : wy.heap[Y]? = some (.cells (uc A).toArray 58 (0, 0)) := by rw [← hwy, hY]; exact setRow_heap _ _ _ _ _ _ (heap_alloc_new wr _)
      have hby : Below wr.heap.size wr wy := by rw [← hwy]; exact below_setRow ((Below.refl _ _).alloc (Nat.le_refl _) _) (Nat.le_refl _) _
      have zw : w.heap.size + 3 < wr.heap.size := by obtain ⟨hq, _⟩ := Array.getElem?_eq_some_iff.1 R1.out; exact hq
      have G0 := Lib.hid ((hby.block _ (show w.heap.size < wr.heap.size by omega)).trans F0.out)
      have G1 := Lib.hid ((hby.block _ (show w.heap.size + 1 < wr.heap.size by omega)).trans F1.out)
      have G2 := Lib.hid ((hby.block _ (show w.heap.size + 2 < wr.heap.size by omega)).trans F2.out)
      have G3 := Lib.hid ((hby.block _ zw).trans R1.out)
      have bely : Below w.heap.size w wy := hbel.trans (hby.mono (by omega))
      rw [← hY] at zw ⊢
      have HYY := Lib.hid hY
      clear hwy hby hY F0 F1 F2 R1 c0 c1 c2 c3 c4 c5 c6 c7 hbel SZ2
      have e0 : (rounds S (s8 A) 0).list = A := s8_list A hA
      rw [← e0] at ry
      clear e0
      go_loopw [12] (fun i wz => ∃ k : Nat, k ≤ 64 ∧ i = .int .i64 k ∧ wz.heap[Y]? = some (.cells (uc (rounds S (s8 A) k).list).toArray 58 (0, 0)) ∧ Hid (wz.heap[w.heap.size]? = some (.cells #[vb, .slice (some ⟨kb, 0, none⟩) 64 kcap] 51 (0, 0))) ∧ Hid (wz.heap[w.heap.size + 1]? = some (.cells (uc A).toArray 58 (0, 0))) ∧ Hid (wz.heap[w.heap.size + 2]? = some (.cells (uc (List.replicate 8 0)).toArray 58 (0, 0))) ∧ Hid (wz.heap[w.heap.size + 3]? = some (.cells (uc S).toArray 66 (0, 0))) ∧ Below w.heap.size w wz) (fun i _ => 64 - (intOf i).toNat)
      case atStart => exact ⟨0, by omega, rfl, ry, G0, G1, G2, G3, bely⟩
      case round =>
        clear G0 G1 G2 G3 bely ry
        obtain ⟨k, hkk, rfl, ry, G0, G1, G2, G3, hbel⟩ := hrel
        by_cases hlt : k < 64
        · obtain ⟨Z, hZ⟩ : ∃ Z, Z = rounds S (s8 A) k := ⟨_, rfl⟩
          rw [← hZ] at ry
          have z8 : Z.list.length = 8 := rfl
          have c0 : wr.cell? ⟨Y, 0, none⟩ = some (.int .u32 Z.a.toNat) := uc_cell8 ry (k := 0) (by rw [z8]; decide)
          have c1 : wr.cell? ⟨Y, 1, none⟩ = some (.int .u32 Z.b.toNat) := uc_cell8 ry (k := 1) (by rw [z8]; decide)
          have c2 : wr.cell? ⟨Y, 2, none⟩ = some (.int .u32 Z.c.toNat) := uc_cell8 ry (k := 2) (by rw [z8]; decide)
          have c3 : wr.cell? ⟨Y, 3, none⟩ = some (.int .u32 Z.d.toNat) := uc_cell8 ry (k := 3) (by rw [z8]; decide)
          have c4 : wr.cell? ⟨Y, 4, none⟩ = some (.int .u32 Z.e.toNat) := uc_cell8 ry (k := 4) (by rw [z8]; decide)
          have c5 : wr.cell? ⟨Y, 5, none⟩ = some (.int .u32 Z.f.toNat) := uc_cell8 ry (k := 5) (by rw [z8]; decide)
          have c6 : wr.cell? ⟨Y, 6, none⟩ = some (.int .u32 Z.g.toNat) := uc_cell8 ry (k := 6) (by rw [z8]; decide)
          have c7 : wr.cell? ⟨Y, 7, none⟩ = some (.int .u32 Z.h.toNat) := uc_cell8 ry (k := 7) (by rw [z8]; decide)
          have q0 : wr.cell? ⟨w.heap.size, 1, none⟩ = some (.slice (some ⟨kb, 0, none⟩) 64 kcap) := cell_row (l := [vb, .slice (some ⟨kb, 0, none⟩) 64 kcap]) G0.out rfl
          have q1 : wr.cell? ⟨kb, k, none⟩ = some (.int .u32 (ks.getD k 0).toNat) := (hbel.cell (p := ⟨kb, k, none⟩) hkb).trans (hkc k hlt)
          have q2 : wr.cell? ⟨w.heap.size + 3, k, none⟩ = some (.int .u32 (S.getD k 0).toNat) := uc_cell8 G3.out (by rw [hS64.out]; exact hlt)
          have kk : (k : Int) < 64 := by omega
          have hr : rounds S (s8 A) (k + 1) = rnd Z (ks.getD k 0) (S.getD k 0) := by rw [rounds, hZ]
          generalize ks.getD k 0 = xk at q1 hr
          generalize S.getD k 0 = xw at q2 hr
          have HR := Lib.hid hr
          have RY := Lib.hid ry
          clear hr hZ ry
          go_wp2_with (go_at_call 32; refine (turned_z _ _ _ (by decide)).mono ?_; rintro e w1 ⟨rfl, rfl⟩)
          go_quiet (fail)
          have d1 : (w1.drewN nq).cell? ⟨Y, 1, none⟩ = some (.int .u32 Z.b.toNat) := c1
          have d2 : (w1.drewN nq).cell? ⟨Y, 2, none⟩ = some (.int .u32 Z.c.toNat) := c2
          have d3 : (w1.drewN nq).cell? ⟨Y, 3, none⟩ = some (.int .u32 Z.d.toNat) := c3
          have d5 : (w1.drewN nq).cell? ⟨Y, 5, none⟩ = some (.int .u32 Z.f.toNat) := c5
          have d6 : (w1.drewN nq).cell? ⟨Y, 6, none⟩ = some (.int .u32 Z.g.toNat) := c6
          have HB := Lib.hid (show w1.heap[Y]? = (w1.drewN nq).heap[Y]? ∧ w1.heap[w.heap.size]? = (w1.drewN nq).heap[w.heap.size]? ∧ w1.heap[w.heap.size + 1]? = (w1.drewN nq).heap[w.heap.size + 1]? ∧ w1.heap[w.heap.size + 2]? = (w1.drewN nq).heap[w.heap.size + 2]? ∧ w1.heap[w.heap.size + 3]? = (w1.drewN nq).heap[w.heap.size + 3]? from ⟨rfl, rfl, rfl, rfl, rfl⟩)
          have belq : Below w.heap.size w (w1.drewN nq) := below_drewN hbel _
          clear c0 c1 c2 c3 c4 c5 c6 c7 q0 q1 q2
          generalize w1.drewN nq = wq at *
          have RQ := Lib.hid (HB.out.1.symm.trans RY.out)
          have d0 : wq.cell? ⟨Y, 0, none⟩ = some (.int .u32 Z.a.toNat) := uc_cell8 RQ.out (k := 0) (by rw [z8]; decide)
          have d4 : wq.cell? ⟨Y, 4, none⟩ = some (.int .u32 Z.e.toNat) := uc_cell8 RQ.out (k := 4) (by rw [z8]; decide)
          have d7 : wq.cell? ⟨Y, 7, none⟩ = some (.int .u32 Z.h.toNat) := uc_cell8 RQ.out (k := 7) (by rw [z8]; decide)
          have f0 : wq.frozen? ⟨Y, 0, none⟩ = false := frozen_of_row wq Y 0 _ _ RQ.out
          have f1 : wq.frozen? ⟨Y, 1, none⟩ = false := frozen_of_row wq Y 1 _ _ RQ.out
          have f2 : wq.frozen? ⟨Y, 2, none⟩ = false := frozen_of_row wq Y 2 _ _ RQ.out
          have f3 : wq.frozen? ⟨Y, 3, none⟩ = false := frozen_of_row wq Y 3 _ _ RQ.out
          have f4 : wq.frozen? ⟨Y, 4, none⟩ = false := frozen_of_row wq Y 4 _ _ RQ.out
          have f5 : wq.frozen? ⟨Y, 5, none⟩ = false := frozen_of_row wq Y 5 _ _ RQ.out
          have f6 : wq.frozen? ⟨Y, 6, none⟩ = false := frozen_of_row wq Y 6 _ _ RQ.out
          have f7 : wq.frozen? ⟨Y, 7, none⟩ = false := frozen_of_row wq Y 7 _ _ RQ.out
          go_wp2
          go_roundw
          case rel =>
            have hnot : (if IntKind.u32.signed = true then (-1 : Int) else IntKind.u32.max) = 4294967295 := rfl
            refine ⟨k + 1, by omega, by go_num, ?_, Lib.hid ?_, Lib.hid ?_, Lib.hid ?_, Lib.hid ?_, ?_⟩
            · refine (set_row (set_row (set_row (set_row (set_row (set_row (set_row (set_row RQ.out)))))))).trans ?_
              rw [HR.out]
              simp only [hnot, xor32, and32, not32, sumA, sumE, ch_alt, maj_alt]
              rfl
            · iterate 8 rw [heap_setCell_other _ _ _ _ (by first | (simp; done) | (simp; omega))]
              exact HB.out.2.1.symm.trans G0.out
            · iterate 8 rw [heap_setCell_other _ _ _ _ (by first | (simp; done) | (simp; omega))]
              exact HB.out.2.2.1.symm.trans G1.out
            · iterate 8 rw [heap_setCell_other _ _ _ _ (by first | (simp; done) | (simp; omega))]
              exact HB.out.2.2.2.1.symm.trans G2.out
            · iterate 8 rw [heap_setCell_other _ _ _ _ (by first | (simp; done) | (simp; omega))]
              exact HB.out.2.2.2.2.symm.trans G3.out
            · iterate 8 refine Below.setCell ?_ (by first | (simp; done) | (simp; omega)) _
              exact belq
          case measure => simp [intOf]; omega
        · obtain rfl : k = 64 := by omega
          rw [show ((64 : Nat) : Int) = 64 from rfl]
          obtain ⟨Z, hZ⟩ : ∃ Z, Z = rounds S (s8 A) 64 := ⟨_, rfl⟩
          rw [← hZ] at ry
          obtain ⟨na, hna⟩ : ∃ na, na = List.zipWith (· + ·) A Z.list := ⟨_, rfl⟩
          have NA := Lib.hid hna
          have RY := Lib.hid ry
          have HZZ := Lib.hid hZ
          clear hna ry hZ
          go_wp2
          go_loopw [19] (fun i wz => ∃ k : Nat, ∃ M : List (BitVec 32), k ≤ 8 ∧ i = .int .i64 k ∧ M.length = 8 ∧ M.take k = na.take k ∧ M.drop k = A.drop k ∧ wz.heap[w.heap.size + 1]? = some (.cells (uc M).toArray 58 (0, 0)) ∧ wz.heap[Y]? = some (.cells (uc Z.list).toArray 58 (0, 0)) ∧ Hid (wz.heap[w.heap.size + 2]? = some (.cells (uc (List.replicate 8 0)).toArray 58 (0, 0))) ∧ Below w.heap.size w wz) (fun i _ => 8 - (intOf i).toNat)
          case atStart => exact ⟨0, A, by omega, rfl, hA, rfl, rfl, G1.out, RY.out, G2, hbel⟩
          case round =>
            clear RY G0 G1 G2 G3 hbel
            obtain ⟨k, M, hk, rfl, hM, hT, hD, hz, hy, G2, hbel⟩ := hrel
            by_cases hlt : k < 8
            · have ek : M.getD k 0 = A.getD k 0 := by
                have e := congrArg (·[0]?) hD
                simp only [List.getElem?_drop, Nat.add_zero] at e
                rw [List.getD_eq_getElem?_getD, List.getD_eq_getElem?_getD, e]
              have hl8 : Z.list.length = 8 := rfl
              have c0 : wr.cell? ⟨w.heap.size + 1, k, none⟩ = some (.int .u32 (M.getD k 0).toNat) := cell_row hz (uc_get (by omega))
              have c1 : wr.cell? ⟨Y, k, none⟩ = some (.int .u32 (Z.list.getD k 0).toNat) := cell_row hy (uc_get (by omega))
              have f0 : wr.frozen? ⟨w.heap.size + 1, k, none⟩ = false := frozen_of_row wr _ k _ _ hz
              have hn : na[k]? = some (A.getD k 0 + Z.list.getD k 0) := by
                rw [NA.out]; simp [List.getElem?_zipWith, hA, hl8, hlt]
              have kk : (k : Int) < 8 := by omega
              rw [ek] at c0
              generalize A.getD k 0 = x at c0 hn
              generalize Z.list.getD k 0 = y at c1 hn
              clear ek hl8
              have HM := Lib.hid hM
              have HT := Lib.hid hT
              have HD := Lib.hid hD
              have HZ := Lib.hid hz
              have HY := Lib.hid hy
              have HN := Lib.hid hn
              clear hM hT hD hz hn hy
              go_wp2
              go_region
              go_wp2
              go_roundw
              case rel =>
                refine ⟨k + 1, M.set k (x + y), by omega, by go_num, by simpa using HM.out, take_set _ _ _ _ HT.out (by rw [HM.out]; omega) HN.out, ?_, ?_, ?_, Lib.hid ?_, ?_⟩
                · rw [List.drop_set_of_lt (by omega), ← List.drop_drop, HD.out, List.drop_drop]
                · rw [heap_drew, add32, ← uc_set]; exact set_row HZ.out
                · rw [heap_drew, heap_setCell_other _ _ _ _ (by first | (simp; done) | (simp; omega))]; exact HY.out
                · rw [heap_drew, heap_setCell_other _ _ _ _ (by first | (simp; done) | (simp; omega))]; exact G2.out
                · exact (hbel.setCell (by first | (simp; done) | (simp; omega)) _).drew
              case measure => simp [intOf]; omega
            · obtain rfl : k = 8 := by omega
              have hnl : na.length = 8 := by
                have hl8 : Z.list.length = 8 := rfl
                rw [NA.out]; simp [hA, hl8]
              have e := take_all _ _ 8 hT hM hnl
              rw [e] at hz
              clear hT hM hD e hy
              have sz : ((uc (List.replicate 8 (0 : BitVec 32))).toArray).size = (uc na).toArray.size := by simp [uc, hnl]
              have sz2 : (Tryd.prog.info? 58).map (·.size) = some (uc na).toArray.size := by simp [uc, hnl, info50]
              have SZ := Lib.hid sz
              have SZ2 := Lib.hid sz2
              have HZ := Lib.hid hz
              clear sz sz2 hz
              go_wp2_with (first
                | (refine wpList_load_row rfl 58 (.tmp 4) rfl (w.heap.size + 1) rfl 58 (uc na).toArray (0, 0) _ HZ.out Tryd.underlying58 rfl SZ2.out ?_)
                | (refine wpList_store_row rfl 58 (.tmp 6) (.tmp 208) rfl (w.heap.size + 2) (uc na).toArray rfl rfl 58 (uc (List.replicate 8 0)).toArray G2.out SZ2.out SZ.out (ones_uc _) ?_))
              exact bodyPost_ret (v := .agg (uc na).toArray) (results_cell_row Tryd.results28 _ _ (w.heap.size + 2) 58 _ _ _ rfl (setRow_heap _ _ _ _ _ _ G2.out) Tryd.underlying58 rfl SZ2.out) rfl ⟨by rw [NA.out, HZZ.out], below_setRow hbel (by omega) _⟩
theorem block_any (vb vk : Value) (A : List (BitVec 32)) (b off cap : Nat) (l : List UInt8) (w : World) (hk : WordsAt w vk ks) (hA : A.length = 8) (hl : BytesAt w b off l) :
    Calls Tryd.prog 28 #[.agg #[vb, vk], (.agg (uc A).toArray), .slice (some ⟨b, off, none⟩) 64 cap] w fun e w' => e = .returned (.agg (uc (compress A l)).toArray) ∧ Below w.heap.size w w' :=
  block_at vb vk A b off cap l (sched l 48) w hk hA hl (Lib.hid (by rw [sched_len])) (Lib.hid (sched_prefix l 0 48 (by omega))) (Lib.hid (fun M i h h1 h2 => sched_get l M i h h1 h2))
end Go.Proofs.YtlplgpmadfmjjaaDoor
