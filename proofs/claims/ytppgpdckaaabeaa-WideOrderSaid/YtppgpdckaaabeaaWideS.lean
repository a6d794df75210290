/- The program's numbers as texts. -/
import Derived.Test.YtppgpdckaaabeaaRows
import Derived.WalkKit
import Derived.Below
import Derived.ProofKit
import Derived.OpenShut
import Derived.ShutString
import Derived.ChangeOld
import Derived.Outline
import Derived.RegionTactic
import Derived.ChangeAlike
import Derived.BigRegion
import Derived.BigQuiet
import Derived.Deep.QuietTactic
import Derived.Deep.RegionWith
import Derived.Deep.RegionLaw
import Derived.Deep.RegionHeld3
import Derived.Deep.AppendLies
import Derived.Deep.Draws
import Derived.StillTailTactics
import Derived.Lib.Hide
import Derived.Lib.SmallJoins
import Derived.Handy
import Derived.WalkSpells
import Derived.WalkLawsBesides
import Derived.Deep.LoopGhost
import Derived.Deep.DeepCutAuto
import Derived.Deep.CutBlock
import Derived.Deep.CutRange
import Derived.Test.YtppgpdckaaabeaaWideR
namespace Go.Proofs.Ytppgpdckaaabeaa
open Go.RowKit
set_option linter.unusedSimpArgs false
set_option linter.unusedVariables false
set_option linter.unnecessarySimpa false
theorem dec_ne_nil (n : Nat) : dec n ≠ [] := by
  by_cases h : n / 10 = 0
  · rw [dec_one n h]; simp
  · rw [dec_more n h]; simp
theorem dec_small (n : Nat) (h : n < 10) : dec n = [UInt8.ofNat (48 + n)] := by rw [dec_one n (by omega), Nat.mod_eq_of_lt h]
theorem slice78 (b u : Nat) (w : World) (h : u < 78) : (Instr.sliceAt 58 (.pointer (some ⟨b, 0, none⟩)) (some (.int .i64 (u : Int))) none none).run Try.prog w = .ok (.slice (some ⟨b, u, none⟩) (78 - u) (78 - u)) w := by
  have hl : Try.prog.arrayLen 58 = 78 := by kernel_rfl
  have he : Try.prog.elem 58 = 5 := by kernel_rfl
  have hz : (sizeOf 5).run Try.prog w = .ok 1 w := by kernel_rfl
  rw [run_sliceAt_array_l w 58 ⟨b, 0, none⟩ (by rw [hl, he]; exact Try.underlying58) .i64 u (by omega) (by rw [hl]; omega), hl, he, hz]
  show Result.ok (slicedAt ⟨b, 0, none⟩ (u : Int).toNat 78 78 1) w = _
  rw [Int.toNat_natCast]
  unfold slicedAt
  rw [if_neg (by omega)]
  simp [Addr.add]; omega
section
attribute [local go_sem] zrow
set_option maxHeartbeats 2000000 in
set_option maxRecDepth 100000 in
theorem wText_any (N : Nat) (w : World) (hN : N < 2 ^ 256) : Calls Try.prog 25 #[aggN N] w fun e w' => e = .returned (.string ⟨(dec N).toArray⟩) ∧ Below w.heap.size w w' := by
  have H78 := Lib.hid (dec_len78 N hN)
  obtain ⟨T, hT⟩ : ∃ T, T = dec N := ⟨_, rfl⟩
  rw [← hT] at H78
  rw [← hT]
  have HN := Lib.hid hN
  have HT := Lib.hid hT
  clear hN hT
  have z78 : ∀ w, (zeroValue 58).run Try.prog w = .ok (.agg (List.replicate 78 (Value.int .u8 0) ++ bcells []).toArray) w := fun w => by kernel_rfl
  go_enter Try.func25, Try.ntmps25
  go_wp2
  generalize hwa : World.alloc _ _ = wa
  have r0 : wa.heap[w.heap.size]? = some (.cells (wcells N).toArray 24 (0, 0)) := by rw [← hwa]; exact heap_alloc2_old w _ _
  have r1 : wa.heap[w.heap.size + 1]? = some (.cells (List.replicate 78 (Value.int .u8 0) ++ bcells []).toArray 58 (0, 0)) := by rw [← hwa]; exact heap_alloc2_new w _ _
  have ba : Below w.heap.size w wa := by rw [← hwa]; exact ((Below.refl _ _).alloc (Nat.le_refl _) _).alloc (by simp) _
  have R0 := Lib.hid r0
  have R1 := Lib.hid r1
  clear hwa r0 r1
  go_loopw [4, 5, 6] (fun p m _ wr => ∃ (k M : Nat) (q : Bool) (l : List UInt8), k ≤ 78 ∧ p = .int .i64 k ∧ m = .bool q ∧ Hid (T = (if q then dec M else []) ++ l ∧ l.length + k = 78 ∧ (q = false → k < 78) ∧ M < 2 ^ 256) ∧ Hid (wr.heap[w.heap.size]? = some (.cells (wcells M).toArray 24 (0, 0))) ∧ Hid (wr.heap[w.heap.size + 1]? = some (.cells (List.replicate k (Value.int .u8 0) ++ bcells l).toArray 58 (0, 0))) ∧ Below w.heap.size w wr) (fun p _ _ _ => (intOf p).toNat)
  case atStart => exact ⟨78, N, true, [], by omega, rfl, rfl, Lib.hid ⟨by rw [HT.out]; simp, rfl, (fun h => nomatch h), HN.out⟩, R0, R1, ba⟩
  case round =>
    obtain ⟨k, M, q, l, hk, rfl, rfl, HI, Q0, Q1, hb⟩ := hrel
    cases q with
    | true =>
      have hpos : 1 ≤ k := by
        have h1 := congrArg List.length HI.out.1
        have h2 := HI.out.2.1
        have h3 := H78.out
        have h4 := List.length_pos_iff.2 (dec_ne_nil M)
        simp only [if_true, List.length_append] at h1
        omega
      obtain ⟨j, rfl⟩ : ∃ j, k = j + 1 := ⟨k - 1, by omega⟩
      have jb : (j : Int) < 78 := by omega
      have ej : ((j + 1 : Nat) : Int) - 1 = (j : Int) := by omega
      have MB := Lib.hid HI.out.2.2.2
      obtain ⟨S, hS⟩ : ∃ S, S = M / 10 := ⟨_, rfl⟩
      obtain ⟨d, hd⟩ : ∃ d, d = M % 10 := ⟨_, rfl⟩
      have d10 : d < 10 := by omega
      have HP := Lib.hid (show partR M 10 = (S, d) from by rw [partR, if_neg (by decide), hS, hd])
      have SB := Lib.hid (show S < 2 ^ 256 from by have := MB.out; omega)
      have HD := Lib.hid (show dec M = (if S = 0 then [] else dec S) ++ [UInt8.ofNat (48 + d)] from by
        by_cases h : M / 10 = 0
        · rw [dec_one M h, hS, if_pos h, hd]; rfl
        · rw [dec_more M h, hS, if_neg h, hd])
      clear hS hd hpos
      go_wp2_with (refine wpList_load_row rfl 24 (.tmp 1) rfl w.heap.size rfl 24 (wcells M).toArray (0, 0) _ Q0.out Try.underlying24 rfl (infoW' _) ?_)
      refine (wPart_any M 10 wr MB.out (by decide)).mono ?_
      rw [HP.out]
      rintro e w1 ⟨rfl, g1⟩
      have Q0' := Lib.hid ((g1.block _ (row_lt Q0.out)).trans Q0.out)
      have Q1' := Lib.hid ((g1.block _ (row_lt Q1.out)).trans Q1.out)
      have b1 := hb.trans (g1.mono hb.size)
      clear g1 Q0 Q1 hb
      go_upto_region 8 with (refine wpList_store_row rfl 24 (.tmp 1) (.tmp 14) rfl w.heap.size (wcells S).toArray rfl rfl 24 (wcells M).toArray Q0'.out (infoW' _) rfl (ones_w _) ?_)
      generalize hwb : World.setRow _ _ _ = wb
      have P0 := Lib.hid (show wb.heap[w.heap.size]? = some (.cells (wcells S).toArray 24 (0, 0)) from by rw [← hwb]; exact setRow_heap _ _ _ _ _ _ Q0'.out)
      have P1 := Lib.hid (show wb.heap[w.heap.size + 1]? = some (.cells (List.replicate (j + 1) (Value.int .u8 0) ++ bcells l).toArray 58 (0, 0)) from by rw [← hwb]; exact (setRow_other (by omega)).trans Q1'.out)
      have b2 : Below w.heap.size w wb := by rw [← hwb]; exact below_setRow b1 (Nat.le_refl _) _
      clear hwb Q0' Q1' b1
      have c1 : wb.cell? ⟨w.heap.size + 1, j, none⟩ = some (.int .u8 0) := cell_tail P1.out
      have f1 : wb.frozen? ⟨w.heap.size + 1, j, none⟩ = false := frozen_of_row wb _ _ _ _ P1.out
      obtain ⟨y, hy⟩ : ∃ y, y = UInt8.ofNat (48 + d) := ⟨_, rfl⟩
      have ey : (48 : Int) + (d : Int) = ((y.toNat : Nat) : Int) := by rw [hy, UInt8.toNat_ofNat']; omega
      rw [← hy] at HD
      clear hy
      go_upto_region 5 with (fail)
      generalize hwb : World.setCell _ _ _ = wc
      have S0 := Lib.hid (show wc.heap[w.heap.size]? = some (.cells (wcells S).toArray 24 (0, 0)) from by rw [← hwb]; exact (heap_setCell_other _ _ _ _ (by simp)).trans P0.out)
      have S1 := Lib.hid (show wc.heap[w.heap.size + 1]? = some (.cells (List.replicate j (Value.int .u8 0) ++ bcells (y :: l)).toArray 58 (0, 0)) from by rw [← hwb]; exact setCell_tail y P1.out)
      have b3 : Below w.heap.size w wc := by rw [← hwb]; exact b2.setCell (by simp) _
      clear hwb P0 P1 b2 c1 f1 ey ej
      go_wp2_with (refine wpList_load_row rfl 24 (.tmp 1) rfl w.heap.size rfl 24 (wcells S).toArray (0, 0) _ S0.out Try.underlying24 rfl (infoW' _) ?_)
      refine (wZero_any S wc SB.out).mono ?_
      rintro e w2 ⟨rfl, g2⟩
      have Q0' := Lib.hid ((g2.block _ (row_lt S0.out)).trans S0.out)
      have Q1' := Lib.hid ((g2.block _ (row_lt S1.out)).trans S1.out)
      have b4 := b3.trans (g2.mono b3.size)
      clear g2 S0 S1 b3
      have HI2 := HI.out
      simp only [if_true] at HI2
      rw [HD.out] at HI2
      by_cases h0 : S = 0
      · have hb0 : (S == 0) = true := by simpa using h0
        rw [if_pos h0] at HI2
        have HI3 := Lib.hid (show T = (if false = true then dec S else []) ++ (y :: l) ∧ (y :: l).length + j = 78 ∧ (false = false → j < 78) ∧ S < 2 ^ 256 from ⟨by simpa using HI2.1, by simp only [List.length_cons]; omega, fun _ => by omega, SB.out⟩)
        clear HI2 h0
        go_wp2
        go_roundw
        case rel => exact ⟨j, S, false, y :: l, by omega, rfl, rfl, Lib.hid ⟨HI3.out.1, HI3.out.2.1, fun _ => HI3.out.2.2.1 trivial, HI3.out.2.2.2⟩, Q0', Q1', b4⟩
        case measure => simp [intOf]
      · have hb0 : (S == 0) = false := by simpa using h0
        rw [if_neg h0] at HI2
        have HI3 := Lib.hid (show T = (if true = true then dec S else []) ++ (y :: l) ∧ (y :: l).length + j = 78 ∧ (true = false → j < 78) ∧ S < 2 ^ 256 from ⟨by simpa using HI2.1, by simp only [List.length_cons]; omega, (fun h => nomatch h), SB.out⟩)
        clear HI2 h0
        go_wp2
        go_roundw
        case rel => exact ⟨j, S, true, y :: l, by omega, rfl, rfl, HI3, Q0', Q1', b4⟩
        case measure => simp [intOf]
    | false =>
      have hl : l = T := by have := HI.out.1; simpa using this.symm
      subst hl
      have k78 : k < 78 := HI.out.2.2.1 rfl
      have hlen := HI.out.2.1
      have hsl := slice78 (w.heap.size + 1) k wr k78
      have hc := run_b2s_tail wr 46 9 5 (w.heap.size + 1) k (78 - k) (78 - k) _ l _ _ Try.underlying46 Try.underlying5 Try.underlying9 Q1.out (by omega)
      clear hlen
      go_wp2
      go_ret
      exact ⟨rfl, hb⟩
end
/-- A row that stands, and what has been laid. -/
structure Kept (b : Nat) (cs : List Value) (t : TypeId) (W w : World) : Prop where
  row : w.heap[b]? = some (.cells cs.toArray t (0, 0))
  bel : Below W.heap.size W w
/-- Another row, that will be stored into. -/
structure Beside (b : Nat) (W : World) (cs : List Value) (t : TypeId) (g : Nat) (w : World) : Prop where
  row : w.heap[g]? = some (.cells cs.toArray t (0, 0))
  ne : g ≠ b
  le : W.heap.size ≤ g
theorem Kept.below {b : Nat} {cs : List Value} {t : TypeId} {W w w' : World} (h : Kept b cs t W w) (g : Below w.heap.size w w') : Kept b cs t W w' := ⟨(g.block _ (row_lt h.row)).trans h.row, h.bel.trans (g.mono h.bel.size)⟩
theorem Kept.drew {b : Nat} {cs : List Value} {t : TypeId} {W w : World} (h : Kept b cs t W w) : Kept b cs t W w.drew := h.below (Below.refl _ _).drew
theorem Kept.rng {b : Nat} {cs : List Value} {t : TypeId} {W w : World} (h : Kept b cs t W w) : w.rangeAt b 0 cs := range_cells h.row
theorem Beside.below {b g : Nat} {cs : List Value} {t : TypeId} {W w w' : World} (h : Beside b W cs t g w) (k : Below w.heap.size w w') : Beside b W cs t g w' := ⟨(k.block _ (row_lt h.row)).trans h.row, h.ne, h.le⟩
theorem Kept.stored {b g : Nat} {cs old : List Value} {t u : TypeId} {W w : World} (h : Kept b cs t W w) (f : Beside b W old u g w) (new : List Value) : Kept b cs t W (w.setRow g new.toArray) :=
  ⟨(setRow_other f.ne).trans h.row, below_setRow h.bel f.le _⟩
theorem Kept.more {b g : Nat} {cs old : List Value} {t u : TypeId} {W w : World} (h : Kept b cs t W w) (f : Beside b W old u g w) (new : List Value) : (w.setRow g new.toArray).heap[g]? = some (.cells new.toArray u (0, 0)) :=
  setRow_heap _ _ _ _ _ _ f.row
def behR (N : Nat) (c : UInt8) : Nat × Bool := if 48 ≤ c.toNat ∧ c.toNat ≤ 57 ∧ N * 10 + (c.toNat - 48) < 2 ^ 256 then (N * 10 + (c.toNat - 48), true) else (0, false)
section
set_option maxHeartbeats 2000000 in
set_option maxRecDepth 100000 in
theorem behind_any (N : Nat) (c : UInt8) (w : World) (hN : N < 2 ^ 256) : Calls Try.prog 39 #[aggN N, .int .u8 (c.toNat : Nat)] w fun e w' => e = .returned (.tuple #[aggN (behR N c).1, .bool (behR N c).2]) ∧ Below w.heap.size w w' := by
  obtain ⟨x, hx⟩ : ∃ x, x = c.toNat := ⟨_, rfl⟩
  have x8 : x < 256 := by rw [hx]; exact c.toNat_lt
  by_cases h1 : x < 48
  · have HV := Lib.hid (show behR N c = (0, false) from by rw [behR, if_neg (by omega)])
    rw [HV.out, ← hx]
    have d1 : decide ((x : Int) < 48) = true := by simp; omega
    clear hx h1
    go_enter Try.func39, Try.ntmps39
    go_wp2_with (first
      | (refine wpList_load_row rfl 24 (.tmp 2) rfl w.heap.size rfl 24 (wcells N).toArray (0, 0) _ (heap_alloc2_old w _ _) Try.underlying24 rfl (infoW' _) ?_)
      | (refine wpList_store_row rfl 24 (.tmp 4) (.tmp 14) rfl (w.heap.size + 1) (wcells 0).toArray rfl rfl 24 (wcells 0).toArray (heap_alloc2_new w _ _) (infoW' _) rfl (ones_w _) ?_))
    exact bodyPost_ret (v := .tuple #[aggN 0, .bool false]) (results_cell_tmp Try.results39 _ _ (w.heap.size + 1) 24 _ _ _ _ rfl rfl (setRow_heap _ _ _ _ _ _ (heap_alloc2_new w _ _)) Try.underlying24 rfl (infoW' _)) rfl ⟨rfl, below_setRow (((Below.refl _ _).alloc (Nat.le_refl _) _).alloc (by simp) _) (by omega) _⟩
  by_cases h2 : 57 < x
  · have HV := Lib.hid (show behR N c = (0, false) from by rw [behR, if_neg (by omega)])
    rw [HV.out, ← hx]
    have d1 : decide ((x : Int) < 48) = false := by simp; omega
    have d2 : decide (57 < (x : Int)) = true := by simp; omega
    clear hx h1
    go_enter Try.func39, Try.ntmps39
    go_wp2_with (first
      | (refine wpList_load_row rfl 24 (.tmp 2) rfl w.heap.size rfl 24 (wcells N).toArray (0, 0) _ (heap_alloc2_old w _ _) Try.underlying24 rfl (infoW' _) ?_)
      | (refine wpList_store_row rfl 24 (.tmp 4) (.tmp 14) rfl (w.heap.size + 1) (wcells 0).toArray rfl rfl 24 (wcells 0).toArray (heap_alloc2_new w _ _) (infoW' _) rfl (ones_w _) ?_))
    exact bodyPost_ret (v := .tuple #[aggN 0, .bool false]) (results_cell_tmp Try.results39 _ _ (w.heap.size + 1) 24 _ _ _ _ rfl rfl (setRow_heap _ _ _ _ _ _ (heap_alloc2_new w _ _)) Try.underlying24 rfl (infoW' _)) rfl ⟨rfl, below_setRow (((Below.refl _ _).alloc (Nat.le_refl _) _).alloc (by simp) _) (by omega) _⟩
  have d1 : decide ((x : Int) < 48) = false := by simp; omega
  have d2 : decide (57 < (x : Int)) = false := by simp; omega
  obtain ⟨d, hd⟩ : ∃ d, d = x - 48 := ⟨_, rfl⟩
  have ed : (x : Int) - 48 = (d : Int) := by omega
  have db : d < 18446744073709551616 := by omega
  have d9 : d ≤ 9 := by omega
  have DB := Lib.hid (show d < 2 ^ 256 from by omega)
  have HB := Lib.hid (show behR N c = if N * 10 + d < 2 ^ 256 then (N * 10 + d, true) else (0, false) from by rw [behR, ← hx, ← hd]; by_cases h : N * 10 + d < 2 ^ 256 <;> simp [h] <;> omega)
  obtain ⟨V, b, hV⟩ : ∃ V b, behR N c = (V, b) := ⟨_, _, rfl⟩
  rw [hV, ← hx]
  rw [hV] at HB
  have HN := Lib.hid hN
  obtain ⟨T, ok, hT⟩ : ∃ T ok, timesR N 10 = (T, ok) := ⟨_, _, rfl⟩
  have HT := Lib.hid hT
  have TB := Lib.hid (show T < 2 ^ 256 from by have := timesR_lt N 10; rw [hT] at this; exact this)
  clear hx h1 h2 hd hV hN hT
  go_enter Try.func39, Try.ntmps39
  go_wp2_with (first
      | (refine wpList_load_row rfl 24 (.tmp 2) rfl w.heap.size rfl 24 (wcells N).toArray (0, 0) _ (heap_alloc2_old w _ _) Try.underlying24 rfl (infoW' _) ?_)
      | (refine wpList_store_row rfl 24 (.tmp 4) (.tmp 14) rfl (w.heap.size + 1) (wcells 0).toArray rfl rfl 24 (wcells 0).toArray (heap_alloc2_new w _ _) (infoW' _) rfl (ones_w _) ?_))
  generalize hwa : World.alloc _ _ = wa
  have r4 : wa.heap[w.heap.size + 1]? = some (.cells (wcells 0).toArray 24 (0, 0)) := by rw [← hwa]; exact heap_alloc2_new w _ _
  have ba : Below w.heap.size w wa := by rw [← hwa]; exact ((Below.refl _ _).alloc (Nat.le_refl _) _).alloc (by simp) _
  have R4 := Lib.hid r4
  clear hwa r4
  refine (wTimes_any N 10 wa HN.out (by decide)).mono ?_
  rw [HT.out]
  rintro e w1 ⟨rfl, g1⟩
  have Q4 := Lib.hid ((g1.block _ (row_lt R4.out)).trans R4.out)
  have b1 := ba.trans (g1.mono ba.size)
  clear g1 R4 ba
  cases ok with
  | false =>
    have hv : V = 0 ∧ b = false := by
      have h1 := HT.out
      have h2 := HB.out
      unfold timesR at h1
      split at h1
      · cases h1
      · rw [if_neg (by omega)] at h2
        exact Prod.mk.inj h2
    obtain ⟨rfl, rfl⟩ := hv
    have q4 := row_lt Q4.out
    have Q5 := Lib.hid (show (w1.alloc (.cells #[.int .u64 0, .int .u64 0, .int .u64 0, .int .u64 0] 24)).heap[w.heap.size + 1]? = _ from (Below.heap_alloc _ _ _ q4).trans Q4.out)
    go_upto_region 4 with (refine wpList_store_row rfl 24 (.tmp 6) (.tmp 18) rfl w1.heap.size (wcells T).toArray rfl rfl 24 (wcells 0).toArray (heap_alloc_new w1 _) (infoW' _) rfl (ones_w _) ?_)
    generalize hwb : World.setRow _ _ _ = wb
    have P4 := Lib.hid (show wb.heap[w.heap.size + 1]? = some (.cells (wcells 0).toArray 24 (0, 0)) from by rw [← hwb]; exact (setRow_other (by omega)).trans Q5.out)
    have b2 : Below w.heap.size w wb := by rw [← hwb]; exact below_setRow (b1.alloc b1.size _) b1.size _
    clear hwb Q5 Q4
    go_wp2_with (refine wpList_store_row rfl 24 (.tmp 4) (.tmp 22) rfl (w.heap.size + 1) (wcells 0).toArray rfl rfl 24 (wcells 0).toArray P4.out (infoW' _) rfl (ones_w _) ?_)
    exact bodyPost_ret (v := .tuple #[aggN 0, .bool false]) (results_cell_tmp Try.results39 _ _ (w.heap.size + 1) 24 _ _ _ _ rfl rfl (setRow_heap _ _ _ _ _ _ P4.out) Try.underlying24 rfl (infoW' _)) rfl ⟨rfl, below_setRow b2 (by omega) _⟩
  | true =>
    have HA := Lib.hid (show addR T d = (V, b) from by
      have h1 := HT.out
      have h2 := HB.out
      unfold timesR at h1
      split at h1
      · obtain ⟨rfl, _⟩ := Prod.mk.inj h1
        rw [addR, ← h2]
      · cases h1)
    have q4 := row_lt Q4.out
    have Q5 := Lib.hid (show (w1.alloc (.cells #[.int .u64 0, .int .u64 0, .int .u64 0, .int .u64 0] 24)).heap[w.heap.size + 1]? = _ from (Below.heap_alloc _ _ _ q4).trans Q4.out)
    go_upto_region 6 with (refine wpList_store_row rfl 24 (.tmp 6) (.tmp 18) rfl w1.heap.size (wcells T).toArray rfl rfl 24 (wcells 0).toArray (heap_alloc_new w1 _) (infoW' _) rfl (ones_w _) ?_)
    generalize hwb : World.setRow _ _ _ = wb
    have hP : Kept w1.heap.size (wcells T) 24 w wb := ⟨by rw [← hwb]; exact setRow_heap _ _ _ _ _ _ (heap_alloc_new w1 _), by rw [← hwb]; exact below_setRow (b1.alloc b1.size _) b1.size _⟩
    have hF : Beside w1.heap.size w (wcells 0) 24 (w.heap.size + 1) wb.drew := ⟨by rw [← hwb]; exact (setRow_other (by omega)).trans Q5.out, by omega, by omega⟩
    clear hwb Q5 Q4
    have w8 : IntKind.u8.wrap (d : Int) = (d : Int) := IntWalk.u8_in _ (by omega)
    have w64 : IntKind.u64.wrap (d : Int) = (d : Int) := wrapN d db
    refine wp_region_held_drew (S := Kept w1.heap.size (wcells T) 24 w) (by kernel_rfl) hP.drew (fun hHeld => ?_)
    clear hP
    refine wpAnyH_take (i := 0) (oi := _) (v := _) rfl (by kernel_rfl) (by kernel_rfl) (by kernel_rfl) (fun _ _ _ h => h) (yieldsIf_load_mid (by kernel_rfl) _ _ rfl _ _ rfl _ _ (fun w h => h.rng) Try.underlying24 rfl infoW) hHeld ?_
    try simp only [Act.put, List.getElem_toArray, List.getElem_cons_succ, List.getElem_cons_zero, List.setIfInBounds_toArray, List.set_cons_zero, List.set_cons_succ]
    refine wpAnyH_take (i := 1) (oi := _) (v := ?_) rfl (by kernel_rfl) (by kernel_rfl) (by kernel_rfl) (fun _ _ _ h => h) (Or.inl ⟨by kernel_rfl, ?_⟩) hHeld ?_
    rotate_left
    · (intro w hSw; go_simp; try with_reducible rfl)
    try simp only [Act.put, List.getElem_toArray, List.getElem_cons_succ, List.getElem_cons_zero, List.setIfInBounds_toArray, List.set_cons_zero, List.set_cons_succ]
    refine wpAnyH_take (i := 2) (oi := _) (v := ?_) rfl (by kernel_rfl) (by kernel_rfl) (by kernel_rfl) (fun _ _ _ h => h) (Or.inl ⟨by kernel_rfl, ?_⟩) hHeld ?_
    rotate_left
    · (intro w hSw; go_simp; try with_reducible rfl)
    try simp only [Act.put, List.getElem_toArray, List.getElem_cons_succ, List.getElem_cons_zero, List.setIfInBounds_toArray, List.set_cons_zero, List.set_cons_succ]
    refine wpAnyH_take (i := 3) (oi := _) (v := ?_) rfl (by kernel_rfl) (by kernel_rfl) (by kernel_rfl) (fun _ _ _ h => h) (Or.inl ⟨by kernel_rfl, ?_⟩) hHeld ?_
    rotate_left
    · (intro w hSw; go_simp; try with_reducible rfl)
    try simp only [Act.put, List.getElem_toArray, List.getElem_cons_succ, List.getElem_cons_zero, List.setIfInBounds_toArray, List.set_cons_zero, List.set_cons_succ]
    refine wpAnyH_ready (rs := [4]) (by kernel_rfl) (by simp) ?_
    refine AllReadyH.cons (o := _) rfl (fun K hK => ?_) AllReadyH.nil
    go_simp
    go_at_call 21
    refine (wOf_any _ _ db).mono ?_
    rintro e w3 ⟨rfl, g3⟩
    have hF := hF.below g3
    refine hK.out _ _ (hHeld.below g3) (fun hHeld => ?_)
    clear hK K
    try simp only [Act.put, List.getElem_toArray, List.getElem_cons_succ, List.getElem_cons_zero, List.setIfInBounds_toArray, List.set_cons_zero, List.set_cons_succ]
    refine wpAnyH_ready (rs := [5]) (by kernel_rfl) (by simp) ?_
    refine AllReadyH.cons (o := _) rfl (fun K hK => ?_) AllReadyH.nil
    go_simp
    go_at_call 12
    refine (wAdd_any _ _ _ TB.out DB.out).mono ?_
    rw [HA.out]
    rintro e w4 ⟨rfl, g4⟩
    have hF := hF.below g4
    refine hK.out _ _ (hHeld.below g4) (fun hHeld => ?_)
    clear hK K
    try simp only [Act.put, List.getElem_toArray, List.getElem_cons_succ, List.getElem_cons_zero, List.setIfInBounds_toArray, List.set_cons_zero, List.set_cons_succ]
    refine wpAnyH_take (i := 6) (oi := _) (v := ?_) rfl (by kernel_rfl) (by kernel_rfl) (by kernel_rfl) (fun _ _ _ h => h) (Or.inl ⟨by kernel_rfl, ?_⟩) hHeld ?_
    rotate_left
    · (intro w hSw; go_simp; try with_reducible rfl)
    try simp only [Act.put, List.getElem_toArray, List.getElem_cons_succ, List.getElem_cons_zero, List.setIfInBounds_toArray, List.set_cons_zero, List.set_cons_succ]
    refine wpAnyH_take (i := 7) (oi := _) (v := ?_) rfl (by kernel_rfl) (by kernel_rfl) (by kernel_rfl) (fun _ _ _ h => h) (Or.inl ⟨by kernel_rfl, ?_⟩) hHeld ?_
    rotate_left
    · (intro w hSw; go_simp; try with_reducible rfl)
    try simp only [Act.put, List.getElem_toArray, List.getElem_cons_succ, List.getElem_cons_zero, List.setIfInBounds_toArray, List.set_cons_zero, List.set_cons_succ]
    refine wpAnyH_ready (rs := [8]) (by kernel_rfl) (by simp) ?_
    refine AllReadyH.cons (o := _) rfl (fun K hK => ?_) AllReadyH.nil
    refine step_store_row (by kernel_rfl) 24 (.tmp 4) (.tmp 29) rfl _ (wcells _).toArray rfl rfl 24 (wcells 0).toArray hF.row (infoW' _) rfl (ones_w _) ?_
    have hP := hHeld.more hF (wcells V)
    refine hK.out _ _ (hHeld.stored hF (wcells V)) (fun hHeld => ?_)
    clear hK K
    try simp only [Act.put, List.getElem_toArray, List.getElem_cons_succ, List.getElem_cons_zero, List.setIfInBounds_toArray, List.set_cons_zero, List.set_cons_succ]
    refine wpAnyH_take (i := 9) (oi := _) (v := ?_) rfl (by kernel_rfl) (by kernel_rfl) (by kernel_rfl) (fun _ _ _ h => h) (Or.inl ⟨by kernel_rfl, ?_⟩) hHeld ?_
    rotate_left
    · (intro w hSw; go_simp; try with_reducible rfl)
    try simp only [Act.put, List.getElem_toArray, List.getElem_cons_succ, List.getElem_cons_zero, List.setIfInBounds_toArray, List.set_cons_zero, List.set_cons_succ]
    refine wpAnyH_done (by kernel_rfl) ?_ _
    have b3 := hHeld.bel
    clear hHeld
    go_wp2
    exact bodyPost_ret (v := .tuple #[aggN V, .bool b]) (results_cell_tmp Try.results39 _ _ (w.heap.size + 1) 24 _ _ _ _ rfl rfl hP Try.underlying24 rfl (infoW' _)) rfl ⟨rfl, b3⟩
end
end Go.Proofs.Ytppgpdckaaabeaa
