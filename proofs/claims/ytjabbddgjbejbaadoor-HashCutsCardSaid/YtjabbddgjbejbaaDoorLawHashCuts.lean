/- However a text is cut into pieces, its hash is the same: for every text and every two places, the law HashCuts returns true, and its arguments read afterwards as they read before. The tables that the program's text lays are tied to it by the card. No condition. -/
import Derived.Test.YtjabbddgjbejbaaDoorRows
import Derived.WalkKit
import Derived.Below
import Derived.ProofKit
import Derived.OpenShut
import Derived.ShutString
import Derived.ChangeOld
import Derived.Outline
import Derived.RegionTactic
import Derived.ChangeAlike
import Derived.BigRegion
import Derived.BigQuiet
import Derived.Deep.QuietTactic
import Derived.Deep.RegionWith
import Derived.Deep.RegionLaw
import Derived.Deep.RegionHeld3
import Derived.Deep.AppendLies
import Derived.Deep.Draws
import Derived.StillTailTactics
import Derived.Lib.Hide
import Derived.Lib.SmallJoins
import Derived.Handy
import Derived.Stop.BytesEq
import Derived.WalkSpells
import Derived.WalkLawsBesides
import Derived.Deep.LoopGhost
import Derived.Deep.DeepCutAuto
import Derived.Laws.CopyOwn
import Derived.Test.YtjabbddgjbejbaaDoorHashN
namespace Go.Proofs.YtjabbddgjbejbaaDoor.hashCuts
open Go.RowKit
set_option linter.unusedSimpArgs false
set_option linter.unusedVariables false
section
open Go.ChangeShapes Go.WideShapes Go.ChangeAt
variable {H : Type} {enc : TypeId × Value → H} {W : World} {base : Nat}
theorem op_ints2 {v : Value} {d : DataW H} {ps : List MemPlace} (hv : Value.okWide Tryd.prog W .any base 41 v) (h : DataW.Trod enc Tryd.prog W 0 (fun _ => true) true 41 v d ps) :
    ∃ p q : Int, v = .agg #[.int .i64 p, .int .i64 q] ∧ -9223372036854775808 ≤ p ∧ p < 9223372036854775808 ∧ -9223372036854775808 ≤ q ∧ q < 9223372036854775808 := by
  have hv2 : ∃ cs, v = .agg cs ∧ cs.size = Tryd.prog.cellsOf 41 := by
    simp only [Value.okWide, Tryd.underlying41] at hv
    obtain ⟨cs, h1, h2, _⟩ := hv
    exact ⟨cs, h1, h2⟩
  obtain ⟨cs, rfl, hsz⟩ := hv2
  have h2 : Tryd.prog.cellsOf 41 = 2 := by kernel_rfl
  have h1 : Tryd.prog.cellsOf 3 = 1 := by kernel_rfl
  rw [h2] at hsz
  obtain ⟨x, y, rfl⟩ : ∃ x y, cs = #[x, y] := by
    obtain ⟨l⟩ := cs
    match l, hsz with
    | [x, y], _ => exact ⟨x, y, rfl⟩
  obtain ⟨fuel, hf⟩ := h
  obtain ⟨xs, m, _, _, _, hxl, hx⟩ := DataW.trod_array Tryd.underlying41 hf
  have g0 := hx 0 (by omega)
  have g1 := hx 1 (by omega)
  rw [h1, List.getElem?_eq_getElem (by omega)] at g0 g1
  simp [Value.cells] at g0 g1
  obtain ⟨p, e0, _, w0⟩ := DataW.trod_int Tryd.underlying3 g0
  obtain ⟨q, e1, _, w1⟩ := DataW.trod_int Tryd.underlying3 g1
  simp at e0 e1
  subst e0 e1
  have b0 := bounds_i64 w0
  have b1 := bounds_i64 w1
  exact ⟨p, q, rfl, by omega, by omega, by omega, by omega⟩
end
def CutS (W : World) (z b10 : Nat) (s : List UInt8) (w : World) : Prop := w.rangeAt b10 0 (bcells (sha s)) ∧ Has w z s ∧ Tabs w ∧ Below W.heap.size W w ∧ b10 < w.heap.size
theorem CutS.below {W w w' : World} {z b10 : Nat} {s : List UInt8} (h : CutS W z b10 s w) (hb : Below w.heap.size w w') : CutS W z b10 s w' :=
  ⟨range_below h.1 hb h.2.2.2.2, h.2.1.below hb, h.2.2.1.below hb, h.2.2.2.1.trans (hb.mono h.2.2.2.1.size), Nat.lt_of_lt_of_le h.2.2.2.2 hb.size⟩
theorem CutS.drew {W w : World} {z b10 : Nat} {s : List UInt8} (h : CutS W z b10 s w) : CutS W z b10 s w.drew :=
  ⟨h.1, h.2.1, h.2.2.1, h.2.2.2.1.drew, h.2.2.2.2⟩
theorem strs_four {w : World} {b : Nat} {l1 l2 l4 : List UInt8} {t : TypeId} {fr : Nat × Nat} (h : w.heap[b]? = some (.cells #[.string ⟨l1.toArray⟩, .string ⟨l2.toArray⟩, .string ⟨#[]⟩, .string ⟨l4.toArray⟩] t fr)) : StrsAt w w.heap.size (some ⟨b, 0, none⟩) 4 [l1, l2, [], l4] := by
  refine ⟨rfl, fun _ => ⟨b, 0, rfl, ?_, fun k m hk => ?_⟩⟩
  · rcases Nat.lt_or_ge b w.heap.size with hlt | hge
    · exact hlt
    · rw [Array.getElem?_eq_none hge] at h; cases h
  · rw [Nat.zero_add, cell_of_row _ _ _ _ _ _ h]
    match k, hk with
    | 0, hk => obtain rfl : l1 = m := by simpa using hk
               rfl
    | 1, hk => obtain rfl : l2 = m := by simpa using hk
               rfl
    | 2, hk => obtain rfl : [] = m := by simpa using hk
               rfl
    | 3, hk => obtain rfl : l4 = m := by simpa using hk
               rfl
    | k + 4, hk => simp at hk
theorem cuts3 (s : List UInt8) (lo hi : Nat) (h : lo ≤ hi) : s.take lo ++ ((s.take hi).drop lo ++ s.drop hi) = s := by
  have e : s.take lo = (s.take hi).take lo := by rw [List.take_take, Nat.min_eq_left h]
  rw [e, ← List.append_assoc, List.take_append_drop, List.take_append_drop]
theorem place (p : Int) (n : Nat) (hn : n ≤ 300) : ∃ (t : Int) (a : Nat), p.tmod ((n : Int) + 1) = t ∧ -((n : Int) + 1) < t ∧ t < (n : Int) + 1 ∧ (t + n + 1) % ((n : Int) + 1) = a ∧ a ≤ n := by
  refine ⟨_, ((p.tmod ((n : Int) + 1) + n + 1) % ((n : Int) + 1)).toNat, rfl, ?_, ?_, ?_, ?_⟩
  · have := Int.lt_tmod_of_pos p (show (0 : Int) < (n : Int) + 1 by omega); omega
  · exact Int.tmod_lt_of_pos p (by omega)
  · rw [Int.toNat_of_nonneg (Int.emod_nonneg _ (by omega))]
  · have h1 := Int.emod_lt_of_pos (p.tmod ((n : Int) + 1) + n + 1) (show (0 : Int) < (n : Int) + 1 by omega)
    have h2 := Int.emod_nonneg (p.tmod ((n : Int) + 1) + n + 1) (show ((n : Int) + 1) ≠ 0 by omega)
    omega
section
attribute [local go_sem] eqIn26 guard26 sha_len ext_list
set_option maxHeartbeats 8000000 in
set_option maxRecDepth 100000 in
theorem walk (l : List UInt8) (p q : Int) (W : World) (ht : Tabs W) (_hl : l.length ≤ maxLen) (p0 : -9223372036854775808 ≤ p) (p1 : p < 9223372036854775808) (q0 : -9223372036854775808 ≤ q) (q1 : q < 9223372036854775808) :
    Calls Tryd.prog 5 #[.string ⟨l.toArray⟩, .agg #[.int .i64 p, .int .i64 q]] W fun e w' => e = .returned (.bool true) ∧ Below W.heap.size W w' := by
  have h1 := ht.2.2
  obtain ⟨s, hs⟩ : ∃ s, s = l.take 300 := ⟨_, rfl⟩
  have HSE := Lib.hid hs
  have hn : s.length ≤ 300 := by rw [hs]; exact List.length_take_le _ _
  obtain ⟨tp, a, ep, bp1, bp2, ea, ha⟩ := place p s.length hn
  obtain ⟨tq, c, eq, bq1, bq2, ec, hc⟩ := place q s.length hn
  have HX := Lib.hid (show (Tryd.prog.info? 26).map (·.size) = some (bcells (sha s)).length from by rw [bcells_len, sha_len]; exact info26)
  have SX := Lib.hid (show (bcells (sha s)).toArray.size = 32 from by simp [bcells, sha_len])
  clear hs
  go_enter Tryd.func5, Tryd.ntmps5
  go_wp2_with fail
  have k0 : (W.alloc (.cells #[.int .i64 p, .int .i64 q] 41)).cell? ⟨W.heap.size, 0, none⟩ = some (.int .i64 p) := cell_of_row _ _ _ _ _ _ (heap_alloc_new W _)
  have k1 : (W.alloc (.cells #[.int .i64 p, .int .i64 q] 41)).cell? ⟨W.heap.size, 1, none⟩ = some (.int .i64 q) := cell_of_row _ _ _ _ _ _ (heap_alloc_new W _)
  have b0 : Below W.heap.size W (W.alloc (.cells #[.int .i64 p, .int .i64 q] 41)) := (Below.refl _ _).alloc (Nat.le_refl _) _
  have z0 : W.heap.size < (W.alloc (.cells #[.int .i64 p, .int .i64 q] 41)).heap.size := by simp
  generalize W.alloc (.cells #[.int .i64 p, .int .i64 q] 41) = w0 at *
  have t0 := ht.below b0
  refine (awake_any _ t0).mono ?_
  rintro e w1 ⟨rfl, g1⟩
  have c0 : w1.cell? ⟨W.heap.size, 0, none⟩ = some (.int .i64 p) := (g1.cell (p := ⟨W.heap.size, 0, none⟩) z0).trans k0
  have c1 : w1.cell? ⟨W.heap.size, 1, none⟩ = some (.int .i64 q) := (g1.cell (p := ⟨W.heap.size, 1, none⟩) z0).trans k1
  have b1 := b0.trans (g1.mono b0.size)
  have t1 := t0.below g1
  clear k0 k1 g1 b0 z0 t0 ht
  go_wp2_with fail
  refine (short_any l 300 _ (by omega)).mono ?_
  rw [← HSE.out]
  rintro e w2 ⟨rfl, rfl⟩
  go_upto_if 44 with (fail)
  go_cut [6, 7] (fun u v w' => ∃ lo hi : Nat, lo ≤ hi ∧ hi ≤ s.length ∧ u = .int .i64 lo ∧ v = .int .i64 hi ∧ w' = w1)
  case first =>
    by_cases hac : c < a
    · have d : decide (c < a) = true := by simpa using hac
      go_wp2_with fail
      go_meet
      case rel => exact ⟨c, a, by omega, by omega, by rw [ec], by rw [ea], rfl⟩
    · have d : decide (c < a) = false := by simpa using hac
      go_wp2_with fail
      go_meet
      case rel => exact ⟨a, c, by omega, by omega, by rw [ea], by rw [ec], rfl⟩
  case rest =>
  obtain ⟨lo, hi, hlo, hhi, rfl, rfl, rfl⟩ := hcut
  clear ep eq ea ec c0 c1 bp1 bp2 bq1 bq2 ha hc
  apply_assumption
  have i0 : (lo : Int) ≤ s.length := by omega
  have i1 : (hi : Int) ≤ s.length := by omega
  have i2 : (lo : Int) ≤ hi := by omega
  have tl := List.take_length (l := s)
  have HF := Lib.hid (show [s.take lo, (s.take hi).drop lo, [], s.drop hi].flatten = s from by
    simp only [List.flatten_cons, List.flatten_nil, List.append_nil, List.nil_append]; exact cuts3 s lo hi hlo)
  have HC := Lib.hid (cuts3 s lo hi hlo)
  have l1 : (s.take lo).length ≤ s.length := by rw [List.length_take]; exact Nat.min_le_right _ _
  have l2 : ((s.take hi).drop lo).length ≤ s.length := by rw [List.length_drop, List.length_take]; omega
  have l3 : (s.drop hi).length ≤ s.length := by rw [List.length_drop]; omega
  have L1 := Lib.hid l1
  have L2 := Lib.hid l2
  have L3 := Lib.hid l3
  clear l1 l2 l3
  go_wp2_with fail
  refine (New_any _).mono ?_
  rintro e w2 ⟨rfl, hz2, g2⟩
  obtain ⟨z, hz⟩ : ∃ z, z = wc.heap.size := ⟨_, rfl⟩
  rw [← hz] at hz2
  rw [← hz]
  have HZ := Lib.hid (show W.heap.size ≤ z ∧ 1 < z from by rw [hz]; exact ⟨b1.size, Nat.lt_of_lt_of_le h1 b1.size⟩)
  clear hz
  have t2 := t1.below g2
  have b2 := b1.trans (g2.mono b1.size)
  clear g2 t1 b1
  go_wp2_with fail
  refine (Write_any z [] (s.take lo) _ t2 HZ.out.2 hz2 (by have := L1.out; simp; omega)).mono ?_
  rw [List.nil_append]
  rintro e w3 ⟨rfl, hz3, g3⟩
  have t3 := t2.fr g3 (fun k hk => by simp at hk; have := HZ.out; omega)
  have b3 := b2.trans (g3.below b2.size (fun k hk => by simp at hk; have := HZ.out; omega))
  clear g3 t2 b2 hz2
  go_wp2_with fail
  refine (Write_any z _ ((s.take hi).drop lo) _ t3 HZ.out.2 hz3 (by have := L1.out; have := L2.out; omega)).mono ?_
  rintro e w4 ⟨rfl, hz4, g4⟩
  have t4 := t3.fr g4 (fun k hk => by simp at hk; have := HZ.out; omega)
  have b4 := b3.trans (g4.below b3.size (fun k hk => by simp at hk; have := HZ.out; omega))
  clear g4 t3 b3 hz3
  go_wp2_with fail
  refine (Write_any z _ (s.drop hi) _ t4 HZ.out.2 hz4 (by have := L1.out; have := L2.out; have := L3.out; rw [List.length_append]; omega)).mono ?_
  rw [List.append_assoc, HC.out]
  rintro e w5 ⟨rfl, hz5, g5⟩
  have t5 := t4.fr g5 (fun k hk => by simp at hk; have := HZ.out; omega)
  have b5 := b4.trans (g5.below b4.size (fun k hk => by simp at hk; have := HZ.out; omega))
  clear g5 t4 b4 hz4
  have a6 : Below w5.heap.size w5 (w5.alloc (.cells #[.string ⟨s.toArray⟩] 9)) := (Below.refl _ _).alloc (Nat.le_refl _) _
  have s6 := strs_one (heap_alloc_new w5 (.cells #[.string ⟨s.toArray⟩] 9))
  go_wp2_with fail
  refine (Of_any (some ⟨w5.heap.size, 0, none⟩) 1 1 [s] _ (t5.below a6) s6 (by decide) (by simp; omega)).mono ?_
  rw [sha_one]
  rintro e w6 ⟨rfl, g6⟩
  have g56 := a6.trans (g6.mono a6.size)
  go_wp2_with (refine wpList_store_row rfl 26 (.tmp 10) (.tmp 69) rfl w6.heap.size (bcells (sha s)).toArray rfl rfl 26 _ (heap_alloc_new w6 _) (by rw [SX.out]; exact info26) (by rw [SX.out]; rfl) (ones_bc _) ?_)
  generalize hw7 : World.setRow _ _ _ = w7
  have r7 : w7.heap[w6.heap.size]? = some (.cells (bcells (sha s)).toArray 26 (0, 0)) := by rw [← hw7]; exact setRow_heap _ _ _ _ _ _ (heap_alloc_new w6 _)
  have g7 : Below w6.heap.size w6 w7 := by rw [← hw7]; exact below_setRow ((Below.refl _ _).alloc (Nat.le_refl _) _) (Nat.le_refl _) _
  have z7 : w6.heap.size < w7.heap.size := by rw [← hw7]; simp
  clear hw7
  have g57 := g56.trans (g7.mono g56.size)
  obtain ⟨b10, hb10⟩ : ∃ b, b = w6.heap.size := ⟨_, rfl⟩
  rw [← hb10] at r7 z7
  rw [← hb10]
  have hS : CutS W z b10 s w7 := ⟨range_row r7, hz5.below g57, t5.below g57, b5.trans (g57.mono b5.size), z7⟩
  clear r7 g57 g56 g7 z7 hz5 t5 b5 a6 s6 g6 hb10
  refine wp_region_held_drew (S := CutS W z b10 s) (by kernel_rfl) hS.drew (fun hHeld => ?_)
  refine wpAnyH_take (i := 0) (oi := _) (v := ?_) rfl (by kernel_rfl) (by kernel_rfl) (by kernel_rfl) (fun _ _ _ h => h) (Or.inl ⟨by kernel_rfl, ?_⟩) hHeld ?_
  rotate_left
  · (intro w hSw; go_simp; try with_reducible rfl)
  try simp only [Act.put, List.getElem_toArray, List.getElem_cons_succ, List.getElem_cons_zero, List.setIfInBounds_toArray, List.set_cons_zero, List.set_cons_succ]
  refine wpAnyH_take (i := 1) (oi := _) (v := ?_) rfl (by kernel_rfl) (by kernel_rfl) (by kernel_rfl) (fun _ _ _ h => h) (Or.inl ⟨by kernel_rfl, ?_⟩) hHeld ?_
  rotate_left
  · (intro w hSw; go_simp; try with_reducible rfl)
  try simp only [Act.put, List.getElem_toArray, List.getElem_cons_succ, List.getElem_cons_zero, List.setIfInBounds_toArray, List.set_cons_zero, List.set_cons_succ]
  refine wpAnyH_take (i := 2) (oi := _) (v := ?_) rfl (by kernel_rfl) (by kernel_rfl) (by kernel_rfl) (fun _ _ _ h => h) (Or.inl ⟨by kernel_rfl, ?_⟩) hHeld ?_
  rotate_left
  · (intro w hSw; go_simp; try with_reducible rfl)
  try simp only [Act.put, List.getElem_toArray, List.getElem_cons_succ, List.getElem_cons_zero, List.setIfInBounds_toArray, List.set_cons_zero, List.set_cons_succ]
  refine wpAnyH_take (i := 4) (oi := _) (v := _) rfl (by kernel_rfl) (by kernel_rfl) (by kernel_rfl) (fun _ _ _ h => h) (yieldsIf_load_mid (by kernel_rfl) _ _ rfl _ _ rfl _ _ (fun w h => h.1) Tryd.underlying26 rfl HX.out) hHeld ?_
  try simp only [Act.put, List.getElem_toArray, List.getElem_cons_succ, List.getElem_cons_zero, List.setIfInBounds_toArray, List.set_cons_zero, List.set_cons_succ]
  refine wpAnyH_ready (rs := [3]) (by kernel_rfl) (by simp) ?_
  refine AllReadyH.cons (o := _) rfl (fun K hK => ?_) AllReadyH.nil
  go_simp
  go_at_call 16
  refine (Sum_any z s _ hHeld.2.2.1 hHeld.2.1 (by omega)).mono ?_
  rintro e v1 ⟨rfl, g1⟩
  refine hK.out _ _ (hHeld.below g1) (fun hHeld => ?_)
  clear hK K
  try simp only [Act.put, List.getElem_toArray, List.getElem_cons_succ, List.getElem_cons_zero, List.setIfInBounds_toArray, List.set_cons_zero, List.set_cons_succ]
  refine wpAnyH_take (i := 5) (oi := _) (v := ?_) rfl (by kernel_rfl) (by kernel_rfl) (by kernel_rfl) (fun _ _ _ h => h) (Or.inl ⟨by kernel_rfl, ?_⟩) hHeld ?_
  rotate_left
  · (intro w hSw; go_simp; try with_reducible rfl)
  try simp only [Act.put, List.getElem_toArray, List.getElem_cons_succ, List.getElem_cons_zero, List.setIfInBounds_toArray, List.set_cons_zero, List.set_cons_succ]
  refine wpAnyH_take (i := 6) (oi := _) (v := ?_) rfl (by kernel_rfl) (by kernel_rfl) (by kernel_rfl) (fun _ _ _ h => h) (Or.inl ⟨by kernel_rfl, ?_⟩) hHeld ?_
  rotate_left
  · (intro w hSw; go_simp; try with_reducible rfl)
  try simp only [Act.put, List.getElem_toArray, List.getElem_cons_succ, List.getElem_cons_zero, List.setIfInBounds_toArray, List.set_cons_zero, List.set_cons_succ]
  refine wpAnyH_take (i := 7) (oi := _) (v := ?_) rfl (by kernel_rfl) (by kernel_rfl) (by kernel_rfl) (fun _ _ _ h => h) (Or.inl ⟨by kernel_rfl, ?_⟩) hHeld ?_
  rotate_left
  · (intro w hSw; go_simp; try with_reducible rfl)
  try simp only [Act.put, List.getElem_toArray, List.getElem_cons_succ, List.getElem_cons_zero, List.setIfInBounds_toArray, List.set_cons_zero, List.set_cons_succ]
  refine wpAnyH_take (i := 8) (oi := _) (v := ?_) rfl (by kernel_rfl) (by kernel_rfl) (by kernel_rfl) (fun _ _ _ h => h) (Or.inl ⟨by kernel_rfl, ?_⟩) hHeld ?_
  rotate_left
  · (intro w hSw; go_simp; try with_reducible rfl)
  try simp only [Act.put, List.getElem_toArray, List.getElem_cons_succ, List.getElem_cons_zero, List.setIfInBounds_toArray, List.set_cons_zero, List.set_cons_succ]
  refine wpAnyH_take (i := 9) (oi := _) (v := ?_) rfl (by kernel_rfl) (by kernel_rfl) (by kernel_rfl) (fun _ _ _ h => h) (Or.inl ⟨by kernel_rfl, ?_⟩) hHeld ?_
  rotate_left
  · (intro w hSw; go_simp; try with_reducible rfl)
  try simp only [Act.put, List.getElem_toArray, List.getElem_cons_succ, List.getElem_cons_zero, List.setIfInBounds_toArray, List.set_cons_zero, List.set_cons_succ]
  refine wpAnyH_take (i := 10) (oi := _) (v := ?_) rfl (by kernel_rfl) (by kernel_rfl) (by kernel_rfl) (fun _ _ _ h => h) (Or.inl ⟨by kernel_rfl, ?_⟩) hHeld ?_
  rotate_left
  · (intro w hSw; go_simp; try with_reducible rfl)
  try simp only [Act.put, List.getElem_toArray, List.getElem_cons_succ, List.getElem_cons_zero, List.setIfInBounds_toArray, List.set_cons_zero, List.set_cons_succ]
  refine wpAnyH_take (i := 11) (oi := _) (v := ?_) rfl (by kernel_rfl) (by kernel_rfl) (by kernel_rfl) (fun _ _ _ h => h) (Or.inl ⟨by kernel_rfl, ?_⟩) hHeld ?_
  rotate_left
  · (intro w hSw; go_simp; try with_reducible rfl)
  try simp only [Act.put, List.getElem_toArray, List.getElem_cons_succ, List.getElem_cons_zero, List.setIfInBounds_toArray, List.set_cons_zero, List.set_cons_succ]
  refine wpAnyH_take (i := 12) (oi := _) (v := ?_) rfl (by kernel_rfl) (by kernel_rfl) (by kernel_rfl) (fun _ _ _ h => h) (Or.inl ⟨by kernel_rfl, ?_⟩) hHeld ?_
  rotate_left
  · (intro w hSw; go_simp; try with_reducible rfl)
  try simp only [Act.put, List.getElem_toArray, List.getElem_cons_succ, List.getElem_cons_zero, List.setIfInBounds_toArray, List.set_cons_zero, List.set_cons_succ]
  refine wpAnyH_take (i := 13) (oi := _) (v := ?_) rfl (by kernel_rfl) (by kernel_rfl) (by kernel_rfl) (fun _ _ _ h => h) (Or.inl ⟨by kernel_rfl, ?_⟩) hHeld ?_
  rotate_left
  · (intro w hSw; go_simp; try with_reducible rfl)
  try simp only [Act.put, List.getElem_toArray, List.getElem_cons_succ, List.getElem_cons_zero, List.setIfInBounds_toArray, List.set_cons_zero, List.set_cons_succ]
  refine wpAnyH_take (i := 14) (oi := _) (v := ?_) rfl (by kernel_rfl) (by kernel_rfl) (by kernel_rfl) (fun _ _ _ h => h) (Or.inl ⟨by kernel_rfl, ?_⟩) hHeld ?_
  rotate_left
  · (intro w hSw; go_simp; try with_reducible rfl)
  try simp only [Act.put, List.getElem_toArray, List.getElem_cons_succ, List.getElem_cons_zero, List.setIfInBounds_toArray, List.set_cons_zero, List.set_cons_succ]
  refine wpAnyH_take (i := 15) (oi := _) (v := ?_) rfl (by kernel_rfl) (by kernel_rfl) (by kernel_rfl) (fun _ _ _ h => h) (Or.inl ⟨by kernel_rfl, ?_⟩) hHeld ?_
  rotate_left
  · (intro w hSw; go_simp; try with_reducible rfl)
  try simp only [Act.put, List.getElem_toArray, List.getElem_cons_succ, List.getElem_cons_zero, List.setIfInBounds_toArray, List.set_cons_zero, List.set_cons_succ]
  refine wpAnyH_take (i := 16) (oi := _) (v := ?_) rfl (by kernel_rfl) (by kernel_rfl) (by kernel_rfl) (fun _ _ _ h => h) (Or.inl ⟨by kernel_rfl, ?_⟩) hHeld ?_
  rotate_left
  · (intro w hSw; go_simp; try with_reducible rfl)
  try simp only [Act.put, List.getElem_toArray, List.getElem_cons_succ, List.getElem_cons_zero, List.setIfInBounds_toArray, List.set_cons_zero, List.set_cons_succ]
  refine wpAnyH_take (i := 17) (oi := _) (v := ?_) rfl (by kernel_rfl) (by kernel_rfl) (by kernel_rfl) (fun _ _ _ h => h) (Or.inl ⟨by kernel_rfl, ?_⟩) hHeld ?_
  rotate_left
  · (intro w hSw; go_simp; try with_reducible rfl)
  try simp only [Act.put, List.getElem_toArray, List.getElem_cons_succ, List.getElem_cons_zero, List.setIfInBounds_toArray, List.set_cons_zero, List.set_cons_succ]
  refine wpAnyH_take (i := 20) (oi := _) (v := _) rfl (by kernel_rfl) (by kernel_rfl) (by kernel_rfl) (fun _ _ _ h => h) (yieldsIf_load_mid (by kernel_rfl) _ _ rfl _ _ rfl _ _ (fun w h => h.1) Tryd.underlying26 rfl HX.out) hHeld ?_
  try simp only [Act.put, List.getElem_toArray, List.getElem_cons_succ, List.getElem_cons_zero, List.setIfInBounds_toArray, List.set_cons_zero, List.set_cons_succ]
  refine wpAnyH_ready (rs := [18]) (by kernel_rfl) (by simp) ?_
  refine AllReadyH.cons (o := _) rfl (fun K hK => ?_) AllReadyH.nil
  go_simp
  refine hK.out _ _ (hHeld.below ((Below.refl _ _).alloc (Nat.le_refl _) _)) (fun hHeld => ?_)
  clear hK K
  try simp only [Act.put, List.getElem_toArray, List.getElem_cons_succ, List.getElem_cons_zero, List.setIfInBounds_toArray, List.set_cons_zero, List.set_cons_succ]
  refine wpAnyH_ready (rs := [19]) (by kernel_rfl) (by simp) ?_
  refine AllReadyH.cons (o := _) rfl (fun K hK => ?_) AllReadyH.nil
  go_simp
  go_at_call 11
  refine (Of_any (some ⟨_, 0, none⟩) 4 4 [s.take lo, (s.take hi).drop lo, [], s.drop hi] _ hHeld.2.2.1 (strs_four (heap_alloc_new _ _)) (by decide) (by rw [HF.out]; omega)).mono ?_
  rw [HF.out]
  rintro e v2 ⟨rfl, g2⟩
  refine hK.out _ _ (hHeld.below g2) (fun hHeld => ?_)
  clear hK K
  try simp only [Act.put, List.getElem_toArray, List.getElem_cons_succ, List.getElem_cons_zero, List.setIfInBounds_toArray, List.set_cons_zero, List.set_cons_succ]
  refine wpAnyH_take (i := 21) (oi := _) (v := ?_) rfl (by kernel_rfl) (by kernel_rfl) (by kernel_rfl) (fun _ _ _ h => h) (Or.inl ⟨by kernel_rfl, ?_⟩) hHeld ?_
  rotate_left
  · (intro w hSw; go_simp; try with_reducible rfl)
  try simp only [Act.put, List.getElem_toArray, List.getElem_cons_succ, List.getElem_cons_zero, List.setIfInBounds_toArray, List.set_cons_zero, List.set_cons_succ]
  refine wpAnyH_take (i := 22) (oi := _) (v := ?_) rfl (by kernel_rfl) (by kernel_rfl) (by kernel_rfl) (fun _ _ _ h => h) (Or.inl ⟨by kernel_rfl, ?_⟩) hHeld ?_
  rotate_left
  · (intro w hSw; go_simp; try with_reducible rfl)
  try simp only [Act.put, List.getElem_toArray, List.getElem_cons_succ, List.getElem_cons_zero, List.setIfInBounds_toArray, List.set_cons_zero, List.set_cons_succ]
  refine wpAnyH_take (i := 23) (oi := _) (v := ?_) rfl (by kernel_rfl) (by kernel_rfl) (by kernel_rfl) (fun _ _ _ h => h) (Or.inl ⟨by kernel_rfl, ?_⟩) hHeld ?_
  rotate_left
  · (intro w hSw; go_simp; try with_reducible rfl)
  try simp only [Act.put, List.getElem_toArray, List.getElem_cons_succ, List.getElem_cons_zero, List.setIfInBounds_toArray, List.set_cons_zero, List.set_cons_succ]
  refine wpAnyH_take (i := 24) (oi := _) (v := ?_) rfl (by kernel_rfl) (by kernel_rfl) (by kernel_rfl) (fun _ _ _ h => h) (Or.inl ⟨by kernel_rfl, ?_⟩) hHeld ?_
  rotate_left
  · (intro w hSw; go_simp; try with_reducible rfl)
  try simp only [Act.put, List.getElem_toArray, List.getElem_cons_succ, List.getElem_cons_zero, List.setIfInBounds_toArray, List.set_cons_zero, List.set_cons_succ]
  refine wpAnyH_take (i := 26) (oi := _) (v := ?_) rfl (by kernel_rfl) (by kernel_rfl) (by kernel_rfl) (fun _ _ _ h => h) (Or.inl ⟨by kernel_rfl, ?_⟩) hHeld ?_
  rotate_left
  · (intro w hSw; go_simp; try with_reducible rfl)
  try simp only [Act.put, List.getElem_toArray, List.getElem_cons_succ, List.getElem_cons_zero, List.setIfInBounds_toArray, List.set_cons_zero, List.set_cons_succ]
  refine wpAnyH_take (i := 27) (oi := _) (v := ?_) rfl (by kernel_rfl) (by kernel_rfl) (by kernel_rfl) (fun _ _ _ h => h) (Or.inl ⟨by kernel_rfl, ?_⟩) hHeld ?_
  rotate_left
  · (intro w hSw; go_simp; try with_reducible rfl)
  try simp only [Act.put, List.getElem_toArray, List.getElem_cons_succ, List.getElem_cons_zero, List.setIfInBounds_toArray, List.set_cons_zero, List.set_cons_succ]
  refine wpAnyH_ready (rs := [25]) (by kernel_rfl) (by simp) ?_
  refine AllReadyH.cons (o := _) rfl (fun K hK => ?_) AllReadyH.nil
  go_simp
  go_at_call 17
  refine (Len_any z s _ hHeld.2.1).mono ?_
  rintro e v3 ⟨rfl, rfl⟩
  refine hK.out _ _ (hHeld) (fun hHeld => ?_)
  clear hK K
  try simp only [Act.put, List.getElem_toArray, List.getElem_cons_succ, List.getElem_cons_zero, List.setIfInBounds_toArray, List.set_cons_zero, List.set_cons_succ]
  refine wpAnyH_take (i := 28) (oi := _) (v := ?_) rfl (by kernel_rfl) (by kernel_rfl) (by kernel_rfl) (fun _ _ _ h => h) (Or.inl ⟨by kernel_rfl, ?_⟩) hHeld ?_
  rotate_left
  · (intro w hSw; go_simp; try with_reducible rfl)
  try simp only [Act.put, List.getElem_toArray, List.getElem_cons_succ, List.getElem_cons_zero, List.setIfInBounds_toArray, List.set_cons_zero, List.set_cons_succ]
  refine wpAnyH_take (i := 29) (oi := _) (v := ?_) rfl (by kernel_rfl) (by kernel_rfl) (by kernel_rfl) (fun _ _ _ h => h) (Or.inl ⟨by kernel_rfl, ?_⟩) hHeld ?_
  rotate_left
  · (intro w hSw; go_simp; try with_reducible rfl)
  try simp only [Act.put, List.getElem_toArray, List.getElem_cons_succ, List.getElem_cons_zero, List.setIfInBounds_toArray, List.set_cons_zero, List.set_cons_succ]
  refine wpAnyH_take (i := 30) (oi := _) (v := ?_) rfl (by kernel_rfl) (by kernel_rfl) (by kernel_rfl) (fun _ _ _ h => h) (Or.inl ⟨by kernel_rfl, ?_⟩) hHeld ?_
  rotate_left
  · (intro w hSw; go_simp; try with_reducible rfl)
  try simp only [Act.put, List.getElem_toArray, List.getElem_cons_succ, List.getElem_cons_zero, List.setIfInBounds_toArray, List.set_cons_zero, List.set_cons_succ]
  refine wpAnyH_done (by kernel_rfl) ?_ _
  go_wp2
  go_ret
  exact ⟨rfl, hHeld.2.2.2.1⟩
end
open Go.ChangeShapes Go.WideShapes Go.ChangeAt
set_option maxRecDepth 100000 in
theorem lifted (os : Os) (started : os.Started) (H : Type) (enc : TypeId × Value → H) :
    ReturnsInHanded {} Tryd.checked os 5 .any (fun w args => (Rows.hashCutsSpec.pre enc Tryd.prog Tryd.f5 [] false w args ∧ laidMetH Tryd.prog laid2 w) ∧ sizedMet enc Tryd.prog Tryd.f5 (OpenSpec.ofChange Rows.hashCutsSpec) false w args)
      (Rows.hashCutsSpec.post enc Tryd.prog Tryd.f5 false true false false) := by
  refine returnsInHanded_of_change_and (C := Tryd.checked) (X := fun w _ => laidMetH Tryd.prog laid2 w) (fun _ _ _ hh h => h.of_heap hh) own started (by kernel_rfl) Tryd.func5
    (ChangeSpec.witness_shaped (enc := enc) (C := Tryd.checked) (os := os) (X := fun w _ => laidMetH Tryd.prog laid2 w) false (World.doorLaid Tryd.prog 19 os) #[.string ⟨#[]⟩, .agg #[.int .i64 0, .int .i64 0]] 8 rfl (World.shaped_of_RefB (by kernel_rfl) (by kernel_rfl)) (by kernel_rfl) (by kernel_rfl) (by kernel_rfl) (door_met os _)) ?_
  intro W base args ds gs before hval0 hW _ _ hL _
  have hval : ∀ (j : Nat) t v, Tryd.f5.params[j]? = some t → args[j]? = some v → Value.okWide Tryd.prog W .any base t v := hval0
  have hW' := hW
  obtain ⟨p, q, hA0, hV, rfl, hfz, hnd⟩ := hW
  have hA : DataW.TrodAll enc Tryd.prog W 0 (fun _ => true) true Tryd.f5.params.toList args.toList ds p := hA0
  rw [Tryd.params5] at hA hval
  obtain ⟨v0, vs0, d0, ds0, p0, q0, hargs, rfl, rfl, h0, r0⟩ := trodAll_cons hA
  obtain ⟨v1, vs1, d1, ds1, p1, q1, rfl, rfl, rfl, h1, r1⟩ := trodAll_cons r0
  obtain ⟨rfl, rfl, rfl⟩ := trodAll_nil r1
  obtain rfl : args = #[v0, v1] := by cases args; simp_all
  obtain ⟨rfl, rfl⟩ := trodVars_none hV
  have k0 := h0
  have lt0 : ∀ x ∈ p0, x.block < W.heap.size := by obtain ⟨m, hm⟩ := k0; exact DataW.trod_lt m _ _ _ hm
  have k1 := h1
  have lt1 : ∀ x ∈ p1, x.block < W.heap.size := by obtain ⟨m, hm⟩ := k1; exact DataW.trod_lt m _ _ _ hm
  obtain ⟨lx0, rfl, hlx0⟩ := op_str (hval 0 9 v0 rfl rfl) h0
  obtain ⟨nx1, mx1, rfl, lox1, hix1, lpx1, hpx1⟩ := op_ints2 (hval 1 41 v1 rfl rfl) h1
  clear hA0 hval0
  refine (walk lx0 nx1 mx1 W (tabs_of_laid hL) hlx0 lox1 hix1 lpx1 hpx1).mono fun e W' ⟨he, bel⟩ => ?_
  subst he
  exact ⟨_, rfl, _, _, _, [], _, [], hW', trodAll_mk1 (shut_bool Tryd.underlying4 _), trodAll_cons_mk (Below.trod laidOut (by kernel_rfl) (of_decide_eq_true (by kernel_rfl)) k0 bel lt0) (trodAll_cons_mk (Below.trod laidOut (by kernel_rfl) (of_decide_eq_true (by kernel_rfl)) k1 bel lt1) (trodAll_mk0)), rfl, bel.frame _, fun h => by cases h⟩

theorem over : Rows.hashCutsRow.holds Tryd.pinned (OpenSpec.ofChange Rows.hashCutsSpec) :=
  OpenClaim.holds_of_wide 5 Tryd.f5 rfl rfl rfl rfl rfl rfl rfl ⟨rfl, rfl, rfl, rfl, rfl⟩ rfl rfl rfl rfl rfl (by kernel_rfl) Tryd.func5 (by kernel_rfl)
    (of_decide_eq_true (by kernel_rfl)) (by unfold Func.isWrapper; first | (rw [if_pos (by decide +kernel)]; kernel_rfl) | (rw [if_neg (by decide +kernel)]; exact ⟨rfl, rfl⟩))
    (fun os started H enc _ => lifted os started H enc)

/-- The tied card. -/
theorem proved : Rows.HashCutsCardSaid :=
  Claim7.holds_tied_plain_at .later [] [.data, .data] true (true, "03d2147273bc31851921d1247ff289d037061bb95fe5285976d93eb25e02cce8") false
    over (fun _ h => by cases h) (by kernel_rfl) (fun _ h => by cases h) hashCuts_row_tie rfl ⟨rfl, rfl⟩ (by kernel_rfl) rfl
    (fun f fn hf hfn => by
      obtain rfl : f = 5 := Option.some.inj ((show Tryd.prog.funcNamed "twinspan/twinspanlaw02.HashCuts" = some 5 by kernel_rfl).symm.trans hf) |>.symm
      obtain rfl : fn = Tryd.f5 := (Option.some.inj (Tryd.func5.symm.trans hfn)).symm
      exact ⟨by kernel_rfl, fun j t ht => by
        rw [Tryd.params5] at ht
        rcases j with _ | _ |  j
        · obtain rfl : 9 = t := by simpa using ht
          exact (show Tryd.prog.wantsStandIn 9 = false by kernel_rfl)
        · obtain rfl : 41 = t := by simpa using ht
          exact (show Tryd.prog.wantsStandIn 41 = false by kernel_rfl)
        · simp at ht⟩)
    (by kernel_rfl)
end Go.Proofs.YtjabbddgjbejbaaDoor.hashCuts
