/- Hashes are put in order: for every three hashes, of two one is less, or they are the same, and of three the order goes on: the law HashOrder returns true, and its arguments read afterwards as they read before. The tables that the program's text lays are tied to it by the card. No condition. -/
import Derived.Test.YtjabbddgjbejbaaDoorRows
import Derived.WalkKit
import Derived.Below
import Derived.ProofKit
import Derived.OpenShut
import Derived.ShutString
import Derived.ChangeOld
import Derived.Outline
import Derived.RegionTactic
import Derived.ChangeAlike
import Derived.BigRegion
import Derived.BigQuiet
import Derived.Deep.QuietTactic
import Derived.Deep.RegionWith
import Derived.Deep.RegionLaw
import Derived.Deep.RegionHeld3
import Derived.Deep.AppendLies
import Derived.Deep.Draws
import Derived.StillTailTactics
import Derived.Lib.Hide
import Derived.Lib.SmallJoins
import Derived.Handy
import Derived.Stop.BytesEq
import Derived.WalkSpells
import Derived.WalkLawsBesides
import Derived.Deep.LoopGhost
import Derived.Deep.DeepCutAuto
import Derived.Laws.CopyOwn
import Derived.Test.YtjabbddgjbejbaaDoorHashN
namespace Go.Proofs.YtjabbddgjbejbaaDoor.hashOrder
open Go.RowKit
set_option linter.unusedSimpArgs false
set_option linter.unusedVariables false
def OrdS (W : World) (x y z : List UInt8) (w : World) : Prop := w.rangeAt W.heap.size 0 (bcells x) ∧ w.rangeAt (W.heap.size + 1) 0 (bcells y) ∧ w.rangeAt (W.heap.size + 1 + 1) 0 (bcells z) ∧ Below W.heap.size W w ∧ W.heap.size + 1 + 1 < w.heap.size
theorem OrdS.below {W w w' : World} {x y z : List UInt8} (h : OrdS W x y z w) (hb : Below w.heap.size w w') : OrdS W x y z w' := by
  obtain ⟨a, b, c, d, e⟩ := h
  exact ⟨range_below a hb (by omega), range_below b hb (by omega), range_below c hb (by omega), d.trans (hb.mono d.size), Nat.lt_of_lt_of_le e hb.size⟩
section
attribute [local go_sem] eqIn26 guard26
set_option maxHeartbeats 4000000 in
set_option maxRecDepth 100000 in
theorem walk (x y z : List UInt8) (W : World) (ht : Tabs W) (hx : x.length = 32) (hy : y.length = 32) (hz : z.length = 32) : Calls Tryd.prog 8 #[aggB x, aggB y, aggB z] W fun e w' => e = .returned (.bool true) ∧ Below W.heap.size W w' := by
  have HX := Lib.hid (show (Tryd.prog.info? 26).map (·.size) = some (bcells x).length from by rw [bcells_len, hx]; exact info26)
  have HY := Lib.hid (show (Tryd.prog.info? 26).map (·.size) = some (bcells y).length from by rw [bcells_len, hy]; exact info26)
  have HZ := Lib.hid (show (Tryd.prog.info? 26).map (·.size) = some (bcells z).length from by rw [bcells_len, hz]; exact info26)
  have U := Lib.hid Tryd.underlying26
  go_enter Tryd.func8, Tryd.ntmps8
  go_wp2_with fail
  have hS : OrdS W x y z (((W.alloc (.cells (bcells x).toArray 26)).alloc (.cells (bcells y).toArray 26)).alloc (.cells (bcells z).toArray 26)) := by
    refine ⟨range_row (t := 26) (fr := (0, 0)) ?_, range_row (t := 26) (fr := (0, 0)) ?_, range_row (t := 26) (fr := (0, 0)) ?_, (((Below.refl _ _).alloc (Nat.le_refl _) _).alloc (by simp) _).alloc (by simp; omega) _, by simp⟩
    · rw [Below.heap_alloc _ _ _ (by simp <;> omega)]; exact heap_alloc2_old W _ _
    · rw [Below.heap_alloc _ _ _ (by simp)]; exact heap_alloc2_new W _ _
    · have := heap_alloc_new ((W.alloc (.cells (bcells x).toArray 26)).alloc (.cells (bcells y).toArray 26)) (.cells (bcells z).toArray 26)
      simpa using this
  have t0 : Tabs (((W.alloc (.cells (bcells x).toArray 26)).alloc (.cells (bcells y).toArray 26)).alloc (.cells (bcells z).toArray 26)) := ht.below hS.2.2.2.1
  generalize (((W.alloc (.cells (bcells x).toArray 26)).alloc (.cells (bcells y).toArray 26)).alloc (.cells (bcells z).toArray 26)) = w0 at *
  refine (awake_any _ t0).mono ?_
  rintro e w1 ⟨rfl, g1⟩
  have S1 := hS.below g1
  clear hS t0 g1
  obtain ⟨a1, b1, c1, _⟩ := id S1
  have hx32 : (x.length : Int) = 32 := by omega
  go_wp2_with (first
    | (refine wpList_load_g rfl 26 (.tmp 3) rfl W.heap.size rfl (bcells x) _ S1.1 U.out rfl HX.out ?_)
    | (refine wpList_load_g rfl 26 (.tmp 4) rfl (W.heap.size + 1) rfl (bcells y) _ S1.2.1 U.out rfl HY.out ?_)
    | (refine wpList_load_g rfl 26 (.tmp 5) rfl (W.heap.size + 1 + 1) rfl (bcells z) _ S1.2.2.1 U.out rfl HZ.out ?_))
  refine (Less_any x y _ hx hy).mono ?_
  rintro e w2 ⟨rfl, g2⟩
  have S2 := S1.below g2
  go_wp2_with (first
    | (refine wpList_load_g rfl 26 (.tmp 3) rfl W.heap.size rfl (bcells x) _ S2.1 U.out rfl HX.out ?_)
    | (refine wpList_load_g rfl 26 (.tmp 4) rfl (W.heap.size + 1) rfl (bcells y) _ S2.2.1 U.out rfl HY.out ?_)
    | (refine wpList_load_g rfl 26 (.tmp 5) rfl (W.heap.size + 1 + 1) rfl (bcells z) _ S2.2.2.1 U.out rfl HZ.out ?_))
  refine (Less_any y x _ hy hx).mono ?_
  rintro e w3 ⟨rfl, g3⟩
  have S3 := S2.below g3
  clear S1 S2 g2 g3 a1 b1 c1 ht
  cases hX : Op.bytesLess x y
  · cases hY : Op.bytesLess y x
    · have he : (x == y) = true := by simp [bl_tri x y hX hY]
      go_wp2_with (first
          | (refine wpList_load_g rfl 26 (.tmp 3) rfl W.heap.size rfl (bcells x) _ S3.1 U.out rfl HX.out ?_)
          | (refine wpList_load_g rfl 26 (.tmp 4) rfl (W.heap.size + 1) rfl (bcells y) _ S3.2.1 U.out rfl HY.out ?_)
          | (refine wpList_load_g rfl 26 (.tmp 5) rfl (W.heap.size + 1 + 1) rfl (bcells z) _ S3.2.2.1 U.out rfl HZ.out ?_))
      refine (Less_any x y _ hx hy).mono ?_
      rw [hX]
      rintro e w4 ⟨rfl, g4⟩
      have S9 := S3.below g4
      go_wp2_with (first
          | (refine wpList_load_g rfl 26 (.tmp 3) rfl W.heap.size rfl (bcells x) _ S9.1 U.out rfl HX.out ?_)
          | (refine wpList_load_g rfl 26 (.tmp 4) rfl (W.heap.size + 1) rfl (bcells y) _ S9.2.1 U.out rfl HY.out ?_)
          | (refine wpList_load_g rfl 26 (.tmp 5) rfl (W.heap.size + 1 + 1) rfl (bcells z) _ S9.2.2.1 U.out rfl HZ.out ?_))
      refine (Text_any x _ hx).mono ?_
      rintro e w9 ⟨rfl, g9⟩
      go_wp2
      go_ret
      exact ⟨rfl, (S9.below g9).2.2.2.1⟩
    · have he : (x == y) = false := by have := bl_ne hY; simp at this ⊢; exact fun e => this e.symm
      go_wp2_with (first
          | (refine wpList_load_g rfl 26 (.tmp 3) rfl W.heap.size rfl (bcells x) _ S3.1 U.out rfl HX.out ?_)
          | (refine wpList_load_g rfl 26 (.tmp 4) rfl (W.heap.size + 1) rfl (bcells y) _ S3.2.1 U.out rfl HY.out ?_)
          | (refine wpList_load_g rfl 26 (.tmp 5) rfl (W.heap.size + 1 + 1) rfl (bcells z) _ S3.2.2.1 U.out rfl HZ.out ?_))
      refine (Less_any x y _ hx hy).mono ?_
      rw [hX]
      rintro e w4 ⟨rfl, g4⟩
      have S9 := S3.below g4
      go_wp2_with (first
          | (refine wpList_load_g rfl 26 (.tmp 3) rfl W.heap.size rfl (bcells x) _ S9.1 U.out rfl HX.out ?_)
          | (refine wpList_load_g rfl 26 (.tmp 4) rfl (W.heap.size + 1) rfl (bcells y) _ S9.2.1 U.out rfl HY.out ?_)
          | (refine wpList_load_g rfl 26 (.tmp 5) rfl (W.heap.size + 1 + 1) rfl (bcells z) _ S9.2.2.1 U.out rfl HZ.out ?_))
      refine (Text_any x _ hx).mono ?_
      rintro e w9 ⟨rfl, g9⟩
      go_wp2
      go_ret
      exact ⟨rfl, (S9.below g9).2.2.2.1⟩
  · have hY := bl_asym x y hX
    have he := bl_ne hX
    go_wp2_with (first
        | (refine wpList_load_g rfl 26 (.tmp 3) rfl W.heap.size rfl (bcells x) _ S3.1 U.out rfl HX.out ?_)
        | (refine wpList_load_g rfl 26 (.tmp 4) rfl (W.heap.size + 1) rfl (bcells y) _ S3.2.1 U.out rfl HY.out ?_)
        | (refine wpList_load_g rfl 26 (.tmp 5) rfl (W.heap.size + 1 + 1) rfl (bcells z) _ S3.2.2.1 U.out rfl HZ.out ?_))
    refine (Less_any x y _ hx hy).mono ?_
    rw [hX]
    rintro e w4 ⟨rfl, g4⟩
    have S4 := S3.below g4
    go_wp2_with (first
        | (refine wpList_load_g rfl 26 (.tmp 3) rfl W.heap.size rfl (bcells x) _ S4.1 U.out rfl HX.out ?_)
        | (refine wpList_load_g rfl 26 (.tmp 4) rfl (W.heap.size + 1) rfl (bcells y) _ S4.2.1 U.out rfl HY.out ?_)
        | (refine wpList_load_g rfl 26 (.tmp 5) rfl (W.heap.size + 1 + 1) rfl (bcells z) _ S4.2.2.1 U.out rfl HZ.out ?_))
    refine (Less_any y z _ hy hz).mono ?_
    cases hYZ : Op.bytesLess y z
    · rintro e w5 ⟨rfl, g5⟩
      have S9 := S4.below g5
      go_wp2_with (first
          | (refine wpList_load_g rfl 26 (.tmp 3) rfl W.heap.size rfl (bcells x) _ S9.1 U.out rfl HX.out ?_)
          | (refine wpList_load_g rfl 26 (.tmp 4) rfl (W.heap.size + 1) rfl (bcells y) _ S9.2.1 U.out rfl HY.out ?_)
          | (refine wpList_load_g rfl 26 (.tmp 5) rfl (W.heap.size + 1 + 1) rfl (bcells z) _ S9.2.2.1 U.out rfl HZ.out ?_))
      refine (Text_any x _ hx).mono ?_
      rintro e w9 ⟨rfl, g9⟩
      go_wp2
      go_ret
      exact ⟨rfl, (S9.below g9).2.2.2.1⟩
    · rintro e w5 ⟨rfl, g5⟩
      have S5 := S4.below g5
      have hXZ := bl_trans x y z hX hYZ
      go_wp2_with (first
          | (refine wpList_load_g rfl 26 (.tmp 3) rfl W.heap.size rfl (bcells x) _ S5.1 U.out rfl HX.out ?_)
          | (refine wpList_load_g rfl 26 (.tmp 4) rfl (W.heap.size + 1) rfl (bcells y) _ S5.2.1 U.out rfl HY.out ?_)
          | (refine wpList_load_g rfl 26 (.tmp 5) rfl (W.heap.size + 1 + 1) rfl (bcells z) _ S5.2.2.1 U.out rfl HZ.out ?_))
      refine (Less_any x z _ hx hz).mono ?_
      rw [hXZ]
      rintro e w6 ⟨rfl, g6⟩
      have S9 := S5.below g6
      go_wp2_with (first
          | (refine wpList_load_g rfl 26 (.tmp 3) rfl W.heap.size rfl (bcells x) _ S9.1 U.out rfl HX.out ?_)
          | (refine wpList_load_g rfl 26 (.tmp 4) rfl (W.heap.size + 1) rfl (bcells y) _ S9.2.1 U.out rfl HY.out ?_)
          | (refine wpList_load_g rfl 26 (.tmp 5) rfl (W.heap.size + 1 + 1) rfl (bcells z) _ S9.2.2.1 U.out rfl HZ.out ?_))
      refine (Text_any x _ hx).mono ?_
      rintro e w9 ⟨rfl, g9⟩
      go_wp2
      go_ret
      exact ⟨rfl, (S9.below g9).2.2.2.1⟩
end
open Go.ChangeShapes Go.WideShapes Go.ChangeAt
set_option maxRecDepth 100000 in
theorem lifted (os : Os) (started : os.Started) (H : Type) (enc : TypeId × Value → H) :
    ReturnsInHanded {} Tryd.checked os 8 .any (fun w args => (Rows.hashOrderSpec.pre enc Tryd.prog Tryd.f8 [] false w args ∧ laidMetH Tryd.prog laid2 w) ∧ sizedMet enc Tryd.prog Tryd.f8 (OpenSpec.ofChange Rows.hashOrderSpec) false w args)
      (Rows.hashOrderSpec.post enc Tryd.prog Tryd.f8 false true false false) := by
  refine returnsInHanded_of_change_and (C := Tryd.checked) (X := fun w _ => laidMetH Tryd.prog laid2 w) (fun _ _ _ hh h => h.of_heap hh) own started (by kernel_rfl) Tryd.func8
    (ChangeSpec.witness_shaped (enc := enc) (C := Tryd.checked) (os := os) (X := fun w _ => laidMetH Tryd.prog laid2 w) false (World.doorLaid Tryd.prog 19 os) #[.agg #[.int .u8 0, .int .u8 0, .int .u8 0, .int .u8 0, .int .u8 0, .int .u8 0, .int .u8 0, .int .u8 0, .int .u8 0, .int .u8 0, .int .u8 0, .int .u8 0, .int .u8 0, .int .u8 0, .int .u8 0, .int .u8 0, .int .u8 0, .int .u8 0, .int .u8 0, .int .u8 0, .int .u8 0, .int .u8 0, .int .u8 0, .int .u8 0, .int .u8 0, .int .u8 0, .int .u8 0, .int .u8 0, .int .u8 0, .int .u8 0, .int .u8 0, .int .u8 0], .agg #[.int .u8 0, .int .u8 0, .int .u8 0, .int .u8 0, .int .u8 0, .int .u8 0, .int .u8 0, .int .u8 0, .int .u8 0, .int .u8 0, .int .u8 0, .int .u8 0, .int .u8 0, .int .u8 0, .int .u8 0, .int .u8 0, .int .u8 0, .int .u8 0, .int .u8 0, .int .u8 0, .int .u8 0, .int .u8 0, .int .u8 0, .int .u8 0, .int .u8 0, .int .u8 0, .int .u8 0, .int .u8 0, .int .u8 0, .int .u8 0, .int .u8 0, .int .u8 0], .agg #[.int .u8 0, .int .u8 0, .int .u8 0, .int .u8 0, .int .u8 0, .int .u8 0, .int .u8 0, .int .u8 0, .int .u8 0, .int .u8 0, .int .u8 0, .int .u8 0, .int .u8 0, .int .u8 0, .int .u8 0, .int .u8 0, .int .u8 0, .int .u8 0, .int .u8 0, .int .u8 0, .int .u8 0, .int .u8 0, .int .u8 0, .int .u8 0, .int .u8 0, .int .u8 0, .int .u8 0, .int .u8 0, .int .u8 0, .int .u8 0, .int .u8 0, .int .u8 0]] 8 rfl (World.shaped_of_RefB (by kernel_rfl) (by kernel_rfl)) (by kernel_rfl) (by kernel_rfl) (by kernel_rfl) (door_met os _)) ?_
  intro W base args ds gs before hval0 hW _ _ hL _
  have hval : ∀ (j : Nat) t v, Tryd.f8.params[j]? = some t → args[j]? = some v → Value.okWide Tryd.prog W .any base t v := hval0
  have hW' := hW
  obtain ⟨p, q, hA0, hV, rfl, hfz, hnd⟩ := hW
  have hA : DataW.TrodAll enc Tryd.prog W 0 (fun _ => true) true Tryd.f8.params.toList args.toList ds p := hA0
  rw [Tryd.params8] at hA hval
  obtain ⟨v0, vs0, d0, ds0, p0, q0, hargs, rfl, rfl, h0, r0⟩ := trodAll_cons hA
  obtain ⟨v1, vs1, d1, ds1, p1, q1, rfl, rfl, rfl, h1, r1⟩ := trodAll_cons r0
  obtain ⟨v2, vs2, d2, ds2, p2, q2, rfl, rfl, rfl, h2, r2⟩ := trodAll_cons r1
  obtain ⟨rfl, rfl, rfl⟩ := trodAll_nil r2
  obtain rfl : args = #[v0, v1, v2] := by cases args; simp_all
  obtain ⟨rfl, rfl⟩ := trodVars_none hV
  have k0 := h0
  have lt0 : ∀ x ∈ p0, x.block < W.heap.size := by obtain ⟨m, hm⟩ := k0; exact DataW.trod_lt m _ _ _ hm
  have k1 := h1
  have lt1 : ∀ x ∈ p1, x.block < W.heap.size := by obtain ⟨m, hm⟩ := k1; exact DataW.trod_lt m _ _ _ hm
  have k2 := h2
  have lt2 : ∀ x ∈ p2, x.block < W.heap.size := by obtain ⟨m, hm⟩ := k2; exact DataW.trod_lt m _ _ _ hm
  obtain ⟨xx0, rfl, hx0⟩ := op_hash (hval 0 26 v0 rfl rfl) h0
  obtain ⟨xx1, rfl, hx1⟩ := op_hash (hval 1 26 v1 rfl rfl) h1
  obtain ⟨xx2, rfl, hx2⟩ := op_hash (hval 2 26 v2 rfl rfl) h2
  clear hA0 hval0
  refine (walk xx0 xx1 xx2 W (tabs_of_laid hL) hx0 hx1 hx2).mono fun e W' ⟨he, bel⟩ => ?_
  subst he
  exact ⟨_, rfl, _, _, _, [], _, [], hW', trodAll_mk1 (shut_bool Tryd.underlying4 _), trodAll_cons_mk (Below.trod laidOut (by kernel_rfl) (of_decide_eq_true (by kernel_rfl)) k0 bel lt0) (trodAll_cons_mk (Below.trod laidOut (by kernel_rfl) (of_decide_eq_true (by kernel_rfl)) k1 bel lt1) (trodAll_cons_mk (Below.trod laidOut (by kernel_rfl) (of_decide_eq_true (by kernel_rfl)) k2 bel lt2) (trodAll_mk0))), rfl, bel.frame _, fun h => by cases h⟩

theorem over : Rows.hashOrderRow.holds Tryd.pinned (OpenSpec.ofChange Rows.hashOrderSpec) :=
  OpenClaim.holds_of_wide 8 Tryd.f8 rfl rfl rfl rfl rfl rfl rfl ⟨rfl, rfl, rfl, rfl, rfl⟩ rfl rfl rfl rfl rfl (by kernel_rfl) Tryd.func8 (by kernel_rfl)
    (of_decide_eq_true (by kernel_rfl)) (by unfold Func.isWrapper; first | (rw [if_pos (by decide +kernel)]; kernel_rfl) | (rw [if_neg (by decide +kernel)]; exact ⟨rfl, rfl⟩))
    (fun os started H enc _ => lifted os started H enc)

/-- The tied card. -/
theorem proved : Rows.HashOrderCardSaid :=
  Claim7.holds_tied_plain_at .later [] [.data, .data] true (true, "03d2147273bc31851921d1247ff289d037061bb95fe5285976d93eb25e02cce8") false
    over (fun _ h => by cases h) (by kernel_rfl) (fun _ h => by cases h) hashOrder_row_tie rfl ⟨rfl, rfl⟩ (by kernel_rfl) rfl
    (fun f fn hf hfn => by
      obtain rfl : f = 8 := Option.some.inj ((show Tryd.prog.funcNamed "twinspan/twinspanlaw02.HashOrder" = some 8 by kernel_rfl).symm.trans hf) |>.symm
      obtain rfl : fn = Tryd.f8 := (Option.some.inj (Tryd.func8.symm.trans hfn)).symm
      exact ⟨by kernel_rfl, fun j t ht => by
        rw [Tryd.params8] at ht
        rcases j with _ | _ | _ |  j
        · obtain rfl : 26 = t := by simpa using ht
          exact (show Tryd.prog.wantsStandIn 26 = false by kernel_rfl)
        · obtain rfl : 26 = t := by simpa using ht
          exact (show Tryd.prog.wantsStandIn 26 = false by kernel_rfl)
        · obtain rfl : 26 = t := by simpa using ht
          exact (show Tryd.prog.wantsStandIn 26 = false by kernel_rfl)
        · simp at ht⟩)
    (by kernel_rfl)
end Go.Proofs.YtjabbddgjbejbaaDoor.hashOrder
