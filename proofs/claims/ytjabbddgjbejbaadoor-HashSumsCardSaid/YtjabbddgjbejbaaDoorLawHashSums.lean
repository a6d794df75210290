/- A text's hash is as the words say: for every text and every number of bytes 0 behind it, the law HashSums returns true, and its arguments read afterwards as they read before. The tables that the program's text lays are tied to it by the card. No condition. -/
import Derived.Test.YtjabbddgjbejbaaDoorRows
import Derived.WalkKit
import Derived.Below
import Derived.ProofKit
import Derived.OpenShut
import Derived.ShutString
import Derived.ChangeOld
import Derived.Outline
import Derived.RegionTactic
import Derived.ChangeAlike
import Derived.BigRegion
import Derived.BigQuiet
import Derived.Deep.QuietTactic
import Derived.Deep.RegionWith
import Derived.Deep.RegionLaw
import Derived.Deep.RegionHeld3
import Derived.Deep.AppendLies
import Derived.Deep.Draws
import Derived.StillTailTactics
import Derived.Lib.Hide
import Derived.Lib.SmallJoins
import Derived.Handy
import Derived.Stop.BytesEq
import Derived.WalkSpells
import Derived.WalkLawsBesides
import Derived.Deep.LoopGhost
import Derived.Deep.DeepCutAuto
import Derived.Laws.CopyOwn
import Derived.Deep.OwnRows
import Derived.Test.YtjabbddgjbejbaaDoorHashM
import Derived.Test.YtjabbddgjbejbaaDoorRefH
namespace Go.Proofs.YtjabbddgjbejbaaDoor.hashSums
open Go.RowKit
set_option linter.unusedSimpArgs false
set_option linter.unusedVariables false
section
attribute [local go_sem] eqIn26 guard26 sha_len ext_list app_list
set_option maxHeartbeats 2000000 in
set_option maxRecDepth 100000 in
theorem walk (l : List UInt8) (z : Int) (W : World) (ht : Tabs W) (_hl : l.length ≤ maxLen) (z0 : -9223372036854775808 ≤ z) (z1 : z < 9223372036854775808) :
    Calls Tryd.prog 3 #[.string ⟨l.toArray⟩, .int .i64 z] W fun e w' => e = .returned (.bool true) ∧ Below W.heap.size W w' := by
  obtain ⟨s, hs⟩ : ∃ s, s = l.take 200 := ⟨_, rfl⟩
  have HSE := Lib.hid hs
  have hn : s.length ≤ 200 := by rw [hs]; exact List.length_take_le _ _
  clear hs
  obtain ⟨t, et⟩ : ∃ t, z.tmod 300 = t := ⟨_, rfl⟩
  have t0 : -300 < t := by have := Int.lt_tmod_of_pos z (show (0 : Int) < 300 by omega); omega
  have t1 : t < 300 := by have := Int.tmod_lt_of_pos z (show (0 : Int) < 300 by omega); omega
  go_enter Tryd.func3, Tryd.ntmps3
  go_wp2_with fail
  refine (awake_any _ ht).mono ?_
  rintro e w1 ⟨rfl, g1⟩
  have b1 := g1
  have tb1 := ht.below g1
  clear g1 ht
  go_upto_if 12 with (fail)
  go_cut [6] (fun u w' => ∃ k : Nat, k < 300 ∧ u = .int .i64 k ∧ w' = w1)
  case first =>
    by_cases h : t < 0
    · go_wp2_with fail
      go_meet
      case rel => exact ⟨(-t).toNat, by omega, by go_num, rfl⟩
    · go_wp2_with fail
      go_meet
      case rel => exact ⟨t.toNat, by omega, by go_num, rfl⟩
  case rest =>
  obtain ⟨k, hk, rfl, rfl⟩ := hcut
  clear et t0 t1
  apply_assumption
  have hmk := fun w : World => run_make_row' (P := Tryd.prog) 24 5 (.int .u8 0) 1 Tryd.underlying24 info8b rfl .i64 .i64 k (by omega) (by omega) w
  have hcv : (convert 24 9 (.slice (some ⟨wc.heap.size, 0, none⟩) k k)).run Tryd.prog ((wc.alloc (.cells (madeCells #[.int .u8 0] k) 5)).drew) = .ok (.string ⟨(List.replicate k 0).toArray⟩) ((wc.alloc (.cells (madeCells #[.int .u8 0] k) 5)).drew) := by
    have h := run_convert_bytes_back (P := Tryd.prog) ((wc.alloc (.cells (madeCells #[.int .u8 0] k) 5)).drew) 24 9 5 ⟨wc.heap.size, 0, none⟩ k (List.replicate k 0) Tryd.underlying24 Tryd.underlying5 Tryd.underlying9 (fun j hj => by
      have hadd : (⟨wc.heap.size, 0, none⟩ : Addr).add j = ⟨wc.heap.size, j, none⟩ := by unfold Addr.add; split <;> simp_all
      rw [hadd]
      have := cell_of_row _ _ j _ _ _ (heap_alloc_new wc (.cells (madeCells #[.int .u8 0] k) 5))
      refine this.trans ?_
      have hj2 : j < k := by simpa using hj
      simp [madeCells, hj2, Nat.mod_one, Value.cells])
    rw [List.length_replicate] at h
    exact h
  obtain ⟨zs, hzs⟩ : ∃ zs : List UInt8, zs = List.replicate k 0 := ⟨_, rfl⟩
  have hzl : zs.length < 300 := by rw [hzs, List.length_replicate]; exact hk
  rw [← hzs] at hcv
  clear hzs
  go_wp2
  go_region_with (go_at_call 10; refine (short_any l 200 _ (by omega)).mono ?_; rw [← HSE.out]; rintro e w2 ⟨rfl, rfl⟩)
  all_goals
    clear hmk hcv
    have b2 : Below W.heap.size W ((wc.alloc (.cells (madeCells #[.int .u8 0] k) 5)).drew) := (b1.alloc b1.size _).drew
    have t2 := tb1.below (((Below.refl _ _).alloc (Nat.le_refl _) (.cells (madeCells #[.int .u8 0] k) 5)).drew)
    generalize World.drew _ = w2 at *
    have hsl : (s ++ zs).length ≤ 500 := by rw [List.length_append]; omega
    go_wp2_with fail
    generalize s ++ zs = x at *
    have a6 : Below w2.heap.size w2 (w2.alloc (.cells #[.string ⟨x.toArray⟩] 9)) := (Below.refl _ _).alloc (Nat.le_refl _) _
    have s6 := strs_one (heap_alloc_new w2 (.cells #[.string ⟨x.toArray⟩] 9))
    refine (Of_any (some ⟨w2.heap.size, 0, none⟩) 1 1 [x] _ (t2.below a6) s6 (by decide) (by simp; omega)).mono ?_
    rw [sha_one]
    rintro e w6 ⟨rfl, g6⟩
    have b6 := (b2.trans (a6.mono b2.size)).trans (g6.mono (Nat.le_trans b2.size a6.size))
    clear a6 s6 g6 b2 t2
    go_wp2_with fail
    refine (refOf_any x w6 (by omega)).mono ?_
    rintro e w7 ⟨rfl, g7⟩
    have b7 := b6.trans (g7.mono b6.size)
    clear g7 b6
    go_wp2
    go_ret
    exact ⟨rfl, b7⟩
end
open Go.ChangeShapes Go.WideShapes Go.ChangeAt
set_option maxRecDepth 100000 in
theorem lifted (os : Os) (started : os.Started) (H : Type) (enc : TypeId × Value → H) :
    ReturnsInHanded {} Tryd.checked os 3 .any (fun w args => (Rows.hashSumsSpec.pre enc Tryd.prog Tryd.f3 [] false w args ∧ laidMetH Tryd.prog laid2 w) ∧ sizedMet enc Tryd.prog Tryd.f3 (OpenSpec.ofChange Rows.hashSumsSpec) false w args)
      (Rows.hashSumsSpec.post enc Tryd.prog Tryd.f3 false true false false) := by
  refine returnsInHanded_of_change_and (C := Tryd.checked) (X := fun w _ => laidMetH Tryd.prog laid2 w) (fun _ _ _ hh h => h.of_heap hh) own started (by kernel_rfl) Tryd.func3
    (ChangeSpec.witness_shaped (enc := enc) (C := Tryd.checked) (os := os) (X := fun w _ => laidMetH Tryd.prog laid2 w) false (World.doorLaid Tryd.prog 19 os) #[.string ⟨#[]⟩, .int .i64 0] 8 rfl (World.shaped_of_RefB (by kernel_rfl) (by kernel_rfl)) (by kernel_rfl) (by kernel_rfl) (by kernel_rfl) (door_met os _)) ?_
  intro W base args ds gs before hval0 hW _ _ hL _
  have hval : ∀ (j : Nat) t v, Tryd.f3.params[j]? = some t → args[j]? = some v → Value.okWide Tryd.prog W .any base t v := hval0
  have hW' := hW
  obtain ⟨p, q, hA0, hV, rfl, hfz, hnd⟩ := hW
  have hA : DataW.TrodAll enc Tryd.prog W 0 (fun _ => true) true Tryd.f3.params.toList args.toList ds p := hA0
  rw [Tryd.params3] at hA hval
  obtain ⟨v0, vs0, d0, ds0, p0, q0, hargs, rfl, rfl, h0, r0⟩ := trodAll_cons hA
  obtain ⟨v1, vs1, d1, ds1, p1, q1, rfl, rfl, rfl, h1, r1⟩ := trodAll_cons r0
  obtain ⟨rfl, rfl, rfl⟩ := trodAll_nil r1
  obtain rfl : args = #[v0, v1] := by cases args; simp_all
  obtain ⟨rfl, rfl⟩ := trodVars_none hV
  have k0 := h0
  have lt0 : ∀ x ∈ p0, x.block < W.heap.size := by obtain ⟨m, hm⟩ := k0; exact DataW.trod_lt m _ _ _ hm
  have k1 := h1
  have lt1 : ∀ x ∈ p1, x.block < W.heap.size := by obtain ⟨m, hm⟩ := k1; exact DataW.trod_lt m _ _ _ hm
  obtain ⟨lx0, rfl, hlx0⟩ := op_str (hval 0 9 v0 rfl rfl) h0
  obtain ⟨nx1, rfl, lox1, hix1⟩ := op_int (hval 1 3 v1 rfl rfl) h1
  clear hA0 hval0
  refine (walk lx0 nx1 W (tabs_of_laid hL) hlx0 lox1 hix1).mono fun e W' ⟨he, bel⟩ => ?_
  subst he
  exact ⟨_, rfl, _, _, _, [], _, [], hW', trodAll_mk1 (shut_bool Tryd.underlying4 _), trodAll_cons_mk (Below.trod laidOut (by kernel_rfl) (of_decide_eq_true (by kernel_rfl)) k0 bel lt0) (trodAll_cons_mk (Below.trod laidOut (by kernel_rfl) (of_decide_eq_true (by kernel_rfl)) k1 bel lt1) (trodAll_mk0)), rfl, bel.frame _, fun h => by cases h⟩

theorem over : Rows.hashSumsRow.holds Tryd.pinned (OpenSpec.ofChange Rows.hashSumsSpec) :=
  OpenClaim.holds_of_wide 3 Tryd.f3 rfl rfl rfl rfl rfl rfl rfl ⟨rfl, rfl, rfl, rfl, rfl⟩ rfl rfl rfl rfl rfl (by kernel_rfl) Tryd.func3 (by kernel_rfl)
    (of_decide_eq_true (by kernel_rfl)) (by unfold Func.isWrapper; first | (rw [if_pos (by decide +kernel)]; kernel_rfl) | (rw [if_neg (by decide +kernel)]; exact ⟨rfl, rfl⟩))
    (fun os started H enc _ => lifted os started H enc)

/-- The tied card. -/
theorem proved : Rows.HashSumsCardSaid :=
  Claim7.holds_tied_plain_at .later [] [.data, .data] true (true, "03d2147273bc31851921d1247ff289d037061bb95fe5285976d93eb25e02cce8") false
    over (fun _ h => by cases h) (by kernel_rfl) (fun _ h => by cases h) hashSums_row_tie rfl ⟨rfl, rfl⟩ (by kernel_rfl) rfl
    (fun f fn hf hfn => by
      obtain rfl : f = 3 := Option.some.inj ((show Tryd.prog.funcNamed "twinspan/twinspanlaw02.HashSums" = some 3 by kernel_rfl).symm.trans hf) |>.symm
      obtain rfl : fn = Tryd.f3 := (Option.some.inj (Tryd.func3.symm.trans hfn)).symm
      exact ⟨by kernel_rfl, fun j t ht => by
        rw [Tryd.params3] at ht
        rcases j with _ | _ |  j
        · obtain rfl : 9 = t := by simpa using ht
          exact (show Tryd.prog.wantsStandIn 9 = false by kernel_rfl)
        · obtain rfl : 3 = t := by simpa using ht
          exact (show Tryd.prog.wantsStandIn 3 = false by kernel_rfl)
        · simp at ht⟩)
    (by kernel_rfl)
end Go.Proofs.YtjabbddgjbejbaaDoor.hashSums
