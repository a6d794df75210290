/- Records one behind the other, and one ahead of which a byte stands: for every two texts and every byte the law CheckTwo returns true, and its arguments read afterwards as they read before. No condition. -/
import Derived.Test.YtpopocfkeiplbaaRows
import Derived.WalkKit
import Derived.Below
import Derived.ProofKit
import Derived.OpenShut
import Derived.ShutString
import Derived.ChangeOld
import Derived.Outline
import Derived.RegionTactic
import Derived.ChangeAlike
import Derived.BigRegion
import Derived.BigQuiet
import Derived.Deep.QuietTactic
import Derived.Deep.RegionWith
import Derived.Deep.RegionLaw
import Derived.Deep.RegionHeld3
import Derived.Deep.AppendLies
import Derived.Deep.Draws
import Derived.StillTailTactics
import Derived.Lib.Hide
import Derived.Lib.SmallJoins
import Derived.Handy
import Derived.WalkSpells
import Derived.WalkLawsBesides
import Derived.Deep.LoopGhost
import Derived.Deep.DeepCutAuto
import Derived.Laws.CopyOwn
import Derived.Deep.OwnRows
import Derived.Great.BuildSlice
import Derived.Test.YtpopocfkeiplbaaCheckQ
namespace Go.Proofs.Ytpopocfkeiplbaa.checkTwo
open Go.RowKit
set_option linter.unusedSimpArgs false
set_option linter.unusedVariables false
set_option linter.unnecessarySimpa false
section
attribute [local go_sem] idx_list ext_list app_list
set_option maxHeartbeats 4000000 in
set_option maxRecDepth 100000 in
theorem walk (l m : List UInt8) (c : UInt8) (W : World) (hl : l.length ≤ maxLen) (hm : m.length ≤ maxLen) : Calls Try.prog 8 #[.string ⟨l.toArray⟩, .string ⟨m.toArray⟩, .int .u8 (c.toNat : Nat)] W fun e w' => e = .returned (.bool true) ∧ Below W.heap.size W w' := by
  obtain ⟨x, hx⟩ : ∃ x, x = l.take 80 := ⟨_, rfl⟩
  obtain ⟨y, hy⟩ : ∃ y, y = m.take 80 := ⟨_, rfl⟩
  have hxl : x.length ≤ 80 := by rw [hx]; exact List.length_take_le _ _
  have hyl : y.length ≤ 80 := by rw [hy]; exact List.length_take_le _ _
  obtain ⟨R, hR⟩ : ∃ R, R = recd x := ⟨_, rfl⟩
  obtain ⟨S, hS⟩ : ∃ S, S = recd y := ⟨_, rfl⟩
  have rl : (R.length : Int) ≤ 96 := by rw [hR]; have := (recd_len x).2; omega
  have sl : (S.length : Int) ≤ 96 := by rw [hS]; have := (recd_len y).2; omega
  have PX := Lib.hid (show putP x = (R, 0) from by rw [hR]; exact putP_ok (by omega))
  have PY := Lib.hid (show putP y = (S, 0) from by rw [hS]; exact putP_ok (by omega))
  have hA : allP (R ++ S) = ([x, y], R.length + S.length) := by
    have h := allP_all [x, y] (fun b hb => by simp at hb; rcases hb with rfl | rfl <;> omega)
    simp only [List.map_cons, List.map_nil, List.flatten_cons, List.flatten_nil, List.append_nil, ← hR, ← hS, List.length_append] at h
    exact h
  have hE : (R == S) = (x == y) := by
    rw [Bool.eq_iff_iff, beq_iff_eq, beq_iff_eq]
    constructor
    · intro e
      have h1 := takP_rec x [] (by omega)
      have h2 := takP_rec y [] (by omega)
      rw [← hR, e, ← hS] at *
      rw [h1] at h2
      exact (Prod.mk.inj h2).1
    · intro e; rw [hR, hS, e]
  have hO : c ≠ 82 → takP (c :: R) = ([], 0, 10) := fun h => takP_none (tkF_other h R)
  obtain ⟨E, hEE⟩ : ∃ E, E = (x == y) := ⟨_, rfl⟩
  rw [← hEE] at hE
  have HX := Lib.hid hx
  have HY := Lib.hid hy
  have HA := Lib.hid hA
  have HE := Lib.hid hE
  have HO := Lib.hid hO
  have HEE := Lib.hid hEE
  have hb1 := fun (w : World) (a : Addr) (k : Nat) => run_b2s1 (P := Try.prog) w 24 9 5 a k Try.underlying24 Try.underlying5 Try.underlying9
  clear hx hy hR hS hA hE hO hEE hl hm
  go_enter Try.func8, Try.ntmps8
  go_wp2_with fail
  refine (awake5_any _).mono ?_
  rintro e w1 ⟨rfl, g1⟩
  go_wp2_with fail
  refine (short5_any l 80 _ (by decide)).mono ?_
  rw [show l.take (80 : Int).toNat = x from HX.out.symm]
  rintro e w2 ⟨rfl, rfl⟩
  go_wp2_with fail
  refine (short5_any m 80 _ (by decide)).mono ?_
  rw [show m.take (80 : Int).toNat = y from HY.out.symm]
  rintro e w2 ⟨rfl, rfl⟩
  go_wp2_with fail
  refine (cPut_any x _ (by omega)).mono ?_
  rw [PX.out]
  rintro e w2 ⟨rfl, g2⟩
  have b2 := g1.trans (g2.mono g1.size)
  clear g1 g2
  go_wp2_with fail
  refine (cPut_any y _ (by omega)).mono ?_
  rw [PY.out]
  rintro e w3 ⟨rfl, g3⟩
  have b3 := b2.trans (g3.mono b2.size)
  clear b2 g3
  go_wp2_with fail
  refine (cAll_any (R ++ S) _ (by rw [List.length_append]; omega)).mono ?_
  rw [HA.out]
  rintro e w4 ⟨⟨a, k, cp, rfl, hk, hst⟩, g4⟩
  have b4 := b3.trans (g4.mono b3.size)
  clear b3 g4
  obtain rfl : k = 2 := hst.1.symm
  obtain ⟨bb, off, ea, hbl, hc⟩ := hst.2 (by omega)
  subst ea
  have z0 := hc 0 x rfl
  have z1 := hc 1 y rfl
  have ZB := Lib.hid hbl
  have Z0 := Lib.hid z0
  have Z1 := Lib.hid z1
  clear hst hc z0 z1 hbl
  go_upto_region 7 with (fail)
  have hcat : ((c :: R).length : Int) ≤ 97 := by simp; omega
  have HC := Lib.hid (show (⟨#[c]⟩ : ByteArray) ++ ⟨R.toArray⟩ = ⟨(c :: R).toArray⟩ from app_list [c] R)
  go_wp2_with fail
  obtain ⟨X3, n3, c3, h3⟩ : ∃ X n q, takP (c :: R) = (X, n, q) := ⟨_, _, _, rfl⟩
  have H3 := Lib.hid h3
  clear h3 HC hb1
  refine (cTake_any (c :: R) _ (by omega)).mono ?_
  rw [H3.out]
  rintro e w5 ⟨rfl, g5⟩
  have g45 : Below w4.heap.size w4 w5 := ((Below.refl _ _).alloc (Nat.le_refl _) _).trans (g5.mono (by simp))
  have b5 := b4.trans (g45.mono b4.size)
  have y0 : w5.cell? ⟨bb, off, none⟩ = some (.string ⟨x.toArray⟩) := (g45.cell (p := ⟨bb, off, none⟩) ZB.out).trans Z0.out
  have y1 : w5.cell? ⟨bb, off + 1, none⟩ = some (.string ⟨y.toArray⟩) := (g45.cell (p := ⟨bb, off + 1, none⟩) ZB.out).trans Z1.out
  have hE1 := HE.out
  have hE2 : (x == y) = E := HEE.out.symm
  clear g5 g45 b4 ZB Z0 Z1
  by_cases h82 : c = 82
  · subst h82
    go_wp2
    go_ret
    exact ⟨rfl, b5⟩
  · have h := HO.out h82
    rw [H3.out] at h
    obtain ⟨rfl, h4⟩ := Prod.mk.inj h
    obtain ⟨rfl, rfl⟩ := Prod.mk.inj h4
    have hc82 : ((c.toNat : Int) == 82) = false := by
      have : c.toNat ≠ 82 := fun e => h82 (UInt8.toNat_inj.1 e)
      simp; omega
    clear h h4 h82 H3 HO
    go_wp2
    go_ret
    exact ⟨rfl, b5⟩
end
open Go.ChangeShapes Go.WideShapes Go.ChangeAt
set_option maxRecDepth 100000 in
theorem lifted (os : Os) (started : os.Started) (H : Type) (enc : TypeId × Value → H) :
    ReturnsInHanded {} Try.checked os 8 .any (Rows.checkTwoSpec.pre6 enc Try.prog Try.f8 Rows.checkTwoRow.domain false) (Rows.checkTwoSpec.post enc Try.prog Try.f8 false true false false) := by
  refine returnsInHanded_of_change (C := Try.checked) own started (by kernel_rfl) Try.func8
    (ChangeSpec.witness6 (enc := enc) (C := Try.checked) false ⟨#[], #[.string ⟨#[]⟩, .string ⟨#[]⟩, .int .u8 0], []⟩ 8 (by kernel_rfl) (by kernel_rfl) (by kernel_rfl) (by kernel_rfl)) ?_
  intro W base args ds gs before hval0 hW hcnd _
  have hval : ∀ (j : Nat) t v, Try.f8.params[j]? = some t → args[j]? = some v → Value.okWide Try.prog W .any base t v := hval0
  have hW' := hW
  obtain ⟨p, q, hA0, hV, rfl, hfz, hnd⟩ := hW
  have hA : DataW.TrodAll enc Try.prog W 0 (fun _ => true) true Try.f8.params.toList args.toList ds p := hA0
  rw [Try.params8] at hA hval
  obtain ⟨v0, vs0, d0, ds0, p0, q0, hargs, rfl, rfl, h0, r0⟩ := trodAll_cons hA
  obtain ⟨v1, vs1, d1, ds1, p1, q1, rfl, rfl, rfl, h1, r1⟩ := trodAll_cons r0
  obtain ⟨v2, vs2, d2, ds2, p2, q2, rfl, rfl, rfl, h2, r2⟩ := trodAll_cons r1
  obtain ⟨rfl, rfl, rfl⟩ := trodAll_nil r2
  obtain rfl : args = #[v0, v1, v2] := by cases args; simp_all
  obtain ⟨rfl, rfl⟩ := trodVars_none hV
  have k0 := h0
  have lt0 : ∀ x ∈ p0, x.block < W.heap.size := by obtain ⟨m, hm⟩ := k0; exact DataW.trod_lt m _ _ _ hm
  have k1 := h1
  have lt1 : ∀ x ∈ p1, x.block < W.heap.size := by obtain ⟨m, hm⟩ := k1; exact DataW.trod_lt m _ _ _ hm
  have k2 := h2
  have lt2 : ∀ x ∈ p2, x.block < W.heap.size := by obtain ⟨m, hm⟩ := k2; exact DataW.trod_lt m _ _ _ hm
  obtain ⟨lx0, rfl, hlx0⟩ := op_str (hval 0 9 v0 rfl rfl) h0
  obtain ⟨lx1, rfl, hlx1⟩ := op_str (hval 1 9 v1 rfl rfl) h1
  obtain ⟨cx2, rfl⟩ := op_u8 (hval 2 5 v2 rfl rfl) h2
  clear hA0 hval0
  refine (walk lx0 lx1 cx2 W hlx0 hlx1).mono fun e W' ⟨he, bel⟩ => ?_
  subst he
  exact ⟨_, rfl, _, _, _, [], _, [], hW', trodAll_mk1 (shut_bool Try.underlying4 _), trodAll_cons_mk (Below.trod laidOut (by kernel_rfl) (of_decide_eq_true (by kernel_rfl)) k0 bel lt0) (trodAll_cons_mk (Below.trod laidOut (by kernel_rfl) (of_decide_eq_true (by kernel_rfl)) k1 bel lt1) (trodAll_cons_mk (Below.trod laidOut (by kernel_rfl) (of_decide_eq_true (by kernel_rfl)) k2 bel lt2) (trodAll_mk0))), rfl, bel.frame _, fun h => by cases h⟩

theorem over : Rows.checkTwoRow.holds Try.pinned (OpenSpec.ofChange Rows.checkTwoSpec) :=
  OpenClaim.holds_of_wide 8 Try.f8 rfl rfl rfl rfl rfl rfl rfl ⟨rfl, rfl, rfl, rfl, rfl⟩ rfl rfl rfl rfl rfl (by kernel_rfl) Try.func8 (by kernel_rfl)
    (of_decide_eq_true (by kernel_rfl)) (by unfold Func.isWrapper; first | (rw [if_pos (by decide +kernel)]; kernel_rfl) | (rw [if_neg (by decide +kernel)]; exact ⟨rfl, rfl⟩))
    (fun os started H enc _ => lifted os started H enc)

theorem proved : Rows.CheckTwoSaid := over
end Go.Proofs.Ytpopocfkeiplbaa.checkTwo
