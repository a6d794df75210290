/- What was put is taken again, whatever stands behind: for every list of texts and every text the law CheckBack returns true, and its arguments read afterwards as they read before. No condition. -/
import Derived.Test.YtpopocfkeiplbaaRows
import Derived.WalkKit
import Derived.Below
import Derived.ProofKit
import Derived.OpenShut
import Derived.ShutString
import Derived.ChangeOld
import Derived.Outline
import Derived.RegionTactic
import Derived.ChangeAlike
import Derived.BigRegion
import Derived.BigQuiet
import Derived.Deep.QuietTactic
import Derived.Deep.RegionWith
import Derived.Deep.RegionLaw
import Derived.Deep.RegionHeld3
import Derived.Deep.AppendLies
import Derived.Deep.Draws
import Derived.StillTailTactics
import Derived.Lib.Hide
import Derived.Lib.SmallJoins
import Derived.Handy
import Derived.WalkSpells
import Derived.WalkLawsBesides
import Derived.Deep.LoopGhost
import Derived.Deep.DeepCutAuto
import Derived.Laws.CopyOwn
import Derived.Deep.OwnRows
import Derived.Great.BuildSlice
import Derived.Test.YtpopocfkeiplbaaCheckQ
namespace Go.Proofs.Ytpopocfkeiplbaa.checkBack
open Go.RowKit
set_option linter.unusedSimpArgs false
set_option linter.unusedVariables false
set_option linter.unnecessarySimpa false
section
attribute [local go_sem] idx_list ext_list app_list
set_option maxHeartbeats 4000000 in
set_option maxRecDepth 100000 in
theorem walk (a : Option Addr) (n cap : Nat) (ls : List (List UInt8)) (s : List UInt8) (W : World) (hnc : n ≤ cap) (hcm : cap ≤ maxLen) (hs : StrsAt W W.heap.size a n ls) (hsl : s.length ≤ maxLen) : Calls Try.prog 5 #[.slice a n cap, .string ⟨s.toArray⟩] W fun e w' => e = .returned (.bool true) ∧ Below W.heap.size W w' := by
  have HW := Lib.hid hs
  have HNL := Lib.hid hs.1
  obtain ⟨r, hr⟩ : ∃ r, r = s.take 30 := ⟨_, rfl⟩
  have hrl : (r.length : Int) ≤ 30 := by rw [hr]; have := List.length_take_le 30 s; omega
  have HR := Lib.hid hr
  have n9 : (n : Int) ≤ 9223372036854775807 := by unfold maxLen at hcm; omega
  obtain ⟨i0, hi, hz0, hz1, hz2⟩ := info_parts info9
  clear hs hr hcm hsl
  go_enter Try.func5, Try.ntmps5
  go_wp2_with fail
  refine (awake5_any _).mono ?_
  rintro e w1 ⟨rfl, g1⟩
  go_wp2
  go_loopg [6, 7, 8] n (fun g t m i wr => ∃ (k : Nat) (acc : List (List UInt8)), k ≤ n ∧ k ≤ 8 ∧ Hid (g + k = n) ∧ i = .int .i64 (k : Nat) ∧ Hid (acc.length = k) ∧ Hid (∀ b ∈ acc, b.length ≤ 60) ∧ t = .string ⟨(acc.map recd).flatten.toArray⟩ ∧ Hid ((acc.map recd).flatten.length ≤ 76 * k) ∧ wr.ownsRow W.heap.size 9 1 m k (strs acc) ∧ Below W.heap.size W wr)
  case atStart => exact ⟨0, [], by omega, by omega, Lib.hid (by omega), rfl, Lib.hid rfl, Lib.hid (by simp), rfl, Lib.hid (by simp), World.ownsRow_nil _ _ _ _, g1⟩
  case round =>
    clear g1
    obtain ⟨k, acc, hkn, hk8, hg, rfl, hak, HB, rfl, HL, hown, hb⟩ := hrel
    obtain ⟨A, cp, rfl⟩ := own_form hown
    obtain ⟨F, hF⟩ : ∃ F, F = (acc.map recd).flatten := ⟨_, rfl⟩
    rw [← hF] at HL
    rw [← hF]
    have hFl := HL.out
    have HF := Lib.hid hF
    clear hF
    by_cases hlt : k < n ∧ k < 8
    · obtain ⟨h1, h2⟩ := hlt
      have k8 : (k : Int) < 8 := by omega
      have kn : (k : Int) < n := by omega
      have d1 : decide (k < n) = true := decide_eq_true h1
      have d2 : decide ((k : Int) < n) = true := decide_eq_true kn
      have d3 : decide ((k : Int) < 8) = true := decide_eq_true k8
      obtain ⟨b, off, rfl, hbl, hc⟩ := HW.out.2 (by omega)
      obtain ⟨x, hx⟩ : ∃ x, ls[k]? = some x := ⟨_, List.getElem?_eq_getElem (by rw [HNL.out]; exact h1)⟩
      have c0 : wr.cell? ⟨b, off + k, none⟩ = some (.string ⟨x.toArray⟩) := (hb.cell (p := ⟨b, off + k, none⟩) hbl).trans (hc k x hx)
      obtain ⟨y, hy⟩ : ∃ y, y = x.take 60 := ⟨_, rfl⟩
      have hyl : y.length ≤ 60 := by rw [hy]; exact List.length_take_le _ _
      have HY := Lib.hid hy
      obtain ⟨R, hR⟩ : ∃ R, R = recd y := ⟨_, rfl⟩
      have rl : (R.length : Int) ≤ 76 := by rw [hR]; have := (recd_len y).2; omega
      have PY := Lib.hid (show putP y = (R, 0) from by rw [hR]; exact putP_ok (by omega))
      have TY := Lib.hid (show takP (R ++ r) = (y, R.length, 0) from by rw [hR]; exact takP_rec y r (by omega))
      have HFR := Lib.hid (show ((acc ++ [y]).map recd).flatten = F ++ R from by rw [List.map_append, List.flatten_append, HF.out, hR]; simp)
      have HB2 := Lib.hid (show ∀ q ∈ acc ++ [y], q.length ≤ 60 from fun q hq => by
        rcases List.mem_append.1 hq with h | h
        · exact HB.out q h
        · rw [List.mem_singleton.1 h]; exact hyl)
      have HL2 := Lib.hid (show (F ++ R).length ≤ 76 * (k + 1) from by rw [List.length_append]; omega)
      have HG := Lib.hid (show gk - 1 + (k + 1) = n ∧ gk - 1 < gk from by have := hg.out; omega)
      have hcat : ((F ++ R).length : Int) ≤ 700 := by rw [List.length_append]; omega
      have FI : (F.length : Int) ≤ 608 := by omega
      have HSN := Lib.hid (strs_snoc acc y)
      clear hx hc hy hR hbl
      go_wp2_with fail
      refine (short5_any x 60 _ (by decide)).mono ?_
      rw [show x.take (60 : Int).toNat = y from HY.out.symm]
      rintro e w2 ⟨rfl, rfl⟩
      clear c0
      go_wp2_with fail
      refine (cPut_any y wr (by omega)).mono ?_
      rw [PY.out]
      rintro e w2 ⟨rfl, g2⟩
      have own2 := own_below hown g2
      have b2 := hb.trans (g2.mono hb.size)
      clear hown hb g2
      go_wp2_with fail
      refine (short5_any s 30 _ (by decide)).mono ?_
      rw [show s.take (30 : Int).toNat = r from HR.out.symm]
      rintro e w3 ⟨rfl, rfl⟩
      go_wp2_with fail
      refine (cTake_any (R ++ r) w2 (by rw [List.length_append]; omega)).mono ?_
      rw [TY.out]
      rintro e w3 ⟨rfl, g3⟩
      have own3 := own_below own2 g3
      have b3 := b2.trans (g3.mono b2.size)
      have hz := b3.size
      clear own2 b2 g3
      go_wp2_with (at_builtin; refine wpList_append_own _ rfl (.tmp 65) (.tmp 67) 33 rfl W.heap.size 9 i0 (.string ⟨#[]⟩) 1 16 Try.underlying33 hi hz0 hz1 hz2 rfl (by decide) (.slice A k cp) k (strs acc) rfl (own3.alloc _) ⟨w3.heap.size, 0, none⟩ 1 1 [.string ⟨y.toArray⟩] rfl rfl (World.news_of_block (cs := #[.string ⟨y.toArray⟩]) (t := 9) (fr := (0, 0)) (heap_alloc_new w3 _)) (by simp [Value.oneCell']) (by unfold maxLen; omega) (by omega) (by simp; omega) ?_; intro v' w6 hown6 hgrow _; have b6 : Below W.heap.size W w6 := (b3.alloc hz _).grown hgrow (by simp; omega) (own_block_ge own3); rw [← HSN.out] at hown6)
      go_roundg (gk - 1)
      case measure => exact HG.out.2
      case rel => exact ⟨k + 1, acc ++ [y], by omega, by omega, Lib.hid HG.out.1, by go_num, Lib.hid (by rw [List.length_append, hak.out]; rfl), HB2, by rw [HFR.out], by rw [HFR.out]; exact HL2, hown6, b6⟩
    · have hak2 := hak.out
      subst hak2
      have hA : allP F = (acc, F.length) := by
        rw [HF.out]
        exact allP_all acc (fun q hq => by have := HB.out q hq; omega)
      have HA := Lib.hid hA
      have hst := strsAt_own hown
      have hcpp := own_cap hown
      have FI : (F.length : Int) ≤ 608 := by omega
      clear hA hown
      by_cases hkn2 : acc.length < n
      · have k8 : ¬ (acc.length : Int) < 8 := by omega
        have kI : (acc.length : Int) < n := by omega
        have d1 : decide (acc.length < n) = true := decide_eq_true hkn2
        have d2 : decide ((acc.length : Int) < n) = true := decide_eq_true kI
        have d3 : decide ((acc.length : Int) < 8) = false := decide_eq_false k8
        clear hlt hg
        go_wp2_with fail
        refine (cAll_any F wr (by omega)).mono ?_
        rw [HA.out]
        rintro e w4 ⟨⟨a4, m4, cp4, rfl, hm4, hst4⟩, g4⟩
        have b4 := hb.trans (g4.mono hb.size)
        have hstb := hst.below g4 g4.size
        have hm8 : (m4 : Int) ≤ 140737488351232 := by have := hst4.1; simp only at this; omega
        clear g4 hst hb
        go_wp2_with fail
        refine (Same_any a4 A m4 acc.length cp4 cp acc acc w4 hst4 hstb hm8).mono ?_
        rintro e w5 ⟨rfl, g5⟩
        have b5 := b4.trans (g5.mono b4.size)
        have dL : decide (acc = acc) = true := decide_eq_true rfl
        clear hst4 hstb g5 b4
        go_wp2
        go_ret
        exact ⟨rfl, b5⟩
      · have kI : ¬ (acc.length : Int) < n := by omega
        have d1 : decide (acc.length < n) = false := decide_eq_false hkn2
        have d2 : decide ((acc.length : Int) < n) = false := decide_eq_false kI
        clear hlt hg
        go_wp2_with fail
        refine (cAll_any F wr (by omega)).mono ?_
        rw [HA.out]
        rintro e w4 ⟨⟨a4, m4, cp4, rfl, hm4, hst4⟩, g4⟩
        have b4 := hb.trans (g4.mono hb.size)
        have hstb := hst.below g4 g4.size
        have hm8 : (m4 : Int) ≤ 140737488351232 := by have := hst4.1; simp only at this; omega
        clear g4 hst hb
        go_wp2_with fail
        refine (Same_any a4 A m4 acc.length cp4 cp acc acc w4 hst4 hstb hm8).mono ?_
        rintro e w5 ⟨rfl, g5⟩
        have b5 := b4.trans (g5.mono b4.size)
        have dL : decide (acc = acc) = true := decide_eq_true rfl
        clear hst4 hstb g5 b4
        go_wp2
        go_ret
        exact ⟨rfl, b5⟩
end
open Go.ChangeShapes Go.WideShapes Go.ChangeAt
set_option maxRecDepth 100000 in
theorem lifted (os : Os) (started : os.Started) (H : Type) (enc : TypeId × Value → H) :
    ReturnsInHanded {} Try.checked os 5 .any (Rows.checkBackSpec.pre6 enc Try.prog Try.f5 Rows.checkBackRow.domain false) (Rows.checkBackSpec.post enc Try.prog Try.f5 false true false false) := by
  refine returnsInHanded_of_change (C := Try.checked) own started (by kernel_rfl) Try.func5
    (ChangeSpec.witness6 (enc := enc) (C := Try.checked) false ⟨#[], #[.slice none 0 0, .string ⟨#[]⟩], []⟩ 8 (by kernel_rfl) (by kernel_rfl) (by kernel_rfl) (by kernel_rfl)) ?_
  intro W base args ds gs before hval0 hW hcnd _
  have hval : ∀ (j : Nat) t v, Try.f5.params[j]? = some t → args[j]? = some v → Value.okWide Try.prog W .any base t v := hval0
  have hW' := hW
  obtain ⟨p, q, hA0, hV, rfl, hfz, hnd⟩ := hW
  have hA : DataW.TrodAll enc Try.prog W 0 (fun _ => true) true Try.f5.params.toList args.toList ds p := hA0
  rw [Try.params5] at hA hval
  obtain ⟨v0, vs0, d0, ds0, p0, q0, hargs, rfl, rfl, h0, r0⟩ := trodAll_cons hA
  obtain ⟨v1, vs1, d1, ds1, p1, q1, rfl, rfl, rfl, h1, r1⟩ := trodAll_cons r0
  obtain ⟨rfl, rfl, rfl⟩ := trodAll_nil r1
  obtain rfl : args = #[v0, v1] := by cases args; simp_all
  obtain ⟨rfl, rfl⟩ := trodVars_none hV
  have k0 := h0
  have lt0 : ∀ x ∈ p0, x.block < W.heap.size := by obtain ⟨m, hm⟩ := k0; exact DataW.trod_lt m _ _ _ hm
  have k1 := h1
  have lt1 : ∀ x ∈ p1, x.block < W.heap.size := by obtain ⟨m, hm⟩ := k1; exact DataW.trod_lt m _ _ _ hm
  obtain ⟨ax0, nx0, kx0, lsx0, rfl, hncx0, hcmx0, hsx0⟩ := op_strs (hval 0 33 v0 rfl rfl) h0
  obtain ⟨lx1, rfl, hlx1⟩ := op_str (hval 1 9 v1 rfl rfl) h1
  clear hA0 hval0
  refine (walk ax0 nx0 kx0 lsx0 lx1 W hncx0 hcmx0 hsx0 hlx1).mono fun e W' ⟨he, bel⟩ => ?_
  subst he
  exact ⟨_, rfl, _, _, _, [], _, [], hW', trodAll_mk1 (shut_bool Try.underlying4 _), trodAll_cons_mk (Below.trod laidOut (by kernel_rfl) (of_decide_eq_true (by kernel_rfl)) k0 bel lt0) (trodAll_cons_mk (Below.trod laidOut (by kernel_rfl) (of_decide_eq_true (by kernel_rfl)) k1 bel lt1) (trodAll_mk0)), rfl, bel.frame _, fun h => by cases h⟩

theorem over : Rows.checkBackRow.holds Try.pinned (OpenSpec.ofChange Rows.checkBackSpec) :=
  OpenClaim.holds_of_wide 5 Try.f5 rfl rfl rfl rfl rfl rfl rfl ⟨rfl, rfl, rfl, rfl, rfl⟩ rfl rfl rfl rfl rfl (by kernel_rfl) Try.func5 (by kernel_rfl)
    (of_decide_eq_true (by kernel_rfl)) (by unfold Func.isWrapper; first | (rw [if_pos (by decide +kernel)]; kernel_rfl) | (rw [if_neg (by decide +kernel)]; exact ⟨rfl, rfl⟩))
    (fun os started H enc _ => lifted os started H enc)

theorem proved : Rows.CheckBackSaid := over
end Go.Proofs.Ytpopocfkeiplbaa.checkBack
