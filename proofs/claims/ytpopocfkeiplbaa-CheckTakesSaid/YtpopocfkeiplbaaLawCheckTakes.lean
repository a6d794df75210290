/- Records taken off any bytes, or not, beside the document's answer: for every text the law CheckTakes returns true, and its argument reads afterwards as it read before. No condition. -/
import Derived.Test.YtpopocfkeiplbaaRows
import Derived.WalkKit
import Derived.Below
import Derived.ProofKit
import Derived.OpenShut
import Derived.ShutString
import Derived.ChangeOld
import Derived.Outline
import Derived.RegionTactic
import Derived.ChangeAlike
import Derived.BigRegion
import Derived.BigQuiet
import Derived.Deep.QuietTactic
import Derived.Deep.RegionWith
import Derived.Deep.RegionLaw
import Derived.Deep.RegionHeld3
import Derived.Deep.AppendLies
import Derived.Deep.Draws
import Derived.StillTailTactics
import Derived.Lib.Hide
import Derived.Lib.SmallJoins
import Derived.Handy
import Derived.WalkSpells
import Derived.WalkLawsBesides
import Derived.Deep.LoopGhost
import Derived.Deep.DeepCutAuto
import Derived.Laws.CopyOwn
import Derived.Deep.OwnRows
import Derived.Great.BuildSlice
import Derived.Test.YtpopocfkeiplbaaCheckQ
namespace Go.Proofs.Ytpopocfkeiplbaa.checkTakes
open Go.RowKit
set_option linter.unusedSimpArgs false
set_option linter.unusedVariables false
set_option linter.unnecessarySimpa false
section
attribute [local go_sem] idx_list ext_list app_list
set_option maxHeartbeats 4000000 in
set_option maxRecDepth 100000 in
theorem walk (l : List UInt8) (W : World) (hl : l.length ≤ maxLen) : Calls Try.prog 4 #[.string ⟨l.toArray⟩] W fun e w' => e = .returned (.bool true) ∧ Below W.heap.size W w' := by
  clear hl
  go_enter Try.func4, Try.ntmps4
  go_wp2_with fail
  refine (awake5_any _).mono ?_
  rintro e w1 ⟨rfl, g1⟩
  go_wp2_with fail
  refine (short5_any l 400 _ (by decide)).mono ?_
  rintro e w2 ⟨rfl, rfl⟩
  obtain ⟨s, hs⟩ : ∃ s, s = l.take 400 := ⟨_, rfl⟩
  have hn : (s.length : Int) ≤ 400 := by rw [hs]; have := List.length_take_le 400 l; omega
  rw [show l.take (400 : Int).toNat = s from hs.symm]
  have HN := Lib.hid hn
  have HLs := Lib.hid (allP_len s)
  clear hs hn
  obtain ⟨X, n, c, hT⟩ : ∃ X n c, takP s = (X, n, c) := ⟨_, _, _, rfl⟩
  have HT := Lib.hid hT
  obtain ⟨L, m, hA⟩ : ∃ L m, allP s = (L, m) := ⟨_, _, rfl⟩
  have HA := Lib.hid hA
  clear hT hA
  go_wp2_with fail
  refine (cTake_any s _ (by have := HN.out; omega)).mono ?_
  rw [HT.out]
  rintro e w2 ⟨rfl, g2⟩
  go_wp2_with fail
  refine (refTake5_any s _ (by have := HN.out; omega)).mono ?_
  rw [HT.out]
  rintro e w3 ⟨rfl, g3⟩
  go_wp2_with fail
  refine (cAll_any s _ (by have := HN.out; omega)).mono ?_
  rw [HA.out]
  rintro e w4 ⟨⟨a, k, cp, rfl, hk, hst⟩, g4⟩
  go_wp2_with fail
  refine (refAll5_any s _ (by have := HN.out; omega)).mono ?_
  rw [HA.out]
  rintro e w5 ⟨⟨a2, k2, cp2, rfl, hk2, hst2⟩, g5⟩
  have hst5 := hst.below g5 g5.size
  have b := (((g1.trans (g2.mono g1.size)).trans (g3.mono (Nat.le_trans g1.size g2.size))).trans (g4.mono (Nat.le_trans (Nat.le_trans g1.size g2.size) g3.size)))
  have b5 := b.trans (g5.mono b.size)
  have hkb : (k : Int) ≤ 140737488351232 := by have h1 := hst.1; have h2 := HLs.out; rw [HA.out] at h2; simp only at h2; have := HN.out; omega
  clear g1 g2 g3 g4 g5 b hst
  go_wp2_with fail
  refine (Same_any a a2 k k2 cp cp2 L L _ hst5 hst2 hkb).mono ?_
  rintro e w6 ⟨rfl, g6⟩
  have b6 := b5.trans (g6.mono b5.size)
  have dL : decide (L = L) = true := decide_eq_true rfl
  clear hst5 hst2 g6 b5
  go_wp2
  go_ret
  exact ⟨rfl, b6⟩
end
open Go.ChangeShapes Go.WideShapes Go.ChangeAt
set_option maxRecDepth 100000 in
theorem lifted (os : Os) (started : os.Started) (H : Type) (enc : TypeId × Value → H) :
    ReturnsInHanded {} Try.checked os 4 .any (Rows.checkTakesSpec.pre6 enc Try.prog Try.f4 Rows.checkTakesRow.domain false) (Rows.checkTakesSpec.post enc Try.prog Try.f4 false true false false) := by
  refine returnsInHanded_of_change (C := Try.checked) own started (by kernel_rfl) Try.func4
    (ChangeSpec.witness6 (enc := enc) (C := Try.checked) false ⟨#[], #[.string ⟨#[]⟩], []⟩ 8 (by kernel_rfl) (by kernel_rfl) (by kernel_rfl) (by kernel_rfl)) ?_
  intro W base args ds gs before hval0 hW hcnd _
  have hval : ∀ (j : Nat) t v, Try.f4.params[j]? = some t → args[j]? = some v → Value.okWide Try.prog W .any base t v := hval0
  have hW' := hW
  obtain ⟨p, q, hA0, hV, rfl, hfz, hnd⟩ := hW
  have hA : DataW.TrodAll enc Try.prog W 0 (fun _ => true) true Try.f4.params.toList args.toList ds p := hA0
  rw [Try.params4] at hA hval
  obtain ⟨v0, vs0, d0, ds0, p0, q0, hargs, rfl, rfl, h0, r0⟩ := trodAll_cons hA
  obtain ⟨rfl, rfl, rfl⟩ := trodAll_nil r0
  obtain rfl : args = #[v0] := by cases args; simp_all
  obtain ⟨rfl, rfl⟩ := trodVars_none hV
  have k0 := h0
  have lt0 : ∀ x ∈ p0, x.block < W.heap.size := by obtain ⟨m, hm⟩ := k0; exact DataW.trod_lt m _ _ _ hm
  obtain ⟨lx0, rfl, hlx0⟩ := op_str (hval 0 9 v0 rfl rfl) h0
  clear hA0 hval0
  refine (walk lx0 W hlx0).mono fun e W' ⟨he, bel⟩ => ?_
  subst he
  exact ⟨_, rfl, _, _, _, [], _, [], hW', trodAll_mk1 (shut_bool Try.underlying4 _), trodAll_cons_mk (Below.trod laidOut (by kernel_rfl) (of_decide_eq_true (by kernel_rfl)) k0 bel lt0) (trodAll_mk0), rfl, bel.frame _, fun h => by cases h⟩

theorem over : Rows.checkTakesRow.holds Try.pinned (OpenSpec.ofChange Rows.checkTakesSpec) :=
  OpenClaim.holds_of_wide 4 Try.f4 rfl rfl rfl rfl rfl rfl rfl ⟨rfl, rfl, rfl, rfl, rfl⟩ rfl rfl rfl rfl rfl (by kernel_rfl) Try.func4 (by kernel_rfl)
    (of_decide_eq_true (by kernel_rfl)) (by unfold Func.isWrapper; first | (rw [if_pos (by decide +kernel)]; kernel_rfl) | (rw [if_neg (by decide +kernel)]; exact ⟨rfl, rfl⟩))
    (fun os started H enc _ => lifted os started H enc)

theorem proved : Rows.CheckTakesSaid := over
end Go.Proofs.Ytpopocfkeiplbaa.checkTakes
