/- A key and its hash, if it is long, seal alike, and so do a short one and it with a byte 0 behind: for every key and text the law SealKeys returns true, and its arguments read afterwards as they read before. The tables that the program's text lays are tied to it by the card. No condition. -/
import Derived.Test.YtlplgpmadfmjjaaDoorRows
import Derived.WalkKit
import Derived.Below
import Derived.ProofKit
import Derived.OpenShut
import Derived.ShutString
import Derived.ChangeOld
import Derived.Outline
import Derived.RegionTactic
import Derived.ChangeAlike
import Derived.BigRegion
import Derived.BigQuiet
import Derived.Deep.QuietTactic
import Derived.Deep.RegionWith
import Derived.Deep.RegionLaw
import Derived.Deep.RegionHeld3
import Derived.Deep.AppendLies
import Derived.Deep.Draws
import Derived.StillTailTactics
import Derived.Lib.Hide
import Derived.Lib.SmallJoins
import Derived.Handy
import Derived.Stop.BytesEq
import Derived.WalkSpells
import Derived.WalkLawsBesides
import Derived.Deep.LoopGhost
import Derived.Deep.DeepCutAuto
import Derived.Laws.CopyOwn
import Derived.Deep.OwnRows
import Derived.Test.YtlplgpmadfmjjaaDoorSealF
namespace Go.Proofs.YtlplgpmadfmjjaaDoor.sealKeys
open Go.RowKit
set_option linter.unusedSimpArgs false
set_option linter.unusedVariables false
theorem shortK_sha (key : List UInt8) (h : 64 < key.length) : blkK (sha key) = blkK key := by
  unfold blkK shortK
  rw [if_pos h, if_neg (by rw [sha_len]; omega)]
theorem blkK_zero (key : List UInt8) (h : key.length < 64) : blkK (key ++ [0]) = blkK key := by
  unfold blkK shortK
  rw [if_neg (by simp; omega), if_neg (by omega)]
  unfold padB
  rw [List.append_assoc, show 64 - key.length = (64 - (key ++ [0]).length) + 1 from by simp; omega, List.replicate_succ]
  rfl
section
attribute [local go_sem] eqIn26 guard26 sha_len hmac_len hmac_len' ext_list app_list
set_option maxHeartbeats 4000000 in
set_option maxRecDepth 100000 in
theorem walk (lk ls : List UInt8) (W : World) (ht : Tabs W) (_hk : lk.length ≤ maxLen) (_hs : ls.length ≤ maxLen) : Calls Tryd.prog 5 #[.string ⟨lk.toArray⟩, .string ⟨ls.toArray⟩] W fun e w' => e = .returned (.bool true) ∧ Below W.heap.size W w' := by
  clear _hk _hs
  go_enter Tryd.func5, Tryd.ntmps5
  go_wp2_with fail
  refine (awake3_any W ht).mono ?_
  rintro e w1 ⟨rfl, g1⟩
  have hS1 : Std [] W w1 := (Std.start ht).below g1
  clear g1
  go_wp2_with fail
  refine (short_any lk 150 _ (by omega)).mono ?_
  rintro e w2 ⟨rfl, rfl⟩
  have hk : (lk.take 150).length ≤ 150 := List.length_take_le _ _
  generalize lk.take 150 = key at *
  go_wp2_with fail
  refine (short_any ls 100 _ (by omega)).mono ?_
  rintro e w2 ⟨rfl, rfl⟩
  have hs : (ls.take 100).length ≤ 100 := List.length_take_le _ _
  generalize ls.take 100 = s at *
  obtain ⟨V, hV⟩ : ∃ V, hmac key s = V := ⟨_, rfl⟩
  have hv32 : V.length = 32 := by rw [← hV, hmac_len']
  have HV := Lib.hid hV
  clear hV
  have happ : ByteArray.mk key.toArray ++ ByteArray.mk #[0] = ⟨(key ++ [0]).toArray⟩ := app_list key [0]
  have hi63 : ¬ (9223372036854775807 < key.length + 1) := by omega
  rcases (show 64 < key.length ∨ key.length = 64 ∨ key.length < 64 by omega) with h | h | h
  · have h1 : (64 : Int) < key.length := by omega
    have h2 : ((key.length : Int) == 64) = false := by simp; omega
    have HB := Lib.hid (show hmac (sha key) s = V from by rw [← HV.out, hmac, hmac, shortK_sha key h])
    go_wp2_with fail
    refine (quick_any key w1 (by omega)).mono ?_
    rintro e w2 ⟨rfl, g2⟩
    have hS2 := hS1.below g2
    clear g2 hS1
    go_wp2_with fail
    refine (refText_any (sha key) w2 (sha_len _)).mono ?_
    rintro e w3 ⟨rfl, g3⟩
    have hS3 := hS2.below g3
    clear g3 hS2
    go_wp2_with fail
    refine (sealOf_any key s V w3 HV.out hS3.1 (by omega) (by omega)).mono ?_
    rintro e w4 ⟨rfl, g4⟩
    have hS4 := hS3.below g4
    clear g4 hS3
    go_wp2_with fail
    refine (sealOf_any (sha key) s V w4 HB.out hS4.1 (by rw [sha_len]; decide) (by omega)).mono ?_
    rintro e w5 ⟨rfl, g5⟩
    have hS5 := hS4.below g5
    clear g5 hS4
    go_wp2
    go_ret
    exact ⟨rfl, hS5.2.2⟩
  · have h1 : (key.length : Int) ≤ 64 := by omega
    have h2 : ((key.length : Int) == 64) = true := by simp; omega
    go_wp2_with fail
    refine (sealOf_any key s V w1 HV.out hS1.1 (by omega) (by omega)).mono ?_
    rintro e w4 ⟨rfl, g4⟩
    have hS4 := hS1.below g4
    clear g4 hS1
    go_wp2_with fail
    refine (ref3Of_any key s V w4 HV.out (by omega) (by omega)).mono ?_
    rintro e w5 ⟨rfl, g5⟩
    have hS5 := hS4.below g5
    clear g5 hS4
    go_wp2
    go_ret
    exact ⟨rfl, hS5.2.2⟩
  · have h1 : (key.length : Int) ≤ 64 := by omega
    have h2 : ((key.length : Int) == 64) = false := by simp; omega
    have HB := Lib.hid (show hmac (key ++ [0]) s = V from by rw [← HV.out, hmac, hmac, blkK_zero key h])
    go_wp2_with fail
    refine (sealOf_any key s V w1 HV.out hS1.1 (by omega) (by omega)).mono ?_
    rintro e w4 ⟨rfl, g4⟩
    have hS4 := hS1.below g4
    clear g4 hS1
    go_wp2_with fail
    refine (sealOf_any (key ++ [0]) s V w4 HB.out hS4.1 (by simp; omega) (by omega)).mono ?_
    rintro e w5 ⟨rfl, g5⟩
    have hS5 := hS4.below g5
    clear g5 hS4
    go_wp2
    go_ret
    exact ⟨rfl, hS5.2.2⟩
end
open Go.ChangeShapes Go.WideShapes Go.ChangeAt
set_option maxRecDepth 100000 in
theorem lifted (os : Os) (started : os.Started) (H : Type) (enc : TypeId × Value → H) :
    ReturnsInHanded {} Tryd.checked os 5 .any (fun w args => (Rows.sealKeysSpec.pre enc Tryd.prog Tryd.f5 [] false w args ∧ laidMetH Tryd.prog laid2 w) ∧ sizedMet enc Tryd.prog Tryd.f5 (OpenSpec.ofChange Rows.sealKeysSpec) false w args)
      (Rows.sealKeysSpec.post enc Tryd.prog Tryd.f5 false true false false) := by
  refine returnsInHanded_of_change_and (C := Tryd.checked) (X := fun w _ => laidMetH Tryd.prog laid2 w) (fun _ _ _ hh h => h.of_heap hh) own started (by kernel_rfl) Tryd.func5
    (ChangeSpec.witness_shaped (enc := enc) (C := Tryd.checked) (os := os) (X := fun w _ => laidMetH Tryd.prog laid2 w) false (World.doorLaid Tryd.prog 19 os) #[.string ⟨#[]⟩, .string ⟨#[]⟩] 8 rfl (World.shaped_of_RefB (by kernel_rfl) (by kernel_rfl)) (by kernel_rfl) (by kernel_rfl) (by kernel_rfl) (door_met os _)) ?_
  intro W base args ds gs before hval0 hW _ _ hL _
  have hval : ∀ (j : Nat) t v, Tryd.f5.params[j]? = some t → args[j]? = some v → Value.okWide Tryd.prog W .any base t v := hval0
  have hW' := hW
  obtain ⟨p, q, hA0, hV, rfl, hfz, hnd⟩ := hW
  have hA : DataW.TrodAll enc Tryd.prog W 0 (fun _ => true) true Tryd.f5.params.toList args.toList ds p := hA0
  rw [Tryd.params5] at hA hval
  obtain ⟨v0, vs0, d0, ds0, p0, q0, hargs, rfl, rfl, h0, r0⟩ := trodAll_cons hA
  obtain ⟨v1, vs1, d1, ds1, p1, q1, rfl, rfl, rfl, h1, r1⟩ := trodAll_cons r0
  obtain ⟨rfl, rfl, rfl⟩ := trodAll_nil r1
  obtain rfl : args = #[v0, v1] := by cases args; simp_all
  obtain ⟨rfl, rfl⟩ := trodVars_none hV
  have k0 := h0
  have lt0 : ∀ x ∈ p0, x.block < W.heap.size := by obtain ⟨m, hm⟩ := k0; exact DataW.trod_lt m _ _ _ hm
  have k1 := h1
  have lt1 : ∀ x ∈ p1, x.block < W.heap.size := by obtain ⟨m, hm⟩ := k1; exact DataW.trod_lt m _ _ _ hm
  obtain ⟨lx0, rfl, hlx0⟩ := op_str (hval 0 9 v0 rfl rfl) h0
  obtain ⟨lx1, rfl, hlx1⟩ := op_str (hval 1 9 v1 rfl rfl) h1
  clear hA0 hval0
  refine (walk lx0 lx1 W (tabs_of_laid hL) hlx0 hlx1).mono fun e W' ⟨he, bel⟩ => ?_
  subst he
  exact ⟨_, rfl, _, _, _, [], _, [], hW', trodAll_mk1 (shut_bool Tryd.underlying4 _), trodAll_cons_mk (Below.trod laidOut (by kernel_rfl) (of_decide_eq_true (by kernel_rfl)) k0 bel lt0) (trodAll_cons_mk (Below.trod laidOut (by kernel_rfl) (of_decide_eq_true (by kernel_rfl)) k1 bel lt1) (trodAll_mk0)), rfl, bel.frame _, fun h => by cases h⟩

theorem over : Rows.sealKeysRow.holds Tryd.pinned (OpenSpec.ofChange Rows.sealKeysSpec) :=
  OpenClaim.holds_of_wide 5 Tryd.f5 rfl rfl rfl rfl rfl rfl rfl ⟨rfl, rfl, rfl, rfl, rfl⟩ rfl rfl rfl rfl rfl (by kernel_rfl) Tryd.func5 (by kernel_rfl)
    (of_decide_eq_true (by kernel_rfl)) (by unfold Func.isWrapper; first | (rw [if_pos (by decide +kernel)]; kernel_rfl) | (rw [if_neg (by decide +kernel)]; exact ⟨rfl, rfl⟩))
    (fun os started H enc _ => lifted os started H enc)

/-- The tied card. -/
theorem proved : Rows.SealKeysCardSaid :=
  Claim7.holds_tied_plain_at .later [] [.data, .data] true (true, "cf8c549a664086f2c1f88effd52ca5db19390736799c403a59525156a7bf8306") false
    over (fun _ h => by cases h) (by kernel_rfl) (fun _ h => by cases h) sealKeys_row_tie rfl ⟨rfl, rfl⟩ (by kernel_rfl) rfl
    (fun f fn hf hfn => by
      obtain rfl : f = 5 := Option.some.inj ((show Tryd.prog.funcNamed "twinspan/twinspanlaw03.SealKeys" = some 5 by kernel_rfl).symm.trans hf) |>.symm
      obtain rfl : fn = Tryd.f5 := (Option.some.inj (Tryd.func5.symm.trans hfn)).symm
      exact ⟨by kernel_rfl, fun j t ht => by
        rw [Tryd.params5] at ht
        rcases j with _ | _ |  j
        · obtain rfl : 9 = t := by simpa using ht
          exact (show Tryd.prog.wantsStandIn 9 = false by kernel_rfl)
        · obtain rfl : 9 = t := by simpa using ht
          exact (show Tryd.prog.wantsStandIn 9 = false by kernel_rfl)
        · simp at ht⟩)
    (by kernel_rfl)
end Go.Proofs.YtlplgpmadfmjjaaDoor.sealKeys

