/- The walk of DeviceArmed, over whatever keeps to Iface. -/
import Derived.Test.YtmpcfdjpklmfmaaRows
import Derived.WalkKit
import Derived.Below
import Derived.ProofKit
import Derived.OpenShut
import Derived.ShutString
import Derived.ChangeOld
import Derived.Outline
import Derived.RegionTactic
import Derived.ChangeAlike
import Derived.BigRegion
import Derived.BigQuiet
import Derived.Deep.QuietTactic
import Derived.Deep.RegionWith
import Derived.Deep.RegionLaw
import Derived.Deep.RegionHeld3
import Derived.Deep.AppendLies
import Derived.Deep.Draws
import Derived.StillTailTactics
import Derived.Lib.Hide
import Derived.Lib.SmallJoins
import Derived.Handy
import Derived.WalkSpells
import Derived.WalkLawsBesides
import Derived.Deep.LoopGhost
import Derived.Deep.DeepCutAuto
import Derived.Deep.CutBlock
import Derived.Deep.CutRange
import Derived.Deep.OwnRows
import Derived.Laws.CopyOwn
import Derived.Great.BuildSlice
import Derived.Test.YtmpcfdjpklmfmaaDevJ
import Derived.Test.YtmpcfdjpklmfmaaDevK
import Derived.Test.YtmpcfdjpklmfmaaBitsLow
namespace Go.Proofs.Ytmpcfdjpklmfmaa.deviceArmed
open Go.RowKit
set_option linter.unusedSimpArgs false
set_option linter.unusedVariables false
set_option linter.unnecessarySimpa false
section
variable {PD : World → List Nat → Nat → Dv → Prop} (I : Iface PD)
include I
set_option maxHeartbeats 4000000 in
theorem walk (z : Int) (W : World) (z0 : -9223372036854775808 ≤ z) (z1 : z < 9223372036854775808) : Calls Try.prog 5 #[.int .i64 z] W fun e w' => e = .returned (.bool true) ∧ Below W.heap.size W w' := by
  obtain ⟨k, hk⟩ : ∃ k : Nat, z % 32 = (k : Int) := ⟨(z % 32).toNat, by omega⟩
  have k32 : k < 32 := by omega
  have hand : bits .and .i64 z 31 = (k : Int) := by rw [and31, hk]
  clear hk z0 z1
  go_enter Try.func5, Try.ntmps5
  go_wp2_with fail
  refine (awake6_any I W).mono ?_
  rintro e w1 ⟨rfl, g1⟩
  go_wp2_with fail
  refine (I.newH (L := []) 4 g1 (by omega) (by omega) (fun r hr => by cases hr)).mono ?_
  rintro e w2 ⟨p, rfl, h2⟩
  go_wp2_with fail
  refine (I.armH (k : Int) h2).mono ?_
  rintro e w3 ⟨rfl, h3⟩
  have q3 := (newD_going 4).arm k
  generalize armD (newD 4) (k : Int) = d3 at *
  clear h2 hand
  go_wp2
  go_loopw [6] (fun i wr => ∃ (t : Nat) (d : Dv), t ≤ k ∧ i = .int .i64 t ∧ Hd PD [] W wr p d ∧ Going d 4 true (k - t) t t) (fun i _ => k - (intOf i).toNat)
  case atStart => exact ⟨0, d3, by omega, rfl, h3, q3⟩
  case round =>
    clear h3 q3 d3
    obtain ⟨t, d, ht, rfl, hd, hq⟩ := hrel
    have hf := hq.few (by omega) (by omega) (by omega) (by omega)
    by_cases hlt : t < k
    · have tl : (t : Int) < k := by omega
      by_cases h3 : t % 3 = 2
      · have m0 : (t : Int) % 3 = 2 := by omega
        obtain ⟨e1, q1⟩ := hq.flush (fun _ => by omega)
        have E1 := Lib.hid (congrArg Prod.snd e1)
        have q2 := q1.cast (l' := k - (t + 1)) (m' := t + 1) (by simp; omega) (by omega)
        clear e1 q1
        go_wp2_with fail
        refine (I.flushH hd hf hq.ok).mono ?_
        rw [E1.out]
        rintro e w4 ⟨rfl, h4⟩
        generalize (flushD d).1 = d4 at *
        go_wp2
        go_roundw
        case rel => exact ⟨t + 1, d4, by omega, by go_num, h4, q2⟩
        case measure => simp [intOf]; omega
      · have m0 : ¬ ((t : Int) % 3 = 2) := by omega
        have m1 : ((t : Int) % 3 == 2) = false := by simp; omega
        obtain ⟨e1, q1⟩ := hq.write (fun _ => by omega) (t % 4) (sec 120) (by omega) (sec_len _)
        have E1 := Lib.hid (congrArg Prod.snd e1)
        have q2 := q1.cast (l' := k - (t + 1)) (m' := t + 1) (by simp; omega) (by omega)
        clear e1 q1
        have m4 : (t : Int) % 4 = ((t % 4 : Nat) : Int) := by omega
        have M4 := Lib.hid m4
        clear m4
        go_wp2_with fail
        refine (sector_any 120 wr).mono ?_
        rintro e w4 ⟨rfl, g4⟩
        have h4 := hd.below I g4
        go_wp2_with fail
        rw [M4.out]
        refine (I.writeH ((t % 4 : Nat) : Int) (sec 120) h4 hf hq.ok (by rw [sec_len]; decide)).mono ?_
        rw [E1.out]
        rintro e w5 ⟨rfl, h5⟩
        generalize (writeD d ((t % 4 : Nat) : Int) (sec 120)).1 = d5 at *
        go_wp2
        go_roundw
        case rel => exact ⟨t + 1, d5, by omega, by go_num, h5, q2⟩
        case measure => simp [intOf]; omega
    · obtain rfl : t = k := by omega
      have tl : ¬ ((t : Int) < t) := by omega
      have hon := hq.on
      have hst := hq.steps
      go_wp2_with fail
      refine (I.onH hd).mono ?_
      rw [hon]
      rintro e w4 ⟨rfl, rfl⟩
      go_wp2_with fail
      refine (I.stepsH hd).mono ?_
      rw [hst]
      rintro e w4 ⟨rfl, rfl⟩
      obtain ⟨d6, hd6⟩ : ∃ d6, d6 = ({ d with on := false } : Dv) := ⟨_, rfl⟩
      have es : stepD d = (d6, 14) := by unfold stepD; rw [if_pos hq.armed, if_pos (by rw [hq.left]; omega), hd6]
      have ef : flushD d = (d6, 14) := by unfold flushD; rw [if_pos hon, es]; rfl
      have o6 : d6.on = false := by rw [hd6]
      have k6 : d6.Ok := by rw [hd6]; exact ⟨hq.ok.safe, hq.ok.waits⟩
      have f6 : d6.Few := by rw [hd6]; exact ⟨hf.left, hf.steps, hf.waits, hf.safe⟩
      have s6 : d6.safe.length = 4 := by rw [hd6]; exact hq.safe
      have t6 : d6.steps = t := by rw [hd6]; exact hst
      have EF := Lib.hid ef
      clear es ef hon hst hd6
      go_wp2_with fail
      refine (I.flushH hd hf hq.ok).mono ?_
      rw [EF.out]
      rintro e w4 ⟨rfl, h4⟩
      go_wp2_with fail
      refine (I.readH 0 h4 f6 k6).mono ?_
      rw [off_read o6]
      rintro e w5 ⟨rfl, h5⟩
      go_wp2_with fail
      refine (sector_any 121 w5).mono ?_
      rintro e w6 ⟨rfl, g6⟩
      have h6 := h5.below I g6
      go_wp2_with fail
      refine (I.writeH 0 (sec 121) h6 f6 k6 (by rw [sec_len]; decide)).mono ?_
      rw [off_write o6]
      rintro e w7 ⟨rfl, h7⟩
      go_wp2_with fail
      refine (I.onH h7).mono ?_
      rw [o6]
      rintro e w8 ⟨rfl, rfl⟩
      clear h4 h5 h6 hd hq hf
      go_wp2_with fail
      refine (I.crashH none 0 0 [] 0 0 h7 f6 k6 (by omega) ⟨rfl, fun h => absurd h (by omega)⟩ (by omega) (by decide) (fun b off _ e => by cases e)).mono ?_
      have q9 : Going (crashD d6 [] 0 0) 4 false d6.left t 0 := ⟨rfl, rfl, rfl, t6, crashD_ok k6 _ _ _, Nat.le_refl _, by rw [crashD_len k6]; exact s6⟩
      have f9 : (crashD d6 [] 0 0).Few := ⟨f6.left, f6.steps, by show 0 < _; omega, by rw [crashD_len k6]; omega⟩
      generalize crashD d6 [] 0 0 = d9 at *
      rintro e w9 ⟨rfl, h9⟩
      obtain ⟨e10, q10⟩ := q9.flush (fun h => by cases h)
      have E10 := Lib.hid (congrArg Prod.snd e10)
      clear e10
      go_wp2_with fail
      refine (I.flushH h9 f9 q9.ok).mono ?_
      rw [E10.out]
      rintro e w10 ⟨rfl, h10⟩
      have s10 := q10.steps
      generalize (flushD d9).1 = d10 at *
      go_wp2_with fail
      refine (I.stepsH h10).mono ?_
      rw [s10]
      rintro e w11 ⟨rfl, rfl⟩
      have hb := h10.bel
      clear h9 h10 h7 q9 q10
      go_wp2
      go_ret
      exact ⟨rfl, hb⟩
end
end Go.Proofs.Ytmpcfdjpklmfmaa.deviceArmed
