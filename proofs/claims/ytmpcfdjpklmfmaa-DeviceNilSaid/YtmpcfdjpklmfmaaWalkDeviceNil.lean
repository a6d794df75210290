/- The walk of DeviceNil, over whatever keeps to Iface. -/
import Derived.Test.YtmpcfdjpklmfmaaRows
import Derived.WalkKit
import Derived.Below
import Derived.ProofKit
import Derived.OpenShut
import Derived.ShutString
import Derived.ChangeOld
import Derived.Outline
import Derived.RegionTactic
import Derived.ChangeAlike
import Derived.BigRegion
import Derived.BigQuiet
import Derived.Deep.QuietTactic
import Derived.Deep.RegionWith
import Derived.Deep.RegionLaw
import Derived.Deep.RegionHeld3
import Derived.Deep.AppendLies
import Derived.Deep.Draws
import Derived.StillTailTactics
import Derived.Lib.Hide
import Derived.Lib.SmallJoins
import Derived.Handy
import Derived.WalkSpells
import Derived.WalkLawsBesides
import Derived.Deep.LoopGhost
import Derived.Deep.DeepCutAuto
import Derived.Deep.CutBlock
import Derived.Deep.CutRange
import Derived.Deep.OwnRows
import Derived.Laws.CopyOwn
import Derived.Great.BuildSlice
import Derived.Test.YtmpcfdjpklmfmaaDevN
import Derived.Test.YtmpcfdjpklmfmaaDevJ
namespace Go.Proofs.Ytmpcfdjpklmfmaa.deviceNil
open Go.RowKit
set_option linter.unusedSimpArgs false
set_option linter.unusedVariables false
set_option linter.unnecessarySimpa false
theorem builtDev (w : World) : (Instr.build 56 #[]).run Try.prog w = .ok (.agg zcs.toArray) w := by kernel_rfl
set_option maxHeartbeats 4000000 in
theorem walk (k : Int) (W : World) : Calls Try.prog 6 #[.int .i64 k] W fun e w' => e = .returned (.bool true) ∧ Below W.heap.size W w' := by
  obtain ⟨wz, hwz⟩ : ∃ wz, wz = W.alloc (.cells zcs.toArray 56) := ⟨_, rfl⟩
  have hz : Rw wz W.heap.size zcs 56 := by rw [hwz]; exact Rw.new W _ _
  have bz : Below W.heap.size W wz := by rw [hwz]; exact (Below.refl _ _).alloc (Nat.le_refl _) _
  obtain ⟨p, hp⟩ : ∃ p, p = W.heap.size := ⟨_, rfl⟩
  rw [← hp] at hz
  go_enter Try.func6, Try.ntmps6
  go_wp2_with fail
  rw [show W.alloc (.cells #[.int .i64 0, .map none, .slice none 0 0, .map none, .bool false, .bool false, .int .i64 0, .int .i64 0] 56) = wz from hwz.symm, ← hp]
  clear hwz hp
  refine (nRead_any k wz).mono ?_
  rintro e w1 ⟨rfl, rfl⟩
  go_wp2_with fail
  refine (zRead_any k hz).mono ?_
  rintro e w1 ⟨rfl, rfl⟩
  go_wp2_with fail
  refine (nArm_any k wz).mono ?_
  rintro e w1 ⟨rfl, rfl⟩
  go_wp2_with fail
  refine (nCrash_any wz).mono ?_
  rintro e w1 ⟨rfl, rfl⟩
  go_wp2_with fail
  refine (zCrash_any hz).mono ?_
  rintro e w1 ⟨rfl, rfl⟩
  go_wp2_with fail
  refine (awake6_any iface wz).mono ?_
  rintro e w1 ⟨rfl, g1⟩
  have h1 := hz.below g1
  have b1 := bz.trans (g1.mono bz.size)
  go_wp2_with fail
  refine (nWrite_any k w1).mono ?_
  rintro e w2 ⟨rfl, g2⟩
  have h2 := h1.below g2
  have b2 := b1.trans (g2.mono b1.size)
  go_wp2_with fail
  refine (nFlush_any w2).mono ?_
  rintro e w3 ⟨rfl, g3⟩
  have h3 := h2.below g3
  have b3 := b2.trans (g3.mono b2.size)
  go_wp2_with fail
  refine (zFlush_any h3).mono ?_
  rintro e w4 ⟨rfl, g4⟩
  have h4 := h3.below g4
  have b4 := b3.trans (g4.mono b3.size)
  clear hz bz g1 h1 b1 g2 h2 b2 g3 h3 b3 g4
  go_wp2_with fail
  refine (nSectors_any w4).mono ?_
  rintro e w5 ⟨rfl, rfl⟩
  go_wp2_with fail
  refine (nSteps_any w4).mono ?_
  rintro e w5 ⟨rfl, rfl⟩
  go_wp2_with fail
  refine (nWaiting_any w4).mono ?_
  rintro e w5 ⟨rfl, rfl⟩
  go_wp2_with fail
  refine (zSectors_any h4).mono ?_
  rintro e w5 ⟨rfl, rfl⟩
  go_wp2_with fail
  refine (zWaiting_any h4).mono ?_
  rintro e w5 ⟨⟨a, c, rfl⟩, g5⟩
  have h5 := h4.below g5
  have b5 := b4.trans (g5.mono b4.size)
  go_wp2_with fail
  refine (nOn_any w5).mono ?_
  rintro e w6 ⟨rfl, rfl⟩
  go_wp2_with fail
  refine (zOn_any h5).mono ?_
  rintro e w6 ⟨rfl, rfl⟩
  go_wp2_with fail
  refine (nSafe_any k w5).mono ?_
  rintro e w6 ⟨rfl, rfl⟩
  go_wp2_with fail
  refine (zSafe_any k h5).mono ?_
  rintro e w6 ⟨rfl, rfl⟩
  go_wp2
  go_ret
  exact ⟨rfl, b5⟩
end Go.Proofs.Ytmpcfdjpklmfmaa.deviceNil
