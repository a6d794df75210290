/- The walk of SlotsNil, over whatever keeps to the interface. -/
import Derived.Test.YtnpoohkklfpmdaaRows
import Derived.WalkKit
import Derived.Below
import Derived.ProofKit
import Derived.OpenShut
import Derived.ShutString
import Derived.ChangeOld
import Derived.Outline
import Derived.RegionTactic
import Derived.ChangeAlike
import Derived.BigRegion
import Derived.BigQuiet
import Derived.Deep.QuietTactic
import Derived.Deep.RegionWith
import Derived.Deep.RegionLaw
import Derived.Deep.RegionHeld3
import Derived.Deep.AppendLies
import Derived.Deep.Draws
import Derived.StillTailTactics
import Derived.Lib.Hide
import Derived.Lib.SmallJoins
import Derived.Handy
import Derived.WalkSpells
import Derived.WalkLawsBesides
import Derived.Deep.LoopGhost
import Derived.Deep.DeepCutAuto
import Derived.Deep.CutBlock
import Derived.Deep.CutRange
import Derived.Deep.OwnRows
import Derived.Laws.CopyOwn
import Derived.Great.BuildSlice
import Derived.Test.YtnpoohkklfpmdaaSlPZ
import Derived.Test.YtnpoohkklfpmdaaSlW
import Derived.Test.YtnpoohkklfpmdaaDevPZ
namespace Go.Proofs.Ytnpoohkklfpmdaa.slotsNil
open Go.RowKit
set_option linter.unusedSimpArgs false
set_option linter.unusedVariables false
set_option linter.unnecessarySimpa false
attribute [local go_sem] idx_list ext_list app_list
/-- The cells of a zero log. -/
def z7 : List Value := [.pointer none, .int .i64 0, .int .i64 0, .int .i64 0, .int .i64 0, .string ⟨#[]⟩, .bool false]
theorem builtLog (w : World) : (Instr.build 49 #[]).run Try.prog w = .ok (.agg z7.toArray) w := by kernel_rfl
theorem fieldMark (w : World) : (Instr.field 23 (.agg #[.int .i64 0, .int .i64 0, .int .i64 0]) 0).run Try.prog w = .ok (.int .i64 0) w := by kernel_rfl
theorem nSectors7_any (w : World) : Calls Try.prog 27 #[.pointer none] w fun e w' => e = .returned (.int .i64 0) ∧ w = w' := by
  go_enter Try.func27, Try.ntmps27
  go_wp2
  go_ret
  exact ⟨rfl, rfl⟩
theorem nOpen_any (w : World) : Calls Try.prog 12 #[.pointer none] w fun e w' => e = .returned (.tuple #[.pointer none, .slice none 0 0, .int .i64 1]) ∧ w = w' := by
  go_enter Try.func12, Try.ntmps12
  go_wp2_with fail
  refine (nSectors7_any w).mono ?_
  rintro e w' ⟨rfl, rfl⟩
  go_wp2
  go_ret3
  exact ⟨rfl, rfl⟩
theorem nCommit_any (s : List UInt8) (w : World) : Calls Try.prog 15 #[.pointer none, .string ⟨s.toArray⟩] w fun e w' => e = .returned (.int .i64 1) ∧ w = w' := by
  go_enter Try.func15, Try.ntmps15
  go_wp2
  go_ret
  exact ⟨rfl, rfl⟩
theorem nRoom_any (w : World) : Calls Try.prog 18 #[.pointer none] w fun e w' => e = .returned (.int .i64 0) ∧ w = w' := by
  go_enter Try.func18, Try.ntmps18
  go_wp2
  go_ret
  exact ⟨rfl, rfl⟩
theorem nMark_any (w : World) : Calls Try.prog 19 #[.pointer none] w fun e w' => e = .returned (.agg #[.int .i64 0, .int .i64 0, .int .i64 0]) ∧ Below w.heap.size w w' := by
  go_enter Try.func19, Try.ntmps19
  go_wp2
  exact bodyPost_ret (v := .agg #[.int .i64 0, .int .i64 0, .int .i64 0]) (by simp [results, Try.results19, go_sem]) rfl ⟨rfl, (Below.refl _ _).alloc (Nat.le_refl _) _⟩
theorem nBroken_any (w : World) : Calls Try.prog 20 #[.pointer none] w fun e w' => e = .returned (.bool true) ∧ w = w' := by
  go_enter Try.func20, Try.ntmps20
  go_wp2
  go_ret
  exact ⟨rfl, rfl⟩
theorem zBroken_any {z : Nat} (w : World) (h : Rw w z z7 49) : Calls Try.prog 20 #[.pointer (some ⟨z, 0, none⟩)] w fun e w' => e = .returned (.bool true) ∧ w = w' := by
  have c1 := h.c 6 (v := .bool false) rfl
  clear h
  go_enter Try.func20, Try.ntmps20
  go_wp2
  go_ret
  exact ⟨rfl, rfl⟩
theorem zRoom_any {z : Nat} (w : World) (h : Rw w z z7 49) : Calls Try.prog 18 #[.pointer (some ⟨z, 0, none⟩)] w fun e w' => e = .returned (.int .i64 0) ∧ Below w.heap.size w w' := by
  have c1 := h.c 2 (v := .int .i64 0) rfl
  have c2 := h.c 4 (v := .int .i64 0) rfl
  clear h
  go_enter Try.func18, Try.ntmps18
  go_wp2
  go_quiet (fail)
  go_wp2
  go_ret
  exact ⟨rfl, below_drewN (Below.refl _ _) _⟩
theorem zCommit_any {z : Nat} (s : List UInt8) (w : World) (h : Rw w z z7 49) : Calls Try.prog 15 #[.pointer (some ⟨z, 0, none⟩), .string ⟨s.toArray⟩] w fun e w' => e = .returned (.int .i64 13) ∧ w = w' := by
  have hb := zBroken_any w h
  clear h
  go_enter Try.func15, Try.ntmps15
  go_wp2_with fail
  refine hb.mono ?_
  rintro e w' ⟨rfl, rfl⟩
  go_wp2
  go_ret
  exact ⟨rfl, rfl⟩
set_option maxHeartbeats 4000000 in
set_option maxRecDepth 100000 in
theorem walk (s : List UInt8) (W : World) : Calls Try.prog 6 #[.string ⟨s.toArray⟩] W fun e w' => e = .returned (.bool true) ∧ Below W.heap.size W w' := by
  obtain ⟨wz, hwz⟩ : ∃ wz, wz = W.alloc (.cells z7.toArray 49) := ⟨_, rfl⟩
  have hz : Rw wz W.heap.size z7 49 := by rw [hwz]; exact Rw.new W _ _
  have bz : Below W.heap.size W wz := by rw [hwz]; exact (Below.refl _ _).alloc (Nat.le_refl _) _
  obtain ⟨z, hp⟩ : ∃ z, z = W.heap.size := ⟨_, rfl⟩
  rw [← hp] at hz
  have hb := builtLog
  have hfi := fieldMark
  go_enter Try.func6, Try.ntmps6
  go_wp2_with fail
  rw [show W.alloc (.cells #[.pointer none, .int .i64 0, .int .i64 0, .int .i64 0, .int .i64 0, .string ⟨#[]⟩, .bool false] 49) = wz from hwz.symm, ← hp]
  clear hwz hp hb
  refine (nOpen_any wz).mono ?_
  rintro e w1 ⟨rfl, rfl⟩
  go_wp2_with fail
  refine (iface0.new 2 wz (by omega) (by omega)).mono ?_
  rintro e w1 ⟨⟨p, rfl, ex, hp, hn⟩, g1⟩
  have h1 := hz.below g1
  have b1 := bz.trans (g1.mono bz.size)
  clear hz bz g1
  go_wp2_with fail
  refine (sOpen_few iface0 w1 hp (by simp [newD])).mono ?_
  rintro e w2 ⟨rfl, g2⟩
  have h2 := h1.below g2
  have b2 := b1.trans (g2.mono b1.size)
  clear h1 b1 g2 hp hn
  go_wp2_with fail
  refine (short7_any s 20 w2 (by omega)).mono ?_
  rintro e w3 ⟨rfl, rfl⟩
  go_wp2_with fail
  refine (awake7_any iface0 iface7 w2).mono ?_
  rintro e w3 ⟨rfl, g3⟩
  have h3 := h2.below g3
  have b3 := b2.trans (g3.mono b2.size)
  clear h2 b2 g3
  go_wp2_with fail
  refine (nCommit_any _ w3).mono ?_
  rintro e w4 ⟨rfl, rfl⟩
  go_wp2_with fail
  refine (zCommit_any _ w3 h3).mono ?_
  rintro e w4 ⟨rfl, rfl⟩
  go_wp2_with fail
  refine (nRoom_any w3).mono ?_
  rintro e w4 ⟨rfl, rfl⟩
  go_wp2_with fail
  refine (zRoom_any w3 h3).mono ?_
  rintro e w4 ⟨rfl, g4⟩
  have h4 := h3.below g4
  have b4 := b3.trans (g4.mono b3.size)
  clear h3 b3 g4
  go_wp2_with fail
  refine (nMark_any w4).mono ?_
  rintro e w5 ⟨rfl, g5⟩
  have h5 := h4.below g5
  have b5 := b4.trans (g5.mono b4.size)
  clear h4 b4 g5
  go_wp2_with fail
  refine (nBroken_any w5).mono ?_
  rintro e w6 ⟨rfl, rfl⟩
  go_wp2_with fail
  refine (zBroken_any w5 h5).mono ?_
  rintro e w6 ⟨rfl, rfl⟩
  go_wp2
  go_ret
  exact ⟨rfl, b5⟩
end Go.Proofs.Ytnpoohkklfpmdaa.slotsNil
