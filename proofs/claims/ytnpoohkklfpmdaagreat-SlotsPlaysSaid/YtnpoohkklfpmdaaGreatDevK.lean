/- Devices that go on, as plain data. -/
import Derived.Test.YtnpoohkklfpmdaaGreatRows
import Derived.WalkKit
import Derived.Below
import Derived.ProofKit
import Derived.OpenShut
import Derived.ShutString
import Derived.ChangeOld
import Derived.Outline
import Derived.RegionTactic
import Derived.ChangeAlike
import Derived.BigRegion
import Derived.BigQuiet
import Derived.Deep.QuietTactic
import Derived.Deep.RegionWith
import Derived.Deep.RegionLaw
import Derived.Deep.RegionHeld3
import Derived.Deep.AppendLies
import Derived.Deep.Draws
import Derived.StillTailTactics
import Derived.Lib.Hide
import Derived.Lib.SmallJoins
import Derived.Handy
import Derived.WalkSpells
import Derived.WalkLawsBesides
import Derived.Deep.LoopGhost
import Derived.Deep.DeepCutAuto
import Derived.Deep.CutBlock
import Derived.Deep.CutRange
import Derived.Deep.OwnRows
import Derived.Laws.CopyOwn
import Derived.Test.YtnpoohkklfpmdaaGreatDevDoc
namespace Go.Proofs.YtnpoohkklfpmdaaGreat
open Go.RowKit
set_option linter.unusedSimpArgs false
set_option linter.unusedVariables false
set_option linter.unnecessarySimpa false
/-- A device that goes on: there is power, so many steps have happened, it is armed with so many left, or not armed. -/
structure Going (d : Dv) (n : Nat) (ar : Bool) (left steps m : Nat) : Prop where
  on : d.on = true
  armed : d.armed = ar
  left : d.left = left
  steps : d.steps = steps
  ok : d.Ok
  waits : d.waits.length ≤ m
  safe : d.safe.length = n
section
variable {d : Dv} {n left steps m : Nat} {ar : Bool}
theorem Going.few (h : Going d n ar left steps m) (h1 : left < 1048576) (h2 : steps < 1048576) (h3 : m < 1048576) (h4 : n ≤ 4096) : d.Few :=
  ⟨by rw [h.left]; exact Nat.lt_trans h1 (by decide), by rw [h.steps]; exact Nat.lt_trans h2 (by decide), Nat.lt_of_le_of_lt h.waits h3, by rw [h.safe]; exact h4⟩
theorem newD_going (n : Nat) : Going (newD n) n false 0 0 0 := ⟨rfl, rfl, rfl, rfl, newD_ok n, Nat.le_refl _, by simp [newD]⟩
theorem Going.arm (h : Going d n ar left steps m) (k : Nat) : Going (armD d k) n true k steps m := ⟨h.on, rfl, by simp [armD], h.steps, armD_ok h.ok _, h.waits, h.safe⟩
theorem Going.step (h : Going d n ar left steps m) (hl : ar = true → 0 < left) : (stepD d).2 = 0 ∧ Going (stepD d).1 n ar (if ar then left - 1 else left) (steps + 1) m := by
  have e : stepD d = (if ar then { d with left := d.left - 1, steps := d.steps + 1 } else { d with steps := d.steps + 1 }, 0) := by
    unfold stepD
    rw [h.armed]
    cases ar with
    | false => rfl
    | true => have := hl rfl; rw [if_pos rfl, if_neg (by rw [h.left]; omega)]; rfl
  rw [e]
  refine ⟨rfl, ?_⟩
  cases ar with
  | false => exact ⟨h.on, h.armed, h.left, by simp [h.steps], ⟨h.ok.safe, h.ok.waits⟩, h.waits, h.safe⟩
  | true => exact ⟨h.on, h.armed, by simp [h.left], by simp [h.steps], ⟨h.ok.safe, h.ok.waits⟩, h.waits, h.safe⟩
theorem has_nat (d : Dv) {k : Nat} (h : k < d.safe.length) : d.has (k : Int) = true := by simp [Dv.has]; omega
theorem Going.cast (h : Going d n ar left steps m) {l' m' : Nat} (hl : left = l') (hm : m ≤ m') : Going d n ar l' steps m' := ⟨h.on, h.armed, h.left.trans hl, h.steps, h.ok, Nat.le_trans h.waits hm, h.safe⟩
/-- A Write that goes. -/
theorem Going.write (h : Going d n ar left steps m) (hl : ar = true → 0 < left) (k : Nat) (s : List UInt8) (hk : k < n) (hs : s.length = 64) :
    writeD d k s = ({ (stepD d).1 with waits := d.waits ++ [(k, s)] }, 0) ∧ Going (writeD d k s).1 n ar (if ar then left - 1 else left) (steps + 1) (m + 1) := by
  obtain ⟨h1, h2⟩ := h.step hl
  have hh := has_nat d (by rw [h.safe]; exact hk)
  have e : writeD d k s = ({ (stepD d).1 with waits := d.waits ++ [(k, s)] }, 0) := by
    unfold writeD
    rw [if_pos h.on, if_pos (by simp [hh, hs]), h1]; simp
  refine ⟨e, ?_⟩
  have ok := writeD_ok h.ok k s
  rw [e] at ok ⊢
  exact ⟨h2.on, h2.armed, h2.left, h2.steps, ok, by simp; exact h.waits, h2.safe⟩
/-- A Flush that goes. -/
theorem Going.flush (h : Going d n ar left steps m) (hl : ar = true → 0 < left) :
    flushD d = ({ (stepD d).1 with safe := layW d.safe d.waits, waits := [] }, 0) ∧ Going (flushD d).1 n ar (if ar then left - 1 else left) (steps + 1) 0 := by
  obtain ⟨h1, h2⟩ := h.step hl
  have e : flushD d = ({ (stepD d).1 with safe := layW d.safe d.waits, waits := [] }, 0) := by
    unfold flushD
    rw [if_pos h.on, if_pos h1]
  refine ⟨e, ?_⟩
  have ok := flushD_ok h.ok
  rw [e] at ok ⊢
  exact ⟨h2.on, h2.armed, h2.left, h2.steps, ok, Nat.le_refl _, by simp only [layW_len]; exact h.safe⟩
theorem Going.crash (h : Going d n ar left steps m) (keep : List Bool) (torn cut : Int) : Going (crashD d keep torn cut) n false left steps 0 := ⟨rfl, rfl, h.left, h.steps, crashD_ok h.ok _ _ _, Nat.le_refl _, by rw [crashD_len h.ok]; exact h.safe⟩
end
/-- A device whose power has gone. -/
theorem off_flush {d : Dv} (h : d.on = false) : flushD d = (d, 14) := by unfold flushD; rw [h]; rfl
theorem off_read {d : Dv} (h : d.on = false) (k : Int) : readD d k = ([], 14) := by unfold readD; rw [h]; rfl
theorem off_write {d : Dv} (h : d.on = false) (k : Int) (s : List UInt8) : writeD d k s = (d, 14) := by unfold writeD; rw [h]; rfl
end Go.Proofs.YtnpoohkklfpmdaaGreat
