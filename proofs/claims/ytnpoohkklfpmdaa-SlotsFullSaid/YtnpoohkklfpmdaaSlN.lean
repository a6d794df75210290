/- How long a record is. -/
import Derived.Test.YtnpoohkklfpmdaaRows
import Derived.WalkKit
import Derived.Below
import Derived.ProofKit
import Derived.OpenShut
import Derived.ShutString
import Derived.ChangeOld
import Derived.Outline
import Derived.RegionTactic
import Derived.ChangeAlike
import Derived.BigRegion
import Derived.BigQuiet
import Derived.Deep.QuietTactic
import Derived.Deep.RegionWith
import Derived.Deep.RegionLaw
import Derived.Deep.RegionHeld3
import Derived.Deep.AppendLies
import Derived.Deep.Draws
import Derived.StillTailTactics
import Derived.Lib.Hide
import Derived.Lib.SmallJoins
import Derived.Handy
import Derived.WalkSpells
import Derived.WalkLawsBesides
import Derived.Deep.LoopGhost
import Derived.Deep.DeepCutAuto
import Derived.Deep.CutBlock
import Derived.Deep.CutRange
import Derived.Deep.OwnRows
import Derived.Laws.CopyOwn
import Derived.Great.BuildSlice
import Derived.Test.YtnpoohkklfpmdaaSlW
namespace Go.Proofs.Ytnpoohkklfpmdaa
open Go.RowKit
set_option linter.unusedSimpArgs false
set_option linter.unusedVariables false
set_option linter.unnecessarySimpa false
theorem dgF_few (k : Nat) : ∀ f m acc, m < 256 ^ k → (dgF f m acc).length ≤ acc.length + k := by
  induction k with
  | zero =>
    intro f m acc h
    have : m = 0 := by simpa using h
    subst this
    cases f <;> simp [dgF]
  | succ k ih =>
    intro f m acc h
    cases f with
    | zero => simp [dgF]
    | succ f =>
      unfold dgF
      split
      · omega
      · have := ih f (m / 256) (UInt8.ofNat m :: acc) (by rw [Nat.pow_succ] at h; omega)
        simp at this; omega
theorem dgF_ge : ∀ f m acc, acc.length ≤ (dgF f m acc).length := by
  intro f
  induction f with
  | zero => intro m acc; simp [dgF]
  | succ f ih =>
    intro m acc
    unfold dgF
    split
    · omega
    · have := ih (m / 256) (UInt8.ofNat m :: acc); simp at this; omega
theorem digs_pos {n : Nat} (h : 0 < n) : 1 ≤ (digs n).length := by
  unfold digs dgF
  split
  · omega
  · have := dgF_ge 7 (n / 256) (UInt8.ofNat n :: []); simpa using this
theorem digs_4 {n : Nat} (h : n < 4294967296) : (digs n).length ≤ 4 := by
  have := dgF_few 4 8 n [] (by simpa using h)
  simpa [digs] using this
theorem bsum_le (l : List UInt8) : bsum l ≤ 255 * l.length := by
  induction l with
  | nil => simp [bsum]
  | cons c l ih => rw [bsum_cons, List.length_cons]; have := c.toNat_lt; omega
/-- A record of 80 bytes at most is 9 to 12 bytes longer. -/
theorem recd_near (l : List UInt8) (h : l.length ≤ 80) : l.length + 9 ≤ (recd l).length ∧ (recd l).length ≤ l.length + 12 := by
  have h1 := bsum_le (fld 82 l)
  have h2 : 82 ≤ bsum (fld 82 l) := by rw [fld, bsum_cons]; have : (82 : UInt8).toNat = 82 := rfl; omega
  rw [fld_len] at h1
  have h3 := adl_one (fld 82 l)
  have h4 : 0 < sumN (fld 82 l) := by unfold sumN; omega
  have h5 := digs_pos h4
  have h6 := digs_4 (sumN_lt (fld 82 l))
  simp only [recd, List.length_append, fld_len]; omega
end Go.Proofs.Ytnpoohkklfpmdaa
