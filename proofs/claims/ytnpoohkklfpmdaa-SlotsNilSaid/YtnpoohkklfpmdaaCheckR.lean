/- The document's records with sums: Sum, record, Put, Take. -/
import Derived.Test.YtnpoohkklfpmdaaRows
import Derived.WalkKit
import Derived.Below
import Derived.ProofKit
import Derived.OpenShut
import Derived.ShutString
import Derived.ChangeOld
import Derived.Outline
import Derived.RegionTactic
import Derived.ChangeAlike
import Derived.BigRegion
import Derived.BigQuiet
import Derived.Deep.QuietTactic
import Derived.Deep.RegionWith
import Derived.Deep.RegionLaw
import Derived.Deep.RegionHeld3
import Derived.Deep.AppendLies
import Derived.Deep.Draws
import Derived.StillTailTactics
import Derived.Lib.Hide
import Derived.Lib.SmallJoins
import Derived.Handy
import Derived.WalkSpells
import Derived.WalkLawsBesides
import Derived.Deep.LoopGhost
import Derived.Deep.DeepCutAuto
import Derived.Test.YtnpoohkklfpmdaaAdl
import Derived.Test.YtnpoohkklfpmdaaTlvR
namespace Go.Proofs.Ytnpoohkklfpmdaa
open Go.RowKit
set_option linter.unusedSimpArgs false
set_option linter.unusedVariables false
set_option linter.unnecessarySimpa false
section
attribute [local go_sem] idx_list ext_list app_list
theorem rdTxt_le {c : UInt8} {most : Int} {l b r : List UInt8} (h : rdTxt c most l = (b, some r)) : (b.length : Int) ≤ most := by
  unfold rdTxt at h
  split at h
  · cases h
  · split at h
    · rename_i hk
      obtain ⟨rfl, _⟩ := Prod.mk.inj h
      simpa [txtOk] using hk
    · cases h
/-- A list of texts and a number. -/
def IsAll (ls : List (List UInt8)) (n : Nat) (e : Ending) (w : World) : Prop := ∃ a m cap, e = .returned (.tuple #[.slice a m cap, .int .i64 (n : Nat)]) ∧ m ≤ cap ∧ StrsAt w w.heap.size a m ls
end
end Go.Proofs.Ytnpoohkklfpmdaa
