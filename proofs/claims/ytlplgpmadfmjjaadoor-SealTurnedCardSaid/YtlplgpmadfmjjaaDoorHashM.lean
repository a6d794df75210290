import Derived.Test.YtlplgpmadfmjjaaDoorRows
import Derived.WalkKit
import Derived.Below
import Derived.ProofKit
import Derived.OpenShut
import Derived.ShutString
import Derived.ChangeOld
import Derived.Outline
import Derived.RegionTactic
import Derived.ChangeAlike
import Derived.BigRegion
import Derived.BigQuiet
import Derived.Deep.QuietTactic
import Derived.Deep.RegionWith
import Derived.Deep.RegionLaw
import Derived.Deep.RegionHeld3
import Derived.Deep.AppendLies
import Derived.Deep.Draws
import Derived.StillTailTactics
import Derived.Lib.Hide
import Derived.Lib.SmallJoins
import Derived.Handy
import Derived.Stop.BytesEq
import Derived.WalkSpells
import Derived.WalkLawsBesides
import Derived.Deep.LoopGhost
import Derived.Deep.DeepCutAuto
import Derived.Laws.CopyOwn
import Derived.SevenTiedAt
import Derived.Test.YtlplgpmadfmjjaaDoorHashL
import Derived.Test.YtlplgpmadfmjjaaDoorCards
import Derived.Test.YtlplgpmadfmjjaaDoorTie
namespace Go.Proofs.YtlplgpmadfmjjaaDoor
open Go.RowKit
set_option linter.unusedSimpArgs false
set_option linter.unusedVariables false
theorem eqIn26 (w : World) (x y : List UInt8) (hx : x.length = 32) (hy : y.length = 32) : (Op.equalIn 10000 23 (.agg (bcells x).toArray) (.agg (bcells y).toArray)).run Tryd.prog w = .ok (x == y) w :=
  run_equalIn_bytes w 9998 23 5 32 Tryd.underlying23 Tryd.underlying5 sz1 x y hx hy
/-- One text in a block of its own. -/
theorem strs_one {w : World} {b : Nat} {l : List UInt8} {t : TypeId} {fr : Nat × Nat} (h : w.heap[b]? = some (.cells #[.string ⟨l.toArray⟩] t fr)) : StrsAt w w.heap.size (some ⟨b, 0, none⟩) 1 [l] := by
  refine ⟨rfl, fun _ => ⟨b, 0, rfl, ?_, fun k m hk => ?_⟩⟩
  · rcases Nat.lt_or_ge b w.heap.size with hlt | hge
    · exact hlt
    · rw [Array.getElem?_eq_none hge] at h; cases h
  · match k, hk with
    | 0, hk =>
      obtain rfl : l = m := by simpa using hk
      exact cell_of_row _ _ _ _ _ _ h
theorem sha_one (l : List UInt8) : sha [l].flatten = sha l := by simp
end Go.Proofs.YtlplgpmadfmjjaaDoor
