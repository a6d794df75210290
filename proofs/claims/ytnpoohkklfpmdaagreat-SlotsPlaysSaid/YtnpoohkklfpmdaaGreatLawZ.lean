import Derived.Test.YtnpoohkklfpmdaaGreatRows
import Derived.Test.YtnpoohkklfpmdaaGreatTlvAll
import Derived.Test.YtnpoohkklfpmdaaGreatOpeners
import Derived.ProofKit
import Derived.OpenShut
import Derived.ShutString
import Derived.ChangeOld
import Derived.Outline
import Derived.RegionTactic
import Derived.ChangeAlike
import Derived.BigRegion
import Derived.BigQuiet
import Derived.Deep.QuietTactic
import Derived.Deep.RegionWith
import Derived.Deep.RegionLaw
import Derived.Deep.AppendLies
import Derived.Deep.Draws
import Derived.Lib.Hide
import Derived.Lib.SmallJoins
import Derived.Handy
namespace Go.Proofs.YtnpoohkklfpmdaaGreat
open Go.RowKit
theorem aw1 (b : Nat) (W : World) (h : Rd W b (some [110, 0, 0, 1, 0])) : Calls Tryz.prog 66 #[.pointer (some ⟨b, 0, none⟩), .int .u8 110] W fun e w' => e = .returned (.int .u64 0) ∧ Rd w' b none ∧ Fr [b] W w' := by
  have := rdNum_any 110 (some [110, 0, 0, 1, 0]) b W h
  rw [show rdNum 110 ((some [110, 0, 0, 1, 0]).getD []) = (0, none) from by decide] at this
  exact this
theorem aw2 (W : World) : Calls Tryz.prog 51 #[.int .u8 110, .int .u64 300] W fun e w' => e = .returned (.string ⟨#[110, 0, 0, 2, 1, 44]⟩) ∧ Below W.heap.size W w' := by
  have := Num_any 110 300 W (by decide)
  rw [show fld 110 (digs 300) = [110, 0, 0, 2, 1, 44] from by decide] at this
  exact this
theorem aw3 (W : World) : Calls Tryz.prog 50 #[.int .u8 116, .string ⟨#[97, 98]⟩] W fun e w' => e = .returned (.string ⟨#[116, 0, 0, 2, 97, 98]⟩) ∧ Below W.heap.size W w' := by
  have := Text_any 116 [97, 98] W (by decide)
  rw [show fld 116 [97, 98] = [116, 0, 0, 2, 97, 98] from by decide] at this
  exact this
end Go.Proofs.YtnpoohkklfpmdaaGreat
