import Derived.Test.YtlplgpmadfmjjaaDoorRows
import Derived.WalkKit
import Derived.Below
import Derived.ProofKit
import Derived.OpenShut
import Derived.ShutString
import Derived.ChangeOld
import Derived.Outline
import Derived.RegionTactic
import Derived.ChangeAlike
import Derived.BigRegion
import Derived.BigQuiet
import Derived.Deep.QuietTactic
import Derived.Deep.RegionWith
import Derived.Deep.RegionLaw
import Derived.Deep.RegionHeld3
import Derived.Deep.AppendLies
import Derived.Deep.Draws
import Derived.StillTailTactics
import Derived.Lib.Hide
import Derived.Lib.SmallJoins
import Derived.Handy
import Derived.Stop.BytesEq
import Derived.WalkSpells
import Derived.WalkLawsBesides
import Derived.Deep.LoopGhost
import Derived.Deep.DeepCutAuto
import Derived.Laws.CopyOwn
import Derived.Test.YtlplgpmadfmjjaaDoorRefD
namespace Go.Proofs.YtlplgpmadfmjjaaDoor
open Go.RowKit
set_option linter.unusedSimpArgs false
set_option linter.unusedVariables false
set_option linter.unnecessarySimpa false
def p64 : List Nat := [2, 3, 5, 7, 11, 13, 17, 19, 23, 29, 31, 37, 41, 43, 47, 53, 59, 61, 67, 71, 73, 79, 83, 89, 97, 101, 103, 107, 109, 113, 127, 131, 137, 139, 149, 151, 157, 163, 167, 173, 179, 181, 191, 193, 197, 199, 211, 223, 227, 229, 233, 239, 241, 251, 257, 263, 269, 271, 277, 281, 283, 293, 307, 311]
/-- How many of them are below k. -/
def cnt (k : Nat) : Nat := (p64.filter (· < k)).length
def isP (k c : Nat) : Bool := (p64.take c).all (fun d => k % d != 0)
theorem cnt_step : ∀ k, k < 312 → 2 ≤ k → (isP k (cnt k) = true → cnt (k + 1) = cnt k + 1 ∧ p64[cnt k]? = some k) ∧ (isP k (cnt k) = false → cnt (k + 1) = cnt k) := by decide +kernel
theorem cnt_64 : ∀ k, k < 313 → (cnt k < 64 ↔ k < 312) ∧ cnt k ≤ 64 := by decide +kernel
theorem p64_two : ∀ i, i < 64 → 2 ≤ p64.getD i 0 := by decide +kernel
theorem p64_len : p64.length = 64 := by decide
theorem isP_succ (k i : Nat) (h : i < 64) : isP k (i + 1) = (isP k i && k % p64.getD i 0 != 0) := by
  have e : p64.take (i + 1) = p64.take i ++ [p64.getD i 0] := by
    rw [List.take_add_one, List.getElem?_eq_getElem (by rw [p64_len]; exact h)]
    simp [List.getD_eq_getElem?_getD, List.getElem?_eq_getElem (show i < p64.length by rw [p64_len]; exact h)]
  unfold isP
  rw [e, List.all_append]
  simp
theorem p64_take_get (c i : Nat) (h : i < c) : (p64.take c).getD i 0 = p64.getD i 0 := by
  rw [List.getD_eq_getElem?_getD, List.getElem?_take_of_lt h, ← List.getD_eq_getElem?_getD]
end Go.Proofs.YtlplgpmadfmjjaaDoor
