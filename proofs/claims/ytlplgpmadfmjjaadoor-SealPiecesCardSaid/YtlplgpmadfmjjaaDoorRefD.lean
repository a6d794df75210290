import Derived.Test.YtlplgpmadfmjjaaDoorRows
import Derived.WalkKit
import Derived.Below
import Derived.ProofKit
import Derived.OpenShut
import Derived.ShutString
import Derived.ChangeOld
import Derived.Outline
import Derived.RegionTactic
import Derived.ChangeAlike
import Derived.BigRegion
import Derived.BigQuiet
import Derived.Deep.QuietTactic
import Derived.Deep.RegionWith
import Derived.Deep.RegionLaw
import Derived.Deep.RegionHeld3
import Derived.Deep.AppendLies
import Derived.Deep.Draws
import Derived.StillTailTactics
import Derived.Lib.Hide
import Derived.Lib.SmallJoins
import Derived.Handy
import Derived.Stop.BytesEq
import Derived.WalkSpells
import Derived.WalkLawsBesides
import Derived.Deep.LoopGhost
import Derived.Deep.DeepCutAuto
import Derived.Laws.CopyOwn
import Derived.Test.YtlplgpmadfmjjaaDoorRefC
namespace Go.Proofs.YtlplgpmadfmjjaaDoor
open Go.RowKit
set_option linter.unusedSimpArgs false
set_option linter.unusedVariables false
set_option linter.unnecessarySimpa false
theorem NumAt.of_own {w : World} {B n : Nat} {v : Value} {l : List Nat} (h : w.ownsRow B 57 1 v n (nc l)) (hn : 0 < n) : NumAt w v l := by
  have hl : l.length = n := by have := h.1; rw [nc_len] at this; omega
  rcases h.2 with ⟨_, h0⟩ | ⟨g, cap, cur, rfl, _, hg, hnc, _, hsz, ht⟩
  · omega
  · refine ⟨g, cap, by rw [hl], ?_, fun k hk => ?_⟩
    · rcases Nat.lt_or_ge g w.heap.size with hlt | hge
      · exact hlt
      · rw [Array.getElem?_eq_none hge] at hg; cases hg
    · rw [cell_of_row w g k _ _ _ hg]
      have e : (cur.toList.take (n * 1))[k]? = (nc l)[k]? := by rw [ht]
      rw [List.getElem?_take_of_lt (by omega), nc_get hk] at e
      rw [← Array.getElem?_toList]
      exact e
theorem rep_succ (c : Nat) : nc (List.replicate c 0) ++ [.int .u64 0] = nc (List.replicate (c + 1) 0) := by
  rw [List.replicate_succ']; simp [nc]
theorem most_val (c p : Nat) : val (List.replicate c 0 ++ [p]) = p * 65536 ^ c := by
  rw [val_append, val_rep, List.length_replicate]; simp [val, Nat.mul_comm]
theorem most_dig (c p : Nat) (h : p < 65536) : Dig (List.replicate c 0 ++ [p]) := dig_of _ (by
  intro x hx
  rcases List.mem_append.1 hx with h1 | h1
  · have := List.eq_of_mem_replicate h1; omega
  · simp at h1; omega)
theorem or_bit (x j : Nat) (h : x % 2 ^ (j + 1) = 0) (hx : x < 1099511627776) (hj : j < 40) : bits .or .u64 (x : Int) (IntKind.u64.wrap (2 ^ j)) = ((x + 2 ^ j : Nat) : Int) := by
  have h40 : 2 ^ j < 2 ^ 40 := Nat.pow_lt_pow_right (by omega) hj
  have e : IntKind.u64.wrap ((2 : Int) ^ j) = ((2 ^ j : Nat) : Int) := by
    rw [show ((2 : Int) ^ j) = ((2 ^ j : Nat) : Int) from by simp, IntKind.wrap_u64]; omega
  rw [e, u64_or_nat _ _ (by omega) (by omega), nat_join (j + 1) x (2 ^ j) h (Nat.pow_lt_pow_right (by omega) (by omega))]
end Go.Proofs.YtlplgpmadfmjjaaDoor
