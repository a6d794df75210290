import Derived.Test.YtlplgpmadfmjjaaDoorRows
import Derived.WalkKit
import Derived.Below
import Derived.ProofKit
import Derived.OpenShut
import Derived.ShutString
import Derived.ChangeOld
import Derived.Outline
import Derived.RegionTactic
import Derived.ChangeAlike
import Derived.BigRegion
import Derived.BigQuiet
import Derived.Deep.QuietTactic
import Derived.Deep.RegionWith
import Derived.Deep.RegionLaw
import Derived.Deep.RegionHeld3
import Derived.Deep.AppendLies
import Derived.Deep.Draws
import Derived.StillTailTactics
import Derived.Lib.Hide
import Derived.Lib.SmallJoins
import Derived.Handy
import Derived.Deep.MidRow
import Derived.Stop.BytesEq
import Derived.WalkSpells
import Derived.WalkLawsBesides
import Derived.Deep.LoopGhost
import Derived.Deep.DeepCutAuto
import Derived.Laws.CopyOwn
import Derived.Test.YtlplgpmadfmjjaaDoorHashJ
namespace Go.Proofs.YtlplgpmadfmjjaaDoor
open Go.RowKit
set_option linter.unusedSimpArgs false
set_option linter.unusedVariables false
theorem load26 (w : World) (g : Nat) (x : List UInt8) (t : TypeId) (fr : Nat × Nat) (hx : x.length = 32) (h : w.heap[g]? = some (.cells (bcells x).toArray t fr)) :
    (Instr.loadAt 23 (.pointer (some ⟨g, 0, none⟩))).run Tryd.prog w = .ok (aggB x) w := by
  have := run_loadVar_row (P := Tryd.prog) w g t 23 _ fr _ h Tryd.underlying23 rfl (by simp [bcells, hx, info26])
  simp only [Instr.loadAt, Instr.sureAddr, Sem.run_bind, Sem.run_pure, Result.andThen_ok, this]
theorem sz1 (w : World) : (sizeOf 5).run Tryd.prog w = .ok 1 w := by kernel_rfl
theorem eql26 (w : World) (x y : List UInt8) (hx : x.length = 32) (hy : y.length = 32) : (binOp .eql 23 (aggB x) (aggB y)).run Tryd.prog w = .ok (.bool (x == y)) w :=
  run_eql_bytes w 23 5 32 Tryd.underlying23 Tryd.underlying5 sz1 x y hx hy
theorem neq26 (w : World) (x y : List UInt8) (hx : x.length = 32) (hy : y.length = 32) : (binOp .neq 23 (aggB x) (aggB y)).run Tryd.prog w = .ok (.bool (!(x == y))) w := by
  have := run_equalIn_bytes (P := Tryd.prog) w 9998 23 5 32 Tryd.underlying23 Tryd.underlying5 sz1 x y hx hy
  show (binOp .neq 23 (.agg (x.map Extern.Stop.cell).toArray) (.agg (y.map Extern.Stop.cell).toArray)).run Tryd.prog w = _
  rw [run_neq_struct, this]
  rfl
theorem guard26 (w : World) (op : BinOp) (a b : Operand) (x y : List UInt8) : (eqGuard op 23 a b (aggB x) (aggB y)).run Tryd.prog w = .ok () w :=
  run_eqGuard_agg w op 23 a b _ _ (by kernel_rfl)
theorem range_row {w : World} {b : Nat} {x : List UInt8} {t : TypeId} {fr : Nat × Nat} (h : w.heap[b]? = some (.cells (bcells x).toArray t fr)) : w.rangeAt b 0 (bcells x) := fun j v hv => by
  rw [Nat.zero_add]; exact cell_row h hv
theorem range_below {w w' : World} {b B : Nat} {cs : List Value} (h : w.rangeAt b 0 cs) (hb : Below B w w') (hlt : b < B) : w'.rangeAt b 0 cs := fun j v hv =>
  (hb.cell (p := ⟨b, 0 + j, none⟩) hlt).trans (h j v hv)
theorem load26m (w : World) (g : Nat) (x : List UInt8) (h : w.rangeAt g 0 (bcells x)) (hx : (bcells x).length = 32) :
    (Instr.loadAt 23 (.pointer (some ⟨g, 0, none⟩))).run Tryd.prog w = .ok (.agg (bcells x).toArray) w :=
  run_loadAt_mid w g 0 23 (bcells x) _ h Tryd.underlying23 rfl (by rw [hx]; exact info26)
section
attribute [local go_sem] ext_list
theorem short_any (l : List UInt8) (n : Nat) (w : World) (hn : (n : Int) ≤ 9223372036854775807) :
    Calls Tryd.prog 10 #[.string ⟨l.toArray⟩, .int .i64 n] w fun e w' => e = .returned (.string ⟨(l.take n).toArray⟩) ∧ w = w' := by
  by_cases h : n < l.length
  · have h1 : (n : Int) < l.length := by omega
    go_enter Tryd.func10, Tryd.ntmps10
    go_wp2
    go_ret
    exact ⟨rfl, rfl⟩
  · have h1 : (l.length : Int) ≤ n := by omega
    have e : l.take n = l := List.take_of_length_le (by omega)
    have E := Lib.hid e
    clear e
    go_enter Tryd.func10, Tryd.ntmps10
    go_wp2
    go_ret
    exact ⟨by rw [E.out]; rfl, rfl⟩
end
end Go.Proofs.YtlplgpmadfmjjaaDoor
