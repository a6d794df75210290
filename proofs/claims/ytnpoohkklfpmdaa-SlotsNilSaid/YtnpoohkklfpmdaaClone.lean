/- strings.Clone at this program. -/
import Derived.Test.YtnpoohkklfpmdaaRows
import Derived.WalkKit
import Derived.Below
import Derived.Shelf.Strconv.Clone
namespace Go.Proofs.Ytnpoohkklfpmdaa
open Go.RowKit
set_option linter.unusedSimpArgs false
set_option linter.unusedVariables false
def cloneRen : Go.Shelf.Ren := ⟨fun | 316 => 53 | n => n, fun | 0 => 0 | 3 => 3 | 4 => 4 | 5 => 5 | 9 => 9 | 37 => 60 | 127 => 108 | n => n, fun | n => n⟩
theorem cloneLays0 : Go.Proofs.Lays.n316 Try.prog cloneRen := {
  mixed := by kernel_rfl
  f316 := Try.func53.trans (congrArg some (by kernel_rfl))
  t0 := Try.underlying0
  a0 := Try.isAgg0
  z0 := Try.sizeOf0
  v0 := Try.zeroValue0
  t3 := Try.underlying3
  a3 := Try.isAgg3
  z3 := Try.sizeOf3
  v3 := Try.zeroValue3
  t4 := Try.underlying4
  a4 := Try.isAgg4
  z4 := Try.sizeOf4
  v4 := Try.zeroValue4
  t9 := Try.underlying9
  a9 := Try.isAgg9
  z9 := Try.sizeOf9
  v9 := Try.zeroValue9
  t37 := Try.underlying60
  a37 := Try.isAgg60
  z37 := Try.sizeOf60
  v37 := Try.zeroValue60
  t127 := Try.underlying108
  a127 := Try.isAgg108
  z127 := Try.sizeOf108
  v127 := Try.zeroValue108
}
theorem cloneLays : Go.Proofs.LaysM.n316 Try.prog cloneRen := {
  ton316 := cloneLays0
  t5 := Try.underlying5
  a5 := Try.isAgg5
  z5 := Try.sizeOf5
  v5 := Try.zeroValue5
  i0 := by kernel_rfl
  i3 := by kernel_rfl
  i4 := by kernel_rfl
  i5 := by kernel_rfl
  i9 := by kernel_rfl
  i37 := by kernel_rfl
  i127 := by kernel_rfl
}
theorem clone_any (l : List UInt8) (w : World) (hl : (l.length : Int) ≤ 281474976710656) : Calls Try.prog 39 #[.string ⟨l.toArray⟩] w fun e w' => e = .returned (.string ⟨l.toArray⟩) ∧ Below w.heap.size w w' := by
  have hc := Any.stringslite_Clone cloneLays ⟨l.toArray⟩ w (by simp [ByteArray.size]; omega)
  go_enter Try.func39, Try.ntmps39
  go_wp2_with fail
  refine Calls.mono hc ?_
  rintro e w1 ⟨rfl, g1⟩
  go_wp2
  go_ret
  exact ⟨rfl, g1⟩
end Go.Proofs.Ytnpoohkklfpmdaa
