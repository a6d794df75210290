import Derived.Test.YtpopocfkeiplbaaRows
import Derived.Test.YtpopocfkeiplbaaTlvI
import Derived.ProofKit
import Derived.OpenShut
import Derived.ShutString
import Derived.ChangeOld
import Derived.Outline
import Derived.RegionTactic
import Derived.ChangeAlike
import Derived.BigRegion
import Derived.BigQuiet
import Derived.Deep.QuietTactic
import Derived.Deep.RegionWith
import Derived.Deep.RegionLaw
import Derived.Deep.AppendLies
import Derived.Deep.Draws
import Derived.Lib.Hide
import Derived.Lib.SmallJoins
import Derived.Handy
namespace Go.Proofs.Ytpopocfkeiplbaa
open Go.RowKit
theorem aw1 (b : Nat) (W : World) (h : Rd W b (some [110, 0, 0, 1, 0])) : Calls Try.prog 27 #[.pointer (some ⟨b, 0, none⟩), .int .u8 110] W fun e w' => e = .returned (.int .u64 0) ∧ Rd w' b none ∧ Fr [b] W w' := by
  have := rdNum_any 110 (some [110, 0, 0, 1, 0]) b W h
  rw [show rdNum 110 ((some [110, 0, 0, 1, 0]).getD []) = (0, none) from by decide] at this
  exact this
theorem aw2 (W : World) : Calls Try.prog 21 #[.int .u8 110, .int .u64 300] W fun e w' => e = .returned (.string ⟨#[110, 0, 0, 2, 1, 44]⟩) ∧ Below W.heap.size W w' := by
  have := Num_any 110 300 W (by decide)
  rw [show fld 110 (digs 300) = [110, 0, 0, 2, 1, 44] from by decide] at this
  exact this
theorem aw3 (W : World) : Calls Try.prog 20 #[.int .u8 116, .string ⟨#[97, 98]⟩] W fun e w' => e = .returned (.string ⟨#[116, 0, 0, 2, 97, 98]⟩) ∧ Below W.heap.size W w' := by
  have := Text_any 116 [97, 98] W (by decide)
  rw [show fld 116 [97, 98] = [116, 0, 0, 2, 97, 98] from by decide] at this
  exact this
/-! The frame of a law's proof: its arguments are opened, and read again behind the call. -/
section
open Go.ChangeShapes Go.WideShapes Go.ChangeAt
open Go.ChangeMaps (open_string shut_string)
theorem own : ownKnob Try.prog.godebug = none := by kernel_rfl
theorem laidOut : laidOutB Try.prog = true := by kernel_rfl
variable {H : Type} {enc : TypeId × Value → H} {W : World} {base : Nat}
theorem op_u8 {v : Value} {d : DataW H} {ps : List MemPlace} (hv : Value.okWide Try.prog W .any base 5 v) (h : DataW.Trod enc Try.prog W 0 (fun _ => true) true 5 v d ps) : ∃ c : UInt8, v = .int .u8 c.toNat := by
  obtain ⟨x, rfl, rfl, rfl, wx⟩ := open_int Try.underlying5 hv h
  have hb := bounds_u8 wx
  exact ⟨UInt8.ofNat x.toNat, by simp; omega⟩
theorem op_int {v : Value} {d : DataW H} {ps : List MemPlace} (hv : Value.okWide Try.prog W .any base 3 v) (h : DataW.Trod enc Try.prog W 0 (fun _ => true) true 3 v d ps) :
    ∃ n : Int, v = .int .i64 n ∧ -9223372036854775808 ≤ n ∧ n < 9223372036854775808 := by
  obtain ⟨x, rfl, rfl, rfl, wx⟩ := open_int Try.underlying3 hv h
  have hb := bounds_i64 wx
  exact ⟨x, rfl, by omega, by omega⟩
end
end Go.Proofs.Ytpopocfkeiplbaa
