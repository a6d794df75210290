/-
  No cell of these rows narrows 'for every input' (looked for: loops, veiled, ifaces, maps, wideKeys, modest, calm, conditions, laid).
  DERIVED. THE GIVEN ROWS OF THIS SEAT. 6 by the template 'for every input the law returns true; each argument reads behind the call as it read before'; 0 by the template 'total and deterministic' (their statements: YtmpcfdjpklmfmaaTotals.lean).
  GIVEN WITH THE SEED: the statements are not yours to turn. If you find one false, say at which input.
  Laid BY PROGRAM, IN A SANDBOX (cutbox-rows.mjs): the forced cells as the released guide's own fill.sh prints them over the translation 5fb3b29d3f0ed01a… (all of the seat's roots in one cut). By AI agents, Wed Nov 11 2026. No macro, syntax, notation, axiom, sorry.
-/
import Derived.Test.YtmpcfdjpklmfmaaChecked
import GoSem.Claim
import GoSem.ClaimJoined
import GoSem.ClaimMapViews
import Derived.JoinedTies
import Derived.KernelRfl
namespace Go.Proofs.Ytmpcfdjpklmfmaa
/- THE CELL 'sum', in the pinned program and in every row, IS THE sha256 OF THE DUMP (.gsa) THAT YtmpcfdjpklmfmaaProg.lean LOADS. Nothing in Lean hashes anything: it is a label: what it is worth is what the hold of that sum in a sandbox is worth. -/
noncomputable def Try.pinned : Pinned := { name := "ytmpcfdjpklmfmaa", sum := "5fb3b29d3f0ed01ab54a75cf89aa60efd09a28feb445f35ab0af630a96af95fc", checked := Try.checked }
namespace Rows
def none {H : Type} : Left H := { results := [], args := [] }

/-- 'twinspanlaw06.DevicePlays': WHATEVER THE INPUT: true; the input reads as it did. -/
def devicePlaysSpec : ChangeSpec := { name := "devicePlays", fn := fun _ => fun
  | [d1, d2] => { results := [.lit (.bool true)], args := [d1, d2] }
  | _ => none }
def devicePlaysRow : OpenClaim := { program := "ytmpcfdjpklmfmaa", sum := "5fb3b29d3f0ed01ab54a75cf89aa60efd09a28feb445f35ab0af630a96af95fc", func := "twinspan/twinspanlaw06.DevicePlays", spec := "devicePlays", unfollowed := true, recurses := true, apart := false }
def DevicePlaysSaid : Prop := devicePlaysRow.holds Try.pinned (OpenSpec.ofChange devicePlaysSpec)

/-- ITS FALSE NEIGHBOUR: 'it returns false'. Refute it at one input. -/
def devicePlaysWrong : ChangeSpec := { name := "devicePlays", fn := fun _ => fun
  | [d1, d2] => { results := [.lit (.bool false)], args := [d1, d2] }
  | _ => none }
def DevicePlaysWrongFalsely : Prop := devicePlaysRow.holds Try.pinned (OpenSpec.ofChange devicePlaysWrong)

/-- 'twinspanlaw06.DeviceSafe': WHATEVER THE INPUT: true; the input reads as it did. -/
def deviceSafeSpec : ChangeSpec := { name := "deviceSafe", fn := fun _ => fun
  | [d1, d2, d3] => { results := [.lit (.bool true)], args := [d1, d2, d3] }
  | _ => none }
def deviceSafeRow : OpenClaim := { program := "ytmpcfdjpklmfmaa", sum := "5fb3b29d3f0ed01ab54a75cf89aa60efd09a28feb445f35ab0af630a96af95fc", func := "twinspan/twinspanlaw06.DeviceSafe", spec := "deviceSafe", unfollowed := true, recurses := true, apart := false }
def DeviceSafeSaid : Prop := deviceSafeRow.holds Try.pinned (OpenSpec.ofChange deviceSafeSpec)

/-- ITS FALSE NEIGHBOUR: 'it returns false'. Refute it at one input. -/
def deviceSafeWrong : ChangeSpec := { name := "deviceSafe", fn := fun _ => fun
  | [d1, d2, d3] => { results := [.lit (.bool false)], args := [d1, d2, d3] }
  | _ => none }
def DeviceSafeWrongFalsely : Prop := deviceSafeRow.holds Try.pinned (OpenSpec.ofChange deviceSafeWrong)

/-- 'twinspanlaw06.DeviceArmed': WHATEVER THE INPUT: true; the input reads as it did. -/
def deviceArmedSpec : ChangeSpec := { name := "deviceArmed", fn := fun _ => fun
  | [d] => { results := [.lit (.bool true)], args := [d] }
  | _ => none }
def deviceArmedRow : OpenClaim := { program := "ytmpcfdjpklmfmaa", sum := "5fb3b29d3f0ed01ab54a75cf89aa60efd09a28feb445f35ab0af630a96af95fc", func := "twinspan/twinspanlaw06.DeviceArmed", spec := "deviceArmed", unfollowed := true, recurses := true, apart := false }
def DeviceArmedSaid : Prop := deviceArmedRow.holds Try.pinned (OpenSpec.ofChange deviceArmedSpec)

/-- ITS FALSE NEIGHBOUR: 'it returns false'. Refute it at one input. -/
def deviceArmedWrong : ChangeSpec := { name := "deviceArmed", fn := fun _ => fun
  | [d] => { results := [.lit (.bool false)], args := [d] }
  | _ => none }
def DeviceArmedWrongFalsely : Prop := deviceArmedRow.holds Try.pinned (OpenSpec.ofChange deviceArmedWrong)

/-- 'twinspanlaw06.DeviceNil': WHATEVER THE INPUT: true; the input reads as it did. -/
def deviceNilSpec : ChangeSpec := { name := "deviceNil", fn := fun _ => fun
  | [d] => { results := [.lit (.bool true)], args := [d] }
  | _ => none }
def deviceNilRow : OpenClaim := { program := "ytmpcfdjpklmfmaa", sum := "5fb3b29d3f0ed01ab54a75cf89aa60efd09a28feb445f35ab0af630a96af95fc", func := "twinspan/twinspanlaw06.DeviceNil", spec := "deviceNil", unfollowed := true, recurses := true, apart := false }
def DeviceNilSaid : Prop := deviceNilRow.holds Try.pinned (OpenSpec.ofChange deviceNilSpec)

/-- ITS FALSE NEIGHBOUR: 'it returns false'. Refute it at one input. -/
def deviceNilWrong : ChangeSpec := { name := "deviceNil", fn := fun _ => fun
  | [d] => { results := [.lit (.bool false)], args := [d] }
  | _ => none }
def DeviceNilWrongFalsely : Prop := deviceNilRow.holds Try.pinned (OpenSpec.ofChange deviceNilWrong)

/-- 'twinspanlaw06.DeviceLast': WHATEVER THE INPUT: true; the input reads as it did. -/
def deviceLastSpec : ChangeSpec := { name := "deviceLast", fn := fun _ => fun
  | [d1, d2] => { results := [.lit (.bool true)], args := [d1, d2] }
  | _ => none }
def deviceLastRow : OpenClaim := { program := "ytmpcfdjpklmfmaa", sum := "5fb3b29d3f0ed01ab54a75cf89aa60efd09a28feb445f35ab0af630a96af95fc", func := "twinspan/twinspanlaw06.DeviceLast", spec := "deviceLast", unfollowed := true, recurses := true, apart := false }
def DeviceLastSaid : Prop := deviceLastRow.holds Try.pinned (OpenSpec.ofChange deviceLastSpec)

/-- ITS FALSE NEIGHBOUR: 'it returns false'. Refute it at one input. -/
def deviceLastWrong : ChangeSpec := { name := "deviceLast", fn := fun _ => fun
  | [d1, d2] => { results := [.lit (.bool false)], args := [d1, d2] }
  | _ => none }
def DeviceLastWrongFalsely : Prop := deviceLastRow.holds Try.pinned (OpenSpec.ofChange deviceLastWrong)

/-- 'twinspanlaw06.DeviceEdges': WHATEVER THE INPUT: true; the input reads as it did. -/
def deviceEdgesSpec : ChangeSpec := { name := "deviceEdges", fn := fun _ => fun
  | [d1, d2, d3] => { results := [.lit (.bool true)], args := [d1, d2, d3] }
  | _ => none }
def deviceEdgesRow : OpenClaim := { program := "ytmpcfdjpklmfmaa", sum := "5fb3b29d3f0ed01ab54a75cf89aa60efd09a28feb445f35ab0af630a96af95fc", func := "twinspan/twinspanlaw06.DeviceEdges", spec := "deviceEdges", unfollowed := true, recurses := true, apart := false }
def DeviceEdgesSaid : Prop := deviceEdgesRow.holds Try.pinned (OpenSpec.ofChange deviceEdgesSpec)

/-- ITS FALSE NEIGHBOUR: 'it returns false'. Refute it at one input. -/
def deviceEdgesWrong : ChangeSpec := { name := "deviceEdges", fn := fun _ => fun
  | [d1, d2, d3] => { results := [.lit (.bool false)], args := [d1, d2, d3] }
  | _ => none }
def DeviceEdgesWrongFalsely : Prop := deviceEdgesRow.holds Try.pinned (OpenSpec.ofChange deviceEdgesWrong)

/- THE SECOND FORM. 'bulk': how many values and letters a reading holds, each counted each time it is reached (what is shared counts as often as it is met; a slice's spare places count too). A statement '..UptoSaid' is the law's where the arguments, and the package variables that the reading takes, are together of bulk at most 1048576: NARROWER than '..Said'. Prove '..Said' where nothing that the law and all that it calls make is longer than what came in: it says more and counts as full. Else prove '..UptoSaid'. A law counts once. -/
mutual
def uptoBulk {H : Type} : DataW H → Nat
  | .lit (.string bytes) => bytes.length + 1
  | .lit _ => 1
  | .nil => 1
  | .ptr d => uptoBulk d + 1
  | .slice elems spare => uptoBulkAll elems + uptoBulkAll spare + 1
  | .agg parts => uptoBulkAll parts + 1
  | .iface _ d => uptoBulk d + 1
  | .map entries => uptoBulkEntries entries + 1
  | .held _ => 1
def uptoBulkAll {H : Type} : List (DataW H) → Nat
  | [] => 0
  | d :: r => uptoBulk d + uptoBulkAll r
def uptoBulkEntries {H : Type} : List (Lit × DataW H) → Nat
  | [] => 0
  | x :: r => uptoBulkEntry x + uptoBulkEntries r
def uptoBulkEntry {H : Type} : Lit × DataW H → Nat
  | (.string bytes, d) => bytes.length + uptoBulk d + 1
  | (_, d) => uptoBulk d + 1
 end
def uptoSmall : (H : Type) → List (DataW H) → Bool := fun _ ds => decide (uptoBulkAll ds ≤ 1048576)
def OpenSpec.upto (s : _root_.Go.ChangeSpec) : _root_.Go.OpenSpec := { _root_.Go.OpenSpec.ofChange s with cond := some uptoSmall }

/-- 'twinspanlaw06.DevicePlays', WHERE WHAT IT READS IS OF BULK AT MOST 1048576: true; the input reads as it did. -/
def devicePlaysUptoRow : OpenClaim := { program := "ytmpcfdjpklmfmaa", sum := "5fb3b29d3f0ed01ab54a75cf89aa60efd09a28feb445f35ab0af630a96af95fc", func := "twinspan/twinspanlaw06.DevicePlays", spec := "devicePlays", unfollowed := true, recurses := true, apart := false, narrowed := true }
def DevicePlaysUptoSaid : Prop := devicePlaysUptoRow.holds Try.pinned (OpenSpec.upto devicePlaysSpec)

/-- 'twinspanlaw06.DeviceSafe', WHERE WHAT IT READS IS OF BULK AT MOST 1048576: true; the input reads as it did. -/
def deviceSafeUptoRow : OpenClaim := { program := "ytmpcfdjpklmfmaa", sum := "5fb3b29d3f0ed01ab54a75cf89aa60efd09a28feb445f35ab0af630a96af95fc", func := "twinspan/twinspanlaw06.DeviceSafe", spec := "deviceSafe", unfollowed := true, recurses := true, apart := false, narrowed := true }
def DeviceSafeUptoSaid : Prop := deviceSafeUptoRow.holds Try.pinned (OpenSpec.upto deviceSafeSpec)

/-- 'twinspanlaw06.DeviceArmed', WHERE WHAT IT READS IS OF BULK AT MOST 1048576: true; the input reads as it did. -/
def deviceArmedUptoRow : OpenClaim := { program := "ytmpcfdjpklmfmaa", sum := "5fb3b29d3f0ed01ab54a75cf89aa60efd09a28feb445f35ab0af630a96af95fc", func := "twinspan/twinspanlaw06.DeviceArmed", spec := "deviceArmed", unfollowed := true, recurses := true, apart := false, narrowed := true }
def DeviceArmedUptoSaid : Prop := deviceArmedUptoRow.holds Try.pinned (OpenSpec.upto deviceArmedSpec)

/-- 'twinspanlaw06.DeviceNil', WHERE WHAT IT READS IS OF BULK AT MOST 1048576: true; the input reads as it did. -/
def deviceNilUptoRow : OpenClaim := { program := "ytmpcfdjpklmfmaa", sum := "5fb3b29d3f0ed01ab54a75cf89aa60efd09a28feb445f35ab0af630a96af95fc", func := "twinspan/twinspanlaw06.DeviceNil", spec := "deviceNil", unfollowed := true, recurses := true, apart := false, narrowed := true }
def DeviceNilUptoSaid : Prop := deviceNilUptoRow.holds Try.pinned (OpenSpec.upto deviceNilSpec)

/-- 'twinspanlaw06.DeviceLast', WHERE WHAT IT READS IS OF BULK AT MOST 1048576: true; the input reads as it did. -/
def deviceLastUptoRow : OpenClaim := { program := "ytmpcfdjpklmfmaa", sum := "5fb3b29d3f0ed01ab54a75cf89aa60efd09a28feb445f35ab0af630a96af95fc", func := "twinspan/twinspanlaw06.DeviceLast", spec := "deviceLast", unfollowed := true, recurses := true, apart := false, narrowed := true }
def DeviceLastUptoSaid : Prop := deviceLastUptoRow.holds Try.pinned (OpenSpec.upto deviceLastSpec)

/-- 'twinspanlaw06.DeviceEdges', WHERE WHAT IT READS IS OF BULK AT MOST 1048576: true; the input reads as it did. -/
def deviceEdgesUptoRow : OpenClaim := { program := "ytmpcfdjpklmfmaa", sum := "5fb3b29d3f0ed01ab54a75cf89aa60efd09a28feb445f35ab0af630a96af95fc", func := "twinspan/twinspanlaw06.DeviceEdges", spec := "deviceEdges", unfollowed := true, recurses := true, apart := false, narrowed := true }
def DeviceEdgesUptoSaid : Prop := deviceEdgesUptoRow.holds Try.pinned (OpenSpec.upto deviceEdgesSpec)

end Rows
end Go.Proofs.Ytmpcfdjpklmfmaa
