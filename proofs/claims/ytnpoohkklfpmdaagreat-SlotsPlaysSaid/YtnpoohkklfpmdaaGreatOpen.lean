/- The openers of the laws' arguments: what each argument's reading says of its value. -/
import Derived.Test.YtnpoohkklfpmdaaGreatLawY
namespace Go.Proofs.YtnpoohkklfpmdaaGreat
open Go.RowKit
set_option maxRecDepth 100000
open Go.ChangeShapes Go.WideShapes Go.ChangeAt
open Go.ChangeMaps (open_string shut_string)
variable {H : Type} {enc : TypeId × Value → H} {W : World} {base : Nat}

end Go.Proofs.YtnpoohkklfpmdaaGreat
