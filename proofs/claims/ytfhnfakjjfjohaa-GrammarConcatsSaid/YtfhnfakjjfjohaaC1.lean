/- Contracts of package bits and of the reference's chapter 1: each returns the plain function's value and leaves the world alone. Conditions: bytes are from 0 to 255. -/
import Derived.Test.YtfhnfakjjfjohaaChecked
import Derived.Test.YtfhnfakjjfjohaaS1
import Derived.WalkKit
import Derived.ProofKit
import Derived.OpenShut
namespace Go.Proofs.Ytfhnfakjjfjohaa
open Go.ChangeShapes Go.WideShapes Go.ChangeAt Go.RowKit
set_option linter.unusedVariables false
theorem ri {k : IntKind} {a b : Int} (h : a = b) : Ending.returned (.int k a) = .returned (.int k b) := by rw [h]
theorem rb {a b : Bool} (h : a = b) : Ending.returned (.bool a) = .returned (.bool b) := by rw [h]
end Go.Proofs.Ytfhnfakjjfjohaa
