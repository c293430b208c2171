/- Texts that the proofs of the statements on dumps rest on, joined. Conditions stand in each theorem. -/
import Derived.Test.YteggjjhjmhccjaaGreatDoorQ20
set_option linter.unusedVariables false
set_option linter.unusedSimpArgs false
set_option maxRecDepth 100000
set_option maxHeartbeats 8000000
namespace Go.Proofs.YteggjjhjmhccjaaGreatDoor
open Go.ChangeShapes Go.WideShapes Go.ChangeAt Go.RowKit
section
theorem loaded_3:LoadK 3:=ldD
theorem loaded_4:LoadK 4:=ldD
theorem loaded_31:LoadK 31:=ldD
theorem loaded_43:LoadK 43:=ldD
theorem loaded_44:LoadK 44:=ldD
end
end Go.Proofs.YteggjjhjmhccjaaGreatDoor
