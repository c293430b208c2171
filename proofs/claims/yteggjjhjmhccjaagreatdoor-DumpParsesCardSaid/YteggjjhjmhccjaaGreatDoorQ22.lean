/- Texts that the proofs of the statements on dumps rest on, joined. Conditions stand in each theorem. -/
import Derived.Test.YteggjjhjmhccjaaGreatDoorQ20
set_option linter.unusedVariables false
set_option linter.unusedSimpArgs false
set_option maxRecDepth 100000
set_option maxHeartbeats 8000000
namespace Go.Proofs.YteggjjhjmhccjaaGreatDoor
open Go.ChangeShapes Go.WideShapes Go.ChangeAt Go.RowKit
section
theorem body_10 (o:Bool):BodyK 10 o:=bodyD
theorem body_30 (o:Bool):BodyK 30 o:=bodyD
theorem body_12 (o:Bool):BodyK 12 o:=bodyT
theorem body_18 (o:Bool):BodyK 18 o:=bodyT
theorem body_40 (o:Bool):BodyK 40 o:=bodyT
theorem body_42 (o:Bool):BodyK 42 o:=bodyT
theorem body_41 (o:Bool):BodyK 41 o:=bodyT
theorem body_43 (o:Bool):BodyK 43 o:=bodyT
theorem body_44 (o:Bool):BodyK 44 o:=bodyT
theorem body_19 (o:Bool):BodyK 19 o:=bodyT
theorem body_20 (o:Bool):BodyK 20 o:=bodyT
theorem body_24 (o:Bool):BodyK 24 o:=bodyT
theorem body_25 (o:Bool):BodyK 25 o:=bodyT
end
end Go.Proofs.YteggjjhjmhccjaaGreatDoor
