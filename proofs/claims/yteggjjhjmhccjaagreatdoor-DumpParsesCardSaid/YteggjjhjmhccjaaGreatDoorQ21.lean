/- Texts that the proofs of the statements on dumps rest on, joined. Conditions stand in each theorem. -/
import Derived.Test.YteggjjhjmhccjaaGreatDoorQ20
set_option linter.unusedVariables false
set_option linter.unusedSimpArgs false
set_option maxRecDepth 100000
set_option maxHeartbeats 8000000
namespace Go.Proofs.YteggjjhjmhccjaaGreatDoor
open Go.ChangeShapes Go.WideShapes Go.ChangeAt Go.RowKit
section
theorem body_8 (o:Bool):BodyK 8 o:=bodyD
theorem body_6 (o:Bool):BodyK 6 o:=bodyD
theorem body_0 (o:Bool):BodyK 0 o:=bodyT
theorem body_2 (o:Bool):BodyK 2 o:=bodyT
theorem body_3 (o:Bool):BodyK 3 o:=bodyT
theorem body_4 (o:Bool):BodyK 4 o:=bodyT
theorem body_5 (o:Bool):BodyK 5 o:=bodyT
theorem body_7 (o:Bool):BodyK 7 o:=bodyT
theorem body_13 (o:Bool):BodyK 13 o:=bodyT
theorem body_1 (o:Bool):BodyK 1 o:=bodyT
theorem body_16 (o:Bool):BodyK 16 o:=bodyT
theorem body_17 (o:Bool):BodyK 17 o:=bodyT
theorem body_9 (o:Bool):BodyK 9 o:=bodyT
end
end Go.Proofs.YteggjjhjmhccjaaGreatDoor
