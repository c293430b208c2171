/- Texts that the proofs of the statements on dumps rest on, joined. Conditions stand in each theorem. -/
import Derived.Test.YteggjjhjmhccjaaGreatDoorQ02
set_option linter.unusedVariables false
set_option linter.unusedSimpArgs false
set_option maxRecDepth 100000
set_option maxHeartbeats 8000000
namespace Go.Proofs.YteggjjhjmhccjaaGreatDoor
open Go.ChangeShapes Go.WideShapes Go.ChangeAt Go.RowKit
namespace K8.S
open Go.Proofs.YteggjjhjmhccjaaGreatDoor.S
def dX (a:Int) (ac cy:Bool):Int:=(if ac||decide (9 < a % 16) then 6 else 0)+(if cy||decide (153 < a) then 96 else 0)
def dH (a:Int) (cy:Bool):Bool:=cy||decide (153 < a)
def cor (h l:Int) (ac cy:Bool):Int:=
 if ac||decide (9 < l) then (if cy||decide (9 < h)||(decide (h=9) && decide (9 < l)) then 102 else 6) else if cy||decide (9 < h) then 96 else 0
def dig (m:Int):Int:=m / 10 * 16+m % 10
end K8.S
end Go.Proofs.YteggjjhjmhccjaaGreatDoor
