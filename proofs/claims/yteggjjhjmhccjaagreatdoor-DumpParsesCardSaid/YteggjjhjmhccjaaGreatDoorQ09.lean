/- Texts that the proofs of the statements on dumps rest on, joined. Conditions stand in each theorem. -/
import Derived.Test.YteggjjhjmhccjaaGreatDoorQ00
import Derived.Test.YteggjjhjmhccjaaGreatDoorQ01
import Derived.Test.YteggjjhjmhccjaaGreatDoorQ02
set_option linter.unusedVariables false
set_option linter.unusedSimpArgs false
set_option maxRecDepth 100000
set_option maxHeartbeats 8000000
namespace Go.Proofs.YteggjjhjmhccjaaGreatDoor
open Go.ChangeShapes Go.WideShapes Go.ChangeAt Go.RowKit
section
@[go_sem] theorem low_x4_0 (a b c d:Int) (w:World):(Instr.index 240 (.agg #[.int .i64 a,.int .i64 b,.int .i64 c,.int .i64 d]) (.int .i64 0)).run Tryz.prog w=.ok (.int .i64 a) w:=by kernel_rfl
@[go_sem] theorem low_x4_1 (a b c d:Int) (w:World):(Instr.index 240 (.agg #[.int .i64 a,.int .i64 b,.int .i64 c,.int .i64 d]) (.int .i64 1)).run Tryz.prog w=.ok (.int .i64 b) w:=by kernel_rfl
@[go_sem] theorem low_x4_2 (a b c d:Int) (w:World):(Instr.index 240 (.agg #[.int .i64 a,.int .i64 b,.int .i64 c,.int .i64 d]) (.int .i64 2)).run Tryz.prog w=.ok (.int .i64 c) w:=by kernel_rfl
@[go_sem] theorem low_x4_3 (a b c d:Int) (w:World):(Instr.index 240 (.agg #[.int .i64 a,.int .i64 b,.int .i64 c,.int .i64 d]) (.int .i64 3)).run Tryz.prog w=.ok (.int .i64 d) w:=by kernel_rfl
@[go_sem] theorem low_x2_0 (a b:Int) (w:World):(Instr.index 241 (.agg #[.int .i64 a,.int .i64 b]) (.int .i64 0)).run Tryz.prog w=.ok (.int .i64 a) w:=by kernel_rfl
@[go_sem] theorem low_x2_1 (a b:Int) (w:World):(Instr.index 241 (.agg #[.int .i64 a,.int .i64 b]) (.int .i64 1)).run Tryz.prog w=.ok (.int .i64 b) w:=by kernel_rfl
theorem q1C9l {P:Prop} (h:P:=by
 go_enter Tryz.func138,Tryz.ntmps138
 go_wp2_with fail
 exact bodyPost_ret (ret_Instr Tryz.results138 rfl (by simp [go_sem,S.low,S.of8,S.Ins.cs]) rfl) rfl ⟨rfl,aD⟩):P:=h
theorem low_0 (z:Int) (z0:0≤z) (z1:z≤7) (w:World):Calls Tryz.prog 138 #[.int .i64 0,.int .i64 z,.int .i64 0,.int .i64 0] w fun e w'=>e=.returned (.agg (S.low 0 z).cs)∧Adds w w':=by
 rcases (by omega:z=0∨z=1∨z=2∨z=3∨z=4∨z=5∨z=6∨z=7) with rfl|rfl|rfl|rfl|rfl|rfl|rfl|rfl
 all_goals exact q1C9l
theorem low_1 (z:Int) (z0:0≤z) (z1:z≤7) (w:World):Calls Tryz.prog 138 #[.int .i64 1,.int .i64 z,.int .i64 0,.int .i64 1] w fun e w'=>e=.returned (.agg (S.low 1 z).cs)∧Adds w w':=by
 rcases (by omega:z=0∨z=1∨z=2∨z=3∨z=4∨z=5∨z=6∨z=7) with rfl|rfl|rfl|rfl|rfl|rfl|rfl|rfl
 all_goals exact q1C9l
theorem low_2 (z:Int) (z0:0≤z) (z1:z≤7) (w:World):Calls Tryz.prog 138 #[.int .i64 2,.int .i64 z,.int .i64 1,.int .i64 0] w fun e w'=>e=.returned (.agg (S.low 2 z).cs)∧Adds w w':=by
 rcases (by omega:z=0∨z=1∨z=2∨z=3∨z=4∨z=5∨z=6∨z=7) with rfl|rfl|rfl|rfl|rfl|rfl|rfl|rfl
 all_goals exact q1C9l
theorem low_3 (z:Int) (z0:0≤z) (z1:z≤7) (w:World):Calls Tryz.prog 138 #[.int .i64 3,.int .i64 z,.int .i64 1,.int .i64 1] w fun e w'=>e=.returned (.agg (S.low 3 z).cs)∧Adds w w':=by
 rcases (by omega:z=0∨z=1∨z=2∨z=3∨z=4∨z=5∨z=6∨z=7) with rfl|rfl|rfl|rfl|rfl|rfl|rfl|rfl
 all_goals exact q1C9l
theorem low_4 (z:Int) (z0:0≤z) (z1:z≤7) (w:World):Calls Tryz.prog 138 #[.int .i64 4,.int .i64 z,.int .i64 2,.int .i64 0] w fun e w'=>e=.returned (.agg (S.low 4 z).cs)∧Adds w w':=by
 rcases (by omega:z=0∨z=1∨z=2∨z=3∨z=4∨z=5∨z=6∨z=7) with rfl|rfl|rfl|rfl|rfl|rfl|rfl|rfl
 all_goals exact q1C9l
theorem low_5 (z:Int) (z0:0≤z) (z1:z≤7) (w:World):Calls Tryz.prog 138 #[.int .i64 5,.int .i64 z,.int .i64 2,.int .i64 1] w fun e w'=>e=.returned (.agg (S.low 5 z).cs)∧Adds w w':=by
 rcases (by omega:z=0∨z=1∨z=2∨z=3∨z=4∨z=5∨z=6∨z=7) with rfl|rfl|rfl|rfl|rfl|rfl|rfl|rfl
 all_goals exact q1C9l
theorem low_6 (z:Int) (z0:0≤z) (z1:z≤7) (w:World):Calls Tryz.prog 138 #[.int .i64 6,.int .i64 z,.int .i64 3,.int .i64 0] w fun e w'=>e=.returned (.agg (S.low 6 z).cs)∧Adds w w':=by
 rcases (by omega:z=0∨z=1∨z=2∨z=3∨z=4∨z=5∨z=6∨z=7) with rfl|rfl|rfl|rfl|rfl|rfl|rfl|rfl
 all_goals exact q1C9l
theorem low_7 (z:Int) (z0:0≤z) (z1:z≤7) (w:World):Calls Tryz.prog 138 #[.int .i64 7,.int .i64 z,.int .i64 3,.int .i64 1] w fun e w'=>e=.returned (.agg (S.low 7 z).cs)∧Adds w w':=by
 rcases (by omega:z=0∨z=1∨z=2∨z=3∨z=4∨z=5∨z=6∨z=7) with rfl|rfl|rfl|rfl|rfl|rfl|rfl|rfl
 all_goals exact q1C9l
theorem low_any {y z:Int} (y0:0≤y) (y1:y≤7) (z0:0≤z) (z1:z≤7) (w:World):Calls Tryz.prog 138 #[.int .i64 y,.int .i64 z,.int .i64 (y / 2),.int .i64 (y % 2)] w fun e w'=>e=.returned (.agg (S.low y z).cs)∧Adds w w':=by
 rcases (by omega:y=0∨y=1∨y=2∨y=3∨y=4∨y=5∨y=6∨y=7) with rfl|rfl|rfl|rfl|rfl|rfl|rfl|rfl
 ·exact low_0 z z0 z1 w
 ·exact low_1 z z0 z1 w
 ·exact low_2 z z0 z1 w
 ·exact low_3 z z0 z1 w
 ·exact low_4 z z0 z1 w
 ·exact low_5 z z0 z1 w
 ·exact low_6 z z0 z1 w
 ·exact low_7 z z0 z1 w
end
end Go.Proofs.YteggjjhjmhccjaaGreatDoor
