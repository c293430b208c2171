/- Texts that the proofs of the statements on dumps rest on, joined. Conditions stand in each theorem. -/
import Derived.Test.YteggjjhjmhccjaaGreatDoorQ02
set_option linter.unusedVariables false
set_option linter.unusedSimpArgs false
set_option maxRecDepth 100000
set_option maxHeartbeats 8000000
namespace Go.Proofs.YteggjjhjmhccjaaGreatDoor
open Go.ChangeShapes Go.WideShapes Go.ChangeAt Go.RowKit
namespace K8
theorem rinr_any (c x:Int) (s z k ac p v cy:Bool) (x0:0≤x) (x1:x < 256) (w:World):Calls Tryz.prog 182 #[.int .i64 c,.int .u8 x,.agg #[.bool s,.bool z,.bool k,.bool ac,.bool p,.bool v,.bool cy]] w fun e w'=>e=.returned (.tuple #[.int .u8 (S.sumR x 1 false),.agg #[.bool (S.has (S.sumR x 1 false) 7),.bool ((S.sumR x 1 false)==0),.bool (S.nK c x false (S.sumR x 1 false)),.bool (S.sumH x 1 false),.bool (S.par (S.sumR x 1 false)),.bool (S.nV c (S.sumV x 1 false)),.bool cy]])∧Adds w w':=by
 obtain ⟨r0,r1⟩:=S.sumR_bd x 1 false
 by_cases hc:c=2
 ·subst hc
  rw [S.nK85,S.nV85]
  go_enter Tryz.func182,Tryz.ntmps182
  go_wp2_with (first|(go_at_call 187;refine sm (rsum_any x0 x1 (by decide) (by decide)) ?_)|(go_at_call 189;refine ad (rof_any r0 r1) fun n1 os1=> ?_))
  go_region
  all_goals go_wp2_with fail
  go_region_with (first|(go_at_call 191;refine sm (rmajority_any) ?_)|(go_at_call 190;refine ad (ronly85) fun n2 os2=> ?_))
  all_goals go_wp2_with fail
  all_goals exact bodyPost_ret (by simp [results,Tryz.results182,go_sem,S.big]) rfl ⟨rfl,aD⟩
 ·rw [S.nK80 hc,S.nV80 hc]
  go_enter Tryz.func182,Tryz.ntmps182
  go_wp2_with (first|(go_at_call 187;refine sm (rsum_any x0 x1 (by decide) (by decide)) ?_)|(go_at_call 189;refine ad (rof_any r0 r1) fun n1 os1=> ?_))
  go_region
  all_goals go_wp2_with fail
  go_region_with (first|(go_at_call 191;refine sm (rmajority_any) ?_)|(go_at_call 190;refine ad (ronly80 hc) fun n2 os2=> ?_))
  all_goals go_wp2_with fail
  all_goals exact bodyPost_ret (by simp [results,Tryz.results182,go_sem,S.big]) rfl ⟨rfl,aD⟩
theorem rdcr_any (c x:Int) (s z k ac p v cy:Bool) (x0:0≤x) (x1:x < 256) (w:World):Calls Tryz.prog 183 #[.int .i64 c,.int .u8 x,.agg #[.bool s,.bool z,.bool k,.bool ac,.bool p,.bool v,.bool cy]] w fun e w'=>e=.returned (.tuple #[.int .u8 (S.difR x 1 false),.agg #[.bool (S.has (S.difR x 1 false) 7),.bool ((S.difR x 1 false)==0),.bool (S.nK c x true (S.difR x 1 false)),.bool (S.difH x 1 false),.bool (S.par (S.difR x 1 false)),.bool (S.nV c (S.difV x 1 false)),.bool cy]])∧Adds w w':=by
 obtain ⟨r0,r1⟩:=S.difR_bd x 1 false
 by_cases hc:c=2
 ·subst hc
  rw [S.nK85,S.nV85]
  go_enter Tryz.func183,Tryz.ntmps183
  go_wp2_with (first|(go_at_call 188;refine sm (rdif_any x0 x1 (by decide) (by decide)) ?_)|(go_at_call 189;refine ad (rof_any r0 r1) fun n1 os1=> ?_))
  go_region
  all_goals go_wp2_with fail
  go_region_with (first|(go_at_call 191;refine sm (rmajority_any) ?_)|(go_at_call 190;refine ad (ronly85) fun n2 os2=> ?_))
  all_goals go_wp2_with fail
  all_goals exact bodyPost_ret (by simp [results,Tryz.results183,go_sem,S.big]) rfl ⟨rfl,aD⟩
 ·rw [S.nK80 hc,S.nV80 hc]
  go_enter Tryz.func183,Tryz.ntmps183
  go_wp2_with (first|(go_at_call 188;refine sm (rdif_any x0 x1 (by decide) (by decide)) ?_)|(go_at_call 189;refine ad (rof_any r0 r1) fun n1 os1=> ?_))
  go_region
  all_goals go_wp2_with fail
  go_region_with (first|(go_at_call 191;refine sm (rmajority_any) ?_)|(go_at_call 190;refine ad (ronly80 hc) fun n2 os2=> ?_))
  all_goals go_wp2_with fail
  all_goals exact bodyPost_ret (by simp [results,Tryz.results183,go_sem,S.big]) rfl ⟨rfl,aD⟩
theorem q1C4 {P:Prop} (h:P:=by
 go_enter Tryz.func171,Tryz.ntmps171
 go_wp2_with (first|(go_at_call 114;refine sm (ron_any) ?_))
 go_region
 all_goals go_wp2_with fail
 all_goals exact bodyPost_ret (by simp [results,Tryz.results171,go_sem]) rfl ⟨rfl,aD⟩):P:=h
theorem rinx_any (c x:Int) (s z k ac p v cy:Bool) (x0:0≤x) (x1:x < 65536) (w:World):Calls Tryz.prog 171 #[.int .i64 c,.int .u16 x,.agg #[.bool s,.bool z,.bool k,.bool ac,.bool p,.bool v,.bool cy]] w fun e w'=>e=.returned (.tuple #[.int .u16 (S.inc x),.agg #[.bool s,.bool z,.bool (S.wK c (x==65535) k),.bool ac,.bool p,.bool v,.bool cy]])∧Adds w w':=by
 have e1:=S.inc_wrap x
 by_cases hc:c=2
 ·subst hc
  rw [S.wK85]
  exact q1C4
 ·rw [S.wK80 hc]
  exact q1C4
theorem q2C4 {P:Prop} (h:P:=by
 go_enter Tryz.func172,Tryz.ntmps172
 go_wp2_with (first|(go_at_call 114;refine sm (ron_any) ?_))
 go_region
 all_goals go_wp2_with fail
 all_goals exact bodyPost_ret (by simp [results,Tryz.results172,go_sem]) rfl ⟨rfl,aD⟩):P:=h
theorem rdcx_any (c x:Int) (s z k ac p v cy:Bool) (x0:0≤x) (x1:x < 65536) (w:World):Calls Tryz.prog 172 #[.int .i64 c,.int .u16 x,.agg #[.bool s,.bool z,.bool k,.bool ac,.bool p,.bool v,.bool cy]] w fun e w'=>e=.returned (.tuple #[.int .u16 (S.dec x),.agg #[.bool s,.bool z,.bool (S.wK c (x==0) k),.bool ac,.bool p,.bool v,.bool cy]])∧Adds w w':=by
 have e1:=S.dec_wrap x
 by_cases hc:c=2
 ·subst hc
  rw [S.wK85]
  exact q2C4
 ·rw [S.wK80 hc]
  exact q2C4
end K8
end Go.Proofs.YteggjjhjmhccjaaGreatDoor
