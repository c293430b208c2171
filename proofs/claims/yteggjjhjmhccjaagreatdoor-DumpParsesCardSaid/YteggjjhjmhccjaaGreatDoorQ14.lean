/- Texts that the proofs of the statements on dumps rest on, joined. Conditions stand in each theorem. -/
import Derived.Test.YteggjjhjmhccjaaGreatDoorQ02
import Derived.Test.YteggjjhjmhccjaaGreatDoorQ08
set_option linter.unusedVariables false
set_option linter.unusedSimpArgs false
set_option maxRecDepth 100000
set_option maxHeartbeats 8000000
namespace Go.Proofs.YteggjjhjmhccjaaGreatDoor
open Go.ChangeShapes Go.WideShapes Go.ChangeAt Go.RowKit
namespace K8
theorem q1C6s {P:Prop} (h:P:=by
 go_enter Tryz.func174,Tryz.ntmps174
 go_wp2_with (first|(go_at_call 187;refine sm (rsum_any a0 a1 (by decide) (by decide)) ?_)|(go_at_call 189;refine ad (rof_any r0 r1) fun n1 os1=> ?_))
 go_region_with (first|(go_at_call 191;refine sm (rmajority_any) ?_)|(go_at_call 190;refine ad (ronly80 hc) fun n2 os2=> ?_))
 all_goals go_wp2_with fail
 all_goals exact bodyPost_ret (by simp [results,Tryz.results174,go_sem]) rfl ⟨rfl,aD⟩):P:=h
theorem rdaa80_0 (c:Int) (hc:¬c=2) (a:Int) (s z k ac p v cy:Bool) (a0:0≤a) (a1:a < 256) (ho:(ac=true)) (hi:(cy=true)) (w:World):Calls Tryz.prog 174 #[.int .i64 c,.int .u8 a,.agg #[.bool s,.bool z,.bool k,.bool ac,.bool p,.bool v,.bool cy]] w fun e w'=>e=.returned (.tuple #[.int .u8 (S.sumR a 102 false),.agg #[.bool (S.has (S.sumR a 102 false) 7),.bool ((S.sumR a 102 false)==0),.bool false,.bool (S.sumH a 102 false),.bool (S.par (S.sumR a 102 false)),.bool false,.bool true]])∧Adds w w':=by
 obtain rfl:=ho
 obtain rfl:=hi
 obtain ⟨r0,r1⟩:=S.sumR_bd a 102 false
 exact q1C6s
theorem rdaa80_1 (c:Int) (hc:¬c=2) (a:Int) (s z k ac p v cy:Bool) (a0:0≤a) (a1:a < 256) (ho:(ac=true)) (hi:(cy=false∧153 < a)) (w:World):Calls Tryz.prog 174 #[.int .i64 c,.int .u8 a,.agg #[.bool s,.bool z,.bool k,.bool ac,.bool p,.bool v,.bool cy]] w fun e w'=>e=.returned (.tuple #[.int .u8 (S.sumR a 102 false),.agg #[.bool (S.has (S.sumR a 102 false) 7),.bool ((S.sumR a 102 false)==0),.bool false,.bool (S.sumH a 102 false),.bool (S.par (S.sumR a 102 false)),.bool false,.bool true]])∧Adds w w':=by
 obtain rfl:=ho
 obtain ⟨rfl,hh⟩:=hi
 obtain ⟨r0,r1⟩:=S.sumR_bd a 102 false
 exact q1C6s
theorem rdaa80_2 (c:Int) (hc:¬c=2) (a:Int) (s z k ac p v cy:Bool) (a0:0≤a) (a1:a < 256) (ho:(ac=true)) (hi:(cy=false∧¬153 < a)) (w:World):Calls Tryz.prog 174 #[.int .i64 c,.int .u8 a,.agg #[.bool s,.bool z,.bool k,.bool ac,.bool p,.bool v,.bool cy]] w fun e w'=>e=.returned (.tuple #[.int .u8 (S.sumR a 6 false),.agg #[.bool (S.has (S.sumR a 6 false) 7),.bool ((S.sumR a 6 false)==0),.bool false,.bool (S.sumH a 6 false),.bool (S.par (S.sumR a 6 false)),.bool false,.bool false]])∧Adds w w':=by
 obtain rfl:=ho
 obtain ⟨rfl,hh⟩:=hi
 obtain ⟨r0,r1⟩:=S.sumR_bd a 6 false
 exact q1C6s
theorem rdaa80_3 (c:Int) (hc:¬c=2) (a:Int) (s z k ac p v cy:Bool) (a0:0≤a) (a1:a < 256) (ho:(ac=false∧9 < a % 16)) (hi:(cy=true)) (w:World):Calls Tryz.prog 174 #[.int .i64 c,.int .u8 a,.agg #[.bool s,.bool z,.bool k,.bool ac,.bool p,.bool v,.bool cy]] w fun e w'=>e=.returned (.tuple #[.int .u8 (S.sumR a 102 false),.agg #[.bool (S.has (S.sumR a 102 false) 7),.bool ((S.sumR a 102 false)==0),.bool false,.bool (S.sumH a 102 false),.bool (S.par (S.sumR a 102 false)),.bool false,.bool true]])∧Adds w w':=by
 obtain ⟨rfl,hl⟩:=ho
 obtain rfl:=hi
 obtain ⟨r0,r1⟩:=S.sumR_bd a 102 false
 exact q1C6s
theorem rdaa80_4 (c:Int) (hc:¬c=2) (a:Int) (s z k ac p v cy:Bool) (a0:0≤a) (a1:a < 256) (ho:(ac=false∧9 < a % 16)) (hi:(cy=false∧153 < a)) (w:World):Calls Tryz.prog 174 #[.int .i64 c,.int .u8 a,.agg #[.bool s,.bool z,.bool k,.bool ac,.bool p,.bool v,.bool cy]] w fun e w'=>e=.returned (.tuple #[.int .u8 (S.sumR a 102 false),.agg #[.bool (S.has (S.sumR a 102 false) 7),.bool ((S.sumR a 102 false)==0),.bool false,.bool (S.sumH a 102 false),.bool (S.par (S.sumR a 102 false)),.bool false,.bool true]])∧Adds w w':=by
 obtain ⟨rfl,hl⟩:=ho
 obtain ⟨rfl,hh⟩:=hi
 obtain ⟨r0,r1⟩:=S.sumR_bd a 102 false
 exact q1C6s
theorem rdaa80_5 (c:Int) (hc:¬c=2) (a:Int) (s z k ac p v cy:Bool) (a0:0≤a) (a1:a < 256) (ho:(ac=false∧9 < a % 16)) (hi:(cy=false∧¬153 < a)) (w:World):Calls Tryz.prog 174 #[.int .i64 c,.int .u8 a,.agg #[.bool s,.bool z,.bool k,.bool ac,.bool p,.bool v,.bool cy]] w fun e w'=>e=.returned (.tuple #[.int .u8 (S.sumR a 6 false),.agg #[.bool (S.has (S.sumR a 6 false) 7),.bool ((S.sumR a 6 false)==0),.bool false,.bool (S.sumH a 6 false),.bool (S.par (S.sumR a 6 false)),.bool false,.bool false]])∧Adds w w':=by
 obtain ⟨rfl,hl⟩:=ho
 obtain ⟨rfl,hh⟩:=hi
 obtain ⟨r0,r1⟩:=S.sumR_bd a 6 false
 exact q1C6s
theorem rdaa80_6 (c:Int) (hc:¬c=2) (a:Int) (s z k ac p v cy:Bool) (a0:0≤a) (a1:a < 256) (ho:(ac=false∧¬9 < a % 16)) (hi:(cy=true)) (w:World):Calls Tryz.prog 174 #[.int .i64 c,.int .u8 a,.agg #[.bool s,.bool z,.bool k,.bool ac,.bool p,.bool v,.bool cy]] w fun e w'=>e=.returned (.tuple #[.int .u8 (S.sumR a 96 false),.agg #[.bool (S.has (S.sumR a 96 false) 7),.bool ((S.sumR a 96 false)==0),.bool false,.bool (S.sumH a 96 false),.bool (S.par (S.sumR a 96 false)),.bool false,.bool true]])∧Adds w w':=by
 obtain ⟨rfl,hl⟩:=ho
 obtain rfl:=hi
 obtain ⟨r0,r1⟩:=S.sumR_bd a 96 false
 exact q1C6s
theorem rdaa80_7 (c:Int) (hc:¬c=2) (a:Int) (s z k ac p v cy:Bool) (a0:0≤a) (a1:a < 256) (ho:(ac=false∧¬9 < a % 16)) (hi:(cy=false∧153 < a)) (w:World):Calls Tryz.prog 174 #[.int .i64 c,.int .u8 a,.agg #[.bool s,.bool z,.bool k,.bool ac,.bool p,.bool v,.bool cy]] w fun e w'=>e=.returned (.tuple #[.int .u8 (S.sumR a 96 false),.agg #[.bool (S.has (S.sumR a 96 false) 7),.bool ((S.sumR a 96 false)==0),.bool false,.bool (S.sumH a 96 false),.bool (S.par (S.sumR a 96 false)),.bool false,.bool true]])∧Adds w w':=by
 obtain ⟨rfl,hl⟩:=ho
 obtain ⟨rfl,hh⟩:=hi
 obtain ⟨r0,r1⟩:=S.sumR_bd a 96 false
 exact q1C6s
theorem rdaa80_8 (c:Int) (hc:¬c=2) (a:Int) (s z k ac p v cy:Bool) (a0:0≤a) (a1:a < 256) (ho:(ac=false∧¬9 < a % 16)) (hi:(cy=false∧¬153 < a)) (w:World):Calls Tryz.prog 174 #[.int .i64 c,.int .u8 a,.agg #[.bool s,.bool z,.bool k,.bool ac,.bool p,.bool v,.bool cy]] w fun e w'=>e=.returned (.tuple #[.int .u8 (S.sumR a 0 false),.agg #[.bool (S.has (S.sumR a 0 false) 7),.bool ((S.sumR a 0 false)==0),.bool false,.bool (S.sumH a 0 false),.bool (S.par (S.sumR a 0 false)),.bool false,.bool false]])∧Adds w w':=by
 obtain ⟨rfl,hl⟩:=ho
 obtain ⟨rfl,hh⟩:=hi
 obtain ⟨r0,r1⟩:=S.sumR_bd a 0 false
 exact q1C6s
theorem rdaa80 (c:Int) (hc:¬c=2) (a:Int) (s z k ac p v cy:Bool) (a0:0≤a) (a1:a < 256) (w:World):Calls Tryz.prog 174 #[.int .i64 c,.int .u8 a,.agg #[.bool s,.bool z,.bool k,.bool ac,.bool p,.bool v,.bool cy]] w fun e w'=>e=.returned (.tuple #[.int .u8 (S.sumR a (S.dX a ac cy) false),.agg #[.bool (S.has (S.sumR a (S.dX a ac cy) false) 7),.bool ((S.sumR a (S.dX a ac cy) false)==0),.bool false,.bool (S.sumH a (S.dX a ac cy) false),.bool (S.par (S.sumR a (S.dX a ac cy) false)),.bool false,.bool (S.dH a cy)]])∧Adds w w':=by
 have key:∀(lo hi:Bool) (x:Int),(ac||decide (9 < a % 16))=lo→(cy||decide (153 < a))=hi→x=(if lo then 6 else 0)+(if hi then 96 else 0)→S.dX a ac cy=x∧S.dH a cy=hi:=by
  intro lo hi x h1 h2 h3
  unfold S.dX S.dH
  rw [h1,h2,h3]
  exact ⟨rfl,rfl⟩
 rcases (by cases ac<;>simp<;>omega:ac=true∨(ac=false∧9 < a % 16)∨(ac=false∧¬9 < a % 16)) with ho|ho|ho
 all_goals rcases (by cases cy<;>simp<;>omega:cy=true∨(cy=false∧153 < a)∨(cy=false∧¬153 < a)) with hi|hi|hi
 ·obtain ⟨e1,e2⟩:=key true true 102 (by simp [ho]) (by simp [hi]) rfl
  rw [e1,e2]
  exact rdaa80_0 c hc a s z k ac p v cy a0 a1 ho hi w
 ·obtain ⟨e1,e2⟩:=key true true 102 (by simp [ho]) (by simp [hi]) rfl
  rw [e1,e2]
  exact rdaa80_1 c hc a s z k ac p v cy a0 a1 ho hi w
 ·obtain ⟨e1,e2⟩:=key true false 6 (by simp [ho]) (by simp [hi]) rfl
  rw [e1,e2]
  exact rdaa80_2 c hc a s z k ac p v cy a0 a1 ho hi w
 ·obtain ⟨e1,e2⟩:=key true true 102 (by simp [ho]) (by simp [hi]) rfl
  rw [e1,e2]
  exact rdaa80_3 c hc a s z k ac p v cy a0 a1 ho hi w
 ·obtain ⟨e1,e2⟩:=key true true 102 (by simp [ho]) (by simp [hi]) rfl
  rw [e1,e2]
  exact rdaa80_4 c hc a s z k ac p v cy a0 a1 ho hi w
 ·obtain ⟨e1,e2⟩:=key true false 6 (by simp [ho]) (by simp [hi]) rfl
  rw [e1,e2]
  exact rdaa80_5 c hc a s z k ac p v cy a0 a1 ho hi w
 ·obtain ⟨e1,e2⟩:=key false true 96 (by simp [ho]) (by simp [hi]) rfl
  rw [e1,e2]
  exact rdaa80_6 c hc a s z k ac p v cy a0 a1 ho hi w
 ·obtain ⟨e1,e2⟩:=key false true 96 (by simp [ho]) (by simp [hi]) rfl
  rw [e1,e2]
  exact rdaa80_7 c hc a s z k ac p v cy a0 a1 ho hi w
 ·obtain ⟨e1,e2⟩:=key false false 0 (by simp [ho]) (by simp [hi]) rfl
  rw [e1,e2]
  exact rdaa80_8 c hc a s z k ac p v cy a0 a1 ho hi w
end K8
end Go.Proofs.YteggjjhjmhccjaaGreatDoor
