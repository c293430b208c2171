/- Texts that the proofs of the statements on dumps rest on, joined. Conditions stand in each theorem. -/
import Derived.Test.YteggjjhjmhccjaaGreatDoorQ02
set_option linter.unusedVariables false
set_option linter.unusedSimpArgs false
set_option maxRecDepth 100000
set_option maxHeartbeats 8000000
namespace Go.Proofs.YteggjjhjmhccjaaGreatDoor
open Go.ChangeShapes Go.WideShapes Go.ChangeAt Go.RowKit
namespace K8
theorem rdo80_0 (c op a b:Int) (s z k ac p v cy:Bool) (hc:¬c=2) (a0:0≤a) (a1:a < 256) (b0:0≤b) (b1:b < 256) (h8:op % 8=0) (w:World):Calls Tryz.prog 170 #[.int .i64 c,.int .i64 op,.int .u8 a,.int .u8 b,.agg #[.bool s,.bool z,.bool k,.bool ac,.bool p,.bool v,.bool cy]] w fun e w'=>e=.returned (.tuple #[.int .u8 (S.aX op a b cy),.agg #[.bool (S.has (S.aR op a b cy) 7),.bool (S.aR op a b cy==0),.bool (S.aK c op a b cy),.bool (S.aH c op a b cy),.bool (S.par (S.aR op a b cy)),.bool (S.aV c op a b cy),.bool (S.aO op a b cy)]])∧Adds w w':=by
 have h7:=S.and7 op
 rw [h8] at h7
 obtain ⟨e1,e2,e3,e4,e5,e6⟩:=S.al0 h8 c a b cy
 have e7:=S.aK80 hc op a b cy
 have e8:=S.aV80 hc op a b cy
 rw [e1,e2,e3,e6,e7,e8]
 clear e1 e2 e3 e4 e5 e6 e7 e8 h8
 obtain ⟨r0,r1⟩:=S.sumR_bd a b false
 go_enter Tryz.func170,Tryz.ntmps170
 go_wp2_with (first|(go_at_call 187;refine sm (rsum_any a0 a1 b0 b1) ?_)|(go_at_call 188;refine sm (rdif_any a0 a1 b0 b1) ?_)|(go_at_call 114;refine sm (ron_any) ?_)|(go_at_call 189;refine ad (rof_any r0 r1) fun n1 os1=> ?_))
 go_region_with (first|(go_at_call 191;refine sm (rmajority_any) ?_)|(go_at_call 190;refine ad (ronly80 hc) fun n2 os2=> ?_))
 all_goals go_wp2_with fail
 all_goals go_region
 all_goals go_wp2_with fail
 all_goals exact bodyPost_ret (v:=.tuple #[.int .u8 (S.sumR a b false),.agg #[.bool (S.has (S.sumR a b false) 7),.bool ((S.sumR a b false)==0),.bool false,.bool (S.sumH a b false),.bool (S.par (S.sumR a b false)),.bool false,.bool (S.sumO a b false)]]) (by simp [results,Tryz.results170,go_sem]) rfl ⟨by first|with_reducible rfl|simp [hc],aD⟩
theorem rdo80_1 (c op a b:Int) (s z k ac p v cy:Bool) (hc:¬c=2) (a0:0≤a) (a1:a < 256) (b0:0≤b) (b1:b < 256) (h8:op % 8=1) (w:World):Calls Tryz.prog 170 #[.int .i64 c,.int .i64 op,.int .u8 a,.int .u8 b,.agg #[.bool s,.bool z,.bool k,.bool ac,.bool p,.bool v,.bool cy]] w fun e w'=>e=.returned (.tuple #[.int .u8 (S.aX op a b cy),.agg #[.bool (S.has (S.aR op a b cy) 7),.bool (S.aR op a b cy==0),.bool (S.aK c op a b cy),.bool (S.aH c op a b cy),.bool (S.par (S.aR op a b cy)),.bool (S.aV c op a b cy),.bool (S.aO op a b cy)]])∧Adds w w':=by
 have h7:=S.and7 op
 rw [h8] at h7
 obtain ⟨e1,e2,e3,e4,e5,e6⟩:=S.al1 h8 c a b cy
 have e7:=S.aK80 hc op a b cy
 have e8:=S.aV80 hc op a b cy
 rw [e1,e2,e3,e6,e7,e8]
 clear e1 e2 e3 e4 e5 e6 e7 e8 h8
 obtain ⟨r0,r1⟩:=S.sumR_bd a b cy
 go_enter Tryz.func170,Tryz.ntmps170
 go_wp2_with (first|(go_at_call 187;refine sm (rsum_any a0 a1 b0 b1) ?_)|(go_at_call 188;refine sm (rdif_any a0 a1 b0 b1) ?_)|(go_at_call 114;refine sm (ron_any) ?_)|(go_at_call 189;refine ad (rof_any r0 r1) fun n1 os1=> ?_))
 go_region_with (first|(go_at_call 191;refine sm (rmajority_any) ?_)|(go_at_call 190;refine ad (ronly80 hc) fun n2 os2=> ?_))
 all_goals go_wp2_with fail
 all_goals go_region
 all_goals go_wp2_with fail
 all_goals exact bodyPost_ret (v:=.tuple #[.int .u8 (S.sumR a b cy),.agg #[.bool (S.has (S.sumR a b cy) 7),.bool ((S.sumR a b cy)==0),.bool false,.bool (S.sumH a b cy),.bool (S.par (S.sumR a b cy)),.bool false,.bool (S.sumO a b cy)]]) (by simp [results,Tryz.results170,go_sem]) rfl ⟨by first|with_reducible rfl|simp [hc],aD⟩
theorem rdo80_2 (c op a b:Int) (s z k ac p v cy:Bool) (hc:¬c=2) (a0:0≤a) (a1:a < 256) (b0:0≤b) (b1:b < 256) (h8:op % 8=2) (w:World):Calls Tryz.prog 170 #[.int .i64 c,.int .i64 op,.int .u8 a,.int .u8 b,.agg #[.bool s,.bool z,.bool k,.bool ac,.bool p,.bool v,.bool cy]] w fun e w'=>e=.returned (.tuple #[.int .u8 (S.aX op a b cy),.agg #[.bool (S.has (S.aR op a b cy) 7),.bool (S.aR op a b cy==0),.bool (S.aK c op a b cy),.bool (S.aH c op a b cy),.bool (S.par (S.aR op a b cy)),.bool (S.aV c op a b cy),.bool (S.aO op a b cy)]])∧Adds w w':=by
 have h7:=S.and7 op
 rw [h8] at h7
 obtain ⟨e1,e2,e3,e4,e5,e6⟩:=S.al2 h8 c a b cy
 have e7:=S.aK80 hc op a b cy
 have e8:=S.aV80 hc op a b cy
 rw [e1,e2,e3,e6,e7,e8]
 clear e1 e2 e3 e4 e5 e6 e7 e8 h8
 obtain ⟨r0,r1⟩:=S.difR_bd a b false
 go_enter Tryz.func170,Tryz.ntmps170
 go_wp2_with (first|(go_at_call 187;refine sm (rsum_any a0 a1 b0 b1) ?_)|(go_at_call 188;refine sm (rdif_any a0 a1 b0 b1) ?_)|(go_at_call 114;refine sm (ron_any) ?_)|(go_at_call 189;refine ad (rof_any r0 r1) fun n1 os1=> ?_))
 go_region_with (first|(go_at_call 191;refine sm (rmajority_any) ?_)|(go_at_call 190;refine ad (ronly80 hc) fun n2 os2=> ?_))
 all_goals go_wp2_with fail
 all_goals go_region
 all_goals go_wp2_with fail
 all_goals exact bodyPost_ret (v:=.tuple #[.int .u8 (S.difR a b false),.agg #[.bool (S.has (S.difR a b false) 7),.bool ((S.difR a b false)==0),.bool false,.bool (S.difH a b false),.bool (S.par (S.difR a b false)),.bool false,.bool (S.difO a b false)]]) (by simp [results,Tryz.results170,go_sem]) rfl ⟨by first|with_reducible rfl|simp [hc],aD⟩
theorem rdo80_3 (c op a b:Int) (s z k ac p v cy:Bool) (hc:¬c=2) (a0:0≤a) (a1:a < 256) (b0:0≤b) (b1:b < 256) (h8:op % 8=3) (w:World):Calls Tryz.prog 170 #[.int .i64 c,.int .i64 op,.int .u8 a,.int .u8 b,.agg #[.bool s,.bool z,.bool k,.bool ac,.bool p,.bool v,.bool cy]] w fun e w'=>e=.returned (.tuple #[.int .u8 (S.aX op a b cy),.agg #[.bool (S.has (S.aR op a b cy) 7),.bool (S.aR op a b cy==0),.bool (S.aK c op a b cy),.bool (S.aH c op a b cy),.bool (S.par (S.aR op a b cy)),.bool (S.aV c op a b cy),.bool (S.aO op a b cy)]])∧Adds w w':=by
 have h7:=S.and7 op
 rw [h8] at h7
 obtain ⟨e1,e2,e3,e4,e5,e6⟩:=S.al3 h8 c a b cy
 have e7:=S.aK80 hc op a b cy
 have e8:=S.aV80 hc op a b cy
 rw [e1,e2,e3,e6,e7,e8]
 clear e1 e2 e3 e4 e5 e6 e7 e8 h8
 obtain ⟨r0,r1⟩:=S.difR_bd a b cy
 go_enter Tryz.func170,Tryz.ntmps170
 go_wp2_with (first|(go_at_call 187;refine sm (rsum_any a0 a1 b0 b1) ?_)|(go_at_call 188;refine sm (rdif_any a0 a1 b0 b1) ?_)|(go_at_call 114;refine sm (ron_any) ?_)|(go_at_call 189;refine ad (rof_any r0 r1) fun n1 os1=> ?_))
 go_region_with (first|(go_at_call 191;refine sm (rmajority_any) ?_)|(go_at_call 190;refine ad (ronly80 hc) fun n2 os2=> ?_))
 all_goals go_wp2_with fail
 all_goals go_region
 all_goals go_wp2_with fail
 all_goals exact bodyPost_ret (v:=.tuple #[.int .u8 (S.difR a b cy),.agg #[.bool (S.has (S.difR a b cy) 7),.bool ((S.difR a b cy)==0),.bool false,.bool (S.difH a b cy),.bool (S.par (S.difR a b cy)),.bool false,.bool (S.difO a b cy)]]) (by simp [results,Tryz.results170,go_sem]) rfl ⟨by first|with_reducible rfl|simp [hc],aD⟩
theorem rdo80_4 (c op a b:Int) (s z k ac p v cy:Bool) (hc:¬c=2) (a0:0≤a) (a1:a < 256) (b0:0≤b) (b1:b < 256) (h8:op % 8=4) (w:World):Calls Tryz.prog 170 #[.int .i64 c,.int .i64 op,.int .u8 a,.int .u8 b,.agg #[.bool s,.bool z,.bool k,.bool ac,.bool p,.bool v,.bool cy]] w fun e w'=>e=.returned (.tuple #[.int .u8 (S.aX op a b cy),.agg #[.bool (S.has (S.aR op a b cy) 7),.bool (S.aR op a b cy==0),.bool (S.aK c op a b cy),.bool (S.aH c op a b cy),.bool (S.par (S.aR op a b cy)),.bool (S.aV c op a b cy),.bool (S.aO op a b cy)]])∧Adds w w':=by
 have h7:=S.and7 op
 rw [h8] at h7
 obtain ⟨e1,e2,e3,e4,e5,e6⟩:=S.al4 h8 c a b cy
 have e7:=S.aK80 hc op a b cy
 have e8:=S.aV80 hc op a b cy
 rw [e1,e2,e3,e6,e7,e8]
 clear e1 e2 e3 e4 e5 e6 e7 e8 h8
 obtain ⟨r0,r1⟩:=S.and_bd a b
 go_enter Tryz.func170,Tryz.ntmps170
 go_wp2_with (first|(go_at_call 187;refine sm (rsum_any a0 a1 b0 b1) ?_)|(go_at_call 188;refine sm (rdif_any a0 a1 b0 b1) ?_)|(go_at_call 114;refine sm (ron_any) ?_)|(go_at_call 189;refine ad (rof_any r0 r1) fun n1 os1=> ?_))
 go_region_with (first|(go_at_call 191;refine sm (rmajority_any) ?_)|(go_at_call 190;refine ad (ronly80 hc) fun n2 os2=> ?_))
 all_goals go_wp2_with fail
 all_goals go_region
 all_goals go_wp2_with fail
 all_goals exact bodyPost_ret (v:=.tuple #[.int .u8 ((bits .and .u8 a b)),.agg #[.bool (S.has ((bits .and .u8 a b)) 7),.bool (((bits .and .u8 a b))==0),.bool false,.bool ((bits .and .u8 (bits .or .u8 a b) 8 !=0)),.bool (S.par ((bits .and .u8 a b))),.bool false,.bool (false)]]) (by simp [results,Tryz.results170,go_sem]) rfl ⟨by first|with_reducible rfl|simp [hc],aD⟩
theorem rdo80_5 (c op a b:Int) (s z k ac p v cy:Bool) (hc:¬c=2) (a0:0≤a) (a1:a < 256) (b0:0≤b) (b1:b < 256) (h8:op % 8=5) (w:World):Calls Tryz.prog 170 #[.int .i64 c,.int .i64 op,.int .u8 a,.int .u8 b,.agg #[.bool s,.bool z,.bool k,.bool ac,.bool p,.bool v,.bool cy]] w fun e w'=>e=.returned (.tuple #[.int .u8 (S.aX op a b cy),.agg #[.bool (S.has (S.aR op a b cy) 7),.bool (S.aR op a b cy==0),.bool (S.aK c op a b cy),.bool (S.aH c op a b cy),.bool (S.par (S.aR op a b cy)),.bool (S.aV c op a b cy),.bool (S.aO op a b cy)]])∧Adds w w':=by
 have h7:=S.and7 op
 rw [h8] at h7
 obtain ⟨e1,e2,e3,e4,e5,e6⟩:=S.al5 h8 c a b cy
 have e7:=S.aK80 hc op a b cy
 have e8:=S.aV80 hc op a b cy
 rw [e1,e2,e3,e6,e7,e8]
 clear e1 e2 e3 e4 e5 e6 e7 e8 h8
 obtain ⟨r0,r1⟩:=S.xor_bd a b
 go_enter Tryz.func170,Tryz.ntmps170
 go_wp2_with (first|(go_at_call 187;refine sm (rsum_any a0 a1 b0 b1) ?_)|(go_at_call 188;refine sm (rdif_any a0 a1 b0 b1) ?_)|(go_at_call 114;refine sm (ron_any) ?_)|(go_at_call 189;refine ad (rof_any r0 r1) fun n1 os1=> ?_))
 go_region_with (first|(go_at_call 191;refine sm (rmajority_any) ?_)|(go_at_call 190;refine ad (ronly80 hc) fun n2 os2=> ?_))
 all_goals go_wp2_with fail
 all_goals go_region
 all_goals go_wp2_with fail
 all_goals exact bodyPost_ret (v:=.tuple #[.int .u8 ((bits .xor .u8 a b)),.agg #[.bool (S.has ((bits .xor .u8 a b)) 7),.bool (((bits .xor .u8 a b))==0),.bool false,.bool (false),.bool (S.par ((bits .xor .u8 a b))),.bool false,.bool (false)]]) (by simp [results,Tryz.results170,go_sem]) rfl ⟨by first|with_reducible rfl|simp [hc],aD⟩
theorem rdo80_6 (c op a b:Int) (s z k ac p v cy:Bool) (hc:¬c=2) (a0:0≤a) (a1:a < 256) (b0:0≤b) (b1:b < 256) (h8:op % 8=6) (w:World):Calls Tryz.prog 170 #[.int .i64 c,.int .i64 op,.int .u8 a,.int .u8 b,.agg #[.bool s,.bool z,.bool k,.bool ac,.bool p,.bool v,.bool cy]] w fun e w'=>e=.returned (.tuple #[.int .u8 (S.aX op a b cy),.agg #[.bool (S.has (S.aR op a b cy) 7),.bool (S.aR op a b cy==0),.bool (S.aK c op a b cy),.bool (S.aH c op a b cy),.bool (S.par (S.aR op a b cy)),.bool (S.aV c op a b cy),.bool (S.aO op a b cy)]])∧Adds w w':=by
 have h7:=S.and7 op
 rw [h8] at h7
 obtain ⟨e1,e2,e3,e4,e5,e6⟩:=S.al6 h8 c a b cy
 have e7:=S.aK80 hc op a b cy
 have e8:=S.aV80 hc op a b cy
 rw [e1,e2,e3,e6,e7,e8]
 clear e1 e2 e3 e4 e5 e6 e7 e8 h8
 obtain ⟨r0,r1⟩:=S.or_bd a b
 go_enter Tryz.func170,Tryz.ntmps170
 go_wp2_with (first|(go_at_call 187;refine sm (rsum_any a0 a1 b0 b1) ?_)|(go_at_call 188;refine sm (rdif_any a0 a1 b0 b1) ?_)|(go_at_call 114;refine sm (ron_any) ?_)|(go_at_call 189;refine ad (rof_any r0 r1) fun n1 os1=> ?_))
 go_region_with (first|(go_at_call 191;refine sm (rmajority_any) ?_)|(go_at_call 190;refine ad (ronly80 hc) fun n2 os2=> ?_))
 all_goals go_wp2_with fail
 all_goals go_region
 all_goals go_wp2_with fail
 all_goals exact bodyPost_ret (v:=.tuple #[.int .u8 ((bits .or .u8 a b)),.agg #[.bool (S.has ((bits .or .u8 a b)) 7),.bool (((bits .or .u8 a b))==0),.bool false,.bool (false),.bool (S.par ((bits .or .u8 a b))),.bool false,.bool (false)]]) (by simp [results,Tryz.results170,go_sem]) rfl ⟨by first|with_reducible rfl|simp [hc],aD⟩
theorem rdo80_7 (c op a b:Int) (s z k ac p v cy:Bool) (hc:¬c=2) (a0:0≤a) (a1:a < 256) (b0:0≤b) (b1:b < 256) (h8:op % 8=7) (w:World):Calls Tryz.prog 170 #[.int .i64 c,.int .i64 op,.int .u8 a,.int .u8 b,.agg #[.bool s,.bool z,.bool k,.bool ac,.bool p,.bool v,.bool cy]] w fun e w'=>e=.returned (.tuple #[.int .u8 (S.aX op a b cy),.agg #[.bool (S.has (S.aR op a b cy) 7),.bool (S.aR op a b cy==0),.bool (S.aK c op a b cy),.bool (S.aH c op a b cy),.bool (S.par (S.aR op a b cy)),.bool (S.aV c op a b cy),.bool (S.aO op a b cy)]])∧Adds w w':=by
 have h7:=S.and7 op
 rw [h8] at h7
 obtain ⟨e1,e2,e3,e4,e5,e6⟩:=S.al7 h8 c a b cy
 have e7:=S.aK80 hc op a b cy
 have e8:=S.aV80 hc op a b cy
 rw [e1,e2,e3,e6,e7,e8]
 clear e1 e2 e3 e4 e5 e6 e7 e8 h8
 obtain ⟨r0,r1⟩:=S.difR_bd a b false
 go_enter Tryz.func170,Tryz.ntmps170
 go_wp2_with (first|(go_at_call 187;refine sm (rsum_any a0 a1 b0 b1) ?_)|(go_at_call 188;refine sm (rdif_any a0 a1 b0 b1) ?_)|(go_at_call 114;refine sm (ron_any) ?_)|(go_at_call 189;refine ad (rof_any r0 r1) fun n1 os1=> ?_))
 go_region_with (first|(go_at_call 191;refine sm (rmajority_any) ?_)|(go_at_call 190;refine ad (ronly80 hc) fun n2 os2=> ?_))
 all_goals go_wp2_with fail
 all_goals go_region
 all_goals go_wp2_with fail
 all_goals exact bodyPost_ret (v:=.tuple #[.int .u8 (a),.agg #[.bool (S.has (S.difR a b false) 7),.bool ((S.difR a b false)==0),.bool false,.bool (S.difH a b false),.bool (S.par (S.difR a b false)),.bool false,.bool (S.difO a b false)]]) (by simp [results,Tryz.results170,go_sem]) rfl ⟨by first|with_reducible rfl|simp [hc],aD⟩
end K8
end Go.Proofs.YteggjjhjmhccjaaGreatDoor
