/- Texts that the proofs of GrammarTraces and GrammarCounts rest on, joined. Conditions stand in each theorem. -/
import Derived.Test.YteggjjhjmhccjaaGreatQ00
set_option linter.unusedVariables false
set_option linter.unusedSimpArgs false
set_option maxRecDepth 100000
set_option maxHeartbeats 8000000
namespace Go.Proofs.YteggjjhjmhccjaaGreat
open Go.ChangeShapes Go.WideShapes Go.ChangeAt Go.RowKit
section
theorem q1C26b {P:Prop} (h:P:=by
 go_enter Tryz.func80,Tryz.ntmps80
 go_wp2_with (first|(go_at_call 113;refine ad (st_lines c) fun n0 os0=> ?_))
 try go_region
 all_goals go_wp2_with fail
 exact bodyPost_ret (ret_Pins Tryz.results80 rfl (by simp [go_sem,S.pn,S.Pn.cs,S.tr]) rfl) rfl ⟨rfl,aD⟩):P:=h
theorem pins85_1 (x:S.It) (hk:x.k=1) (w:World):Calls Tryz.prog 80 #[.agg #[.int .i64 1,.int .u16 (x.a),.int .u8 ((S.tr x.c x.d 1)),.bool false,.bool false,.bool false,.bool false,.bool false,.bool false,.bool false,.bool false,.bool false,.bool false,.bool false,.bool false,.bool false,.bool false],.agg #[.int .i64 x.k,.int .i64 x.c,.int .u16 x.a,.int .u8 x.d,.int .i64 x.s,.int .i64 x.w,.int .i64 x.n,.bool x.e,.bool x.o]] w fun e w'=>e=.returned (.agg (S.pn true x 1).cs)∧Adds w w':=by
 obtain ⟨k,c,a,d,s,ww,n,e,o⟩:=x
 obtain rfl:k=1:=hk
 simp only []
 exact q1C26b
theorem pins85_4 (x:S.It) (hk:x.k=1) (w:World):Calls Tryz.prog 80 #[.agg #[.int .i64 4,.int .u16 (x.a),.int .u8 ((S.tr x.c x.d 4)),.bool false,.bool false,.bool false,.bool false,.bool false,.bool false,.bool false,.bool false,.bool false,.bool false,.bool false,.bool false,.bool false,.bool false],.agg #[.int .i64 x.k,.int .i64 x.c,.int .u16 x.a,.int .u8 x.d,.int .i64 x.s,.int .i64 x.w,.int .i64 x.n,.bool x.e,.bool x.o]] w fun e w'=>e=.returned (.agg (S.pn true x 4).cs)∧Adds w w':=by
 obtain ⟨k,c,a,d,s,ww,n,e,o⟩:=x
 obtain rfl:k=1:=hk
 simp only []
 exact q1C26b
theorem pins85_5 (x:S.It) (hk:x.k=1) (w:World):Calls Tryz.prog 80 #[.agg #[.int .i64 5,.int .u16 (x.a),.int .u8 ((S.tr x.c x.d 5)),.bool false,.bool false,.bool false,.bool false,.bool false,.bool false,.bool false,.bool false,.bool false,.bool false,.bool false,.bool false,.bool false,.bool false],.agg #[.int .i64 x.k,.int .i64 x.c,.int .u16 x.a,.int .u8 x.d,.int .i64 x.s,.int .i64 x.w,.int .i64 x.n,.bool x.e,.bool x.o]] w fun e w'=>e=.returned (.agg (S.pn true x 5).cs)∧Adds w w':=by
 obtain ⟨k,c,a,d,s,ww,n,e,o⟩:=x
 obtain rfl:k=1:=hk
 simp only []
 exact q1C26b
theorem pins85_6 (x:S.It) (hk:x.k=1) (w:World):Calls Tryz.prog 80 #[.agg #[.int .i64 6,.int .u16 (x.a),.int .u8 ((S.tr x.c x.d 6)),.bool false,.bool false,.bool false,.bool false,.bool false,.bool false,.bool false,.bool false,.bool false,.bool false,.bool false,.bool false,.bool false,.bool false],.agg #[.int .i64 x.k,.int .i64 x.c,.int .u16 x.a,.int .u8 x.d,.int .i64 x.s,.int .i64 x.w,.int .i64 x.n,.bool x.e,.bool x.o]] w fun e w'=>e=.returned (.agg (S.pn true x 6).cs)∧Adds w w':=by
 obtain ⟨k,c,a,d,s,ww,n,e,o⟩:=x
 obtain rfl:k=1:=hk
 simp only []
 exact q1C26b
theorem pins85_8 (x:S.It) (hk:x.k=2) (w:World):Calls Tryz.prog 80 #[.agg #[.int .i64 8,.int .u16 (0),.int .u8 (0),.bool false,.bool false,.bool false,.bool false,.bool false,.bool false,.bool false,.bool false,.bool false,.bool false,.bool false,.bool false,.bool true,.bool true],.agg #[.int .i64 x.k,.int .i64 x.c,.int .u16 x.a,.int .u8 x.d,.int .i64 x.s,.int .i64 x.w,.int .i64 x.n,.bool x.e,.bool x.o]] w fun e w'=>e=.returned (.agg (S.pn true x 8).cs)∧Adds w w':=by
 obtain ⟨k,c,a,d,s,ww,n,e,o⟩:=x
 obtain rfl:k=2:=hk
 simp only []
 exact q1C26b
theorem pins85_9 (x:S.It) (hk:x.k=3) (w:World):Calls Tryz.prog 80 #[.agg #[.int .i64 9,.int .u16 (0),.int .u8 (0),.bool false,.bool false,.bool false,.bool false,.bool false,.bool false,.bool false,.bool false,.bool false,.bool false,.bool false,.bool false,.bool false,.bool false],.agg #[.int .i64 x.k,.int .i64 x.c,.int .u16 x.a,.int .u8 x.d,.int .i64 x.s,.int .i64 x.w,.int .i64 x.n,.bool x.e,.bool x.o]] w fun e w'=>e=.returned (.agg (S.pn true x 9).cs)∧Adds w w':=by
 obtain ⟨k,c,a,d,s,ww,n,e,o⟩:=x
 obtain rfl:k=3:=hk
 simp only []
 exact q1C26b
theorem pins85_10 (x:S.It) (hk:x.k=4) (w:World):Calls Tryz.prog 80 #[.agg #[.int .i64 10,.int .u16 (0),.int .u8 (0),.bool false,.bool false,.bool false,.bool false,.bool false,.bool false,.bool false,.bool false,.bool false,.bool false,.bool false,.bool false,.bool false,.bool false],.agg #[.int .i64 x.k,.int .i64 x.c,.int .u16 x.a,.int .u8 x.d,.int .i64 x.s,.int .i64 x.w,.int .i64 x.n,.bool x.e,.bool x.o]] w fun e w'=>e=.returned (.agg (S.pn true x 10).cs)∧Adds w w':=by
 obtain ⟨k,c,a,d,s,ww,n,e,o⟩:=x
 obtain rfl:k=4:=hk
 simp only []
 exact q1C26b
theorem q2C26b {P:Prop} (h:P:=by
 have hA:S.ack c=false:=by simp [S.ack,h8,h9]
 have g8:(c==8)=false:=by simpa using h8
 have g9:(c==9)=false:=by simpa using h9
 clear h8 h9
 cases hR:S.stR c
 all_goals
  go_enter Tryz.func80,Tryz.ntmps80
  go_wp2_with (first|(go_at_call 113;refine ad (st_lines c) fun n0 os0=> ?_)|(go_at_call 111;refine ad (st_writes c) fun n1 os1=> ?_)|(go_at_call 112;refine ad (st_reads c) fun n2 os2=> ?_;rw [hR]))
  exact bodyPost_ret (ret_Pins Tryz.results80 rfl (by simp [go_sem,S.pn,S.Pn.cs,hA,hR]) rfl) rfl ⟨rfl,aD⟩):P:=h
theorem q3C26b {P:Prop} (h:P:=by
 subst h8
 go_enter Tryz.func80,Tryz.ntmps80
 go_wp2_with (first|(go_at_call 113;refine ad (st_lines 8) fun n0 os0=> ?_)|(go_at_call 111;refine ad (st_writes 8) fun n1 os1=> ?_;rw [show S.stW 8=false from rfl])|(go_at_call 112;refine ad (st_reads 8) fun n2 os2=> ?_;rw [show S.stR 8=true from rfl]))
 exact bodyPost_ret (ret_Pins Tryz.results80 rfl (by simp [go_sem,S.pn,S.Pn.cs,show S.ack 8=true from rfl,show S.stW 8=false from rfl]) rfl) rfl ⟨rfl,aD⟩):P:=h
theorem q4C26b {P:Prop} (h:P:=by
 subst h9
 go_enter Tryz.func80,Tryz.ntmps80
 go_wp2_with (first|(go_at_call 113;refine ad (st_lines 9) fun n0 os0=> ?_)|(go_at_call 111;refine ad (st_writes 9) fun n1 os1=> ?_;rw [show S.stW 9=false from rfl])|(go_at_call 112;refine ad (st_reads 9) fun n2 os2=> ?_;rw [show S.stR 9=true from rfl]))
 exact bodyPost_ret (ret_Pins Tryz.results80 rfl (by simp [go_sem,S.pn,S.Pn.cs,show S.ack 9=true from rfl,show S.stW 9=false from rfl]) rfl) rfl ⟨rfl,aD⟩):P:=h
theorem pins85_2 (x:S.It) (hk:x.k=1) (w:World):Calls Tryz.prog 80 #[.agg #[.int .i64 2,.int .u16 x.a,.int .u8 (S.tr x.c x.d 2),.bool false,.bool false,.bool false,.bool false,.bool false,.bool false,.bool false,.bool false,.bool false,.bool false,.bool false,.bool false,.bool false,.bool false],.agg #[.int .i64 x.k,.int .i64 x.c,.int .u16 x.a,.int .u8 x.d,.int .i64 x.s,.int .i64 x.w,.int .i64 x.n,.bool x.e,.bool x.o]] w fun e w'=>e=.returned (.agg (S.pn true x 2).cs)∧Adds w w':=by
 obtain ⟨k,c,a,d,s,ww,n,e,o⟩:=x
 obtain rfl:k=1:=hk
 simp only []
 by_cases h8:c=8
 ·exact q3C26b
 by_cases h9:c=9
 ·exact q4C26b
 ·exact q2C26b
theorem pins85_3 (x:S.It) (hk:x.k=1) (w:World):Calls Tryz.prog 80 #[.agg #[.int .i64 3,.int .u16 x.a,.int .u8 (S.tr x.c x.d 3),.bool false,.bool false,.bool false,.bool false,.bool false,.bool false,.bool false,.bool false,.bool false,.bool false,.bool false,.bool false,.bool false,.bool false],.agg #[.int .i64 x.k,.int .i64 x.c,.int .u16 x.a,.int .u8 x.d,.int .i64 x.s,.int .i64 x.w,.int .i64 x.n,.bool x.e,.bool x.o]] w fun e w'=>e=.returned (.agg (S.pn true x 3).cs)∧Adds w w':=by
 obtain ⟨k,c,a,d,s,ww,n,e,o⟩:=x
 obtain rfl:k=1:=hk
 simp only []
 by_cases h8:c=8
 ·exact q3C26b
 by_cases h9:c=9
 ·exact q4C26b
 ·exact q2C26b
theorem pins85_7 (x:S.It) (hk:x.k=1) (w:World):Calls Tryz.prog 80 #[.agg #[.int .i64 7,.int .u16 x.a,.int .u8 (S.tr x.c x.d 7),.bool false,.bool false,.bool false,.bool false,.bool false,.bool false,.bool false,.bool false,.bool false,.bool false,.bool false,.bool false,.bool false,.bool false],.agg #[.int .i64 x.k,.int .i64 x.c,.int .u16 x.a,.int .u8 x.d,.int .i64 x.s,.int .i64 x.w,.int .i64 x.n,.bool x.e,.bool x.o]] w fun e w'=>e=.returned (.agg (S.pn true x 7).cs)∧Adds w w':=by
 obtain ⟨k,c,a,d,s,ww,n,e,o⟩:=x
 obtain rfl:k=1:=hk
 simp only []
 by_cases h8:c=8
 ·exact q3C26b
 by_cases h9:c=9
 ·exact q4C26b
 ·exact q2C26b
end
end Go.Proofs.YteggjjhjmhccjaaGreat
