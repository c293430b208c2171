/- Texts that the proofs of the statements on dumps rest on, joined. Conditions stand in each theorem. -/
import Derived.Test.YteggjjhjmhccjaaGreatDoorQ02
set_option linter.unusedVariables false
set_option linter.unusedSimpArgs false
set_option maxRecDepth 100000
set_option maxHeartbeats 8000000
namespace Go.Proofs.YteggjjhjmhccjaaGreatDoor
open Go.ChangeShapes Go.WideShapes Go.ChangeAt Go.RowKit
section
theorem on85_any (ch:Int) (w:World):Calls Tryz.prog 114 #[.int .i64 ch] w fun e w'=>e=.returned (.bool (ch==2))∧w=w':=by
 go_enter Tryz.func114,Tryz.ntmps114
 go_wp2
 go_ret
 exact ⟨rfl,rfl⟩
theorem on85_is (ch:Int) (r:Bool) (h:(ch==2)=r) {w:World}:Calls Tryz.prog 114 #[.int .i64 ch] w fun e w'=>e=.returned (.bool r)∧w=w':=h▸on85_any ch w
theorem rreads_is (c:Int) (r:Bool) (h:S.stR c=r) (w:World):Calls Tryz.prog 71 #[.int .i64 c] w fun e w'=>e=.returned (.bool r)∧Adds w w':=h▸rst_reads c w
theorem rwrites_is (c:Int) (r:Bool) (h:S.stW c=r) (w:World):Calls Tryz.prog 67 #[.int .i64 c] w fun e w'=>e=.returned (.bool r)∧Adds w w':=h▸rst_writes c w
theorem stR_8:S.stR 8=true:=rfl
theorem stW_8:S.stW 8=false:=rfl
theorem ack_8:S.ack 8=true:=rfl
theorem stR_9:S.stR 9=true:=rfl
theorem stW_9:S.stW 9=false:=rfl
theorem ack_9:S.ack 9=true:=rfl
theorem q2C26e {P:Prop} (h:P:=by
 go_enter Tryz.func101,Tryz.ntmps101
 go_wp2_with (go_at_call 114;refine sm (on85_is ch true HC.out) ?_)
 refine qt ?_
 repeat (go_big_quiet_step (first|(go_at_call 71;exact calls_adds (rst_reads _ _))|(go_at_call 67;exact calls_adds (rst_writes _ _))))
 refine qn fun nq osq=> ?_
 go_wp2_with fail
 exact bodyPost_ret (ret_Pins Tryz.results101 rfl (by simp [go_sem,S.pn,S.Pn.cs]) rfl) rfl ⟨rfl,aD⟩):P:=h
theorem q3C26e {P:Prop} (h:P:=by
 have g8:(c'==8)=false:=by simpa using h8
 have g9:(c'==9)=false:=by simpa using h9
 clear h8 h9
 exact q2C26e):P:=h
theorem rpins_8_true (ch c a d s q:Int) (e o:Bool) (x:S.It) (hx:x.c=c∧x.a=a∧x.d=d∧x.e=e∧x.o=o) (hc:(ch==2)=true) (w:World):Calls Tryz.prog 101 #[.int .i64 ch,.int .i64 8,.agg #[.int .i64 c,.int .u16 a,.int .u8 d,.int .i64 s],.int .u8 q,.bool e,.bool o] w fun r w'=>r=.returned (.agg (S.pn true x 8).cs)∧Adds w w':=by
 obtain ⟨k,c',a',d',s',ww,n,e',o'⟩:=x
 obtain ⟨rfl,rfl,rfl,rfl,rfl⟩:=hx
 simp only []
 have HC:=Lib.hid hc
 clear hc
 by_cases h8:c'=8
 ·subst h8
  exact q2C26e
 by_cases h9:c'=9
 ·subst h9
  exact q2C26e
 ·exact q3C26e
theorem q1C26e {P:Prop} (h:P:=by
 go_enter Tryz.func101,Tryz.ntmps101
 go_wp2_with (go_at_call 114;refine sm (on85_is ch false HC.out) ?_)
 refine qt ?_
 repeat (go_big_quiet_step (first|(go_at_call 71;exact calls_adds (rst_reads _ _))|(go_at_call 67;exact calls_adds (rst_writes _ _))))
 refine qn fun nq osq=> ?_
 go_wp2_with fail
 exact bodyPost_ret (ret_Pins Tryz.results101 rfl (by simp [go_sem,S.pn,S.Pn.cs]) rfl) rfl ⟨rfl,aD⟩):P:=h
theorem q4C26e {P:Prop} (h:P:=by
 have g8:(c'==8)=false:=by simpa using h8
 have g9:(c'==9)=false:=by simpa using h9
 clear h8 h9
 exact q1C26e):P:=h
theorem rpins_8_false (ch c a d s q:Int) (e o:Bool) (x:S.It) (hx:x.c=c∧x.a=a∧x.d=d∧x.e=e∧x.o=o) (hc:(ch==2)=false) (w:World):Calls Tryz.prog 101 #[.int .i64 ch,.int .i64 8,.agg #[.int .i64 c,.int .u16 a,.int .u8 d,.int .i64 s],.int .u8 q,.bool e,.bool o] w fun r w'=>r=.returned (.agg (S.pn false x 8).cs)∧Adds w w':=by
 obtain ⟨k,c',a',d',s',ww,n,e',o'⟩:=x
 obtain ⟨rfl,rfl,rfl,rfl,rfl⟩:=hx
 simp only []
 have HC:=Lib.hid hc
 clear hc
 by_cases h8:c'=8
 ·subst h8
  exact q1C26e
 by_cases h9:c'=9
 ·subst h9
  exact q1C26e
 ·exact q4C26e
theorem rpins_9_true (ch c a d s q:Int) (e o:Bool) (x:S.It) (hx:x.c=c∧x.a=a∧x.d=d∧x.e=e∧x.o=o) (hc:(ch==2)=true) (w:World):Calls Tryz.prog 101 #[.int .i64 ch,.int .i64 9,.agg #[.int .i64 c,.int .u16 a,.int .u8 d,.int .i64 s],.int .u8 q,.bool e,.bool o] w fun r w'=>r=.returned (.agg (S.pn true x 9).cs)∧Adds w w':=by
 obtain ⟨k,c',a',d',s',ww,n,e',o'⟩:=x
 obtain ⟨rfl,rfl,rfl,rfl,rfl⟩:=hx
 simp only []
 have HC:=Lib.hid hc
 clear hc
 by_cases h8:c'=8
 ·subst h8
  exact q2C26e
 by_cases h9:c'=9
 ·subst h9
  exact q2C26e
 ·exact q3C26e
theorem rpins_9_false (ch c a d s q:Int) (e o:Bool) (x:S.It) (hx:x.c=c∧x.a=a∧x.d=d∧x.e=e∧x.o=o) (hc:(ch==2)=false) (w:World):Calls Tryz.prog 101 #[.int .i64 ch,.int .i64 9,.agg #[.int .i64 c,.int .u16 a,.int .u8 d,.int .i64 s],.int .u8 q,.bool e,.bool o] w fun r w'=>r=.returned (.agg (S.pn false x 9).cs)∧Adds w w':=by
 obtain ⟨k,c',a',d',s',ww,n,e',o'⟩:=x
 obtain ⟨rfl,rfl,rfl,rfl,rfl⟩:=hx
 simp only []
 have HC:=Lib.hid hc
 clear hc
 by_cases h8:c'=8
 ·subst h8
  exact q1C26e
 by_cases h9:c'=9
 ·subst h9
  exact q1C26e
 ·exact q4C26e
theorem rpins_10_true (ch c a d s q:Int) (e o:Bool) (x:S.It) (hx:x.c=c∧x.a=a∧x.d=d∧x.e=e∧x.o=o) (hc:(ch==2)=true) (w:World):Calls Tryz.prog 101 #[.int .i64 ch,.int .i64 10,.agg #[.int .i64 c,.int .u16 a,.int .u8 d,.int .i64 s],.int .u8 q,.bool e,.bool o] w fun r w'=>r=.returned (.agg (S.pn true x 10).cs)∧Adds w w':=by
 obtain ⟨k,c',a',d',s',ww,n,e',o'⟩:=x
 obtain ⟨rfl,rfl,rfl,rfl,rfl⟩:=hx
 simp only []
 have HC:=Lib.hid hc
 clear hc
 by_cases h8:c'=8
 ·subst h8
  exact q2C26e
 by_cases h9:c'=9
 ·subst h9
  exact q2C26e
 ·exact q3C26e
theorem rpins_10_false (ch c a d s q:Int) (e o:Bool) (x:S.It) (hx:x.c=c∧x.a=a∧x.d=d∧x.e=e∧x.o=o) (hc:(ch==2)=false) (w:World):Calls Tryz.prog 101 #[.int .i64 ch,.int .i64 10,.agg #[.int .i64 c,.int .u16 a,.int .u8 d,.int .i64 s],.int .u8 q,.bool e,.bool o] w fun r w'=>r=.returned (.agg (S.pn false x 10).cs)∧Adds w w':=by
 obtain ⟨k,c',a',d',s',ww,n,e',o'⟩:=x
 obtain ⟨rfl,rfl,rfl,rfl,rfl⟩:=hx
 simp only []
 have HC:=Lib.hid hc
 clear hc
 by_cases h8:c'=8
 ·subst h8
  exact q1C26e
 by_cases h9:c'=9
 ·subst h9
  exact q1C26e
 ·exact q4C26e
end
end Go.Proofs.YteggjjhjmhccjaaGreatDoor
