/- Texts that the proofs of the statements on dumps rest on, joined. Conditions stand in each theorem. -/
import Derived.Test.YteggjjhjmhccjaaGreatDoorQ04
set_option linter.unusedVariables false
set_option linter.unusedSimpArgs false
set_option maxRecDepth 100000
set_option maxHeartbeats 8000000
namespace Go.Proofs.YteggjjhjmhccjaaGreatDoor
open Go.ChangeShapes Go.WideShapes Go.ChangeAt Go.RowKit
section
theorem rpins_2_true (ch c a d s q:Int) (e o:Bool) (x:S.It) (hx:x.c=c∧x.a=a∧x.d=d∧x.e=e∧x.o=o) (hc:(ch==2)=true) (w:World):Calls Tryz.prog 101 #[.int .i64 ch,.int .i64 2,.agg #[.int .i64 c,.int .u16 a,.int .u8 d,.int .i64 s],.int .u8 q,.bool e,.bool o] w fun r w'=>r=.returned (.agg (S.pn true x 2).cs)∧Adds w w':=by
 obtain ⟨k,c',a',d',s',ww,n,e',o'⟩:=x
 obtain ⟨rfl,rfl,rfl,rfl,rfl⟩:=hx
 simp only []
 have HC:=Lib.hid hc
 clear hc
 by_cases h8:c'=8
 ·subst h8
  go_enter Tryz.func101,Tryz.ntmps101
  go_wp2_with (go_at_call 114;refine sm (on85_is ch true HC.out) ?_)
  refine qt ?_
  repeat (go_big_quiet_step (first|(go_at_call 71;exact calls_adds (rreads_is 8 true rfl _))|(go_at_call 67;exact calls_adds (rwrites_is 8 false rfl _))))
  refine qn fun nq osq=> ?_
  go_wp2_with (first|(go_at_call 131;refine ad (rst_lines 8) fun n1 os1=> ?_)|(go_at_call 132;refine ad (rst_byte 8) fun n2 os2=> ?_))
  exact bodyPost_ret (ret_Pins Tryz.results101 rfl (by simp [go_sem,S.pn,S.Pn.cs,S.tr,stR_8,stW_8,ack_8]) rfl) rfl ⟨rfl,aD⟩
 by_cases h9:c'=9
 ·subst h9
  go_enter Tryz.func101,Tryz.ntmps101
  go_wp2_with (go_at_call 114;refine sm (on85_is ch true HC.out) ?_)
  refine qt ?_
  repeat (go_big_quiet_step (first|(go_at_call 71;exact calls_adds (rreads_is 9 true rfl _))|(go_at_call 67;exact calls_adds (rwrites_is 9 false rfl _))))
  refine qn fun nq osq=> ?_
  go_wp2_with (first|(go_at_call 131;refine ad (rst_lines 9) fun n1 os1=> ?_)|(go_at_call 132;refine ad (rst_byte 9) fun n2 os2=> ?_))
  exact bodyPost_ret (ret_Pins Tryz.results101 rfl (by simp [go_sem,S.pn,S.Pn.cs,S.tr,stR_9,stW_9,ack_9]) rfl) rfl ⟨rfl,aD⟩
 ·have hA:S.ack c'=false:=by simp [S.ack,h8,h9]
  have g8:(c'==8)=false:=by simpa using h8
  have g9:(c'==9)=false:=by simpa using h9
  clear h8 h9
  cases hR:S.stR c' <;>cases hW:S.stW c'
  all_goals
   have HR:=Lib.hid hR
   have HW:=Lib.hid hW
   go_enter Tryz.func101,Tryz.ntmps101
   go_wp2_with (go_at_call 114;refine sm (on85_is ch true HC.out) ?_)
   refine qt ?_
   repeat (go_big_quiet_step (first|(go_at_call 71;exact calls_adds (rreads_is c' _ HR.out _))|(go_at_call 67;exact calls_adds (rwrites_is c' _ HW.out _))))
   refine qn fun nq osq=> ?_
   go_wp2_with (first|(go_at_call 131;refine ad (rst_lines c') fun n1 os1=> ?_)|(go_at_call 132;refine ad (rst_byte c') fun n2 os2=> ?_))
   exact bodyPost_ret (ret_Pins Tryz.results101 rfl (by simp [go_sem,S.pn,S.Pn.cs,S.tr,hR,hW,hA]) rfl) rfl ⟨rfl,aD⟩
theorem rpins_2_false (ch c a d s q:Int) (e o:Bool) (x:S.It) (hx:x.c=c∧x.a=a∧x.d=d∧x.e=e∧x.o=o) (hc:(ch==2)=false) (w:World):Calls Tryz.prog 101 #[.int .i64 ch,.int .i64 2,.agg #[.int .i64 c,.int .u16 a,.int .u8 d,.int .i64 s],.int .u8 q,.bool e,.bool o] w fun r w'=>r=.returned (.agg (S.pn false x 2).cs)∧Adds w w':=by
 obtain ⟨k,c',a',d',s',ww,n,e',o'⟩:=x
 obtain ⟨rfl,rfl,rfl,rfl,rfl⟩:=hx
 simp only []
 have HC:=Lib.hid hc
 clear hc
 by_cases h8:c'=8
 ·subst h8
  go_enter Tryz.func101,Tryz.ntmps101
  go_wp2_with (go_at_call 114;refine sm (on85_is ch false HC.out) ?_)
  refine qt ?_
  repeat (go_big_quiet_step (first|(go_at_call 71;exact calls_adds (rreads_is 8 true rfl _))|(go_at_call 67;exact calls_adds (rwrites_is 8 false rfl _))))
  refine qn fun nq osq=> ?_
  go_wp2_with (first|(go_at_call 131;refine ad (rst_lines 8) fun n1 os1=> ?_)|(go_at_call 132;refine ad (rst_byte 8) fun n2 os2=> ?_))
  exact bodyPost_ret (ret_Pins Tryz.results101 rfl (by simp [go_sem,S.pn,S.Pn.cs,S.tr,stR_8,stW_8,ack_8]) rfl) rfl ⟨rfl,aD⟩
 by_cases h9:c'=9
 ·subst h9
  go_enter Tryz.func101,Tryz.ntmps101
  go_wp2_with (go_at_call 114;refine sm (on85_is ch false HC.out) ?_)
  refine qt ?_
  repeat (go_big_quiet_step (first|(go_at_call 71;exact calls_adds (rreads_is 9 true rfl _))|(go_at_call 67;exact calls_adds (rwrites_is 9 false rfl _))))
  refine qn fun nq osq=> ?_
  go_wp2_with (first|(go_at_call 131;refine ad (rst_lines 9) fun n1 os1=> ?_)|(go_at_call 132;refine ad (rst_byte 9) fun n2 os2=> ?_))
  exact bodyPost_ret (ret_Pins Tryz.results101 rfl (by simp [go_sem,S.pn,S.Pn.cs,S.tr,stR_9,stW_9,ack_9]) rfl) rfl ⟨rfl,aD⟩
 ·have hA:S.ack c'=false:=by simp [S.ack,h8,h9]
  have g8:(c'==8)=false:=by simpa using h8
  have g9:(c'==9)=false:=by simpa using h9
  clear h8 h9
  cases hR:S.stR c' <;>cases hW:S.stW c'
  all_goals
   have HR:=Lib.hid hR
   have HW:=Lib.hid hW
   go_enter Tryz.func101,Tryz.ntmps101
   go_wp2_with (go_at_call 114;refine sm (on85_is ch false HC.out) ?_)
   refine qt ?_
   repeat (go_big_quiet_step (first|(go_at_call 71;exact calls_adds (rreads_is c' _ HR.out _))|(go_at_call 67;exact calls_adds (rwrites_is c' _ HW.out _))))
   refine qn fun nq osq=> ?_
   go_wp2_with (first|(go_at_call 131;refine ad (rst_lines c') fun n1 os1=> ?_)|(go_at_call 132;refine ad (rst_byte c') fun n2 os2=> ?_))
   exact bodyPost_ret (ret_Pins Tryz.results101 rfl (by simp [go_sem,S.pn,S.Pn.cs,S.tr,hR,hW,hA]) rfl) rfl ⟨rfl,aD⟩
end
end Go.Proofs.YteggjjhjmhccjaaGreatDoor
