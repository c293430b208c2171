/- Texts that the proofs of the statements on dumps rest on, joined. Conditions stand in each theorem. -/
import Derived.Test.YteggjjhjmhccjaaGreatDoorQ34
import Derived.Test.YteggjjhjmhccjaaGreatDoorQ33
import Derived.Test.YteggjjhjmhccjaaGreatDoorQ35
import Derived.Test.YteggjjhjmhccjaaGreatDoorQ20
import Derived.Test.YteggjjhjmhccjaaGreatDoorQ03
import Derived.Deep.RegionHeld3
import Derived.Deep.RegionLaw
set_option linter.unusedVariables false
set_option linter.unusedSimpArgs false
set_option maxRecDepth 100000
set_option maxHeartbeats 8000000
namespace Go.Proofs.YteggjjhjmhccjaaGreatDoor
open Go.ChangeShapes Go.WideShapes Go.ChangeAt Go.RowKit
section
theorem S.pn_10 {on:Bool} {x y:S.It} (he:x.e=y.e) (ho:x.o=y.o):S.pn on x 10=S.pn on y 10:=by simp [S.pn,he,ho]
theorem clock_rst (x:S.Co) (z:List Int) (lRe lHo lRs lSi lTr lR7 lR6 lR5 lIn:Bool) (v:Int) (hr:lRs=true) (w:World) (h:CoOk x z w):Calls Tryz.prog 66 #[.agg #[.int .i64 x.c.Ch,.int .u8 x.c.A,.int .u8 x.c.B,.int .u8 x.c.C,.int .u8 x.c.D,.int .u8 x.c.E,.int .u8 x.c.H,.int .u8 x.c.L,.bool x.c.fS,.bool x.c.fZ,.bool x.c.fK,.bool x.c.fAC,.bool x.c.fP,.bool x.c.fV,.bool x.c.fCY,.int .u16 x.c.SP,.int .u16 x.c.PC,.bool x.c.IE,.bool x.c.De,.bool x.c.Ha,.int .u8 x.c.Ma,.bool x.c.Tr,.bool x.c.R7,.bool x.c.WT,.bool x.c.W7,.bool x.c.Sa,.bool x.c.SI,.bool x.c.SO,.int .i64 x.src,.slice x.ga x.gn x.gc,.int .i64 x.y.k,.int .u16 x.y.a,.int .u8 x.y.d,.int .i64 x.y.s,.int .i64 x.nx,.bool x.ho],.agg #[.bool lRe,.bool lHo,.bool lRs,.bool lSi,.bool lTr,.bool lR7,.bool lR6,.bool lR5,.bool lIn],.int .u8 v] w (ClockPost x true v w):=by
 have H:=Lib.hid h
 have HNX:=Lib.hid h.nx
 have hm:0≤S.rsm x.c.Ch∧S.rsm x.c.Ch < 256:=by unfold S.rsm;split<;>omega
 have HM:=Lib.hid hm
 clear h hm
 subst hr
 obtain ⟨⟨cCh,cA,cB,cC,cD,cE,cH,cL,cfS,cfZ,cfK,cfAC,cfP,cfV,cfCY,cSP,cPC,cIE,cDe,cHa,cMa,cTr,cR7,cWT,cW7,cSa,cSI,cSO⟩,src,ga,gn,gc,⟨k,a,d,s⟩,nx,ho⟩:=x
 simp only []
 rcases h9:(nx==9) with _|_
 ·go_enter Tryz.func66,Tryz.ntmps66
  go_wp2_with (first
   |(go_at_call 35;refine ad (state_cv HNX.out) fun n1 os1=> ?_)
   |(go_at_call 58;refine (new20_any).mono ?_;rintro e w' ⟨qq,zq,rfl,hqc,hok,⟨hq1,hq2⟩,⟨⟨n7,os7⟩,rfl⟩⟩;have HQ:=Lib.hid hok;have HQ1:=Lib.hid hq1;have HQ2:=Lib.hid hq2;clear hqc hok hq1 hq2)
   |(go_at_call 89;refine ad (rreset_any) fun n2 os2=> ?_)
   |(go_at_call 90;refine (begin_cv ⟨H.out.c.1.a,H.out.c.1.b,H.out.c.1.c,H.out.c.1.d,H.out.c.1.e,H.out.c.1.h,H.out.c.1.l,H.out.c.1.sp,⟨by omega,by omega⟩⟩).mono ?_;rintro e w' ⟨⟨yk,ya,yd,ys⟩,rfl,hy,⟨⟨n3,os3⟩,rfl⟩⟩;have HY:=Lib.hid hy;clear hy;simp only [])
   |fail)
  go_region_held3 (fun w'=>w'.cell? ⟨w.heap.size,0,none⟩=some (.int .i64 cCh)∧w'.cell? ⟨w.heap.size,17,none⟩=some (.bool cIE)∧w'.cell? ⟨w.heap.size,27,none⟩=some (.bool cSO)∧rowOf w' (w.heap.size+1+1+1+1+os1.size)=#[.int .i64 k,.int .u16 a,.int .u8 d,.int .i64 s]∧rowOf w' (w.heap.size+1+1+1+1+os1.size+1+os7.size)=#[.int .i64 cCh,.int .u8 cA,.int .u8 cB,.int .u8 cC,.int .u8 cD,.int .u8 cE,.int .u8 cH,.int .u8 cL,.bool cfS,.bool cfZ,.bool cfK,.bool cfAC,.bool cfP,.bool cfV,.bool cfCY,.int .u16 cSP,.int .u16 (0),.bool (false),.bool (false),.bool (false),.int .u8 (S.rsm cCh),.bool (false),.bool (false),.bool (false),.bool (false),.bool (false),.bool (false),.bool (false),.int .i64 qq.src,.slice qq.ga qq.gn qq.gc,.int .i64 yk,.int .u16 ya,.int .u8 yd,.int .i64 ys,.int .i64 qq.nx,.bool qq.ho])
   ((simp [go_sem];done))
   (first
     |(go_at_call 101;refine ad (rpins_cv (by omega) (by omega)) fun n4 os4=> ?_;generalize hP:S.pn _ _ _=P;have HP:=Lib.hid hP;clear hP;simp only [S.Pn.cs])
     |fail)
  all_goals go_wp2_with fail
  all_goals
   refine bodyPost_ret (ret4_Core Tryz.results66 rfl rfl (by simp [go_sem]) rfl rfl (by simp [go_sem])) rfl ?_
   simp [go_sem]
   exact ClockPost.mk _ _ _ _ _ _ _ _ _ _ _ _ _ _ _ _ _ _ _ _ _ _ _ _ _ _ _ _ _ _ _ _ _ _ _ _ _ _ [] _ (by have e:=HP.out;rw [show S.pn (cCh==2) (S.itm ⟨⟨cCh,cA,cB,cC,cD,cE,cH,cL,cfS,cfZ,cfK,cfAC,cfP,cfV,cfCY,cSP,cPC,cIE,cDe,cHa,cMa,cTr,cR7,cWT,cW7,cSa,cSI,cSO⟩,src,ga,gn,gc,⟨k,a,d,s⟩,nx,ho⟩ (if true then 10 else nx) v) (if true then 10 else nx)=P from (S.pn_10 rfl rfl).trans e];rfl) rfl ⟨⟨⟨H.out.c.1.a,H.out.c.1.b,H.out.c.1.c,H.out.c.1.d,H.out.c.1.e,H.out.c.1.h,H.out.c.1.l,H.out.c.1.sp,⟨by simp,by simp⟩⟩,HM.out⟩,HY.out,HQ.out.nx,(by have e:=HQ2.out;show HeldG csB _ _ qq.gn [];rw [e];exact HeldG.nil _ _),HQ.out.gc,(fun y hy=>by cases hy),HQ.out.nn⟩ (by have:=HQ2.out;show qq.gn≤gn+1;omega) (by have e:=HQ2.out;rw [e];exact Nw.nil _ _) (.reset _ HQ1.out) aD
 ·go_enter Tryz.func66,Tryz.ntmps66
  go_wp2_with (first
   |(go_at_call 35;refine ad (state_cv HNX.out) fun n1 os1=> ?_)
   |(go_at_call 58;refine (new20_any).mono ?_;rintro e w' ⟨qq,zq,rfl,hqc,hok,⟨hq1,hq2⟩,⟨⟨n7,os7⟩,rfl⟩⟩;have HQ:=Lib.hid hok;have HQ1:=Lib.hid hq1;have HQ2:=Lib.hid hq2;clear hqc hok hq1 hq2)
   |(go_at_call 89;refine ad (rreset_any) fun n2 os2=> ?_)
   |(go_at_call 90;refine (begin_cv ⟨H.out.c.1.a,H.out.c.1.b,H.out.c.1.c,H.out.c.1.d,H.out.c.1.e,H.out.c.1.h,H.out.c.1.l,H.out.c.1.sp,⟨by omega,by omega⟩⟩).mono ?_;rintro e w' ⟨⟨yk,ya,yd,ys⟩,rfl,hy,⟨⟨n3,os3⟩,rfl⟩⟩;have HY:=Lib.hid hy;clear hy;simp only [])
   |fail)
  go_region_held3 (fun w'=>w'.cell? ⟨w.heap.size,0,none⟩=some (.int .i64 cCh)∧w'.cell? ⟨w.heap.size,17,none⟩=some (.bool cIE)∧w'.cell? ⟨w.heap.size,27,none⟩=some (.bool cSO)∧rowOf w' (w.heap.size+1+1+1+1+os1.size)=#[.int .i64 0,.int .u16 cPC,.int .u8 0,.int .i64 0]∧rowOf w' (w.heap.size+1+1+1+1+os1.size+1+os7.size)=#[.int .i64 cCh,.int .u8 cA,.int .u8 cB,.int .u8 cC,.int .u8 cD,.int .u8 cE,.int .u8 cH,.int .u8 cL,.bool cfS,.bool cfZ,.bool cfK,.bool cfAC,.bool cfP,.bool cfV,.bool cfCY,.int .u16 cSP,.int .u16 (0),.bool (false),.bool (false),.bool (false),.int .u8 (S.rsm cCh),.bool (false),.bool (false),.bool (false),.bool (false),.bool (false),.bool (false),.bool (false),.int .i64 qq.src,.slice qq.ga qq.gn qq.gc,.int .i64 yk,.int .u16 ya,.int .u8 yd,.int .i64 ys,.int .i64 qq.nx,.bool qq.ho])
   ((simp [go_sem];done))
   (first
     |(go_at_call 101;refine ad (rpins_cv (by omega) (by omega)) fun n4 os4=> ?_;generalize hP:S.pn _ _ _=P;have HP:=Lib.hid hP;clear hP;simp only [S.Pn.cs])
     |fail)
  all_goals go_wp2_with fail
  all_goals
   refine bodyPost_ret (ret4_Core Tryz.results66 rfl rfl (by simp [go_sem]) rfl rfl (by simp [go_sem])) rfl ?_
   simp [go_sem]
   exact ClockPost.mk _ _ _ _ _ _ _ _ _ _ _ _ _ _ _ _ _ _ _ _ _ _ _ _ _ _ _ _ _ _ _ _ _ _ _ _ _ _ [] _ (by have e:=HP.out;rw [show S.pn (cCh==2) (S.itm ⟨⟨cCh,cA,cB,cC,cD,cE,cH,cL,cfS,cfZ,cfK,cfAC,cfP,cfV,cfCY,cSP,cPC,cIE,cDe,cHa,cMa,cTr,cR7,cWT,cW7,cSa,cSI,cSO⟩,src,ga,gn,gc,⟨k,a,d,s⟩,nx,ho⟩ (if true then 10 else nx) v) (if true then 10 else nx)=P from (S.pn_10 rfl rfl).trans e];rfl) rfl ⟨⟨⟨H.out.c.1.a,H.out.c.1.b,H.out.c.1.c,H.out.c.1.d,H.out.c.1.e,H.out.c.1.h,H.out.c.1.l,H.out.c.1.sp,⟨by simp,by simp⟩⟩,HM.out⟩,HY.out,HQ.out.nx,(by have e:=HQ2.out;show HeldG csB _ _ qq.gn [];rw [e];exact HeldG.nil _ _),HQ.out.gc,(fun y hy=>by cases hy),HQ.out.nn⟩ (by have:=HQ2.out;show qq.gn≤gn+1;omega) (by have e:=HQ2.out;rw [e];exact Nw.nil _ _) (.reset _ HQ1.out) aD
theorem clock_any (x:S.Co) (z:List Int) (lRe lHo lRs lSi lTr lR7 lR6 lR5 lIn:Bool) (v:Int) (hv:0≤v∧v < 256) (hg:x.gn≤999999) {w:World} (h:CoOk x z w):Calls Tryz.prog 66 #[.agg #[.int .i64 x.c.Ch,.int .u8 x.c.A,.int .u8 x.c.B,.int .u8 x.c.C,.int .u8 x.c.D,.int .u8 x.c.E,.int .u8 x.c.H,.int .u8 x.c.L,.bool x.c.fS,.bool x.c.fZ,.bool x.c.fK,.bool x.c.fAC,.bool x.c.fP,.bool x.c.fV,.bool x.c.fCY,.int .u16 x.c.SP,.int .u16 x.c.PC,.bool x.c.IE,.bool x.c.De,.bool x.c.Ha,.int .u8 x.c.Ma,.bool x.c.Tr,.bool x.c.R7,.bool x.c.WT,.bool x.c.W7,.bool x.c.Sa,.bool x.c.SI,.bool x.c.SO,.int .i64 x.src,.slice x.ga x.gn x.gc,.int .i64 x.y.k,.int .u16 x.y.a,.int .u8 x.y.d,.int .i64 x.y.s,.int .i64 x.nx,.bool x.ho],.agg #[.bool lRe,.bool lHo,.bool lRs,.bool lSi,.bool lTr,.bool lR7,.bool lR6,.bool lR5,.bool lIn],.int .u8 v] w (ClockPost x lRs v w):=by
 rcases hr:lRs with _|_
 ·have hn:=h.nx
  subst hr
  rcases (by omega:x.nx=1∨x.nx=2∨x.nx=3∨x.nx=4∨x.nx=5∨x.nx=6∨x.nx=7∨x.nx=8∨x.nx=9) with h1|h1|h1|h1|h1|h1|h1|h1|h1
  ·exact clock_1 x z lRe lHo false lSi lTr lR7 lR6 lR5 lIn v hv hg rfl h1 w h
  ·exact clock_2 x z lRe lHo false lSi lTr lR7 lR6 lR5 lIn v hv hg rfl h1 w h
  ·exact clock_3 x z lRe lHo false lSi lTr lR7 lR6 lR5 lIn v hv hg rfl h1 w h
  ·exact clock_4 x z lRe lHo false lSi lTr lR7 lR6 lR5 lIn v hv hg rfl h1 w h
  ·exact clock_5 x z lRe lHo false lSi lTr lR7 lR6 lR5 lIn v hv hg rfl h1 w h
  ·exact clock_6 x z lRe lHo false lSi lTr lR7 lR6 lR5 lIn v hv hg rfl h1 w h
  ·exact clock_7 x z lRe lHo false lSi lTr lR7 lR6 lR5 lIn v hv hg rfl h1 w h
  ·exact clock_8 x z lRe lHo false lSi lTr lR7 lR6 lR5 lIn v hv hg rfl h1 w h
  ·exact clock_9 x z lRe lHo false lSi lTr lR7 lR6 lR5 lIn v hv hg rfl h1 w h
 ·subst hr
  exact clock_rst x z lRe lHo true lSi lTr lR7 lR6 lR5 lIn v rfl w h
end
section
variable {p:Int} {w:World}
theorem ret_tt {P:Program} {fn:Func} {p q:Tmp} (hf:fn.results=#[.tmp p,.tmp q]) {tmps:Array Value} {v u:Value} (h0:tmps.getD p undef=v) (h1:tmps.getD q undef=u):(results fn tmps).run P w=.ok (.tuple #[v,u]) w:=by
 have h0':tmps[p]?.getD undef=v:=by simpa using h0
 have h1':tmps[q]?.getD undef=u:=by simpa using h1
 simp [results,hf,h0',h1']
theorem waited_any (x:S.Sy) (h:1≤x.k.nx∧x.k.nx≤9) (w:World):Calls Tryz.prog 64 #[.agg #[.int .i64 x.k.c.Ch,.int .u8 x.k.c.A,.int .u8 x.k.c.B,.int .u8 x.k.c.C,.int .u8 x.k.c.D,.int .u8 x.k.c.E,.int .u8 x.k.c.H,.int .u8 x.k.c.L,.bool x.k.c.fS,.bool x.k.c.fZ,.bool x.k.c.fK,.bool x.k.c.fAC,.bool x.k.c.fP,.bool x.k.c.fV,.bool x.k.c.fCY,.int .u16 x.k.c.SP,.int .u16 x.k.c.PC,.bool x.k.c.IE,.bool x.k.c.De,.bool x.k.c.Ha,.int .u8 x.k.c.Ma,.bool x.k.c.Tr,.bool x.k.c.R7,.bool x.k.c.WT,.bool x.k.c.W7,.bool x.k.c.Sa,.bool x.k.c.SI,.bool x.k.c.SO,.int .i64 x.k.src,.slice x.k.ga x.k.gn x.k.gc,.int .i64 x.k.y.k,.int .u16 x.k.y.a,.int .u8 x.k.y.d,.int .i64 x.k.y.s,.int .i64 x.k.nx,.bool x.k.ho,.slice x.ma x.mn x.mc,.int .i64 x.p.St,.bool x.p.Le,.bool x.p.Fo,.bool x.p.Si,.bool x.p.Ft,.int .u8 x.p.Lw,.int .u8 x.p.Hg,.bool x.p.Au,.bool x.p.Ro,.bool x.p.Sp,.bool x.p.RI,.bool x.p.Po,.int .u8 x.p.Li,.int .u8 x.p.Ed,.int .u8 x.p.IS,.int .u8 x.p.IM,.int .i64 x.p.Lo,.int .i64 x.p.Sq,.int .i64 x.p.Sv,.bool x.p.Su,.int .u16 x.da,.int .u8 x.dv,.int .i64 x.dl,.int .i64 x.wt,.slice x.oa x.on x.oc]] w (PostI w):=by
 have H:=Lib.hid h
 clear h
 go_enter Tryz.func64,Tryz.ntmps64
 go_wp2_with (first
  |(go_at_call 35;refine ad (state_any x.k H.out _) fun n1 os1=> ?_)
  |fail)
 all_goals
  go_ret
  exact ⟨_,rfl,aD⟩
theorem memcyc_any {k:Int}:Calls Tryz.prog 96 #[.int .i64 k] w (PostBo w):=by
 go_enter Tryz.func96,Tryz.ntmps96
 go_wp2_with fail
 all_goals
  go_ret
  exact ⟨_,rfl,aD⟩
theorem need_any (b:S.Bd) (l:List K12.Rg) (k a d s:Int) (w:World) (h:BdOk b l w):Calls Tryz.prog 92 #[.agg #[.int .i64 b.ch,.slice b.ra b.rn b.rc,.int .i64 b.iw,.int .u8 b.pp,.int .u8 b.dp,.bool b.jm,.slice b.ia b.ni b.ic],.agg #[.int .i64 k,.int .u16 a,.int .u8 d,.int .i64 s]] w (PostI w):=by
 have H:=Lib.hid h
 clear h
 go_enter Tryz.func92,Tryz.ntmps92
 go_wp2_with (first
  |(go_at_call 96;refine (memcyc_any).mono ?_;rintro e w' ⟨r,rfl,⟨⟨n1,os1⟩,rfl⟩⟩)
  |(go_at_call 125;refine ad (K12.rrgwaits_any l (H.out.r.adds aD)) fun n2 os2=> ?_)
  |(go_at_call 126;refine ad (K12.limit_any _) fun n3 os3=> ?_)
  |fail)
 all_goals
  go_ret
  exact ⟨_,rfl,aD⟩
def PostIB (w:World) (e:Ending) (w':World):Prop:=∃(i:Int) (b:Bool),e=.returned (.tuple #[.int .i64 i,.bool b])∧Adds w w'
theorem isdma_any (b:S.Bd):Calls Tryz.prog 95 #[.agg #[.int .i64 b.ch,.slice b.ra b.rn b.rc,.int .i64 b.iw,.int .u8 b.pp,.int .u8 b.dp,.bool b.jm,.slice b.ia b.ni b.ic],.int .u8 p] w (PostIB w):=by
 go_enter Tryz.func95,Tryz.ntmps95
 go_wp2_with fail
 exact bodyPost_ret (ret_tt Tryz.results95 rfl rfl) rfl ⟨_,_,rfl,aD⟩
def PostBB (w:World) (e:Ending) (w':World):Prop:=∃(i b:Bool),e=.returned (.tuple #[.bool i,.bool b])∧Adds w w'
theorem ispic_any (b:S.Bd):Calls Tryz.prog 94 #[.agg #[.int .i64 b.ch,.slice b.ra b.rn b.rc,.int .i64 b.iw,.int .u8 b.pp,.int .u8 b.dp,.bool b.jm,.slice b.ia b.ni b.ic],.int .u8 p] w (PostBB w):=by
 rcases hj:b.jm with _|_
 ·rcases hp:(p==b.pp) with _|_
  all_goals
   go_enter Tryz.func94,Tryz.ntmps94
   go_wp2_with fail
   refine qt ?_
   repeat (go_big_quiet_step (fail))
   refine qn fun nq osq=> ?_
   go_wp2_with fail
   exact bodyPost_ret (ret_tt Tryz.results94 rfl rfl) rfl ⟨_,_,rfl,aD⟩
 ·go_enter Tryz.func94,Tryz.ntmps94
  go_wp2_with fail
  refine qt ?_
  repeat (go_big_quiet_step (fail))
  refine qn fun nq osq=> ?_
  go_wp2_with fail
  exact bodyPost_ret (ret_tt Tryz.results94 rfl rfl) rfl ⟨_,_,rfl,aD⟩
theorem kind_any {s:Int}:Calls Tryz.prog 76 #[.int .i64 s] w (PostI w):=by
 go_enter Tryz.func76,Tryz.ntmps76
 go_wp2_with (first
  |(go_at_call 117;refine sm (internal_any _ _) ?_)
  |fail)
 all_goals
  go_ret
  exact ⟨_,rfl,aD⟩
end
section
variable {b:Nat} {c:Array Value} {w w':World}
theorem rowOf_setCell_same (w:World) (b i:Nat) (v:Value) (h:0 < (rowOf w b).size):rowOf (w.setCell ⟨b,i,none⟩ v) b=(rowOf w b).setIfInBounds i v:=by
 obtain ⟨t,ht⟩:=rowOf_some h
 conv=>lhs;unfold rowOf
 rw [heap_setCell_same w b i _ t v ht];rfl
theorem rowOf_setCell_other (w:World) (b k i:Nat) (v:Value) (h:k≠b):rowOf (w.setCell ⟨b,i,none⟩ v) k=rowOf w k:=rowOf_eq (heap_setCell_other w ⟨b,i,none⟩ k v h)
theorem row_frozen (hr:rowOf w b=c) (hp:0 < c.size) (i:Nat):w.frozen? ⟨b,i,none⟩=false:=by
 obtain ⟨t,ht⟩:=rowOf_some (w:=w) (b:=b) (by rw [hr];exact hp)
 exact frozen_of_row w b i _ t ht
theorem row_at (hr:rowOf w b=c) (hp:0 < c.size) (i:Nat):w.cell? ⟨b,i,none⟩=c[i]? :=by
 obtain ⟨t,ht⟩:=rowOf_some (w:=w) (b:=b) (by rw [hr];exact hp)
 rw [cell_of_row w b i _ t (0,0) ht,hr]
theorem K12.Owns.len {base n cap:Nat} {a:Option Addr} {d:List K12.Cl} (h:K12.Owns w base (.slice a n cap) d):d.length=n:=by
 obtain ⟨a',n',cap',h1,h0,_⟩:=h.form2
 simp only [Value.slice.injEq] at h1
 obtain ⟨_,rfl,_⟩:=h1
 exact h0.out
theorem Adds.row (h:Adds w w') (hb:b < w.heap.size):rowOf w' b=rowOf w b:=rowOf_eq (h.below.block b hb)
def PostSto (L:Nat) (x:S.Sy) (z:List Int) (w:World) (e:Ending) (w':World):Prop:=∃(q:S.Sy) (m:List K12.Cl) (os:List S.Ou),e=.returned (.agg (List.toArray (.int .i64 q.k.c.Ch:: .int .u8 q.k.c.A:: .int .u8 q.k.c.B:: .int .u8 q.k.c.C:: .int .u8 q.k.c.D:: .int .u8 q.k.c.E:: .int .u8 q.k.c.H:: .int .u8 q.k.c.L:: .bool q.k.c.fS:: .bool q.k.c.fZ:: .bool q.k.c.fK:: .bool q.k.c.fAC:: .bool q.k.c.fP:: .bool q.k.c.fV:: .bool q.k.c.fCY:: .int .u16 q.k.c.SP:: .int .u16 q.k.c.PC:: .bool q.k.c.IE:: .bool q.k.c.De:: .bool q.k.c.Ha:: .int .u8 q.k.c.Ma:: .bool q.k.c.Tr:: .bool q.k.c.R7:: .bool q.k.c.WT:: .bool q.k.c.W7:: .bool q.k.c.Sa:: .bool q.k.c.SI:: .bool q.k.c.SO:: .int .i64 q.k.src:: .slice q.k.ga q.k.gn q.k.gc:: .int .i64 q.k.y.k:: .int .u16 q.k.y.a:: .int .u8 q.k.y.d:: .int .i64 q.k.y.s:: .int .i64 q.k.nx:: .bool q.k.ho:: .slice q.ma q.mn q.mc:: .int .i64 q.p.St:: .bool q.p.Le:: .bool q.p.Fo:: .bool q.p.Si:: .bool q.p.Ft:: .int .u8 q.p.Lw:: .int .u8 q.p.Hg:: .bool q.p.Au:: .bool q.p.Ro:: .bool q.p.Sp:: .bool q.p.RI:: .bool q.p.Po:: .int .u8 q.p.Li:: .int .u8 q.p.Ed:: .int .u8 q.p.IS:: .int .u8 q.p.IM:: .int .i64 q.p.Lo:: .int .i64 q.p.Sq:: .int .i64 q.p.Sv:: .bool q.p.Su:: .int .u16 q.da:: .int .u8 q.dv:: .int .i64 q.dl:: .int .i64 q.wt:: .slice q.oa q.on q.oc::[])))∧q.k=x.k∧q.wt=x.wt∧SyOk (L+1) q z m os w'∧Sm2 w.heap.size x.ma x.mn q.ma q.mn∧Sm2 w.heap.size x.oa x.on q.oa q.on∧Adds w w'
theorem PostSto.mk {L:Nat} {x:S.Sy} {z:List Int} (ma:Option Addr) (mn mc:Nat) (qSt:Int) (qLe qFo qSi qFt:Bool) (qLw qHg:Int) (qAu qRo qSp qRI qPo:Bool) (qLi qEd qIS qIM qLo qSq qSv:Int) (qSu:Bool) (da dv dl:Int) (oa:Option Addr) (on oc:Nat) (m:List K12.Cl) (os:List S.Ou) (h:SyOk (L+1) ⟨x.k,ma,mn,mc,⟨qSt,qLe,qFo,qSi,qFt,qLw,qHg,qAu,qRo,qSp,qRI,qPo,qLi,qEd,qIS,qIM,qLo,qSq,qSv,qSu⟩,da,dv,dl,x.wt,oa,on,oc⟩ z m os w') (h1:Sm2 w.heap.size x.ma x.mn ma mn) (h2:Sm2 w.heap.size x.oa x.on oa on) (hA:Adds w w'):
 PostSto L x z w (.returned (.agg (List.toArray (.int .i64 x.k.c.Ch:: .int .u8 x.k.c.A:: .int .u8 x.k.c.B:: .int .u8 x.k.c.C:: .int .u8 x.k.c.D:: .int .u8 x.k.c.E:: .int .u8 x.k.c.H:: .int .u8 x.k.c.L:: .bool x.k.c.fS:: .bool x.k.c.fZ:: .bool x.k.c.fK:: .bool x.k.c.fAC:: .bool x.k.c.fP:: .bool x.k.c.fV:: .bool x.k.c.fCY:: .int .u16 x.k.c.SP:: .int .u16 x.k.c.PC:: .bool x.k.c.IE:: .bool x.k.c.De:: .bool x.k.c.Ha:: .int .u8 x.k.c.Ma:: .bool x.k.c.Tr:: .bool x.k.c.R7:: .bool x.k.c.WT:: .bool x.k.c.W7:: .bool x.k.c.Sa:: .bool x.k.c.SI:: .bool x.k.c.SO:: .int .i64 x.k.src:: .slice x.k.ga x.k.gn x.k.gc:: .int .i64 x.k.y.k:: .int .u16 x.k.y.a:: .int .u8 x.k.y.d:: .int .i64 x.k.y.s:: .int .i64 x.k.nx:: .bool x.k.ho:: .slice ma mn mc:: .int .i64 qSt:: .bool qLe:: .bool qFo:: .bool qSi:: .bool qFt:: .int .u8 qLw:: .int .u8 qHg:: .bool qAu:: .bool qRo:: .bool qSp:: .bool qRI:: .bool qPo:: .int .u8 qLi:: .int .u8 qEd:: .int .u8 qIS:: .int .u8 qIM:: .int .i64 qLo:: .int .i64 qSq:: .int .i64 qSv:: .bool qSu:: .int .u16 da:: .int .u8 dv:: .int .i64 dl:: .int .i64 x.wt:: .slice oa on oc::[])))) w':=⟨⟨x.k,ma,mn,mc,⟨qSt,qLe,qFo,qSi,qFt,qLw,qHg,qAu,qRo,qSp,qRI,qPo,qLi,qEd,qIS,qIM,qLo,qSq,qSv,qSu⟩,da,dv,dl,x.wt,oa,on,oc⟩,m,os,rfl,rfl,rfl,h,h1,h2,hA⟩
attribute [local go_sem] rowOf_setCell_same rowOf_setCell_other
theorem store_mem (L:Nat) (b:S.Bd) (x:S.Sy) (yk ya yd ys:Int) (l:List K12.Rg) (z:List Int) (m:List K12.Cl) (os:List S.Ou) (w:World) (hB:BdOk b l w) (hS:SyOk L x z m os w) (hL:L≤900000) (hd:0≤yd∧yd < 256) (hk:(yk==7)=false):Calls Tryz.prog 68 #[.agg #[.int .i64 b.ch,.slice b.ra b.rn b.rc,.int .i64 b.iw,.int .u8 b.pp,.int .u8 b.dp,.bool b.jm,.slice b.ia b.ni b.ic],.agg (List.toArray (.int .i64 x.k.c.Ch:: .int .u8 x.k.c.A:: .int .u8 x.k.c.B:: .int .u8 x.k.c.C:: .int .u8 x.k.c.D:: .int .u8 x.k.c.E:: .int .u8 x.k.c.H:: .int .u8 x.k.c.L:: .bool x.k.c.fS:: .bool x.k.c.fZ:: .bool x.k.c.fK:: .bool x.k.c.fAC:: .bool x.k.c.fP:: .bool x.k.c.fV:: .bool x.k.c.fCY:: .int .u16 x.k.c.SP:: .int .u16 x.k.c.PC:: .bool x.k.c.IE:: .bool x.k.c.De:: .bool x.k.c.Ha:: .int .u8 x.k.c.Ma:: .bool x.k.c.Tr:: .bool x.k.c.R7:: .bool x.k.c.WT:: .bool x.k.c.W7:: .bool x.k.c.Sa:: .bool x.k.c.SI:: .bool x.k.c.SO:: .int .i64 x.k.src:: .slice x.k.ga x.k.gn x.k.gc:: .int .i64 x.k.y.k:: .int .u16 x.k.y.a:: .int .u8 x.k.y.d:: .int .i64 x.k.y.s:: .int .i64 x.k.nx:: .bool x.k.ho:: .slice x.ma x.mn x.mc:: .int .i64 x.p.St:: .bool x.p.Le:: .bool x.p.Fo:: .bool x.p.Si:: .bool x.p.Ft:: .int .u8 x.p.Lw:: .int .u8 x.p.Hg:: .bool x.p.Au:: .bool x.p.Ro:: .bool x.p.Sp:: .bool x.p.RI:: .bool x.p.Po:: .int .u8 x.p.Li:: .int .u8 x.p.Ed:: .int .u8 x.p.IS:: .int .u8 x.p.IM:: .int .i64 x.p.Lo:: .int .i64 x.p.Sq:: .int .i64 x.p.Sv:: .bool x.p.Su:: .int .u16 x.da:: .int .u8 x.dv:: .int .i64 x.dl:: .int .i64 x.wt:: .slice x.oa x.on x.oc::[])),.agg #[.int .i64 yk,.int .u16 ya,.int .u8 yd,.int .i64 ys]] w (PostSto L x z w):=by
 have HB:=Lib.hid hB
 have HS:=Lib.hid hS
 have HL:=Lib.hid hL
 have hk':(yk !=7)=true:=by unfold bne;rw [hk];rfl
 clear hB hS hL
 go_enter Tryz.func68,Tryz.ntmps68
 go_wp2_with (first
  |(go_at_call 70;refine (K12.rwrite_own l m (HB.out.r.adds aD) (HS.out.mh.adds aD) (by have:=HS.out.ml;have:=HL.out;omega)).mono ?_;rintro e w1 ⟨ad,n1,c1,d1,rfl,hO,hn,hc,hc2,hg,hA⟩;have r4:rowOf w1 (w.heap.size+1)=(List.toArray (.int .i64 x.k.c.Ch:: .int .u8 x.k.c.A:: .int .u8 x.k.c.B:: .int .u8 x.k.c.C:: .int .u8 x.k.c.D:: .int .u8 x.k.c.E:: .int .u8 x.k.c.H:: .int .u8 x.k.c.L:: .bool x.k.c.fS:: .bool x.k.c.fZ:: .bool x.k.c.fK:: .bool x.k.c.fAC:: .bool x.k.c.fP:: .bool x.k.c.fV:: .bool x.k.c.fCY:: .int .u16 x.k.c.SP:: .int .u16 x.k.c.PC:: .bool x.k.c.IE:: .bool x.k.c.De:: .bool x.k.c.Ha:: .int .u8 x.k.c.Ma:: .bool x.k.c.Tr:: .bool x.k.c.R7:: .bool x.k.c.WT:: .bool x.k.c.W7:: .bool x.k.c.Sa:: .bool x.k.c.SI:: .bool x.k.c.SO:: .int .i64 x.k.src:: .slice x.k.ga x.k.gn x.k.gc:: .int .i64 x.k.y.k:: .int .u16 x.k.y.a:: .int .u8 x.k.y.d:: .int .i64 x.k.y.s:: .int .i64 x.k.nx:: .bool x.k.ho:: .slice x.ma x.mn x.mc:: .int .i64 x.p.St:: .bool x.p.Le:: .bool x.p.Fo:: .bool x.p.Si:: .bool x.p.Ft:: .int .u8 x.p.Lw:: .int .u8 x.p.Hg:: .bool x.p.Au:: .bool x.p.Ro:: .bool x.p.Sp:: .bool x.p.RI:: .bool x.p.Po:: .int .u8 x.p.Li:: .int .u8 x.p.Ed:: .int .u8 x.p.IS:: .int .u8 x.p.IM:: .int .i64 x.p.Lo:: .int .i64 x.p.Sq:: .int .i64 x.p.Sv:: .bool x.p.Su:: .int .u16 x.da:: .int .u8 x.dv:: .int .i64 x.dl:: .int .i64 x.wt:: .slice x.oa x.on x.oc::[])):=(hA.row (by simp)).trans (by simp [go_sem]);have r6:(rowOf w1 (w.heap.size+1+1+1)).size=62:=(by rw [hA.row (by simp)];simp [go_sem]);have r6':∀v,(rowOf (w1.setCell ⟨w.heap.size+1,36,none⟩ v) (w.heap.size+1+1+1)).size=62:=(fun v=>by rw [rowOf_setCell_other _ _ _ _ _ (by omega)];exact r6);have a4:=row_at r4 (by simp);have f4:=row_frozen r4 (by simp);have q6:=hA.size;simp at q6;have hA1:=Adds.trans (show Adds w _ from aD) hA;have HH:=Lib.hid (K12.Owns.held hO (show d1.length≤4611686018427387904 by have:=K12.Owns.len hO;have:=HS.out.ml;have:=HL.out;omega));have HW:=Lib.hid (show Nw (w.heap.size+1+1+1+1) ad n1 from (K12.Owns.nw hO).mono (by simp));have HN:=Lib.hid hn;have HC:=Lib.hid (And.intro hc hc2);have HG:=Lib.hid hg;have HA:=Lib.hid hA1;clear hO hn hc hc2 hg hA hA1)
  |fail)
 all_goals
  refine bodyPost_ret (ret_System Tryz.results68 rfl (rowOf_setRow_same _ _ _ (by rw [r6'];omega)) rfl) rfl ?_
  have hT:=fun v c=>Tch.setRow (S:=fun k=>k=w.heap.size+1∨k=w.heap.size+1+1+1) (Tch.setCell (Tch.refl _ w1) (w.heap.size+1) 36 v (fun _=> .inl rfl)) (w.heap.size+1+1+1) c (fun _=> .inr rfl)
  have hA:=fun v c=>Tch.adds (hT v c) HA.out (fun b _ e=>by omega)
  have h:=fun v c=>HS.out.adds (hA v c)
  have h0:=h (.bool false) #[]
  have hl:=h0.ml
  have hn:=HN.out
  exact PostSto.mk ad n1 c1 _ _ _ _ _ _ _ _ _ _ _ _ _ _ _ _ _ _ _ _ _ _ _ _ _ _ d1 os ⟨(h _ _).k,Nat.le_succ_of_le h0.gl,HH.out.tch (hT _ _) (Off.of_nw HW.out (fun b e=>by omega)),HC.out,(show n1≤L+1 by omega),(fun y=>by rcases HG.out y with e|e;rw [e];exact hd;rw [e];exact h0.mb y),h0.p,h0.da,h0.dv,h0.dl,(h _ _).o,h0.oc,Nat.le_succ_of_le h0.ol,h0.oz⟩ (.inr (HW.out.mono (by omega))) (Sm2.refl _ _ _) (hA _ _)
end
section
variable {w:World}
def PostV (w:World) (e:Ending) (w':World):Prop:=∃x:S.Ev,e=.returned (.agg x.l.toArray)∧Adds w w'
theorem PostV.mk {w':World} (k s:Int) (ga:Option Addr) (gn gc:Nat) (b1 b2 b3 b4 b5 b6 b7 b8 b9 c1 c2 c3 c4:Bool) (ca cv:Int) (h:Adds w w'):PostV w (.returned (.agg #[.int .i64 k,.int .i64 s,.slice ga gn gc,.bool b1,.bool b2,.bool b3,.bool b4,.bool b5,.bool b6,.bool b7,.bool b8,.bool b9,.bool c1,.bool c2,.bool c3,.bool c4,.int .u16 ca,.int .u8 cv])) w':=
 ⟨⟨[.int .i64 k,.int .i64 s,.slice ga gn gc,.bool b1,.bool b2,.bool b3,.bool b4,.bool b5,.bool b6,.bool b7,.bool b8,.bool b9,.bool c1,.bool c2,.bool c3,.bool c4,.int .u16 ca,.int .u8 cv],rfl,by
   intro u hu
   simp only [List.mem_cons,List.not_mem_nil,or_false] at hu
   rcases hu with rfl|rfl|rfl|rfl|rfl|rfl|rfl|rfl|rfl|rfl|rfl|rfl|rfl|rfl|rfl|rfl|rfl|rfl<;>rfl⟩,rfl,h⟩
theorem with_any {k s:Int} {ga:Option Addr} {gn gc:Nat} {b1 b2 b3 b4 b5 b6 b7 b8 b9 c1 c2 c3 c4:Bool} {ca cv:Int} {cCh cA cB cC cD cE cH cL:Int} {cfS cfZ cfK cfAC cfP cfV cfCY:Bool} {cSP cPC:Int} {cIE cDe cHa:Bool} {cMa:Int} {cTr cR7 cWT cW7 cSa cSI cSO:Bool} {lRe lHo lRs lSi lTr lR7 lR6 lR5 lIn:Bool}:Calls Tryz.prog 74 #[.agg #[.int .i64 k,.int .i64 s,.slice ga gn gc,.bool b1,.bool b2,.bool b3,.bool b4,.bool b5,.bool b6,.bool b7,.bool b8,.bool b9,.bool c1,.bool c2,.bool c3,.bool c4,.int .u16 ca,.int .u8 cv],.agg #[.int .i64 cCh,.int .u8 cA,.int .u8 cB,.int .u8 cC,.int .u8 cD,.int .u8 cE,.int .u8 cH,.int .u8 cL,.bool cfS,.bool cfZ,.bool cfK,.bool cfAC,.bool cfP,.bool cfV,.bool cfCY,.int .u16 cSP,.int .u16 cPC,.bool cIE,.bool cDe,.bool cHa,.int .u8 cMa,.bool cTr,.bool cR7,.bool cWT,.bool cW7,.bool cSa,.bool cSI,.bool cSO],.agg #[.bool lRe,.bool lHo,.bool lRs,.bool lSi,.bool lTr,.bool lR7,.bool lR6,.bool lR5,.bool lIn]] w (PostV w):=by
 go_enter Tryz.func74,Tryz.ntmps74
 go_wp2_with fail
 go_region_held3 (fun w'=>rowOf w' (w.heap.size+1+1)=#[.bool lRe,.bool lHo,.bool lRs,.bool lSi,.bool lTr,.bool lR7,.bool lR6,.bool lR5,.bool lIn]∧w'.cell? ⟨w.heap.size+1,24,none⟩=some (.bool cW7)∧w'.cell? ⟨w.heap.size+1,22,none⟩=some (.bool cR7)∧w'.cell? ⟨w.heap.size+1,21,none⟩=some (.bool cTr)∧w'.cell? ⟨w.heap.size+1,23,none⟩=some (.bool cWT)) ((simp [go_sem, *];done)) (fail)
 all_goals
  go_wp2_with fail
  refine bodyPost_ret (ret_Event Tryz.results74 rfl rfl (by simp [go_sem])) rfl ?_
  simp [go_sem]
  exact PostV.mk _ _ _ _ _ _ _ _ _ _ _ _ _ _ _ _ _ _ _ _ aD
@[go_sem] theorem cyc_field (k a d s:Int) (w:World):(Instr.field 58 (.agg #[.int .i64 k,.int .u16 a,.int .u8 d,.int .i64 s]) 2).run Tryz.prog w=.ok (.int .u8 d) w:=by kernel_rfl
def PostSl (w:World) (e:Ending) (w':World):Prop:=∃(ga:Option Addr) (gn gc:Nat),e=.returned (.slice ga gn gc)∧Adds w w'
theorem bytes_any (x:S.Co) (z:List Int) {st v:Int} (hv:0≤v∧v < 256) (hg:x.gn≤1000000) (h:CoOk x z w):Calls Tryz.prog 77 #[.agg (List.toArray (.int .i64 x.c.Ch:: .int .u8 x.c.A:: .int .u8 x.c.B:: .int .u8 x.c.C:: .int .u8 x.c.D:: .int .u8 x.c.E:: .int .u8 x.c.H:: .int .u8 x.c.L:: .bool x.c.fS:: .bool x.c.fZ:: .bool x.c.fK:: .bool x.c.fAC:: .bool x.c.fP:: .bool x.c.fV:: .bool x.c.fCY:: .int .u16 x.c.SP:: .int .u16 x.c.PC:: .bool x.c.IE:: .bool x.c.De:: .bool x.c.Ha:: .int .u8 x.c.Ma:: .bool x.c.Tr:: .bool x.c.R7:: .bool x.c.WT:: .bool x.c.W7:: .bool x.c.Sa:: .bool x.c.SI:: .bool x.c.SO:: .int .i64 x.src:: .slice x.ga x.gn x.gc:: .int .i64 x.y.k:: .int .u16 x.y.a:: .int .u8 x.y.d:: .int .i64 x.y.s:: .int .i64 x.nx:: .bool x.ho::[])),.int .i64 st,.int .u8 v] w (PostSl w):=by
 have H:=Lib.hid h
 have HG:=Lib.hid hg
 clear h hg
 rcases h3:(st==3) with _|_
 all_goals
  go_enter Tryz.func77,Tryz.ntmps77
  go_wp2_with (first
   |(at_builtin;refine wpList_appBH rfl _ _ rfl _ (.slice none 0 0) [] rfl (OwnsG.nil _ _) x.ga x.gn x.gc z rfl (H.out.held.adds aD) H.out.gc.1 H.out.nn (by have:=HG.out;have:=H.out.held.1;simp;omega) (Nat.le_refl _) ?_;intro v1 w1 hO1 hG1 hW1;obtain ⟨⟨na,osa⟩,rfl⟩:=adds_no hG1;have HO1:=Lib.hid hO1;clear hO1 hG1 hW1)
   |(go_at_call 37;refine ad (current_any x _ _ H.out.y hv) fun n2 os2=> ?_)
   |(at_builtin;refine wpList_appBH rfl _ _ rfl _ v1 _ rfl (HO1.out.adds aD) (some ⟨_,0,none⟩) 1 1 [S.cd x.y.k x.y.d st v] rfl (held_new _ (S.cd x.y.k x.y.d st v) _ (by simp [go_sem]) _ rfl _) (Nat.le_refl _) (fun h=>by cases h) (by have:=HG.out;have:=H.out.held.1;simp;omega) (Adds.size aD) ?_;intro v2 w2 hO2 hG2 hW2;have HO2:=Lib.hid hO2;have HA2:=Lib.hid (AddsG.grown (show Adds w _ from aD) hG2 ((HO1.out.adds aD).mono (Adds.size aD)));clear hO2)
   |fail)
 ·obtain ⟨a1,m1,c1,rfl,_⟩:=HO1.out.form2
  go_ret
  exact ⟨_,_,_,rfl,aD⟩
 ·obtain ⟨a1,m1,c1,rfl,_⟩:=HO2.out.form2
  go_ret
  exact ⟨_,_,_,rfl,HA2.out⟩
end
section
variable {a:Int} {w:World}
def PostBus (x:S.Sy) (w:World) (e:Ending) (w':World):Prop:=∃(p:K22.S.Pc) (v:Int),e=.returned (.tuple #[.agg (List.toArray (.int .i64 x.k.c.Ch:: .int .u8 x.k.c.A:: .int .u8 x.k.c.B:: .int .u8 x.k.c.C:: .int .u8 x.k.c.D:: .int .u8 x.k.c.E:: .int .u8 x.k.c.H:: .int .u8 x.k.c.L:: .bool x.k.c.fS:: .bool x.k.c.fZ:: .bool x.k.c.fK:: .bool x.k.c.fAC:: .bool x.k.c.fP:: .bool x.k.c.fV:: .bool x.k.c.fCY:: .int .u16 x.k.c.SP:: .int .u16 x.k.c.PC:: .bool x.k.c.IE:: .bool x.k.c.De:: .bool x.k.c.Ha:: .int .u8 x.k.c.Ma:: .bool x.k.c.Tr:: .bool x.k.c.R7:: .bool x.k.c.WT:: .bool x.k.c.W7:: .bool x.k.c.Sa:: .bool x.k.c.SI:: .bool x.k.c.SO:: .int .i64 x.k.src:: .slice x.k.ga x.k.gn x.k.gc:: .int .i64 x.k.y.k:: .int .u16 x.k.y.a:: .int .u8 x.k.y.d:: .int .i64 x.k.y.s:: .int .i64 x.k.nx:: .bool x.k.ho:: .slice x.ma x.mn x.mc:: .int .i64 p.St:: .bool p.Le:: .bool p.Fo:: .bool p.Si:: .bool p.Ft:: .int .u8 p.Lw:: .int .u8 p.Hg:: .bool p.Au:: .bool p.Ro:: .bool p.Sp:: .bool p.RI:: .bool p.Po:: .int .u8 p.Li:: .int .u8 p.Ed:: .int .u8 p.IS:: .int .u8 p.IM:: .int .i64 p.Lo:: .int .i64 p.Sq:: .int .i64 p.Sv:: .bool p.Su:: .int .u16 x.da:: .int .u8 x.dv:: .int .i64 x.dl:: .int .i64 x.wt:: .slice x.oa x.on x.oc::[])),.int .u8 v])∧Okq p∧(0≤v∧v < 256)∧Adds w w'
theorem PostBus.mk {x:S.Sy} {w':World} (qSt:Int) (qLe qFo qSi qFt:Bool) (qLw qHg:Int) (qAu qRo qSp qRI qPo:Bool) (qLi qEd qIS qIM qLo qSq qSv:Int) (qSu:Bool) (v:Int) (h1:Okq ⟨qSt,qLe,qFo,qSi,qFt,qLw,qHg,qAu,qRo,qSp,qRI,qPo,qLi,qEd,qIS,qIM,qLo,qSq,qSv,qSu⟩) (h2:0≤v∧v < 256) (h3:Adds w w'):PostBus x w (.returned (.tuple #[.agg (List.toArray (.int .i64 x.k.c.Ch:: .int .u8 x.k.c.A:: .int .u8 x.k.c.B:: .int .u8 x.k.c.C:: .int .u8 x.k.c.D:: .int .u8 x.k.c.E:: .int .u8 x.k.c.H:: .int .u8 x.k.c.L:: .bool x.k.c.fS:: .bool x.k.c.fZ:: .bool x.k.c.fK:: .bool x.k.c.fAC:: .bool x.k.c.fP:: .bool x.k.c.fV:: .bool x.k.c.fCY:: .int .u16 x.k.c.SP:: .int .u16 x.k.c.PC:: .bool x.k.c.IE:: .bool x.k.c.De:: .bool x.k.c.Ha:: .int .u8 x.k.c.Ma:: .bool x.k.c.Tr:: .bool x.k.c.R7:: .bool x.k.c.WT:: .bool x.k.c.W7:: .bool x.k.c.Sa:: .bool x.k.c.SI:: .bool x.k.c.SO:: .int .i64 x.k.src:: .slice x.k.ga x.k.gn x.k.gc:: .int .i64 x.k.y.k:: .int .u16 x.k.y.a:: .int .u8 x.k.y.d:: .int .i64 x.k.y.s:: .int .i64 x.k.nx:: .bool x.k.ho:: .slice x.ma x.mn x.mc:: .int .i64 qSt:: .bool qLe:: .bool qFo:: .bool qSi:: .bool qFt:: .int .u8 qLw:: .int .u8 qHg:: .bool qAu:: .bool qRo:: .bool qSp:: .bool qRI:: .bool qPo:: .int .u8 qLi:: .int .u8 qEd:: .int .u8 qIS:: .int .u8 qIM:: .int .i64 qLo:: .int .i64 qSq:: .int .i64 qSv:: .bool qSu:: .int .u16 x.da:: .int .u8 x.dv:: .int .i64 x.dl:: .int .i64 x.wt:: .slice x.oa x.on x.oc::[])),.int .u8 v])) w':=⟨⟨qSt,qLe,qFo,qSi,qFt,qLw,qHg,qAu,qRo,qSp,qRI,qPo,qLi,qEd,qIS,qIM,qLo,qSq,qSv,qSu⟩,v,rfl,h1,h2,h3⟩
theorem state_h (x:S.Co) (h:1≤x.nx∧x.nx≤9):Calls Tryz.prog 35 #[.agg (List.toArray (.int .i64 x.c.Ch:: .int .u8 x.c.A:: .int .u8 x.c.B:: .int .u8 x.c.C:: .int .u8 x.c.D:: .int .u8 x.c.E:: .int .u8 x.c.H:: .int .u8 x.c.L:: .bool x.c.fS:: .bool x.c.fZ:: .bool x.c.fK:: .bool x.c.fAC:: .bool x.c.fP:: .bool x.c.fV:: .bool x.c.fCY:: .int .u16 x.c.SP:: .int .u16 x.c.PC:: .bool x.c.IE:: .bool x.c.De:: .bool x.c.Ha:: .int .u8 x.c.Ma:: .bool x.c.Tr:: .bool x.c.R7:: .bool x.c.WT:: .bool x.c.W7:: .bool x.c.Sa:: .bool x.c.SI:: .bool x.c.SO:: .int .i64 x.src:: .slice x.ga x.gn x.gc:: .int .i64 x.y.k:: .int .u16 x.y.a:: .int .u8 x.y.d:: .int .i64 x.y.s:: .int .i64 x.nx:: .bool x.ho::[]))] w (PostI w):=(state_any x h w).mono fun e w' ⟨h1,h2⟩=>⟨_,h1,h2⟩
theorem dmR_bd {r x l:Int} (a0:0≤a) (a1:a < 65536) (x0:0≤x) (x1:x < 256):0≤S.dmR r a x l∧S.dmR r a x l < 256:=by
 unfold S.dmR
 repeat' split
 all_goals omega
theorem rd_bd (l:List K12.Rg) (d:List K12.Cl) (h:∀y,0≤K12.Sm.get d y∧K12.Sm.get d y < 256):0≤K12.Sm.rd l d a∧K12.Sm.rd l d a < 256:=by
 unfold K12.Sm.rd
 split
 ·omega
 ·exact h a
theorem bus_any (L:Nat) (b:S.Bd) (x:S.Sy) (i:S.Inp) (l:List K12.Rg) (z:List Int) (m:List K12.Cl) (os:List S.Ou) (hB:BdOk b l w) (hS:SyOk L x z m os w) (hi:i.ok):Calls Tryz.prog 65 #[.agg #[.int .i64 b.ch,.slice b.ra b.rn b.rc,.int .i64 b.iw,.int .u8 b.pp,.int .u8 b.dp,.bool b.jm,.slice b.ia b.ni b.ic],.agg (List.toArray (.int .i64 x.k.c.Ch:: .int .u8 x.k.c.A:: .int .u8 x.k.c.B:: .int .u8 x.k.c.C:: .int .u8 x.k.c.D:: .int .u8 x.k.c.E:: .int .u8 x.k.c.H:: .int .u8 x.k.c.L:: .bool x.k.c.fS:: .bool x.k.c.fZ:: .bool x.k.c.fK:: .bool x.k.c.fAC:: .bool x.k.c.fP:: .bool x.k.c.fV:: .bool x.k.c.fCY:: .int .u16 x.k.c.SP:: .int .u16 x.k.c.PC:: .bool x.k.c.IE:: .bool x.k.c.De:: .bool x.k.c.Ha:: .int .u8 x.k.c.Ma:: .bool x.k.c.Tr:: .bool x.k.c.R7:: .bool x.k.c.WT:: .bool x.k.c.W7:: .bool x.k.c.Sa:: .bool x.k.c.SI:: .bool x.k.c.SO:: .int .i64 x.k.src:: .slice x.k.ga x.k.gn x.k.gc:: .int .i64 x.k.y.k:: .int .u16 x.k.y.a:: .int .u8 x.k.y.d:: .int .i64 x.k.y.s:: .int .i64 x.k.nx:: .bool x.k.ho:: .slice x.ma x.mn x.mc:: .int .i64 x.p.St:: .bool x.p.Le:: .bool x.p.Fo:: .bool x.p.Si:: .bool x.p.Ft:: .int .u8 x.p.Lw:: .int .u8 x.p.Hg:: .bool x.p.Au:: .bool x.p.Ro:: .bool x.p.Sp:: .bool x.p.RI:: .bool x.p.Po:: .int .u8 x.p.Li:: .int .u8 x.p.Ed:: .int .u8 x.p.IS:: .int .u8 x.p.IM:: .int .i64 x.p.Lo:: .int .i64 x.p.Sq:: .int .i64 x.p.Sv:: .bool x.p.Su:: .int .u16 x.da:: .int .u8 x.dv:: .int .i64 x.dl:: .int .i64 x.wt:: .slice x.oa x.on x.oc::[])),.agg #[.bool i.r,.bool i.h,.bool i.z,.bool i.s,.bool i.t,.bool i.a,.bool i.b,.bool i.c,.int .u8 i.q,.int .u8 i.p]] w (PostBus x w):=by
 have HB:=Lib.hid hB
 have HI:=Lib.hid hi
 have HS:=Lib.hid hS
 clear hB hS hi
 obtain ⟨⟨xc,src,ga,gn,gc,⟨yk,ya,yd,ys⟩,nx,ho⟩,ma,mn,mc,xp,da,dv,dl,wt,oa,on,oc⟩:=x
 simp only []
 by_cases h6:yk=6
 ·subst h6
  go_enter Tryz.func65,Tryz.ntmps65
  go_wp2_with (first
   |(go_at_call 35;refine (state_h ⟨xc,src,ga,gn,gc,⟨6,ya,yd,ys⟩,nx,ho⟩ HS.out.k.nx).mono ?_;rintro e w' ⟨st,rfl,⟨⟨n1,os1⟩,rfl⟩⟩)
   |(go_at_call 71;refine ad (rst_reads _ _) fun n2 os2=> ?_)
   |(go_at_call 94;refine (ispic_any b).mono ?_;rintro e w' ⟨b1,b2,rfl,⟨⟨n3,os3⟩,rfl⟩⟩)
   |(go_at_call 95;refine (isdma_any b).mono ?_;rintro e w' ⟨i1,b3,rfl,⟨⟨n4,os4⟩,rfl⟩⟩)
   |(go_at_call 96;refine (memcyc_any).mono ?_;rintro e w' ⟨b4,rfl,⟨⟨n5,os5⟩,rfl⟩⟩)
   |(go_at_call 97;refine ad (K12.rrgread_any l m (HB.out.r.adds aD) (HS.out.mh.adds aD)) fun n6 os6=> ?_)
   |(go_at_call 98;refine ad (K22.rack_any xp HS.out.p.1.1.1 HS.out.p.1.1.2) fun n7 os7=> ?_;have HQ:=Lib.hid HS.out.p.ack;have HV:=Lib.hid HS.out.p.ackV;generalize K22.S.ackV xp=vv at HV⊢;generalize K22.S.ack xp=pp at HQ⊢;simp only [K22.S.Pc.cs])
   |(go_at_call 99;refine ad (K22.rread_any xp HS.out.p.1.1.1 HS.out.p.1.1.2) fun n8 os8=> ?_;have HQ:=Lib.hid (HS.out.p.rdP b1);have HV:=Lib.hid (HS.out.p.rdW b1);generalize K22.S.rdW xp b1=vv at HV⊢;generalize K22.S.rdP xp b1=pp at HQ⊢;simp only [K22.S.Pc.cs])
   |(go_at_call 100;refine ad (dma_rrd HS.out.da.1 HS.out.da.2) fun n9 os9=> ?_)
   |fail)
  all_goals
   refine bodyPost_ret (ret3_System Tryz.results65 rfl rfl rfl (by simp [go_sem])) rfl ?_
   simp [go_sem]
   refine PostBus.mk _ _ _ _ _ _ _ _ _ _ _ _ _ _ _ _ _ _ _ _ _ ?_ ?_ aD
   ·first|exact HS.out.p|exact HQ.out
   ·first|exact HI.out.2|exact HV.out|exact rd_bd l m HS.out.mb|exact dmR_bd HS.out.da.1 HS.out.da.2 HS.out.dv.1 HS.out.dv.2|exact ⟨by simp,by simp⟩
 ·have k6:(yk==6)=false:=by simpa using h6
  have k6':(yk !=6)=true:=by simpa using h6
  clear h6
  go_enter Tryz.func65,Tryz.ntmps65
  go_wp2_with (first
   |(go_at_call 35;refine (state_h ⟨xc,src,ga,gn,gc,⟨yk,ya,yd,ys⟩,nx,ho⟩ HS.out.k.nx).mono ?_;rintro e w' ⟨st,rfl,⟨⟨n1,os1⟩,rfl⟩⟩)
   |(go_at_call 71;refine ad (rst_reads _ _) fun n2 os2=> ?_)
   |(go_at_call 94;refine (ispic_any b).mono ?_;rintro e w' ⟨b1,b2,rfl,⟨⟨n3,os3⟩,rfl⟩⟩)
   |(go_at_call 95;refine (isdma_any b).mono ?_;rintro e w' ⟨i1,b3,rfl,⟨⟨n4,os4⟩,rfl⟩⟩)
   |(go_at_call 96;refine (memcyc_any).mono ?_;rintro e w' ⟨b4,rfl,⟨⟨n5,os5⟩,rfl⟩⟩)
   |(go_at_call 97;refine ad (K12.rrgread_any l m (HB.out.r.adds aD) (HS.out.mh.adds aD)) fun n6 os6=> ?_)
   |(go_at_call 98;refine ad (K22.rack_any xp HS.out.p.1.1.1 HS.out.p.1.1.2) fun n7 os7=> ?_;have HQ:=Lib.hid HS.out.p.ack;have HV:=Lib.hid HS.out.p.ackV;generalize K22.S.ackV xp=vv at HV⊢;generalize K22.S.ack xp=pp at HQ⊢;simp only [K22.S.Pc.cs])
   |(go_at_call 99;refine ad (K22.rread_any xp HS.out.p.1.1.1 HS.out.p.1.1.2) fun n8 os8=> ?_;have HQ:=Lib.hid (HS.out.p.rdP b1);have HV:=Lib.hid (HS.out.p.rdW b1);generalize K22.S.rdW xp b1=vv at HV⊢;generalize K22.S.rdP xp b1=pp at HQ⊢;simp only [K22.S.Pc.cs])
   |(go_at_call 100;refine ad (dma_rrd HS.out.da.1 HS.out.da.2) fun n9 os9=> ?_)
   |fail)
  all_goals
   refine bodyPost_ret (ret3_System Tryz.results65 rfl rfl rfl (by simp [go_sem])) rfl ?_
   simp [go_sem]
   refine PostBus.mk _ _ _ _ _ _ _ _ _ _ _ _ _ _ _ _ _ _ _ _ _ ?_ ?_ aD
   ·first|exact HS.out.p|exact HQ.out
   ·first|exact HI.out.2|exact HV.out|exact rd_bd l m HS.out.mb|exact dmR_bd HS.out.da.1 HS.out.da.2 HS.out.dv.1 HS.out.dv.2|exact ⟨by simp,by simp⟩
end
end Go.Proofs.YteggjjhjmhccjaaGreatDoor
