/- Texts that the proofs of the statements on dumps rest on, joined. Conditions stand in each theorem. -/
import Derived.Test.YteggjjhjmhccjaaGreatDoorQ20
import Derived.Test.YteggjjhjmhccjaaGreatDoorQ29
import Derived.Deep.RegionHeld3
import Derived.Deep.Cut
import Derived.Deep.RegionLaw
import Derived.Test.YteggjjhjmhccjaaGreatDoorQ01
set_option linter.unusedVariables false
set_option linter.unusedSimpArgs false
set_option maxRecDepth 100000
set_option maxHeartbeats 8000000
namespace Go.Proofs.YteggjjhjmhccjaaGreatDoor
open Go.ChangeShapes Go.WideShapes Go.ChangeAt Go.RowKit
section
variable {w:World}
theorem begin_any (c:S.Cp) (src:Int) (hR:S.OkR c.A c.B c.C c.D c.E c.H c.L c.SP c.PC) (w:World):Calls Tryz.prog 90 #[.agg #[.int .i64 c.Ch,.int .u8 c.A,.int .u8 c.B,.int .u8 c.C,.int .u8 c.D,.int .u8 c.E,.int .u8 c.H,.int .u8 c.L,.bool c.fS,.bool c.fZ,.bool c.fK,.bool c.fAC,.bool c.fP,.bool c.fV,.bool c.fCY,.int .u16 c.SP,.int .u16 c.PC,.bool c.IE,.bool c.De,.bool c.Ha,.int .u8 c.Ma,.bool c.Tr,.bool c.R7,.bool c.WT,.bool c.W7,.bool c.Sa,.bool c.SI,.bool c.SO],.int .i64 src] w (PostY w):=by
 go_enter Tryz.func90,Tryz.ntmps90
 go_wp2_with (go_at_call 115;refine (next_any c _ none 0 0 [] hR (by omega) (by omega) (fun y hy=>by cases hy) _ (HeldG.nil _ _)).mono ?_;rintro e w' ⟨⟨xk,xa,xd,xs⟩,m,rfl,hx,hm,⟨⟨n1,os1⟩,rfl⟩⟩;have HX:=Lib.hid (hx (hm rfl));clear hx hm;simp only [S.Cy.cs])
 exact bodyPost_ret (v:=.agg #[.int .i64 xk,.int .u16 xa,.int .u8 xd,.int .i64 xs]) (ret_Cycle Tryz.results90 rfl (by simp [go_sem]) rfl) rfl ⟨⟨xk,xa,xd,xs⟩,rfl,HX.out,aD⟩
theorem begin_cv {cCh cA cB cC cD cE cH cL:Int} {cfS cfZ cfK cfAC cfP cfV cfCY:Bool} {cSP cPC:Int} {cIE cDe cHa:Bool} {cMa:Int} {cTr cR7 cWT cW7 cSa cSI cSO:Bool} {src:Int} (hR:S.OkR cA cB cC cD cE cH cL cSP cPC):Calls Tryz.prog 90 #[.agg #[.int .i64 cCh,.int .u8 cA,.int .u8 cB,.int .u8 cC,.int .u8 cD,.int .u8 cE,.int .u8 cH,.int .u8 cL,.bool cfS,.bool cfZ,.bool cfK,.bool cfAC,.bool cfP,.bool cfV,.bool cfCY,.int .u16 cSP,.int .u16 cPC,.bool cIE,.bool cDe,.bool cHa,.int .u8 cMa,.bool cTr,.bool cR7,.bool cWT,.bool cW7,.bool cSa,.bool cSI,.bool cSO],.int .i64 src] w (PostY w):=begin_any ⟨cCh,cA,cB,cC,cD,cE,cH,cL,cfS,cfZ,cfK,cfAC,cfP,cfV,cfCY,cSP,cPC,cIE,cDe,cHa,cMa,cTr,cR7,cWT,cW7,cSa,cSI,cSO⟩ src hR w
def PostBo (w:World) (e:Ending) (w':World):Prop:=∃r:Bool,e=.returned (.bool r)∧Adds w w'
theorem busy_any (x:S.Co) (hgc:x.gn≤x.gc∧x.gc≤9223372036854775807):Calls Tryz.prog 39 #[.agg #[.int .i64 x.c.Ch,.int .u8 x.c.A,.int .u8 x.c.B,.int .u8 x.c.C,.int .u8 x.c.D,.int .u8 x.c.E,.int .u8 x.c.H,.int .u8 x.c.L,.bool x.c.fS,.bool x.c.fZ,.bool x.c.fK,.bool x.c.fAC,.bool x.c.fP,.bool x.c.fV,.bool x.c.fCY,.int .u16 x.c.SP,.int .u16 x.c.PC,.bool x.c.IE,.bool x.c.De,.bool x.c.Ha,.int .u8 x.c.Ma,.bool x.c.Tr,.bool x.c.R7,.bool x.c.WT,.bool x.c.W7,.bool x.c.Sa,.bool x.c.SI,.bool x.c.SO,.int .i64 x.src,.slice x.ga x.gn x.gc,.int .i64 x.y.k,.int .u16 x.y.a,.int .u8 x.y.d,.int .i64 x.y.s,.int .i64 x.nx,.bool x.ho]] w (PostBo w):=by
 obtain ⟨g1,g2⟩:=hgc
 go_enter Tryz.func39,Tryz.ntmps39
 go_wp2_with fail
 all_goals
  go_ret
  exact ⟨_,rfl,aD⟩
theorem resting_any (x:S.Co) (w:World):Calls Tryz.prog 103 #[.agg #[.int .i64 x.c.Ch,.int .u8 x.c.A,.int .u8 x.c.B,.int .u8 x.c.C,.int .u8 x.c.D,.int .u8 x.c.E,.int .u8 x.c.H,.int .u8 x.c.L,.bool x.c.fS,.bool x.c.fZ,.bool x.c.fK,.bool x.c.fAC,.bool x.c.fP,.bool x.c.fV,.bool x.c.fCY,.int .u16 x.c.SP,.int .u16 x.c.PC,.bool x.c.IE,.bool x.c.De,.bool x.c.Ha,.int .u8 x.c.Ma,.bool x.c.Tr,.bool x.c.R7,.bool x.c.WT,.bool x.c.W7,.bool x.c.Sa,.bool x.c.SI,.bool x.c.SO,.int .i64 x.src,.slice x.ga x.gn x.gc,.int .i64 x.y.k,.int .u16 x.y.a,.int .u8 x.y.d,.int .i64 x.y.s,.int .i64 x.nx,.bool x.ho]] w (PostBo w):=by
 go_enter Tryz.func103,Tryz.ntmps103
 go_wp2_with fail
 all_goals
  go_ret
  exact ⟨_,rfl,aD⟩
theorem state_any (x:S.Co) (h:1≤x.nx∧x.nx≤9) (w:World):Calls Tryz.prog 35 #[.agg #[.int .i64 x.c.Ch,.int .u8 x.c.A,.int .u8 x.c.B,.int .u8 x.c.C,.int .u8 x.c.D,.int .u8 x.c.E,.int .u8 x.c.H,.int .u8 x.c.L,.bool x.c.fS,.bool x.c.fZ,.bool x.c.fK,.bool x.c.fAC,.bool x.c.fP,.bool x.c.fV,.bool x.c.fCY,.int .u16 x.c.SP,.int .u16 x.c.PC,.bool x.c.IE,.bool x.c.De,.bool x.c.Ha,.int .u8 x.c.Ma,.bool x.c.Tr,.bool x.c.R7,.bool x.c.WT,.bool x.c.W7,.bool x.c.Sa,.bool x.c.SI,.bool x.c.SO,.int .i64 x.src,.slice x.ga x.gn x.gc,.int .i64 x.y.k,.int .u16 x.y.a,.int .u8 x.y.d,.int .i64 x.y.s,.int .i64 x.nx,.bool x.ho]] w fun e w'=>e=.returned (.int .i64 x.nx)∧Adds w w':=by
 obtain ⟨h1,h2⟩:=h
 have q1:¬x.nx < 1:=by omega
 have q2:¬9 < x.nx:=by omega
 go_enter Tryz.func35,Tryz.ntmps35
 go_wp2_with fail
 all_goals
  go_ret
  exact ⟨rfl,aD⟩
def S.ends (st s:Int):Bool:=if st=3 then decide (s≤3) else if st=4∨st=5 then decide (s≤st) else decide (st=6)
theorem ends_any {st k a d s:Int}:Calls Tryz.prog 107 #[.int .i64 st,.agg #[.int .i64 k,.int .u16 a,.int .u8 d,.int .i64 s]] w fun e w'=>e=.returned (.bool (S.ends st s))∧Adds w w':=by
 by_cases h3:st=3
 ·subst h3
  go_enter Tryz.func107,Tryz.ntmps107
  go_wp2_with fail
  go_ret
  exact ⟨by simp [S.ends],aD⟩
 by_cases h4:st=4
 ·subst h4
  go_enter Tryz.func107,Tryz.ntmps107
  go_wp2_with fail
  go_ret
  exact ⟨by simp [S.ends],aD⟩
 by_cases h5:st=5
 ·subst h5
  go_enter Tryz.func107,Tryz.ntmps107
  go_wp2_with fail
  go_ret
  exact ⟨by simp [S.ends],aD⟩
 ·go_enter Tryz.func107,Tryz.ntmps107
  go_wp2_with fail
  go_ret
  exact ⟨by simp [S.ends,h3,h4,h5];try rfl,aD⟩
theorem serve_any (x:S.Co) (src:Int) (hR:x.c.Ok) (hn:1≤x.nx∧x.nx≤9) (w:World):Calls Tryz.prog 105 #[.agg #[.int .i64 x.c.Ch,.int .u8 x.c.A,.int .u8 x.c.B,.int .u8 x.c.C,.int .u8 x.c.D,.int .u8 x.c.E,.int .u8 x.c.H,.int .u8 x.c.L,.bool x.c.fS,.bool x.c.fZ,.bool x.c.fK,.bool x.c.fAC,.bool x.c.fP,.bool x.c.fV,.bool x.c.fCY,.int .u16 x.c.SP,.int .u16 x.c.PC,.bool x.c.IE,.bool x.c.De,.bool x.c.Ha,.int .u8 x.c.Ma,.bool x.c.Tr,.bool x.c.R7,.bool x.c.WT,.bool x.c.W7,.bool x.c.Sa,.bool x.c.SI,.bool x.c.SO,.int .i64 x.src,.slice x.ga x.gn x.gc,.int .i64 x.y.k,.int .u16 x.y.a,.int .u8 x.y.d,.int .i64 x.y.s,.int .i64 x.nx,.bool x.ho],.int .i64 src] w (PostK x.c.Ch (fun q=>q.nx=x.nx∧q.ho=x.ho∧q.c.PC=x.c.PC∧q.gn=0) w):=by
 have HR:=Lib.hid hR
 have HN:=Lib.hid hn
 clear hR hn
 go_enter Tryz.func105,Tryz.ntmps105
 go_wp2_with (first
  |(go_at_call 133;refine ad (raccept_any) fun n1 os1=> ?_)
  |(go_at_call 90;refine (begin_cv HR.out.1).mono ?_;rintro e w' ⟨⟨yk,ya,yd,ys⟩,rfl,hy,⟨⟨n2,os2⟩,rfl⟩⟩;have HY:=Lib.hid hy;clear hy;simp only []))
 refine bodyPost_ret (ret_Core Tryz.results105 rfl rfl (by simp [go_sem])) rfl ?_
 simp [go_sem]
 exact PostK.mk _ _ _ _ _ _ _ _ _ _ _ _ _ _ _ _ _ _ _ _ _ _ _ _ _ _ _ _ _ _ _ _ _ _ _ _ _ _ [] rfl ⟨HR.out,HY.out,HN.out,HeldG.nil _ _,⟨by show 0≤0;omega,by show (0:Nat)≤_;omega⟩,fun y hy=>(by cases hy),fun _=>rfl⟩ ⟨rfl,rfl,rfl,rfl⟩ aD
end
section
variable {ch st v:Int} {w:World} {y:S.Cy}
def S.cd (k d st v:Int):Int:=if st=3∧S.stR k=true then v else d
def S.cst3 (ch k d s st v:Int):Int:=if st=3∧(k=1∨k=8) then S.first ch (S.cd k d st v) else s
def S.cur (ch:Int) (y:S.Cy) (st v:Int):S.Cy:=⟨y.k,y.a,S.cd y.k y.d st v,S.cst3 ch y.k y.d y.s st v⟩
theorem S.cd_bd {k d:Int} (hd:0≤d∧d < 256) (hv:0≤v∧v < 256):0≤S.cd k d st v∧S.cd k d st v < 256:=by unfold S.cd;split<;>assumption
theorem S.cur_ok (h:y.Ok) (hv:0≤v∧v < 256):(S.cur ch y st v).Ok:=by
 refine ⟨h.k,h.a,S.cd_bd h.d hv,?_⟩
 show 3≤S.cst3 ch y.k y.d y.s st v∧S.cst3 ch y.k y.d y.s st v≤6
 unfold S.cst3
 have:=S.first_in ch (S.cd y.k y.d st v)
 have:=h.s
 split<;>omega
theorem current_any (x:S.Co) (st v:Int) (hy:x.y.Ok) (hv:0≤v∧v < 256):Calls Tryz.prog 37 #[.agg #[.int .i64 x.c.Ch,.int .u8 x.c.A,.int .u8 x.c.B,.int .u8 x.c.C,.int .u8 x.c.D,.int .u8 x.c.E,.int .u8 x.c.H,.int .u8 x.c.L,.bool x.c.fS,.bool x.c.fZ,.bool x.c.fK,.bool x.c.fAC,.bool x.c.fP,.bool x.c.fV,.bool x.c.fCY,.int .u16 x.c.SP,.int .u16 x.c.PC,.bool x.c.IE,.bool x.c.De,.bool x.c.Ha,.int .u8 x.c.Ma,.bool x.c.Tr,.bool x.c.R7,.bool x.c.WT,.bool x.c.W7,.bool x.c.Sa,.bool x.c.SI,.bool x.c.SO,.int .i64 x.src,.slice x.ga x.gn x.gc,.int .i64 x.y.k,.int .u16 x.y.a,.int .u8 x.y.d,.int .i64 x.y.s,.int .i64 x.nx,.bool x.ho],.int .i64 st,.int .u8 v] w fun e w'=>e=.returned (.agg #[.int .i64 x.y.k,.int .u16 x.y.a,.int .u8 (S.cd x.y.k x.y.d st v),.int .i64 (S.cst3 x.c.Ch x.y.k x.y.d x.y.s st v)])∧Adds w w':=by
 obtain ⟨xc,src,ga,gn,gc,⟨k,a,d,s⟩,nx,ho⟩:=x
 have hd:=hy.d
 simp only [] at hd⊢
 clear hy
 by_cases h3:st=3
 ·subst h3
  rcases hr:S.stR k with _|_
  ·have hq:S.cd k d 3 v=d:=by simp [S.cd,hr]
   have hq0:=Lib.hid (show 0≤d∧d < 256 by first|exact hd|exact hv)
   have HR:=Lib.hid hr
   clear hr
   by_cases h1:k=1∨k=8
   ·have e:S.cst3 xc.Ch k d s 3 v=S.first xc.Ch d:=by unfold S.cst3;rw [if_pos ⟨rfl,h1⟩,hq]
    rw [e,hq]
    clear e hq
    rcases h1 with rfl|rfl
    all_goals
     go_enter Tryz.func37,Tryz.ntmps37
     go_wp2_with (first|(go_at_call 71;refine ad (rreads_is _ false HR.out _) fun n1 os1=> ?_)|(go_at_call 72;refine ad (first_any _ _ hq0.out.1 (by have:=hq0.out.2;omega) _) fun n2 os2=> ?_))
     refine bodyPost_ret (ret_Cycle Tryz.results37 rfl rfl (by simp [go_sem])) rfl ?_
     simp [go_sem]
     exact aD
   ·have e:S.cst3 xc.Ch k d s 3 v=s:=by unfold S.cst3;rw [if_neg (fun h=>h1 h.2)]
    rw [e,hq]
    clear e hq
    have h11:¬k=1:=fun h=>h1 (.inl h)
    have h18:¬k=8:=fun h=>h1 (.inr h)
    have b1:(k==1)=false:=by simp [h11]
    have b8:(k==8)=false:=by simp [h18]
    clear h1
    go_enter Tryz.func37,Tryz.ntmps37
    go_wp2_with (first|(go_at_call 71;refine ad (rreads_is _ false HR.out _) fun n1 os1=> ?_))
    refine bodyPost_ret (ret_Cycle Tryz.results37 rfl rfl (by simp [go_sem])) rfl ?_
    simp [go_sem]
    exact aD
  ·have hq:S.cd k d 3 v=v:=by simp [S.cd,hr]
   have hq0:=Lib.hid (show 0≤v∧v < 256 by first|exact hd|exact hv)
   have HR:=Lib.hid hr
   clear hr
   by_cases h1:k=1∨k=8
   ·have e:S.cst3 xc.Ch k d s 3 v=S.first xc.Ch v:=by unfold S.cst3;rw [if_pos ⟨rfl,h1⟩,hq]
    rw [e,hq]
    clear e hq
    rcases h1 with rfl|rfl
    all_goals
     go_enter Tryz.func37,Tryz.ntmps37
     go_wp2_with (first|(go_at_call 71;refine ad (rreads_is _ true HR.out _) fun n1 os1=> ?_)|(go_at_call 72;refine ad (first_any _ _ hq0.out.1 (by have:=hq0.out.2;omega) _) fun n2 os2=> ?_))
     refine bodyPost_ret (ret_Cycle Tryz.results37 rfl rfl (by simp [go_sem])) rfl ?_
     simp [go_sem]
     exact aD
   ·have e:S.cst3 xc.Ch k d s 3 v=s:=by unfold S.cst3;rw [if_neg (fun h=>h1 h.2)]
    rw [e,hq]
    clear e hq
    have h11:¬k=1:=fun h=>h1 (.inl h)
    have h18:¬k=8:=fun h=>h1 (.inr h)
    have b1:(k==1)=false:=by simp [h11]
    have b8:(k==8)=false:=by simp [h18]
    clear h1
    go_enter Tryz.func37,Tryz.ntmps37
    go_wp2_with (first|(go_at_call 71;refine ad (rreads_is _ true HR.out _) fun n1 os1=> ?_))
    refine bodyPost_ret (ret_Cycle Tryz.results37 rfl rfl (by simp [go_sem])) rfl ?_
    simp [go_sem]
    exact aD
 ·rw [show S.cd k d st v=d from by simp [S.cd,h3],show S.cst3 xc.Ch k d s st v=s from by simp [S.cst3,h3]]
  go_enter Tryz.func37,Tryz.ntmps37
  go_wp2_with fail
  refine bodyPost_ret (ret_Cycle Tryz.results37 rfl rfl (by simp [go_sem])) rfl ?_
  simp [go_sem]
  exact aD
theorem new20_any:Calls Tryz.prog 58 #[.int .i64 ch] w (PostK ch (fun q=>q.nx=1∧q.gn=0) w):=by
 have hz9:S.OkR 0 0 0 0 0 0 0 0 0:=⟨by omega,by omega,by omega,by omega,by omega,by omega,by omega,by omega,by omega⟩
 go_enter Tryz.func58,Tryz.ntmps58
 go_upto_region 2 with (go_at_call 89;refine ad (rreset_any) fun n1 os1=> ?_)
 have hm:0≤S.rsm ch∧S.rsm ch < 256:=by unfold S.rsm;split<;>omega
 generalize S.rsm ch=mm at hm⊢
 go_region_with (go_at_call 90;refine (begin_cv hz9).mono ?_;rintro e w' ⟨⟨yk,ya,yd,ys⟩,rfl,hy,⟨⟨n2,os2⟩,rfl⟩⟩;have HY:=Lib.hid hy;clear hy;simp only [])
 all_goals go_wp2_with fail
 all_goals
  refine bodyPost_ret (ret_Core Tryz.results58 rfl rfl (by simp [go_sem])) rfl ?_
  simp [go_sem]
  exact PostK.mk _ _ _ _ _ _ _ _ _ _ _ _ _ _ _ _ _ _ _ _ _ _ _ _ _ _ _ _ _ _ _ _ _ _ _ _ _ _ [] rfl ⟨⟨hz9,hm⟩,HY.out,⟨by show (1:Int)≤1;omega,by show (1:Int)≤9;omega⟩,HeldG.nil _ _,⟨by show 0≤0;omega,by show (0:Nat)≤_;omega⟩,fun y hy=>(by cases hy),fun _=>rfl⟩ ⟨rfl,rfl⟩ aD
end
section
def ReadPost (ch:Int) (y:S.Cy) (st v:Int) (ga:Option Addr) (gn:Nat) (w:World) (e:Ending) (w':World):Prop:=∃(ga':Option Addr) (gn' gc':Nat) (z':List Int),
 e=.returned (.tuple #[.agg #[.int .i64 y.k,.int .u16 y.a,.int .u8 (S.cd y.k y.d st v),.int .i64 (S.cst3 ch y.k y.d y.s st v)],.slice ga' gn' gc'])∧HeldB w' ga' gn' z'∧(gn'≤gc'∧gc'≤9223372036854775807)∧gn'≤gn+1∧(∀b∈z',0≤b∧b < 256)∧(ga'=none→gc'=0)∧Sm2 w.heap.size ga gn ga' gn'∧Adds w w'
theorem read_no (x:S.Co) (z:List Int) (st v:Int) (h3:¬st=3) (w:World) (h:CoOk x z w):Calls Tryz.prog 106 #[.agg #[.int .i64 x.c.Ch,.int .u8 x.c.A,.int .u8 x.c.B,.int .u8 x.c.C,.int .u8 x.c.D,.int .u8 x.c.E,.int .u8 x.c.H,.int .u8 x.c.L,.bool x.c.fS,.bool x.c.fZ,.bool x.c.fK,.bool x.c.fAC,.bool x.c.fP,.bool x.c.fV,.bool x.c.fCY,.int .u16 x.c.SP,.int .u16 x.c.PC,.bool x.c.IE,.bool x.c.De,.bool x.c.Ha,.int .u8 x.c.Ma,.bool x.c.Tr,.bool x.c.R7,.bool x.c.WT,.bool x.c.W7,.bool x.c.Sa,.bool x.c.SI,.bool x.c.SO,.int .i64 x.src,.slice x.ga x.gn x.gc,.int .i64 x.y.k,.int .u16 x.y.a,.int .u8 x.y.d,.int .i64 x.y.s,.int .i64 x.nx,.bool x.ho],.int .i64 st,.int .u8 v] w (ReadPost x.c.Ch x.y st v x.ga x.gn w):=by
 have e1:S.cd x.y.k x.y.d st v=x.y.d:=by simp [S.cd,h3]
 have e2:S.cst3 x.c.Ch x.y.k x.y.d x.y.s st v=x.y.s:=by simp [S.cst3,h3]
 have H:=Lib.hid h
 clear h
 go_enter Tryz.func106,Tryz.ntmps106
 go_wp2_with fail
 go_region
 go_wp2_with fail
 refine bodyPost_ret (ret3_Cycle Tryz.results106 rfl rfl rfl (by simp [go_sem])) rfl ?_
 simp [go_sem]
 exact ⟨x.ga,x.gn,x.gc,z,by rw [e1,e2],H.out.held.adds aD,H.out.gc,by omega,H.out.by_,H.out.nn,Sm2.refl _ _ _,aD⟩
end
section
def ReadPost3 (ch:Int) (y:S.Cy) (v:Int) (gn:Nat) (w:World) (e:Ending) (w':World):Prop:=∃(ga':Option Addr) (gn' gc':Nat) (z':List Int),
 e=.returned (.tuple #[.agg #[.int .i64 y.k,.int .u16 y.a,.int .u8 (S.cd y.k y.d 3 v),.int .i64 (S.cst3 ch y.k y.d y.s 3 v)],.slice ga' gn' gc'])∧HeldB w' ga' gn' z'∧(gn'≤gc'∧gc'≤9223372036854775807)∧gn'≤gn+1∧(∀b∈z',0≤b∧b < 256)∧(ga'=none→gc'=0)∧Nw w.heap.size ga' gn'∧Adds w w'
theorem rdG {P:Prop} (h:P:=by
 rintro ww ⟨hA,r8,r6,hB8⟩
 have E8:=Lib.hid (show R8[2]? =some (.int .u8 u) by rw [←hR];rfl)
 have P8:=Lib.hid (show 0 < R8.size by rw [←hR];simp)
 have z8:R8.size=4:=by rw [←hR];rfl
 have t8:(List.take 4 R8.toList).toArray=R8:=by rw [←hR];rfl
 have o8:(R8.toList.all fun x=>x.oneCell')=true:=by rw [←hR];rfl
 have HRR:=Lib.hid hR
 clear hR
 have c8:=rowOf_cell (i:=2) (v:=.int .u8 u) r8 E8.out
 have s6:(rowOf ww (w.heap.size+1)).size=4:=by rw [r6];rfl
 have HA:=Lib.hid hA
 have hB6:w.heap.size+1 < ww.heap.size:=by omega
 clear hA
 go_region_held3 (fun w'=>rowOf w' (w.heap.size+1+1)=R8∧w'.cell? ⟨w.heap.size+1+1,2,none⟩=some (.int .u8 u)∧(rowOf w' (w.heap.size+1)).size=4)
  (first|(refine ⟨?_,?_,?_⟩<;>assumption)|(refine ⟨(rowOf_setRow_other _ _ _ _ (by omega)).trans (by assumption),rowOf_cell (i:=2) (v:=.int .u8 u) ((rowOf_setRow_other _ _ _ _ (by omega)).trans (by assumption)) E8.out,by rw [rowOf_setRow_same _ _ _ (by omega)];assumption⟩)|(simp [go_sem, *];done))
  (first
    |((refine step_appBH rfl _ _ (by rfl) ww.heap.size (.slice none 0 0) [] (by rfl) (OwnsG.nil _ _) ga gn gc z (by rfl) (HH.out.adds (HA.out.trans aD)) HC.out.1 HN.out (by have:=HG.out;simp;omega) (by simp [go_sem];try omega) ?_;intro v1 w1 hO1 hG1 hW1;have r81:rowOf w1 (w.heap.size+1+1)=R8:=grown_row hG1 (by simp [go_sem, *];done) P8.out (by simp [Value.ownBlock]);have r61:rowOf w1 (w.heap.size+1)=#[.int .i64 0,.int .u16 0,.int .u8 0,.int .i64 0]:=grown_row hG1 (by simp [go_sem, *];done) (by simp) (by simp [Value.ownBlock]);have c81:=rowOf_cell (i:=2) (v:=.int .u8 u) r81 E8.out;have q81:=row_lt r81 P8.out;have q61:=row_lt r61 (by simp);have s61:(rowOf w1 (w.heap.size+1)).size=4:=(by rw [r61];rfl);have hA1:=AddsG.grown (HA.out.trans aD) hG1 (OwnsG.nil (E:=5) (cs:=csB) (sz:=1) _ _);have hS1:=hA1.size;have hS2:ww.heap.size≤w1.heap.size:=(by have:=hG1.size;simp [go_sem] at this;omega);obtain ⟨a1,n1',c1,rfl,hn1,hc1,hc2,hc3,hc4⟩:=hO1.form2;have HO1:=Lib.hid hO1;have HA1:=Lib.hid hA1;have HF1:=Lib.hid hn1.out;have HG1:=Lib.hid hG1;have HW1:=Lib.hid hW1;clear hO1 hA1 hn1 hG1 hW1))
    |((refine step_appBH rfl _ _ (by rfl) ww.heap.size (.slice a1 n1' c1) _ (by rfl) (HO1.out.alloc _) (some ⟨w1.heap.size,0,none⟩) 1 1 [u] (by rfl) (held_new w1 _ _ rfl _ rfl _) (by omega) (by simp) (by have:=HG.out;have:=HH.out.1;simp;omega) (by simp [go_sem];omega) ?_;intro v2 w2 hO2 hG2 hW2;have r82:rowOf w2 (w.heap.size+1+1)=R8:=grown_row hG2 (by simp [go_sem, *];done) P8.out (fun e=>by have:=HO1.out.lt2 e;omega);have r62:rowOf w2 (w.heap.size+1)=#[.int .i64 0,.int .u16 0,.int .u8 0,.int .i64 0]:=grown_row hG2 (by simp [go_sem, *];done) (by simp) (fun e=>by have:=HO1.out.lt2 e;omega);have c82:=rowOf_cell (i:=2) (v:=.int .u8 u) r82 E8.out;have s62:(rowOf w2 (w.heap.size+1)).size=4:=(by rw [r62];rfl);have hA2:=AddsG.grown (HA1.out.alloc _) hG2 ((HO1.out.alloc _).mono (show w.heap.size≤ww.heap.size by omega));have HA2:=Lib.hid hA2;have HO2:=Lib.hid hO2;clear hO2 hA2 hG2 hW2))
    |((refine step_appBH rfl _ _ (by rfl) ww.heap.size (.slice a1 n1' c1) _ (by rfl) HO1.out (some ⟨ww.heap.size,0,none⟩) 1 1 [u] (by rfl) (held_at (cs:=csB) u (c:=#[.int .u8 u]) rfl (grown_row HG1.out (by simp [go_sem]) (by simp) (by simp [Value.ownBlock])) (by simp)) (by omega) (by simp) (by have:=HG.out;have:=HH.out.1;simp;omega) (by omega) ?_;intro v2 w2 hO2 hG2 hW2;have r82:rowOf w2 (w.heap.size+1+1)=R8:=grown_row hG2 (by assumption) P8.out (fun e=>by have:=HO1.out.lt2 e;omega);have r62:rowOf w2 (w.heap.size+1)=#[.int .i64 0,.int .u16 0,.int .u8 0,.int .i64 0]:=grown_row hG2 (by assumption) (by simp) (fun e=>by have:=HO1.out.lt2 e;omega);have c82:=rowOf_cell (i:=2) (v:=.int .u8 u) r82 E8.out;have s62:(rowOf w2 (w.heap.size+1)).size=4:=(by rw [r62];rfl);have hA2:=AddsG.grown HA1.out hG2 (HO1.out.mono (show w.heap.size≤ww.heap.size by omega));have HA2:=Lib.hid hA2;have HO2:=Lib.hid hO2;clear hO2 hA2 hG2 hW2))
    |fail)
 all_goals
  obtain ⟨a2,n2',c2,rfl,hn2,hc1',hc2',hc3',hc4'⟩:=HO2.out.form2
  have HN2:=Lib.hid hn2.out
  clear hn2
  go_wp2_with fail
  refine bodyPost_ret (ret3_Cycle Tryz.results106 rfl rfl (rowOf_setRow_same _ _ _ (by omega)) z8) rfl ?_
  have hT:=fun c=>Tch.setRow (S:=fun b=>b=w.heap.size+1) (Tch.refl _ w2) (w.heap.size+1) c (fun _=>rfl)
  have hO3:=fun c=>HO2.out.tch (hT c) (fun g e hg=>by have:=HO2.out.lt2 e;omega)
  have hl:=HN2.out
  simp only [List.length_append,List.length_nil,List.length_singleton] at hl
  have hz:=HH.out.1
  have hg:=HG.out
  exact ⟨a2,n2',c2,_,by rw [←HRR.out];simp only [HE.out,HQ.out];rfl,(hO3 _).held (by simp;omega),⟨hc1',hc2'⟩,by omega,(fun b hb=>by
   rcases List.mem_append.1 hb with hb|hb
   ·exact HB.out b (by simpa using hb)
   ·obtain rfl:b=u:=by simpa using hb
    exact hq0.out),(fun e=>(hc4' e).2),(hO3 #[]).nw.mono (by omega),(hT _).adds HA2.out (fun b _ e=>by subst e;omega)⟩):P:=h
theorem q1C20e {P:Prop} (h:P:=by
 skip
 go_enter Tryz.func106,Tryz.ntmps106
 go_wp2_with fail
 go_region
 go_wp2_with (first|(go_at_call 71;refine ad (rreads_is _ _ HR.out _) fun n1 os1=> ?_)|(go_at_call 72;refine ad (first_any _ _ hq0.out.1 (by have:=hq0.out.2;omega) _) fun n2 os2=> ?_))
 refine wp_forget (fun ww=>Adds w ww∧rowOf ww (w.heap.size+1+1)=#[.int .i64 (1),.int .u16 a,.int .u8 u,.int .i64 (S.first xc.Ch u)]∧rowOf ww (w.heap.size+1)=#[.int .i64 0,.int .u16 0,.int .u8 0,.int .i64 0]∧w.heap.size+1+1 < ww.heap.size) ⟨aD,by simp [go_sem],by simp [go_sem],by simp [go_sem];omega⟩ ?_
 generalize hR:(#[.int .i64 (1),.int .u16 a,.int .u8 u,.int .i64 (S.first xc.Ch u)]:Array Value)=R8
 exact rdG):P:=h
theorem q2C20e {P:Prop} (h:P:=by
 skip
 go_enter Tryz.func106,Tryz.ntmps106
 go_wp2_with fail
 go_region
 go_wp2_with (first|(go_at_call 71;refine ad (rreads_is _ _ HR.out _) fun n1 os1=> ?_)|(go_at_call 72;refine ad (first_any _ _ hq0.out.1 (by have:=hq0.out.2;omega) _) fun n2 os2=> ?_))
 refine wp_forget (fun ww=>Adds w ww∧rowOf ww (w.heap.size+1+1)=#[.int .i64 (8),.int .u16 a,.int .u8 u,.int .i64 (S.first xc.Ch u)]∧rowOf ww (w.heap.size+1)=#[.int .i64 0,.int .u16 0,.int .u8 0,.int .i64 0]∧w.heap.size+1+1 < ww.heap.size) ⟨aD,by simp [go_sem],by simp [go_sem],by simp [go_sem];omega⟩ ?_
 generalize hR:(#[.int .i64 (8),.int .u16 a,.int .u8 u,.int .i64 (S.first xc.Ch u)]:Array Value)=R8
 exact rdG):P:=h
theorem q3C20e {P:Prop} (h:P:=by
 go_enter Tryz.func106,Tryz.ntmps106
 go_wp2_with fail
 go_region
 go_wp2_with (first|(go_at_call 71;refine ad (rreads_is _ _ HR.out _) fun n1 os1=> ?_)|(go_at_call 72;refine ad (first_any _ _ hq0.out.1 (by have:=hq0.out.2;omega) _) fun n2 os2=> ?_))
 refine wp_forget (fun ww=>Adds w ww∧rowOf ww (w.heap.size+1+1)=#[.int .i64 (k),.int .u16 a,.int .u8 u,.int .i64 (s)]∧rowOf ww (w.heap.size+1)=#[.int .i64 0,.int .u16 0,.int .u8 0,.int .i64 0]∧w.heap.size+1+1 < ww.heap.size) ⟨aD,by simp [go_sem],by simp [go_sem],by simp [go_sem];omega⟩ ?_
 generalize hR:(#[.int .i64 (k),.int .u16 a,.int .u8 u,.int .i64 (s)]:Array Value)=R8
 exact rdG):P:=h
theorem read_yes (x:S.Co) (z:List Int) (v:Int) (hv:0≤v∧v < 256) (hg:x.gn≤1000000) (w:World) (h:CoOk x z w):Calls Tryz.prog 106 #[.agg #[.int .i64 x.c.Ch,.int .u8 x.c.A,.int .u8 x.c.B,.int .u8 x.c.C,.int .u8 x.c.D,.int .u8 x.c.E,.int .u8 x.c.H,.int .u8 x.c.L,.bool x.c.fS,.bool x.c.fZ,.bool x.c.fK,.bool x.c.fAC,.bool x.c.fP,.bool x.c.fV,.bool x.c.fCY,.int .u16 x.c.SP,.int .u16 x.c.PC,.bool x.c.IE,.bool x.c.De,.bool x.c.Ha,.int .u8 x.c.Ma,.bool x.c.Tr,.bool x.c.R7,.bool x.c.WT,.bool x.c.W7,.bool x.c.Sa,.bool x.c.SI,.bool x.c.SO,.int .i64 x.src,.slice x.ga x.gn x.gc,.int .i64 x.y.k,.int .u16 x.y.a,.int .u8 x.y.d,.int .i64 x.y.s,.int .i64 x.nx,.bool x.ho],.int .i64 3,.int .u8 v] w (ReadPost3 x.c.Ch x.y v x.gn w):=by
 have hcd:=S.cd_bd (k:=x.y.k) (st:=3) h.y.d hv
 have hd:=h.y.d
 have HH:=Lib.hid h.held
 have HC:=Lib.hid h.gc
 have HB:=Lib.hid h.by_
 have HN:=Lib.hid h.nn
 have HG:=Lib.hid hg
 clear h hg
 obtain ⟨xc,src,ga,gn,gc,⟨k,a,d,s⟩,nx,ho⟩:=x
 simp only [] at hcd hd⊢
 rcases hr:S.stR k with _|_
 ·have hq:S.cd k d 3 v=d:=by simp [S.cd,hr]
  have hq0:=Lib.hid (show 0≤d∧d < 256 by first|exact hd|exact hv)
  have HR:=Lib.hid hr
  clear hr hcd
  obtain ⟨u,hu⟩:∃u,u=d:=⟨_,rfl⟩
  subst hu
  by_cases h1:k=1∨k=8
  ·have HE:=Lib.hid (show S.cst3 xc.Ch k u s 3 v=S.first xc.Ch u by unfold S.cst3;rw [if_pos ⟨rfl,h1⟩,hq])
   have HQ:=Lib.hid hq
   clear hq
   rcases h1 with rfl|rfl
   ·exact q1C20e
   ·exact q2C20e
  ·have HE:=Lib.hid (show S.cst3 xc.Ch k u s 3 v=s by unfold S.cst3;rw [if_neg (fun h=>h1 h.2)])
   have HQ:=Lib.hid hq
   clear hq
   have h11:¬k=1:=fun h=>h1 (.inl h)
   have h18:¬k=8:=fun h=>h1 (.inr h)
   have b1:(k==1)=false:=by simp [h11]
   have b8:(k==8)=false:=by simp [h18]
   clear h1
   exact q3C20e
 ·have hq:S.cd k d 3 v=v:=by simp [S.cd,hr]
  have hq0:=Lib.hid (show 0≤v∧v < 256 by first|exact hd|exact hv)
  have HR:=Lib.hid hr
  clear hr hcd
  obtain ⟨u,hu⟩:∃u,u=v:=⟨_,rfl⟩
  subst hu
  by_cases h1:k=1∨k=8
  ·have HE:=Lib.hid (show S.cst3 xc.Ch k d s 3 u=S.first xc.Ch u by unfold S.cst3;rw [if_pos ⟨rfl,h1⟩,hq])
   have HQ:=Lib.hid hq
   clear hq
   rcases h1 with rfl|rfl
   ·exact q1C20e
   ·exact q2C20e
  ·have HE:=Lib.hid (show S.cst3 xc.Ch k d s 3 u=s by unfold S.cst3;rw [if_neg (fun h=>h1 h.2)])
   have HQ:=Lib.hid hq
   clear hq
   have h11:¬k=1:=fun h=>h1 (.inl h)
   have h18:¬k=8:=fun h=>h1 (.inr h)
   have b1:(k==1)=false:=by simp [h11]
   have b8:(k==8)=false:=by simp [h18]
   clear h1
   exact q3C20e
end
namespace S
variable {i:It} {on:Bool} {q x:Co} {w:Int}
def acc (k:Int):Bool:= !(k==10||k==11||k==12)
def Vld1 (x:It):Prop:=(x.k=1∧3≤x.s∧x.s≤6∧1≤x.n∧x.n≤x.s∧0≤x.w∧(0 < x.w→2≤x.n∧acc x.c=true))∨((x.k=2∨x.k=3∨x.k=4)∧1≤x.n∧x.w=0)
def Fol (a b:It):Prop:=(a.k=1→a.n < a.s→b.k=4)∧((b.k=2∨b.k=3∨b.k=4)→¬(a.k=b.k∧a.e=b.e∧a.o=b.o))
def Fols (l:List It):Prop:=∀k a b,l[k]? =some a→l[k+1]? =some b→Fol a b
def Vld (l:List It):Prop:=(∀i∈l,Vld1 i)∧Fols l
open Classical in
noncomputable def vld (l:List It):Bool:=decide (Vld l)
theorem vld_yes {l:List It} (h:Vld l):vld l=true:=by unfold vld;simp [h]
theorem vld_no {l:List It} (h:¬Vld l):vld l=false:=by unfold vld;simp [h]
theorem Fols.nil:Fols []:=fun k a b h=>by simp at h
theorem Fols.snoc {l:List It} (h:Fols l) (hi:∀a,l.getLast? =some a→Fol a i):Fols (l++[i]):=by
 intro k a b ha hb
 by_cases h1:k+1 < l.length
 ·rw [List.getElem?_append_left (by omega)] at ha hb
  exact h k a b ha hb
 ·have h2:k+1 < (l++[i]).length:=(List.getElem?_eq_some_iff.1 hb).1
  rw [List.length_append,List.length_singleton] at h2
  have h3:k+1=l.length:=by omega
  rw [h3,List.getElem?_append_right (Nat.le_refl _)] at hb
  simp at hb
  subst hb
  rw [List.getElem?_append_left (by omega)] at ha
  refine hi a ?_
  rw [List.getLast?_eq_getElem?,show l.length - 1=k by omega];exact ha
theorem Fols.left {l:List It} (h:Fols (l++[i])):Fols l:=by
 intro k a b ha hb
 have h1:=(List.getElem?_eq_some_iff.1 ha).1
 have h2:=(List.getElem?_eq_some_iff.1 hb).1
 exact h k a b (by rw [List.getElem?_append_left h1];exact ha) (by rw [List.getElem?_append_left h2];exact hb)
theorem Fols.last {l:List It} (h:Fols (l++[i])):∀a,l.getLast? =some a→Fol a i:=by
 intro a ha
 rw [List.getLast?_eq_getElem?] at ha
 have h1:=(List.getElem?_eq_some_iff.1 ha).1
 refine h (l.length - 1) a i (by rw [List.getElem?_append_left h1];exact ha) ?_
 rw [show l.length - 1+1=l.length by omega,List.getElem?_append_right (Nat.le_refl _)];simp
def tot1 (x:It):Int:=x.n+if x.k=1 then x.w else 0
def tot:List It→Int
 |[]=>0
 |x::l=>tot1 x+tot l
theorem tot_snoc (l:List It) (i:It):tot (l++[i])=tot l+tot1 i:=by
 induction l with
 |nil=>simp [tot]
 |cons x l ih=>simp only [List.cons_append,tot,ih];omega
theorem tot_pos:∀l:List It,(∀i∈l,Vld1 i)→0≤tot l
 |[],_=>by simp [tot]
 |x::l,h=>by
  have h1:=tot_pos l (fun i hi=>h i (by simp [hi]))
  have h2:=h x (by simp)
  unfold tot tot1
  rcases h2 with ⟨hk,_,_,hn,_,hw,_⟩|⟨hk,hn,hw⟩
  ·rw [if_pos hk];omega
  ·rw [if_neg (by omega)];omega
def itm (x:Co) (st v:Int):It:=⟨0,x.y.k,if st=9 then x.c.PC else x.y.a,cd x.y.k x.y.d st v,x.y.s,0,0,x.c.IE,x.c.SO⟩
def kd (st:Int):Int:=if st=8 then 2 else if st=9 then 3 else 4
def new1 (x:Co) (st:Int):It:=⟨kd st,0,if st=9 then x.c.PC else 0,0,0,0,1,x.c.IE,x.c.SO⟩
def add (il:List It) (x:Co) (st v:Int):List It:=
 if st=8∨st=9∨st=10 then
  match il.getLast? with
  |some i=>if i.k=kd st∧i.e=x.c.IE∧i.o=x.c.SO then il.dropLast++[{i with n:=i.n+1}] else il++[new1 x st]
  |none=>il++[new1 x st]
 else if st=1 then il++[⟨1,x.y.k,x.y.a,x.y.d,x.y.s,0,1,x.c.IE,x.c.SO⟩]
 else match il.getLast? with
  |some i=>il.dropLast++[⟨i.k,x.y.k,x.y.a,cd x.y.k x.y.d st v,cst3 x.c.Ch x.y.k x.y.d x.y.s st v,if st=7 then i.w+1 else i.w,if st=7 then i.n else i.n+1,i.e,i.o⟩]
  |none=>[]
theorem snoc_last {α:Type} (l:List α) (i:α):(l++[i]).getLast? =some i:=by simp
theorem snoc_drop {α:Type} (l:List α) (i:α):(l++[i]).dropLast=l:=by simp
def Kp (x q:Co):Prop:=q.y=x.y∧q.c.IE=x.c.IE∧q.c.SO=x.c.SO
def Fin3 (q:Co):Prop:=q.nx=1∨q.nx=8∨q.nx=9
inductive Stp (x:Co) (v:Int):Bool→Co→Prop
 |reset (q:Co) (h:q.nx=1):Stp x v true q
 |t1 (q:Co) (hx:x.nx=1) (h:q.nx=2) (k:Kp x q):Stp x v false q
 |t2 (q:Co) (hx:x.nx=2∨x.nx=7) (h:q.nx=3∨(q.nx=7∧acc x.y.k=true)) (k:Kp x q):Stp x v false q
 |t3e (q:Co) (hx:x.nx=3) (hs:cst3 x.c.Ch x.y.k x.y.d x.y.s 3 v≤3) (h:Fin3 q):Stp x v false q
 |t3 (q:Co) (hx:x.nx=3) (hs:¬cst3 x.c.Ch x.y.k x.y.d x.y.s 3 v≤3) (h:q.nx=4) (hy:q.y=cur x.c.Ch x.y 3 v) (h1:q.c.IE=x.c.IE) (h2:q.c.SO=x.c.SO):Stp x v false q
 |t4e (q:Co) (hx:x.nx=4∨x.nx=5) (hs:x.y.s≤x.nx) (h:Fin3 q):Stp x v false q
 |t4 (q:Co) (hx:x.nx=4∨x.nx=5) (hs:¬x.y.s≤x.nx) (h:q.nx=x.nx+1) (k:Kp x q):Stp x v false q
 |t6 (q:Co) (hx:x.nx=6) (h:Fin3 q):Stp x v false q
 |hold (q:Co) (hx:x.nx=8) (h:Fin3 q):Stp x v false q
 |halt (q:Co) (hx:x.nx=9) (h:Fin3 q) (hp:q.nx=9→q.c.PC=x.c.PC):Stp x v false q
theorem pn_congr (on:Bool) (x y:It) (s:Int) (hc:x.c=y.c) (ha:x.a=y.a) (hd:x.d=y.d) (he:x.e=y.e) (ho:x.o=y.o):pn on x s=pn on y s:=by
 unfold pn;rw [hc,ha,hd,he,ho]
theorem lim_in {n:Int} (h0:0≤n) (h1:n≤65536):lim n=n:=by unfold lim;omega
theorem sts_plain (x:It) (z:Int) (hk:sps x=[(z,lim x.n)]):sts x=List.replicate (lim x.n).toNat z:=by simp [sts,hk,reps,rep]
theorem ex1_more (on:Bool) (x:It) (z:Int) (hs:∀n:Int,sps {x with n:=n}=[(z,lim n)]) (h0:0≤x.n) (h1:x.n < 65536):ex1 on {x with n:=x.n+1}=ex1 on x++[pn on x z]:=by
 have e1:sts {x with n:=x.n+1}=List.replicate (x.n.toNat+1) z:=by
  rw [sts_plain {x with n:=x.n+1} z (hs (x.n+1))]
  simp only []
  rw [lim_in (by omega) (by omega),show (x.n+1).toNat=x.n.toNat+1 by omega]
 have e2:sts x=List.replicate x.n.toNat z:=by
  rw [sts_plain x z (hs x.n),lim_in h0 (by omega)]
 unfold ex1
 have hp:=pn_congr on {x with n:=x.n+1} x z rfl rfl rfl rfl rfl
 rw [e1,e2,List.replicate_succ',List.map_append,List.map_replicate,List.map_replicate]
 simp only [List.map_cons,List.map_nil]
 rw [hp]
theorem sps_2 (x:It) (h:x.k=2) (n:Int):sps {x with n:=n}=[(8,lim n)]:=by simp [sps,h]
theorem sps_3 (x:It) (h:x.k=3) (n:Int):sps {x with n:=n}=[(9,lim n)]:=by simp [sps,h]
theorem sps_4 (x:It) (h:x.k=4) (n:Int):sps {x with n:=n}=[(10,lim n)]:=by simp [sps,h]
theorem ex1_new (on:Bool) (x:It) (z:Int) (hs:sps x=[(z,lim x.n)]) (h1:x.n=1):ex1 on x=[pn on x z]:=by
 unfold ex1
 rw [sts_plain x z hs,h1]
 rfl
theorem sts_cyc (x:It) (j:Nat) (hk:x.k=1) (hs:3≤x.s) (hs6:x.s≤6) (hn:x.n=(j:Int)) (h1:1≤j) (hj:x.n≤x.s):sts x=reps (part7 (lim x.w) j):=by
 have:cnt x.n x.s=(j:Int):=by unfold cnt cst;omega
 unfold sts sps
 rw [if_pos hk,this,Int.toNat_natCast]
theorem upto_wait (h:0≤w):reps (part7 (w+1) 2)=reps (part7 w 2)++[7]:=by
 simp [part7,all7,reps,rep,show (w+1).toNat=w.toNat+1 by omega,List.replicate_succ']
theorem upto_3 (w:Int):reps (part7 w 3)=reps (part7 w 2)++[3]:=by simp [part7,all7,reps,rep]
theorem upto_4 (w:Int):reps (part7 w 4)=reps (part7 w 3)++[4]:=by simp [part7,all7,reps,rep]
theorem upto_5 (w:Int):reps (part7 w 5)=reps (part7 w 4)++[5]:=by simp [part7,all7,reps,rep]
theorem upto_6 (w:Int):reps (part7 w 6)=reps (part7 w 5)++[6]:=by simp [part7,all7,reps,rep]
theorem mem_upto (z:Int) (j:Nat) (hj:j≤2):z∈reps (part7 w j)→z=1∨z=2∨z=7:=by
 intro h
 have hj':j=0∨j=1∨j=2:=by omega
 rcases hj' with rfl|rfl|rfl<;>simp [part7,all7,reps,rep] at h
 ·exact .inl h
 ·rcases h with h|h|h<;>omega
theorem ex_snoc (on:Bool) (l:List It) (i:It):ex on (l++[i])=ex on l++ex1 on i:=by rw [ex_app];simp [ex]
structure Inv (on:Bool) (il:List It) (tl:List Pn) (x:Co):Prop where
 ex:ex on il=tl
 ok:∀i∈il,Vld1 i
 fol:Fols il
 tot:tot il=(tl.length:Int)
 rel:(Fin3 x∧∀a,il.getLast? =some a→(a.k=1→¬a.n < a.s)∧(x.nx=9→a.k=3→a.a=x.c.PC))∨
  (∃l i,il=l++[i]∧i.k=1∧i.c=x.y.k∧i.a=x.y.a∧i.d=x.y.d∧i.s=x.y.s∧i.e=x.c.IE∧i.o=x.c.SO∧
    ((x.nx=2∧i.n=1∧i.w=0)∨(x.nx=7∧i.n=2∧acc i.c=true)∨(x.nx=3∧i.n=2)∨((x.nx=4∨x.nx=5∨x.nx=6)∧i.n=x.nx - 1∧x.nx≤i.s)))
theorem Inv.start (on:Bool) (x:Co) (h:x.nx=1):Inv on [] [] x:=⟨rfl,fun i hi=>(by cases hi),Fols.nil,rfl,.inl ⟨.inl h,fun a h=>by simp at h⟩⟩
theorem Inv.plain {il:List It} {tl:List Pn} (h:Inv on il tl x) (hl:tl.length≤65000) (st v z:Int) (hst:st=8∨st=9∨st=10) (hz:kd st=z)
 (hm:∀a,il.getLast? =some a→st=9→a.k=3→a.a=x.c.PC) (hfin:∀a,il.getLast? =some a→a.k=1→a.n < a.s→st=10) (hq:Fin3 q) (hp:q.nx=9→st=9→q.c.PC=x.c.PC):Inv on (add il x st v) (tl++[pn on (itm x st v) st]) q:=by
 have hkz:z=2∨z=3∨z=4:=by subst hz;unfold kd;split;exact .inl rfl;split;exact .inr (.inl rfl);exact .inr (.inr rfl)
 have h93:z=3→st=9:=by
  intro h3;subst hz
  rcases hst with rfl|rfl|rfl
  ·simp [kd] at h3
  ·rfl
  ·simp [kd] at h3
 have h10:st=10→z=4:=by rintro rfl;exact hz.symm
 have key:∀y:It,y.e=x.c.IE→y.o=x.c.SO→(st=9→y.a=x.c.PC)→pn on y st=pn on (itm x st v) st:=by
  intro y h1 h2 h3
  rcases hst with rfl|rfl|rfl
  ·simp [pn,itm,h1,h2]
  ·simp [pn,itm,h1,h2,h3 rfl]
  ·simp [pn,itm,h1,h2]
 have hsp:∀(y:It) (n:Int),y.k=z→sps {y with n:=n}=[(st,lim n)]:=by
  intro y n hy
  subst hz
  rcases hst with rfl|rfl|rfl
  ·exact sps_2 y hy n
  ·exact sps_3 y hy n
  ·exact sps_4 y hy n
 have hk1:(new1 x st).k=z:=hz
 have hn1:Vld1 (new1 x st):=.inr ⟨by rw [hk1];exact hkz,by show (1:Int)≤1;omega,rfl⟩
 have hp1:ex1 on (new1 x st)=[pn on (itm x st v) st]:=by
  rw [ex1_new on (new1 x st) st (hsp (new1 x st) 1 hk1) rfl,key (new1 x st) rfl rfl (fun e=>by simp [new1,e])]
 have hnew:(∀a,il.getLast? =some a→¬(a.k=z∧a.e=x.c.IE∧a.o=x.c.SO))→Inv on (il++[new1 x st]) (tl++[pn on (itm x st v) st]) q:=by
  intro hno
  refine ⟨by rw [ex_snoc,h.ex,hp1],?_,Fols.snoc h.fol ?_,?_,.inl ⟨hq,?_⟩⟩
  ·intro i hi
   rcases List.mem_append.1 hi with hi|hi
   ·exact h.ok i hi
   ·simp at hi;subst hi;exact hn1
  ·intro a ha
   refine ⟨fun e1 e2=> ?_,fun _ e=>hno a ha ⟨e.1.trans hk1,e.2⟩⟩
   rw [hk1];exact h10 (hfin a ha e1 e2)
  ·rw [tot_snoc,h.tot,List.length_append]
   unfold tot1
   rw [if_neg (by rw [hk1];omega)]
   simp [new1]
  ·intro a ha
   rw [snoc_last] at ha
   injection ha with ha
   subst ha
   refine ⟨fun e=>by rw [hk1] at e;omega,fun e9 e3=> ?_⟩
   rw [hk1] at e3
   have e:=h93 e3
   rw [hp e9 e]
   simp [new1,e]
 unfold add
 rw [if_pos hst]
 cases hc:il.getLast? with
 |none=>exact hnew (fun a ha=>by rw [hc] at ha;cases ha)
 |some i=>
  simp only []
  by_cases hs:i.k=kd st∧i.e=x.c.IE∧i.o=x.c.SO
  ·rw [if_pos hs]
   rw [hz] at hs
   have hl2:il=il.dropLast++[i]:=by
    have hne:il≠[]:=fun e=>by rw [e] at hc;simp at hc
    rw [List.getLast?_eq_some_getLast hne] at hc
    injection hc with hc
    rw [←hc];exact (List.dropLast_concat_getLast hne).symm
   generalize il.dropLast=l at hl2
   subst hl2
   have hi:=h.ok i (by simp)
   have hin:1≤i.n∧i.w=0:=by
    rcases hi with hi|hi
    ·omega
    ·exact hi.2
   have htot:=h.tot
   have hpos:=tot_pos l (fun j hj=>h.ok j (by simp [hj]))
   rw [tot_snoc] at htot
   have ht1:tot1 i=i.n:=by unfold tot1;rw [if_neg (by omega)];omega
   have hex:=h.ex
   rw [ex_snoc] at hex
   have e1:=ex1_more on i st (fun n=>hsp i n hs.1) (by omega) (by omega)
   have hpi:=key i hs.2.1 hs.2.2 (fun e=>hm i (by simp) e (by subst e;rw [hs.1,←hz];rfl))
   refine ⟨by rw [ex_snoc,e1,hpi,←List.append_assoc,hex],?_,?_,?_,.inl ⟨hq,?_⟩⟩
   ·intro j hj
    rcases List.mem_append.1 hj with hj|hj
    ·exact h.ok j (by simp [hj])
    ·simp at hj;subst hj
     exact .inr ⟨by show i.k=2∨i.k=3∨i.k=4;rw [hs.1];exact hkz,by show 1≤i.n+1;omega,hin.2⟩
   ·exact Fols.snoc h.fol.left (fun a ha=>h.fol.last a ha)
   ·rw [tot_snoc,List.length_append]
    have:tot1 {i with n:=i.n+1}=i.n+1:=by unfold tot1;rw [if_neg (by show ¬i.k=1;omega)];simp
    rw [this];simp;omega
   ·intro a ha
    rw [snoc_last] at ha
    injection ha with ha
    subst ha
    refine ⟨fun e=>by simp only [] at e;omega,fun e9 e3=> ?_⟩
    have e3':i.k=3:=e3
    have e:=h93 (hs.1▸e3')
    rw [hp e9 e]
    exact hm i (by simp) e e3'
  ·rw [if_neg hs]
   refine hnew (fun a ha=> ?_)
   rw [hc] at ha
   injection ha with ha
   subst ha
   rw [hz] at hs
   exact hs
theorem pn_kept (on:Bool) (x y:It) (hc:x.c=y.c) (ha:x.a=y.a) (he:x.e=y.e) (ho:x.o=y.o) (hd:x.d=y.d∨stR x.c=true) (s:Int) (hs:s=1∨s=2∨s=7):pn on x s=pn on y s:=by
 rcases hd with hd|hr
 ·exact pn_congr on x y s hc ha hd he ho
 ·have hw:=S.stR_not x.c hr
  have hw':stW y.c=false:=by rw [←hc];exact hw
  have ht:tr x.c x.d s=tr y.c y.d s:=by
   unfold tr
   rcases hs with rfl|rfl|rfl<;>simp [hw,hw']
  unfold pn
  rw [ht,hc,ha,he,ho]
theorem Inv.next {il:List It} {tl:List Pn} (h:Inv on il tl x) (hy:x.y.Ok) (hl:tl.length≤65000) (st v:Int) (hx:x.nx=st) (hst:2≤st∧st≤7) (s':Int) (hs':cst3 x.c.Ch x.y.k x.y.d x.y.s st v=s') (h3:3≤s'∧s'≤6)
 (hq:(Fin3 q∧(st=7→False)∧(st=2→False)∧s'≤st)∨(q.y=⟨x.y.k,x.y.a,cd x.y.k x.y.d st v,s'⟩∧q.c.IE=x.c.IE∧q.c.SO=x.c.SO∧
   (((st=2∨st=7)∧(q.nx=3∨(q.nx=7∧acc x.y.k=true)))∨((st=3∨st=4∨st=5)∧q.nx=st+1∧st+1≤s')))):Inv on (add il x st v) (tl++[pn on (itm x st v) st]) q:=by
 rcases h.rel with ⟨hf,_⟩|⟨l,i,rfl,hk,hc,ha,hd,hs,he,ho,hn⟩
 ·exfalso
  rcases hf with hf|hf|hf<;>omega
 have hex:=h.ex
 rw [ex_snoc] at hex
 have hi:=h.ok i (by simp)
 have hiw:3≤i.s∧i.s≤6∧1≤i.n∧i.n≤i.s∧0≤i.w∧(0 < i.w→2≤i.n∧acc i.c=true):=by
  rcases hi with hi|hi
  ·exact hi.2
  ·omega
 have htot:=h.tot
 have hpos:=tot_pos l (fun j hj=>h.ok j (by simp [hj]))
 rw [tot_snoc] at htot
 have ht1:tot1 i=i.n+i.w:=by unfold tot1;rw [if_pos hk]
 have hlw:lim i.w=i.w:=lim_in hiw.2.2.2.2.1 (by omega)
 have e0:add (l++[i]) x st v=l++[⟨i.k,x.y.k,x.y.a,cd x.y.k x.y.d st v,s',if st=7 then i.w+1 else i.w,if st=7 then i.n else i.n+1,i.e,i.o⟩]:=by
  unfold add
  rw [if_neg (by omega),if_neg (by omega),snoc_last]
  simp only []
  rw [snoc_drop,hs']
 rw [e0]
 generalize hI:(⟨i.k,x.y.k,x.y.a,cd x.y.k x.y.d st v,s',if st=7 then i.w+1 else i.w,if st=7 then i.n else i.n+1,i.e,i.o⟩:It)=i'
 have f1:i'.k=1:=by rw [←hI];exact hk
 have f2:i'.c=x.y.k:=by rw [←hI]
 have f3:i'.a=x.y.a:=by rw [←hI]
 have f4:i'.d=cd x.y.k x.y.d st v:=by rw [←hI]
 have f5:i'.s=s':=by rw [←hI]
 have f6:i'.w=if st=7 then i.w+1 else i.w:=by rw [←hI]
 have f7:i'.n=if st=7 then i.n else i.n+1:=by rw [←hI]
 have f8:i'.e=i.e:=by rw [←hI]
 have f9:i'.o=i.o:=by rw [←hI]
 clear hI e0
 have hpin:pn on i' st=pn on (itm x st v) st:=by
  refine pn_congr on i' (itm x st v) st f2 ?_ f4 (f8.trans he) (f9.trans ho)
  rw [f3];unfold itm;simp only [];rw [if_neg (by omega)]
 have hsts:sts i'=sts i++[st]∧(st≤3∨st=7→∀s∈sts i,s=1∨s=2∨s=7)∧i'.n≤i'.s∧(0 < i'.w→2≤i'.n∧acc i'.c=true)∧(s'=i.s∨st=3):=by
  have hs3:st≠3→s'=i.s:=fun e=>by rw [←hs',hs];simp [cst3,e]
  rcases hn with ⟨n1,n2,n3⟩|⟨n1,n2,n3⟩|⟨n1,n2⟩|⟨n1,n2,n3⟩
  ·have e2:st=2:=by omega
   subst e2
   have g1:=sts_cyc i 1 hk hiw.1 hiw.2.1 (by omega) (by omega) (by omega)
   have g2:=sts_cyc i' 2 f1 (by omega) (by omega) (by rw [f7,if_neg (by omega)];omega) (by omega) (by rw [f7,if_neg (by omega)];omega)
   rw [f6,if_neg (by omega),n3] at g2
   rw [n3] at g1
   refine ⟨by rw [g2,g1];rfl,fun _ s hm=> ?_,by rw [f7,if_neg (by omega)];omega,fun e=>by rw [f6,if_neg (by omega)] at e;omega,.inl (hs3 (by omega))⟩
   rw [g1] at hm;exact mem_upto s 1 (by omega) hm
  ·have e7:st=7:=by omega
   subst e7
   have g1:=sts_cyc i 2 hk hiw.1 hiw.2.1 (by omega) (by omega) (by omega)
   have g2:=sts_cyc i' 2 f1 (by omega) (by omega) (by rw [f7,if_pos rfl];omega) (by omega) (by rw [f7,if_pos rfl];omega)
   rw [f6,if_pos rfl,lim_in (by omega) (by omega)] at g2
   rw [hlw] at g1
   refine ⟨by rw [g2,g1,upto_wait hiw.2.2.2.2.1],fun _ s hm=> ?_,by rw [f7,if_pos rfl];omega,fun e=>⟨by rw [f7,if_pos rfl];omega,by rw [f2,←hc];exact n3⟩,.inl (hs3 (by omega))⟩
   rw [g1] at hm;exact mem_upto s 2 (by omega) hm
  ·have e3:st=3:=by omega
   subst e3
   have g1:=sts_cyc i 2 hk hiw.1 hiw.2.1 (by omega) (by omega) (by omega)
   have g2:=sts_cyc i' 3 f1 (by omega) (by omega) (by rw [f7,if_neg (by omega)];omega) (by omega) (by rw [f7,if_neg (by omega)];omega)
   rw [f6,if_neg (by omega),hlw] at g2
   rw [hlw] at g1
   refine ⟨by rw [g2,g1,upto_3],fun _ s hm=> ?_,by rw [f7,if_neg (by omega)];omega,fun e=> ?_,.inr rfl⟩
   ·rw [g1] at hm;exact mem_upto s 2 (by omega) hm
   ·rw [f6,if_neg (by omega)] at e
    exact ⟨by rw [f7,if_neg (by omega)];omega,by rw [f2,←hc];exact (hiw.2.2.2.2.2 e).2⟩
  ·have e5:=hs3 (by omega)
   refine ⟨?_,fun e=>by omega,by rw [f7,if_neg (by omega),f5];omega,fun e=> ?_,.inl e5⟩
   ·rcases n1 with e|e|e
    ·have e4:st=4:=by omega
     subst e4
     have g1:=sts_cyc i 3 hk hiw.1 hiw.2.1 (by omega) (by omega) (by omega)
     have g2:=sts_cyc i' 4 f1 (by omega) (by omega) (by rw [f7,if_neg (by omega)];omega) (by omega) (by rw [f7,if_neg (by omega)];omega)
     rw [f6,if_neg (by omega)] at g2
     rw [g2,g1,upto_4]
    ·have e4:st=5:=by omega
     subst e4
     have g1:=sts_cyc i 4 hk hiw.1 hiw.2.1 (by omega) (by omega) (by omega)
     have g2:=sts_cyc i' 5 f1 (by omega) (by omega) (by rw [f7,if_neg (by omega)];omega) (by omega) (by rw [f7,if_neg (by omega)];omega)
     rw [f6,if_neg (by omega)] at g2
     rw [g2,g1,upto_5]
    ·have e4:st=6:=by omega
     subst e4
     have g1:=sts_cyc i 5 hk hiw.1 hiw.2.1 (by omega) (by omega) (by omega)
     have g2:=sts_cyc i' 6 f1 (by omega) (by omega) (by rw [f7,if_neg (by omega)];omega) (by omega) (by rw [f7,if_neg (by omega)];omega)
     rw [f6,if_neg (by omega)] at g2
     rw [g2,g1,upto_6]
   ·rw [f6,if_neg (by omega)] at e
    exact ⟨by rw [f7,if_neg (by omega)];omega,by rw [f2,←hc];exact (hiw.2.2.2.2.2 e).2⟩
 obtain ⟨k1,k2,k3,k4,k5⟩:=hsts
 have hex1:ex1 on i'=ex1 on i++[pn on (itm x st v) st]:=by
  rw [←hpin]
  unfold ex1
  rw [k1,List.map_append]
  simp only [List.map_cons,List.map_nil]
  congr 1
  refine List.map_congr_left (fun s hm=> ?_)
  by_cases h3:st=3
  ·refine pn_kept on i' i (f2.trans hc.symm) (f3.trans ha.symm) f8 f9 ?_ s (k2 (.inl (by omega)) s hm)
   rw [f4,f2,hd]
   unfold cd
   split
   ·rename_i hh;exact .inr hh.2
   ·exact .inl rfl
  ·exact pn_congr on i' i s (f2.trans hc.symm) (f3.trans ha.symm) (by rw [f4,hd];simp [cd,h3]) f8 f9
 have hw':0≤i'.w:=by rw [f6];split<;>omega
 have hn':1≤i'.n:=by rw [f7];split<;>omega
 refine ⟨by rw [ex_snoc,hex1,←List.append_assoc,hex],?_,?_,?_,?_⟩
 ·intro j hj
  rcases List.mem_append.1 hj with hj|hj
  ·exact h.ok j (by simp [hj])
  ·simp at hj;subst hj
   exact .inl ⟨f1,by omega,by omega,hn',k3,hw',k4⟩
 ·refine Fols.snoc h.fol.left (fun a ha=> ?_)
  have hh:=h.fol.last a ha
  exact ⟨fun e1 e2=>by have:=hh.1 e1 e2;omega,fun e=>by omega⟩
 ·rw [tot_snoc,List.length_append]
  have:tot1 i'=i'.n+i'.w:=by unfold tot1;rw [if_pos f1]
  rw [this,f6,f7]
  simp
  split<;>omega
 ·rcases hq with ⟨hf,q1,q2,q3⟩|⟨g1,g2,g3,g4⟩
  ·refine .inl ⟨hf,fun a ha=> ?_⟩
   rw [snoc_last] at ha
   injection ha with ha
   subst ha
   refine ⟨fun _=> ?_,fun _ e=>by omega⟩
   rw [f5,f7]
   split
   ·exact absurd (by assumption) q1
   ·rcases hn with ⟨n1,n2,n3⟩|⟨n1,n2,n3⟩|⟨n1,n2⟩|⟨n1,n2,n3⟩<;>omega
  ·refine .inr ⟨l,i',rfl,f1,by rw [f2,g1],by rw [f3,g1],by rw [f4,g1],by rw [f5,g1],by rw [f8,he,g2],by rw [f9,ho,g3],?_⟩
   rcases g4 with ⟨e1,e2⟩|⟨e1,e2,e3⟩
   ·rcases e2 with e2|⟨e2,e3⟩
    ·refine .inr (.inr (.inl ⟨e2,?_⟩))
     rw [f7]
     rcases hn with ⟨n1,n2,n3⟩|⟨n1,n2,n3⟩|⟨n1,n2⟩|⟨n1,n2,n3⟩<;>split<;>omega
    ·refine .inr (.inl ⟨e2,?_,by rw [f2];exact e3⟩)
     rw [f7]
     rcases hn with ⟨n1,n2,n3⟩|⟨n1,n2,n3⟩|⟨n1,n2⟩|⟨n1,n2,n3⟩<;>split<;>omega
   ·refine .inr (.inr (.inr ⟨by omega,?_,by omega⟩))
    rw [f7,if_neg (by omega)]
    rcases hn with ⟨n1,n2,n3⟩|⟨n1,n2,n3⟩|⟨n1,n2⟩|⟨n1,n2,n3⟩<;>omega
theorem Inv.first {il:List It} {tl:List Pn} (h:Inv on il tl x) (hy:x.y.Ok) (v:Int) (hx:x.nx=1) (hq:q.nx=2) (k:Kp x q):Inv on (add il x 1 v) (tl++[pn on (itm x 1 v) 1]) q:=by
 obtain ⟨q1,q2,q3⟩:=k
 have e0:add il x 1 v=il++[⟨1,x.y.k,x.y.a,x.y.d,x.y.s,0,1,x.c.IE,x.c.SO⟩]:=by
  unfold add;rw [if_neg (by omega),if_pos rfl]
 rw [e0]
 have hs:=hy.s
 have hv:Vld1 ⟨1,x.y.k,x.y.a,x.y.d,x.y.s,0,1,x.c.IE,x.c.SO⟩:=.inl ⟨rfl,hs.1,hs.2,by show (1:Int)≤1;omega,by show (1:Int)≤x.y.s;omega,by show (0:Int)≤0;omega,fun e=>absurd e (by show ¬(0:Int) < 0;omega)⟩
 have hst:sts ⟨1,x.y.k,x.y.a,x.y.d,x.y.s,0,1,x.c.IE,x.c.SO⟩=[1]:=by
  rw [sts_cyc _ 1 rfl hs.1 hs.2 rfl (by omega) (by show (1:Int)≤x.y.s;omega)];rfl
 have hp:ex1 on ⟨1,x.y.k,x.y.a,x.y.d,x.y.s,0,1,x.c.IE,x.c.SO⟩=[pn on (itm x 1 v) 1]:=by
  unfold ex1
  rw [hst]
  simp only [List.map_cons,List.map_nil]
  exact congrArg (fun p=>[p]) (pn_congr on ⟨1,x.y.k,x.y.a,x.y.d,x.y.s,0,1,x.c.IE,x.c.SO⟩ (itm x 1 v) 1 rfl (by simp [itm]) (by simp [itm,cd]) rfl rfl)
 have hrel:Fin3 x∧∀a,il.getLast? =some a→(a.k=1→¬a.n < a.s)∧(x.nx=9→a.k=3→a.a=x.c.PC):=by
  rcases h.rel with h|⟨l,i,_,_,_,_,_,_,_,_,hn⟩
  ·exact h
  ·rcases hn with hn|hn|hn|hn<;>omega
 refine ⟨by rw [ex_snoc,h.ex,hp],?_,Fols.snoc h.fol ?_,?_,.inr ⟨il,_,rfl,rfl,by rw [q1],by rw [q1],by rw [q1],by rw [q1],by rw [q2],by rw [q3],.inl ⟨hq,rfl,rfl⟩⟩⟩
 ·intro i hi
  rcases List.mem_append.1 hi with hi|hi
  ·exact h.ok i hi
  ·simp at hi;subst hi;exact hv
 ·intro a ha
  exact ⟨fun e1 e2=>absurd e2 ((hrel.2 a ha).1 e1),fun e=>by simp at e⟩
 ·rw [tot_snoc,h.tot,List.length_append]
  simp [tot1]
theorem Inv.step {il:List It} {tl:List Pn} {rst:Bool} {v:Int} (h:Inv on il tl x) (hy:x.y.Ok) (hl:tl.length≤65000) (hv:0≤v∧v < 256) (r:Stp x v rst q) (st:Int) (hst:st=if rst then 10 else x.nx):
 Inv on (add il x st v) (tl++[pn on (itm x st v) st]) q:=by
 have hok:=S.cur_ok (ch:=x.c.Ch) (st:=x.nx) hy hv
 have hcs:3≤cst3 x.c.Ch x.y.k x.y.d x.y.s x.nx v∧cst3 x.c.Ch x.y.k x.y.d x.y.s x.nx v≤6:=hok.s
 have hrel:Fin3 x→∀a,il.getLast? =some a→(a.k=1→¬a.n < a.s)∧(x.nx=9→a.k=3→a.a=x.c.PC):=by
  intro hf
  rcases h.rel with h|⟨l,i,_,_,_,_,_,_,_,_,hn⟩
  ·exact h.2
  ·rcases hf with hf|hf|hf<;>rcases hn with hn|hn|hn|hn<;>omega
 have hno:x.nx≠3→cst3 x.c.Ch x.y.k x.y.d x.y.s x.nx v=x.y.s∧cd x.y.k x.y.d x.nx v=x.y.d:=fun e=>by simp [cst3,cd,e]
 cases r with
 |reset _ hq=>
  simp at hst;subst hst
  exact h.plain hl 10 v 4 (.inr (.inr rfl)) rfl (fun a ha e=>by omega) (fun _ _ _ _=>rfl) (.inl hq) (fun e=>by omega)
 |t1 _ hx hq k=>
  simp at hst;subst hst;rw [hx]
  exact h.first hy v hx hq k
 |t2 _ hx hq k=>
  simp at hst;subst hst
  have hn:=hno (by omega)
  refine h.next hy hl x.nx v rfl (by omega) _ rfl hcs (.inr ⟨?_,k.2.1,k.2.2,.inl ⟨hx,hq⟩⟩)
  rw [k.1,hn.1,hn.2]
 |t3e _ hx hs hq=>
  simp at hst;subst hst
  rw [←hx] at hs
  exact h.next hy hl x.nx v rfl (by omega) _ rfl hcs (.inl ⟨hq,by omega,by omega,by omega⟩)
 |t3 _ hx hs hq hqy h1 h2=>
  simp at hst;subst hst
  rw [←hx] at hs hqy
  exact h.next hy hl x.nx v rfl (by omega) _ rfl hcs (.inr ⟨hqy,h1,h2,.inr ⟨by omega,by omega,by omega⟩⟩)
 |t4e _ hx hs hq=>
  simp at hst;subst hst
  have hn:=hno (by omega)
  exact h.next hy hl x.nx v rfl (by omega) _ rfl hcs (.inl ⟨hq,by omega,by omega,by rw [hn.1];exact hs⟩)
 |t4 _ hx hs hq k=>
  simp at hst;subst hst
  have hn:=hno (by omega)
  refine h.next hy hl x.nx v rfl (by omega) _ rfl hcs (.inr ⟨?_,k.2.1,k.2.2,.inr ⟨by omega,hq,by rw [hn.1];omega⟩⟩)
  rw [k.1,hn.1,hn.2]
 |t6 _ hx hq=>
  simp at hst;subst hst
  exact h.next hy hl x.nx v rfl (by omega) _ rfl hcs (.inl ⟨hq,by omega,by omega,by omega⟩)
 |hold _ hx hq=>
  simp at hst;subst hst;rw [hx]
  exact h.plain hl 8 v 2 (.inl rfl) rfl (fun a ha e=>by omega) (fun a ha e1 e2=>absurd e2 ((hrel (.inr (.inl hx)) a ha).1 e1)) hq (fun _ e=>by omega)
 |halt _ hx hq hp=>
  simp at hst;subst hst;rw [hx]
  exact h.plain hl 9 v 3 (.inr (.inl rfl)) rfl (fun a ha _ e3=>(hrel (.inr (.inr hx)) a ha).2 hx e3) (fun a ha e1 e2=>absurd e2 ((hrel (.inr (.inr hx)) a ha).1 e1)) hq (fun e _=>hp e)
end S
end Go.Proofs.YteggjjhjmhccjaaGreatDoor
