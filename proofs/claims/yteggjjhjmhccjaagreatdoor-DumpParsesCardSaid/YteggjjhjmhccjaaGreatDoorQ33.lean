/- Texts that the proofs of the statements on dumps rest on, joined. Conditions stand in each theorem. -/
import Derived.Test.YteggjjhjmhccjaaGreatDoorQ32
import Derived.Test.YteggjjhjmhccjaaGreatDoorQ31
import Derived.Test.YteggjjhjmhccjaaGreatDoorQ20
set_option linter.unusedVariables false
set_option linter.unusedSimpArgs false
set_option maxRecDepth 100000
set_option maxHeartbeats 8000000
namespace Go.Proofs.YteggjjhjmhccjaaGreatDoor
open Go.ChangeShapes Go.WideShapes Go.ChangeAt Go.RowKit
section
variable {cA cB cC cCh cD cE cH cL cMa cPC cSP src v:Int} {cDe cHa cIE cR7 cSI cSO cSa cTr cW7 cWT cfAC cfCY cfK cfP cfS cfV cfZ lHo lIn lR5 lR6 lR7 lRe lRs lSi lTr:Bool} {ga:Option Addr} {gc gn:Nat} {w:World}
theorem read_any (x:S.Co) (z:List Int) {st:Int} (hv:0≤v∧v < 256) (hg:x.gn≤1000000) (h:CoOk x z w):Calls Tryz.prog 106 #[.agg #[.int .i64 x.c.Ch,.int .u8 x.c.A,.int .u8 x.c.B,.int .u8 x.c.C,.int .u8 x.c.D,.int .u8 x.c.E,.int .u8 x.c.H,.int .u8 x.c.L,.bool x.c.fS,.bool x.c.fZ,.bool x.c.fK,.bool x.c.fAC,.bool x.c.fP,.bool x.c.fV,.bool x.c.fCY,.int .u16 x.c.SP,.int .u16 x.c.PC,.bool x.c.IE,.bool x.c.De,.bool x.c.Ha,.int .u8 x.c.Ma,.bool x.c.Tr,.bool x.c.R7,.bool x.c.WT,.bool x.c.W7,.bool x.c.Sa,.bool x.c.SI,.bool x.c.SO,.int .i64 x.src,.slice x.ga x.gn x.gc,.int .i64 x.y.k,.int .u16 x.y.a,.int .u8 x.y.d,.int .i64 x.y.s,.int .i64 x.nx,.bool x.ho],.int .i64 st,.int .u8 v] w (ReadPost x.c.Ch x.y st v x.ga x.gn w):=by
 by_cases h3:st=3
 ·subst h3;exact (read_yes x z v hv hg w h).mono fun e w' ⟨a,n,c,z',h1,h2,h3,h4,h5,h6,h7,h8⟩=>⟨a,n,c,z',h1,h2,h3,h4,h5,h6,.inr h7,h8⟩
 ·exact read_no x z st v h3 w h
theorem rlatch_ex:Calls Tryz.prog 78 #[.agg #[.int .i64 cCh,.int .u8 cA,.int .u8 cB,.int .u8 cC,.int .u8 cD,.int .u8 cE,.int .u8 cH,.int .u8 cL,.bool cfS,.bool cfZ,.bool cfK,.bool cfAC,.bool cfP,.bool cfV,.bool cfCY,.int .u16 cSP,.int .u16 cPC,.bool cIE,.bool cDe,.bool cHa,.int .u8 cMa,.bool cTr,.bool cR7,.bool cWT,.bool cW7,.bool cSa,.bool cSI,.bool cSO],.agg #[.bool lRe,.bool lHo,.bool lRs,.bool lSi,.bool lTr,.bool lR7,.bool lR6,.bool lR5,.bool lIn]] w fun e w'=>∃t r p q:Bool,e=.returned (.agg #[.int .i64 cCh,.int .u8 cA,.int .u8 cB,.int .u8 cC,.int .u8 cD,.int .u8 cE,.int .u8 cH,.int .u8 cL,.bool cfS,.bool cfZ,.bool cfK,.bool cfAC,.bool cfP,.bool cfV,.bool cfCY,.int .u16 cSP,.int .u16 cPC,.bool cIE,.bool cDe,.bool cHa,.int .u8 cMa,.bool (t),.bool (r),.bool (p),.bool (q),.bool cSa,.bool cSI,.bool cSO])∧Adds w w':=
 (rlatch_any cCh cA cB cC cD cE cH cL cfS cfZ cfK cfAC cfP cfV cfCY cSP cPC cIE cDe cHa cMa cTr cR7 cWT cW7 cSa cSI cSO lRe lHo lRs lSi lTr lR7 lR6 lR5 lIn w).mono fun e w' ⟨h1,h2⟩=>⟨_,_,_,_,h1,h2⟩
theorem ret3_CPU {fn:Func} {p0 p:Tmp} (hf:fn.results=#[.cell p 56,.tmp p0]) {tmps:Array Value} {b:Nat} {cs:Array Value} {v0:Value} (h0:tmps.getD p0 undef=v0) (hp:tmps.getD p undef=.pointer (some ⟨b,0,none⟩)) (hr:rowOf w b=cs) (hs:cs.size=28):(results fn tmps).run Tryz.prog w=.ok (.tuple #[.agg cs,v0]) w:=
 ret3_all hf Tryz.underlying56 (by kernel_rfl) (by decide) tmps w b cs v0 h0 hp hr hs
theorem next_cv (z:List Int) (hR:S.OkR cA cB cC cD cE cH cL cSP cPC) (hgc:gn≤gc) (hg63:gc≤9223372036854775807) (hz:∀y∈z,0≤y∧y < 256) (hL:HeldB w ga gn z):
 Calls Tryz.prog 115 #[.agg #[.int .i64 cCh,.int .u8 cA,.int .u8 cB,.int .u8 cC,.int .u8 cD,.int .u8 cE,.int .u8 cH,.int .u8 cL,.bool cfS,.bool cfZ,.bool cfK,.bool cfAC,.bool cfP,.bool cfV,.bool cfCY,.int .u16 cSP,.int .u16 cPC,.bool cIE,.bool cDe,.bool cHa,.int .u8 cMa,.bool cTr,.bool cR7,.bool cWT,.bool cW7,.bool cSa,.bool cSI,.bool cSO],.int .i64 src,.slice ga gn gc] w (NextPost gn w):=next_any ⟨cCh,cA,cB,cC,cD,cE,cH,cL,cfS,cfZ,cfK,cfAC,cfP,cfV,cfCY,cSP,cPC,cIE,cDe,cHa,cMa,cTr,cR7,cWT,cW7,cSa,cSI,cSO⟩ src ga gn gc z hR hgc hg63 hz w hL
theorem finish_cv (z:List Int) (hR:S.OkR cA cB cC cD cE cH cL cSP cPC) (hM:0≤cMa∧cMa < 256) (hgc:gn≤gc) (hz:∀y∈z,0≤y∧y < 256) (hL:HeldB w ga gn z):
 Calls Tryz.prog 116 #[.agg #[.int .i64 cCh,.int .u8 cA,.int .u8 cB,.int .u8 cC,.int .u8 cD,.int .u8 cE,.int .u8 cH,.int .u8 cL,.bool cfS,.bool cfZ,.bool cfK,.bool cfAC,.bool cfP,.bool cfV,.bool cfCY,.int .u16 cSP,.int .u16 cPC,.bool cIE,.bool cDe,.bool cHa,.int .u8 cMa,.bool cTr,.bool cR7,.bool cWT,.bool cW7,.bool cSa,.bool cSI,.bool cSO],.int .i64 src,.slice ga gn gc,.agg #[.bool lRe,.bool lHo,.bool lRs,.bool lSi,.bool lTr,.bool lR7,.bool lR6,.bool lR5,.bool lIn]] w (PostU cCh w):=finish_any ⟨cCh,cA,cB,cC,cD,cE,cH,cL,cfS,cfZ,cfK,cfAC,cfP,cfV,cfCY,cSP,cPC,cIE,cDe,cHa,cMa,cTr,cR7,cWT,cW7,cSa,cSI,cSO⟩ src ga gn gc z lRe lHo lRs lSi lTr lR7 lR6 lR5 lIn ⟨hR,hM⟩ hgc hz w hL
def PostFin (w:World) (e:Ending) (w':World):Prop:=∃(c:S.Cp) (b:Bool),e=.returned (.tuple #[.agg #[.int .i64 c.Ch,.int .u8 c.A,.int .u8 c.B,.int .u8 c.C,.int .u8 c.D,.int .u8 c.E,.int .u8 c.H,.int .u8 c.L,.bool c.fS,.bool c.fZ,.bool c.fK,.bool c.fAC,.bool c.fP,.bool c.fV,.bool c.fCY,.int .u16 c.SP,.int .u16 c.PC,.bool c.IE,.bool c.De,.bool c.Ha,.int .u8 c.Ma,.bool c.Tr,.bool c.R7,.bool c.WT,.bool c.W7,.bool c.Sa,.bool c.SI,.bool c.SO],.bool b])∧Adds w w'
theorem PostFin.mk {w':World} (qCh qA qB qC qD qE qH qL:Int) (qfS qfZ qfK qfAC qfP qfV qfCY:Bool) (qSP qPC:Int) (qIE qDe qHa:Bool) (qMa:Int) (qTr qR7 qWT qW7 qSa qSI qSO:Bool) (b:Bool) (h:Adds w w'):PostFin w (.returned (.tuple #[.agg #[.int .i64 qCh,.int .u8 qA,.int .u8 qB,.int .u8 qC,.int .u8 qD,.int .u8 qE,.int .u8 qH,.int .u8 qL,.bool qfS,.bool qfZ,.bool qfK,.bool qfAC,.bool qfP,.bool qfV,.bool qfCY,.int .u16 qSP,.int .u16 qPC,.bool qIE,.bool qDe,.bool qHa,.int .u8 qMa,.bool qTr,.bool qR7,.bool qWT,.bool qW7,.bool qSa,.bool qSI,.bool qSO],.bool b])) w':=⟨⟨qCh,qA,qB,qC,qD,qE,qH,qL,qfS,qfZ,qfK,qfAC,qfP,qfV,qfCY,qSP,qPC,qIE,qDe,qHa,qMa,qTr,qR7,qWT,qW7,qSa,qSI,qSO⟩,b,rfl,h⟩
theorem finished_any (x:S.Co) (z:List Int) (hv:0≤v∧v < 256) (hg:x.gn≤1000000) (h:CoOk x z w):Calls Tryz.prog 75 #[.agg #[.int .i64 x.c.Ch,.int .u8 x.c.A,.int .u8 x.c.B,.int .u8 x.c.C,.int .u8 x.c.D,.int .u8 x.c.E,.int .u8 x.c.H,.int .u8 x.c.L,.bool x.c.fS,.bool x.c.fZ,.bool x.c.fK,.bool x.c.fAC,.bool x.c.fP,.bool x.c.fV,.bool x.c.fCY,.int .u16 x.c.SP,.int .u16 x.c.PC,.bool x.c.IE,.bool x.c.De,.bool x.c.Ha,.int .u8 x.c.Ma,.bool x.c.Tr,.bool x.c.R7,.bool x.c.WT,.bool x.c.W7,.bool x.c.Sa,.bool x.c.SI,.bool x.c.SO,.int .i64 x.src,.slice x.ga x.gn x.gc,.int .i64 x.y.k,.int .u16 x.y.a,.int .u8 x.y.d,.int .i64 x.y.s,.int .i64 x.nx,.bool x.ho],.agg #[.bool lRe,.bool lHo,.bool lRs,.bool lSi,.bool lTr,.bool lR7,.bool lR6,.bool lR5,.bool lIn],.int .u8 v] w (PostFin w):=by
 have H:=Lib.hid h
 clear h
 cases lRs
 ·go_enter Tryz.func75,Tryz.ntmps75
  go_wp2_with (first
   |(go_at_call 78;refine (rlatch_ex).mono ?_;rintro e w' ⟨t,r,p,q,rfl,⟨⟨n1,os1⟩,rfl⟩⟩)
   |(go_at_call 106;refine (read_any x z hv hg (H.out.adds aD)).mono ?_;rintro e w' ⟨ga',gn',gc',z',rfl,hh,hgc,hle,hb,hnn,hsm,⟨⟨n2,os2⟩,rfl⟩⟩;have HH:=Lib.hid hh;have HGC:=Lib.hid hgc;have HB:=Lib.hid hb;clear hh hgc hle hb hnn hsm)
   |(go_at_call 107;refine ad (ends_any) fun n3 os3=> ?_)
   |(go_at_call 115;refine (next_cv z' H.out.c.1 HGC.out.1 HGC.out.2 HB.out (HH.out.adds aD)).mono ?_;rintro e w' ⟨⟨yk,ya,yd,ys⟩,m,rfl,hx,hm,⟨⟨n4,os4⟩,rfl⟩⟩;clear hx hm;simp only [S.Cy.cs])
   |(go_at_call 116;refine (finish_cv z' H.out.c.1 H.out.c.2 HGC.out.1 HB.out (HH.out.adds aD)).mono ?_;rintro e w' ⟨⟨uCh,uA,uB,uC,uD,uE,uH,uL,ufS,ufZ,ufK,ufAC,ufP,ufV,ufCY,uSP,uPC,uIE,uDe,uHa,uMa,uTr,uR7,uWT,uW7,uSa,uSI,uSO⟩,rfl,hch,hok,⟨⟨nu,osu⟩,rfl⟩⟩;clear hch hok;simp only [S.Cp.cs])
   |fail)
  all_goals
   refine bodyPost_ret (ret3_CPU Tryz.results75 rfl rfl rfl (by simp [go_sem])) rfl ?_
   simp [go_sem]
   exact PostFin.mk _ _ _ _ _ _ _ _ _ _ _ _ _ _ _ _ _ _ _ _ _ _ _ _ _ _ _ _ _ aD
 ·go_enter Tryz.func75,Tryz.ntmps75
  go_wp2_with fail
  refine bodyPost_ret (ret3_CPU Tryz.results75 rfl rfl rfl (by simp [go_sem])) rfl ?_
  simp [go_sem]
  exact PostFin.mk _ _ _ _ _ _ _ _ _ _ _ _ _ _ _ _ _ _ _ _ _ _ _ _ _ _ _ _ _ aD
end
section
variable {a d k nx qA qB qC qCh qD qE qH qL qMa qPC qSP s src v:Int} {ga:Option Addr} {gc gn:Nat} {ho qDe qHa qIE qR7 qSI qSO qSa qTr qW7 qWT qfAC qfCY qfK qfP qfS qfV qfZ:Bool} {w:World}
theorem ret4_Core {fn:Func} {p q:Tmp} (hf:fn.results=#[.cell p 60,.cell q 34]) {tmps:Array Value} {b c:Nat} {cs ds:Array Value} (hp:tmps.getD p undef=.pointer (some ⟨b,0,none⟩)) (hr:rowOf w b=cs) (hs:cs.size=36) (hq:tmps.getD q undef=.pointer (some ⟨c,0,none⟩)) (hr2:rowOf w c=ds) (hs2:ds.size=17):(results fn tmps).run Tryz.prog w=.ok (.tuple #[.agg cs,.agg ds]) w:=
 ret4_all hf Tryz.underlying60 (by kernel_rfl) (by decide) Tryz.underlying34 (by kernel_rfl) (by decide) tmps w b c cs ds hp hr hs hq hr2 hs2
theorem raccepts_any:Calls Tryz.prog 102 #[.int .i64 k] w fun e w'=>e=.returned (.bool (S.acc k))∧Adds w w':=by
 by_cases h1:k=10
 ·subst h1
  go_enter Tryz.func102,Tryz.ntmps102
  go_wp2_with fail
  go_ret
  exact ⟨rfl,aD⟩
 by_cases h2:k=11
 ·subst h2
  go_enter Tryz.func102,Tryz.ntmps102
  go_wp2_with fail
  go_ret
  exact ⟨rfl,aD⟩
 ·have b1:(k !=10)=true:=by simpa using h1
  have b2:(k !=11)=true:=by simpa using h2
  have c1:(k==10)=false:=by simpa using h1
  have c2:(k==11)=false:=by simpa using h2
  clear h1 h2
  rcases h3:(k==12) with _|_
  all_goals
   have b3:(k !=12)= !(k==12):=rfl
   have HE:=Lib.hid (show S.acc k= !(k==12) by unfold S.acc;rw [c1,c2];simp)
   rw [h3] at b3 HE
   go_enter Tryz.func102,Tryz.ntmps102
   go_wp2_with fail
   go_ret
   exact ⟨by rw [HE.out];rfl,aD⟩
def ClockPost (x:S.Co) (rst:Bool) (v:Int) (w:World) (e:Ending) (w':World):Prop:=∃(q:S.Co) (z:List Int),
 e=.returned (.tuple #[.agg #[.int .i64 q.c.Ch,.int .u8 q.c.A,.int .u8 q.c.B,.int .u8 q.c.C,.int .u8 q.c.D,.int .u8 q.c.E,.int .u8 q.c.H,.int .u8 q.c.L,.bool q.c.fS,.bool q.c.fZ,.bool q.c.fK,.bool q.c.fAC,.bool q.c.fP,.bool q.c.fV,.bool q.c.fCY,.int .u16 q.c.SP,.int .u16 q.c.PC,.bool q.c.IE,.bool q.c.De,.bool q.c.Ha,.int .u8 q.c.Ma,.bool q.c.Tr,.bool q.c.R7,.bool q.c.WT,.bool q.c.W7,.bool q.c.Sa,.bool q.c.SI,.bool q.c.SO,.int .i64 q.src,.slice q.ga q.gn q.gc,.int .i64 q.y.k,.int .u16 q.y.a,.int .u8 q.y.d,.int .i64 q.y.s,.int .i64 q.nx,.bool q.ho],.agg (S.pn (x.c.Ch==2) (S.itm x (if rst then 10 else x.nx) v) (if rst then 10 else x.nx)).cs])∧q.c.Ch=x.c.Ch∧CoOk q z w'∧q.gn≤x.gn+1∧Nw w.heap.size q.ga q.gn∧S.Stp x v rst q∧Adds w w'
theorem ClockPost.mk {x:S.Co} {rst:Bool} {w':World} (qCh qA qB qC qD qE qH qL:Int) (qfS qfZ qfK qfAC qfP qfV qfCY:Bool) (qSP qPC:Int) (qIE qDe qHa:Bool) (qMa:Int) (qTr qR7 qWT qW7 qSa qSI qSO:Bool) (src:Int) (ga:Option Addr) (gn gc:Nat) (k a d s nx:Int) (ho:Bool) (z:List Int) (p:Array Value) (hp:p=(S.pn (x.c.Ch==2) (S.itm x (if rst then 10 else x.nx) v) (if rst then 10 else x.nx)).cs) (h1:qCh=x.c.Ch) (h2:CoOk ⟨⟨qCh,qA,qB,qC,qD,qE,qH,qL,qfS,qfZ,qfK,qfAC,qfP,qfV,qfCY,qSP,qPC,qIE,qDe,qHa,qMa,qTr,qR7,qWT,qW7,qSa,qSI,qSO⟩,src,ga,gn,gc,⟨k,a,d,s⟩,nx,ho⟩ z w') (h3:gn≤x.gn+1) (h4:Nw w.heap.size ga gn) (h5:S.Stp x v rst ⟨⟨qCh,qA,qB,qC,qD,qE,qH,qL,qfS,qfZ,qfK,qfAC,qfP,qfV,qfCY,qSP,qPC,qIE,qDe,qHa,qMa,qTr,qR7,qWT,qW7,qSa,qSI,qSO⟩,src,ga,gn,gc,⟨k,a,d,s⟩,nx,ho⟩) (h6:Adds w w'):
 ClockPost x rst v w (.returned (.tuple #[.agg #[.int .i64 qCh,.int .u8 qA,.int .u8 qB,.int .u8 qC,.int .u8 qD,.int .u8 qE,.int .u8 qH,.int .u8 qL,.bool qfS,.bool qfZ,.bool qfK,.bool qfAC,.bool qfP,.bool qfV,.bool qfCY,.int .u16 qSP,.int .u16 qPC,.bool qIE,.bool qDe,.bool qHa,.int .u8 qMa,.bool qTr,.bool qR7,.bool qWT,.bool qW7,.bool qSa,.bool qSI,.bool qSO,.int .i64 src,.slice ga gn gc,.int .i64 k,.int .u16 a,.int .u8 d,.int .i64 s,.int .i64 nx,.bool ho],.agg p])) w':=⟨⟨⟨qCh,qA,qB,qC,qD,qE,qH,qL,qfS,qfZ,qfK,qfAC,qfP,qfV,qfCY,qSP,qPC,qIE,qDe,qHa,qMa,qTr,qR7,qWT,qW7,qSa,qSI,qSO⟩,src,ga,gn,gc,⟨k,a,d,s⟩,nx,ho⟩,z,by rw [hp],h1,h2,h3,h4,h5,h6⟩
theorem rpins_cv {ch ys:Int} {e o:Bool} (h1:1≤s) (h10:s≤10):Calls Tryz.prog 101 #[.int .i64 ch,.int .i64 s,.agg #[.int .i64 k,.int .u16 a,.int .u8 d,.int .i64 ys],.int .u8 v,.bool e,.bool o] w fun r w'=>r=.returned (.agg (S.pn (ch==2) ⟨0,k,a,S.cd k d s v,ys,0,0,e,o⟩ s).cs)∧Adds w w':=
 rpinsq_any ch s d v ⟨0,k,a,S.cd k d s v,ys,0,0,e,o⟩ h1 h10 rfl w
theorem state_cv (h:1≤nx∧nx≤9):Calls Tryz.prog 35 #[.agg #[.int .i64 qCh,.int .u8 qA,.int .u8 qB,.int .u8 qC,.int .u8 qD,.int .u8 qE,.int .u8 qH,.int .u8 qL,.bool qfS,.bool qfZ,.bool qfK,.bool qfAC,.bool qfP,.bool qfV,.bool qfCY,.int .u16 qSP,.int .u16 qPC,.bool qIE,.bool qDe,.bool qHa,.int .u8 qMa,.bool qTr,.bool qR7,.bool qWT,.bool qW7,.bool qSa,.bool qSI,.bool qSO,.int .i64 src,.slice ga gn gc,.int .i64 k,.int .u16 a,.int .u8 d,.int .i64 s,.int .i64 nx,.bool ho]] w fun e w'=>e=.returned (.int .i64 nx)∧Adds w w':=
 state_any ⟨⟨qCh,qA,qB,qC,qD,qE,qH,qL,qfS,qfZ,qfK,qfAC,qfP,qfV,qfCY,qSP,qPC,qIE,qDe,qHa,qMa,qTr,qR7,qWT,qW7,qSa,qSI,qSO⟩,src,ga,gn,gc,⟨k,a,d,s⟩,nx,ho⟩ h w
theorem read_cv (z:List Int) (hv:0≤v∧v < 256) (hg:gn≤1000000) (hR:S.OkR qA qB qC qD qE qH qL qSP qPC) (hM:0≤qMa∧qMa < 256) (hy:S.Cy.Ok ⟨k,a,d,s⟩) (hn:1≤nx∧nx≤9) (hh:HeldB w ga gn z) (hc:gn≤gc∧gc≤9223372036854775807) (hz:∀y∈z,0≤y∧y < 256) (hnn:ga=none→gc=0):Calls Tryz.prog 106 #[.agg #[.int .i64 qCh,.int .u8 qA,.int .u8 qB,.int .u8 qC,.int .u8 qD,.int .u8 qE,.int .u8 qH,.int .u8 qL,.bool qfS,.bool qfZ,.bool qfK,.bool qfAC,.bool qfP,.bool qfV,.bool qfCY,.int .u16 qSP,.int .u16 qPC,.bool qIE,.bool qDe,.bool qHa,.int .u8 qMa,.bool qTr,.bool qR7,.bool qWT,.bool qW7,.bool qSa,.bool qSI,.bool qSO,.int .i64 src,.slice ga gn gc,.int .i64 k,.int .u16 a,.int .u8 d,.int .i64 s,.int .i64 nx,.bool ho],.int .i64 3,.int .u8 v] w (ReadPost3 qCh ⟨k,a,d,s⟩ v gn w):=
 read_yes ⟨⟨qCh,qA,qB,qC,qD,qE,qH,qL,qfS,qfZ,qfK,qfAC,qfP,qfV,qfCY,qSP,qPC,qIE,qDe,qHa,qMa,qTr,qR7,qWT,qW7,qSa,qSI,qSO⟩,src,ga,gn,gc,⟨k,a,d,s⟩,nx,ho⟩ z v hv hg w ⟨⟨hR,hM⟩,hy,hn,hh,hc,hz,hnn⟩
theorem read_same {st:Int} (h3:¬st=3) (hgc:gn≤gc∧gc≤9223372036854775807):Calls Tryz.prog 106 #[.agg #[.int .i64 qCh,.int .u8 qA,.int .u8 qB,.int .u8 qC,.int .u8 qD,.int .u8 qE,.int .u8 qH,.int .u8 qL,.bool qfS,.bool qfZ,.bool qfK,.bool qfAC,.bool qfP,.bool qfV,.bool qfCY,.int .u16 qSP,.int .u16 qPC,.bool qIE,.bool qDe,.bool qHa,.int .u8 qMa,.bool qTr,.bool qR7,.bool qWT,.bool qW7,.bool qSa,.bool qSI,.bool qSO,.int .i64 src,.slice ga gn gc,.int .i64 k,.int .u16 a,.int .u8 d,.int .i64 s,.int .i64 nx,.bool ho],.int .i64 st,.int .u8 v] w fun e w'=>e=.returned (.tuple #[.agg #[.int .i64 k,.int .u16 a,.int .u8 d,.int .i64 s],.slice ga gn gc])∧Adds w w':=by
 obtain ⟨g1,g2⟩:=hgc
 go_enter Tryz.func106,Tryz.ntmps106
 go_wp2_with fail
 go_region
 go_wp2_with fail
 refine bodyPost_ret (ret3_Cycle Tryz.results106 rfl rfl rfl (by simp [go_sem])) rfl ?_
 simp [go_sem]
 exact aD
theorem end_cv (z:List Int) {lRe lHo lRs lSi lTr lR7 lR6 lR5 lIn:Bool} (hR:S.OkR qA qB qC qD qE qH qL qSP qPC) (hM:0≤qMa∧qMa < 256) (hy:S.Cy.Ok ⟨k,a,d,s⟩) (hn:1≤nx∧nx≤9) (hh:HeldB w ga gn z) (hc:gn≤gc∧gc≤9223372036854775807) (hz:∀y∈z,0≤y∧y < 256) (hnn:ga=none→gc=0):Calls Tryz.prog 108 #[.agg #[.int .i64 qCh,.int .u8 qA,.int .u8 qB,.int .u8 qC,.int .u8 qD,.int .u8 qE,.int .u8 qH,.int .u8 qL,.bool qfS,.bool qfZ,.bool qfK,.bool qfAC,.bool qfP,.bool qfV,.bool qfCY,.int .u16 qSP,.int .u16 qPC,.bool qIE,.bool qDe,.bool qHa,.int .u8 qMa,.bool qTr,.bool qR7,.bool qWT,.bool qW7,.bool qSa,.bool qSI,.bool qSO,.int .i64 src,.slice ga gn gc,.int .i64 k,.int .u16 a,.int .u8 d,.int .i64 s,.int .i64 nx,.bool ho],.agg #[.bool lRe,.bool lHo,.bool lRs,.bool lSi,.bool lTr,.bool lR7,.bool lR6,.bool lR5,.bool lIn]] w (PostK qCh (fun r=>(r.nx=1∨r.nx=8∨r.nx=9)∧(r.gn=0∨(r.ga=ga∧r.gn=gn))) w):=
 end_any ⟨⟨qCh,qA,qB,qC,qD,qE,qH,qL,qfS,qfZ,qfK,qfAC,qfP,qfV,qfCY,qSP,qPC,qIE,qDe,qHa,qMa,qTr,qR7,qWT,qW7,qSa,qSI,qSO⟩,src,ga,gn,gc,⟨k,a,d,s⟩,nx,ho⟩ z lRe lHo lRs lSi lTr lR7 lR6 lR5 lIn w ⟨⟨hR,hM⟩,hy,hn,hh,hc,hz,hnn⟩
end
section
def ClkAt (n:Int):Prop:=∀(x:S.Co) (z:List Int) (lRe lHo lRs lSi lTr lR7 lR6 lR5 lIn:Bool) (v:Int) (hv:0≤v∧v < 256) (hg:x.gn≤999999) (hr:lRs=false) (hx:x.nx=n) (w:World) (h:CoOk x z w),Calls Tryz.prog 66 #[.agg #[.int .i64 x.c.Ch,.int .u8 x.c.A,.int .u8 x.c.B,.int .u8 x.c.C,.int .u8 x.c.D,.int .u8 x.c.E,.int .u8 x.c.H,.int .u8 x.c.L,.bool x.c.fS,.bool x.c.fZ,.bool x.c.fK,.bool x.c.fAC,.bool x.c.fP,.bool x.c.fV,.bool x.c.fCY,.int .u16 x.c.SP,.int .u16 x.c.PC,.bool x.c.IE,.bool x.c.De,.bool x.c.Ha,.int .u8 x.c.Ma,.bool x.c.Tr,.bool x.c.R7,.bool x.c.WT,.bool x.c.W7,.bool x.c.Sa,.bool x.c.SI,.bool x.c.SO,.int .i64 x.src,.slice x.ga x.gn x.gc,.int .i64 x.y.k,.int .u16 x.y.a,.int .u8 x.y.d,.int .i64 x.y.s,.int .i64 x.nx,.bool x.ho],.agg #[.bool lRe,.bool lHo,.bool lRs,.bool lSi,.bool lTr,.bool lR7,.bool lR6,.bool lR5,.bool lIn],.int .u8 v] w (ClockPost x false v w)
theorem ck1 {P:Prop} (hP:P:=by
 go_enter Tryz.func66,Tryz.ntmps66
 iterate 2
  all_goals try go_wp2_with (first
   |(go_at_call 35;refine ad (state_cv (by omega)) fun n1 os1=> ?_)
   |(go_at_call 101;refine ad (rpins_cv (by omega) (by omega)) fun n2 os2=> ?_;generalize hP:S.pn _ _ _=P;have HP:=Lib.hid hP;clear hP;simp only [S.Pn.cs])
   |(at_builtin;refine wpList_appBH rfl _ _ rfl _ (.slice none 0 0) [] rfl (OwnsG.nil _ _) ga gn gc z rfl (H.out.held.adds aD) H.out.gc.1 H.out.nn (by have:=HG.out;simp;omega) (Nat.le_refl _) ?_;intro v1 w1 hO1 hG1 hW1;obtain ⟨⟨na,osa⟩,rfl⟩:=adds_no hG1;obtain ⟨a1,m1,c1,rfl,hn1,hc1,hc2,hc3,hc4⟩:=hO1.form2;have HO1:=Lib.hid ((hO1.held (by have:=HG.out;have:=HZ0.out;simp;omega)).other hO1.nw);have HW1:=Lib.hid (show Nw w.heap.size a1 m1 from hO1.nw.mono (by simp [go_sem];omega));have HN1:=Lib.hid (show m1=gn by have h1:=hn1.out;have h2:=HZ0.out;simp at h1;omega);have HC1:=Lib.hid (show m1≤c1∧c1≤9223372036854775807 from ⟨hc1,hc2⟩);have HZ1:=Lib.hid (show a1=none→c1=0 from fun e=>(hc4 e).2);clear hO1 hG1 hW1 hn1 hc1 hc2 hc3 hc4)
   |(go_at_call 78;refine (rlatch_ex).mono ?_;rintro e w' ⟨t,r,p,q,rfl,⟨⟨n3,os3⟩,rfl⟩⟩)
   |(go_at_call 102;refine ad (raccepts_any) fun n4 os4=> ?_)
   |(go_at_call 103;refine (resting_cv).mono ?_;rintro e w' ⟨rr,rfl,⟨⟨n5,os5⟩,rfl⟩⟩)
   |(go_at_call 104;refine ad (rpick_any _ _ _ _ _ _ _ _ _ _ _ _ _ _ _ _ _ _ _ _ _ _ _ _ _ _ _ _ _ _ _ _ _ _ _ _ _ _) fun n6 os6=> ?_;generalize S.pik _ _ _ _ _ _ _ _ _=pk)
   |(go_at_call 105;refine (serve_cv H.out.c.1 H.out.c.2 (by omega)).mono ?_;rintro e w' ⟨qq,zq,rfl,hqc,hok,⟨hq1,hq2,hq3,hq4⟩,⟨⟨n7,os7⟩,rfl⟩⟩;have HQ:=Lib.hid hok;have HQC:=Lib.hid hqc;have HQG:=Lib.hid hq4;clear hok hqc hq1 hq2 hq3 hq4)
   |(go_at_call 106;refine (read_cv z hv (by have:=HG.out;have:=HN1.out;omega) H.out.c.1 H.out.c.2 H.out.y ⟨by omega,by omega⟩ (held_fin aD (by simp [go_sem]) HO1.out) HC1.out H.out.by_ HZ1.out).mono ?_;rintro e w' ⟨a2,m2,c2,z2,rfl,hh,hgc,hle,hb,hnn,hnw,⟨⟨n8,os8⟩,rfl⟩⟩;have HR2:=Lib.hid (hh.other hnw);have HW2:=Lib.hid (show Nw w.heap.size a2 m2 from hnw.mono (by simp [go_sem];omega));have HC2:=Lib.hid hgc;have HL2:=Lib.hid hle;have HB2:=Lib.hid hb;have HZ2:=Lib.hid hnn;clear hh hgc hle hb hnn hnw;simp only [])
   |(go_at_call 107;refine ad (ends_any) fun n9 os9=> ?_)
   |(go_at_call 108;fail)
   |fail)
  all_goals try go_region
 all_goals try go_wp2_with fail
 all_goals
  refine bodyPost_ret (ret4_Core Tryz.results66 rfl rfl (by simp [go_sem]) rfl rfl (by simp [go_sem])) rfl ?_
  simp [go_sem]
  first
  |exact ClockPost.mk _ _ _ _ _ _ _ _ _ _ _ _ _ _ _ _ _ _ _ _ _ _ _ _ _ _ _ _ _ _ _ _ _ _ _ _ _ _ z _ (by have:=HP.out;subst this;rfl) rfl ⟨H.out.c,H.out.y,⟨by simp,by simp⟩,held_fin aD (by simp [go_sem]) HO1.out,HC1.out,H.out.by_,HZ1.out⟩ (by have:=HN1.out;show _≤gn+1;omega) HW1.out (by first|exact .t1 _ rfl rfl ⟨rfl,rfl,rfl⟩|exact .t2 _ (by first|exact .inl rfl|exact .inr rfl) (by first|exact .inl rfl|exact .inr ⟨rfl,HA.out⟩) ⟨rfl,rfl,rfl⟩|exact .hold _ rfl (by simp [S.Fin3])|exact .halt _ rfl (by simp [S.Fin3]) (fun _=>rfl)) aD
  |exact ClockPost.mk _ _ _ _ _ _ _ _ _ _ _ _ _ _ _ _ _ _ _ _ _ _ _ _ _ _ _ _ _ _ _ _ _ _ _ _ _ _ [] _ (by have:=HP.out;subst this;rfl) HQC.out ⟨HQ.out.c,HQ.out.y,⟨by simp,by simp⟩,(by have e:=HQG.out;show HeldG csB _ _ qq.gn [];rw [e];exact HeldG.nil _ _),HQ.out.gc,(fun y hy=>by cases hy),HQ.out.nn⟩ (by have:=HQG.out;show qq.gn≤gn+1;omega) (by have:=HQG.out;rw [this];exact Nw.nil _ _) (.halt _ rfl (by simp [S.Fin3]) (fun e=>by simp at e)) aD):P:=hP
theorem ck4 {P:Prop} (hP:P:=by
 go_enter Tryz.func66,Tryz.ntmps66
 iterate 2
  all_goals try go_wp2_with (first
   |(go_at_call 35;refine ad (state_cv (by omega)) fun n1 os1=> ?_)
   |(go_at_call 101;refine ad (rpins_cv (by omega) (by omega)) fun n2 os2=> ?_;generalize hP:S.pn _ _ _=P;have HP:=Lib.hid hP;clear hP;simp only [S.Pn.cs])
   |(at_builtin;refine wpList_appBH rfl _ _ rfl _ (.slice none 0 0) [] rfl (OwnsG.nil _ _) ga gn gc z rfl (H.out.held.adds aD) H.out.gc.1 H.out.nn (by have:=HG.out;simp;omega) (Nat.le_refl _) ?_;intro v1 w1 hO1 hG1 hW1;obtain ⟨⟨na,osa⟩,rfl⟩:=adds_no hG1;obtain ⟨a1,m1,c1,rfl,hn1,hc1,hc2,hc3,hc4⟩:=hO1.form2;have HO1:=Lib.hid ((hO1.held (by have:=HG.out;have:=HZ0.out;simp;omega)).other hO1.nw);have HW1:=Lib.hid (show Nw w.heap.size a1 m1 from hO1.nw.mono (by simp [go_sem];omega));have HN1:=Lib.hid (show m1=gn by have h1:=hn1.out;have h2:=HZ0.out;simp at h1;omega);have HC1:=Lib.hid (show m1≤c1∧c1≤9223372036854775807 from ⟨hc1,hc2⟩);have HZ1:=Lib.hid (show a1=none→c1=0 from fun e=>(hc4 e).2);clear hO1 hG1 hW1 hn1 hc1 hc2 hc3 hc4)
   |(go_at_call 78;refine (rlatch_ex).mono ?_;rintro e w' ⟨t,r,p,q,rfl,⟨⟨n3,os3⟩,rfl⟩⟩)
   |(go_at_call 102;refine ad (raccepts_any) fun n4 os4=> ?_)
   |(go_at_call 103;refine (resting_cv).mono ?_;rintro e w' ⟨rr,rfl,⟨⟨n5,os5⟩,rfl⟩⟩)
   |(go_at_call 104;refine ad (rpick_any _ _ _ _ _ _ _ _ _ _ _ _ _ _ _ _ _ _ _ _ _ _ _ _ _ _ _ _ _ _ _ _ _ _ _ _ _ _) fun n6 os6=> ?_;generalize S.pik _ _ _ _ _ _ _ _ _=pk)
   |(go_at_call 105;refine (serve_cv H.out.c.1 H.out.c.2 (by omega)).mono ?_;rintro e w' ⟨qq,zq,rfl,hqc,hok,⟨hq1,hq2,hq3,hq4⟩,⟨⟨n7,os7⟩,rfl⟩⟩;have HQ:=Lib.hid hok;have HQC:=Lib.hid hqc;have HQG:=Lib.hid hq4;clear hok hqc hq1 hq2 hq3 hq4)
   |(go_at_call 106;refine ad (read_same (by omega) HC1.out) fun n8 os8=> ?_)
   |(go_at_call 107;refine ad (ends_any) fun n9 os9=> ?_)
   |(go_at_call 108;refine (end_cv z H.out.c.1 H.out.c.2 H.out.y ⟨by omega,by omega⟩ (held_fin aD (by simp [go_sem]) HO1.out) HC1.out H.out.by_ HZ1.out).mono ?_;rintro e w' ⟨qq,zq,rfl,hqc,hok,⟨hq1,hq2⟩,⟨⟨n10,os10⟩,rfl⟩⟩;have HQ:=Lib.hid hok;have HQC:=Lib.hid hqc;have HQ1:=Lib.hid hq1;have HQ2:=Lib.hid hq2;clear hok hqc hq1 hq2)
   |fail)
  all_goals try go_region
 all_goals try go_wp2_with fail
 all_goals
  refine bodyPost_ret (ret4_Core Tryz.results66 rfl rfl (by simp [go_sem]) rfl rfl (by simp [go_sem])) rfl ?_
  simp [go_sem]
  first
  |exact ClockPost.mk _ _ _ _ _ _ _ _ _ _ _ _ _ _ _ _ _ _ _ _ _ _ _ _ _ _ _ _ _ _ _ _ _ _ _ _ _ _ z _ (by have:=HP.out;subst this;rfl) rfl ⟨H.out.c,H.out.y,⟨by simp,by simp⟩,held_fin aD (by simp [go_sem]) HO1.out,HC1.out,H.out.by_,HZ1.out⟩ (by have:=HN1.out;show _≤gn+1;omega) HW1.out (.t4 _ (by first|exact .inl rfl|exact .inr rfl) (by have:=HS.out;first|(show ¬s≤4;omega)|(show ¬s≤5;omega)) rfl ⟨rfl,rfl,rfl⟩) aD
  |(rcases HQ2.out with e|⟨e1,e2⟩
    ·exact ClockPost.mk _ _ _ _ _ _ _ _ _ _ _ _ _ _ _ _ _ _ _ _ _ _ _ _ _ _ _ _ _ _ _ _ _ _ _ _ _ _ [] _ (by have:=HP.out;subst this;rfl) HQC.out ⟨HQ.out.c,HQ.out.y,HQ.out.nx,(by show HeldG csB _ _ qq.gn [];rw [e];exact HeldG.nil _ _),HQ.out.gc,(fun y hy=>by cases hy),HQ.out.nn⟩ (by show qq.gn≤gn+1;omega) (by rw [e];exact Nw.nil _ _) (by first|exact .t4e _ (by first|exact .inl rfl|exact .inr rfl) HS.out HQ1.out|exact .t6 _ rfl HQ1.out) aD
    ·exact ClockPost.mk _ _ _ _ _ _ _ _ _ _ _ _ _ _ _ _ _ _ _ _ _ _ _ _ _ _ _ _ _ _ _ _ _ _ _ _ _ _ z _ (by have:=HP.out;subst this;rfl) HQC.out ⟨HQ.out.c,HQ.out.y,HQ.out.nx,(by show HeldG csB _ qq.ga qq.gn _;rw [e1,e2];exact held_fin aD (by simp [go_sem]) HO1.out),HQ.out.gc,H.out.by_,HQ.out.nn⟩ (by have:=HN1.out;show qq.gn≤gn+1;omega) (by rw [e1,e2];exact HW1.out) (by first|exact .t4e _ (by first|exact .inl rfl|exact .inr rfl) HS.out HQ1.out|exact .t6 _ rfl HQ1.out) aD)):P:=hP
theorem ck3 {P:Prop} (hP:P:=by
 go_enter Tryz.func66,Tryz.ntmps66
 iterate 2
  all_goals try go_wp2_with (first
   |(go_at_call 35;refine ad (state_cv (by omega)) fun n1 os1=> ?_)
   |(go_at_call 101;refine ad (rpins_cv (by omega) (by omega)) fun n2 os2=> ?_;generalize hP:S.pn _ _ _=P;have HP:=Lib.hid hP;clear hP;simp only [S.Pn.cs])
   |(at_builtin;refine wpList_appBH rfl _ _ rfl _ (.slice none 0 0) [] rfl (OwnsG.nil _ _) ga gn gc z rfl (H.out.held.adds aD) H.out.gc.1 H.out.nn (by have:=HG.out;simp;omega) (Nat.le_refl _) ?_;intro v1 w1 hO1 hG1 hW1;obtain ⟨⟨na,osa⟩,rfl⟩:=adds_no hG1;obtain ⟨a1,m1,c1,rfl,hn1,hc1,hc2,hc3,hc4⟩:=hO1.form2;have HO1:=Lib.hid ((hO1.held (by have:=HG.out;have:=HZ0.out;simp;omega)).other hO1.nw);have HW1:=Lib.hid (show Nw w.heap.size a1 m1 from hO1.nw.mono (by simp [go_sem];omega));have HN1:=Lib.hid (show m1=gn by have h1:=hn1.out;have h2:=HZ0.out;simp at h1;omega);have HC1:=Lib.hid (show m1≤c1∧c1≤9223372036854775807 from ⟨hc1,hc2⟩);have HZ1:=Lib.hid (show a1=none→c1=0 from fun e=>(hc4 e).2);clear hO1 hG1 hW1 hn1 hc1 hc2 hc3 hc4)
   |(go_at_call 78;refine (rlatch_ex).mono ?_;rintro e w' ⟨t,r,p,q,rfl,⟨⟨n3,os3⟩,rfl⟩⟩)
   |(go_at_call 102;refine ad (raccepts_any) fun n4 os4=> ?_)
   |(go_at_call 103;refine (resting_cv).mono ?_;rintro e w' ⟨rr,rfl,⟨⟨n5,os5⟩,rfl⟩⟩)
   |(go_at_call 104;refine ad (rpick_any _ _ _ _ _ _ _ _ _ _ _ _ _ _ _ _ _ _ _ _ _ _ _ _ _ _ _ _ _ _ _ _ _ _ _ _ _ _) fun n6 os6=> ?_;generalize S.pik _ _ _ _ _ _ _ _ _=pk)
   |(go_at_call 105;refine (serve_cv H.out.c.1 H.out.c.2 (by omega)).mono ?_;rintro e w' ⟨qq,zq,rfl,hqc,hok,⟨hq1,hq2,hq3,hq4⟩,⟨⟨n7,os7⟩,rfl⟩⟩;have HQ:=Lib.hid hok;have HQC:=Lib.hid hqc;have HQG:=Lib.hid hq4;clear hok hqc hq1 hq2 hq3 hq4)
   |(go_at_call 106;refine (read_cv z hv (by have:=HG.out;have:=HN1.out;omega) H.out.c.1 H.out.c.2 H.out.y ⟨by omega,by omega⟩ (held_fin aD (by simp [go_sem]) HO1.out) HC1.out H.out.by_ HZ1.out).mono ?_;rintro e w' ⟨a2,m2,c2,z2,rfl,hh,hgc,hle,hb,hnn,hnw,⟨⟨n8,os8⟩,rfl⟩⟩;have HR2:=Lib.hid (hh.other hnw);have HW2:=Lib.hid (show Nw w.heap.size a2 m2 from hnw.mono (by simp [go_sem];omega));have HC2:=Lib.hid hgc;have HL2:=Lib.hid hle;have HB2:=Lib.hid hb;have HZ2:=Lib.hid hnn;clear hh hgc hle hb hnn hnw;simp only [])
   |(go_at_call 107;refine ad (ends_any) fun n9 os9=> ?_)
   |(go_at_call 108;refine (end_cv z2 H.out.c.1 H.out.c.2 (S.cur_ok (ch:=cCh) (st:=3) H.out.y hv) ⟨by omega,by omega⟩ (held_fin aD (by simp [go_sem]) HR2.out) HC2.out HB2.out HZ2.out).mono ?_;rintro e w' ⟨qq,zq,rfl,hqc,hok,⟨hq1,hq2⟩,⟨⟨n10,os10⟩,rfl⟩⟩;have HQ:=Lib.hid hok;have HQC:=Lib.hid hqc;have HQ1:=Lib.hid hq1;have HQ2:=Lib.hid hq2;clear hok hqc hq1 hq2)
   |fail)
  all_goals try go_region
 all_goals try go_wp2_with fail
 all_goals
  refine bodyPost_ret (ret4_Core Tryz.results66 rfl rfl (by simp [go_sem]) rfl rfl (by simp [go_sem])) rfl ?_
  simp [go_sem]
  first
  |exact ClockPost.mk _ _ _ _ _ _ _ _ _ _ _ _ _ _ _ _ _ _ _ _ _ _ _ _ _ _ _ _ _ _ _ _ _ _ _ _ _ _ z2 _ (by have:=HP.out;subst this;rfl) rfl ⟨H.out.c,S.cur_ok (ch:=cCh) (st:=3) H.out.y hv,⟨by simp,by simp⟩,held_fin aD (by simp [go_sem]) HR2.out,HC2.out,HB2.out,HZ2.out⟩ (by have:=HN1.out;have:=HL2.out;show m2≤gn+1;omega) HW2.out (.t3 _ rfl (by have:=HE.out;show ¬S.cst3 cCh k d s 3 v≤3;omega) rfl rfl rfl rfl) aD
  |(rcases HQ2.out with e|⟨e1,e2⟩
    ·exact ClockPost.mk _ _ _ _ _ _ _ _ _ _ _ _ _ _ _ _ _ _ _ _ _ _ _ _ _ _ _ _ _ _ _ _ _ _ _ _ _ _ [] _ (by have:=HP.out;subst this;rfl) HQC.out ⟨HQ.out.c,HQ.out.y,HQ.out.nx,(by show HeldG csB _ _ qq.gn [];rw [e];exact HeldG.nil _ _),HQ.out.gc,(fun y hy=>by cases hy),HQ.out.nn⟩ (by show qq.gn≤gn+1;omega) (by rw [e];exact Nw.nil _ _) (.t3e _ rfl HE.out HQ1.out) aD
    ·exact ClockPost.mk _ _ _ _ _ _ _ _ _ _ _ _ _ _ _ _ _ _ _ _ _ _ _ _ _ _ _ _ _ _ _ _ _ _ _ _ _ _ z2 _ (by have:=HP.out;subst this;rfl) HQC.out ⟨HQ.out.c,HQ.out.y,HQ.out.nx,(by show HeldG csB _ qq.ga qq.gn _;rw [e1,e2];exact held_fin aD (by simp [go_sem]) HR2.out),HQ.out.gc,HB2.out,HQ.out.nn⟩ (by have:=HN1.out;have:=HL2.out;show qq.gn≤gn+1;omega) (by rw [e1,e2];exact HW2.out) (.t3e _ rfl HE.out HQ1.out) aD)):P:=hP
end
section
theorem clock_4:ClkAt 4:=by
 intro x z lRe lHo lRs lSi lTr lR7 lR6 lR5 lIn v hv hg hr hx w h
 have H:=Lib.hid h
 have HG:=Lib.hid hg
 have HZ0:=Lib.hid h.held.1
 clear h hg
 subst hr
 obtain ⟨⟨cCh,cA,cB,cC,cD,cE,cH,cL,cfS,cfZ,cfK,cfAC,cfP,cfV,cfCY,cSP,cPC,cIE,cDe,cHa,cMa,cTr,cR7,cWT,cW7,cSa,cSI,cSO⟩,src,ga,gn,gc,⟨k,a,d,s⟩,nx,ho⟩:=x
 simp only [] at hx
 subst hx
 simp only []
 by_cases hs:s≤4
 ·have he:S.ends 4 s=true:=by simp [S.ends,hs]
  have HS:=Lib.hid hs
  clear hs
  exact ck4
 ·have he:S.ends 4 s=false:=by simp [S.ends];omega
  have HS:=Lib.hid hs
  clear hs
  exact ck4
end
section
theorem clock_3:ClkAt 3:=by
 intro x z lRe lHo lRs lSi lTr lR7 lR6 lR5 lIn v hv hg hr hx w h
 have H:=Lib.hid h
 have HG:=Lib.hid hg
 have HZ0:=Lib.hid h.held.1
 clear h hg
 subst hr
 obtain ⟨⟨cCh,cA,cB,cC,cD,cE,cH,cL,cfS,cfZ,cfK,cfAC,cfP,cfV,cfCY,cSP,cPC,cIE,cDe,cHa,cMa,cTr,cR7,cWT,cW7,cSa,cSI,cSO⟩,src,ga,gn,gc,⟨k,a,d,s⟩,nx,ho⟩:=x
 simp only [] at hx
 subst hx
 simp only []
 rcases he:S.ends 3 (S.cst3 cCh k d s 3 v) with _|_
 ·have HE:=Lib.hid (show ¬S.cst3 cCh k d s 3 v≤3 by simpa [S.ends] using he)
  exact ck3
 ·have HE:=Lib.hid (show S.cst3 cCh k d s 3 v≤3 by simpa [S.ends] using he)
  exact ck3
end
section
theorem clock_5:ClkAt 5:=by
 intro x z lRe lHo lRs lSi lTr lR7 lR6 lR5 lIn v hv hg hr hx w h
 have H:=Lib.hid h
 have HG:=Lib.hid hg
 have HZ0:=Lib.hid h.held.1
 clear h hg
 subst hr
 obtain ⟨⟨cCh,cA,cB,cC,cD,cE,cH,cL,cfS,cfZ,cfK,cfAC,cfP,cfV,cfCY,cSP,cPC,cIE,cDe,cHa,cMa,cTr,cR7,cWT,cW7,cSa,cSI,cSO⟩,src,ga,gn,gc,⟨k,a,d,s⟩,nx,ho⟩:=x
 simp only [] at hx
 subst hx
 simp only []
 by_cases hs:s≤5
 ·have he:S.ends 5 s=true:=by simp [S.ends,hs]
  have HS:=Lib.hid hs
  clear hs
  exact ck4
 ·have he:S.ends 5 s=false:=by simp [S.ends];omega
  have HS:=Lib.hid hs
  clear hs
  exact ck4
end
section
theorem clock_6:ClkAt 6:=by
 intro x z lRe lHo lRs lSi lTr lR7 lR6 lR5 lIn v hv hg hr hx w h
 have H:=Lib.hid h
 have HG:=Lib.hid hg
 have HZ0:=Lib.hid h.held.1
 clear h hg
 subst hr
 obtain ⟨⟨cCh,cA,cB,cC,cD,cE,cH,cL,cfS,cfZ,cfK,cfAC,cfP,cfV,cfCY,cSP,cPC,cIE,cDe,cHa,cMa,cTr,cR7,cWT,cW7,cSa,cSI,cSO⟩,src,ga,gn,gc,⟨k,a,d,s⟩,nx,ho⟩:=x
 simp only [] at hx
 subst hx
 simp only []
 have he:S.ends 6 s=true:=by simp [S.ends]
 exact ck4
end
end Go.Proofs.YteggjjhjmhccjaaGreatDoor
