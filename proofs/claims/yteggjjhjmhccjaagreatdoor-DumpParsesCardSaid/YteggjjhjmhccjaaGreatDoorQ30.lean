/- Texts that the proofs of the statements on dumps rest on, joined. Conditions stand in each theorem. -/
import Derived.Test.YteggjjhjmhccjaaGreatDoorQ28
import Derived.Deep.Cut
import Derived.Deep.CutRange
import Derived.Deep.RegionHeld3
set_option linter.unusedVariables false
set_option linter.unusedSimpArgs false
set_option maxRecDepth 100000
set_option maxHeartbeats 8000000
namespace Go.Proofs.YteggjjhjmhccjaaGreatDoor
open Go.ChangeShapes Go.WideShapes Go.ChangeAt Go.RowKit
section
theorem S.vec_bd {k:Int}:0≤S.vec k∧S.vec k < 65536:=by unfold S.vec;(repeat' split)<;>omega
theorem finish_int (c:S.Cp) (src:Int) (ga:Option Addr) (gn gc:Nat) (z:List Int) (lRe lHo lRs lSi lTr lR7 lR6 lR5 lIn:Bool) (hR:c.Ok) (hi:(decide (1≤src) && decide (src≤4))=true) (w:World):
 Calls Tryz.prog 116 #[.agg #[.int .i64 c.Ch,.int .u8 c.A,.int .u8 c.B,.int .u8 c.C,.int .u8 c.D,.int .u8 c.E,.int .u8 c.H,.int .u8 c.L,.bool c.fS,.bool c.fZ,.bool c.fK,.bool c.fAC,.bool c.fP,.bool c.fV,.bool c.fCY,.int .u16 c.SP,.int .u16 c.PC,.bool c.IE,.bool c.De,.bool c.Ha,.int .u8 c.Ma,.bool c.Tr,.bool c.R7,.bool c.WT,.bool c.W7,.bool c.Sa,.bool c.SI,.bool c.SO],.int .i64 src,.slice ga gn gc,.agg #[.bool lRe,.bool lHo,.bool lRs,.bool lSi,.bool lTr,.bool lR7,.bool lR6,.bool lR5,.bool lIn]] w (PostU c.Ch w):=by
 have HR:=Lib.hid hR
 have HI:=Lib.hid hi
 clear hR hi
 go_enter Tryz.func116,Tryz.ntmps116
 go_wp2_with (first|(go_at_call 117;refine sm (internal_is src true HI.out) ?_)|(go_at_call 142;refine ad (rvec_any) fun n1 os1=> ?_))
 refine bodyPost_ret (ret_CPU Tryz.results116 rfl rfl (by simp [go_sem])) rfl ?_
 simp [go_sem]
 exact PostU.mk _ _ _ _ _ _ _ _ _ _ _ _ _ _ _ _ _ _ _ _ _ _ _ _ _ _ _ _ rfl ⟨HR.out.1.a,HR.out.1.b,HR.out.1.c,HR.out.1.d,HR.out.1.e,HR.out.1.h,HR.out.1.l,w16_bd,S.vec_bd⟩ HR.out.2 aD
theorem finish_ext (c:S.Cp) (src:Int) (ga:Option Addr) (gn gc:Nat) (z:List Int) (lRe lHo lRs lSi lTr lR7 lR6 lR5 lIn:Bool) (hR:c.Ok) (hi:(decide (1≤src) && decide (src≤4))=false) (hgc:gn≤gc) (hz:∀y∈z,0≤y∧y < 256) (w:World) (hL:HeldB w ga gn z):
 Calls Tryz.prog 116 #[.agg #[.int .i64 c.Ch,.int .u8 c.A,.int .u8 c.B,.int .u8 c.C,.int .u8 c.D,.int .u8 c.E,.int .u8 c.H,.int .u8 c.L,.bool c.fS,.bool c.fZ,.bool c.fK,.bool c.fAC,.bool c.fP,.bool c.fV,.bool c.fCY,.int .u16 c.SP,.int .u16 c.PC,.bool c.IE,.bool c.De,.bool c.Ha,.int .u8 c.Ma,.bool c.Tr,.bool c.R7,.bool c.WT,.bool c.W7,.bool c.Sa,.bool c.SI,.bool c.SO],.int .i64 src,.slice ga gn gc,.agg #[.bool lRe,.bool lHo,.bool lRs,.bool lSi,.bool lTr,.bool lR7,.bool lR6,.bool lR5,.bool lIn]] w (PostU c.Ch w):=by
 have HR:=Lib.hid hR
 have HI:=Lib.hid hi
 obtain ⟨op,hop⟩:∃op,S.gb z 0=op:=⟨_,rfl⟩
 have HO:=Lib.hid (hop▸S.gb_bd hz 0:0≤op∧op < 256)
 have HOP:=Lib.hid hop
 obtain ⟨ji,hji⟩:∃ji,S.ins c.Ch op=ji:=⟨_,rfl⟩
 have HJ:=Lib.hid hji
 obtain ⟨jk,jl,jd,js,jp,jo,jc,jn⟩:=ji
 have HF:=Lib.hid (show ∀oc:Obj,MkRd (w.heap.size+1+1+1) c (src==5) ga gn gc z ((((w.alloc oc).alloc (.cells #[.bool lRe,.bool lHo,.bool lRs,.bool lSi,.bool lTr,.bool lR7,.bool lR6,.bool lR5,.bool lIn] 95)).alloc (.cells #[.int .i64 0,.int .u8 0,.int .u8 0,.int .u8 0,.int .u8 0,.int .u8 0,.int .u8 0,.int .u8 0,.bool false,.bool false,.bool false,.bool false,.bool false,.bool false,.bool false,.int .u16 0,.int .u16 0,.bool false,.bool false,.bool false,.int .u8 0,.bool false,.bool false,.bool false,.bool false,.bool false,.bool false,.bool false] 56)).alloc (.cells #[.int .i64 c.Ch,.int .u8 c.A,.int .u8 c.B,.int .u8 c.C,.int .u8 c.D,.int .u8 c.E,.int .u8 c.H,.int .u8 c.L,.bool c.fS,.bool c.fZ,.bool c.fK,.bool c.fAC,.bool c.fP,.bool c.fV,.bool c.fCY,.int .u16 c.SP,.int .u16 c.PC,.bool c.IE,.bool c.De,.bool c.Ha,.int .u8 c.Ma,.bool c.Tr,.bool c.R7,.bool c.WT,.bool c.W7,.bool c.Sa,.bool c.SI,.bool c.SO,.bool (src==5),.slice ga gn gc,.slice none 0 0] 222)) from fun oc=>⟨_,heap_lastE (by simp),hL.adds aD,hgc,hz⟩)
 clear hR hi hz hL hop hji
 go_enter Tryz.func116,Tryz.ntmps116
 go_upto_region 6 with (go_at_call 117;refine sm (internal_is src false HI.out) ?_)
 go_cut [10] from 34 to 38 (fun p10 wx=>∃(n1:Nat) (o1:Array Obj) (n2:Nat) (o2:Array Obj),p10=.pointer (some ⟨w.heap.size+1+1+1+1+o1.size,0,none⟩)∧wx=More ((More ((((w.alloc (.cells #[.int .i64 c.Ch,.int .u8 c.A,.int .u8 c.B,.int .u8 c.C,.int .u8 c.D,.int .u8 c.E,.int .u8 c.H,.int .u8 c.L,.bool c.fS,.bool c.fZ,.bool c.fK,.bool c.fAC,.bool c.fP,.bool c.fV,.bool c.fCY,.int .u16 c.SP,.int .u16 c.PC,.bool c.IE,.bool c.De,.bool c.Ha,.int .u8 c.Ma,.bool c.Tr,.bool c.R7,.bool c.WT,.bool c.W7,.bool c.Sa,.bool c.SI,.bool c.SO] 56)).alloc (.cells #[.bool lRe,.bool lHo,.bool lRs,.bool lSi,.bool lTr,.bool lR7,.bool lR6,.bool lR5,.bool lIn] 95)).alloc (.cells #[.int .i64 0,.int .u8 0,.int .u8 0,.int .u8 0,.int .u8 0,.int .u8 0,.int .u8 0,.int .u8 0,.bool false,.bool false,.bool false,.bool false,.bool false,.bool false,.bool false,.int .u16 0,.int .u16 0,.bool false,.bool false,.bool false,.int .u8 0,.bool false,.bool false,.bool false,.bool false,.bool false,.bool false,.bool false] 56)).alloc (.cells #[.int .i64 c.Ch,.int .u8 c.A,.int .u8 c.B,.int .u8 c.C,.int .u8 c.D,.int .u8 c.E,.int .u8 c.H,.int .u8 c.L,.bool c.fS,.bool c.fZ,.bool c.fK,.bool c.fAC,.bool c.fP,.bool c.fV,.bool c.fCY,.int .u16 c.SP,.int .u16 c.PC,.bool c.IE,.bool c.De,.bool c.Ha,.int .u8 c.Ma,.bool c.Tr,.bool c.R7,.bool c.WT,.bool c.W7,.bool c.Sa,.bool c.SI,.bool c.SO,.bool (src==5),.slice ga gn gc,.slice none 0 0] 222)) n1 o1).alloc (.cells #[.int .i64 jk,.int .i64 jl,.int .i64 jd,.int .i64 js,.int .i64 jp,.int .i64 jo,.int .i64 jc,.int .i64 jn] 200)) n2 o2)
 case first=>
  go_region_held3 (fun w'=>w'.cell? ⟨w.heap.size,0,none⟩=some (.int .i64 c.Ch)) (simp [go_sem]) (first
   |(go_at_call 143;refine sm (rd_at (w.heap.size+1+1+1) c (src==5) ga gn gc z (by omega) _ ((HF.out _).keeps aD)) ?_;rw [HOP.out])
   |(go_at_call 113;refine ad (dec9_is HO.out.1 (by have:=HO.out.2;omega) HJ.out) fun n1 os1=> ?_;simp only [S.Ins.cs]))
  all_goals
   go_wp2_with fail
   go_meet
   first
    |exact ⟨_,_,_,#[],rfl,(More_zero _).symm⟩
    |exact ⟨_,#[],_,_,rfl,congrArg (fun W=>More (World.alloc W _) _ _) (More_zero _).symm⟩
 case rest=>
  have HJK:=Lib.hid (HJ.out▸S.ins_ok c.Ch op HO.out.1 (by have:=HO.out.2;omega):S.Ins.Ok ⟨jk,jl,jd,js,jp,jo,jc,jn⟩)
  clear HJ HOP
  obtain ⟨n1,o1,n2,o2,rfl,rfl⟩:=hcut
  go_wp2_with (first|(go_at_call 144;refine (jumped_any (w.heap.size+1+1+1) c (src==5) ga gn gc z jk jl jd js jp jo jc jn HR.out ((HF.out _).keeps aD)).mono ?_;rintro e w' ⟨⟨uCh,uA,uB,uC,uD,uE,uH,uL,ufS,ufZ,ufK,ufAC,ufP,ufV,ufCY,uSP,uPC,uIE,uDe,uHa,uMa,uTr,uR7,uWT,uW7,uSa,uSI,uSO⟩,rfl,hch,hok,⟨⟨nu,osu⟩,rfl⟩⟩;have hch':uCh=c.Ch:=hch;clear hch;subst hch';have HU:=Lib.hid hok;clear hok;simp only [S.Cp.cs])|(go_at_call 145;refine (loaded_any (w.heap.size+1+1+1) c (src==5) ga gn gc z jk jl jd js jp jo jc jn HR.out.1 ((HF.out _).keeps aD)).mono ?_;rintro e w' ⟨qA,qB,qC,qD,qE,qH,qL,qS,qZ,qK,qAC,qP,qV,qCY,qSP,qPC,m,rfl,hq,⟨⟨nl,osl⟩,rfl⟩⟩;have HL:=Lib.hid hq;clear hq)|(go_at_call 146;refine (computed_any (w.heap.size+1+1+1) c (src==5) ga gn gc z jk jl jd js jp jo jc jn HR.out.1 ((HF.out _).keeps aD)).mono ?_;rintro e w' ⟨tA,tB,tC,tD,tE,tH,tL,tS,tZ,tK,tAC,tP,tV,tCY,tSP,tPC,hq,rfl,⟨⟨nc,osc⟩,rfl⟩⟩;have HC:=Lib.hid hq;clear hq)|(go_at_call 147;refine sm (rd_behind (w.heap.size+1+1+1) c (src==5) ga gn gc z ((HF.out _).keeps aD)) ?_)|(go_at_call 148;refine (wk_pair _ (by first|exact HC.out|exact HL.out|exact ⟨HC.out.a,HC.out.b,HC.out.c,HC.out.d,HC.out.e,HC.out.h,HC.out.l,HC.out.sp,S.bh_bd HR.out.1.pc⟩|exact ⟨HL.out.a,HL.out.b,HL.out.c,HL.out.d,HL.out.e,HL.out.h,HL.out.l,HL.out.sp,S.bh_bd HR.out.1.pc⟩)).mono ?_;rintro e w' ⟨vp,hvp,rfl,⟨⟨np,osp⟩,rfl⟩⟩)|(go_at_call 149;refine ad (rrim_any HR.out.2.1 HR.out.2.2) fun nr osr=> ?_;have hrim:=Lib.hid (S.rim_bd lSi c.R7 lR6 lR5 (S.pick c.Sa c.SI c.IE) c.Ma))|(go_at_call 150;refine ad (rsim_any (by first|exact HC.out.a.1|exact HL.out.a.1) (by first|exact HC.out.a.2|exact HL.out.a.2)) fun ns oss=> ?_))
  all_goals go_region
  all_goals go_wp2_with fail
  all_goals
   refine bodyPost_ret (ret_CPU Tryz.results116 rfl rfl (by simp [go_sem])) rfl ?_
   simp [go_sem]
   exact PostU.mk _ _ _ _ _ _ _ _ _ _ _ _ _ _ _ _ _ _ _ _ _ _ _ _ _ _ _ _ rfl ⟨(by first|exact HU.out.1.a|exact HC.out.a|exact HL.out.a|exact HR.out.1.a|exact hrim.out|assumption|exact S.bh_bd HR.out.1.pc|exact w16_bd|(simp;done)),(by first|exact HU.out.1.b|exact HC.out.b|exact HL.out.b|exact HR.out.1.b|exact hrim.out|assumption|exact S.bh_bd HR.out.1.pc|exact w16_bd|(simp;done)),(by first|exact HU.out.1.c|exact HC.out.c|exact HL.out.c|exact HR.out.1.c|exact hrim.out|assumption|exact S.bh_bd HR.out.1.pc|exact w16_bd|(simp;done)),(by first|exact HU.out.1.d|exact HC.out.d|exact HL.out.d|exact HR.out.1.d|exact hrim.out|assumption|exact S.bh_bd HR.out.1.pc|exact w16_bd|(simp;done)),(by first|exact HU.out.1.e|exact HC.out.e|exact HL.out.e|exact HR.out.1.e|exact hrim.out|assumption|exact S.bh_bd HR.out.1.pc|exact w16_bd|(simp;done)),(by first|exact HU.out.1.h|exact HC.out.h|exact HL.out.h|exact HR.out.1.h|exact hrim.out|assumption|exact S.bh_bd HR.out.1.pc|exact w16_bd|(simp;done)),(by first|exact HU.out.1.l|exact HC.out.l|exact HL.out.l|exact HR.out.1.l|exact hrim.out|assumption|exact S.bh_bd HR.out.1.pc|exact w16_bd|(simp;done)),(by first|exact HU.out.1.sp|exact HC.out.sp|exact HL.out.sp|exact HR.out.1.sp|exact hrim.out|assumption|exact S.bh_bd HR.out.1.pc|exact w16_bd|(simp;done)),(by first|exact HU.out.1.pc|exact HC.out.pc|exact HL.out.pc|exact HR.out.1.pc|exact hrim.out|assumption|exact S.bh_bd HR.out.1.pc|exact w16_bd|(simp;done))⟩ (by first|exact HU.out.2|exact HR.out.2|(unfold S.pickN;have:=HR.out.2;split<;>omega)) aD
theorem finish_any (c:S.Cp) (src:Int) (ga:Option Addr) (gn gc:Nat) (z:List Int) (lRe lHo lRs lSi lTr lR7 lR6 lR5 lIn:Bool) (hR:c.Ok) (hgc:gn≤gc) (hz:∀y∈z,0≤y∧y < 256) (w:World) (hL:HeldB w ga gn z):
 Calls Tryz.prog 116 #[.agg #[.int .i64 c.Ch,.int .u8 c.A,.int .u8 c.B,.int .u8 c.C,.int .u8 c.D,.int .u8 c.E,.int .u8 c.H,.int .u8 c.L,.bool c.fS,.bool c.fZ,.bool c.fK,.bool c.fAC,.bool c.fP,.bool c.fV,.bool c.fCY,.int .u16 c.SP,.int .u16 c.PC,.bool c.IE,.bool c.De,.bool c.Ha,.int .u8 c.Ma,.bool c.Tr,.bool c.R7,.bool c.WT,.bool c.W7,.bool c.Sa,.bool c.SI,.bool c.SO],.int .i64 src,.slice ga gn gc,.agg #[.bool lRe,.bool lHo,.bool lRs,.bool lSi,.bool lTr,.bool lR7,.bool lR6,.bool lR5,.bool lIn]] w (PostU c.Ch w):=by
 rcases hi:(decide (1≤src) && decide (src≤4)) with _|_
 ·exact finish_ext c src ga gn gc z lRe lHo lRs lSi lTr lR7 lR6 lR5 lIn hR hi hgc hz w hL
 ·exact finish_int c src ga gn gc z lRe lHo lRs lSi lTr lR7 lR6 lR5 lIn hR hi w
end
end Go.Proofs.YteggjjhjmhccjaaGreatDoor
