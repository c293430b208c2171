/- Texts that the proofs of the statements on dumps rest on, joined. Conditions stand in each theorem. -/
import Derived.Test.YteggjjhjmhccjaaGreatDoorQ36
import Derived.Deep.RegionLaw
set_option linter.unusedVariables false
set_option linter.unusedSimpArgs false
set_option maxRecDepth 100000
set_option maxHeartbeats 8000000
namespace Go.Proofs.YteggjjhjmhccjaaGreatDoor
open Go.ChangeShapes Go.WideShapes Go.ChangeAt Go.RowKit
section
variable {W w w1 w2:World} {bs cs ys:Array Value} {h:Nat}
theorem dmA_bd (r a v:Int) (a0:0≤a∧a < 65536) (v0:0≤v∧v < 256):0≤S.dmA r a v∧S.dmA r a v < 65536:=by
 unfold S.dmA
 repeat' split
 ·exact S.joi_bd (by omega) (by omega) (by omega) (by omega)
 ·exact S.joi_bd (by omega) (by omega) (by omega) (by omega)
 ·exact a0
theorem dmV_bd (r a v:Int) (a0:0≤a∧a < 256) (v0:0≤v∧v < 256):0≤S.dmV r a v∧S.dmV r a v < 256:=by
 unfold S.dmV;split<;>assumption
theorem dmL_bd {r a v:Int} (a0:0≤a∧a < 256) (v0:0≤v∧v < 256):0≤S.dmL r a v∧S.dmL r a v < 256:=by
 unfold S.dmL;split<;>assumption
structure StRows (w:World) (h:Nat) (bs cs ys:Array Value) (w':World):Prop where
 a:Adds w w'
 r3:rowOf w' h=bs
 r4:rowOf w' (h+1)=cs
 r5:rowOf w' (h+1+1)=ys
 r6:(rowOf w' (h+1+1+1)).size=62
theorem StRows.adds (H:StRows w h bs cs ys w1) (k:Adds w1 w2) (hb:bs.size=7) (hc:cs.size=62) (hy:ys.size=4):StRows w h bs cs ys w2:=
 ⟨H.a.trans k,(k.row (row_lt H.r3 (by omega))).trans H.r3,(k.row (row_lt H.r4 (by omega))).trans H.r4,(k.row (row_lt H.r5 (by omega))).trans H.r5,by rw [k.row (row_lt rfl (by rw [H.r6];omega))];exact H.r6⟩
theorem StRows.hs (H:StRows w h bs cs ys w1):h+4≤w1.heap.size:=row_lt (c:=rowOf w1 (h+1+1+1)) rfl (by rw [H.r6];omega)
theorem StRows.grown {row:Option Nat} (H:StRows w h bs cs ys w1) (hg:w1.grownBy w2 row) (hr:∀g,row=some g→h+4≤g) (hw:w.heap.size≤h+4) (hb:bs.size=7) (hc:cs.size=62) (hy:ys.size=4):StRows w h bs cs ys w2:=by
 have k:∀i,i < h+4→∀c,rowOf w1 i=c→0 < c.size→rowOf w2 i=c:=fun i hi c e hc=>grown_row hg e hc (fun e'=>by have:=hr i e';omega)
 exact ⟨Adds.of_below (H.a.below.grown hg H.a.size fun j hj=>by have:=hr j hj;omega),k _ (by omega) _ H.r3 (by omega),k _ (by omega) _ H.r4 (by omega),k _ (by omega) _ H.r5 (by omega),by rw [k _ (by omega) _ rfl (by rw [H.r6];omega)];exact H.r6⟩
theorem PostSto.out {L:Nat} {x:S.Sy} {z:List Int} {m:List K12.Cl} {os:List S.Ou} {w3:World} {T:Nat→Prop} {B:Nat} (h:SyOk L x z m os w) (hA:Adds w w3) (hT:Tch T w3 W) (hS:∀b,T b→w.heap.size≤b∧b < B) (hB:w.heap.size≤B) (qSt:Int) (qLe qFo qSi qFt:Bool) (qLw qHg:Int) (qAu qRo qSp qRI qPo:Bool) (qLi qEd qIS qIM qLo qSq qSv:Int) (qSu:Bool) (da dv dl:Int) {a2:Option Addr} {n2 k2:Nat} {os2:List S.Ou} (hH:HeldO w3 a2 n2 os2) (hW:Nw B a2 n2) (hn:n2=x.on+1) (hk:n2≤k2∧k2≤9223372036854775807) (hz:a2=none→k2=0) (hp:Okq ⟨qSt,qLe,qFo,qSi,qFt,qLw,qHg,qAu,qRo,qSp,qRI,qPo,qLi,qEd,qIS,qIM,qLo,qSq,qSv,qSu⟩) (h1:0≤da∧da < 65536) (h2:0≤dv∧dv < 256) (h3:0≤dl∧dl < 256):
 PostSto L x z w (.returned (.agg (List.toArray (.int .i64 x.k.c.Ch:: .int .u8 x.k.c.A:: .int .u8 x.k.c.B:: .int .u8 x.k.c.C:: .int .u8 x.k.c.D:: .int .u8 x.k.c.E:: .int .u8 x.k.c.H:: .int .u8 x.k.c.L:: .bool x.k.c.fS:: .bool x.k.c.fZ:: .bool x.k.c.fK:: .bool x.k.c.fAC:: .bool x.k.c.fP:: .bool x.k.c.fV:: .bool x.k.c.fCY:: .int .u16 x.k.c.SP:: .int .u16 x.k.c.PC:: .bool x.k.c.IE:: .bool x.k.c.De:: .bool x.k.c.Ha:: .int .u8 x.k.c.Ma:: .bool x.k.c.Tr:: .bool x.k.c.R7:: .bool x.k.c.WT:: .bool x.k.c.W7:: .bool x.k.c.Sa:: .bool x.k.c.SI:: .bool x.k.c.SO:: .int .i64 x.k.src:: .slice x.k.ga x.k.gn x.k.gc:: .int .i64 x.k.y.k:: .int .u16 x.k.y.a:: .int .u8 x.k.y.d:: .int .i64 x.k.y.s:: .int .i64 x.k.nx:: .bool x.k.ho:: .slice x.ma x.mn x.mc:: .int .i64 qSt:: .bool qLe:: .bool qFo:: .bool qSi:: .bool qFt:: .int .u8 qLw:: .int .u8 qHg:: .bool qAu:: .bool qRo:: .bool qSp:: .bool qRI:: .bool qPo:: .int .u8 qLi:: .int .u8 qEd:: .int .u8 qIS:: .int .u8 qIM:: .int .i64 qLo:: .int .i64 qSq:: .int .i64 qSv:: .bool qSu:: .int .u16 da:: .int .u8 dv:: .int .i64 dl:: .int .i64 x.wt:: .slice a2 n2 k2::[])))) W:=by
 have hAW:Adds w W:=hT.adds hA (fun b _ e=>(hS b e).1)
 have h':=h.adds hAW
 have ho:=h.ol
 exact PostSto.mk x.ma x.mn x.mc qSt qLe qFo qSi qFt qLw qHg qAu qRo qSp qRI qPo qLi qEd qIS qIM qLo qSq qSv qSu da dv dl a2 n2 k2 m os2 ⟨h'.k,Nat.le_succ_of_le h'.gl,h'.mh,h'.mc,Nat.le_succ_of_le h'.ml,h'.mb,hp,h1,h2,h3,hH.tch hT (Off.of_nw hW (fun b e=>(hS b e).2)),hk,(show n2≤L+1 by omega),hz⟩ (Sm2.refl _ _ _) (.inr (hW.mono hB)) hAW
theorem exit_forget {K:Act→World→Prop} {Q:Exit→Act→World→Prop} {a:Act} (R:World→Prop) (hR:R W) (h:∀ww,R ww→Exit.then K Q .normal a ww):Exit.then K Q .normal a W:=h W hR
theorem store_out (L:Nat) (b:S.Bd) (x:S.Sy) (ya yd ys:Int) (l:List K12.Rg) (z:List Int) (m:List K12.Cl) (os:List S.Ou) (w:World) (hB:BdOk b l w) (hS:SyOk L x z m os w) (hL:L≤900000) (hd:0≤yd∧yd < 256):Calls Tryz.prog 68 #[.agg #[.int .i64 b.ch,.slice b.ra b.rn b.rc,.int .i64 b.iw,.int .u8 b.pp,.int .u8 b.dp,.bool b.jm,.slice b.ia b.ni b.ic],.agg (List.toArray (.int .i64 x.k.c.Ch:: .int .u8 x.k.c.A:: .int .u8 x.k.c.B:: .int .u8 x.k.c.C:: .int .u8 x.k.c.D:: .int .u8 x.k.c.E:: .int .u8 x.k.c.H:: .int .u8 x.k.c.L:: .bool x.k.c.fS:: .bool x.k.c.fZ:: .bool x.k.c.fK:: .bool x.k.c.fAC:: .bool x.k.c.fP:: .bool x.k.c.fV:: .bool x.k.c.fCY:: .int .u16 x.k.c.SP:: .int .u16 x.k.c.PC:: .bool x.k.c.IE:: .bool x.k.c.De:: .bool x.k.c.Ha:: .int .u8 x.k.c.Ma:: .bool x.k.c.Tr:: .bool x.k.c.R7:: .bool x.k.c.WT:: .bool x.k.c.W7:: .bool x.k.c.Sa:: .bool x.k.c.SI:: .bool x.k.c.SO:: .int .i64 x.k.src:: .slice x.k.ga x.k.gn x.k.gc:: .int .i64 x.k.y.k:: .int .u16 x.k.y.a:: .int .u8 x.k.y.d:: .int .i64 x.k.y.s:: .int .i64 x.k.nx:: .bool x.k.ho:: .slice x.ma x.mn x.mc:: .int .i64 x.p.St:: .bool x.p.Le:: .bool x.p.Fo:: .bool x.p.Si:: .bool x.p.Ft:: .int .u8 x.p.Lw:: .int .u8 x.p.Hg:: .bool x.p.Au:: .bool x.p.Ro:: .bool x.p.Sp:: .bool x.p.RI:: .bool x.p.Po:: .int .u8 x.p.Li:: .int .u8 x.p.Ed:: .int .u8 x.p.IS:: .int .u8 x.p.IM:: .int .i64 x.p.Lo:: .int .i64 x.p.Sq:: .int .i64 x.p.Sv:: .bool x.p.Su:: .int .u16 x.da:: .int .u8 x.dv:: .int .i64 x.dl:: .int .i64 x.wt:: .slice x.oa x.on x.oc::[])),.agg #[.int .i64 7,.int .u16 ya,.int .u8 yd,.int .i64 ys]] w (PostSto L x z w):=by
 have HB:=Lib.hid hB
 have HS:=Lib.hid hS
 have HL:=Lib.hid hL
 clear hB hS hL
 go_enter Tryz.func68,Tryz.ntmps68
 go_wp2_with fail
 refine wp_forget (StRows w w.heap.size #[.int .i64 b.ch,.slice b.ra b.rn b.rc,.int .i64 b.iw,.int .u8 b.pp,.int .u8 b.dp,.bool b.jm,.slice b.ia b.ni b.ic] (List.toArray (.int .i64 x.k.c.Ch:: .int .u8 x.k.c.A:: .int .u8 x.k.c.B:: .int .u8 x.k.c.C:: .int .u8 x.k.c.D:: .int .u8 x.k.c.E:: .int .u8 x.k.c.H:: .int .u8 x.k.c.L:: .bool x.k.c.fS:: .bool x.k.c.fZ:: .bool x.k.c.fK:: .bool x.k.c.fAC:: .bool x.k.c.fP:: .bool x.k.c.fV:: .bool x.k.c.fCY:: .int .u16 x.k.c.SP:: .int .u16 x.k.c.PC:: .bool x.k.c.IE:: .bool x.k.c.De:: .bool x.k.c.Ha:: .int .u8 x.k.c.Ma:: .bool x.k.c.Tr:: .bool x.k.c.R7:: .bool x.k.c.WT:: .bool x.k.c.W7:: .bool x.k.c.Sa:: .bool x.k.c.SI:: .bool x.k.c.SO:: .int .i64 x.k.src:: .slice x.k.ga x.k.gn x.k.gc:: .int .i64 x.k.y.k:: .int .u16 x.k.y.a:: .int .u8 x.k.y.d:: .int .i64 x.k.y.s:: .int .i64 x.k.nx:: .bool x.k.ho:: .slice x.ma x.mn x.mc:: .int .i64 x.p.St:: .bool x.p.Le:: .bool x.p.Fo:: .bool x.p.Si:: .bool x.p.Ft:: .int .u8 x.p.Lw:: .int .u8 x.p.Hg:: .bool x.p.Au:: .bool x.p.Ro:: .bool x.p.Sp:: .bool x.p.RI:: .bool x.p.Po:: .int .u8 x.p.Li:: .int .u8 x.p.Ed:: .int .u8 x.p.IS:: .int .u8 x.p.IM:: .int .i64 x.p.Lo:: .int .i64 x.p.Sq:: .int .i64 x.p.Sv:: .bool x.p.Su:: .int .u16 x.da:: .int .u8 x.dv:: .int .i64 x.dl:: .int .i64 x.wt:: .slice x.oa x.on x.oc::[])) #[.int .i64 7,.int .u16 ya,.int .u8 yd,.int .i64 ys]) ⟨aD,by simp [go_sem],by simp [go_sem],by simp [go_sem],by simp [go_sem]⟩ ?_
 intro ww hR
 have HR:=Lib.hid hR
 have c59:=rowOf_cell (i:=61) (v:=.slice x.oa x.on x.oc) hR.r4 rfl
 have c2:=rowOf_cell (i:=2) (v:=.int .u8 yd) hR.r5 rfl
 have b4:=row_lt hR.r4 (by simp)
 have b5:=row_lt hR.r5 (by simp)
 clear hR
 have hs0:=HR.out.hs
 go_region_law (first
  |((refine step_appOH rfl _ _ (by rfl) ww.heap.size (.slice none 0 0) [] (by rfl) (OwnsG.nil _ _) x.oa x.on x.oc os (by rfl) (HS.out.o.adds (HR.out.a.trans aD)) HS.out.oc.1 HS.out.oz (by have:=HS.out.ol;have:=HS.out.o.1;have:=HL.out;simp;omega) (Adds.size aD) ?_;intro v1 w1 hO1 hG1 hW1;have HR1:=Lib.hid ((HR.out.adds (show Adds ww _ from aD) rfl rfl rfl).grown hG1 (fun g e=>by simp [Value.ownBlock] at e) (by omega) rfl rfl rfl);have c611:=rowOf_cell (i:=61) (v:=.slice x.oa x.on x.oc) HR1.out.r4 rfl;have c21:=rowOf_cell (i:=2) (v:=.int .u8 yd) HR1.out.r5 rfl;have f611:=row_frozen HR1.out.r4 (by simp) 61;have hs1:=HR1.out.hs;have g1:ww.heap.size≤w1.heap.size:=Nat.le_trans (Adds.size (show Adds ww _ from aD)) hG1.size;have HO1:=Lib.hid hO1;have HG1:=Lib.hid hG1;clear hO1 hG1 hW1))
  |((refine step_appOH rfl _ _ (by rfl) ww.heap.size v1 _ (by rfl) (HO1.out.alloc _) (some ⟨w1.heap.size,0,none⟩) 1 1 [(⟨ya % 256,yd⟩:S.Ou)] (by rfl) (held_new w1 _ _ rfl _ rfl _) (by omega) (by simp) (by have:=HS.out.ol;have:=HS.out.o.1;have:=HL.out;simp;omega) (Nat.le_trans (by omega) (Adds.size (show Adds w1 _ from aD))) ?_;intro v2 w2 hO2 hG2 hW2;have HR2:=Lib.hid ((HR1.out.adds (show Adds w1 _ from aD) rfl rfl rfl).grown hG2 (fun g e=>by have:=HO1.out.lt2 e;omega) (by omega) rfl rfl rfl);have c612:=rowOf_cell (i:=61) (v:=.slice x.oa x.on x.oc) HR2.out.r4 rfl;have c22:=rowOf_cell (i:=2) (v:=.int .u8 yd) HR2.out.r5 rfl;have f612:=row_frozen HR2.out.r4 (by simp) 61;have hs2:=HR2.out.hs;obtain ⟨a2,n2,k2,rfl,hn2,hc1,hc2,hc3,hc4⟩:=hO2.form2;have HO2:=Lib.hid hO2;have HN2:=Lib.hid hn2.out;have HC2:=Lib.hid (And.intro hc1 hc2);have HZ2:=Lib.hid (show a2=none→k2=0 from fun e=>(hc4 e).2);clear hO2 hG2 hW2 hn2 hc1 hc2 hc3 hc4))
  |((refine step_appOH rfl _ _ (by rfl) ww.heap.size v1 _ (by rfl) HO1.out (some ⟨ww.heap.size,0,none⟩) 1 1 [(⟨ya % 256,yd⟩:S.Ou)] (by rfl) (held_at (cs:=csO) _ (c:=#[.int .u8 (ya % 256),.int .u8 yd]) rfl (grown_row HG1.out (by simp [go_sem]) (by simp) (by simp [Value.ownBlock])) (by simp)) (by omega) (by simp) (by have:=HS.out.ol;have:=HS.out.o.1;have:=HL.out;simp;omega) (by omega) ?_;intro v2 w2 hO2 hG2 hW2;have HR2:=Lib.hid ((HR1.out).grown hG2 (fun g e=>by have:=HO1.out.lt2 e;omega) (by omega) rfl rfl rfl);have c612:=rowOf_cell (i:=61) (v:=.slice x.oa x.on x.oc) HR2.out.r4 rfl;have c22:=rowOf_cell (i:=2) (v:=.int .u8 yd) HR2.out.r5 rfl;have f612:=row_frozen HR2.out.r4 (by simp) 61;have hs2:=HR2.out.hs;obtain ⟨a2,n2,k2,rfl,hn2,hc1,hc2,hc3,hc4⟩:=hO2.form2;have HO2:=Lib.hid hO2;have HN2:=Lib.hid hn2.out;have HC2:=Lib.hid (And.intro hc1 hc2);have HZ2:=Lib.hid (show a2=none→k2=0 from fun e=>(hc4 e).2);clear hO2 hG2 hW2 hn2 hc1 hc2 hc3 hc4))
  |fail)
 all_goals
  have hT:=Tch.setCell (S:=fun k=>k=w.heap.size+1) (Tch.refl _ w2) (w.heap.size+1) 61 (.slice a2 n2 k2) (fun _=>rfl)
  refine exit_forget (fun w3=>StRows w w.heap.size #[.int .i64 b.ch,.slice b.ra b.rn b.rc,.int .i64 b.iw,.int .u8 b.pp,.int .u8 b.dp,.bool b.jm,.slice b.ia b.ni b.ic] (List.toArray (.int .i64 x.k.c.Ch:: .int .u8 x.k.c.A:: .int .u8 x.k.c.B:: .int .u8 x.k.c.C:: .int .u8 x.k.c.D:: .int .u8 x.k.c.E:: .int .u8 x.k.c.H:: .int .u8 x.k.c.L:: .bool x.k.c.fS:: .bool x.k.c.fZ:: .bool x.k.c.fK:: .bool x.k.c.fAC:: .bool x.k.c.fP:: .bool x.k.c.fV:: .bool x.k.c.fCY:: .int .u16 x.k.c.SP:: .int .u16 x.k.c.PC:: .bool x.k.c.IE:: .bool x.k.c.De:: .bool x.k.c.Ha:: .int .u8 x.k.c.Ma:: .bool x.k.c.Tr:: .bool x.k.c.R7:: .bool x.k.c.WT:: .bool x.k.c.W7:: .bool x.k.c.Sa:: .bool x.k.c.SI:: .bool x.k.c.SO:: .int .i64 x.k.src:: .slice x.k.ga x.k.gn x.k.gc:: .int .i64 x.k.y.k:: .int .u16 x.k.y.a:: .int .u8 x.k.y.d:: .int .i64 x.k.y.s:: .int .i64 x.k.nx:: .bool x.k.ho:: .slice x.ma x.mn x.mc:: .int .i64 x.p.St:: .bool x.p.Le:: .bool x.p.Fo:: .bool x.p.Si:: .bool x.p.Ft:: .int .u8 x.p.Lw:: .int .u8 x.p.Hg:: .bool x.p.Au:: .bool x.p.Ro:: .bool x.p.Sp:: .bool x.p.RI:: .bool x.p.Po:: .int .u8 x.p.Li:: .int .u8 x.p.Ed:: .int .u8 x.p.IS:: .int .u8 x.p.IM:: .int .i64 x.p.Lo:: .int .i64 x.p.Sq:: .int .i64 x.p.Sv:: .bool x.p.Su:: .int .u16 x.da:: .int .u8 x.dv:: .int .i64 x.dl:: .int .i64 x.wt:: .slice a2 n2 k2::[])) #[.int .i64 7,.int .u16 ya,.int .u8 yd,.int .i64 ys] w3∧HeldO w3 a2 n2 (([]++os)++[⟨ya % 256,yd⟩])) ⟨⟨hT.adds HR2.out.a (fun b _ e=>by omega),(hT.row (row_lt HR2.out.r3 (by simp)) (by omega)).trans HR2.out.r3,(by rw [rowOf_setCell_same _ _ _ _ (by rw [HR2.out.r4];simp),HR2.out.r4];rfl),(hT.row (row_lt HR2.out.r5 (by simp)) (by omega)).trans HR2.out.r5,(by rw [hT.row (by omega) (by omega)];exact HR2.out.r6)⟩,(HO2.out.tch hT (fun g e h=>by have:=HO2.out.lt2 e;omega)).held (by have:=HS.out.ol;have:=HS.out.o.1;have:=HL.out;simp;omega)⟩ ?_
  rintro w3 ⟨hR3,hH3⟩
  have HR3:=Lib.hid hR3
  have HH3:=Lib.hid hH3
  have r3:=hR3.r3
  have r4:=hR3.r4
  have r5:=hR3.r5
  have r6:=hR3.r6
  have hs3:=hR3.hs
  have p3:=row_lt r3 (by simp)
  have p4:=row_lt r4 (by simp)
  have p5:=row_lt r5 (by simp)
  have p6:w.heap.size+1+1+1 < w3.heap.size:=by omega
  have n4:=HN2.out
  have n5:=HS.out.o.1
  simp only [List.length_append,List.length_nil,List.length_singleton] at n4
  have HN3:=Lib.hid (show n2=x.on+1 by omega)
  have HW3:=Lib.hid HO2.out.nw
  have HB3:=Lib.hid hs0
  have r64:∀c,(rowOf (w3.setRow (w.heap.size+1) c) (w.heap.size+1+1+1)).size=62:=fun c=>by rw [rowOf_setRow_other _ _ _ _ (by omega)];exact r6
  have c3:=rowOf_cell (i:=2) (v:=.int .u8 yd) r5 rfl
  clear hT hR3 hH3 n4 n5 hs0 hs1 hs2 g1 c59 c2 c611 c21 f611 c612 c22 f612
  go_wp2_with (first
   |(go_at_call 94;refine (ispic_any b).mono ?_;rintro e w' ⟨b1,b2,rfl,⟨⟨n3,os3⟩,rfl⟩⟩)
   |(go_at_call 95;refine (isdma_any b).mono ?_;rintro e w' ⟨i1,b3,rfl,⟨⟨n4,os4⟩,rfl⟩⟩)
   |(go_at_call 109;refine ad (K22.rwrite_any x.p hd.1 hd.2 HS.out.p.1.1.1 HS.out.p.1.1.2) fun n8 os8=> ?_;have HQ:=Lib.hid (HS.out.p.wr b1 hd);generalize K22.S.wr x.p b1 yd=pp at HQ⊢;simp only [K22.S.Pc.cs])
   |(go_at_call 110;refine ad (dma_rwr HS.out.da.1 HS.out.da.2 hd.1 hd.2) fun n9 os9=> ?_)
   |fail)
  all_goals
   refine bodyPost_ret (ret_System Tryz.results68 rfl rfl (by simp [go_sem, *])) rfl ?_
   simp [go_sem, *]
   have hT4:=fun c d=>Tch.setRow (S:=fun k=>k=w.heap.size+1∨k=w.heap.size+1+1+1) (Tch.setRow (Tch.refl _ w3) (w.heap.size+1) c (fun _=> .inl rfl)) (w.heap.size+1+1+1) d (fun _=> .inr rfl)
   have hT6:=fun d=>Tch.setRow (S:=fun k=>k=w.heap.size+1∨k=w.heap.size+1+1+1) (Tch.refl _ w3) (w.heap.size+1+1+1) d (fun _=> .inr rfl)
   refine PostSto.out HS.out HR3.out.a (B:=ww.heap.size) (T:=fun k=>k=w.heap.size+1∨k=w.heap.size+1+1+1) (by repeat (first|exact hT4 _ _|exact hT6 _|refine Tch.more ?_ _ _)) (fun b e=>by have:=HB3.out;omega) (by have:=HB3.out;omega) _ _ _ _ _ _ _ _ _ _ _ _ _ _ _ _ _ _ _ _ _ _ _ HH3.out HW3.out HN3.out HC2.out HZ2.out ?_ ?_ ?_ ?_
   ·first|exact HS.out.p|exact HQ.out
   ·first|exact HS.out.da|exact dmA_bd _ _ _ HS.out.da hd
   ·first|exact HS.out.dv|exact dmV_bd _ _ _ HS.out.dv hd
   ·first|exact HS.out.dl|exact dmL_bd HS.out.dl hd
theorem store_any (L:Nat) (b:S.Bd) (x:S.Sy) {yk ya yd ys:Int} (l:List K12.Rg) (z:List Int) (m:List K12.Cl) (os:List S.Ou) (hB:BdOk b l w) (hS:SyOk L x z m os w) (hL:L≤900000) (hd:0≤yd∧yd < 256):Calls Tryz.prog 68 #[.agg #[.int .i64 b.ch,.slice b.ra b.rn b.rc,.int .i64 b.iw,.int .u8 b.pp,.int .u8 b.dp,.bool b.jm,.slice b.ia b.ni b.ic],.agg (List.toArray (.int .i64 x.k.c.Ch:: .int .u8 x.k.c.A:: .int .u8 x.k.c.B:: .int .u8 x.k.c.C:: .int .u8 x.k.c.D:: .int .u8 x.k.c.E:: .int .u8 x.k.c.H:: .int .u8 x.k.c.L:: .bool x.k.c.fS:: .bool x.k.c.fZ:: .bool x.k.c.fK:: .bool x.k.c.fAC:: .bool x.k.c.fP:: .bool x.k.c.fV:: .bool x.k.c.fCY:: .int .u16 x.k.c.SP:: .int .u16 x.k.c.PC:: .bool x.k.c.IE:: .bool x.k.c.De:: .bool x.k.c.Ha:: .int .u8 x.k.c.Ma:: .bool x.k.c.Tr:: .bool x.k.c.R7:: .bool x.k.c.WT:: .bool x.k.c.W7:: .bool x.k.c.Sa:: .bool x.k.c.SI:: .bool x.k.c.SO:: .int .i64 x.k.src:: .slice x.k.ga x.k.gn x.k.gc:: .int .i64 x.k.y.k:: .int .u16 x.k.y.a:: .int .u8 x.k.y.d:: .int .i64 x.k.y.s:: .int .i64 x.k.nx:: .bool x.k.ho:: .slice x.ma x.mn x.mc:: .int .i64 x.p.St:: .bool x.p.Le:: .bool x.p.Fo:: .bool x.p.Si:: .bool x.p.Ft:: .int .u8 x.p.Lw:: .int .u8 x.p.Hg:: .bool x.p.Au:: .bool x.p.Ro:: .bool x.p.Sp:: .bool x.p.RI:: .bool x.p.Po:: .int .u8 x.p.Li:: .int .u8 x.p.Ed:: .int .u8 x.p.IS:: .int .u8 x.p.IM:: .int .i64 x.p.Lo:: .int .i64 x.p.Sq:: .int .i64 x.p.Sv:: .bool x.p.Su:: .int .u16 x.da:: .int .u8 x.dv:: .int .i64 x.dl:: .int .i64 x.wt:: .slice x.oa x.on x.oc::[])),.agg #[.int .i64 yk,.int .u16 ya,.int .u8 yd,.int .i64 ys]] w (PostSto L x z w):=by
 by_cases h7:yk=7
 ·subst h7;exact store_out L b x ya yd ys l z m os w hB hS hL hd
 ·exact store_mem L b x yk ya yd ys l z m os w hB hS hL hd (by simpa using h7)
end
end Go.Proofs.YteggjjhjmhccjaaGreatDoor
