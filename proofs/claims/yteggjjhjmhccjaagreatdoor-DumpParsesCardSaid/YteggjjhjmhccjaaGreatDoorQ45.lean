/- Texts that the proofs of the statements on dumps rest on, joined. Conditions stand in each theorem. -/
import Derived.Test.YteggjjhjmhccjaaGreatDoorQ44
import Derived.Test.YteggjjhjmhccjaaGreatDoorQ11
import Derived.Test.YteggjjhjmhccjaaGreatDoorQ41
set_option linter.unusedVariables false
set_option linter.unusedSimpArgs false
set_option maxRecDepth 100000
set_option maxHeartbeats 8000000
namespace Go.Proofs.YteggjjhjmhccjaaGreatDoor
open Go.ChangeShapes Go.WideShapes Go.ChangeAt Go.RowKit
section
theorem S.ent_ok {a b c d:Int} (hb:0≤b∧b < 256) (hc:0≤c∧c < 256):(S.ent a b c d).ok:=by
 unfold S.ent S.Inp.ok
 split
 ·exact ⟨hb,hc⟩
 ·exact ⟨by show (0:Int)≤0∧(0:Int) < 256;omega,by show (0:Int)≤0∧(0:Int) < 256;omega⟩
theorem S.dec_ok {zs:List Int} (h:∀z∈zs,0≤z∧z < 256):∀x∈S.dec zs,x.ok:=by
 intro x hx
 unfold S.dec at hx
 obtain ⟨i,_,rfl⟩:=List.mem_map.1 hx
 have g:∀j,0≤zs.getD j 0∧zs.getD j 0 < 256:=fun j=>by
  rw [List.getD_eq_getElem?_getD]
  cases e:zs[j]? with
  |none=>exact ⟨by show (0:Int)≤0;omega,by show (0:Int) < 256;omega⟩
  |some v=>exact h v (List.mem_of_getElem? e)
 exact S.ent_ok (g _) (g _)
def PostRun (b:S.Bd) (w:World) (e:Ending) (w':World):Prop:=∃(r:S.Rn) (tl:List S.Pn) (il:List S.It) (x:S.Co) (e0:Int),e=.returned (.tuple #[.agg (List.toArray (.slice r.ta r.tn r.tc:: .slice r.ia r.ni r.ic:: .slice r.ea r.en r.ec:: .slice r.ua r.un r.uc:: .int .i64 r.s.k.c.Ch:: .int .u8 r.s.k.c.A:: .int .u8 r.s.k.c.B:: .int .u8 r.s.k.c.C:: .int .u8 r.s.k.c.D:: .int .u8 r.s.k.c.E:: .int .u8 r.s.k.c.H:: .int .u8 r.s.k.c.L:: .bool r.s.k.c.fS:: .bool r.s.k.c.fZ:: .bool r.s.k.c.fK:: .bool r.s.k.c.fAC:: .bool r.s.k.c.fP:: .bool r.s.k.c.fV:: .bool r.s.k.c.fCY:: .int .u16 r.s.k.c.SP:: .int .u16 r.s.k.c.PC:: .bool r.s.k.c.IE:: .bool r.s.k.c.De:: .bool r.s.k.c.Ha:: .int .u8 r.s.k.c.Ma:: .bool r.s.k.c.Tr:: .bool r.s.k.c.R7:: .bool r.s.k.c.WT:: .bool r.s.k.c.W7:: .bool r.s.k.c.Sa:: .bool r.s.k.c.SI:: .bool r.s.k.c.SO:: .int .i64 r.s.k.src:: .slice r.s.k.ga r.s.k.gn r.s.k.gc:: .int .i64 r.s.k.y.k:: .int .u16 r.s.k.y.a:: .int .u8 r.s.k.y.d:: .int .i64 r.s.k.y.s:: .int .i64 r.s.k.nx:: .bool r.s.k.ho:: .slice r.s.ma r.s.mn r.s.mc:: .int .i64 r.s.p.St:: .bool r.s.p.Le:: .bool r.s.p.Fo:: .bool r.s.p.Si:: .bool r.s.p.Ft:: .int .u8 r.s.p.Lw:: .int .u8 r.s.p.Hg:: .bool r.s.p.Au:: .bool r.s.p.Ro:: .bool r.s.p.Sp:: .bool r.s.p.RI:: .bool r.s.p.Po:: .int .u8 r.s.p.Li:: .int .u8 r.s.p.Ed:: .int .u8 r.s.p.IS:: .int .u8 r.s.p.IM:: .int .i64 r.s.p.Lo:: .int .i64 r.s.p.Sq:: .int .i64 r.s.p.Sv:: .bool r.s.p.Su:: .int .u16 r.s.da:: .int .u8 r.s.dv:: .int .i64 r.s.dl:: .int .i64 r.s.wt:: .slice r.s.oa r.s.on r.s.oc::[])),.int .i64 e0])∧OwnsQ w' w.heap.size (.slice r.ta r.tn r.tc) tl∧OwnsT w' w.heap.size (.slice r.ia r.ni r.ic) il∧S.Inv (b.ch==2) il tl x∧tl.length≤65000∧(∀p∈tl,S.PnOk p)∧Adds w w'
theorem zrun_size:Tryz.zeroCells69.size=66:=by kernel_rfl
theorem zrun_ones:ones Tryz.zeroCells69.toList=true:=by kernel_rfl
@[go_sem] theorem run_zero_Run (w:World) (b:Nat) (h:(rowOf w b).size=66):(wholeSet 69 ⟨b,0,none⟩ (.agg Tryz.zeroCells69)).run Tryz.prog w=.ok () (w.setRow b Tryz.zeroCells69):=run_store_Run w b zrun_size h zrun_ones
def S.Sy.zero:S.Sy:=⟨⟨⟨0,0,0,0,0,0,0,0,false,false,false,false,false,false,false,0,0,false,false,false,0,false,false,false,false,false,false,false⟩,0,none,0,0,⟨0,0,0,0⟩,0,false⟩,none,0,0,⟨0,false,false,false,false,0,0,false,false,false,false,false,0,0,0,0,0,0,0,false⟩,0,0,0,0,none,0,0⟩
def S.Rn.zero:S.Rn:=⟨none,0,0,none,0,0,none,0,0,none,0,0,S.Sy.zero⟩
theorem zrun_row:Tryz.zeroCells69=(List.toArray (.slice S.Rn.zero.ta S.Rn.zero.tn S.Rn.zero.tc:: .slice S.Rn.zero.ia S.Rn.zero.ni S.Rn.zero.ic:: .slice S.Rn.zero.ea S.Rn.zero.en S.Rn.zero.ec:: .slice S.Rn.zero.ua S.Rn.zero.un S.Rn.zero.uc:: .int .i64 S.Rn.zero.s.k.c.Ch:: .int .u8 S.Rn.zero.s.k.c.A:: .int .u8 S.Rn.zero.s.k.c.B:: .int .u8 S.Rn.zero.s.k.c.C:: .int .u8 S.Rn.zero.s.k.c.D:: .int .u8 S.Rn.zero.s.k.c.E:: .int .u8 S.Rn.zero.s.k.c.H:: .int .u8 S.Rn.zero.s.k.c.L:: .bool S.Rn.zero.s.k.c.fS:: .bool S.Rn.zero.s.k.c.fZ:: .bool S.Rn.zero.s.k.c.fK:: .bool S.Rn.zero.s.k.c.fAC:: .bool S.Rn.zero.s.k.c.fP:: .bool S.Rn.zero.s.k.c.fV:: .bool S.Rn.zero.s.k.c.fCY:: .int .u16 S.Rn.zero.s.k.c.SP:: .int .u16 S.Rn.zero.s.k.c.PC:: .bool S.Rn.zero.s.k.c.IE:: .bool S.Rn.zero.s.k.c.De:: .bool S.Rn.zero.s.k.c.Ha:: .int .u8 S.Rn.zero.s.k.c.Ma:: .bool S.Rn.zero.s.k.c.Tr:: .bool S.Rn.zero.s.k.c.R7:: .bool S.Rn.zero.s.k.c.WT:: .bool S.Rn.zero.s.k.c.W7:: .bool S.Rn.zero.s.k.c.Sa:: .bool S.Rn.zero.s.k.c.SI:: .bool S.Rn.zero.s.k.c.SO:: .int .i64 S.Rn.zero.s.k.src:: .slice S.Rn.zero.s.k.ga S.Rn.zero.s.k.gn S.Rn.zero.s.k.gc:: .int .i64 S.Rn.zero.s.k.y.k:: .int .u16 S.Rn.zero.s.k.y.a:: .int .u8 S.Rn.zero.s.k.y.d:: .int .i64 S.Rn.zero.s.k.y.s:: .int .i64 S.Rn.zero.s.k.nx:: .bool S.Rn.zero.s.k.ho:: .slice S.Rn.zero.s.ma S.Rn.zero.s.mn S.Rn.zero.s.mc:: .int .i64 S.Rn.zero.s.p.St:: .bool S.Rn.zero.s.p.Le:: .bool S.Rn.zero.s.p.Fo:: .bool S.Rn.zero.s.p.Si:: .bool S.Rn.zero.s.p.Ft:: .int .u8 S.Rn.zero.s.p.Lw:: .int .u8 S.Rn.zero.s.p.Hg:: .bool S.Rn.zero.s.p.Au:: .bool S.Rn.zero.s.p.Ro:: .bool S.Rn.zero.s.p.Sp:: .bool S.Rn.zero.s.p.RI:: .bool S.Rn.zero.s.p.Po:: .int .u8 S.Rn.zero.s.p.Li:: .int .u8 S.Rn.zero.s.p.Ed:: .int .u8 S.Rn.zero.s.p.IS:: .int .u8 S.Rn.zero.s.p.IM:: .int .i64 S.Rn.zero.s.p.Lo:: .int .i64 S.Rn.zero.s.p.Sq:: .int .i64 S.Rn.zero.s.p.Sv:: .bool S.Rn.zero.s.p.Su:: .int .u16 S.Rn.zero.s.da:: .int .u8 S.Rn.zero.s.dv:: .int .i64 S.Rn.zero.s.dl:: .int .i64 S.Rn.zero.s.wt:: .slice S.Rn.zero.s.oa S.Rn.zero.s.on S.Rn.zero.s.oc::[])):=by kernel_rfl
theorem run_any (b:S.Bd) (rl:List K12.Rg) (im:List K12.Cl) (a:Option Addr) (len cap:Nat) (zs:List Int) (w:World) (h:BdOk b rl w) (hi:K12.Held w b.ia b.ni im) (hl:b.ni≤1000) (hb:∀y,0≤K12.Sm.get im y∧K12.Sm.get im y < 256) (hs:HeldB w a len zs) (hc:len≤cap∧cap≤9223372036854775807) (hz:∀z∈zs,0≤z∧z < 256) (hn:len≤200000):Calls Tryz.prog 17 #[.agg #[.int .i64 b.ch,.slice b.ra b.rn b.rc,.int .i64 b.iw,.int .u8 b.pp,.int .u8 b.dp,.bool b.jm,.slice b.ia b.ni b.ic],.slice a len cap] w (PostRun b w):=by
 have H:=Lib.hid h
 have HI:=Lib.hid hi
 have HL:=Lib.hid hl
 have HB:=Lib.hid hb
 have HS:=Lib.hid hs
 have HC:=Lib.hid hc
 have HZ:=Lib.hid hz
 have HN:=Lib.hid hn
 clear h hi hl hb hs hc hz hn
 go_enter Tryz.func17,Tryz.ntmps17
 go_upto_if 25 with (go_at_call 32;refine (bnew_any b rl im (H.out.adds aD) (HI.out.adds aD) HL.out HB.out).mono ?_;rintro e w' ⟨y0,e0,rfl,⟨⟨n1,os1⟩,rfl⟩,hy⟩)
 rcases he:(e0 !=0) with _|_
 ·have he0:e0=0:=by simpa using he
  subst he0
  obtain ⟨z0,m0,hy,hy1,hyc,hy2,hy3,hy4⟩:=hy rfl
  refine wp_forget (fun W=>Adds w W∧rowOf W w.heap.size=#[.int .i64 b.ch,.slice b.ra b.rn b.rc,.int .i64 b.iw,.int .u8 b.pp,.int .u8 b.dp,.bool b.jm,.slice b.ia b.ni b.ic]∧(rowOf W (w.heap.size+1)).size=66∧rowOf W (w.heap.size+1+1+os1.size)=(List.toArray (.int .i64 y0.k.c.Ch:: .int .u8 y0.k.c.A:: .int .u8 y0.k.c.B:: .int .u8 y0.k.c.C:: .int .u8 y0.k.c.D:: .int .u8 y0.k.c.E:: .int .u8 y0.k.c.H:: .int .u8 y0.k.c.L:: .bool y0.k.c.fS:: .bool y0.k.c.fZ:: .bool y0.k.c.fK:: .bool y0.k.c.fAC:: .bool y0.k.c.fP:: .bool y0.k.c.fV:: .bool y0.k.c.fCY:: .int .u16 y0.k.c.SP:: .int .u16 y0.k.c.PC:: .bool y0.k.c.IE:: .bool y0.k.c.De:: .bool y0.k.c.Ha:: .int .u8 y0.k.c.Ma:: .bool y0.k.c.Tr:: .bool y0.k.c.R7:: .bool y0.k.c.WT:: .bool y0.k.c.W7:: .bool y0.k.c.Sa:: .bool y0.k.c.SI:: .bool y0.k.c.SO:: .int .i64 y0.k.src:: .slice y0.k.ga y0.k.gn y0.k.gc:: .int .i64 y0.k.y.k:: .int .u16 y0.k.y.a:: .int .u8 y0.k.y.d:: .int .i64 y0.k.y.s:: .int .i64 y0.k.nx:: .bool y0.k.ho:: .slice y0.ma y0.mn y0.mc:: .int .i64 y0.p.St:: .bool y0.p.Le:: .bool y0.p.Fo:: .bool y0.p.Si:: .bool y0.p.Ft:: .int .u8 y0.p.Lw:: .int .u8 y0.p.Hg:: .bool y0.p.Au:: .bool y0.p.Ro:: .bool y0.p.Sp:: .bool y0.p.RI:: .bool y0.p.Po:: .int .u8 y0.p.Li:: .int .u8 y0.p.Ed:: .int .u8 y0.p.IS:: .int .u8 y0.p.IM:: .int .i64 y0.p.Lo:: .int .i64 y0.p.Sq:: .int .i64 y0.p.Sv:: .bool y0.p.Su:: .int .u16 y0.da:: .int .u8 y0.dv:: .int .i64 y0.dl:: .int .i64 y0.wt:: .slice y0.oa y0.on y0.oc::[]))∧SyOk 1000 y0 z0 m0 [] W∧SyOff (fun k=>w.heap.size+1+1+os1.size≤k) y0) ⟨aD,by simp [go_sem],by simp [go_sem,zrun_size],by simp [go_sem],hy.adds aD,hy.more (T:=fun _=>False) ⟨fun _ _ _ _ e=>e,fun _ _ _ _ e=>e,fun _ _ _ _ e=>e⟩ (fun k e=> .inr (by simp [go_sem];omega))⟩ ?_
  have hb6:w.heap.size+1 < w.heap.size+1+1+os1.size:=by omega
  generalize w.heap.size+1+1+os1.size=b6 at hb6⊢
  clear hy hy2 hy3 hy4 he
  rintro wc ⟨hA,r2,s4,r6,hsy,hso⟩
  have p2:=row_lt r2 (by simp)
  have p4:w.heap.size+1 < wc.heap.size:=row_lt (c:=rowOf wc (w.heap.size+1)) rfl (by omega)
  have p6:=row_lt r6 (by simp)
  have HA:=Lib.hid hA
  have HSY:=Lib.hid hsy
  have HSO:=Lib.hid hso
  have HY1:=Lib.hid hy1
  have HYC:=Lib.hid hyc
  clear hA hsy hso hy1 hyc
  go_wp2_with (go_at_call 33;refine (rdec_any a len cap zs (HS.out.adds (HA.out.trans aD)) HC.out.1 HC.out.2 (by have:=HN.out;omega)).mono ?_;rintro e w' ⟨dv,rfl,hD,⟨⟨n2,os2⟩,rfl⟩⟩;obtain ⟨da,dn,dc,rfl,hdn,hdc⟩:=hD.form2;have HD:=Lib.hid hD;have HDN:=Lib.hid hdn.out;have HDC:=Lib.hid hdc;clear hD hdn hdc)
  have hdl:=S.dec_len zs
  have HDL:=Lib.hid (show (S.dec zs).length=dn∧dn≤50000 from ⟨HDN.out,by have:=HN.out;have:=HS.out.1;have:=HDN.out;omega⟩)
  clear hdl
  refine wp_forget (RuI b rl y0.k.c w b6 wc.heap.size (wc.heap.size+1) (wc.heap.size+1+1+os2.size) da dn (S.dec zs) 1000 y0 z0 m0 [] S.Rn.zero [] [] [] []) ?_ ?_
  ·have e2:∀k,wc.heap.size+1+1≤k→¬(k=b6∨k=wc.heap.size):=fun k h e=>by omega
   refine ⟨HA.out.trans aD,by simp [go_sem, *],by simp [go_sem, *],by simp [go_sem, *],by simp [go_sem],⟨hb6,p6,by omega,by omega⟩,by simp [go_sem],H.out,HD.out.held (by have:=HDL.out;omega),?_,⟨by simp [go_sem];exact zrun_row,by omega,OwnsG.nil _ _,OwnsG.nil _ _,OwnsG.nil _ _,OwnsG.nil _ _,fun g e=>(by cases e),fun g e=>(by cases e),fun g e=>(by cases e),fun g e=>(by cases e),fun g e=>(by cases e),fun g e=>(by cases e)⟩,HSY.out.adds aD,?_,S.Inv.start _ _ HY1.out,HYC.out⟩
   ·intro g o e hn q
    subst e
    have:=HD.out.lt2 (g:=g) rfl
    simp [go_sem] at this
    omega
   ·refine HSO.out.mono (fun k e=> ?_)
    rcases e with e|e|e|e|e|e
    ·omega
    ·omega
    all_goals cases e
  generalize wc.heap.size+1+1+os2.size=base
  clear HA HSY HSO HY1 HYC HD HDN HDC r2 s4 r6 p2 p4 p6
  generalize wc.heap.size+1=b9
  generalize wc.heap.size=rb
  rintro wl hR
  have HR:=Lib.hid hR
  clear hR
  generalize y0.k.c=c9 at HR
  go_loopw [34] (fun i wr=>∃(k:Nat) (s:S.Sy) (z:List Int) (m:List K12.Cl) (os:List S.Ou) (r:S.Rn) (tl:List S.Pn) (il:List S.It) (vl:List S.Ev) (ul:List S.Cp),i=.int .i64 (k:Int)∧k≤dn∧Hid (tl.length=k∧vl.length≤2 * k∧ul.length≤2 * k∧∀p∈tl,S.PnOk p)∧Hid (RuI b rl c9 w b6 rb b9 base da dn (S.dec zs) (1000+3 * k) s z m os r tl il vl ul wr)) (fun i _=>dn - (intOf i).toNat)
  case atStart=>exact ⟨0,y0,z0,m0,[],S.Rn.zero,[],[],[],[],rfl,Nat.zero_le _,Lib.hid ⟨rfl,Nat.zero_le _,Nat.zero_le _,fun p hp=>by cases hp⟩,HR⟩
  case round=>
   obtain ⟨k,s,z,m,os,r,tl,il,vl,ul,rfl,hk,HK,HW⟩:=hrel
   by_cases hlt:k < dn
   ·have q1:(k:Int) < (dn:Int):=by omega
    have q0:(0:Int)≤(k:Int):=by omega
    obtain ⟨g,o,rfl,hgl,hat⟩:=HW.out.inp.2.2 (by omega)
    obtain ⟨x,hx⟩:=get_el (d:=S.dec zs) (k:=k) (by have:=HDL.out;omega)
    have hxo:=S.dec_ok HZ.out x (List.mem_of_getElem? hx)
    have HX:=Lib.hid hxo
    have hld:=AtI.load hat hx (o+k * 10) rfl
    simp only [S.Inp.cs] at hld
    have r2:=HW.out.r2
    have r6:=HW.out.r6
    have p2:=row_lt r2 (by simp)
    have p6:=row_lt r6 (by simp)
    have q5:(dn:Int)≤9223372036854775807:=by have:=HDL.out;omega
    clear hxo hx hat
    go_upto_region 12 with (first
     |(go_at_call 34;refine (clk_any (1000+3 * k) b s x rl z m os ((HW.out.bd.adds HW.out.a).adds aD) (HW.out.sy.adds aD) (by have:=HDL.out;omega) HX.out).mono ?_;rintro e w' ⟨y,z1,m1,os1,mo,rfl,hch,hst,hrs,hda,hsy,hnw,hs1,hs2,⟨⟨n3,os3⟩,rfl⟩⟩;have HY:=Lib.hid hsy;have HST:=Lib.hid (And.intro hch (And.intro hst hda));have HN2:=Lib.hid hnw;have HN3:=Lib.hid hs1;have HN4:=Lib.hid hs2;clear hch hst hrs hda hsy hnw hs1 hs2;generalize hP:S.pn (s.k.c.Ch==2) (S.itm s.k (if x.z=true then 10 else s.k.nx) mo.da) (if x.z=true then 10 else s.k.nx)=P;have HP:=Lib.hid hP;clear hP;simp only [S.Pn.cs])
     |(go_at_call 35;refine ad (state_any s.k HW.out.sy.k.nx _) fun n4 os4=> ?_)
     |fail)
    have q6:=HW.out.d
    have hso:=HW.out.so.clk HN2.out HN3.out HN4.out (fun j e=>by
     simp [go_sem]
     rcases e with rfl|e
     ·omega
     ·have:=(HW.out.run.olt e).1;omega)
    have HSO:=Lib.hid hso
    clear hso HN2 HN3 HN4
    refine wp_forget (fun W=>RuJ wr (wr.heap.size+1+1+os3.size) s.k y P mo base rb r r tl il vl ul (1000+3 * k+3) z1 m1 os1 W∧W.cell? ⟨wr.heap.size,2,none⟩=some (.bool x.z)) ⟨⟨Tch.of_adds aD,by simp [go_sem],by simp [go_sem],by simp [go_sem],by simp [go_sem],HW.out.run.adds aD,fun j e=>(HW.out.run.olt e).1,by omega,fun j e=> .inl e,HY.out.adds aD,HY.out.more (HSO.out.mono (T1:=RnO rb r) (fun j e=> .inr e)) (fun j e=>e.imp id (fun e=>by simp [go_sem];omega))⟩,by simp [go_sem]⟩ ?_
    have HO6:=Lib.hid (HSO.out.mono (T1:=fun j=>j=b6) (fun j e=> .inl e))
    clear HY HSO r2 r6 p2 p6 hld
    generalize wr.heap.size+1+1+os3.size=b13
    rintro wd ⟨hJ,c112⟩
    have HJ:=Lib.hid hJ
    clear hJ
    go_upto_if 51 with fail
    go_cut [16] from 37 to 51 (fun v16 wx=>v16=.int .i64 (if x.z=true then 10 else s.k.nx)∧Hid (RuJ wr b13 s.k y P mo base rb r r tl il vl ul (1000+3 * k+3) z1 m1 os1 wx))
    case first=>
     cases hz:x.z
     all_goals
      go_wp2_with fail
      go_meet
      exact ⟨by simp [hz],HJ⟩
    case rest=>
     clear HX HJ c112
     obtain ⟨rfl,HJ⟩:=hcut
     generalize hst:(if x.z=true then 10 else s.k.nx)=st at HP⊢
     have hst1:1≤st∧st≤10:=by have:=HW.out.sy.k.nx;rw [←hst];split<;>omega
     have HST0:=Lib.hid hst
     have HST1:=Lib.hid hst1
     clear hst hst1
     have r14:=HJ.out.h14
     have prb:=HJ.out.run.rlt
     have p14:=row_lt r14 (by simp)
     have cr0:=rowOf_cell (i:=0) (v:=.slice r.ta r.tn r.tc) HJ.out.run.row rfl
     have q7:base≤wc.heap.size:=Nat.le_trans HW.out.bs HJ.out.t.size
     have q8:rb < base:=HJ.out.run.lt
     go_upto_region 15 with (at_builtin;refine wpList_appQ1_w rfl _ _ rfl base (.slice r.ta r.tn r.tc) tl rfl P _ _ wc.heap.size rfl rfl rfl HJ.out.run.t (by have:=HK.out;have:=HDL.out;omega) q7 ?_;intro v5 w5 hO5 hG5 hN5;obtain ⟨ta5,tn5,tc5,rfl,_⟩:=hO5.form2;have HO5:=Lib.hid hO5;have HG5:=Lib.hid hG5;have HN5:=Lib.hid hN5;clear hO5 hG5 hN5;have hr5:rowOf w5 rb=(List.toArray (.slice r.ta r.tn r.tc:: .slice r.ia r.ni r.ic:: .slice r.ea r.en r.ec:: .slice r.ua r.un r.uc:: .int .i64 r.s.k.c.Ch:: .int .u8 r.s.k.c.A:: .int .u8 r.s.k.c.B:: .int .u8 r.s.k.c.C:: .int .u8 r.s.k.c.D:: .int .u8 r.s.k.c.E:: .int .u8 r.s.k.c.H:: .int .u8 r.s.k.c.L:: .bool r.s.k.c.fS:: .bool r.s.k.c.fZ:: .bool r.s.k.c.fK:: .bool r.s.k.c.fAC:: .bool r.s.k.c.fP:: .bool r.s.k.c.fV:: .bool r.s.k.c.fCY:: .int .u16 r.s.k.c.SP:: .int .u16 r.s.k.c.PC:: .bool r.s.k.c.IE:: .bool r.s.k.c.De:: .bool r.s.k.c.Ha:: .int .u8 r.s.k.c.Ma:: .bool r.s.k.c.Tr:: .bool r.s.k.c.R7:: .bool r.s.k.c.WT:: .bool r.s.k.c.W7:: .bool r.s.k.c.Sa:: .bool r.s.k.c.SI:: .bool r.s.k.c.SO:: .int .i64 r.s.k.src:: .slice r.s.k.ga r.s.k.gn r.s.k.gc:: .int .i64 r.s.k.y.k:: .int .u16 r.s.k.y.a:: .int .u8 r.s.k.y.d:: .int .i64 r.s.k.y.s:: .int .i64 r.s.k.nx:: .bool r.s.k.ho:: .slice r.s.ma r.s.mn r.s.mc:: .int .i64 r.s.p.St:: .bool r.s.p.Le:: .bool r.s.p.Fo:: .bool r.s.p.Si:: .bool r.s.p.Ft:: .int .u8 r.s.p.Lw:: .int .u8 r.s.p.Hg:: .bool r.s.p.Au:: .bool r.s.p.Ro:: .bool r.s.p.Sp:: .bool r.s.p.RI:: .bool r.s.p.Po:: .int .u8 r.s.p.Li:: .int .u8 r.s.p.Ed:: .int .u8 r.s.p.IS:: .int .u8 r.s.p.IM:: .int .i64 r.s.p.Lo:: .int .i64 r.s.p.Sq:: .int .i64 r.s.p.Sv:: .bool r.s.p.Su:: .int .u16 r.s.da:: .int .u8 r.s.dv:: .int .i64 r.s.dl:: .int .i64 r.s.wt:: .slice r.s.oa r.s.on r.s.oc::[])):=(Tch.row (Tch.of_grown (S:=fun k=>(Value.slice r.ta r.tn r.tc).ownBlock=some k) HG5.out (fun _ e=>e)) prb (fun e=>by have:=(HJ.out.run.t.lt2 e).1;omega)).trans HJ.out.run.row;have cr5:=rowOf_cell (i:=0) (v:=.slice r.ta r.tn r.tc) hr5 rfl;have fr5:=row_frozen hr5 (by simp) 0)
     refine wp_forget (fun W=>∃r1:S.Rn,RuJ wr b13 s.k y P mo base rb r r1 (tl++[P]) il vl ul (1000+3 * k+3) z1 m1 os1 W) (by
      obtain ⟨k1,k2,k3⟩:=HJ.out.run.pins (Tch.of_grown HG5.out (fun _ e=>e)) HO5.out HN5.out
      exact ⟨_,HJ.out.step k1 k2 k3⟩) ?_
     clear HO5 HG5 HN5 hr5 cr5 fr5 r14 p14 cr0 prb HJ q7
     have HIB:=Lib.hid (HW.out.inv.bd (by have:=HK.out;have:=HDL.out;omega))
     have HNE:=Lib.hid (show st=1∨8≤st∨il≠[] by have:=HST0.out;rw [←this];split;exact .inr (.inl (by omega));exact HW.out.inv.ne HW.out.sy.k.nx)
     rintro wd ⟨r1,hJ⟩
     have HJ:=Lib.hid hJ
     clear hJ
     have prb:=HJ.out.run.rlt
     have q7:base≤wd.heap.size:=Nat.le_trans HW.out.bs HJ.out.t.size
     refine wp_region_noPanic ?_
     refine Til.begin (T:=fun W=>W.cell? ⟨rb,1,none⟩=some (.slice r1.ia r1.ni r1.ic)∧rowOf W (wr.heap.size+1)=(List.toArray (.int .i64 s.k.c.Ch:: .int .u8 s.k.c.A:: .int .u8 s.k.c.B:: .int .u8 s.k.c.C:: .int .u8 s.k.c.D:: .int .u8 s.k.c.E:: .int .u8 s.k.c.H:: .int .u8 s.k.c.L:: .bool s.k.c.fS:: .bool s.k.c.fZ:: .bool s.k.c.fK:: .bool s.k.c.fAC:: .bool s.k.c.fP:: .bool s.k.c.fV:: .bool s.k.c.fCY:: .int .u16 s.k.c.SP:: .int .u16 s.k.c.PC:: .bool s.k.c.IE:: .bool s.k.c.De:: .bool s.k.c.Ha:: .int .u8 s.k.c.Ma:: .bool s.k.c.Tr:: .bool s.k.c.R7:: .bool s.k.c.WT:: .bool s.k.c.W7:: .bool s.k.c.Sa:: .bool s.k.c.SI:: .bool s.k.c.SO:: .int .i64 s.k.src:: .slice s.k.ga s.k.gn s.k.gc:: .int .i64 s.k.y.k:: .int .u16 s.k.y.a:: .int .u8 s.k.y.d:: .int .i64 s.k.y.s:: .int .i64 s.k.nx:: .bool s.k.ho::[]))∧W.cell? ⟨wr.heap.size+1,17,none⟩=some (.bool s.k.c.IE)∧W.cell? ⟨wr.heap.size+1,27,none⟩=some (.bool s.k.c.SO)∧W.cell? ⟨b13+1+1,9,none⟩=some (.int .u8 mo.da)) (st:=[17]) (by kernel_rfl) (by (try dsimp only);exact HJ.out.gr (Adds.refl _) (Adds.grownBy aD _)) (fun hHeld=> ?_)
     (refine Til.takeAny (i:=0) (oi:=_) (v:=?_) rfl (by kernel_rfl) (by kernel_rfl) (by kernel_rfl) (by kernel_rfl) (fun _ _ _ h=>h) (Or.inl ⟨by kernel_rfl,?_⟩) (by assumption) ?_;rotate_left;focus (intro w hSw;go_simp;(try with_reducible rfl);done);(try simp only [Act.put,List.setIfInBounds_toArray,List.set_cons_zero,List.set_cons_succ]))
     (refine Til.takeAny (i:=4) (oi:=_) (v:=?_) rfl (by kernel_rfl) (by kernel_rfl) (by kernel_rfl) (by kernel_rfl) (fun _ _ _ h=>h) (Or.inl ⟨by kernel_rfl,?_⟩) (by assumption) ?_;rotate_left;focus (intro w hSw;go_simp;(try with_reducible rfl);done);(try simp only [Act.put,List.setIfInBounds_toArray,List.set_cons_zero,List.set_cons_succ]))
     (refine Til.takeAny (i:=5) (oi:=_) (v:=?_) rfl (by kernel_rfl) (by kernel_rfl) (by kernel_rfl) (by kernel_rfl) (fun _ _ _ h=>h) (Or.inl ⟨by kernel_rfl,?_⟩) (by assumption) ?_;rotate_left;focus (intro w hSw;go_simp;(try with_reducible rfl);done);(try simp only [Act.put,List.setIfInBounds_toArray,List.set_cons_zero,List.set_cons_succ]))
     (refine Til.takeAny (i:=8) (oi:=_) (v:=?_) rfl (by kernel_rfl) (by kernel_rfl) (by kernel_rfl) (by kernel_rfl) (fun _ _ _ h=>h) (Or.inl ⟨by kernel_rfl,?_⟩) (by assumption) ?_;rotate_left;focus (intro w hSw;go_simp;(try with_reducible rfl);done);(try simp only [Act.put,List.setIfInBounds_toArray,List.set_cons_zero,List.set_cons_succ]))
     (refine Til.takeAny (i:=9) (oi:=_) (v:=?_) rfl (by kernel_rfl) (by kernel_rfl) (by kernel_rfl) (by kernel_rfl) (fun _ _ _ h=>h) (Or.inl ⟨by kernel_rfl,?_⟩) (by assumption) ?_;rotate_left;focus (intro w hSw;go_simp;(try with_reducible rfl);done);(try simp only [Act.put,List.setIfInBounds_toArray,List.set_cons_zero,List.set_cons_succ]))
     (refine Til.takeAny (i:=10) (oi:=_) (v:=?_) rfl (by kernel_rfl) (by kernel_rfl) (by kernel_rfl) (by kernel_rfl) (fun _ _ _ h=>h) (Or.inl ⟨by kernel_rfl,?_⟩) (by assumption) ?_;rotate_left;focus (intro w hSw;go_simp;(try with_reducible rfl);done);(try simp only [Act.put,List.setIfInBounds_toArray,List.set_cons_zero,List.set_cons_succ]))
     (refine Til.takeAny (i:=12) (oi:=_) (v:=?_) rfl (by kernel_rfl) (by kernel_rfl) (by kernel_rfl) (by kernel_rfl) (fun _ _ _ h=>h) (Or.inl ⟨by kernel_rfl,?_⟩) (by assumption) ?_;rotate_left;focus (intro w hSw;go_simp;(try with_reducible rfl);done);(try simp only [Act.put,List.setIfInBounds_toArray,List.set_cons_zero,List.set_cons_succ]))
     (refine Til.takeAny (i:=13) (oi:=_) (v:=?_) rfl (by kernel_rfl) (by kernel_rfl) (by kernel_rfl) (by kernel_rfl) (fun _ _ _ h=>h) (Or.inl ⟨by kernel_rfl,?_⟩) (by assumption) ?_;rotate_left;focus (intro w hSw;go_simp;(try with_reducible rfl);done);(try simp only [Act.put,List.setIfInBounds_toArray,List.set_cons_zero,List.set_cons_succ]))
     (refine Til.take (i:=1) (oi:=_) (v:=?_) rfl (by kernel_rfl) (by kernel_rfl) (by kernel_rfl) (by kernel_rfl) (by kernel_rfl) (fun _ _ _ h=>h) (Or.inl ⟨by kernel_rfl,?_⟩) (by assumption) ?_;rotate_left;focus (intro w hSw;(try dsimp only at hSw);go_simp;(try with_reducible rfl);done);(try simp only [Act.put,List.setIfInBounds_toArray,List.set_cons_zero,List.set_cons_succ]))
     (refine Til.take (i:=2) (oi:=_) (v:=?_) rfl (by kernel_rfl) (by kernel_rfl) (by kernel_rfl) (by kernel_rfl) (by kernel_rfl) (fun _ _ _ h=>h) (Or.inl ⟨by kernel_rfl,?_⟩) (by assumption) ?_;rotate_left;focus (intro w hSw;(try dsimp only at hSw);go_simp;(try with_reducible rfl);done);(try simp only [Act.put,List.setIfInBounds_toArray,List.set_cons_zero,List.set_cons_succ]))
     (refine Til.take (i:=3) (oi:=_) (v:=?_) rfl (by kernel_rfl) (by kernel_rfl) (by kernel_rfl) (by kernel_rfl) (by kernel_rfl) (fun _ _ _ h=>h) (Or.inl ⟨by kernel_rfl,?_⟩) (by assumption) ?_;rotate_left;focus (intro w hSw;(try dsimp only at hSw);go_simp;(try with_reducible rfl);done);(try simp only [Act.put,List.setIfInBounds_toArray,List.set_cons_zero,List.set_cons_succ]))
     (refine Til.take (i:=6) (oi:=_) (v:=?_) rfl (by kernel_rfl) (by kernel_rfl) (by kernel_rfl) (by kernel_rfl) (by kernel_rfl) (fun _ _ _ h=>h) (Or.inl ⟨by kernel_rfl,?_⟩) (by assumption) ?_;rotate_left;focus (intro w hSw;(try dsimp only at hSw);go_simp;(try with_reducible rfl);done);(try simp only [Act.put,List.setIfInBounds_toArray,List.set_cons_zero,List.set_cons_succ]))
     (refine Til.take (i:=11) (oi:=_) (v:=?_) rfl (by kernel_rfl) (by kernel_rfl) (by kernel_rfl) (by kernel_rfl) (by kernel_rfl) (fun _ _ _ h=>h) (Or.inl ⟨by kernel_rfl,?_⟩) (by assumption) ?_;rotate_left;focus (intro w hSw;(try dsimp only at hSw);go_simp;(try with_reducible rfl);done);(try simp only [Act.put,List.setIfInBounds_toArray,List.set_cons_zero,List.set_cons_succ]))
     (refine Til.take (i:=14) (oi:=_) (v:=?_) rfl (by kernel_rfl) (by kernel_rfl) (by kernel_rfl) (by kernel_rfl) (by kernel_rfl) (fun _ _ _ h=>h) (Or.inl ⟨by kernel_rfl,?_⟩) (by assumption) ?_;rotate_left;focus (intro w hSw;(try dsimp only at hSw);go_simp;(try with_reducible rfl);done);(try simp only [Act.put,List.setIfInBounds_toArray,List.set_cons_zero,List.set_cons_succ]))
     refine Til.ready (rs:=[7]) (by kernel_rfl) (by simp) ?_
     refine TilAll.cons rfl (fun K hK=> ?_) TilAll.nil
     go_simp
     (go_at_call 37;refine ad (current_any s.k st mo.da HW.out.sy.k.y HST.out.2.2) fun n5 os5=> ?_)
     refine hK.out _ _ (by (try dsimp only);exact HJ.out.gr (Adds.refl _) (Adds.grownBy aD _)) (fun hHeld=> ?_)
     clear hK K
     (try simp only [Act.put,List.setIfInBounds_toArray,List.set_cons_zero,List.set_cons_succ])
     refine Til.ready (rs:=[15]) (by kernel_rfl) (by simp) ?_
     refine TilAll.cons rfl (fun K hK=> ?_) TilAll.nil
     go_simp
     (go_at_call 36;refine (item_any base s.k st mo.da il (HJ.out.run.i.adds aD) (by have:=HIB.out.1;omega) (Nat.le_trans q7 (Adds.size aD)) HST1.out HNE.out HIB.out.2).mono ?_;rintro e w9 ⟨v9,rfl,hO9,hG9,hN9⟩;obtain ⟨ia9,in9,ic9,rfl,_⟩:=hO9.form2;have HT9:=Lib.hid (HJ.out.gr (show Adds wd _ from aD) hG9);have HO9:=Lib.hid hO9;have HG9:=Lib.hid hG9;have HN9:=Lib.hid hN9;have hr9:=HJ.out.gr0 (show Adds wd _ from aD) hG9;have hs9:wd.heap.size≤w9.heap.size:=Nat.le_trans (Adds.size aD) hG9.size;clear hO9 hG9 hN9)
     refine hK.out _ _ (by (try dsimp only);exact HT9.out) (fun hHeld=> ?_)
     clear hK K
     (try simp only [Act.put,List.setIfInBounds_toArray,List.set_cons_zero,List.set_cons_succ])
     (refine Til.takeAny (i:=16) (oi:=_) (v:=?_) rfl (by kernel_rfl) (by kernel_rfl) (by kernel_rfl) (by kernel_rfl) (fun _ _ _ h=>h) (Or.inl ⟨by kernel_rfl,?_⟩) (by assumption) ?_;rotate_left;focus (intro w hSw;go_simp;(try with_reducible rfl);done);(try simp only [Act.put,List.setIfInBounds_toArray,List.set_cons_zero,List.set_cons_succ]))
     have cr9:=HT9.out.1
     have fr9:w9.frozen? ⟨rb,1,none⟩=false:=row_frozen hr9 (by simp) 1
     refine Til.ready (rs:=[17]) (by kernel_rfl) (by simp) ?_
     refine TilAll.store rfl (by kernel_rfl) (fun K hK=> ?_) TilAll.nil
     go_simp
     refine hK.out _ _ ?_
     clear hK K
     (try simp only [Act.put,List.setIfInBounds_toArray,List.set_cons_zero,List.set_cons_succ])
     refine Til.done (by kernel_rfl) ?_ _
     refine NoPanic.normal ?_
     try clear hHeld
     refine exit_forget (fun W=>∃r2:S.Rn,RuJ wr b13 s.k y P mo base rb r r2 (tl++[P]) (S.add il s.k st mo.da) vl ul (1000+3 * k+3) z1 m1 os1 W) (by
      obtain ⟨k1,k2,k3⟩:=HJ.out.run.items ((Tch.of_adds (show Adds wd _ from aD)).out (Tch.of_grown HG9.out (fun _ e=>e))) HO9.out (fun g e=>(HN9.out g e).imp id (Nat.le_trans (Adds.size aD)))
      exact ⟨_,HJ.out.step k1 k2 k3⟩) ?_
     clear HO9 HG9 HN9 hr9 cr9 fr9 HT9 prb HJ q7
     rintro we ⟨r2,hJ⟩
     have HJ:=Lib.hid hJ
     clear hJ
     have h12:=HJ.out.h12
     have h13:=HJ.out.h13
     have h15:=HJ.out.h15
     have q9:=HW.out.d
     have q7:base≤we.heap.size:=Nat.le_trans HW.out.bs HJ.out.t.size
     have far:∀j,j < base→j≠rb→¬RnO rb r j:=fun j h1 h2 e=>by have:=(HW.out.run.olt e).2;omega
     have h9:rowOf we b9=#[.int .i64 c9.Ch,.int .u8 c9.A,.int .u8 c9.B,.int .u8 c9.C,.int .u8 c9.D,.int .u8 c9.E,.int .u8 c9.H,.int .u8 c9.L,.bool c9.fS,.bool c9.fZ,.bool c9.fK,.bool c9.fAC,.bool c9.fP,.bool c9.fV,.bool c9.fCY,.int .u16 c9.SP,.int .u16 c9.PC,.bool c9.IE,.bool c9.De,.bool c9.Ha,.int .u8 c9.Ma,.bool c9.Tr,.bool c9.R7,.bool c9.WT,.bool c9.W7,.bool c9.Sa,.bool c9.SI,.bool c9.SO]:=(HJ.out.t.row (by have:=HW.out.bs;omega) (far _ (by omega) (by omega))).trans HW.out.r9
     have p12:=row_lt h12 (by simp)
     have p13:=row_lt h13 (by simp)
     have p15:=row_lt h15 (by simp)
     have p9:=row_lt h9 (by simp)
     go_upto_region 17 with (go_at_call 38;refine (events_any base rb r2 vl ul s.k z y mo c9 (HJ.out.run.adds aD) ((HW.out.sy.k.tch HJ.out.t (HW.out.so.1.mono (fun j e=> .inr e))).adds aD) (HW.out.so.1.lt HW.out.sy.k.held.blt (fun j e=>(HJ.out.o j e).imp .inr (fun e=>by have:=HJ.out.le;omega))) (by have:=HW.out.sy.gl;have:=HDL.out;omega) HST.out.2.2 (by have:=HK.out;have:=HDL.out;omega) (Nat.le_trans q7 (Adds.size aD))).mono ?_;rintro e wf ⟨r3,vl3,ul3,rfl,hr3,hs3,l1,l2,ht3,ho3⟩;have HJ3:=Lib.hid ((HJ.out.adds (show Adds we _ from aD)).step hr3 ht3 ho3);have HL3:=Lib.hid (And.intro l1 l2);clear hr3 hs3 l1 l2 ht3 ho3)
     clear h12 h13 h15 h9 p12 p13 p15 p9 HJ
     have h13:=HJ3.out.h13
     have p13:=row_lt h13 (by simp)
     have h6:rowOf wf b6=(List.toArray (.int .i64 s.k.c.Ch:: .int .u8 s.k.c.A:: .int .u8 s.k.c.B:: .int .u8 s.k.c.C:: .int .u8 s.k.c.D:: .int .u8 s.k.c.E:: .int .u8 s.k.c.H:: .int .u8 s.k.c.L:: .bool s.k.c.fS:: .bool s.k.c.fZ:: .bool s.k.c.fK:: .bool s.k.c.fAC:: .bool s.k.c.fP:: .bool s.k.c.fV:: .bool s.k.c.fCY:: .int .u16 s.k.c.SP:: .int .u16 s.k.c.PC:: .bool s.k.c.IE:: .bool s.k.c.De:: .bool s.k.c.Ha:: .int .u8 s.k.c.Ma:: .bool s.k.c.Tr:: .bool s.k.c.R7:: .bool s.k.c.WT:: .bool s.k.c.W7:: .bool s.k.c.Sa:: .bool s.k.c.SI:: .bool s.k.c.SO:: .int .i64 s.k.src:: .slice s.k.ga s.k.gn s.k.gc:: .int .i64 s.k.y.k:: .int .u16 s.k.y.a:: .int .u8 s.k.y.d:: .int .i64 s.k.y.s:: .int .i64 s.k.nx:: .bool s.k.ho:: .slice s.ma s.mn s.mc:: .int .i64 s.p.St:: .bool s.p.Le:: .bool s.p.Fo:: .bool s.p.Si:: .bool s.p.Ft:: .int .u8 s.p.Lw:: .int .u8 s.p.Hg:: .bool s.p.Au:: .bool s.p.Ro:: .bool s.p.Sp:: .bool s.p.RI:: .bool s.p.Po:: .int .u8 s.p.Li:: .int .u8 s.p.Ed:: .int .u8 s.p.IS:: .int .u8 s.p.IM:: .int .i64 s.p.Lo:: .int .i64 s.p.Sq:: .int .i64 s.p.Sv:: .bool s.p.Su:: .int .u16 s.da:: .int .u8 s.dv:: .int .i64 s.dl:: .int .i64 s.wt:: .slice s.oa s.on s.oc::[])):=(HJ3.out.t.row (by have:=HW.out.bs;omega) (far _ (by omega) (by omega))).trans HW.out.r6
     have p6:=row_lt h6 (by simp)
     go_wp2_with fail
     go_roundw
     case rel=>
      have hP:=HP.out
      have hit:=S.itm_ok HW.out.sy.k.c HW.out.sy.k.y st mo.da HST.out.2.2
      have hpk:S.PnOk P:=hP▸S.pn_ok _ _ _ hit.1 hit.2 HST1.out
      rw [HW.out.ch] at hP
      have hinv:=HW.out.inv.step HW.out.sy.k.y (by have:=HK.out;have:=HDL.out;omega) HST.out.2.2 HST.out.2.1 st HST0.out.symm
      rw [hP] at hinv
      exact ⟨k+1,y,z1,m1,os1,r3,tl++[P],S.add il s.k st mo.da,vl3,ul3,by go_num,by omega,Lib.hid ⟨by rw [List.length_append];have:=HK.out;simp;omega,by have:=HK.out;have:=HL3.out;omega,by have:=HK.out;have:=HL3.out;omega,fun p hp=>(List.mem_append.1 hp).elim (HK.out.2.2.2 p) (fun q=>(List.mem_singleton.1 q)▸hpk)⟩,RuJ.next HW.out HJ3.out HO6.out hinv (HST.out.1.trans HW.out.ch)⟩
     case measure=>simp [intOf];omega
   ·have hkd:k=dn:=by omega
    subst hkd
    have q1:decide ((k:Int) < (k:Int))=false:=by simp
    have HE:=Lib.hid HW.out.fin
    have r6:=HE.out.r6
    have r9:=HW.out.r9
    have p6:=row_lt r6 (by simp)
    have p9:=row_lt r9 (by simp)
    have prb:=HE.out.run.rlt
    have crb:=rowOf_cell (i:=3) (v:=.slice r.ua r.un r.uc) HE.out.run.row rfl
    go_upto_if 84 with (go_at_call 39;refine (busy_any s.k HW.out.sy.k.gc).mono ?_;rintro e w' ⟨bb,rfl,⟨⟨nb,osb⟩,rfl⟩⟩)
    go_cut [] from 17 to 115 (fun wx=>∃(r1:S.Rn) (vl1:List S.Ev) (ul1:List S.Cp),Hid (RuE w b6 rb base s r1 tl il vl1 ul1 wx))
    case first=>
     cases bb
     ·clear crb r6 r9
      go_wp2_with fail
      go_meet
      exact ⟨r,vl,ul,HE.out.adds aD⟩
     ·go_upto_if 90 with fail
      have hbs:=HE.out.bs
      refine wp_forget (RuF w b6 rb base s r tl il vl ul (wr.heap.size+osb.size) c9 z) ⟨HE.out.adds aD,by simp [go_sem],by omega,fun e=>by have:=(HW.out.run.olt e).1;omega,HW.out.sy.k.adds aD,HW.out.so.1.lt HW.out.sy.k.held.blt (fun j e=> .inr (by omega))⟩ ?_
      clear crb r6 r9 p6 p9 prb hbs
      generalize wr.heap.size+osb.size=b17
      intro ww hF
      have HF:=Lib.hid hF
      have HGN:=Lib.hid (show s.k.gn≤999999 by have:=HW.out.sy.gl;have:=HDL.out;omega)
      have HLN:=Lib.hid (show vl.length≤900000∧ul.length≤900000 by have:=HK.out;have:=HDL.out;omega)
      clear HE HW HK HDL
      go_cut [] from 89 to 96 (fun wx=>∃c1:S.Cp,Hid (RuF w b6 rb base s r tl il vl ul b17 c1 z wx))
      case first=>
       by_cases hu:(0:Int) < (r.un:Int)
       ·obtain ⟨g,hg,_,gl⟩:=hF.e.run.u.head (by omega)
        have hlen:=hF.e.run.u.len
        obtain ⟨m1,hm⟩:∃m1:Nat,r.un=m1+1:=⟨r.un - 1,by omega⟩
        obtain ⟨cl,hcl⟩:∃cl,ul[m1]? =some cl:=get_el (by omega)
        have hO:=hF.e.run.u
        rw [hg] at hO
        obtain ⟨_,_,_,_,hc1,hc2,_⟩:=hO.elim
        have q4:(r.un:Int)≤9223372036854775807:=by simp only [maxLen] at hc2;omega
        have hload:(wholeVar 56 ⟨g,m1 * 28,none⟩).run Tryz.prog ww=.ok (.agg #[.int .i64 cl.Ch,.int .u8 cl.A,.int .u8 cl.B,.int .u8 cl.C,.int .u8 cl.D,.int .u8 cl.E,.int .u8 cl.H,.int .u8 cl.L,.bool cl.fS,.bool cl.fZ,.bool cl.fK,.bool cl.fAC,.bool cl.fP,.bool cl.fV,.bool cl.fCY,.int .u16 cl.SP,.int .u16 cl.PC,.bool cl.IE,.bool cl.De,.bool cl.Ha,.int .u8 cl.Ma,.bool cl.Tr,.bool cl.R7,.bool cl.WT,.bool cl.W7,.bool cl.Sa,.bool cl.SI,.bool cl.SO]) ww:=AtU.load hO.at_ hcl (m1 * 28) (by omega)
        have crb':=rowOf_cell (i:=3) (v:=.slice (some ⟨g,0,none⟩) r.un r.uc) hF.e.run.row (by rw [←hg];rfl)
        have q1:(r.un:Int) - 1=(m1:Int):=by omega
        have q2:(m1:Int) < (r.un:Int):=by omega
        have q3:(0:Int)≤(m1:Int):=by omega
        have r17:=hF.r17
        have HM:=Lib.hid hm
        clear hm hO hcl hlen hg hF
        go_wp2_with fail
        go_meet
        have hsz:0 < (rowOf ww b17).size:=by rw [r17];simp
        have hT:=fun c=>Tch.setRow (S:=fun k=>k=b17) (Tch.refl _ ww) b17 c (fun _=>rfl)
        have hn:=HF.out.n
        have hO:∀k,k=b17→¬RnO rb r k:=fun k e q=>hn (e▸q)
        exact ⟨cl,⟨HF.out.e.step (hT _) (fun j e=> .inr (e▸HF.out.b)) (HF.out.e.run.tch (hT _) hO),rowOf_setRow_same _ _ _ hsz,HF.out.b,hn,HF.out.k.tch (hT _) HF.out.o,HF.out.o⟩⟩
       ·clear hF
        go_wp2_with fail
        go_meet
        exact ⟨c9,HF⟩
      case rest=>
       clear HF hF
       obtain ⟨c1,HF⟩:=hcut
       have hbs:=HF.out.e.bs
       have prb:=HF.out.e.run.rlt
       have p6:=row_lt HF.out.e.r6 (by simp)
       go_wp2_with fail
       refine wp_region_noPanic ?_
       refine Til.begin (T:=fun W=>W.cell? ⟨rb,2,none⟩=some (.slice r.ea r.en r.ec)∧W.cell? ⟨b6,28,none⟩=some (.int .i64 s.k.src)∧W.cell? ⟨b6,29,none⟩=some (.slice s.k.ga s.k.gn s.k.gc)) (st:=[13]) (by kernel_rfl) (by (try dsimp only);exact (HF.out.e.adds aD).tw) (fun hHeld=> ?_)
       (refine Til.takeAny (i:=0) (oi:=_) (v:=?_) rfl (by kernel_rfl) (by kernel_rfl) (by kernel_rfl) (by kernel_rfl) (fun _ _ _ h=>h) (Or.inl ⟨by kernel_rfl,?_⟩) (by assumption) ?_;rotate_left;focus (intro w hSw;go_simp;(try with_reducible rfl);done);(try simp only [Act.put,List.setIfInBounds_toArray,List.set_cons_zero,List.set_cons_succ]))
       (refine Til.takeAny (i:=2) (oi:=_) (v:=?_) rfl (by kernel_rfl) (by kernel_rfl) (by kernel_rfl) (by kernel_rfl) (fun _ _ _ h=>h) (Or.inl ⟨by kernel_rfl,?_⟩) (by assumption) ?_;rotate_left;focus (intro w hSw;go_simp;(try with_reducible rfl);done);(try simp only [Act.put,List.setIfInBounds_toArray,List.set_cons_zero,List.set_cons_succ]))
       (refine Til.takeAny (i:=3) (oi:=_) (v:=?_) rfl (by kernel_rfl) (by kernel_rfl) (by kernel_rfl) (by kernel_rfl) (fun _ _ _ h=>h) (Or.inl ⟨by kernel_rfl,?_⟩) (by assumption) ?_;rotate_left;focus (intro w hSw;go_simp;(try with_reducible rfl);done);(try simp only [Act.put,List.setIfInBounds_toArray,List.set_cons_zero,List.set_cons_succ]))
       (refine Til.takeAny (i:=5) (oi:=_) (v:=?_) rfl (by kernel_rfl) (by kernel_rfl) (by kernel_rfl) (by kernel_rfl) (fun _ _ _ h=>h) (Or.inl ⟨by kernel_rfl,?_⟩) (by assumption) ?_;rotate_left;focus (intro w hSw;go_simp;(try with_reducible rfl);done);(try simp only [Act.put,List.setIfInBounds_toArray,List.set_cons_zero,List.set_cons_succ]))
       (refine Til.takeAny (i:=6) (oi:=_) (v:=?_) rfl (by kernel_rfl) (by kernel_rfl) (by kernel_rfl) (by kernel_rfl) (fun _ _ _ h=>h) (Or.inl ⟨by kernel_rfl,?_⟩) (by assumption) ?_;rotate_left;focus (intro w hSw;go_simp;(try with_reducible rfl);done);(try simp only [Act.put,List.setIfInBounds_toArray,List.set_cons_zero,List.set_cons_succ]))
       (refine Til.take (i:=1) (oi:=_) (v:=?_) rfl (by kernel_rfl) (by kernel_rfl) (by kernel_rfl) (by kernel_rfl) (by kernel_rfl) (fun _ _ _ h=>h) (Or.inl ⟨by kernel_rfl,?_⟩) (by assumption) ?_;rotate_left;focus (intro w hSw;(try dsimp only at hSw);go_simp;(try with_reducible rfl);done);(try simp only [Act.put,List.setIfInBounds_toArray,List.set_cons_zero,List.set_cons_succ]))
       (refine Til.take (i:=4) (oi:=_) (v:=?_) rfl (by kernel_rfl) (by kernel_rfl) (by kernel_rfl) (by kernel_rfl) (by kernel_rfl) (fun _ _ _ h=>h) (Or.inl ⟨by kernel_rfl,?_⟩) (by assumption) ?_;rotate_left;focus (intro w hSw;(try dsimp only at hSw);go_simp;(try with_reducible rfl);done);(try simp only [Act.put,List.setIfInBounds_toArray,List.set_cons_zero,List.set_cons_succ]))
       (refine Til.take (i:=7) (oi:=_) (v:=?_) rfl (by kernel_rfl) (by kernel_rfl) (by kernel_rfl) (by kernel_rfl) (by kernel_rfl) (fun _ _ _ h=>h) (Or.inl ⟨by kernel_rfl,?_⟩) (by assumption) ?_;rotate_left;focus (intro w hSw;(try dsimp only at hSw);go_simp;(try with_reducible rfl);done);(try simp only [Act.put,List.setIfInBounds_toArray,List.set_cons_zero,List.set_cons_succ]))
       refine Til.ready (rs:=[8]) (by kernel_rfl) (by simp) ?_
       refine TilAll.cons rfl (fun K hK=> ?_) TilAll.nil
       (refine step_appBH rfl _ _ (by rfl) base (.slice none 0 0) [] (by rfl) (OwnsG.nil _ _) s.k.ga s.k.gn s.k.gc z (by kernel_rfl) (HF.out.k.held.adds aD) HF.out.k.gc.1 HF.out.k.nn (by have:=HGN.out;have:=HF.out.k.held.1;simp;omega) (Nat.le_trans hbs (Adds.size aD)) ?_;intro v1 w1 hO1 hG1 hW1;obtain ⟨⟨na,osa⟩,rfl⟩:=adds_no hG1;obtain ⟨a1,m1,k1,rfl,_⟩:=hO1.form2;clear hO1 hG1 hW1)
       refine hK.out _ _ (by (try dsimp only);exact (HF.out.e.adds aD).tw) (fun hHeld=> ?_)
       clear hK K
       (try simp only [Act.put,List.setIfInBounds_toArray,List.set_cons_zero,List.set_cons_succ])
       (refine Til.takeAny (i:=9) (oi:=_) (v:=?_) rfl (by kernel_rfl) (by kernel_rfl) (by kernel_rfl) (by kernel_rfl) (fun _ _ _ h=>h) (Or.inl ⟨by kernel_rfl,?_⟩) (by assumption) ?_;rotate_left;focus (intro w hSw;go_simp;(try with_reducible rfl);done);(try simp only [Act.put,List.setIfInBounds_toArray,List.set_cons_zero,List.set_cons_succ]))
       refine Til.ready (rs:=[10]) (by kernel_rfl) (by simp) ?_
       refine TilAll.cons rfl (fun K hK=> ?_) TilAll.nil
       go_simp
       (skip)
       refine hK.out _ _ (by (try dsimp only);exact (HF.out.e.adds aD).tw) (fun hHeld=> ?_)
       clear hK K
       (try simp only [Act.put,List.setIfInBounds_toArray,List.set_cons_zero,List.set_cons_succ])
       refine Til.ready (rs:=[11]) (by kernel_rfl) (by simp) ?_
       refine TilAll.cons rfl (fun K hK=> ?_) TilAll.nil
       (refine step_appVH rfl _ _ (by rfl) base (.slice r.ea r.en r.ec) vl (by rfl) (HF.out.e.run.e.adds aD) (some ⟨_,0,none⟩) 1 1 [S.evOpen s.k.src a1 m1 k1] (by rfl) (held_at (cs:=csV) (S.evOpen s.k.src a1 m1 k1) (c:=(S.evOpen s.k.src a1 m1 k1).l.toArray) (by rfl) (by simp [go_sem,S.evOpen]) (by simp [S.evOpen])) (Nat.le_refl _) (fun h=>by cases h) (by have:=HLN.out;omega) (Nat.le_trans hbs (Adds.size aD)) ?_;intro v2 w2 hO2 hG2 hN2;obtain ⟨ea2,en2,ec2,rfl,_⟩:=hO2.form2;have HT1:=Lib.hid (RuE.gr (HF.out.e.adds (show Adds wc _ from aD)) hG2);have HA2:=Lib.hid (show Adds wc _ from aD);have HO2:=Lib.hid hO2;have HG2:=Lib.hid hG2;have HN2:=Lib.hid hN2;clear hO2 hG2 hN2)
       refine hK.out _ _ (by (try dsimp only);exact HT1.out.2) (fun hHeld=> ?_)
       clear hK K
       (try simp only [Act.put,List.setIfInBounds_toArray,List.set_cons_zero,List.set_cons_succ])
       (refine Til.takeAny (i:=12) (oi:=_) (v:=?_) rfl (by kernel_rfl) (by kernel_rfl) (by kernel_rfl) (by kernel_rfl) (fun _ _ _ h=>h) (Or.inl ⟨by kernel_rfl,?_⟩) (by assumption) ?_;rotate_left;focus (intro w hSw;go_simp;(try with_reducible rfl);done);(try simp only [Act.put,List.setIfInBounds_toArray,List.set_cons_zero,List.set_cons_succ]))
       have cr2:=HT1.out.2.1
       have fr2:w2.frozen? ⟨rb,2,none⟩=false:=row_frozen HT1.out.1 (by simp) 2
       refine Til.ready (rs:=[13]) (by kernel_rfl) (by simp) ?_
       refine TilAll.store rfl (by kernel_rfl) (fun K hK=> ?_) TilAll.nil
       go_simp
       refine hK.out _ _ ?_
       clear hK K
       (try simp only [Act.put,List.setIfInBounds_toArray,List.set_cons_zero,List.set_cons_succ])
       refine Til.done (by kernel_rfl) ?_ _
       refine NoPanic.normal ?_
       try clear hHeld
       refine exit_forget (fun W=>∃(r2:S.Rn) (vl2:List S.Ev),RuE w b6 rb base s r2 tl il vl2 ul W∧rowOf W b17=#[.int .i64 c1.Ch,.int .u8 c1.A,.int .u8 c1.B,.int .u8 c1.C,.int .u8 c1.D,.int .u8 c1.E,.int .u8 c1.H,.int .u8 c1.L,.bool c1.fS,.bool c1.fZ,.bool c1.fK,.bool c1.fAC,.bool c1.fP,.bool c1.fV,.bool c1.fCY,.int .u16 c1.SP,.int .u16 c1.PC,.bool c1.IE,.bool c1.De,.bool c1.Ha,.int .u8 c1.Ma,.bool c1.Tr,.bool c1.R7,.bool c1.WT,.bool c1.W7,.bool c1.Sa,.bool c1.SI,.bool c1.SO]) (by
        obtain ⟨k1,k2,k3⟩:=HF.out.e.run.evs ((Tch.of_adds (show Adds wc _ from aD)).out (Tch.of_grown HG2.out (fun _ e=>e))) HO2.out (fun g e=>(HN2.out g e).imp id (Nat.le_trans (Adds.size aD)))
        exact ⟨_,_,HF.out.e.step k2 (fun j e=>(HF.out.e.run.olt e).2) k1,(k2.row (row_lt HF.out.r17 (by simp)) HF.out.n).trans HF.out.r17⟩) ?_
       clear HO2 HG2 HN2 HA2 HT1 cr2 fr2 prb HF p6 hbs
       rintro we ⟨r2,vl2,hE,r17⟩
       have HE:=Lib.hid hE
       clear hE
       have prb:=HE.out.run.rlt
       have p17:=row_lt r17 (by simp)
       have crb:=rowOf_cell (i:=3) (v:=.slice r2.ua r2.un r2.uc) HE.out.run.row rfl
       have hbs:=HE.out.bs
       go_wp2_with (at_builtin;refine wpList_appUH rfl _ _ rfl base (.slice r2.ua r2.un r2.uc) ul rfl (HE.out.run.u.adds aD) (some ⟨_,0,none⟩) 1 1 [c1] rfl (held_at (cs:=csU) c1 (c:=#[.int .i64 c1.Ch,.int .u8 c1.A,.int .u8 c1.B,.int .u8 c1.C,.int .u8 c1.D,.int .u8 c1.E,.int .u8 c1.H,.int .u8 c1.L,.bool c1.fS,.bool c1.fZ,.bool c1.fK,.bool c1.fAC,.bool c1.fP,.bool c1.fV,.bool c1.fCY,.int .u16 c1.SP,.int .u16 c1.PC,.bool c1.IE,.bool c1.De,.bool c1.Ha,.int .u8 c1.Ma,.bool c1.Tr,.bool c1.R7,.bool c1.WT,.bool c1.W7,.bool c1.Sa,.bool c1.SI,.bool c1.SO]) rfl (by simp [go_sem]) (by simp)) (Nat.le_refl _) (fun h=>by cases h) (by have:=HLN.out;omega) (Nat.le_trans hbs (Adds.size aD)) ?_;intro v5 w5 hO5 hG5 hN5;obtain ⟨ua5,un5,uc5,rfl,_⟩:=hO5.form2;have HO5:=Lib.hid hO5;have HG5:=Lib.hid hG5;have HN5:=Lib.hid hN5;clear hO5 hG5 hN5;have hr5:rowOf w5 rb=(List.toArray (.slice r2.ta r2.tn r2.tc:: .slice r2.ia r2.ni r2.ic:: .slice r2.ea r2.en r2.ec:: .slice r2.ua r2.un r2.uc:: .int .i64 r2.s.k.c.Ch:: .int .u8 r2.s.k.c.A:: .int .u8 r2.s.k.c.B:: .int .u8 r2.s.k.c.C:: .int .u8 r2.s.k.c.D:: .int .u8 r2.s.k.c.E:: .int .u8 r2.s.k.c.H:: .int .u8 r2.s.k.c.L:: .bool r2.s.k.c.fS:: .bool r2.s.k.c.fZ:: .bool r2.s.k.c.fK:: .bool r2.s.k.c.fAC:: .bool r2.s.k.c.fP:: .bool r2.s.k.c.fV:: .bool r2.s.k.c.fCY:: .int .u16 r2.s.k.c.SP:: .int .u16 r2.s.k.c.PC:: .bool r2.s.k.c.IE:: .bool r2.s.k.c.De:: .bool r2.s.k.c.Ha:: .int .u8 r2.s.k.c.Ma:: .bool r2.s.k.c.Tr:: .bool r2.s.k.c.R7:: .bool r2.s.k.c.WT:: .bool r2.s.k.c.W7:: .bool r2.s.k.c.Sa:: .bool r2.s.k.c.SI:: .bool r2.s.k.c.SO:: .int .i64 r2.s.k.src:: .slice r2.s.k.ga r2.s.k.gn r2.s.k.gc:: .int .i64 r2.s.k.y.k:: .int .u16 r2.s.k.y.a:: .int .u8 r2.s.k.y.d:: .int .i64 r2.s.k.y.s:: .int .i64 r2.s.k.nx:: .bool r2.s.k.ho:: .slice r2.s.ma r2.s.mn r2.s.mc:: .int .i64 r2.s.p.St:: .bool r2.s.p.Le:: .bool r2.s.p.Fo:: .bool r2.s.p.Si:: .bool r2.s.p.Ft:: .int .u8 r2.s.p.Lw:: .int .u8 r2.s.p.Hg:: .bool r2.s.p.Au:: .bool r2.s.p.Ro:: .bool r2.s.p.Sp:: .bool r2.s.p.RI:: .bool r2.s.p.Po:: .int .u8 r2.s.p.Li:: .int .u8 r2.s.p.Ed:: .int .u8 r2.s.p.IS:: .int .u8 r2.s.p.IM:: .int .i64 r2.s.p.Lo:: .int .i64 r2.s.p.Sq:: .int .i64 r2.s.p.Sv:: .bool r2.s.p.Su:: .int .u16 r2.s.da:: .int .u8 r2.s.dv:: .int .i64 r2.s.dl:: .int .i64 r2.s.wt:: .slice r2.s.oa r2.s.on r2.s.oc::[])):=(Tch.row (Tch.out (Tch.of_adds (show Adds we _ from aD)) (Tch.of_grown (S:=fun k=>(Value.slice r2.ua r2.un r2.uc).ownBlock=some k) HG5.out (fun _ e=>e))) prb (fun e=>by have:=(HE.out.run.u.lt2 e).1;have:=HE.out.d;omega)).trans HE.out.run.row;have cr5:=rowOf_cell (i:=3) (v:=.slice r2.ua r2.un r2.uc) hr5 rfl;have fr5:=row_frozen hr5 (by simp) 3)
       go_meet
       obtain ⟨k1,k2⟩:=HE.out.run.cpus ((Tch.of_adds (show Adds we _ from aD)).out (Tch.of_grown HG5.out (fun _ e=>e))) HO5.out (fun g e=>(HN5.out g e).imp id (Nat.le_trans (Adds.size aD)))
       exact ⟨_,_,_,HE.out.step k2 (fun j e=>(HE.out.run.olt e).2) k1⟩
    case rest=>
     clear HE r6 r9 p6 p9 prb crb
     obtain ⟨r1,vl1,ul1,HE⟩:=hcut
     have r6:=HE.out.r6
     have r8:=HE.out.run.row
     have r4:=HE.out.r4
     have p6:=row_lt r6 (by simp)
     have prb:=HE.out.run.rlt
     have p4:w.heap.size+1 < wc.heap.size:=row_lt (c:=rowOf wc (w.heap.size+1)) rfl (by omega)
     go_upto_region 27 with fail
     refine wp_forget (fun W=>RuE w b6 rb base s (r1.fin s) tl il vl1 ul1 W) ?_ ?_
     ·exact HE.out.step (Tch.setRow (S:=fun k=>k=rb) (Tch.refl _ wc) rb _ (fun _=>rfl)) (fun j e=> .inl e) (HE.out.run.sys s (by simp [S.Rn.fin]))
     ·clear HE r6 r8 r4 p6 prb p4
      intro wf hE
      have HE:=Lib.hid hE
      have r8:=hE.run.row
      have r4:=hE.r4
      have prb:=hE.run.rlt
      have p4:w.heap.size+1 < wf.heap.size:=row_lt (c:=rowOf wf (w.heap.size+1)) rfl (by omega)
      clear hE
      go_wp2_with fail
      have hr:=HE.out.run.row
      refine bodyPost_ret (ret3_Run Tryz.results17 rfl rfl (rowOf_setRow_same _ _ _ (by omega)) (by simp)) rfl ?_
      have hT:∀cs,Tch (fun j=>j=w.heap.size+1) wf (wf.setRow (w.heap.size+1) cs):=fun cs=>Tch.setRow (Tch.refl _ wf) (w.heap.size+1) cs (fun _=>rfl)
      have d:=HE.out.d
      exact ⟨r1.fin s,tl,il,s.k,0,rfl,(HE.out.run.t.tch (hT _) (fun g e q=>by have:=(HE.out.run.t.lt2 e).1;omega)).mono (by omega),(HE.out.run.i.tch (hT _) (fun g e q=>by have:=(HE.out.run.i.lt2 e).1;omega)).mono (by omega),HW.out.inv,by have:=HK.out.1;have:=HDL.out;omega,HK.out.2.2.2,Adds.setRowK HE.out.a (by omega) _⟩
 ·refine wp_forget (fun W=>Adds w W∧(rowOf W (w.heap.size+1)).size=66) ⟨aD,by simp [go_sem,zrun_size]⟩ ?_
  rintro wc ⟨hA,s1⟩
  have HA:=Lib.hid hA
  clear hA hy
  go_wp2_with fail
  refine bodyPost_ret (ret3_Run (cs:=Tryz.zeroCells69) Tryz.results17 rfl rfl (rowOf_setRow_same _ _ _ (by show 0 < (rowOf wc (w.heap.size+1)).size;omega)) zrun_size) rfl ?_
  exact ⟨S.Rn.zero,[],[],⟨⟨0,0,0,0,0,0,0,0,false,false,false,false,false,false,false,0,0,false,false,false,0,false,false,false,false,false,false,false⟩,0,none,0,0,⟨0,0,0,0⟩,1,false⟩,e0,by rw [zrun_row];rfl,OwnsG.nil _ _,OwnsG.nil _ _,S.Inv.start _ _ rfl,Nat.zero_le _,fun p hp=>(by cases hp),Adds.setRowK (b:=w.heap.size+1) HA.out (by omega) _⟩
end
end Go.Proofs.YteggjjhjmhccjaaGreatDoor
