/- Texts that the proofs of the statements on dumps rest on, joined. Conditions stand in each theorem. -/
import Derived.Test.YteggjjhjmhccjaaGreatDoorQ03
import Derived.Test.YteggjjhjmhccjaaGreatDoorQ43
import Derived.Test.YteggjjhjmhccjaaGreatDoorQ31
import Derived.Maps.AppendAt
set_option linter.unusedVariables false
set_option linter.unusedSimpArgs false
set_option maxRecDepth 100000
set_option maxHeartbeats 8000000
namespace Go.Proofs.YteggjjhjmhccjaaGreatDoor
open Go.ChangeShapes Go.WideShapes Go.ChangeAt Go.RowKit
section
variable {b:Nat} {w:World}
theorem bvalidate_any (b:S.Bd) (l:List K12.Rg) (im:List K12.Cl) (h:BdOk b l w) (hi:K12.Held w b.ia b.ni im):Calls Tryz.prog 57 #[.agg #[.int .i64 b.ch,.slice b.ra b.rn b.rc,.int .i64 b.iw,.int .u8 b.pp,.int .u8 b.dp,.bool b.jm,.slice b.ia b.ni b.ic]] w (PostI w):=by
 have H:=Lib.hid h
 have HI:=Lib.hid hi
 clear h hi
 by_cases h1:b.ch=1<;>by_cases h2:b.ch=2<;>by_cases h3:b.iw < 0<;>by_cases h4:100 < b.iw
 all_goals
  try (exfalso;omega)
 all_goals
  go_enter Tryz.func57,Tryz.ntmps57
  go_wp2_with (first
   |(go_at_call 88;refine ad (K12.rrgval_any (H.out.r.adds aD)) fun n1 os1=> ?_)
   |(go_at_call 55;refine ad (K12.rvalid_any _ _ _ _ _ (HI.out.adds aD)) fun n2 os2=> ?_)
   |fail)
 all_goals
  go_ret
  exact ⟨_,rfl,aD⟩
theorem Adds.setRowK {w':World} (h:Adds w w') (hb:w.heap.size≤b) (cs:Array Value):Adds w (w'.setRow b cs):=by
 obtain ⟨⟨n,os⟩,rfl⟩:=h
 have e:(More w n os).setRow b cs=(More w n os).setRow b cs:=rfl
 conv at e=>rhs;simp only [World.setRow,More];rw [modify_right _ _ _ _ hb]
 exact ⟨⟨n,_⟩,e⟩
def PostNw (b:S.Bd) (w:World) (e:Ending) (w':World):Prop:=∃(y:S.Sy) (e0:Int),e=.returned (.tuple #[.agg (List.toArray (.int .i64 y.k.c.Ch:: .int .u8 y.k.c.A:: .int .u8 y.k.c.B:: .int .u8 y.k.c.C:: .int .u8 y.k.c.D:: .int .u8 y.k.c.E:: .int .u8 y.k.c.H:: .int .u8 y.k.c.L:: .bool y.k.c.fS:: .bool y.k.c.fZ:: .bool y.k.c.fK:: .bool y.k.c.fAC:: .bool y.k.c.fP:: .bool y.k.c.fV:: .bool y.k.c.fCY:: .int .u16 y.k.c.SP:: .int .u16 y.k.c.PC:: .bool y.k.c.IE:: .bool y.k.c.De:: .bool y.k.c.Ha:: .int .u8 y.k.c.Ma:: .bool y.k.c.Tr:: .bool y.k.c.R7:: .bool y.k.c.WT:: .bool y.k.c.W7:: .bool y.k.c.Sa:: .bool y.k.c.SI:: .bool y.k.c.SO:: .int .i64 y.k.src:: .slice y.k.ga y.k.gn y.k.gc:: .int .i64 y.k.y.k:: .int .u16 y.k.y.a:: .int .u8 y.k.y.d:: .int .i64 y.k.y.s:: .int .i64 y.k.nx:: .bool y.k.ho:: .slice y.ma y.mn y.mc:: .int .i64 y.p.St:: .bool y.p.Le:: .bool y.p.Fo:: .bool y.p.Si:: .bool y.p.Ft:: .int .u8 y.p.Lw:: .int .u8 y.p.Hg:: .bool y.p.Au:: .bool y.p.Ro:: .bool y.p.Sp:: .bool y.p.RI:: .bool y.p.Po:: .int .u8 y.p.Li:: .int .u8 y.p.Ed:: .int .u8 y.p.IS:: .int .u8 y.p.IM:: .int .i64 y.p.Lo:: .int .i64 y.p.Sq:: .int .i64 y.p.Sv:: .bool y.p.Su:: .int .u16 y.da:: .int .u8 y.dv:: .int .i64 y.dl:: .int .i64 y.wt:: .slice y.oa y.on y.oc::[])),.int .i64 e0])∧Adds w w'∧(e0=0→∃(z:List Int) (m:List K12.Cl),SyOk 1000 y z m [] w'∧y.k.nx=1∧y.k.c.Ch=b.ch∧Nw w.heap.size y.k.ga y.k.gn∧Nw w.heap.size y.ma y.mn∧Nw w.heap.size y.oa y.on)
theorem tch_row (w:World) (b:Nat) (hb:b < w.heap.size) (cs:Array Value) (n:Nat) (os:Array Obj):Tch (fun k=>k=b) (More w n os) (More (w.setRow b cs) n os):=by
 rw [←setRow_More w n os b cs hb];exact Tch.setRow (Tch.refl _ _) b cs (fun _=>rfl)
theorem tch_row2 (w:World) (hb:b < w.heap.size) (cs:Array Value) (n:Nat) (os:Array Obj) (n2:Nat) (os2:Array Obj):Tch (fun k=>k=b) (More (More w n os) n2 os2) (More (More (w.setRow b cs) n os) n2 os2):=by
 have:=tch_row (More w n os) b (Nat.lt_of_lt_of_le hb (Adds.size aD)) cs n2 os2
 rwa [setRow_More w n os b cs hb] at this
theorem new_fin {b:S.Bd} {wc:World} {im:List K12.Cl} (hA:Adds w wc) (p1:w.heap.size+1 < wc.heap.size) (cs:Array Value) {q:S.Co} {z:List Int} {n2 n3 n4:Nat} {os2 os3 os4:Array Obj} (hq:CoOk q z (More wc n2 os2)) (h1:q.nx=1∧q.gn=0∧q.c.Ch=b.ch) {a1:Option Addr} {cap1:Nat}
 (hO:K12.Owns (More (More wc n2 os2) n3 os3) (More wc n2 os2).heap.size (.slice a1 (K12.Sm.nrm im).length cap1) (K12.Sm.nrm im)) (hc:(K12.Sm.nrm im).length≤cap1∧cap1≤9223372036854775807) (hl:im.length≤1000) (hb:∀y,0≤K12.Sm.get im y∧K12.Sm.get im y < 256) (y:S.Sy) (hy:y=⟨q,a1,(K12.Sm.nrm im).length,cap1,K22.S.nw,0,0,0,0,none,0,0⟩):
 PostNw b w (.returned (.tuple #[.agg (List.toArray (.int .i64 y.k.c.Ch:: .int .u8 y.k.c.A:: .int .u8 y.k.c.B:: .int .u8 y.k.c.C:: .int .u8 y.k.c.D:: .int .u8 y.k.c.E:: .int .u8 y.k.c.H:: .int .u8 y.k.c.L:: .bool y.k.c.fS:: .bool y.k.c.fZ:: .bool y.k.c.fK:: .bool y.k.c.fAC:: .bool y.k.c.fP:: .bool y.k.c.fV:: .bool y.k.c.fCY:: .int .u16 y.k.c.SP:: .int .u16 y.k.c.PC:: .bool y.k.c.IE:: .bool y.k.c.De:: .bool y.k.c.Ha:: .int .u8 y.k.c.Ma:: .bool y.k.c.Tr:: .bool y.k.c.R7:: .bool y.k.c.WT:: .bool y.k.c.W7:: .bool y.k.c.Sa:: .bool y.k.c.SI:: .bool y.k.c.SO:: .int .i64 y.k.src:: .slice y.k.ga y.k.gn y.k.gc:: .int .i64 y.k.y.k:: .int .u16 y.k.y.a:: .int .u8 y.k.y.d:: .int .i64 y.k.y.s:: .int .i64 y.k.nx:: .bool y.k.ho:: .slice y.ma y.mn y.mc:: .int .i64 y.p.St:: .bool y.p.Le:: .bool y.p.Fo:: .bool y.p.Si:: .bool y.p.Ft:: .int .u8 y.p.Lw:: .int .u8 y.p.Hg:: .bool y.p.Au:: .bool y.p.Ro:: .bool y.p.Sp:: .bool y.p.RI:: .bool y.p.Po:: .int .u8 y.p.Li:: .int .u8 y.p.Ed:: .int .u8 y.p.IS:: .int .u8 y.p.IM:: .int .i64 y.p.Lo:: .int .i64 y.p.Sq:: .int .i64 y.p.Sv:: .bool y.p.Su:: .int .u16 y.da:: .int .u8 y.dv:: .int .i64 y.dl:: .int .i64 y.wt:: .slice y.oa y.on y.oc::[])),.int .i64 0])) (More (More (More (wc.setRow (w.heap.size+1) cs) n2 os2) n3 os3) n4 os4):=by
 subst hy
 have hlen:=K12.Sm.nrm_len im
 have hs:w.heap.size≤(More wc n2 os2).heap.size:=Nat.le_trans hA.size (Adds.size aD)
 have hnw:=K12.Owns.nw hO
 refine ⟨⟨q,a1,(K12.Sm.nrm im).length,cap1,K22.S.nw,0,0,0,0,none,0,0⟩,0,rfl,?_,fun _=>⟨z,K12.Sm.nrm im,⟨?_,?_,?_,hc,by show (K12.Sm.nrm im).length≤_;omega,fun y=>by rw [K12.Sm.get_nrm];exact hb y,Okq.nw,⟨by show (0:Int)≤0;omega,by show (0:Int) < _;omega⟩,⟨by show (0:Int)≤0;omega,by show (0:Int) < _;omega⟩,⟨by show (0:Int)≤0;omega,by show (0:Int) < _;omega⟩,HeldG.nil _ _,⟨Nat.le_refl _,Nat.zero_le _⟩,Nat.zero_le _,fun _=>rfl⟩,h1.1,h1.2.2,by show Nw _ _ q.gn;rw [h1.2.1];exact Nw.nil _ _,hnw.mono hs,Nw.nil _ _⟩⟩
 ·exact (Adds.setRowK (b:=w.heap.size+1) hA (by omega) cs).trans aD
 ·exact (hq.tch (tch_row wc _ p1 cs n2 os2) (by rw [h1.2.1];exact Off.nil _ _)).adds aD
 ·show q.gn≤_;rw [h1.2.1];exact Nat.zero_le _
 ·exact ((hO.held (by omega)).tch (tch_row2 wc p1 cs n2 os2 n3 os3) (Off.of_nw hnw (fun k e=>by have:wc.heap.size≤(More wc n2 os2).heap.size:=Adds.size aD;omega))).adds aD
theorem bnew_any (b:S.Bd) (l:List K12.Rg) (im:List K12.Cl) (h:BdOk b l w) (hi:K12.Held w b.ia b.ni im) (hl:b.ni≤1000) (hb:∀y,0≤K12.Sm.get im y∧K12.Sm.get im y < 256):Calls Tryz.prog 32 #[.agg #[.int .i64 b.ch,.slice b.ra b.rn b.rc,.int .i64 b.iw,.int .u8 b.pp,.int .u8 b.dp,.bool b.jm,.slice b.ia b.ni b.ic]] w (PostNw b w):=by
 have H:=Lib.hid h
 have HI:=Lib.hid hi
 have HL:=Lib.hid hl
 have HB:=Lib.hid hb
 clear h hi hl hb
 go_enter Tryz.func32,Tryz.ntmps32
 go_upto_if 8 with (go_at_call 57;refine (bvalidate_any b l im (H.out.adds aD) (HI.out.adds aD)).mono ?_;rintro e w' ⟨e0,rfl,⟨⟨n1,os1⟩,rfl⟩⟩)
 rcases he:(e0 !=0) with _|_
 ·refine wp_forget (fun W=>Adds w W∧rowOf W w.heap.size=#[.int .i64 b.ch,.slice b.ra b.rn b.rc,.int .i64 b.iw,.int .u8 b.pp,.int .u8 b.dp,.bool b.jm,.slice b.ia b.ni b.ic]∧(rowOf W (w.heap.size+1)).size=62) ⟨aD,by simp [go_sem],by simp [go_sem]⟩ ?_
  rintro wc ⟨hA,r0,s1⟩
  have p0:=row_lt r0 (by simp)
  have p1:w.heap.size+1 < wc.heap.size:=row_lt (c:=rowOf wc (w.heap.size+1)) rfl (by omega)
  have HA:=Lib.hid hA
  clear hA
  have hk:∀W,Adds wc W→(W.cell? ⟨w.heap.size,0,none⟩=some (.int .i64 b.ch)∧W.cell? ⟨w.heap.size,6,none⟩=some (.slice b.ia b.ni b.ic)∧(rowOf W (w.heap.size+1)).size=62):=fun W k=>⟨rowOf_cell ((k.row p0).trans r0) rfl,rowOf_cell ((k.row p0).trans r0) rfl,by rw [k.row p1];exact s1⟩
  have hk2:∀(cs:Array Value) (W:World),Adds (wc.setRow (w.heap.size+1) cs) W→cs.size=62→(W.cell? ⟨w.heap.size,0,none⟩=some (.int .i64 b.ch)∧W.cell? ⟨w.heap.size,6,none⟩=some (.slice b.ia b.ni b.ic)∧(rowOf W (w.heap.size+1)).size=62):=fun cs W k hs=>by
   have e0:rowOf W w.heap.size=#[.int .i64 b.ch,.slice b.ra b.rn b.rc,.int .i64 b.iw,.int .u8 b.pp,.int .u8 b.dp,.bool b.jm,.slice b.ia b.ni b.ic]:=(k.row (by rw [size_setRow];exact p0)).trans ((rowOf_setRow_other _ _ _ _ (by omega)).trans r0)
   have e1:rowOf W (w.heap.size+1)=cs:=(k.row (by rw [size_setRow];exact p1)).trans (rowOf_setRow_same _ _ _ (by omega))
   exact ⟨rowOf_cell e0 rfl,rowOf_cell e0 rfl,by rw [e1];exact hs⟩
  go_wp2_with fail
  refine wp_region_noPanic ?_
  refine wp_region_held_drew (S:=fun W=>W.cell? ⟨w.heap.size,0,none⟩=some (.int .i64 b.ch)∧W.cell? ⟨w.heap.size,6,none⟩=some (.slice b.ia b.ni b.ic)∧(rowOf W (w.heap.size+1)).size=62) (by kernel_rfl) (by (try dsimp only);exact hk _ aD) (fun hHeld=> ?_)
  refine tk 0 rfl ?_
  refine tk 1 rfl ?_
  refine tk 3 rfl ?_
  refine tk 4 rfl ?_
  refine wpAnyH_ready (rs:=[2]) (by kernel_rfl) (by simp) ?_
  refine AllReadyH.cons rfl (fun K hK=> ?_) AllReadyH.nil
  go_simp
  (go_at_call 58;refine (new20_any).mono ?_;rintro e w' ⟨qq,zq,rfl,hqc,hok,⟨hq1,hq2⟩,⟨⟨n2,os2⟩,rfl⟩⟩;have HQ:=Lib.hid hok;have HQ1:=Lib.hid (And.intro hq1 (And.intro hq2 hqc));clear hqc hok hq1 hq2)
  refine hK.out _ _ (by (try dsimp only);exact hk _ aD) (fun hHeld=> ?_)
  clear hK K
  (try simp only [Act.put,List.setIfInBounds_toArray,List.set_cons_zero,List.set_cons_succ])
  refine wpAnyH_ready (rs:=[5]) (by kernel_rfl) (by simp) ?_
  refine AllReadyH.cons rfl (fun K hK=> ?_) AllReadyH.nil
  go_simp
  (go_at_call 31;refine (K12.rnrm_any _ _ _ _ _ (HI.out.adds (HA.out.trans aD)) (by have:=HL.out;omega)).mono ?_;rintro e w' ⟨r,rfl,hO,⟨⟨n3,os3⟩,rfl⟩⟩;obtain ⟨a1,cap1,rfl,hc1⟩:=hO.form;have HO:=Lib.hid hO;have HC1:=Lib.hid hc1;clear hO hc1)
  refine hK.out _ _ (by (try dsimp only);exact hk _ aD) (fun hHeld=> ?_)
  clear hK K
  (try simp only [Act.put,List.setIfInBounds_toArray,List.set_cons_zero,List.set_cons_succ])
  refine wpAnyH_ready (rs:=[6]) (by kernel_rfl) (by simp) ?_
  refine AllReadyH.cons rfl (fun K hK=> ?_) AllReadyH.nil
  go_simp
  (go_at_call 59;refine ad (K22.rnew_any) fun n4 os4=> ?_;simp only [K22.S.nw,K22.S.Pc.cs])
  refine hK.out _ _ (by (try dsimp only);exact hk _ aD) (fun hHeld=> ?_)
  clear hK K
  (try simp only [Act.put,List.setIfInBounds_toArray,List.set_cons_zero,List.set_cons_succ])
  refine tk 7 rfl ?_
  refine wpAnyH_ready (rs:=[8]) (by kernel_rfl) (by simp) ?_
  refine AllReadyH.cons rfl (fun K hK=> ?_) AllReadyH.nil
  go_simp
  refine hK.out _ _ (by (try dsimp only);exact hk2 _ _ aD rfl) (fun hHeld=> ?_)
  clear hK K
  (try simp only [Act.put,List.setIfInBounds_toArray,List.set_cons_zero,List.set_cons_succ])
  refine tk 9 rfl ?_
  refine wpAnyH_done (by kernel_rfl) ?_ _
  refine NoPanic.normal ?_
  clear hHeld
  go_wp2_with fail
  refine bodyPost_ret (ret3_System Tryz.results32 rfl rfl ((Adds.row (show Adds (wc.setRow (w.heap.size+1) _) _ from aD) (by rw [size_setRow];exact p1)).trans (rowOf_setRow_same _ _ _ (by omega))) rfl) rfl ?_
  exact new_fin HA.out p1 _ HQ.out HQ1.out HO.out ⟨HC1.out.1,HC1.out.2.1⟩ (by have:=HL.out;have:=HI.out.1;omega) HB.out ⟨qq,a1,(K12.Sm.nrm im).length,cap1,K22.S.nw,0,0,0,0,none,0,0⟩ rfl
 ·have hne:e0≠0:=by simpa using he
  go_wp2_with fail
  refine bodyPost_ret (ret3_System Tryz.results32 rfl rfl rfl (by simp [go_sem])) rfl ?_
  simp [go_sem]
  exact ⟨⟨⟨⟨0,0,0,0,0,0,0,0,false,false,false,false,false,false,false,0,0,false,false,false,0,false,false,false,false,false,false,false⟩,0,none,0,0,⟨0,0,0,0⟩,0,false⟩,none,0,0,⟨0,false,false,false,false,0,0,false,false,false,false,false,0,0,0,0,0,0,0,false⟩,0,0,0,0,none,0,0⟩,e0,rfl,aD,fun e=>absurd e hne⟩
end
section
namespace S
def PnOk (p:Pn):Prop:=(0≤p.ad∧p.ad < 65536)∧(0≤p.da∧p.da < 256)∧(1≤p.st∧p.st≤10)
theorem tr_bd {c d s:Int} (h:0≤d∧d < 256):0≤tr c d s∧tr c d s < 256:=by
 unfold tr
 split
 ·split<;>omega
 ·split
  ·split<;>omega
  ·omega
theorem stB_bd (c:Int):0≤stB c∧stB c < 256:=by
 unfold stB
 repeat' split
 all_goals omega
theorem pn_ok (on:Bool) (x:It) (s:Int) (ha:0≤x.a∧x.a < 65536) (hd:0≤x.d∧x.d < 256) (hs:1≤s∧s≤10):PnOk (pn on x s):=by
 have h1:=tr_bd (c:=x.c) (s:=s) hd
 have h2:=stB_bd x.c
 unfold pn PnOk
 repeat' split
 all_goals simp only []
 all_goals (refine ⟨?_,?_,?_⟩)
 all_goals (first|omega|(split<;>omega)|exact h1|exact h2)
theorem tot_mem:∀(l:List It),(∀i∈l,Vld1 i)→(l.length:Int)≤tot l∧∀i∈l,0≤i.n∧i.n≤tot l∧0≤i.w∧i.w≤tot l
 |[],_=>⟨by simp [tot],fun i hi=>by cases hi⟩
 |x::l,h=>by
  have ⟨h0,h1⟩:=tot_mem l (fun i hi=>h i (by simp [hi]))
  have hp:=tot_pos l (fun i hi=>h i (by simp [hi]))
  have h2:=h x (by simp)
  have e:tot (x::l)=tot1 x+tot l:=rfl
  have q:1≤tot1 x∧0≤x.n∧x.n≤tot1 x∧0≤x.w∧x.w≤tot1 x:=by
   unfold tot1
   rcases h2 with ⟨hk,_,_,hn,_,hw,_⟩|⟨hk,hn,hw⟩
   ·rw [if_pos hk];omega
   ·rw [if_neg (by omega)];omega
  refine ⟨by rw [List.length_cons,e];omega,fun i hi=> ?_⟩
  rcases List.mem_cons.1 hi with rfl|hi
  ·omega
  ·have:=h1 i hi;omega
theorem Inv.bd {on:Bool} {il:List It} {tl:List Pn} {x:Co} (h:Inv on il tl x) (hl:tl.length≤65000):il.length≤65000∧∀i∈il,0≤i.n∧i.n≤1000000∧0≤i.w∧i.w≤1000000:=by
 have ⟨h0,h1⟩:=tot_mem il h.ok
 have:=h.tot
 exact ⟨by omega,fun i hi=>by have:=h1 i hi;omega⟩
theorem Inv.ne {on:Bool} {il:List It} {tl:List Pn} {x:Co} (h:Inv on il tl x) (h9:1≤x.nx∧x.nx≤9):x.nx=1∨8≤x.nx∨il≠[]:=by
 rcases h.rel with ⟨q,_⟩|⟨l,i,rfl,_⟩
 ·unfold Fin3 at q;omega
 ·exact .inr (.inr (by simp))
theorem itm_ok {x:Co} (h:x.c.Ok) (hy:x.y.Ok) (st v:Int) (hv:0≤v∧v < 256):(0≤(itm x st v).a∧(itm x st v).a < 65536)∧(0≤(itm x st v).d∧(itm x st v).d < 256):=by
 refine ⟨?_,cd_bd hy.d hv⟩
 show 0≤(if st=9 then x.c.PC else x.y.a)∧(if st=9 then x.c.PC else x.y.a) < 65536
 split
 ·exact h.1.pc
 ·exact hy.a
end S
theorem wpList_appQ1_w {w:World} {ops:Array Oper} {rest:List Oper} {o:Oper} {a:Act} {Q:Exit→Act→World→Prop} (hgd:o.guard=none) (s x:Operand)
 (ho:o.op=.call {callee:=.builtin .append,args:=#[s,x],argTypes:=#[22,22]})
 (base:Nat) (v:Value) (d:List S.Pn) (hv:a.eval s=v) (y:S.Pn) (c:Array Value) (t:TypeId) (b:Nat) (hx:a.eval x=.slice (some ⟨b,0,none⟩) 1 1) (hc:c.toList=csQ y) (hb:b=w.heap.size) (hown:OwnsQ w base v d)
 (hsz:d.length+1≤4000000000000) (hbase:base≤w.heap.size)
 (h:∀v' w',OwnsQ w' base v' (d++[y])→w.grownBy w' v.ownBlock→(∀g,v'.ownBlock=some g→v.ownBlock=some g∨w.heap.size≤g)→wpList Tryz.prog ops Q rest (a.put o.dst v') w'):wpList Tryz.prog ops Q (o::rest) a (w.alloc (.cells c t)):=by
 subst hb
 obtain ⟨i0,hi,hz0,hz1,hz2⟩:=info_parts infoQ
 refine wpList_append_own_at _ hgd s x 22 ho base 34 i0 (.agg S.Pn.zero.cs) 17 32 Tryz.underlying22 hi hz0 hz1 hz2 rfl (by decide) v d.length (Fl csQ d) hv (hown.alloc _) ⟨w.heap.size,0,none⟩ 1 1 (Fl csQ [y]) hx (by rw [Fl_len csQ_len];rfl) (at_new w t c [y] (by rw [Fl_one];exact hc) _ rfl) (Fl_oneCell csQ_one [y]) (by unfold maxLen;omega) (by omega) (by simp;omega) ?_
 intro v' w' k1 k2 k3 k4
 refine h v' w' ?_ (World.grownBy.trans (World.grownBy_alloc w _ _) k2) (fun g hg=> ?_)
 ·unfold OwnsQ OwnsG
  rw [List.length_append,Fl_app]
  exact k1
 ·rcases k4 with e|e
  ·exact .inl (e▸hg)
  ·rw [e] at hg
   injection hg with hg
   have:(w.alloc (.cells c t)).heap.size=w.heap.size+1:=Array.size_push ..
   exact .inr (by omega)
theorem RnOk.pins {base rb:Nat} {r:S.Rn} {tl:List S.Pn} {il:List S.It} {vl:List S.Ev} {ul:List S.Cp} {w w0:World} (h:RnOk base rb r tl il vl ul w) (ha:Tch (fun k=>(Value.slice r.ta r.tn r.tc).ownBlock=some k) w w0)
 {a:Option Addr} {n c:Nat} {l':List S.Pn} (ho:OwnsQ w0 base (.slice a n c) l') (h1:∀g,(Value.slice a n c).ownBlock=some g→(Value.slice r.ta r.tn r.tc).ownBlock=some g∨w.heap.size≤g):
 RnOk base rb ⟨a,n,c,r.ia,r.ni,r.ic,r.ea,r.en,r.ec,r.ua,r.un,r.uc,r.s⟩ l' il vl ul (w0.setCell ⟨rb,0,none⟩ (.slice a n c))∧Tch (RnO rb r) w (w0.setCell ⟨rb,0,none⟩ (.slice a n c))∧∀k,RnO rb ⟨a,n,c,r.ia,r.ni,r.ic,r.ea,r.en,r.ec,r.ua,r.un,r.uc,r.s⟩ k→RnO rb r k∨w.heap.size≤k:=by
 have hlt:=h.lt
 have hrow:rowOf w0 rb=(List.toArray (.slice r.ta r.tn r.tc:: .slice r.ia r.ni r.ic:: .slice r.ea r.en r.ec:: .slice r.ua r.un r.uc:: .int .i64 r.s.k.c.Ch:: .int .u8 r.s.k.c.A:: .int .u8 r.s.k.c.B:: .int .u8 r.s.k.c.C:: .int .u8 r.s.k.c.D:: .int .u8 r.s.k.c.E:: .int .u8 r.s.k.c.H:: .int .u8 r.s.k.c.L:: .bool r.s.k.c.fS:: .bool r.s.k.c.fZ:: .bool r.s.k.c.fK:: .bool r.s.k.c.fAC:: .bool r.s.k.c.fP:: .bool r.s.k.c.fV:: .bool r.s.k.c.fCY:: .int .u16 r.s.k.c.SP:: .int .u16 r.s.k.c.PC:: .bool r.s.k.c.IE:: .bool r.s.k.c.De:: .bool r.s.k.c.Ha:: .int .u8 r.s.k.c.Ma:: .bool r.s.k.c.Tr:: .bool r.s.k.c.R7:: .bool r.s.k.c.WT:: .bool r.s.k.c.W7:: .bool r.s.k.c.Sa:: .bool r.s.k.c.SI:: .bool r.s.k.c.SO:: .int .i64 r.s.k.src:: .slice r.s.k.ga r.s.k.gn r.s.k.gc:: .int .i64 r.s.k.y.k:: .int .u16 r.s.k.y.a:: .int .u8 r.s.k.y.d:: .int .i64 r.s.k.y.s:: .int .i64 r.s.k.nx:: .bool r.s.k.ho:: .slice r.s.ma r.s.mn r.s.mc:: .int .i64 r.s.p.St:: .bool r.s.p.Le:: .bool r.s.p.Fo:: .bool r.s.p.Si:: .bool r.s.p.Ft:: .int .u8 r.s.p.Lw:: .int .u8 r.s.p.Hg:: .bool r.s.p.Au:: .bool r.s.p.Ro:: .bool r.s.p.Sp:: .bool r.s.p.RI:: .bool r.s.p.Po:: .int .u8 r.s.p.Li:: .int .u8 r.s.p.Ed:: .int .u8 r.s.p.IS:: .int .u8 r.s.p.IM:: .int .i64 r.s.p.Lo:: .int .i64 r.s.p.Sq:: .int .i64 r.s.p.Sv:: .bool r.s.p.Su:: .int .u16 r.s.da:: .int .u8 r.s.dv:: .int .i64 r.s.dl:: .int .i64 r.s.wt:: .slice r.s.oa r.s.on r.s.oc::[])):=(ha.row h.rlt (fun e=>by have:=(h.t.lt2 e).1;omega)).trans h.row
 have hsz:0 < (rowOf w0 rb).size:=by rw [hrow];simp
 have hT:=Tch.setCell (S:=fun k=>k=rb) (Tch.refl _ w0) rb 0 (.slice a n c) (fun _=>rfl)
 have far:∀{α:Type} {cs:α→List Value} {sz:Nat} {E:TypeId} {v:Value} {d:List α},OwnsG cs sz E w0 base v d→OwnsG cs sz E (w0.setCell ⟨rb,0,none⟩ (.slice a n c)) base v d:=fun o=>o.tch hT (fun g e k=>by have:=(o.lt2 e).1;omega)
 refine ⟨⟨?_,h.lt,far ho,far (h.i.tch ha (fun g e k=>h.ti g k e)),far (h.e.tch ha (fun g e k=>h.te g k e)),far (h.u.tch ha (fun g e k=>h.tu g k e)),(h.ti.symm.new h1 (fun g e=>(h.i.lt2 e).2)).symm,(h.te.symm.new h1 (fun g e=>(h.e.lt2 e).2)).symm,(h.tu.symm.new h1 (fun g e=>(h.u.lt2 e).2)).symm,h.ie,h.iu,h.eu⟩,?_,?_⟩
 ·rw [rowOf_setCell_same _ _ _ _ hsz,hrow];rfl
 ·exact Tch.trans (S1:=fun k=>k=rb) (ha.mono (fun k _ e=> .inr (.inl e))) hT (fun k _ e=> .inl e)
 ·intro k e
  rcases e with e|e|e|e|e
  ·exact .inl (.inl e)
  ·exact (h1 k e).imp (fun e=> .inr (.inl e)) id
  ·exact .inl (.inr (.inr (.inl e)))
  ·exact .inl (.inr (.inr (.inr (.inl e))))
  ·exact .inl (.inr (.inr (.inr (.inr e))))
theorem RnOk.items {base rb:Nat} {r:S.Rn} {tl:List S.Pn} {il:List S.It} {vl:List S.Ev} {ul:List S.Cp} {w w0:World} (h:RnOk base rb r tl il vl ul w) (ha:Tch (fun k=>(Value.slice r.ia r.ni r.ic).ownBlock=some k) w w0)
 {a:Option Addr} {n c:Nat} {l':List S.It} (ho:OwnsT w0 base (.slice a n c) l') (h1:∀g,(Value.slice a n c).ownBlock=some g→(Value.slice r.ia r.ni r.ic).ownBlock=some g∨w.heap.size≤g):
 RnOk base rb ⟨r.ta,r.tn,r.tc,a,n,c,r.ea,r.en,r.ec,r.ua,r.un,r.uc,r.s⟩ tl l' vl ul (w0.setCell ⟨rb,1,none⟩ (.slice a n c))∧Tch (RnO rb r) w (w0.setCell ⟨rb,1,none⟩ (.slice a n c))∧∀k,RnO rb ⟨r.ta,r.tn,r.tc,a,n,c,r.ea,r.en,r.ec,r.ua,r.un,r.uc,r.s⟩ k→RnO rb r k∨w.heap.size≤k:=by
 have hlt:=h.lt
 have hrow:rowOf w0 rb=(List.toArray (.slice r.ta r.tn r.tc:: .slice r.ia r.ni r.ic:: .slice r.ea r.en r.ec:: .slice r.ua r.un r.uc:: .int .i64 r.s.k.c.Ch:: .int .u8 r.s.k.c.A:: .int .u8 r.s.k.c.B:: .int .u8 r.s.k.c.C:: .int .u8 r.s.k.c.D:: .int .u8 r.s.k.c.E:: .int .u8 r.s.k.c.H:: .int .u8 r.s.k.c.L:: .bool r.s.k.c.fS:: .bool r.s.k.c.fZ:: .bool r.s.k.c.fK:: .bool r.s.k.c.fAC:: .bool r.s.k.c.fP:: .bool r.s.k.c.fV:: .bool r.s.k.c.fCY:: .int .u16 r.s.k.c.SP:: .int .u16 r.s.k.c.PC:: .bool r.s.k.c.IE:: .bool r.s.k.c.De:: .bool r.s.k.c.Ha:: .int .u8 r.s.k.c.Ma:: .bool r.s.k.c.Tr:: .bool r.s.k.c.R7:: .bool r.s.k.c.WT:: .bool r.s.k.c.W7:: .bool r.s.k.c.Sa:: .bool r.s.k.c.SI:: .bool r.s.k.c.SO:: .int .i64 r.s.k.src:: .slice r.s.k.ga r.s.k.gn r.s.k.gc:: .int .i64 r.s.k.y.k:: .int .u16 r.s.k.y.a:: .int .u8 r.s.k.y.d:: .int .i64 r.s.k.y.s:: .int .i64 r.s.k.nx:: .bool r.s.k.ho:: .slice r.s.ma r.s.mn r.s.mc:: .int .i64 r.s.p.St:: .bool r.s.p.Le:: .bool r.s.p.Fo:: .bool r.s.p.Si:: .bool r.s.p.Ft:: .int .u8 r.s.p.Lw:: .int .u8 r.s.p.Hg:: .bool r.s.p.Au:: .bool r.s.p.Ro:: .bool r.s.p.Sp:: .bool r.s.p.RI:: .bool r.s.p.Po:: .int .u8 r.s.p.Li:: .int .u8 r.s.p.Ed:: .int .u8 r.s.p.IS:: .int .u8 r.s.p.IM:: .int .i64 r.s.p.Lo:: .int .i64 r.s.p.Sq:: .int .i64 r.s.p.Sv:: .bool r.s.p.Su:: .int .u16 r.s.da:: .int .u8 r.s.dv:: .int .i64 r.s.dl:: .int .i64 r.s.wt:: .slice r.s.oa r.s.on r.s.oc::[])):=(ha.row h.rlt (fun e=>by have:=(h.i.lt2 e).1;omega)).trans h.row
 have hsz:0 < (rowOf w0 rb).size:=by rw [hrow];simp
 have hT:=Tch.setCell (S:=fun k=>k=rb) (Tch.refl _ w0) rb 1 (.slice a n c) (fun _=>rfl)
 have far:∀{α:Type} {cs:α→List Value} {sz:Nat} {E:TypeId} {v:Value} {d:List α},OwnsG cs sz E w0 base v d→OwnsG cs sz E (w0.setCell ⟨rb,1,none⟩ (.slice a n c)) base v d:=fun o=>o.tch hT (fun g e k=>by have:=(o.lt2 e).1;omega)
 refine ⟨⟨?_,h.lt,far (h.t.tch ha (fun g e k=>h.ti g e k)),far ho,far (h.e.tch ha (fun g e k=>h.ie g k e)),far (h.u.tch ha (fun g e k=>h.iu g k e)),h.ti.new h1 (fun g e=>(h.t.lt2 e).2),h.te,h.tu,(h.ie.symm.new h1 (fun g e=>(h.e.lt2 e).2)).symm,(h.iu.symm.new h1 (fun g e=>(h.u.lt2 e).2)).symm,h.eu⟩,?_,?_⟩
 ·rw [rowOf_setCell_same _ _ _ _ hsz,hrow];rfl
 ·exact Tch.trans (S1:=fun k=>k=rb) (ha.mono (fun k _ e=> .inr (.inr (.inl e)))) hT (fun k _ e=> .inl e)
 ·intro k e
  rcases e with e|e|e|e|e
  ·exact .inl (.inl e)
  ·exact .inl (.inr (.inl e))
  ·exact (h1 k e).imp (fun e=> .inr (.inr (.inl e))) id
  ·exact .inl (.inr (.inr (.inr (.inl e))))
  ·exact .inl (.inr (.inr (.inr (.inr e))))
theorem Off.lt {S T:Nat→Prop} {a:Option Addr} {n B:Nat} (h:Off S a n) (hb:∀b o,a=some ⟨b,o,none⟩→0 < n→b < B) (hT:∀k,T k→S k∨B≤k):Off T a n:=fun b o e hn q=>by
 rcases hT b q with q|q
 ·exact h b o e hn q
 ·have:=hb b o e hn;omega
theorem HeldG.blt {α:Type} {cs:α→List Value} {w:World} {a:Option Addr} {n:Nat} {d:List α} (h:HeldG cs w a n d):∀b o,a=some ⟨b,o,none⟩→0 < n→b < w.heap.size:=fun b o e hn=>by
 obtain ⟨b',o',e',hlt,_⟩:=h.2.2 hn
 rw [e] at e'
 cases e'
 exact hlt
theorem K12.Held.blt {w:World} {a:Option Addr} {n:Nat} {d:List K12.Cl} (h:K12.Held w a n d):∀b o,a=some ⟨b,o,none⟩→0 < n→b < w.heap.size:=fun b o e hn=>by
 obtain ⟨b',o',e',hlt,_⟩:=h.2.2 hn
 rw [e] at e'
 cases e'
 exact hlt
theorem Off.or {S T:Nat→Prop} {a:Option Addr} {n:Nat} (h:Off S a n) (k:Off T a n):Off (fun b=>S b∨T b) a n:=fun b o e hn q=>q.elim (h b o e hn) (k b o e hn)
def SyOff (T:Nat→Prop) (s:S.Sy):Prop:=Off T s.k.ga s.k.gn∧Off T s.ma s.mn∧Off T s.oa s.on
theorem SyOff.mono {T T1:Nat→Prop} {s:S.Sy} (h:SyOff T s) (k:∀b,T1 b→T b):SyOff T1 s:=⟨h.1.mono k,h.2.1.mono k,h.2.2.mono k⟩
theorem SyOk.soff {L:Nat} {x:S.Sy} {z:List Int} {m:List K12.Cl} {os:List S.Ou} {w w':World} {T:Nat→Prop} (h:SyOk L x z m os w) (k:Tch T w w') (o:SyOff T x):SyOk L x z m os w':=h.tch k o.1 o.2.1 o.2.2
theorem SyOk.more {L:Nat} {x:S.Sy} {z:List Int} {m:List K12.Cl} {os:List S.Ou} {w:World} (h:SyOk L x z m os w) {T T1:Nat→Prop} (o:SyOff T x) (k:∀b,T1 b→T b∨w.heap.size≤b):SyOff T1 x:=
 ⟨o.1.lt h.k.held.blt k,o.2.1.lt h.mh.blt k,o.2.2.lt h.o.blt k⟩
theorem SyOff.clk {T:Nat→Prop} {s y:S.Sy} {B:Nat} (h:SyOff T s) (n1:Nw B y.k.ga y.k.gn) (s1:Sm2 B s.ma s.mn y.ma y.mn) (s2:Sm2 B s.oa s.on y.oa y.on) (hT:∀k,T k→k < B):SyOff T y:=⟨Off.of_nw n1 hT,h.2.1.sm2 s1 hT,h.2.2.sm2 s2 hT⟩
structure RuI (b:S.Bd) (rl:List K12.Rg) (c9:S.Cp) (w:World) (b6 rb b9 base:Nat) (ai:Option Addr) (ni:Nat) (dl:List S.Inp) (L:Nat) (s:S.Sy) (z:List Int) (m:List K12.Cl) (os:List S.Ou) (r:S.Rn) (tl:List S.Pn) (il:List S.It) (vl:List S.Ev) (ul:List S.Cp) (W:World):Prop where
 a:Adds w W
 r2:rowOf W w.heap.size=#[.int .i64 b.ch,.slice b.ra b.rn b.rc,.int .i64 b.iw,.int .u8 b.pp,.int .u8 b.dp,.bool b.jm,.slice b.ia b.ni b.ic]
 r4:(rowOf W (w.heap.size+1)).size=66
 r6:rowOf W b6=(List.toArray (.int .i64 s.k.c.Ch:: .int .u8 s.k.c.A:: .int .u8 s.k.c.B:: .int .u8 s.k.c.C:: .int .u8 s.k.c.D:: .int .u8 s.k.c.E:: .int .u8 s.k.c.H:: .int .u8 s.k.c.L:: .bool s.k.c.fS:: .bool s.k.c.fZ:: .bool s.k.c.fK:: .bool s.k.c.fAC:: .bool s.k.c.fP:: .bool s.k.c.fV:: .bool s.k.c.fCY:: .int .u16 s.k.c.SP:: .int .u16 s.k.c.PC:: .bool s.k.c.IE:: .bool s.k.c.De:: .bool s.k.c.Ha:: .int .u8 s.k.c.Ma:: .bool s.k.c.Tr:: .bool s.k.c.R7:: .bool s.k.c.WT:: .bool s.k.c.W7:: .bool s.k.c.Sa:: .bool s.k.c.SI:: .bool s.k.c.SO:: .int .i64 s.k.src:: .slice s.k.ga s.k.gn s.k.gc:: .int .i64 s.k.y.k:: .int .u16 s.k.y.a:: .int .u8 s.k.y.d:: .int .i64 s.k.y.s:: .int .i64 s.k.nx:: .bool s.k.ho:: .slice s.ma s.mn s.mc:: .int .i64 s.p.St:: .bool s.p.Le:: .bool s.p.Fo:: .bool s.p.Si:: .bool s.p.Ft:: .int .u8 s.p.Lw:: .int .u8 s.p.Hg:: .bool s.p.Au:: .bool s.p.Ro:: .bool s.p.Sp:: .bool s.p.RI:: .bool s.p.Po:: .int .u8 s.p.Li:: .int .u8 s.p.Ed:: .int .u8 s.p.IS:: .int .u8 s.p.IM:: .int .i64 s.p.Lo:: .int .i64 s.p.Sq:: .int .i64 s.p.Sv:: .bool s.p.Su:: .int .u16 s.da:: .int .u8 s.dv:: .int .i64 s.dl:: .int .i64 s.wt:: .slice s.oa s.on s.oc::[]))
 r9:rowOf W b9=#[.int .i64 c9.Ch,.int .u8 c9.A,.int .u8 c9.B,.int .u8 c9.C,.int .u8 c9.D,.int .u8 c9.E,.int .u8 c9.H,.int .u8 c9.L,.bool c9.fS,.bool c9.fZ,.bool c9.fK,.bool c9.fAC,.bool c9.fP,.bool c9.fV,.bool c9.fCY,.int .u16 c9.SP,.int .u16 c9.PC,.bool c9.IE,.bool c9.De,.bool c9.Ha,.int .u8 c9.Ma,.bool c9.Tr,.bool c9.R7,.bool c9.WT,.bool c9.W7,.bool c9.Sa,.bool c9.SI,.bool c9.SO]
 d:w.heap.size+1 < b6∧b6 < rb∧rb < b9∧b9 < base
 bs:base≤W.heap.size
 bd:BdOk b rl w
 inp:HeldI W ai ni dl
 io:Off (fun k=>k=b6∨k=rb∨base≤k) ai ni
 run:RnOk base rb r tl il vl ul W
 sy:SyOk L s z m os W
 so:SyOff (fun k=>k=b6∨RnO rb r k) s
 inv:S.Inv (b.ch==2) il tl s.k
 ch:s.k.c.Ch=b.ch
structure RuJ (w0:World) (b13:Nat) (x:S.Co) (y:S.Sy) (P:S.Pn) (mo:S.Mo) (base rb:Nat) (r0 r:S.Rn) (tl:List S.Pn) (il:List S.It) (vl:List S.Ev) (ul:List S.Cp) (L:Nat) (z:List Int) (m:List K12.Cl) (os:List S.Ou) (W:World):Prop where
 t:Tch (RnO rb r0) w0 W
 h12:rowOf W (w0.heap.size+1)=(List.toArray (.int .i64 x.c.Ch:: .int .u8 x.c.A:: .int .u8 x.c.B:: .int .u8 x.c.C:: .int .u8 x.c.D:: .int .u8 x.c.E:: .int .u8 x.c.H:: .int .u8 x.c.L:: .bool x.c.fS:: .bool x.c.fZ:: .bool x.c.fK:: .bool x.c.fAC:: .bool x.c.fP:: .bool x.c.fV:: .bool x.c.fCY:: .int .u16 x.c.SP:: .int .u16 x.c.PC:: .bool x.c.IE:: .bool x.c.De:: .bool x.c.Ha:: .int .u8 x.c.Ma:: .bool x.c.Tr:: .bool x.c.R7:: .bool x.c.WT:: .bool x.c.W7:: .bool x.c.Sa:: .bool x.c.SI:: .bool x.c.SO:: .int .i64 x.src:: .slice x.ga x.gn x.gc:: .int .i64 x.y.k:: .int .u16 x.y.a:: .int .u8 x.y.d:: .int .i64 x.y.s:: .int .i64 x.nx:: .bool x.ho::[]))
 h13:rowOf W b13=(List.toArray (.int .i64 y.k.c.Ch:: .int .u8 y.k.c.A:: .int .u8 y.k.c.B:: .int .u8 y.k.c.C:: .int .u8 y.k.c.D:: .int .u8 y.k.c.E:: .int .u8 y.k.c.H:: .int .u8 y.k.c.L:: .bool y.k.c.fS:: .bool y.k.c.fZ:: .bool y.k.c.fK:: .bool y.k.c.fAC:: .bool y.k.c.fP:: .bool y.k.c.fV:: .bool y.k.c.fCY:: .int .u16 y.k.c.SP:: .int .u16 y.k.c.PC:: .bool y.k.c.IE:: .bool y.k.c.De:: .bool y.k.c.Ha:: .int .u8 y.k.c.Ma:: .bool y.k.c.Tr:: .bool y.k.c.R7:: .bool y.k.c.WT:: .bool y.k.c.W7:: .bool y.k.c.Sa:: .bool y.k.c.SI:: .bool y.k.c.SO:: .int .i64 y.k.src:: .slice y.k.ga y.k.gn y.k.gc:: .int .i64 y.k.y.k:: .int .u16 y.k.y.a:: .int .u8 y.k.y.d:: .int .i64 y.k.y.s:: .int .i64 y.k.nx:: .bool y.k.ho:: .slice y.ma y.mn y.mc:: .int .i64 y.p.St:: .bool y.p.Le:: .bool y.p.Fo:: .bool y.p.Si:: .bool y.p.Ft:: .int .u8 y.p.Lw:: .int .u8 y.p.Hg:: .bool y.p.Au:: .bool y.p.Ro:: .bool y.p.Sp:: .bool y.p.RI:: .bool y.p.Po:: .int .u8 y.p.Li:: .int .u8 y.p.Ed:: .int .u8 y.p.IS:: .int .u8 y.p.IM:: .int .i64 y.p.Lo:: .int .i64 y.p.Sq:: .int .i64 y.p.Sv:: .bool y.p.Su:: .int .u16 y.da:: .int .u8 y.dv:: .int .i64 y.dl:: .int .i64 y.wt:: .slice y.oa y.on y.oc::[]))
 h14:rowOf W (b13+1)=#[.int .i64 P.st,.int .u16 P.ad,.int .u8 P.da,.bool P.sy,.bool P.db,.bool P.wa,.bool P.it,.bool P.al,.bool P.im,.bool P.s1,.bool P.s0,.bool P.rd,.bool P.ia,.bool P.so,.bool P.wr,.bool P.hl,.bool P.fl]
 h15:rowOf W (b13+1+1)=#[.bool mo.Re,.bool mo.Ho,.bool mo.Rs,.bool mo.Si,.bool mo.Tr,.bool mo.R7,.bool mo.R6,.bool mo.R5,.bool mo.In,.int .u8 mo.da,.int .u16 mo.ca,.int .u8 mo.cv,.bool mo.mv]
 run:RnOk base rb r tl il vl ul W
 lt:∀k,RnO rb r0 k→k < w0.heap.size
 le:w0.heap.size+2≤b13
 o:∀k,RnO rb r k→RnO rb r0 k∨b13+3≤k
 sy:SyOk L y z m os W
 so:SyOff (fun k=>RnO rb r0 k∨b13≤k) y
theorem RuJ.sz {w0:World} {b13:Nat} {x:S.Co} {y:S.Sy} {P:S.Pn} {mo:S.Mo} {base rb:Nat} {r0 r:S.Rn} {tl:List S.Pn} {il:List S.It} {vl:List S.Ev} {ul:List S.Cp} {L:Nat} {z:List Int} {m:List K12.Cl} {os:List S.Ou} {W:World} (h:RuJ w0 b13 x y P mo base rb r0 r tl il vl ul L z m os W):b13+3≤W.heap.size:=row_lt h.h15 (by simp)
theorem RuJ.step {w0:World} {b13:Nat} {x:S.Co} {y:S.Sy} {P:S.Pn} {mo:S.Mo} {base rb:Nat} {r0 r:S.Rn} {tl:List S.Pn} {il:List S.It} {vl:List S.Ev} {ul:List S.Cp} {L:Nat} {z:List Int} {m:List K12.Cl} {os:List S.Ou} {W V:World} (h:RuJ w0 b13 x y P mo base rb r0 r tl il vl ul L z m os W)
 {r':S.Rn} {tl':List S.Pn} {il':List S.It} {vl':List S.Ev} {ul':List S.Cp} (hr:RnOk base rb r' tl' il' vl' ul' V) (k:Tch (RnO rb r) W V) (ho:∀k,RnO rb r' k→RnO rb r k∨W.heap.size≤k):RuJ w0 b13 x y P mo base rb r0 r' tl' il' vl' ul' L z m os V:=by
 have hsz:=h.sz
 have hle:=h.le
 have far:∀j,w0.heap.size≤j→j < b13+3→¬RnO rb r j:=fun j h1 h2 e=>by
  rcases h.o j e with q|q
  ·have:=h.lt j q;omega
  ·omega
 refine ⟨h.t.trans k (fun j hj e=>(h.o j e).resolve_right (by omega)),(k.row (by omega) (far _ (by omega) (by omega))).trans h.h12,(k.row (by omega) (far _ (by omega) (by omega))).trans h.h13,(k.row (by omega) (far _ (by omega) (by omega))).trans h.h14,(k.row (by omega) (far _ (by omega) (by omega))).trans h.h15,hr,h.lt,h.le,fun j e=> ?_,h.sy.soff k (h.so.mono (fun j e=> ?_)),h.so⟩
 ·rcases ho j e with q|q
  ·exact h.o j q
  ·exact .inr (by omega)
 ·exact (h.o j e).imp id (fun q=>by omega)
theorem RuJ.adds {w0:World} {b13:Nat} {x:S.Co} {y:S.Sy} {P:S.Pn} {mo:S.Mo} {base rb:Nat} {r0 r:S.Rn} {tl:List S.Pn} {il:List S.It} {vl:List S.Ev} {ul:List S.Cp} {L:Nat} {z:List Int} {m:List K12.Cl} {os:List S.Ou} {W V:World} (h:RuJ w0 b13 x y P mo base rb r0 r tl il vl ul L z m os W) (k:Adds W V):RuJ w0 b13 x y P mo base rb r0 r tl il vl ul L z m os V:=
 h.step (h.run.adds k) (Tch.of_adds k) (fun _ e=> .inl e)
theorem RuJ.gr {w0:World} {b13:Nat} {x:S.Co} {y:S.Sy} {P:S.Pn} {mo:S.Mo} {base rb:Nat} {r0 r:S.Rn} {tl:List S.Pn} {il:List S.It} {vl:List S.Ev} {ul:List S.Cp} {L:Nat} {z:List Int} {m:List K12.Cl} {os:List S.Ou} {W0 W V:World} (h:RuJ w0 b13 x y P mo base rb r0 r tl il vl ul L z m os W0) (hA:Adds W0 W) (hG:W.grownBy V (Value.slice r.ia r.ni r.ic).ownBlock):
 V.cell? ⟨rb,1,none⟩=some (.slice r.ia r.ni r.ic)∧rowOf V (w0.heap.size+1)=(List.toArray (.int .i64 x.c.Ch:: .int .u8 x.c.A:: .int .u8 x.c.B:: .int .u8 x.c.C:: .int .u8 x.c.D:: .int .u8 x.c.E:: .int .u8 x.c.H:: .int .u8 x.c.L:: .bool x.c.fS:: .bool x.c.fZ:: .bool x.c.fK:: .bool x.c.fAC:: .bool x.c.fP:: .bool x.c.fV:: .bool x.c.fCY:: .int .u16 x.c.SP:: .int .u16 x.c.PC:: .bool x.c.IE:: .bool x.c.De:: .bool x.c.Ha:: .int .u8 x.c.Ma:: .bool x.c.Tr:: .bool x.c.R7:: .bool x.c.WT:: .bool x.c.W7:: .bool x.c.Sa:: .bool x.c.SI:: .bool x.c.SO:: .int .i64 x.src:: .slice x.ga x.gn x.gc:: .int .i64 x.y.k:: .int .u16 x.y.a:: .int .u8 x.y.d:: .int .i64 x.y.s:: .int .i64 x.nx:: .bool x.ho::[]))∧V.cell? ⟨w0.heap.size+1,17,none⟩=some (.bool x.c.IE)∧V.cell? ⟨w0.heap.size+1,27,none⟩=some (.bool x.c.SO)∧V.cell? ⟨b13+1+1,9,none⟩=some (.int .u8 mo.da):=by
 have k:=h.adds hA
 have hsz:=k.sz
 have hle:=k.le
 have hT:=Tch.of_grown (S:=fun k=>(Value.slice r.ia r.ni r.ic).ownBlock=some k) hG (fun _ e=>e)
 have far:∀j,w0.heap.size≤j→j < b13+3→¬(Value.slice r.ia r.ni r.ic).ownBlock=some j:=fun j h1 h2 e=>by
  rcases k.o j (.inr (.inr (.inl e))) with q|q
  ·have:=k.lt j q;omega
  ·omega
 have hb:¬(Value.slice r.ia r.ni r.ic).ownBlock=some rb:=fun e=>by have:=(k.run.i.lt2 e).1;have:=k.run.lt;omega
 have e1:rowOf V rb=(List.toArray (.slice r.ta r.tn r.tc:: .slice r.ia r.ni r.ic:: .slice r.ea r.en r.ec:: .slice r.ua r.un r.uc:: .int .i64 r.s.k.c.Ch:: .int .u8 r.s.k.c.A:: .int .u8 r.s.k.c.B:: .int .u8 r.s.k.c.C:: .int .u8 r.s.k.c.D:: .int .u8 r.s.k.c.E:: .int .u8 r.s.k.c.H:: .int .u8 r.s.k.c.L:: .bool r.s.k.c.fS:: .bool r.s.k.c.fZ:: .bool r.s.k.c.fK:: .bool r.s.k.c.fAC:: .bool r.s.k.c.fP:: .bool r.s.k.c.fV:: .bool r.s.k.c.fCY:: .int .u16 r.s.k.c.SP:: .int .u16 r.s.k.c.PC:: .bool r.s.k.c.IE:: .bool r.s.k.c.De:: .bool r.s.k.c.Ha:: .int .u8 r.s.k.c.Ma:: .bool r.s.k.c.Tr:: .bool r.s.k.c.R7:: .bool r.s.k.c.WT:: .bool r.s.k.c.W7:: .bool r.s.k.c.Sa:: .bool r.s.k.c.SI:: .bool r.s.k.c.SO:: .int .i64 r.s.k.src:: .slice r.s.k.ga r.s.k.gn r.s.k.gc:: .int .i64 r.s.k.y.k:: .int .u16 r.s.k.y.a:: .int .u8 r.s.k.y.d:: .int .i64 r.s.k.y.s:: .int .i64 r.s.k.nx:: .bool r.s.k.ho:: .slice r.s.ma r.s.mn r.s.mc:: .int .i64 r.s.p.St:: .bool r.s.p.Le:: .bool r.s.p.Fo:: .bool r.s.p.Si:: .bool r.s.p.Ft:: .int .u8 r.s.p.Lw:: .int .u8 r.s.p.Hg:: .bool r.s.p.Au:: .bool r.s.p.Ro:: .bool r.s.p.Sp:: .bool r.s.p.RI:: .bool r.s.p.Po:: .int .u8 r.s.p.Li:: .int .u8 r.s.p.Ed:: .int .u8 r.s.p.IS:: .int .u8 r.s.p.IM:: .int .i64 r.s.p.Lo:: .int .i64 r.s.p.Sq:: .int .i64 r.s.p.Sv:: .bool r.s.p.Su:: .int .u16 r.s.da:: .int .u8 r.s.dv:: .int .i64 r.s.dl:: .int .i64 r.s.wt:: .slice r.s.oa r.s.on r.s.oc::[])):=(hT.row k.run.rlt hb).trans k.run.row
 have e2:rowOf V (w0.heap.size+1)=(List.toArray (.int .i64 x.c.Ch:: .int .u8 x.c.A:: .int .u8 x.c.B:: .int .u8 x.c.C:: .int .u8 x.c.D:: .int .u8 x.c.E:: .int .u8 x.c.H:: .int .u8 x.c.L:: .bool x.c.fS:: .bool x.c.fZ:: .bool x.c.fK:: .bool x.c.fAC:: .bool x.c.fP:: .bool x.c.fV:: .bool x.c.fCY:: .int .u16 x.c.SP:: .int .u16 x.c.PC:: .bool x.c.IE:: .bool x.c.De:: .bool x.c.Ha:: .int .u8 x.c.Ma:: .bool x.c.Tr:: .bool x.c.R7:: .bool x.c.WT:: .bool x.c.W7:: .bool x.c.Sa:: .bool x.c.SI:: .bool x.c.SO:: .int .i64 x.src:: .slice x.ga x.gn x.gc:: .int .i64 x.y.k:: .int .u16 x.y.a:: .int .u8 x.y.d:: .int .i64 x.y.s:: .int .i64 x.nx:: .bool x.ho::[])):=(hT.row (by omega) (far _ (by omega) (by omega))).trans k.h12
 have e3:rowOf V (b13+1+1)=#[.bool mo.Re,.bool mo.Ho,.bool mo.Rs,.bool mo.Si,.bool mo.Tr,.bool mo.R7,.bool mo.R6,.bool mo.R5,.bool mo.In,.int .u8 mo.da,.int .u16 mo.ca,.int .u8 mo.cv,.bool mo.mv]:=(hT.row (by omega) (far _ (by omega) (by omega))).trans k.h15
 exact ⟨rowOf_cell e1 rfl,e2,rowOf_cell e2 rfl,rowOf_cell e2 rfl,rowOf_cell e3 rfl⟩
theorem RuJ.gr0 {w0:World} {b13:Nat} {x:S.Co} {y:S.Sy} {P:S.Pn} {mo:S.Mo} {base rb:Nat} {r0 r:S.Rn} {tl:List S.Pn} {il:List S.It} {vl:List S.Ev} {ul:List S.Cp} {L:Nat} {z:List Int} {m:List K12.Cl} {os:List S.Ou} {W0 W V:World} (h:RuJ w0 b13 x y P mo base rb r0 r tl il vl ul L z m os W0) (hA:Adds W0 W) (hG:W.grownBy V (Value.slice r.ia r.ni r.ic).ownBlock):rowOf V rb=(List.toArray (.slice r.ta r.tn r.tc:: .slice r.ia r.ni r.ic:: .slice r.ea r.en r.ec:: .slice r.ua r.un r.uc:: .int .i64 r.s.k.c.Ch:: .int .u8 r.s.k.c.A:: .int .u8 r.s.k.c.B:: .int .u8 r.s.k.c.C:: .int .u8 r.s.k.c.D:: .int .u8 r.s.k.c.E:: .int .u8 r.s.k.c.H:: .int .u8 r.s.k.c.L:: .bool r.s.k.c.fS:: .bool r.s.k.c.fZ:: .bool r.s.k.c.fK:: .bool r.s.k.c.fAC:: .bool r.s.k.c.fP:: .bool r.s.k.c.fV:: .bool r.s.k.c.fCY:: .int .u16 r.s.k.c.SP:: .int .u16 r.s.k.c.PC:: .bool r.s.k.c.IE:: .bool r.s.k.c.De:: .bool r.s.k.c.Ha:: .int .u8 r.s.k.c.Ma:: .bool r.s.k.c.Tr:: .bool r.s.k.c.R7:: .bool r.s.k.c.WT:: .bool r.s.k.c.W7:: .bool r.s.k.c.Sa:: .bool r.s.k.c.SI:: .bool r.s.k.c.SO:: .int .i64 r.s.k.src:: .slice r.s.k.ga r.s.k.gn r.s.k.gc:: .int .i64 r.s.k.y.k:: .int .u16 r.s.k.y.a:: .int .u8 r.s.k.y.d:: .int .i64 r.s.k.y.s:: .int .i64 r.s.k.nx:: .bool r.s.k.ho:: .slice r.s.ma r.s.mn r.s.mc:: .int .i64 r.s.p.St:: .bool r.s.p.Le:: .bool r.s.p.Fo:: .bool r.s.p.Si:: .bool r.s.p.Ft:: .int .u8 r.s.p.Lw:: .int .u8 r.s.p.Hg:: .bool r.s.p.Au:: .bool r.s.p.Ro:: .bool r.s.p.Sp:: .bool r.s.p.RI:: .bool r.s.p.Po:: .int .u8 r.s.p.Li:: .int .u8 r.s.p.Ed:: .int .u8 r.s.p.IS:: .int .u8 r.s.p.IM:: .int .i64 r.s.p.Lo:: .int .i64 r.s.p.Sq:: .int .i64 r.s.p.Sv:: .bool r.s.p.Su:: .int .u16 r.s.da:: .int .u8 r.s.dv:: .int .i64 r.s.dl:: .int .i64 r.s.wt:: .slice r.s.oa r.s.on r.s.oc::[])):=
 ((Tch.of_grown (S:=fun k=>(Value.slice r.ia r.ni r.ic).ownBlock=some k) hG (fun _ e=>e)).row (h.adds hA).run.rlt (fun e=>by have:=(h.run.i.lt2 e).1;have:=h.run.lt;omega)).trans (h.adds hA).run.row
theorem RuJ.next {b:S.Bd} {rl:List K12.Rg} {c9:S.Cp} {w:World} {b6 rb b9 base:Nat} {ai:Option Addr} {ni:Nat} {dl:List S.Inp} {L L1:Nat} {s:S.Sy} {z z1:List Int} {m m1:List K12.Cl} {os os1:List S.Ou} {r:S.Rn} {tl:List S.Pn} {il:List S.It} {vl:List S.Ev} {ul:List S.Cp} {W:World} (h:RuI b rl c9 w b6 rb b9 base ai ni dl L s z m os r tl il vl ul W)
 {b13:Nat} {x:S.Co} {y:S.Sy} {P:S.Pn} {mo:S.Mo} {r':S.Rn} {tl':List S.Pn} {il':List S.It} {vl':List S.Ev} {ul':List S.Cp} {V:World} (k:RuJ W b13 x y P mo base rb r r' tl' il' vl' ul' L1 z1 m1 os1 V) (hoff:SyOff (fun k=>k=b6) y) (hinv:S.Inv (b.ch==2) il' tl' y.k) (hch:y.k.c.Ch=b.ch):
 RuI b rl c9 w b6 rb b9 base ai ni dl L1 y z1 m1 os1 r' tl' il' vl' ul' (V.setRow b6 (List.toArray (.int .i64 y.k.c.Ch:: .int .u8 y.k.c.A:: .int .u8 y.k.c.B:: .int .u8 y.k.c.C:: .int .u8 y.k.c.D:: .int .u8 y.k.c.E:: .int .u8 y.k.c.H:: .int .u8 y.k.c.L:: .bool y.k.c.fS:: .bool y.k.c.fZ:: .bool y.k.c.fK:: .bool y.k.c.fAC:: .bool y.k.c.fP:: .bool y.k.c.fV:: .bool y.k.c.fCY:: .int .u16 y.k.c.SP:: .int .u16 y.k.c.PC:: .bool y.k.c.IE:: .bool y.k.c.De:: .bool y.k.c.Ha:: .int .u8 y.k.c.Ma:: .bool y.k.c.Tr:: .bool y.k.c.R7:: .bool y.k.c.WT:: .bool y.k.c.W7:: .bool y.k.c.Sa:: .bool y.k.c.SI:: .bool y.k.c.SO:: .int .i64 y.k.src:: .slice y.k.ga y.k.gn y.k.gc:: .int .i64 y.k.y.k:: .int .u16 y.k.y.a:: .int .u8 y.k.y.d:: .int .i64 y.k.y.s:: .int .i64 y.k.nx:: .bool y.k.ho:: .slice y.ma y.mn y.mc:: .int .i64 y.p.St:: .bool y.p.Le:: .bool y.p.Fo:: .bool y.p.Si:: .bool y.p.Ft:: .int .u8 y.p.Lw:: .int .u8 y.p.Hg:: .bool y.p.Au:: .bool y.p.Ro:: .bool y.p.Sp:: .bool y.p.RI:: .bool y.p.Po:: .int .u8 y.p.Li:: .int .u8 y.p.Ed:: .int .u8 y.p.IS:: .int .u8 y.p.IM:: .int .i64 y.p.Lo:: .int .i64 y.p.Sq:: .int .i64 y.p.Sv:: .bool y.p.Su:: .int .u16 y.da:: .int .u8 y.dv:: .int .i64 y.dl:: .int .i64 y.wt:: .slice y.oa y.on y.oc::[]))):=by
 obtain ⟨d1,d2,d3,d4⟩:=h.d
 have hbs:=h.bs
 have hle:=k.le
 have hsz:=k.sz
 have nR:∀j,j < base→j≠rb→¬RnO rb r j:=fun j h1 h2 e=>by have:=(h.run.olt e).2;omega
 have T2:Tch (fun j=>j=b6∨RnO rb r j) W (V.setRow b6 (List.toArray (.int .i64 y.k.c.Ch:: .int .u8 y.k.c.A:: .int .u8 y.k.c.B:: .int .u8 y.k.c.C:: .int .u8 y.k.c.D:: .int .u8 y.k.c.E:: .int .u8 y.k.c.H:: .int .u8 y.k.c.L:: .bool y.k.c.fS:: .bool y.k.c.fZ:: .bool y.k.c.fK:: .bool y.k.c.fAC:: .bool y.k.c.fP:: .bool y.k.c.fV:: .bool y.k.c.fCY:: .int .u16 y.k.c.SP:: .int .u16 y.k.c.PC:: .bool y.k.c.IE:: .bool y.k.c.De:: .bool y.k.c.Ha:: .int .u8 y.k.c.Ma:: .bool y.k.c.Tr:: .bool y.k.c.R7:: .bool y.k.c.WT:: .bool y.k.c.W7:: .bool y.k.c.Sa:: .bool y.k.c.SI:: .bool y.k.c.SO:: .int .i64 y.k.src:: .slice y.k.ga y.k.gn y.k.gc:: .int .i64 y.k.y.k:: .int .u16 y.k.y.a:: .int .u8 y.k.y.d:: .int .i64 y.k.y.s:: .int .i64 y.k.nx:: .bool y.k.ho:: .slice y.ma y.mn y.mc:: .int .i64 y.p.St:: .bool y.p.Le:: .bool y.p.Fo:: .bool y.p.Si:: .bool y.p.Ft:: .int .u8 y.p.Lw:: .int .u8 y.p.Hg:: .bool y.p.Au:: .bool y.p.Ro:: .bool y.p.Sp:: .bool y.p.RI:: .bool y.p.Po:: .int .u8 y.p.Li:: .int .u8 y.p.Ed:: .int .u8 y.p.IS:: .int .u8 y.p.IM:: .int .i64 y.p.Lo:: .int .i64 y.p.Sq:: .int .i64 y.p.Sv:: .bool y.p.Su:: .int .u16 y.da:: .int .u8 y.dv:: .int .i64 y.dl:: .int .i64 y.wt:: .slice y.oa y.on y.oc::[]))):=Tch.setRow (k.t.mono (fun j _ e=> .inr e)) b6 _ (fun _=> .inl rfl)
 have T3:Tch (fun j=>j=b6) V (V.setRow b6 (List.toArray (.int .i64 y.k.c.Ch:: .int .u8 y.k.c.A:: .int .u8 y.k.c.B:: .int .u8 y.k.c.C:: .int .u8 y.k.c.D:: .int .u8 y.k.c.E:: .int .u8 y.k.c.H:: .int .u8 y.k.c.L:: .bool y.k.c.fS:: .bool y.k.c.fZ:: .bool y.k.c.fK:: .bool y.k.c.fAC:: .bool y.k.c.fP:: .bool y.k.c.fV:: .bool y.k.c.fCY:: .int .u16 y.k.c.SP:: .int .u16 y.k.c.PC:: .bool y.k.c.IE:: .bool y.k.c.De:: .bool y.k.c.Ha:: .int .u8 y.k.c.Ma:: .bool y.k.c.Tr:: .bool y.k.c.R7:: .bool y.k.c.WT:: .bool y.k.c.W7:: .bool y.k.c.Sa:: .bool y.k.c.SI:: .bool y.k.c.SO:: .int .i64 y.k.src:: .slice y.k.ga y.k.gn y.k.gc:: .int .i64 y.k.y.k:: .int .u16 y.k.y.a:: .int .u8 y.k.y.d:: .int .i64 y.k.y.s:: .int .i64 y.k.nx:: .bool y.k.ho:: .slice y.ma y.mn y.mc:: .int .i64 y.p.St:: .bool y.p.Le:: .bool y.p.Fo:: .bool y.p.Si:: .bool y.p.Ft:: .int .u8 y.p.Lw:: .int .u8 y.p.Hg:: .bool y.p.Au:: .bool y.p.Ro:: .bool y.p.Sp:: .bool y.p.RI:: .bool y.p.Po:: .int .u8 y.p.Li:: .int .u8 y.p.Ed:: .int .u8 y.p.IS:: .int .u8 y.p.IM:: .int .i64 y.p.Lo:: .int .i64 y.p.Sq:: .int .i64 y.p.Sv:: .bool y.p.Su:: .int .u16 y.da:: .int .u8 y.dv:: .int .i64 y.dl:: .int .i64 y.wt:: .slice y.oa y.on y.oc::[]))):=Tch.setRow (Tch.refl _ V) b6 _ (fun _=>rfl)
 have hs6:0 < (rowOf V b6).size:=by rw [k.t.row (by omega) (nR _ (by omega) (by omega)),h.r6];simp
 have hA:Adds w (V.setRow b6 (List.toArray (.int .i64 y.k.c.Ch:: .int .u8 y.k.c.A:: .int .u8 y.k.c.B:: .int .u8 y.k.c.C:: .int .u8 y.k.c.D:: .int .u8 y.k.c.E:: .int .u8 y.k.c.H:: .int .u8 y.k.c.L:: .bool y.k.c.fS:: .bool y.k.c.fZ:: .bool y.k.c.fK:: .bool y.k.c.fAC:: .bool y.k.c.fP:: .bool y.k.c.fV:: .bool y.k.c.fCY:: .int .u16 y.k.c.SP:: .int .u16 y.k.c.PC:: .bool y.k.c.IE:: .bool y.k.c.De:: .bool y.k.c.Ha:: .int .u8 y.k.c.Ma:: .bool y.k.c.Tr:: .bool y.k.c.R7:: .bool y.k.c.WT:: .bool y.k.c.W7:: .bool y.k.c.Sa:: .bool y.k.c.SI:: .bool y.k.c.SO:: .int .i64 y.k.src:: .slice y.k.ga y.k.gn y.k.gc:: .int .i64 y.k.y.k:: .int .u16 y.k.y.a:: .int .u8 y.k.y.d:: .int .i64 y.k.y.s:: .int .i64 y.k.nx:: .bool y.k.ho:: .slice y.ma y.mn y.mc:: .int .i64 y.p.St:: .bool y.p.Le:: .bool y.p.Fo:: .bool y.p.Si:: .bool y.p.Ft:: .int .u8 y.p.Lw:: .int .u8 y.p.Hg:: .bool y.p.Au:: .bool y.p.Ro:: .bool y.p.Sp:: .bool y.p.RI:: .bool y.p.Po:: .int .u8 y.p.Li:: .int .u8 y.p.Ed:: .int .u8 y.p.IS:: .int .u8 y.p.IM:: .int .i64 y.p.Lo:: .int .i64 y.p.Sq:: .int .i64 y.p.Sv:: .bool y.p.Su:: .int .u16 y.da:: .int .u8 y.dv:: .int .i64 y.dl:: .int .i64 y.wt:: .slice y.oa y.on y.oc::[]))):=T2.adds h.a (fun j _ e=>by
  rcases e with rfl|e
  ·omega
  ·have:=(h.run.olt e).2;omega)
 have ko:∀j,RnO rb r' j→RnO rb r j∨b13≤j:=fun j e=>(k.o j e).imp id (fun q=>by omega)
 have q:∀j,j < base→j≠rb→j≠b6→¬(j=b6∨RnO rb r j):=fun j h1 h2 h3 e=>e.elim h3 (nR j h1 h2)
 refine ⟨hA,(T2.row (by omega) (q _ (by omega) (by omega) (by omega))).trans h.r2,by rw [T2.row (by omega) (q _ (by omega) (by omega) (by omega))];exact h.r4,rowOf_setRow_same _ _ _ hs6,(T2.row (by omega) (q _ (by omega) (by omega) (by omega))).trans h.r9,h.d,by rw [size_setRow];omega,h.bd,h.inp.tch T2 (h.io.mono fun j e=> ?_),h.io,k.run.tch T3 (fun j e e2=> ?_),k.sy.soff T3 hoff,⟨hoff.1.or (k.so.1.mono ko),hoff.2.1.or (k.so.2.1.mono ko),hoff.2.2.or (k.so.2.2.mono ko)⟩,hinv,hch⟩
 ·rcases e with rfl|e
  ·exact .inl rfl
  ·exact .inr (h.run.olt e).2
 ·subst e
  have:=(k.run.olt e2).2
  omega
theorem RnOk.evs {base rb:Nat} {r:S.Rn} {tl:List S.Pn} {il:List S.It} {vl:List S.Ev} {ul:List S.Cp} {w w0:World} (h:RnOk base rb r tl il vl ul w) (ha:Tch (fun k=>(Value.slice r.ea r.en r.ec).ownBlock=some k) w w0)
 {a:Option Addr} {n c:Nat} {l':List S.Ev} (ho:OwnsV w0 base (.slice a n c) l') (h1:∀g,(Value.slice a n c).ownBlock=some g→(Value.slice r.ea r.en r.ec).ownBlock=some g∨w.heap.size≤g):
 RnOk base rb ⟨r.ta,r.tn,r.tc,r.ia,r.ni,r.ic,a,n,c,r.ua,r.un,r.uc,r.s⟩ tl il l' ul (w0.setCell ⟨rb,2,none⟩ (.slice a n c))∧Tch (RnO rb r) w (w0.setCell ⟨rb,2,none⟩ (.slice a n c))∧∀k,RnO rb ⟨r.ta,r.tn,r.tc,r.ia,r.ni,r.ic,a,n,c,r.ua,r.un,r.uc,r.s⟩ k→RnO rb r k∨w.heap.size≤k:=by
 have hlt:=h.lt
 have hrow:rowOf w0 rb=(List.toArray (.slice r.ta r.tn r.tc:: .slice r.ia r.ni r.ic:: .slice r.ea r.en r.ec:: .slice r.ua r.un r.uc:: .int .i64 r.s.k.c.Ch:: .int .u8 r.s.k.c.A:: .int .u8 r.s.k.c.B:: .int .u8 r.s.k.c.C:: .int .u8 r.s.k.c.D:: .int .u8 r.s.k.c.E:: .int .u8 r.s.k.c.H:: .int .u8 r.s.k.c.L:: .bool r.s.k.c.fS:: .bool r.s.k.c.fZ:: .bool r.s.k.c.fK:: .bool r.s.k.c.fAC:: .bool r.s.k.c.fP:: .bool r.s.k.c.fV:: .bool r.s.k.c.fCY:: .int .u16 r.s.k.c.SP:: .int .u16 r.s.k.c.PC:: .bool r.s.k.c.IE:: .bool r.s.k.c.De:: .bool r.s.k.c.Ha:: .int .u8 r.s.k.c.Ma:: .bool r.s.k.c.Tr:: .bool r.s.k.c.R7:: .bool r.s.k.c.WT:: .bool r.s.k.c.W7:: .bool r.s.k.c.Sa:: .bool r.s.k.c.SI:: .bool r.s.k.c.SO:: .int .i64 r.s.k.src:: .slice r.s.k.ga r.s.k.gn r.s.k.gc:: .int .i64 r.s.k.y.k:: .int .u16 r.s.k.y.a:: .int .u8 r.s.k.y.d:: .int .i64 r.s.k.y.s:: .int .i64 r.s.k.nx:: .bool r.s.k.ho:: .slice r.s.ma r.s.mn r.s.mc:: .int .i64 r.s.p.St:: .bool r.s.p.Le:: .bool r.s.p.Fo:: .bool r.s.p.Si:: .bool r.s.p.Ft:: .int .u8 r.s.p.Lw:: .int .u8 r.s.p.Hg:: .bool r.s.p.Au:: .bool r.s.p.Ro:: .bool r.s.p.Sp:: .bool r.s.p.RI:: .bool r.s.p.Po:: .int .u8 r.s.p.Li:: .int .u8 r.s.p.Ed:: .int .u8 r.s.p.IS:: .int .u8 r.s.p.IM:: .int .i64 r.s.p.Lo:: .int .i64 r.s.p.Sq:: .int .i64 r.s.p.Sv:: .bool r.s.p.Su:: .int .u16 r.s.da:: .int .u8 r.s.dv:: .int .i64 r.s.dl:: .int .i64 r.s.wt:: .slice r.s.oa r.s.on r.s.oc::[])):=(ha.row h.rlt (fun e=>by have:=(h.e.lt2 e).1;omega)).trans h.row
 have hsz:0 < (rowOf w0 rb).size:=by rw [hrow];simp
 have hT:=Tch.setCell (S:=fun k=>k=rb) (Tch.refl _ w0) rb 2 (.slice a n c) (fun _=>rfl)
 have far:∀{α:Type} {cs:α→List Value} {sz:Nat} {E:TypeId} {v:Value} {d:List α},OwnsG cs sz E w0 base v d→OwnsG cs sz E (w0.setCell ⟨rb,2,none⟩ (.slice a n c)) base v d:=fun o=>o.tch hT (fun g e k=>by have:=(o.lt2 e).1;omega)
 refine ⟨⟨?_,h.lt,far (h.t.tch ha (fun g e k=>h.te g e k)),far (h.i.tch ha (fun g e k=>h.ie g e k)),far ho,far (h.u.tch ha (fun g e k=>h.eu g k e)),h.ti,h.te.new h1 (fun g e=>(h.t.lt2 e).2),h.tu,h.ie.new h1 (fun g e=>(h.i.lt2 e).2),h.iu,(h.eu.symm.new h1 (fun g e=>(h.u.lt2 e).2)).symm⟩,?_,?_⟩
 ·rw [rowOf_setCell_same _ _ _ _ hsz,hrow];rfl
 ·exact Tch.trans (S1:=fun k=>k=rb) (ha.mono (fun k _ e=> .inr (.inr (.inr (.inl e))))) hT (fun k _ e=> .inl e)
 ·intro k e
  rcases e with e|e|e|e|e
  ·exact .inl (.inl e)
  ·exact .inl (.inr (.inl e))
  ·exact .inl (.inr (.inr (.inl e)))
  ·exact (h1 k e).imp (fun e=> .inr (.inr (.inr (.inl e)))) id
  ·exact .inl (.inr (.inr (.inr (.inr e))))
theorem RnOk.cpus {base rb:Nat} {r:S.Rn} {tl:List S.Pn} {il:List S.It} {vl:List S.Ev} {ul:List S.Cp} {w w0:World} (h:RnOk base rb r tl il vl ul w) (ha:Tch (fun k=>(Value.slice r.ua r.un r.uc).ownBlock=some k) w w0)
 {a:Option Addr} {n c:Nat} {l':List S.Cp} (ho:OwnsU w0 base (.slice a n c) l') (h1:∀g,(Value.slice a n c).ownBlock=some g→(Value.slice r.ua r.un r.uc).ownBlock=some g∨w.heap.size≤g):
 RnOk base rb ⟨r.ta,r.tn,r.tc,r.ia,r.ni,r.ic,r.ea,r.en,r.ec,a,n,c,r.s⟩ tl il vl l' (w0.setCell ⟨rb,3,none⟩ (.slice a n c))∧Tch (RnO rb r) w (w0.setCell ⟨rb,3,none⟩ (.slice a n c)):=by
 have hlt:=h.lt
 have hrow:rowOf w0 rb=(List.toArray (.slice r.ta r.tn r.tc:: .slice r.ia r.ni r.ic:: .slice r.ea r.en r.ec:: .slice r.ua r.un r.uc:: .int .i64 r.s.k.c.Ch:: .int .u8 r.s.k.c.A:: .int .u8 r.s.k.c.B:: .int .u8 r.s.k.c.C:: .int .u8 r.s.k.c.D:: .int .u8 r.s.k.c.E:: .int .u8 r.s.k.c.H:: .int .u8 r.s.k.c.L:: .bool r.s.k.c.fS:: .bool r.s.k.c.fZ:: .bool r.s.k.c.fK:: .bool r.s.k.c.fAC:: .bool r.s.k.c.fP:: .bool r.s.k.c.fV:: .bool r.s.k.c.fCY:: .int .u16 r.s.k.c.SP:: .int .u16 r.s.k.c.PC:: .bool r.s.k.c.IE:: .bool r.s.k.c.De:: .bool r.s.k.c.Ha:: .int .u8 r.s.k.c.Ma:: .bool r.s.k.c.Tr:: .bool r.s.k.c.R7:: .bool r.s.k.c.WT:: .bool r.s.k.c.W7:: .bool r.s.k.c.Sa:: .bool r.s.k.c.SI:: .bool r.s.k.c.SO:: .int .i64 r.s.k.src:: .slice r.s.k.ga r.s.k.gn r.s.k.gc:: .int .i64 r.s.k.y.k:: .int .u16 r.s.k.y.a:: .int .u8 r.s.k.y.d:: .int .i64 r.s.k.y.s:: .int .i64 r.s.k.nx:: .bool r.s.k.ho:: .slice r.s.ma r.s.mn r.s.mc:: .int .i64 r.s.p.St:: .bool r.s.p.Le:: .bool r.s.p.Fo:: .bool r.s.p.Si:: .bool r.s.p.Ft:: .int .u8 r.s.p.Lw:: .int .u8 r.s.p.Hg:: .bool r.s.p.Au:: .bool r.s.p.Ro:: .bool r.s.p.Sp:: .bool r.s.p.RI:: .bool r.s.p.Po:: .int .u8 r.s.p.Li:: .int .u8 r.s.p.Ed:: .int .u8 r.s.p.IS:: .int .u8 r.s.p.IM:: .int .i64 r.s.p.Lo:: .int .i64 r.s.p.Sq:: .int .i64 r.s.p.Sv:: .bool r.s.p.Su:: .int .u16 r.s.da:: .int .u8 r.s.dv:: .int .i64 r.s.dl:: .int .i64 r.s.wt:: .slice r.s.oa r.s.on r.s.oc::[])):=(ha.row h.rlt (fun e=>by have:=(h.u.lt2 e).1;omega)).trans h.row
 have hsz:0 < (rowOf w0 rb).size:=by rw [hrow];simp
 have hT:=Tch.setCell (S:=fun k=>k=rb) (Tch.refl _ w0) rb 3 (.slice a n c) (fun _=>rfl)
 have far:∀{α:Type} {cs:α→List Value} {sz:Nat} {E:TypeId} {v:Value} {d:List α},OwnsG cs sz E w0 base v d→OwnsG cs sz E (w0.setCell ⟨rb,3,none⟩ (.slice a n c)) base v d:=fun o=>o.tch hT (fun g e k=>by have:=(o.lt2 e).1;omega)
 refine ⟨⟨?_,h.lt,far (h.t.tch ha (fun g e k=>h.tu g e k)),far (h.i.tch ha (fun g e k=>h.iu g e k)),far (h.e.tch ha (fun g e k=>h.eu g e k)),far ho,h.ti,h.te,h.tu.new h1 (fun g e=>(h.t.lt2 e).2),h.ie,h.iu.new h1 (fun g e=>(h.i.lt2 e).2),h.eu.new h1 (fun g e=>(h.e.lt2 e).2)⟩,?_⟩
 ·rw [rowOf_setCell_same _ _ _ _ hsz,hrow];rfl
 ·exact Tch.trans (S1:=fun k=>k=rb) (ha.mono (fun k _ e=> .inr (.inr (.inr (.inr e))))) hT (fun k _ e=> .inl e)
def S.evOpen (src:Int) (ga:Option Addr) (gn gc:Nat):S.Ev:=⟨[.int .i64 7,.int .i64 src,.slice ga gn gc,.bool false,.bool false,.bool false,.bool false,.bool false,.bool false,.bool false,.bool false,.bool false,.bool false,.bool false,.bool false,.bool false,.int .u16 0,.int .u8 0],rfl,by
 intro u hu
 simp only [List.mem_cons,List.not_mem_nil,or_false] at hu
 rcases hu with rfl|rfl|rfl|rfl|rfl|rfl|rfl|rfl|rfl|rfl|rfl|rfl|rfl|rfl|rfl|rfl|rfl|rfl<;>rfl⟩
structure RuE (w:World) (b6 rb base:Nat) (s:S.Sy) (r:S.Rn) (tl:List S.Pn) (il:List S.It) (vl:List S.Ev) (ul:List S.Cp) (W:World):Prop where
 a:Adds w W
 r4:(rowOf W (w.heap.size+1)).size=66
 r6:rowOf W b6=(List.toArray (.int .i64 s.k.c.Ch:: .int .u8 s.k.c.A:: .int .u8 s.k.c.B:: .int .u8 s.k.c.C:: .int .u8 s.k.c.D:: .int .u8 s.k.c.E:: .int .u8 s.k.c.H:: .int .u8 s.k.c.L:: .bool s.k.c.fS:: .bool s.k.c.fZ:: .bool s.k.c.fK:: .bool s.k.c.fAC:: .bool s.k.c.fP:: .bool s.k.c.fV:: .bool s.k.c.fCY:: .int .u16 s.k.c.SP:: .int .u16 s.k.c.PC:: .bool s.k.c.IE:: .bool s.k.c.De:: .bool s.k.c.Ha:: .int .u8 s.k.c.Ma:: .bool s.k.c.Tr:: .bool s.k.c.R7:: .bool s.k.c.WT:: .bool s.k.c.W7:: .bool s.k.c.Sa:: .bool s.k.c.SI:: .bool s.k.c.SO:: .int .i64 s.k.src:: .slice s.k.ga s.k.gn s.k.gc:: .int .i64 s.k.y.k:: .int .u16 s.k.y.a:: .int .u8 s.k.y.d:: .int .i64 s.k.y.s:: .int .i64 s.k.nx:: .bool s.k.ho:: .slice s.ma s.mn s.mc:: .int .i64 s.p.St:: .bool s.p.Le:: .bool s.p.Fo:: .bool s.p.Si:: .bool s.p.Ft:: .int .u8 s.p.Lw:: .int .u8 s.p.Hg:: .bool s.p.Au:: .bool s.p.Ro:: .bool s.p.Sp:: .bool s.p.RI:: .bool s.p.Po:: .int .u8 s.p.Li:: .int .u8 s.p.Ed:: .int .u8 s.p.IS:: .int .u8 s.p.IM:: .int .i64 s.p.Lo:: .int .i64 s.p.Sq:: .int .i64 s.p.Sv:: .bool s.p.Su:: .int .u16 s.da:: .int .u8 s.dv:: .int .i64 s.dl:: .int .i64 s.wt:: .slice s.oa s.on s.oc::[]))
 d:w.heap.size+1 < b6∧b6 < rb∧rb < base
 bs:base≤W.heap.size
 run:RnOk base rb r tl il vl ul W
theorem RuI.fin {b:S.Bd} {rl:List K12.Rg} {c9:S.Cp} {w:World} {b6 rb b9 base:Nat} {ai:Option Addr} {ni:Nat} {dl:List S.Inp} {L:Nat} {s:S.Sy} {z:List Int} {m:List K12.Cl} {os:List S.Ou} {r:S.Rn} {tl:List S.Pn} {il:List S.It} {vl:List S.Ev} {ul:List S.Cp} {W:World} (h:RuI b rl c9 w b6 rb b9 base ai ni dl L s z m os r tl il vl ul W):RuE w b6 rb base s r tl il vl ul W:=
 ⟨h.a,h.r4,h.r6,⟨h.d.1,h.d.2.1,by have:=h.d;omega⟩,h.bs,h.run⟩
theorem RuE.step {w:World} {b6 rb base:Nat} {s:S.Sy} {r r':S.Rn} {tl:List S.Pn} {il:List S.It} {vl vl':List S.Ev} {ul ul':List S.Cp} {W V:World} (h:RuE w b6 rb base s r tl il vl ul W) {T:Nat→Prop} (k:Tch T W V) (hT:∀j,T j→j=rb∨base≤j) (hr:RnOk base rb r' tl il vl' ul' V):RuE w b6 rb base s r' tl il vl' ul' V:=by
 obtain ⟨d1,d2,d3⟩:=h.d
 have hbs:=h.bs
 have no:∀j,j < base→j≠rb→¬T j:=fun j h1 h2 e=>by
  rcases hT j e with q|q
  ·exact h2 q
  ·omega
 exact ⟨k.adds h.a (fun j _ e=>by have:=hT j e;omega),by rw [k.row (by omega) (no _ (by omega) (by omega))];exact h.r4,(k.row (by omega) (no _ (by omega) (by omega))).trans h.r6,h.d,Nat.le_trans hbs k.size,hr⟩
theorem RuE.adds {w:World} {b6 rb base:Nat} {s:S.Sy} {r:S.Rn} {tl:List S.Pn} {il:List S.It} {vl:List S.Ev} {ul:List S.Cp} {W V:World} (h:RuE w b6 rb base s r tl il vl ul W) (k:Adds W V):RuE w b6 rb base s r tl il vl ul V:=h.step (T:=fun _=>False) (Tch.of_adds k) (fun _ e=>e.elim) (h.run.adds k)
theorem RuE.tw {w:World} {b6 rb base:Nat} {s:S.Sy} {r:S.Rn} {tl:List S.Pn} {il:List S.It} {vl:List S.Ev} {ul:List S.Cp} {W:World} (h:RuE w b6 rb base s r tl il vl ul W):W.cell? ⟨rb,2,none⟩=some (.slice r.ea r.en r.ec)∧W.cell? ⟨b6,28,none⟩=some (.int .i64 s.k.src)∧W.cell? ⟨b6,29,none⟩=some (.slice s.k.ga s.k.gn s.k.gc):=
 ⟨rowOf_cell h.run.row rfl,rowOf_cell h.r6 rfl,rowOf_cell h.r6 rfl⟩
theorem RuE.gr {w:World} {b6 rb base:Nat} {s:S.Sy} {r:S.Rn} {tl:List S.Pn} {il:List S.It} {vl:List S.Ev} {ul:List S.Cp} {W V:World} (h:RuE w b6 rb base s r tl il vl ul W) (hG:W.grownBy V (Value.slice r.ea r.en r.ec).ownBlock):rowOf V rb=(List.toArray (.slice r.ta r.tn r.tc:: .slice r.ia r.ni r.ic:: .slice r.ea r.en r.ec:: .slice r.ua r.un r.uc:: .int .i64 r.s.k.c.Ch:: .int .u8 r.s.k.c.A:: .int .u8 r.s.k.c.B:: .int .u8 r.s.k.c.C:: .int .u8 r.s.k.c.D:: .int .u8 r.s.k.c.E:: .int .u8 r.s.k.c.H:: .int .u8 r.s.k.c.L:: .bool r.s.k.c.fS:: .bool r.s.k.c.fZ:: .bool r.s.k.c.fK:: .bool r.s.k.c.fAC:: .bool r.s.k.c.fP:: .bool r.s.k.c.fV:: .bool r.s.k.c.fCY:: .int .u16 r.s.k.c.SP:: .int .u16 r.s.k.c.PC:: .bool r.s.k.c.IE:: .bool r.s.k.c.De:: .bool r.s.k.c.Ha:: .int .u8 r.s.k.c.Ma:: .bool r.s.k.c.Tr:: .bool r.s.k.c.R7:: .bool r.s.k.c.WT:: .bool r.s.k.c.W7:: .bool r.s.k.c.Sa:: .bool r.s.k.c.SI:: .bool r.s.k.c.SO:: .int .i64 r.s.k.src:: .slice r.s.k.ga r.s.k.gn r.s.k.gc:: .int .i64 r.s.k.y.k:: .int .u16 r.s.k.y.a:: .int .u8 r.s.k.y.d:: .int .i64 r.s.k.y.s:: .int .i64 r.s.k.nx:: .bool r.s.k.ho:: .slice r.s.ma r.s.mn r.s.mc:: .int .i64 r.s.p.St:: .bool r.s.p.Le:: .bool r.s.p.Fo:: .bool r.s.p.Si:: .bool r.s.p.Ft:: .int .u8 r.s.p.Lw:: .int .u8 r.s.p.Hg:: .bool r.s.p.Au:: .bool r.s.p.Ro:: .bool r.s.p.Sp:: .bool r.s.p.RI:: .bool r.s.p.Po:: .int .u8 r.s.p.Li:: .int .u8 r.s.p.Ed:: .int .u8 r.s.p.IS:: .int .u8 r.s.p.IM:: .int .i64 r.s.p.Lo:: .int .i64 r.s.p.Sq:: .int .i64 r.s.p.Sv:: .bool r.s.p.Su:: .int .u16 r.s.da:: .int .u8 r.s.dv:: .int .i64 r.s.dl:: .int .i64 r.s.wt:: .slice r.s.oa r.s.on r.s.oc::[]))∧V.cell? ⟨rb,2,none⟩=some (.slice r.ea r.en r.ec)∧V.cell? ⟨b6,28,none⟩=some (.int .i64 s.k.src)∧V.cell? ⟨b6,29,none⟩=some (.slice s.k.ga s.k.gn s.k.gc):=by
 obtain ⟨d1,d2,d3⟩:=h.d
 have hbs:=h.bs
 have hT:=Tch.of_grown (S:=fun k=>(Value.slice r.ea r.en r.ec).ownBlock=some k) hG (fun _ e=>e)
 have no:∀j,j < base→¬(Value.slice r.ea r.en r.ec).ownBlock=some j:=fun j h1 e=>by have:=(h.run.e.lt2 e).1;omega
 have e1:rowOf V rb=(List.toArray (.slice r.ta r.tn r.tc:: .slice r.ia r.ni r.ic:: .slice r.ea r.en r.ec:: .slice r.ua r.un r.uc:: .int .i64 r.s.k.c.Ch:: .int .u8 r.s.k.c.A:: .int .u8 r.s.k.c.B:: .int .u8 r.s.k.c.C:: .int .u8 r.s.k.c.D:: .int .u8 r.s.k.c.E:: .int .u8 r.s.k.c.H:: .int .u8 r.s.k.c.L:: .bool r.s.k.c.fS:: .bool r.s.k.c.fZ:: .bool r.s.k.c.fK:: .bool r.s.k.c.fAC:: .bool r.s.k.c.fP:: .bool r.s.k.c.fV:: .bool r.s.k.c.fCY:: .int .u16 r.s.k.c.SP:: .int .u16 r.s.k.c.PC:: .bool r.s.k.c.IE:: .bool r.s.k.c.De:: .bool r.s.k.c.Ha:: .int .u8 r.s.k.c.Ma:: .bool r.s.k.c.Tr:: .bool r.s.k.c.R7:: .bool r.s.k.c.WT:: .bool r.s.k.c.W7:: .bool r.s.k.c.Sa:: .bool r.s.k.c.SI:: .bool r.s.k.c.SO:: .int .i64 r.s.k.src:: .slice r.s.k.ga r.s.k.gn r.s.k.gc:: .int .i64 r.s.k.y.k:: .int .u16 r.s.k.y.a:: .int .u8 r.s.k.y.d:: .int .i64 r.s.k.y.s:: .int .i64 r.s.k.nx:: .bool r.s.k.ho:: .slice r.s.ma r.s.mn r.s.mc:: .int .i64 r.s.p.St:: .bool r.s.p.Le:: .bool r.s.p.Fo:: .bool r.s.p.Si:: .bool r.s.p.Ft:: .int .u8 r.s.p.Lw:: .int .u8 r.s.p.Hg:: .bool r.s.p.Au:: .bool r.s.p.Ro:: .bool r.s.p.Sp:: .bool r.s.p.RI:: .bool r.s.p.Po:: .int .u8 r.s.p.Li:: .int .u8 r.s.p.Ed:: .int .u8 r.s.p.IS:: .int .u8 r.s.p.IM:: .int .i64 r.s.p.Lo:: .int .i64 r.s.p.Sq:: .int .i64 r.s.p.Sv:: .bool r.s.p.Su:: .int .u16 r.s.da:: .int .u8 r.s.dv:: .int .i64 r.s.dl:: .int .i64 r.s.wt:: .slice r.s.oa r.s.on r.s.oc::[])):=(hT.row (by omega) (no _ d3)).trans h.run.row
 have e2:rowOf V b6=(List.toArray (.int .i64 s.k.c.Ch:: .int .u8 s.k.c.A:: .int .u8 s.k.c.B:: .int .u8 s.k.c.C:: .int .u8 s.k.c.D:: .int .u8 s.k.c.E:: .int .u8 s.k.c.H:: .int .u8 s.k.c.L:: .bool s.k.c.fS:: .bool s.k.c.fZ:: .bool s.k.c.fK:: .bool s.k.c.fAC:: .bool s.k.c.fP:: .bool s.k.c.fV:: .bool s.k.c.fCY:: .int .u16 s.k.c.SP:: .int .u16 s.k.c.PC:: .bool s.k.c.IE:: .bool s.k.c.De:: .bool s.k.c.Ha:: .int .u8 s.k.c.Ma:: .bool s.k.c.Tr:: .bool s.k.c.R7:: .bool s.k.c.WT:: .bool s.k.c.W7:: .bool s.k.c.Sa:: .bool s.k.c.SI:: .bool s.k.c.SO:: .int .i64 s.k.src:: .slice s.k.ga s.k.gn s.k.gc:: .int .i64 s.k.y.k:: .int .u16 s.k.y.a:: .int .u8 s.k.y.d:: .int .i64 s.k.y.s:: .int .i64 s.k.nx:: .bool s.k.ho:: .slice s.ma s.mn s.mc:: .int .i64 s.p.St:: .bool s.p.Le:: .bool s.p.Fo:: .bool s.p.Si:: .bool s.p.Ft:: .int .u8 s.p.Lw:: .int .u8 s.p.Hg:: .bool s.p.Au:: .bool s.p.Ro:: .bool s.p.Sp:: .bool s.p.RI:: .bool s.p.Po:: .int .u8 s.p.Li:: .int .u8 s.p.Ed:: .int .u8 s.p.IS:: .int .u8 s.p.IM:: .int .i64 s.p.Lo:: .int .i64 s.p.Sq:: .int .i64 s.p.Sv:: .bool s.p.Su:: .int .u16 s.da:: .int .u8 s.dv:: .int .i64 s.dl:: .int .i64 s.wt:: .slice s.oa s.on s.oc::[])):=(hT.row (by omega) (no _ (by omega))).trans h.r6
 exact ⟨e1,rowOf_cell e1 rfl,rowOf_cell e2 rfl,rowOf_cell e2 rfl⟩
structure RuF (w:World) (b6 rb base:Nat) (s:S.Sy) (r:S.Rn) (tl:List S.Pn) (il:List S.It) (vl:List S.Ev) (ul:List S.Cp) (b17:Nat) (c:S.Cp) (z:List Int) (W:World):Prop where
 e:RuE w b6 rb base s r tl il vl ul W
 r17:rowOf W b17=#[.int .i64 c.Ch,.int .u8 c.A,.int .u8 c.B,.int .u8 c.C,.int .u8 c.D,.int .u8 c.E,.int .u8 c.H,.int .u8 c.L,.bool c.fS,.bool c.fZ,.bool c.fK,.bool c.fAC,.bool c.fP,.bool c.fV,.bool c.fCY,.int .u16 c.SP,.int .u16 c.PC,.bool c.IE,.bool c.De,.bool c.Ha,.int .u8 c.Ma,.bool c.Tr,.bool c.R7,.bool c.WT,.bool c.W7,.bool c.Sa,.bool c.SI,.bool c.SO]
 b:base≤b17
 n:¬RnO rb r b17
 k:CoOk s.k z W
 o:Off (fun j=>j=b17) s.k.ga s.k.gn
def S.Rn.fin (r:S.Rn) (s:S.Sy):S.Rn:=⟨r.ta,r.tn,r.tc,r.ia,r.ni,r.ic,r.ea,r.en,r.ec,r.ua,r.un,r.uc,s⟩
theorem RnOk.sys {base rb:Nat} {r:S.Rn} {tl:List S.Pn} {il:List S.It} {vl:List S.Ev} {ul:List S.Cp} {w:World} (h:RnOk base rb r tl il vl ul w) (s:S.Sy) {cs:Array Value} (hcs:cs=(fun x:S.Rn=>(List.toArray (.slice x.ta x.tn x.tc:: .slice x.ia x.ni x.ic:: .slice x.ea x.en x.ec:: .slice x.ua x.un x.uc:: .int .i64 x.s.k.c.Ch:: .int .u8 x.s.k.c.A:: .int .u8 x.s.k.c.B:: .int .u8 x.s.k.c.C:: .int .u8 x.s.k.c.D:: .int .u8 x.s.k.c.E:: .int .u8 x.s.k.c.H:: .int .u8 x.s.k.c.L:: .bool x.s.k.c.fS:: .bool x.s.k.c.fZ:: .bool x.s.k.c.fK:: .bool x.s.k.c.fAC:: .bool x.s.k.c.fP:: .bool x.s.k.c.fV:: .bool x.s.k.c.fCY:: .int .u16 x.s.k.c.SP:: .int .u16 x.s.k.c.PC:: .bool x.s.k.c.IE:: .bool x.s.k.c.De:: .bool x.s.k.c.Ha:: .int .u8 x.s.k.c.Ma:: .bool x.s.k.c.Tr:: .bool x.s.k.c.R7:: .bool x.s.k.c.WT:: .bool x.s.k.c.W7:: .bool x.s.k.c.Sa:: .bool x.s.k.c.SI:: .bool x.s.k.c.SO:: .int .i64 x.s.k.src:: .slice x.s.k.ga x.s.k.gn x.s.k.gc:: .int .i64 x.s.k.y.k:: .int .u16 x.s.k.y.a:: .int .u8 x.s.k.y.d:: .int .i64 x.s.k.y.s:: .int .i64 x.s.k.nx:: .bool x.s.k.ho:: .slice x.s.ma x.s.mn x.s.mc:: .int .i64 x.s.p.St:: .bool x.s.p.Le:: .bool x.s.p.Fo:: .bool x.s.p.Si:: .bool x.s.p.Ft:: .int .u8 x.s.p.Lw:: .int .u8 x.s.p.Hg:: .bool x.s.p.Au:: .bool x.s.p.Ro:: .bool x.s.p.Sp:: .bool x.s.p.RI:: .bool x.s.p.Po:: .int .u8 x.s.p.Li:: .int .u8 x.s.p.Ed:: .int .u8 x.s.p.IS:: .int .u8 x.s.p.IM:: .int .i64 x.s.p.Lo:: .int .i64 x.s.p.Sq:: .int .i64 x.s.p.Sv:: .bool x.s.p.Su:: .int .u16 x.s.da:: .int .u8 x.s.dv:: .int .i64 x.s.dl:: .int .i64 x.s.wt:: .slice x.s.oa x.s.on x.s.oc::[]))) (r.fin s)):RnOk base rb (r.fin s) tl il vl ul (w.setRow rb cs):=by
 have hlt:=h.lt
 have hT:=Tch.setRow (S:=fun k=>k=rb) (Tch.refl _ w) rb cs (fun _=>rfl)
 have far:∀{α:Type} {cs':α→List Value} {sz:Nat} {E:TypeId} {v:Value} {d:List α},OwnsG cs' sz E w base v d→OwnsG cs' sz E (w.setRow rb cs) base v d:=fun o=>o.tch hT (fun g e k=>by have:=(o.lt2 e).1;omega)
 exact ⟨(rowOf_setRow_same _ _ _ (by rw [h.row];simp)).trans hcs,h.lt,far h.t,far h.i,far h.e,far h.u,h.ti,h.te,h.tu,h.ie,h.iu,h.eu⟩
end
end Go.Proofs.YteggjjhjmhccjaaGreatDoor
