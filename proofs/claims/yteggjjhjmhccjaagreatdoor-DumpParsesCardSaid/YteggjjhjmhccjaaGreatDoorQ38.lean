/- Texts that the proofs of the statements on dumps rest on, joined. Conditions stand in each theorem. -/
import Derived.Test.YteggjjhjmhccjaaGreatDoorQ03
import Derived.Test.YteggjjhjmhccjaaGreatDoorQ36
import Derived.Deep.RegionHeld3
set_option linter.unusedVariables false
set_option linter.unusedSimpArgs false
set_option maxRecDepth 100000
set_option maxHeartbeats 8000000
namespace Go.Proofs.YteggjjhjmhccjaaGreatDoor
open Go.ChangeShapes Go.WideShapes Go.ChangeAt Go.RowKit
section
variable {w:World}
def PostL (rs:Bool) (w:World) (e:Ending) (w':World):Prop:=∃re ho si tr r7 r6 r5 n:Bool,e=.returned (.agg #[.bool re,.bool ho,.bool rs,.bool si,.bool tr,.bool r7,.bool r6,.bool r5,.bool n])∧Adds w w'
theorem PostL.mk {w':World} (re ho rs si tr r7 r6 r5 n:Bool) (h:Adds w w'):PostL rs w (.returned (.agg #[.bool re,.bool ho,.bool rs,.bool si,.bool tr,.bool r7,.bool r6,.bool r5,.bool n])) w':=⟨re,ho,si,tr,r7,r6,r5,n,rfl,h⟩
theorem lv_end {P:Prop} (hP:P:=by
 refine wpAnyH_ready (rs:=[33]) (by kernel_rfl) (by simp) ?_
 refine AllReadyH.cons rfl (fun K hK=> ?_) AllReadyH.nil
 go_simp
 refine hK.out _ _ (by (try dsimp only);((try simp [go_sem, *]);(try simp (disch:=omega) only [rowOf_setRow_other,cell_setRow_ne, *]);done)) (fun hHeld=> ?_)
 clear hK K
 (try simp only [Act.put,List.setIfInBounds_toArray,List.set_cons_zero,List.set_cons_succ])
 refine wpAnyH_done (by kernel_rfl) ?_ _
 refine NoPanic.normal ?_
 clear hHeld
 all_goals go_wp2_with fail
 all_goals
  refine bodyPost_ret (ret_Lines Tryz.results63 rfl rfl (by simp [go_sem, *])) rfl ?_
  simp [go_sem, *]
  exact PostL.mk _ _ _ _ _ _ _ _ _ (have hT:=Tch.adds (Tch.setRow (S:=fun b=>b=w.heap.size+1+1+1) (Tch.refl _ ww) (w.heap.size+1+1+1) _ (fun _=>rfl)) HA.out (fun b _ e=>by omega);hT.trans aD)):P:=hP
theorem levels_any (L:Nat) (b:S.Bd) (x:S.Sy) (i:S.Inp) (l:List K12.Rg) (z:List Int) (m:List K12.Cl) (os:List S.Ou) (hB:BdOk b l w) (hS:SyOk L x z m os w):Calls Tryz.prog 63 #[.agg #[.int .i64 b.ch,.slice b.ra b.rn b.rc,.int .i64 b.iw,.int .u8 b.pp,.int .u8 b.dp,.bool b.jm,.slice b.ia b.ni b.ic],.agg #[.int .i64 x.k.c.Ch,.int .u8 x.k.c.A,.int .u8 x.k.c.B,.int .u8 x.k.c.C,.int .u8 x.k.c.D,.int .u8 x.k.c.E,.int .u8 x.k.c.H,.int .u8 x.k.c.L,.bool x.k.c.fS,.bool x.k.c.fZ,.bool x.k.c.fK,.bool x.k.c.fAC,.bool x.k.c.fP,.bool x.k.c.fV,.bool x.k.c.fCY,.int .u16 x.k.c.SP,.int .u16 x.k.c.PC,.bool x.k.c.IE,.bool x.k.c.De,.bool x.k.c.Ha,.int .u8 x.k.c.Ma,.bool x.k.c.Tr,.bool x.k.c.R7,.bool x.k.c.WT,.bool x.k.c.W7,.bool x.k.c.Sa,.bool x.k.c.SI,.bool x.k.c.SO,.int .i64 x.k.src,.slice x.k.ga x.k.gn x.k.gc,.int .i64 x.k.y.k,.int .u16 x.k.y.a,.int .u8 x.k.y.d,.int .i64 x.k.y.s,.int .i64 x.k.nx,.bool x.k.ho,.slice x.ma x.mn x.mc,.int .i64 x.p.St,.bool x.p.Le,.bool x.p.Fo,.bool x.p.Si,.bool x.p.Ft,.int .u8 x.p.Lw,.int .u8 x.p.Hg,.bool x.p.Au,.bool x.p.Ro,.bool x.p.Sp,.bool x.p.RI,.bool x.p.Po,.int .u8 x.p.Li,.int .u8 x.p.Ed,.int .u8 x.p.IS,.int .u8 x.p.IM,.int .i64 x.p.Lo,.int .i64 x.p.Sq,.int .i64 x.p.Sv,.bool x.p.Su,.int .u16 x.da,.int .u8 x.dv,.int .i64 x.dl,.int .i64 x.wt,.slice x.oa x.on x.oc],.agg #[.bool i.r,.bool i.h,.bool i.z,.bool i.s,.bool i.t,.bool i.a,.bool i.b,.bool i.c,.int .u8 i.q,.int .u8 i.p]] w (PostL i.z w):=by
 obtain ⟨ir,ih,iz,is,it,ia,ib,ic,iq,ip⟩:=i
 have HB:=Lib.hid hB
 have HS:=Lib.hid hS
 clear hB hS
 go_enter Tryz.func63,Tryz.ntmps63
 go_wp2_with (first
  |(go_at_call 91;refine ad (K22.rint_any x.p HS.out.p.1.1.1 HS.out.p.1.1.2) fun n1 os1=> ?_;generalize K22.S.int x.p=ii)
  |fail)
 all_goals
  refine wp_forget (fun ww=>Adds w ww∧rowOf ww w.heap.size=#[.int .i64 b.ch,.slice b.ra b.rn b.rc,.int .i64 b.iw,.int .u8 b.pp,.int .u8 b.dp,.bool b.jm,.slice b.ia b.ni b.ic]∧rowOf ww (w.heap.size+1)=#[.int .i64 x.k.c.Ch,.int .u8 x.k.c.A,.int .u8 x.k.c.B,.int .u8 x.k.c.C,.int .u8 x.k.c.D,.int .u8 x.k.c.E,.int .u8 x.k.c.H,.int .u8 x.k.c.L,.bool x.k.c.fS,.bool x.k.c.fZ,.bool x.k.c.fK,.bool x.k.c.fAC,.bool x.k.c.fP,.bool x.k.c.fV,.bool x.k.c.fCY,.int .u16 x.k.c.SP,.int .u16 x.k.c.PC,.bool x.k.c.IE,.bool x.k.c.De,.bool x.k.c.Ha,.int .u8 x.k.c.Ma,.bool x.k.c.Tr,.bool x.k.c.R7,.bool x.k.c.WT,.bool x.k.c.W7,.bool x.k.c.Sa,.bool x.k.c.SI,.bool x.k.c.SO,.int .i64 x.k.src,.slice x.k.ga x.k.gn x.k.gc,.int .i64 x.k.y.k,.int .u16 x.k.y.a,.int .u8 x.k.y.d,.int .i64 x.k.y.s,.int .i64 x.k.nx,.bool x.k.ho,.slice x.ma x.mn x.mc,.int .i64 x.p.St,.bool x.p.Le,.bool x.p.Fo,.bool x.p.Si,.bool x.p.Ft,.int .u8 x.p.Lw,.int .u8 x.p.Hg,.bool x.p.Au,.bool x.p.Ro,.bool x.p.Sp,.bool x.p.RI,.bool x.p.Po,.int .u8 x.p.Li,.int .u8 x.p.Ed,.int .u8 x.p.IS,.int .u8 x.p.IM,.int .i64 x.p.Lo,.int .i64 x.p.Sq,.int .i64 x.p.Sv,.bool x.p.Su,.int .u16 x.da,.int .u8 x.dv,.int .i64 x.dl,.int .i64 x.wt,.slice x.oa x.on x.oc]∧rowOf ww (w.heap.size+1+1)=#[.bool ir,.bool ih,.bool iz,.bool is,.bool it,.bool ia,.bool ib,.bool ic,.int .u8 iq,.int .u8 ip]∧rowOf ww (w.heap.size+1+1+1)=#[.bool false,.bool false,.bool false,.bool false,.bool false,.bool false,.bool false,.bool false,.bool false]) ⟨aD,by simp [go_sem, *],by simp [go_sem],by simp [go_sem],by simp [go_sem]⟩ ?_
  rintro ww ⟨hA,rB,rS,rI,r6⟩
  have HA:=Lib.hid hA
  clear hA
  have c0:=rowOf_cell (i:=0) (v:=.bool ir) rI rfl
  have c1:=rowOf_cell (i:=1) (v:=.bool ih) rI rfl
  have c2:=rowOf_cell (i:=2) (v:=.bool iz) rI rfl
  have c3:=rowOf_cell (i:=3) (v:=.bool is) rI rfl
  have c4:=rowOf_cell (i:=4) (v:=.bool it) rI rfl
  have c5:=rowOf_cell (i:=5) (v:=.bool ia) rI rfl
  have c6:=rowOf_cell (i:=6) (v:=.bool ib) rI rfl
  have c7:=rowOf_cell (i:=7) (v:=.bool ic) rI rfl
  have q0:=row_lt rB (by simp)
  have q1:=row_lt rS (by simp)
  have q2:=row_lt rI (by simp)
  have q3:=row_lt r6 (by simp)
  clear rI
  have HW:=Lib.hid (fun W=>waited_any x HS.out.k.nx W)
  have HN:=Lib.hid (fun W h=>need_any b l x.k.y.k x.k.y.a x.k.y.d x.k.y.s W h)
  generalize hcs:(#[.int .i64 x.k.c.Ch,.int .u8 x.k.c.A,.int .u8 x.k.c.B,.int .u8 x.k.c.C,.int .u8 x.k.c.D,.int .u8 x.k.c.E,.int .u8 x.k.c.H,.int .u8 x.k.c.L,.bool x.k.c.fS,.bool x.k.c.fZ,.bool x.k.c.fK,.bool x.k.c.fAC,.bool x.k.c.fP,.bool x.k.c.fV,.bool x.k.c.fCY,.int .u16 x.k.c.SP,.int .u16 x.k.c.PC,.bool x.k.c.IE,.bool x.k.c.De,.bool x.k.c.Ha,.int .u8 x.k.c.Ma,.bool x.k.c.Tr,.bool x.k.c.R7,.bool x.k.c.WT,.bool x.k.c.W7,.bool x.k.c.Sa,.bool x.k.c.SI,.bool x.k.c.SO,.int .i64 x.k.src,.slice x.k.ga x.k.gn x.k.gc,.int .i64 x.k.y.k,.int .u16 x.k.y.a,.int .u8 x.k.y.d,.int .i64 x.k.y.s,.int .i64 x.k.nx,.bool x.k.ho,.slice x.ma x.mn x.mc,.int .i64 x.p.St,.bool x.p.Le,.bool x.p.Fo,.bool x.p.Si,.bool x.p.Ft,.int .u8 x.p.Lw,.int .u8 x.p.Hg,.bool x.p.Au,.bool x.p.Ro,.bool x.p.Sp,.bool x.p.RI,.bool x.p.Po,.int .u8 x.p.Li,.int .u8 x.p.Ed,.int .u8 x.p.IS,.int .u8 x.p.IM,.int .i64 x.p.Lo,.int .i64 x.p.Sq,.int .i64 x.p.Sv,.bool x.p.Su,.int .u16 x.da,.int .u8 x.dv,.int .i64 x.dl,.int .i64 x.wt,.slice x.oa x.on x.oc]:Array Value)=cs at rS HW⊢
  have z1:cs.size=62:=by rw [←hcs];rfl
  have z2:(List.take 4 (List.drop 30 cs.toList)).toArray=#[.int .i64 x.k.y.k,.int .u16 x.k.y.a,.int .u8 x.k.y.d,.int .i64 x.k.y.s]:=by rw [←hcs];rfl
  have z3:(List.take 3 (List.drop 57 cs.toList)).toArray=#[.int .u16 x.da,.int .u8 x.dv,.int .i64 x.dl]:=by rw [←hcs];rfl
  clear hcs
  generalize hbs:(#[.int .i64 b.ch,.slice b.ra b.rn b.rc,.int .i64 b.iw,.int .u8 b.pp,.int .u8 b.dp,.bool b.jm,.slice b.ia b.ni b.ic]:Array Value)=bs at rB HN⊢
  have y1:bs.size=7:=by rw [←hbs];rfl
  clear hbs
  refine wp_region_noPanic ?_
  refine wp_region_held_drew (S:=fun w'=>rowOf w' w.heap.size=bs∧rowOf w' (w.heap.size+1)=cs∧w'.cell? ⟨w.heap.size+1+1,0,none⟩=some (.bool ir)∧w'.cell? ⟨w.heap.size+1+1,1,none⟩=some (.bool ih)∧w'.cell? ⟨w.heap.size+1+1,2,none⟩=some (.bool iz)∧w'.cell? ⟨w.heap.size+1+1,3,none⟩=some (.bool is)∧w'.cell? ⟨w.heap.size+1+1,4,none⟩=some (.bool it)∧w'.cell? ⟨w.heap.size+1+1,5,none⟩=some (.bool ia)∧w'.cell? ⟨w.heap.size+1+1,6,none⟩=some (.bool ib)∧w'.cell? ⟨w.heap.size+1+1,7,none⟩=some (.bool ic)) (by kernel_rfl) (by (try dsimp only);(simp [go_sem, *];done)) (fun hHeld=> ?_)
  refine tk 0 rfl ?_
  refine tk 1 rfl ?_
  refine tk 2 rfl ?_
  refine tk 19 rfl ?_
  refine tk 20 rfl ?_
  refine tk 21 rfl ?_
  refine tk 22 rfl ?_
  refine tk 23 rfl ?_
  refine tk 24 rfl ?_
  refine tk 25 rfl ?_
  refine tk 26 rfl ?_
  refine tk 27 rfl ?_
  refine tk 28 rfl ?_
  refine tk 29 rfl ?_
  refine tk 30 rfl ?_
  refine tk 31 rfl ?_
  rcases ir with _|_<;>rcases ih with _|_
  ·skip
   refine tz 3 rfl ?_
   refine tz 4 rfl ?_
   refine tz 5 rfl ?_
   refine tz 6 rfl ?_
   refine tz 7 rfl ?_
   refine tz 8 rfl ?_
   refine tz 9 rfl ?_
   refine tz 10 rfl ?_
   refine tk 11 rfl ?_
   refine tk 12 rfl ?_
   refine tk 13 rfl ?_
   refine tk 14 rfl ?_
   refine tk 15 rfl ?_
   refine tk 16 rfl ?_
   refine wpAnyH_ready (rs:=[17]) (by kernel_rfl) (by simp) ?_
   refine AllReadyH.cons rfl (fun K hK=> ?_) AllReadyH.nil
   go_simp
   (go_at_call 93;refine ad (rdm_req) fun n4 os4=> ?_)
   refine hK.out _ _ (by (try dsimp only);(simp [go_sem, *];done)) (fun hHeld=> ?_)
   clear hK K
   (try simp only [Act.put,List.setIfInBounds_toArray,List.set_cons_zero,List.set_cons_succ])
   refine tk 18 rfl ?_
   refine tk 32 rfl ?_
   exact lv_end
  ·skip
   refine tz 3 rfl ?_
   refine tz 4 rfl ?_
   refine tz 5 rfl ?_
   refine tz 6 rfl ?_
   refine tz 7 rfl ?_
   refine tz 8 rfl ?_
   refine tz 9 rfl ?_
   refine tz 10 rfl ?_
   refine tk 11 rfl ?_
   refine tk 12 rfl ?_
   refine tk 13 rfl ?_
   refine tk 14 rfl ?_
   refine tz 15 rfl ?_
   refine tz 16 rfl ?_
   refine tz 17 rfl ?_
   refine tk 18 rfl ?_
   refine tk 32 rfl ?_
   exact lv_end
  ·skip
   refine tk 3 rfl ?_
   refine tk 5 rfl ?_
   refine tk 6 rfl ?_
   refine tk 7 rfl ?_
   refine tk 8 rfl ?_
   refine tk 12 rfl ?_
   refine tk 13 rfl ?_
   refine wpAnyH_ready (rs:=[4]) (by kernel_rfl) (by simp) ?_
   refine AllReadyH.cons rfl (fun K hK=> ?_) AllReadyH.nil
   go_simp
   (go_at_call 64;refine (HW.out _).mono ?_;rintro e w' ⟨i1,rfl,⟨⟨n2,os2⟩,rfl⟩⟩)
   refine hK.out _ _ (by (try dsimp only);(simp [go_sem, *];done)) (fun hHeld=> ?_)
   clear hK K
   (try simp only [Act.put,List.setIfInBounds_toArray,List.set_cons_zero,List.set_cons_succ])
   refine wpAnyH_ready (rs:=[9]) (by kernel_rfl) (by simp) ?_
   refine AllReadyH.cons rfl (fun K hK=> ?_) AllReadyH.nil
   go_simp
   (go_at_call 92;refine (HN.out _ (HB.out.adds (HA.out.trans aD))).mono ?_;rintro e w' ⟨i2,rfl,⟨⟨n3,os3⟩,rfl⟩⟩)
   refine hK.out _ _ (by (try dsimp only);(simp [go_sem, *];done)) (fun hHeld=> ?_)
   clear hK K
   (try simp only [Act.put,List.setIfInBounds_toArray,List.set_cons_zero,List.set_cons_succ])
   refine tk 10 rfl ?_
   refine tk 11 rfl ?_
   refine tk 14 rfl ?_
   refine tk 15 rfl ?_
   refine tk 16 rfl ?_
   refine wpAnyH_ready (rs:=[17]) (by kernel_rfl) (by simp) ?_
   refine AllReadyH.cons rfl (fun K hK=> ?_) AllReadyH.nil
   go_simp
   (go_at_call 93;refine ad (rdm_req) fun n4 os4=> ?_)
   refine hK.out _ _ (by (try dsimp only);(simp [go_sem, *];done)) (fun hHeld=> ?_)
   clear hK K
   (try simp only [Act.put,List.setIfInBounds_toArray,List.set_cons_zero,List.set_cons_succ])
   refine tk 18 rfl ?_
   refine tk 32 rfl ?_
   exact lv_end
  ·skip
   refine tk 3 rfl ?_
   refine tk 5 rfl ?_
   refine tk 6 rfl ?_
   refine tk 7 rfl ?_
   refine tk 8 rfl ?_
   refine tk 12 rfl ?_
   refine tk 13 rfl ?_
   refine wpAnyH_ready (rs:=[4]) (by kernel_rfl) (by simp) ?_
   refine AllReadyH.cons rfl (fun K hK=> ?_) AllReadyH.nil
   go_simp
   (go_at_call 64;refine (HW.out _).mono ?_;rintro e w' ⟨i1,rfl,⟨⟨n2,os2⟩,rfl⟩⟩)
   refine hK.out _ _ (by (try dsimp only);(simp [go_sem, *];done)) (fun hHeld=> ?_)
   clear hK K
   (try simp only [Act.put,List.setIfInBounds_toArray,List.set_cons_zero,List.set_cons_succ])
   refine wpAnyH_ready (rs:=[9]) (by kernel_rfl) (by simp) ?_
   refine AllReadyH.cons rfl (fun K hK=> ?_) AllReadyH.nil
   go_simp
   (go_at_call 92;refine (HN.out _ (HB.out.adds (HA.out.trans aD))).mono ?_;rintro e w' ⟨i2,rfl,⟨⟨n3,os3⟩,rfl⟩⟩)
   refine hK.out _ _ (by (try dsimp only);(simp [go_sem, *];done)) (fun hHeld=> ?_)
   clear hK K
   (try simp only [Act.put,List.setIfInBounds_toArray,List.set_cons_zero,List.set_cons_succ])
   refine tk 10 rfl ?_
   refine tk 11 rfl ?_
   refine tk 14 rfl ?_
   refine tz 15 rfl ?_
   refine tz 16 rfl ?_
   refine tz 17 rfl ?_
   refine tk 18 rfl ?_
   refine tk 32 rfl ?_
   exact lv_end
end
end Go.Proofs.YteggjjhjmhccjaaGreatDoor
