/- Texts that the proofs of the statements on dumps rest on, joined. Conditions stand in each theorem. -/
import Derived.Test.YteggjjhjmhccjaaGreatDoorQ03
import Derived.Test.YteggjjhjmhccjaaGreatDoorQ41
set_option linter.unusedVariables false
set_option linter.unusedSimpArgs false
set_option maxRecDepth 100000
set_option maxHeartbeats 8000000
namespace Go.Proofs.YteggjjhjmhccjaaGreatDoor
open Go.ChangeShapes Go.WideShapes Go.ChangeAt Go.RowKit
section
variable {C E:Array Value} {V W w w':World} {base h rb:Nat} {c2 c3 v' ve vu:Value} {r:S.Rn} {ul:List S.Cp} {vl:List S.Ev}
def AT (h rb:Nat) (E C:Array Value) (c2 c3:Value) (w:World):Prop:=rowOf w h=E∧rowOf w (h+1)=C∧w.cell? ⟨rb,2,none⟩=some c2∧w.cell? ⟨rb,3,none⟩=some c3
theorem AT.grown {row:Option Nat} (H:AT h rb E C c2 c3 w) (hE:E.size=18) (hC:C.size=28) (hg:w.grownBy w' row) (hr:∀g,row=some g→g≠h∧g≠h+1∧g≠rb):AT h rb E C c2 c3 w':=
 ⟨grown_row hg H.1 (by omega) (fun e=>(hr _ e).1 rfl),grown_row hg H.2.1 (by omega) (fun e=>(hr _ e).2.1 rfl),(World.cell?_of_block (a:=⟨rb,2,none⟩) (hg.block rb (cell_lt H.2.2.1) (fun e=>(hr _ e.symm).2.2 rfl))).trans H.2.2.1,(World.cell?_of_block (a:=⟨rb,3,none⟩) (hg.block rb (cell_lt H.2.2.2) (fun e=>(hr _ e.symm).2.2 rfl))).trans H.2.2.2⟩
theorem AT.adds (H:AT h rb E C c2 c3 w) (hE:E.size=18) (hC:C.size=28) (k:Adds w w'):AT h rb E C c2 c3 w':=H.grown hE hC (k.grownBy none) (fun g e=>by cases e)
theorem fold_el {z:Array Value} {n:Nat} (h:E.size=n) (hz:z.size=n):Array.foldl (fun (cs:Array Value) (x:Value×Nat)=>cs.setIfInBounds x.snd x.fst) z E.zipIdx 0 n=E:=by
 have key:∀(l:List Value) (k:Nat) (y:Array Value),y.size=k+l.length→List.foldl (fun (cs:Array Value) (x:Value×Nat)=>cs.setIfInBounds x.snd x.fst) y (l.zipIdx k)=(y.toList.take k++l).toArray:=by
  intro l
  induction l with
  |nil=>intro k y hy;simp at hy;simp [←hy,List.take_of_length_le]
  |cons a l ih=>
   intro k y hy
   rw [List.zipIdx_cons,List.foldl_cons,ih (k+1) _ (by simp at hy⊢;omega)]
   congr 1
   have hk:k < y.toList.length:=by simp at hy⊢;omega
   simp only [Array.toList_setIfInBounds]
   rw [List.take_add_one,List.take_set_of_le (Nat.le_refl k),List.getElem?_set_self hk]
   simp
 subst h
 have e:(E.zipIdx).toList=E.toList.zipIdx 0:=by simp
 rw [show Array.foldl (fun (cs:Array Value) (x:Value×Nat)=>cs.setIfInBounds x.snd x.fst) z E.zipIdx 0 E.size=List.foldl (fun (cs:Array Value) (x:Value×Nat)=>cs.setIfInBounds x.snd x.fst) z (E.toList.zipIdx 0) by rw [←e,Array.foldl_toList];simp]
 rw [key E.toList 0 z (by simp;omega)]
 simp
structure AdF (base:Nat) (r:S.Rn) (w:World) (ve:Value) (vl:List S.Ev) (vu:Value) (ul:List S.Cp) (W:World):Prop where
 a:Tch (fun k=>(Value.slice r.ea r.en r.ec).ownBlock=some k∨(Value.slice r.ua r.un r.uc).ownBlock=some k) w W
 e:OwnsV W base ve vl
 u:OwnsU W base vu ul
 ne:∀g,ve.ownBlock=some g→(Value.slice r.ea r.en r.ec).ownBlock=some g∨w.heap.size≤g
 nu:∀g,vu.ownBlock=some g→(Value.slice r.ua r.un r.uc).ownBlock=some g∨w.heap.size≤g
 d:Ap ve vu
theorem AdF.start {tl:List S.Pn} {il:List S.It} (h:RnOk base rb r tl il vl ul w):AdF base r w (.slice r.ea r.en r.ec) vl (.slice r.ua r.un r.uc) ul w:=⟨Tch.refl _ _,h.e,h.u,fun g e=> .inl e,fun g e=> .inl e,h.eu⟩
theorem AdF.adds (h:AdF base r w ve vl vu ul W) (k:Adds W V):AdF base r w ve vl vu ul V:=⟨h.a.out (Tch.of_adds k),h.e.adds k,h.u.adds k,h.ne,h.nu,h.d⟩
theorem AdF.appE {vl':List S.Ev} (h:AdF base r w ve vl vu ul W) (o:OwnsV V base v' vl') (g:W.grownBy V ve.ownBlock) (k:∀g,v'.ownBlock=some g→ve.ownBlock=some g∨W.heap.size≤g):AdF base r w v' vl' vu ul V:=
 ⟨h.a.trans (S1:=fun k=>ve.ownBlock=some k) (Tch.of_grown g (fun k e=>e)) (fun b hb e=> .inl ((h.ne b e).resolve_right (by omega))),o,h.u.kept2 g (by
   cases e:vu.ownBlock with
   |none=>exact .inl rfl
   |some b=>exact .inr (fun q=>h.d b q.symm e)),fun b e=>(k b e).elim (h.ne b) (fun q=> .inr (Nat.le_trans h.a.size q)),h.nu,(h.d.symm.new k (fun b e=>(h.u.lt2 e).2)).symm⟩
theorem AdF.appU {ul':List S.Cp} (h:AdF base r w ve vl vu ul W) (o:OwnsU V base v' ul') (g:W.grownBy V vu.ownBlock) (k:∀g,v'.ownBlock=some g→vu.ownBlock=some g∨W.heap.size≤g):AdF base r w ve vl v' ul' V:=
 ⟨h.a.trans (S1:=fun k=>vu.ownBlock=some k) (Tch.of_grown g (fun k e=>e)) (fun b hb e=> .inr ((h.nu b e).resolve_right (by omega))),h.e.kept2 g (by
   cases e:ve.ownBlock with
   |none=>exact .inl rfl
   |some b=>exact .inr (fun q=>h.d b e q.symm)),o,h.ne,fun b e=>(k b e).elim (h.nu b) (fun q=> .inr (Nat.le_trans h.a.size q)),h.d.new k (fun b e=>(h.e.lt2 e).2)⟩
theorem add_any (base rb:Nat) (r:S.Rn) (tl:List S.Pn) (il:List S.It) (vl:List S.Ev) (ul:List S.Cp) (v:S.Ev) (cCh cA cB cC cD cE cH cL:Int) (cfS cfZ cfK cfAC cfP cfV cfCY:Bool) (cSP cPC:Int) (cIE cDe cHa:Bool) (cMa:Int) (cTr cR7 cWT cW7 cSa cSI cSO:Bool) (w:World) (h:RnOk base rb r tl il vl ul w) (hl:vl.length≤1000000∧ul.length≤1000000) (hb:base≤w.heap.size):Calls Tryz.prog 73 #[.pointer (some ⟨rb,0,none⟩),.agg v.l.toArray,.agg #[.int .i64 cCh,.int .u8 cA,.int .u8 cB,.int .u8 cC,.int .u8 cD,.int .u8 cE,.int .u8 cH,.int .u8 cL,.bool cfS,.bool cfZ,.bool cfK,.bool cfAC,.bool cfP,.bool cfV,.bool cfCY,.int .u16 cSP,.int .u16 cPC,.bool cIE,.bool cDe,.bool cHa,.int .u8 cMa,.bool cTr,.bool cR7,.bool cWT,.bool cW7,.bool cSa,.bool cSI,.bool cSO]] w (AddPost 1 base rb r tl il vl ul w):=by
 have H:=Lib.hid h
 have HL:=Lib.hid hl
 have hvl:=v.hl
 clear h hl
 go_enter Tryz.func73,Tryz.ntmps73
 go_wp2_with fail
 refine wp_forget (fun W=>Adds w W∧rowOf W w.heap.size=v.l.toArray∧rowOf W (w.heap.size+1)=#[.int .i64 cCh,.int .u8 cA,.int .u8 cB,.int .u8 cC,.int .u8 cD,.int .u8 cE,.int .u8 cH,.int .u8 cL,.bool cfS,.bool cfZ,.bool cfK,.bool cfAC,.bool cfP,.bool cfV,.bool cfCY,.int .u16 cSP,.int .u16 cPC,.bool cIE,.bool cDe,.bool cHa,.int .u8 cMa,.bool cTr,.bool cR7,.bool cWT,.bool cW7,.bool cSa,.bool cSI,.bool cSO]) ⟨aD,by simp [go_sem],by simp [go_sem]⟩ ?_
 rintro ww ⟨hA,re,rc⟩
 generalize hE:v.l.toArray=E at re⊢
 generalize hC:(#[.int .i64 cCh,.int .u8 cA,.int .u8 cB,.int .u8 cC,.int .u8 cD,.int .u8 cE,.int .u8 cH,.int .u8 cL,.bool cfS,.bool cfZ,.bool cfK,.bool cfAC,.bool cfP,.bool cfV,.bool cfCY,.int .u16 cSP,.int .u16 cPC,.bool cIE,.bool cDe,.bool cHa,.int .u8 cMa,.bool cTr,.bool cR7,.bool cWT,.bool cW7,.bool cSa,.bool cSI,.bool cSO]:Array Value)=C at rc⊢
 have sE:E.size=18:=by rw [←hE];simpa using hvl
 have sC:C.size=28:=by rw [←hC];rfl
 have HE:=Lib.hid (show E.toList=csV v by rw [←hE];rfl)
 have HC:=Lib.hid (show C.toList=csU ⟨cCh,cA,cB,cC,cD,cE,cH,cL,cfS,cfZ,cfK,cfAC,cfP,cfV,cfCY,cSP,cPC,cIE,cDe,cHa,cMa,cTr,cR7,cWT,cW7,cSa,cSI,cSO⟩ by rw [←hC];rfl)
 have fE:=fold_el (z:=#[.int .i64 0,.int .i64 0,.slice none 0 0,.bool false,.bool false,.bool false,.bool false,.bool false,.bool false,.bool false,.bool false,.bool false,.bool false,.bool false,.bool false,.bool false,.int .u16 0,.int .u8 0]) sE rfl
 have fC:=fold_el (z:=S.Cp.zero.cs) sC rfl
 simp only [S.Cp.zero,S.Cp.cs] at fC
 have oE:ones E.toList=true:=by rw [←hE];simp only [ones,List.all_eq_true];exact fun u hu=>v.h1 u hu
 have oC:ones C.toList=true:=by rw [←hC];rfl
 have HA:=Lib.hid hA
 have HR:=Lib.hid (H.out.adds hA)
 have hat:AT w.heap.size rb E C (.slice r.ea r.en r.ec) (.slice r.ua r.un r.uc) ww:=⟨re,rc,rowOf_cell (i:=2) HR.out.row rfl,rowOf_cell (i:=3) HR.out.row rfl⟩
 have HAT:=Lib.hid hat
 have hbw:base≤ww.heap.size:=Nat.le_trans hb hA.size
 clear hE hC re rc hA hat
 refine wp_region_noPanic ?_
 refine Til.begin (T:=fun w'=>rowOf w' w.heap.size=E∧rowOf w' (w.heap.size+1)=C∧w'.cell? ⟨rb,2,none⟩=some (.slice r.ea r.en r.ec)∧w'.cell? ⟨rb,3,none⟩=some (.slice r.ua r.un r.uc)) (st:=[18,21]) (by kernel_rfl) (by (try dsimp only);exact HAT.out.adds sE sC aD) (fun hHeld=> ?_)
 refine Tf_ 0 rfl ?_
 refine Tf_ 1 rfl ?_
 refine Tf_ 2 rfl ?_
 refine Tf_ 3 rfl ?_
 refine Tf_ 4 rfl ?_
 refine Tf_ 9 rfl ?_
 refine Tf_ 10 rfl ?_
 refine Tf_ 11 rfl ?_
 refine Tt_ 5 rfl ?_
 refine Tt_ 6 rfl ?_
 refine Tt_ 12 rfl ?_
 refine Tt_ 13 rfl ?_
 refine Til.ready (rs:=[7,14]) (by kernel_rfl) (by simp) ?_
 refine TilAll.cons rfl (fun K hK=> ?_) (TilAll.cons rfl (fun K hK=> ?_) TilAll.nil)
 ·go_simp
  (skip)
  refine hK.out _ _ (by (try dsimp only);exact HAT.out.adds sE sC aD) (fun hHeld=> ?_)
  clear hK K
  (try simp only [Act.put,List.setIfInBounds_toArray,List.set_cons_zero,List.set_cons_succ])
  refine Til.ready (rs:=[8,14]) (by kernel_rfl) (by simp) ?_
  refine TilAll.cons rfl (fun K hK=> ?_) (TilAll.cons rfl (fun K hK=> ?_) TilAll.nil)
  ·(refine step_appVH rfl _ _ (by rfl) base (.slice r.ea r.en r.ec) vl (by rfl) (HR.out.e.adds aD) (some ⟨ww.heap.size,0,none⟩) 1 1 [v] (by rfl) (held_at (cs:=csV) v (c:=E) HE.out (by simp [go_sem]) (by omega)) (Nat.le_refl _) (fun h=>by cases h) (by have:=HL.out;omega) (Nat.le_trans hbw (Adds.size aD)) ?_;intro v1 w1 hO1 hG1 hW1;have HF1:=Lib.hid (AdF.appE ((AdF.start HR.out).adds aD) hO1 hG1 hW1);have HT1:=Lib.hid (AT.grown (HAT.out.adds sE sC aD) sE sC hG1 (fun g e=>by have:=H.out.e.lt2 e;have:=H.out.lt;omega));have g1:=Nat.le_trans (Adds.size (show Adds ww _ from aD)) hG1.size;clear hO1 hG1 hW1)
   refine hK.out _ _ (by (try dsimp only);exact HT1.out) (fun hHeld=> ?_)
   clear hK K
   (try simp only [Act.put,List.setIfInBounds_toArray,List.set_cons_zero,List.set_cons_succ])
   refine Til.ready (rs:=[14]) (by kernel_rfl) (by simp) ?_
   refine TilAll.cons rfl (fun K hK=> ?_) TilAll.nil
   go_simp
   (skip)
   refine hK.out _ _ (by (try dsimp only);exact HT1.out.adds sE sC aD) (fun hHeld=> ?_)
   clear hK K
   (try simp only [Act.put,List.setIfInBounds_toArray,List.set_cons_zero,List.set_cons_succ])
   refine Til.ready (rs:=[15]) (by kernel_rfl) (by simp) ?_
   refine TilAll.cons rfl (fun K hK=> ?_) TilAll.nil
   (refine step_appUH rfl _ _ (by rfl) base (.slice r.ua r.un r.uc) ul (by rfl) (HF1.out.u.adds aD) (some ⟨w1.heap.size,0,none⟩) 1 1 [(⟨cCh,cA,cB,cC,cD,cE,cH,cL,cfS,cfZ,cfK,cfAC,cfP,cfV,cfCY,cSP,cPC,cIE,cDe,cHa,cMa,cTr,cR7,cWT,cW7,cSa,cSI,cSO⟩:S.Cp)] (by rfl) (held_at (cs:=csU) _ (c:=C) HC.out (by simp [go_sem]) (by omega)) (Nat.le_refl _) (fun h=>by cases h) (by have:=HL.out;omega) (Nat.le_trans hbw (Nat.le_trans g1 (Adds.size aD))) ?_;intro v2 w2 hO2 hG2 hW2;have HF2:=Lib.hid (AdF.appU (HF1.out.adds aD) hO2 hG2 hW2);have HT2:=Lib.hid (AT.grown (HT1.out.adds sE sC aD) sE sC hG2 (fun g e=>by have:=H.out.u.lt2 e;have:=H.out.lt;omega));clear hO2 hG2 hW2)
   refine hK.out _ _ (by (try dsimp only);exact HT2.out) (fun hHeld=> ?_)
   clear hK K
   (try simp only [Act.put,List.setIfInBounds_toArray,List.set_cons_zero,List.set_cons_succ])
   refine Tf_ 16 rfl ?_
   refine Tf_ 17 rfl ?_
   obtain ⟨ea,en,ec,rfl,_⟩:=HF2.out.e.form2
   obtain ⟨ua,un,uc,rfl,_⟩:=HF2.out.u.form2
   have ro:=HR.out.rlt
   have row2:rowOf w2 rb=(List.toArray (.slice r.ta r.tn r.tc:: .slice r.ia r.ni r.ic:: .slice r.ea r.en r.ec:: .slice r.ua r.un r.uc:: .int .i64 r.s.k.c.Ch:: .int .u8 r.s.k.c.A:: .int .u8 r.s.k.c.B:: .int .u8 r.s.k.c.C:: .int .u8 r.s.k.c.D:: .int .u8 r.s.k.c.E:: .int .u8 r.s.k.c.H:: .int .u8 r.s.k.c.L:: .bool r.s.k.c.fS:: .bool r.s.k.c.fZ:: .bool r.s.k.c.fK:: .bool r.s.k.c.fAC:: .bool r.s.k.c.fP:: .bool r.s.k.c.fV:: .bool r.s.k.c.fCY:: .int .u16 r.s.k.c.SP:: .int .u16 r.s.k.c.PC:: .bool r.s.k.c.IE:: .bool r.s.k.c.De:: .bool r.s.k.c.Ha:: .int .u8 r.s.k.c.Ma:: .bool r.s.k.c.Tr:: .bool r.s.k.c.R7:: .bool r.s.k.c.WT:: .bool r.s.k.c.W7:: .bool r.s.k.c.Sa:: .bool r.s.k.c.SI:: .bool r.s.k.c.SO:: .int .i64 r.s.k.src:: .slice r.s.k.ga r.s.k.gn r.s.k.gc:: .int .i64 r.s.k.y.k:: .int .u16 r.s.k.y.a:: .int .u8 r.s.k.y.d:: .int .i64 r.s.k.y.s:: .int .i64 r.s.k.nx:: .bool r.s.k.ho:: .slice r.s.ma r.s.mn r.s.mc:: .int .i64 r.s.p.St:: .bool r.s.p.Le:: .bool r.s.p.Fo:: .bool r.s.p.Si:: .bool r.s.p.Ft:: .int .u8 r.s.p.Lw:: .int .u8 r.s.p.Hg:: .bool r.s.p.Au:: .bool r.s.p.Ro:: .bool r.s.p.Sp:: .bool r.s.p.RI:: .bool r.s.p.Po:: .int .u8 r.s.p.Li:: .int .u8 r.s.p.Ed:: .int .u8 r.s.p.IS:: .int .u8 r.s.p.IM:: .int .i64 r.s.p.Lo:: .int .i64 r.s.p.Sq:: .int .i64 r.s.p.Sv:: .bool r.s.p.Su:: .int .u16 r.s.da:: .int .u8 r.s.dv:: .int .i64 r.s.dl:: .int .i64 r.s.wt:: .slice r.s.oa r.s.on r.s.oc::[])):=(HF2.out.a.row ro (fun e=>by rcases e with e|e;(have:=(HR.out.e.lt2 e).1;have:=H.out.lt;omega);(have:=(HR.out.u.lt2 e).1;have:=H.out.lt;omega))).trans HR.out.row
   have c22:=rowOf_cell (i:=2) (v:=.slice r.ea r.en r.ec) row2 rfl
   have c23:=rowOf_cell (i:=3) (v:=.slice r.ua r.un r.uc) row2 rfl
   have f22:=row_frozen row2 (by simp) 2
   have f23:=row_frozen row2 (by simp) 3
   refine Til.ready (rs:=[18]) (by kernel_rfl) (by simp) ?_
   refine TilAll.store rfl (by kernel_rfl) (fun K hK=> ?_) TilAll.nil
   go_simp
   refine hK.out _ _ ?_
   clear hK K
   (try simp only [Act.put,List.setIfInBounds_toArray,List.set_cons_zero,List.set_cons_succ])
   refine Tl_ 19 rfl ?_
   refine Tl_ 20 rfl ?_
   refine Til.ready (rs:=[21]) (by kernel_rfl) (by simp) ?_
   refine TilAll.store rfl (by kernel_rfl) (fun K hK=> ?_) TilAll.nil
   go_simp
   refine hK.out _ _ ?_
   clear hK K
   (try simp only [Act.put,List.setIfInBounds_toArray,List.set_cons_zero,List.set_cons_succ])
   refine Til.done (by kernel_rfl) ?_ _
   refine NoPanic.normal ?_
   try clear hHeld
   go_wp2_with fail
   go_end0
   exact RnOk.add H.out (((Tch.of_adds HA.out).out HF2.out.a)) HF2.out.e HF2.out.u (fun g e=>(HF2.out.ne g e).imp id (fun q=>Nat.le_trans HA.out.size q)) (fun g e=>(HF2.out.nu g e).imp id (fun q=>Nat.le_trans HA.out.size q)) HF2.out.d (by simp) (by simp)
  ·go_simp
   (skip)
   refine hK.out _ _ (by (try dsimp only);exact HAT.out.adds sE sC aD) (fun hHeld=> ?_)
   clear hK K
   (try simp only [Act.put,List.setIfInBounds_toArray,List.set_cons_zero,List.set_cons_succ])
   refine Til.ready (rs:=[8]) (by kernel_rfl) (by simp) ?_
   refine TilAll.cons rfl (fun K hK=> ?_) TilAll.nil
   (refine step_appVH rfl _ _ (by rfl) base (.slice r.ea r.en r.ec) vl (by rfl) (HR.out.e.adds aD) (some ⟨ww.heap.size,0,none⟩) 1 1 [v] (by rfl) (held_at (cs:=csV) v (c:=E) HE.out (by simp [go_sem]) (by omega)) (Nat.le_refl _) (fun h=>by cases h) (by have:=HL.out;omega) (Nat.le_trans hbw (Adds.size aD)) ?_;intro v1 w1 hO1 hG1 hW1;have HF1:=Lib.hid (AdF.appE ((AdF.start HR.out).adds aD) hO1 hG1 hW1);have HT1:=Lib.hid (AT.grown (HAT.out.adds sE sC aD) sE sC hG1 (fun g e=>by have:=H.out.e.lt2 e;have:=H.out.lt;omega));have HRC:=Lib.hid (grown_row hG1 (show rowOf _ (ww.heap.size+1)=C by simp [go_sem]) (by omega) (fun e=>by have:=H.out.e.lt2 e;have:=HA.out.size;omega));have g1:=Nat.le_trans (Adds.size (show Adds ww _ from aD)) hG1.size;clear hO1 hG1 hW1)
   refine hK.out _ _ (by (try dsimp only);exact HT1.out) (fun hHeld=> ?_)
   clear hK K
   (try simp only [Act.put,List.setIfInBounds_toArray,List.set_cons_zero,List.set_cons_succ])
   refine Til.ready (rs:=[15]) (by kernel_rfl) (by simp) ?_
   refine TilAll.cons rfl (fun K hK=> ?_) TilAll.nil
   (refine step_appUH rfl _ _ (by rfl) base (.slice r.ua r.un r.uc) ul (by rfl) (HF1.out.u.adds aD) (some ⟨ww.heap.size+1,0,none⟩) 1 1 [(⟨cCh,cA,cB,cC,cD,cE,cH,cL,cfS,cfZ,cfK,cfAC,cfP,cfV,cfCY,cSP,cPC,cIE,cDe,cHa,cMa,cTr,cR7,cWT,cW7,cSa,cSI,cSO⟩:S.Cp)] (by rfl) (held_at (cs:=csU) _ (c:=C) HC.out HRC.out (by omega)) (Nat.le_refl _) (fun h=>by cases h) (by have:=HL.out;omega) (Nat.le_trans hbw (Nat.le_trans g1 (Adds.size aD))) ?_;intro v2 w2 hO2 hG2 hW2;have HF2:=Lib.hid (AdF.appU (HF1.out.adds aD) hO2 hG2 hW2);have HT2:=Lib.hid (AT.grown (HT1.out.adds sE sC aD) sE sC hG2 (fun g e=>by have:=H.out.u.lt2 e;have:=H.out.lt;omega));clear hO2 hG2 hW2)
   refine hK.out _ _ (by (try dsimp only);exact HT2.out) (fun hHeld=> ?_)
   clear hK K
   (try simp only [Act.put,List.setIfInBounds_toArray,List.set_cons_zero,List.set_cons_succ])
   refine Tf_ 16 rfl ?_
   refine Tf_ 17 rfl ?_
   obtain ⟨ea,en,ec,rfl,_⟩:=HF2.out.e.form2
   obtain ⟨ua,un,uc,rfl,_⟩:=HF2.out.u.form2
   have ro:=HR.out.rlt
   have row2:rowOf w2 rb=(List.toArray (.slice r.ta r.tn r.tc:: .slice r.ia r.ni r.ic:: .slice r.ea r.en r.ec:: .slice r.ua r.un r.uc:: .int .i64 r.s.k.c.Ch:: .int .u8 r.s.k.c.A:: .int .u8 r.s.k.c.B:: .int .u8 r.s.k.c.C:: .int .u8 r.s.k.c.D:: .int .u8 r.s.k.c.E:: .int .u8 r.s.k.c.H:: .int .u8 r.s.k.c.L:: .bool r.s.k.c.fS:: .bool r.s.k.c.fZ:: .bool r.s.k.c.fK:: .bool r.s.k.c.fAC:: .bool r.s.k.c.fP:: .bool r.s.k.c.fV:: .bool r.s.k.c.fCY:: .int .u16 r.s.k.c.SP:: .int .u16 r.s.k.c.PC:: .bool r.s.k.c.IE:: .bool r.s.k.c.De:: .bool r.s.k.c.Ha:: .int .u8 r.s.k.c.Ma:: .bool r.s.k.c.Tr:: .bool r.s.k.c.R7:: .bool r.s.k.c.WT:: .bool r.s.k.c.W7:: .bool r.s.k.c.Sa:: .bool r.s.k.c.SI:: .bool r.s.k.c.SO:: .int .i64 r.s.k.src:: .slice r.s.k.ga r.s.k.gn r.s.k.gc:: .int .i64 r.s.k.y.k:: .int .u16 r.s.k.y.a:: .int .u8 r.s.k.y.d:: .int .i64 r.s.k.y.s:: .int .i64 r.s.k.nx:: .bool r.s.k.ho:: .slice r.s.ma r.s.mn r.s.mc:: .int .i64 r.s.p.St:: .bool r.s.p.Le:: .bool r.s.p.Fo:: .bool r.s.p.Si:: .bool r.s.p.Ft:: .int .u8 r.s.p.Lw:: .int .u8 r.s.p.Hg:: .bool r.s.p.Au:: .bool r.s.p.Ro:: .bool r.s.p.Sp:: .bool r.s.p.RI:: .bool r.s.p.Po:: .int .u8 r.s.p.Li:: .int .u8 r.s.p.Ed:: .int .u8 r.s.p.IS:: .int .u8 r.s.p.IM:: .int .i64 r.s.p.Lo:: .int .i64 r.s.p.Sq:: .int .i64 r.s.p.Sv:: .bool r.s.p.Su:: .int .u16 r.s.da:: .int .u8 r.s.dv:: .int .i64 r.s.dl:: .int .i64 r.s.wt:: .slice r.s.oa r.s.on r.s.oc::[])):=(HF2.out.a.row ro (fun e=>by rcases e with e|e;(have:=(HR.out.e.lt2 e).1;have:=H.out.lt;omega);(have:=(HR.out.u.lt2 e).1;have:=H.out.lt;omega))).trans HR.out.row
   have c22:=rowOf_cell (i:=2) (v:=.slice r.ea r.en r.ec) row2 rfl
   have c23:=rowOf_cell (i:=3) (v:=.slice r.ua r.un r.uc) row2 rfl
   have f22:=row_frozen row2 (by simp) 2
   have f23:=row_frozen row2 (by simp) 3
   refine Til.ready (rs:=[18]) (by kernel_rfl) (by simp) ?_
   refine TilAll.store rfl (by kernel_rfl) (fun K hK=> ?_) TilAll.nil
   go_simp
   refine hK.out _ _ ?_
   clear hK K
   (try simp only [Act.put,List.setIfInBounds_toArray,List.set_cons_zero,List.set_cons_succ])
   refine Tl_ 19 rfl ?_
   refine Tl_ 20 rfl ?_
   refine Til.ready (rs:=[21]) (by kernel_rfl) (by simp) ?_
   refine TilAll.store rfl (by kernel_rfl) (fun K hK=> ?_) TilAll.nil
   go_simp
   refine hK.out _ _ ?_
   clear hK K
   (try simp only [Act.put,List.setIfInBounds_toArray,List.set_cons_zero,List.set_cons_succ])
   refine Til.done (by kernel_rfl) ?_ _
   refine NoPanic.normal ?_
   try clear hHeld
   go_wp2_with fail
   go_end0
   exact RnOk.add H.out (((Tch.of_adds HA.out).out HF2.out.a)) HF2.out.e HF2.out.u (fun g e=>(HF2.out.ne g e).imp id (fun q=>Nat.le_trans HA.out.size q)) (fun g e=>(HF2.out.nu g e).imp id (fun q=>Nat.le_trans HA.out.size q)) HF2.out.d (by simp) (by simp)
 ·go_simp
  (skip)
  refine hK.out _ _ (by (try dsimp only);exact HAT.out.adds sE sC aD) (fun hHeld=> ?_)
  clear hK K
  (try simp only [Act.put,List.setIfInBounds_toArray,List.set_cons_zero,List.set_cons_succ])
  refine Til.ready (rs:=[7]) (by kernel_rfl) (by simp) ?_
  refine TilAll.cons rfl (fun K hK=> ?_) TilAll.nil
  go_simp
  (skip)
  refine hK.out _ _ (by (try dsimp only);exact HAT.out.adds sE sC aD) (fun hHeld=> ?_)
  clear hK K
  (try simp only [Act.put,List.setIfInBounds_toArray,List.set_cons_zero,List.set_cons_succ])
  refine Til.ready (rs:=[8]) (by kernel_rfl) (by simp) ?_
  refine TilAll.cons rfl (fun K hK=> ?_) TilAll.nil
  (refine step_appVH rfl _ _ (by rfl) base (.slice r.ea r.en r.ec) vl (by rfl) (HR.out.e.adds aD) (some ⟨ww.heap.size+1,0,none⟩) 1 1 [v] (by rfl) (held_at (cs:=csV) v (c:=E) HE.out (by simp [go_sem]) (by omega)) (Nat.le_refl _) (fun h=>by cases h) (by have:=HL.out;omega) (Nat.le_trans hbw (Adds.size aD)) ?_;intro v1 w1 hO1 hG1 hW1;have HF1:=Lib.hid (AdF.appE ((AdF.start HR.out).adds aD) hO1 hG1 hW1);have HT1:=Lib.hid (AT.grown (HAT.out.adds sE sC aD) sE sC hG1 (fun g e=>by have:=H.out.e.lt2 e;have:=H.out.lt;omega));have HRC:=Lib.hid (grown_row hG1 (show rowOf _ (ww.heap.size)=C by simp [go_sem]) (by omega) (fun e=>by have:=H.out.e.lt2 e;have:=HA.out.size;omega));have g1:=Nat.le_trans (Adds.size (show Adds ww _ from aD)) hG1.size;clear hO1 hG1 hW1)
  refine hK.out _ _ (by (try dsimp only);exact HT1.out) (fun hHeld=> ?_)
  clear hK K
  (try simp only [Act.put,List.setIfInBounds_toArray,List.set_cons_zero,List.set_cons_succ])
  refine Til.ready (rs:=[15]) (by kernel_rfl) (by simp) ?_
  refine TilAll.cons rfl (fun K hK=> ?_) TilAll.nil
  (refine step_appUH rfl _ _ (by rfl) base (.slice r.ua r.un r.uc) ul (by rfl) (HF1.out.u.adds aD) (some ⟨ww.heap.size,0,none⟩) 1 1 [(⟨cCh,cA,cB,cC,cD,cE,cH,cL,cfS,cfZ,cfK,cfAC,cfP,cfV,cfCY,cSP,cPC,cIE,cDe,cHa,cMa,cTr,cR7,cWT,cW7,cSa,cSI,cSO⟩:S.Cp)] (by rfl) (held_at (cs:=csU) _ (c:=C) HC.out HRC.out (by omega)) (Nat.le_refl _) (fun h=>by cases h) (by have:=HL.out;omega) (Nat.le_trans hbw (Nat.le_trans g1 (Adds.size aD))) ?_;intro v2 w2 hO2 hG2 hW2;have HF2:=Lib.hid (AdF.appU (HF1.out.adds aD) hO2 hG2 hW2);have HT2:=Lib.hid (AT.grown (HT1.out.adds sE sC aD) sE sC hG2 (fun g e=>by have:=H.out.u.lt2 e;have:=H.out.lt;omega));clear hO2 hG2 hW2)
  refine hK.out _ _ (by (try dsimp only);exact HT2.out) (fun hHeld=> ?_)
  clear hK K
  (try simp only [Act.put,List.setIfInBounds_toArray,List.set_cons_zero,List.set_cons_succ])
  refine Tf_ 16 rfl ?_
  refine Tf_ 17 rfl ?_
  obtain ⟨ea,en,ec,rfl,_⟩:=HF2.out.e.form2
  obtain ⟨ua,un,uc,rfl,_⟩:=HF2.out.u.form2
  have ro:=HR.out.rlt
  have row2:rowOf w2 rb=(List.toArray (.slice r.ta r.tn r.tc:: .slice r.ia r.ni r.ic:: .slice r.ea r.en r.ec:: .slice r.ua r.un r.uc:: .int .i64 r.s.k.c.Ch:: .int .u8 r.s.k.c.A:: .int .u8 r.s.k.c.B:: .int .u8 r.s.k.c.C:: .int .u8 r.s.k.c.D:: .int .u8 r.s.k.c.E:: .int .u8 r.s.k.c.H:: .int .u8 r.s.k.c.L:: .bool r.s.k.c.fS:: .bool r.s.k.c.fZ:: .bool r.s.k.c.fK:: .bool r.s.k.c.fAC:: .bool r.s.k.c.fP:: .bool r.s.k.c.fV:: .bool r.s.k.c.fCY:: .int .u16 r.s.k.c.SP:: .int .u16 r.s.k.c.PC:: .bool r.s.k.c.IE:: .bool r.s.k.c.De:: .bool r.s.k.c.Ha:: .int .u8 r.s.k.c.Ma:: .bool r.s.k.c.Tr:: .bool r.s.k.c.R7:: .bool r.s.k.c.WT:: .bool r.s.k.c.W7:: .bool r.s.k.c.Sa:: .bool r.s.k.c.SI:: .bool r.s.k.c.SO:: .int .i64 r.s.k.src:: .slice r.s.k.ga r.s.k.gn r.s.k.gc:: .int .i64 r.s.k.y.k:: .int .u16 r.s.k.y.a:: .int .u8 r.s.k.y.d:: .int .i64 r.s.k.y.s:: .int .i64 r.s.k.nx:: .bool r.s.k.ho:: .slice r.s.ma r.s.mn r.s.mc:: .int .i64 r.s.p.St:: .bool r.s.p.Le:: .bool r.s.p.Fo:: .bool r.s.p.Si:: .bool r.s.p.Ft:: .int .u8 r.s.p.Lw:: .int .u8 r.s.p.Hg:: .bool r.s.p.Au:: .bool r.s.p.Ro:: .bool r.s.p.Sp:: .bool r.s.p.RI:: .bool r.s.p.Po:: .int .u8 r.s.p.Li:: .int .u8 r.s.p.Ed:: .int .u8 r.s.p.IS:: .int .u8 r.s.p.IM:: .int .i64 r.s.p.Lo:: .int .i64 r.s.p.Sq:: .int .i64 r.s.p.Sv:: .bool r.s.p.Su:: .int .u16 r.s.da:: .int .u8 r.s.dv:: .int .i64 r.s.dl:: .int .i64 r.s.wt:: .slice r.s.oa r.s.on r.s.oc::[])):=(HF2.out.a.row ro (fun e=>by rcases e with e|e;(have:=(HR.out.e.lt2 e).1;have:=H.out.lt;omega);(have:=(HR.out.u.lt2 e).1;have:=H.out.lt;omega))).trans HR.out.row
  have c22:=rowOf_cell (i:=2) (v:=.slice r.ea r.en r.ec) row2 rfl
  have c23:=rowOf_cell (i:=3) (v:=.slice r.ua r.un r.uc) row2 rfl
  have f22:=row_frozen row2 (by simp) 2
  have f23:=row_frozen row2 (by simp) 3
  refine Til.ready (rs:=[18]) (by kernel_rfl) (by simp) ?_
  refine TilAll.store rfl (by kernel_rfl) (fun K hK=> ?_) TilAll.nil
  go_simp
  refine hK.out _ _ ?_
  clear hK K
  (try simp only [Act.put,List.setIfInBounds_toArray,List.set_cons_zero,List.set_cons_succ])
  refine Tl_ 19 rfl ?_
  refine Tl_ 20 rfl ?_
  refine Til.ready (rs:=[21]) (by kernel_rfl) (by simp) ?_
  refine TilAll.store rfl (by kernel_rfl) (fun K hK=> ?_) TilAll.nil
  go_simp
  refine hK.out _ _ ?_
  clear hK K
  (try simp only [Act.put,List.setIfInBounds_toArray,List.set_cons_zero,List.set_cons_succ])
  refine Til.done (by kernel_rfl) ?_ _
  refine NoPanic.normal ?_
  try clear hHeld
  go_wp2_with fail
  go_end0
  exact RnOk.add H.out (((Tch.of_adds HA.out).out HF2.out.a)) HF2.out.e HF2.out.u (fun g e=>(HF2.out.ne g e).imp id (fun q=>Nat.le_trans HA.out.size q)) (fun g e=>(HF2.out.nu g e).imp id (fun q=>Nat.le_trans HA.out.size q)) HF2.out.d (by simp) (by simp)
end
end Go.Proofs.YteggjjhjmhccjaaGreatDoor
