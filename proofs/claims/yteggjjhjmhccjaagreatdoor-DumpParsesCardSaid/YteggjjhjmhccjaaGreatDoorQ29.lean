/- Texts that the proofs of the statements on dumps rest on, joined. Conditions stand in each theorem. -/
import Derived.Test.YteggjjhjmhccjaaGreatDoorQ28
set_option linter.unusedVariables false
set_option linter.unusedSimpArgs false
set_option maxRecDepth 100000
set_option maxHeartbeats 8000000
namespace Go.Proofs.YteggjjhjmhccjaaGreatDoor
open Go.ChangeShapes Go.WideShapes Go.ChangeAt Go.RowKit
section
theorem S.Cy.mk_ok {k a d s:Int} (hk:1≤k∧k≤12) (ha:0≤a∧a < 65536) (hd:0≤d∧d < 256) (hs:3≤s∧s≤6):S.Cy.Ok ⟨k,a,d,s⟩:=⟨hk,ha,hd,hs⟩
theorem MkSt.start (w:World) (oc ox:Obj) {c:S.Cp} {inj:Bool} {ga:Option Addr} {gn gc:Nat} {z:List Int} (x:S.Cy) (hx:x.Ok) (hL:LowG csB w.heap.size w ga gn z) (hgc:gn≤gc) (hz:∀y∈z,0≤y∧y < 256):
 MkSt (w.heap.size+1+1) w.heap.size 1 [w.heap.size+1] c inj ga gn gc z ((((w.alloc oc).alloc ox).alloc (.cells #[.int .i64 c.Ch,.int .u8 c.A,.int .u8 c.B,.int .u8 c.C,.int .u8 c.D,.int .u8 c.E,.int .u8 c.H,.int .u8 c.L,.bool c.fS,.bool c.fZ,.bool c.fK,.bool c.fAC,.bool c.fP,.bool c.fV,.bool c.fCY,.int .u16 c.SP,.int .u16 c.PC,.bool c.IE,.bool c.De,.bool c.Ha,.int .u8 c.Ma,.bool c.Tr,.bool c.R7,.bool c.WT,.bool c.W7,.bool c.Sa,.bool c.SI,.bool c.SO,.bool inj,.slice ga gn gc,.slice (some ⟨w.heap.size+1+1+1,0,none⟩) 1 1] 222)).alloc (.cells #[.int .i64 x.k,.int .u16 x.a,.int .u8 x.d,.int .i64 x.s] 58)):=
 MkSt.lit x ((heap_past _ _ (by simp)).trans (heap_lastE (by simp))) (heap_lastE (by simp)) hx ⟨by omega,by omega,by omega,by omega,by omega,by first|(simp;done)|(simp;omega)⟩ ⟨hL.1.adds aD,hL.2⟩ hgc hz
theorem q1C16y {P:Prop} (h:P:=by
 obtain ⟨⟨xk,xa,xd,xs⟩,hxo,hxl⟩:=hx hlt
 have HX:=Lib.hid hxo
 clear hxo hx
 simp only [S.Cy.cs] at hxl
 have g1:¬(ln:Int)≤(gn:Int):=by omega
 have g2:(gn:Int) < (ln:Int):=by omega
 go_wp2_with fail
 exact bodyPost_ret (v:=.tuple #[.agg #[.int .i64 xk,.int .u16 xa,.int .u8 xd,.int .i64 xs],.bool true]) (ret3_Cycle Tryz.results115 rfl rfl (rowOf_setRow_same _ _ _ (by rw [hrow];decide)) rfl) rfl ⟨⟨xk,xa,xd,xs⟩,true,rfl,(fun _=>HX.out),(fun _=>rfl),(KA.out.trans (Keeps.setRow _ _ _ (by omega) (by simp))).adds rfl⟩):P:=h
theorem q2C16y {P:Prop} (h:P:=by
 have g1:(ln:Int)≤(gn:Int):=by omega
 go_wp2_with fail
 exact bodyPost_ret (v:=.tuple #[.agg #[.int .i64 0,.int .u16 0,.int .u8 0,.int .i64 0],.bool false]) (ret3_Cycle Tryz.results115 rfl rfl (rowOf_setRow_same _ _ _ (by rw [hrow];decide)) rfl) rfl ⟨⟨0,0,0,0⟩,false,rfl,(fun h=>by cases h),(fun h=>by omega),(KA.out.trans (Keeps.setRow _ _ _ (by omega) (by simp))).adds rfl⟩):P:=h
theorem next_int (c:S.Cp) (src:Int) (ga:Option Addr) (gn gc:Nat) (z:List Int) (hR:S.OkR c.A c.B c.C c.D c.E c.H c.L c.SP c.PC) (hi:(decide (1≤src) && decide (src≤4))=true) (hgc:gn≤gc) (hg63:gc≤9223372036854775807) (hz:∀y∈z,0≤y∧y < 256) (w:World) (hL:HeldB w ga gn z):
 Calls Tryz.prog 115 #[.agg #[.int .i64 c.Ch,.int .u8 c.A,.int .u8 c.B,.int .u8 c.C,.int .u8 c.D,.int .u8 c.E,.int .u8 c.H,.int .u8 c.L,.bool c.fS,.bool c.fZ,.bool c.fK,.bool c.fAC,.bool c.fP,.bool c.fV,.bool c.fCY,.int .u16 c.SP,.int .u16 c.PC,.bool c.IE,.bool c.De,.bool c.Ha,.int .u8 c.Ma,.bool c.Tr,.bool c.R7,.bool c.WT,.bool c.W7,.bool c.Sa,.bool c.SI,.bool c.SO],.int .i64 src,.slice ga gn gc] w (NextPost gn w):=by
 have HL:=Lib.hid (LowG.of hL)
 have HR:=Lib.hid hR
 have HI:=Lib.hid hi
 have HZ:=Lib.hid hz
 have HB:=Lib.hid hL
 clear hL hR hi hz
 go_enter Tryz.func115,Tryz.ntmps115
 go_upto_region 12 with (first|(go_at_call 117;refine sm (internal_is src true HI.out) ?_)|(go_at_call 140;refine (mk_push (w.heap.size+1+1) w.heap.size 1 [w.heap.size+1] c (src==5) ga gn gc z HR.out.sp (by omega) (MkSt.start w _ _ (inj:=(src==5)) ⟨12,c.PC,0,6⟩ (S.Cy.mk_ok (by omega) HR.out.pc (by omega) (by omega)) HL.out hgc HZ.out)).mono ?_;rintro e w1 ⟨rfl,h',k'⟩;have H1:=Lib.hid h';have K1:=Lib.hid k';clear h' k'))
 obtain ⟨g,ln,lc,c30,⟨q0,q1,q2⟩,hx⟩:=H1.out.last
 have hbx:w.heap.size+1 < w1.heap.size:=by have:=K1.out.size;simp [go_sem] at this;omega
 have hrow:rowOf w1 (w.heap.size+1)=#[.int .i64 0,.int .u16 0,.int .u8 0,.int .i64 0]:=by rw [K1.out.row (by simp) (by first|(simp [go_sem];done)|(simp [go_sem];omega))];simp [go_sem]
 obtain ⟨lv',hc1,hf1,hb1,hr1⟩:=H1.out.cells
 have e30:some (Value.slice (some ⟨g,0,none⟩) ln lc)=some lv':=c30.symm.trans (hc1 30)
 obtain rfl:=Option.some.inj e30
 have KA:=Lib.hid (show Keeps w.heap.size [] w w1 from (Keeps.of_adds aD (Nat.le_refl _)).trans K1.out.nil)
 clear H1 K1
 by_cases hlt:gn < ln
 ·exact q1C16y
 ·exact q2C16y
theorem next_zero_true (c:S.Cp) (src:Int) (ga:Option Addr) (gn gc:Nat) (z:List Int) (hR:S.OkR c.A c.B c.C c.D c.E c.H c.L c.SP c.PC) (hi:(decide (1≤src) && decide (src≤4))=false) (h5:(src==5)=true) (h0:gn=0) (hgc:gn≤gc) (hg63:gc≤9223372036854775807) (hz:∀y∈z,0≤y∧y < 256) (w:World) (hL:HeldB w ga gn z):
 Calls Tryz.prog 115 #[.agg #[.int .i64 c.Ch,.int .u8 c.A,.int .u8 c.B,.int .u8 c.C,.int .u8 c.D,.int .u8 c.E,.int .u8 c.H,.int .u8 c.L,.bool c.fS,.bool c.fZ,.bool c.fK,.bool c.fAC,.bool c.fP,.bool c.fV,.bool c.fCY,.int .u16 c.SP,.int .u16 c.PC,.bool c.IE,.bool c.De,.bool c.Ha,.int .u8 c.Ma,.bool c.Tr,.bool c.R7,.bool c.WT,.bool c.W7,.bool c.Sa,.bool c.SI,.bool c.SO],.int .i64 src,.slice ga gn gc] w (NextPost gn w):=by
 have HL:=Lib.hid (LowG.of hL)
 have HR:=Lib.hid hR
 have HI:=Lib.hid hi
 have HZ:=Lib.hid hz
 have HB:=Lib.hid hL
 clear hL hR hi hz
 go_enter Tryz.func115,Tryz.ntmps115
 subst h0
 go_wp2_with (first|(go_at_call 117;refine sm (internal_is src false HI.out) ?_))
 exact bodyPost_ret (v:=.tuple #[.agg #[.int .i64 8,.int .u16 c.PC,.int .u8 0,.int .i64 4],.bool true]) (ret3_Cycle Tryz.results115 rfl rfl (by simp [go_sem]) rfl) rfl ⟨⟨8,c.PC,0,4⟩,true,rfl,fun _=>(S.Cy.mk_ok (by omega) HR.out.pc (by omega) (by omega)),fun _=>rfl,aD⟩
theorem next_some_true (c:S.Cp) (src:Int) (ga:Option Addr) (gn gc:Nat) (z:List Int) (hR:S.OkR c.A c.B c.C c.D c.E c.H c.L c.SP c.PC) (hi:(decide (1≤src) && decide (src≤4))=false) (h5:(src==5)=true) (h0:0 < gn) (hgc:gn≤gc) (hg63:gc≤9223372036854775807) (hz:∀y∈z,0≤y∧y < 256) (w:World) (hL:HeldB w ga gn z):
 Calls Tryz.prog 115 #[.agg #[.int .i64 c.Ch,.int .u8 c.A,.int .u8 c.B,.int .u8 c.C,.int .u8 c.D,.int .u8 c.E,.int .u8 c.H,.int .u8 c.L,.bool c.fS,.bool c.fZ,.bool c.fK,.bool c.fAC,.bool c.fP,.bool c.fV,.bool c.fCY,.int .u16 c.SP,.int .u16 c.PC,.bool c.IE,.bool c.De,.bool c.Ha,.int .u8 c.Ma,.bool c.Tr,.bool c.R7,.bool c.WT,.bool c.W7,.bool c.Sa,.bool c.SI,.bool c.SO],.int .i64 src,.slice ga gn gc] w (NextPost gn w):=by
 have HL:=Lib.hid (LowG.of hL)
 have HR:=Lib.hid hR
 have HI:=Lib.hid hi
 have HZ:=Lib.hid hz
 have HB:=Lib.hid hL
 clear hL hR hi hz
 go_enter Tryz.func115,Tryz.ntmps115
 have h00:(0:Int) < (gn:Int):=by omega
 obtain ⟨bb,o,rfl,hbb,hat⟩:=HB.out.2.2 h0
 have hlen:=HB.out.1
 have c0:=AtB.el hat (j:=0) (by omega)
 rw [Nat.add_zero] at c0
 have hz0:0≤z.getD 0 0∧z.getD 0 0 < 256:=by rw [List.getD_eq_getElem?_getD,List.getElem?_eq_getElem (by omega)];exact HZ.out _ (List.getElem_mem _)
 generalize z.getD 0 0=op at c0 hz0
 have HO:=Lib.hid hz0
 obtain ⟨ji,hji⟩:∃ji,S.ins c.Ch op=ji:=⟨_,rfl⟩
 have HJK:=Lib.hid (hji▸S.ins_ok c.Ch op hz0.1 (by omega):ji.Ok)
 have HJ:=Lib.hid hji
 clear hat hz0 hji hlen
 obtain ⟨jk,jl,jd,js,jp,jo,jc,jn⟩:=ji
 go_upto_region 11 with (first|(go_at_call 117;refine sm (internal_is src false HI.out) ?_))
 go_region_with (first|(go_at_call 113;refine ad (dec9_is HO.out.1 (by have:=HO.out.2;omega) HJ.out) fun n1 os1=> ?_;simp only [S.Ins.cs])|(go_at_call 141;refine (mk_body (w.heap.size+1+1) w.heap.size 1 [w.heap.size+1] c true (some ⟨bb,o,none⟩) gn gc z jk jl jd js jp jo jc jn HJK.out.k HJK.out.l HR.out (by omega) ((MkSt.start w _ _ (inj:=true) ⟨8,c.PC,0,4⟩ (S.Cy.mk_ok (by omega) HR.out.pc (by omega) (by omega)) HL.out hgc HZ.out).keeps aD)).mono ?_;rintro e w1 ⟨rfl,h',k'⟩;have H1:=Lib.hid h';have K1:=Lib.hid k';clear h' k'))
 all_goals
  obtain ⟨g,ln,lc,c30,⟨q0,q1,q2⟩,hx⟩:=H1.out.last
  have hbx:w.heap.size+1 < w1.heap.size:=by have:=K1.out.size;simp [go_sem] at this;omega
  have hrow:rowOf w1 (w.heap.size+1)=#[.int .i64 0,.int .u16 0,.int .u8 0,.int .i64 0]:=by rw [K1.out.row (by simp) (by first|(simp [go_sem];done)|(simp [go_sem];omega))];simp [go_sem]
  obtain ⟨lv',hc1,hf1,hb1,hr1⟩:=H1.out.cells
  have e30:some (Value.slice (some ⟨g,0,none⟩) ln lc)=some lv':=c30.symm.trans (hc1 30)
  obtain rfl:=Option.some.inj e30
  have KA:=Lib.hid (show Keeps w.heap.size [] w w1 from (Keeps.of_adds aD (Nat.le_refl _)).trans K1.out.nil)
  clear H1 K1
  by_cases hlt:gn < ln
  ·exact q1C16y
  ·exact q2C16y
theorem next_zero_false (c:S.Cp) (src:Int) (ga:Option Addr) (gn gc:Nat) (z:List Int) (hR:S.OkR c.A c.B c.C c.D c.E c.H c.L c.SP c.PC) (hi:(decide (1≤src) && decide (src≤4))=false) (h5:(src==5)=false) (h0:gn=0) (hgc:gn≤gc) (hg63:gc≤9223372036854775807) (hz:∀y∈z,0≤y∧y < 256) (w:World) (hL:HeldB w ga gn z):
 Calls Tryz.prog 115 #[.agg #[.int .i64 c.Ch,.int .u8 c.A,.int .u8 c.B,.int .u8 c.C,.int .u8 c.D,.int .u8 c.E,.int .u8 c.H,.int .u8 c.L,.bool c.fS,.bool c.fZ,.bool c.fK,.bool c.fAC,.bool c.fP,.bool c.fV,.bool c.fCY,.int .u16 c.SP,.int .u16 c.PC,.bool c.IE,.bool c.De,.bool c.Ha,.int .u8 c.Ma,.bool c.Tr,.bool c.R7,.bool c.WT,.bool c.W7,.bool c.Sa,.bool c.SI,.bool c.SO],.int .i64 src,.slice ga gn gc] w (NextPost gn w):=by
 have HL:=Lib.hid (LowG.of hL)
 have HR:=Lib.hid hR
 have HI:=Lib.hid hi
 have HZ:=Lib.hid hz
 have HB:=Lib.hid hL
 clear hL hR hi hz
 go_enter Tryz.func115,Tryz.ntmps115
 subst h0
 go_wp2_with (first|(go_at_call 117;refine sm (internal_is src false HI.out) ?_))
 exact bodyPost_ret (v:=.tuple #[.agg #[.int .i64 1,.int .u16 c.PC,.int .u8 0,.int .i64 4],.bool true]) (ret3_Cycle Tryz.results115 rfl rfl (by simp [go_sem]) rfl) rfl ⟨⟨1,c.PC,0,4⟩,true,rfl,fun _=>(S.Cy.mk_ok (by omega) HR.out.pc (by omega) (by omega)),fun _=>rfl,aD⟩
theorem next_some_false (c:S.Cp) (src:Int) (ga:Option Addr) (gn gc:Nat) (z:List Int) (hR:S.OkR c.A c.B c.C c.D c.E c.H c.L c.SP c.PC) (hi:(decide (1≤src) && decide (src≤4))=false) (h5:(src==5)=false) (h0:0 < gn) (hgc:gn≤gc) (hg63:gc≤9223372036854775807) (hz:∀y∈z,0≤y∧y < 256) (w:World) (hL:HeldB w ga gn z):
 Calls Tryz.prog 115 #[.agg #[.int .i64 c.Ch,.int .u8 c.A,.int .u8 c.B,.int .u8 c.C,.int .u8 c.D,.int .u8 c.E,.int .u8 c.H,.int .u8 c.L,.bool c.fS,.bool c.fZ,.bool c.fK,.bool c.fAC,.bool c.fP,.bool c.fV,.bool c.fCY,.int .u16 c.SP,.int .u16 c.PC,.bool c.IE,.bool c.De,.bool c.Ha,.int .u8 c.Ma,.bool c.Tr,.bool c.R7,.bool c.WT,.bool c.W7,.bool c.Sa,.bool c.SI,.bool c.SO],.int .i64 src,.slice ga gn gc] w (NextPost gn w):=by
 have HL:=Lib.hid (LowG.of hL)
 have HR:=Lib.hid hR
 have HI:=Lib.hid hi
 have HZ:=Lib.hid hz
 have HB:=Lib.hid hL
 clear hL hR hi hz
 go_enter Tryz.func115,Tryz.ntmps115
 have h00:(0:Int) < (gn:Int):=by omega
 obtain ⟨bb,o,rfl,hbb,hat⟩:=HB.out.2.2 h0
 have hlen:=HB.out.1
 have c0:=AtB.el hat (j:=0) (by omega)
 rw [Nat.add_zero] at c0
 have hz0:0≤z.getD 0 0∧z.getD 0 0 < 256:=by rw [List.getD_eq_getElem?_getD,List.getElem?_eq_getElem (by omega)];exact HZ.out _ (List.getElem_mem _)
 generalize z.getD 0 0=op at c0 hz0
 have HO:=Lib.hid hz0
 obtain ⟨ji,hji⟩:∃ji,S.ins c.Ch op=ji:=⟨_,rfl⟩
 have HJK:=Lib.hid (hji▸S.ins_ok c.Ch op hz0.1 (by omega):ji.Ok)
 have HJ:=Lib.hid hji
 clear hat hz0 hji hlen
 obtain ⟨jk,jl,jd,js,jp,jo,jc,jn⟩:=ji
 go_upto_region 11 with (first|(go_at_call 117;refine sm (internal_is src false HI.out) ?_))
 go_region_with (first|(go_at_call 113;refine ad (dec9_is HO.out.1 (by have:=HO.out.2;omega) HJ.out) fun n1 os1=> ?_;simp only [S.Ins.cs])|(go_at_call 141;refine (mk_body (w.heap.size+1+1) w.heap.size 1 [w.heap.size+1] c false (some ⟨bb,o,none⟩) gn gc z jk jl jd js jp jo jc jn HJK.out.k HJK.out.l HR.out (by omega) ((MkSt.start w _ _ (inj:=false) ⟨1,c.PC,0,4⟩ (S.Cy.mk_ok (by omega) HR.out.pc (by omega) (by omega)) HL.out hgc HZ.out).keeps aD)).mono ?_;rintro e w1 ⟨rfl,h',k'⟩;have H1:=Lib.hid h';have K1:=Lib.hid k';clear h' k'))
 all_goals
  obtain ⟨g,ln,lc,c30,⟨q0,q1,q2⟩,hx⟩:=H1.out.last
  have hbx:w.heap.size+1 < w1.heap.size:=by have:=K1.out.size;simp [go_sem] at this;omega
  have hrow:rowOf w1 (w.heap.size+1)=#[.int .i64 0,.int .u16 0,.int .u8 0,.int .i64 0]:=by rw [K1.out.row (by simp) (by first|(simp [go_sem];done)|(simp [go_sem];omega))];simp [go_sem]
  obtain ⟨lv',hc1,hf1,hb1,hr1⟩:=H1.out.cells
  have e30:some (Value.slice (some ⟨g,0,none⟩) ln lc)=some lv':=c30.symm.trans (hc1 30)
  obtain rfl:=Option.some.inj e30
  have KA:=Lib.hid (show Keeps w.heap.size [] w w1 from (Keeps.of_adds aD (Nat.le_refl _)).trans K1.out.nil)
  clear H1 K1
  by_cases hlt:gn < ln
  ·exact q1C16y
  ·exact q2C16y
theorem next_any (c:S.Cp) (src:Int) (ga:Option Addr) (gn gc:Nat) (z:List Int) (hR:S.OkR c.A c.B c.C c.D c.E c.H c.L c.SP c.PC) (hgc:gn≤gc) (hg63:gc≤9223372036854775807) (hz:∀y∈z,0≤y∧y < 256) (w:World) (hL:HeldB w ga gn z):
 Calls Tryz.prog 115 #[.agg #[.int .i64 c.Ch,.int .u8 c.A,.int .u8 c.B,.int .u8 c.C,.int .u8 c.D,.int .u8 c.E,.int .u8 c.H,.int .u8 c.L,.bool c.fS,.bool c.fZ,.bool c.fK,.bool c.fAC,.bool c.fP,.bool c.fV,.bool c.fCY,.int .u16 c.SP,.int .u16 c.PC,.bool c.IE,.bool c.De,.bool c.Ha,.int .u8 c.Ma,.bool c.Tr,.bool c.R7,.bool c.WT,.bool c.W7,.bool c.Sa,.bool c.SI,.bool c.SO],.int .i64 src,.slice ga gn gc] w (NextPost gn w):=by
 rcases hi:(decide (1≤src) && decide (src≤4)) with _|_
 ·rcases h5:(src==5) with _|_
  ·rcases Nat.eq_zero_or_pos gn with h0|h0
   ·exact next_zero_false c src ga gn gc z hR hi h5 h0 hgc hg63 hz w hL
   ·exact next_some_false c src ga gn gc z hR hi h5 h0 hgc hg63 hz w hL
  ·rcases Nat.eq_zero_or_pos gn with h0|h0
   ·exact next_zero_true c src ga gn gc z hR hi h5 h0 hgc hg63 hz w hL
   ·exact next_some_true c src ga gn gc z hR hi h5 h0 hgc hg63 hz w hL
 ·exact next_int c src ga gn gc z hR hi hgc hg63 hz w hL
end
end Go.Proofs.YteggjjhjmhccjaaGreatDoor
