/- Texts that the proofs of the statements on dumps rest on, joined. Conditions stand in each theorem. -/
import Derived.Test.YteggjjhjmhccjaaGreatDoorQ21
import Derived.Test.YteggjjhjmhccjaaGreatDoorQ22
import Derived.Test.YteggjjhjmhccjaaGreatDoorQ23
import Derived.Test.YteggjjhjmhccjaaGreatDoorQ24
import Derived.Test.YteggjjhjmhccjaaGreatDoorQ12
import Derived.Test.YteggjjhjmhccjaaGreatDoorQ01
import Derived.Deep.Cut
import Derived.Test.YteggjjhjmhccjaaGreatDoorQ20
import Derived.Test.YteggjjhjmhccjaaGreatDoorQ25
import Derived.Test.YteggjjhjmhccjaaGreatDoorQ26
import Derived.Test.YteggjjhjmhccjaaGreatDoorQ27
set_option linter.unusedVariables false
set_option linter.unusedSimpArgs false
set_option maxRecDepth 100000
set_option maxHeartbeats 8000000
namespace Go.Proofs.YteggjjhjmhccjaaGreatDoor
open Go.ChangeShapes Go.WideShapes Go.ChangeAt Go.RowKit
section
theorem body_all (jk:Int) (hk:0≤jk∧jk≤47):∀o,BodyK jk o:=by
 rcases (by omega:jk=0∨jk=1∨jk=2∨jk=3∨jk=4∨jk=5∨jk=6∨jk=7∨jk=8∨jk=9∨jk=10∨jk=11∨jk=12∨jk=13∨jk=14∨jk=15∨jk=16∨jk=17∨jk=18∨jk=19∨jk=20∨jk=21∨jk=22∨jk=23∨jk=24∨jk=25∨jk=26∨jk=27∨jk=28∨jk=29∨jk=30∨jk=31∨jk=32∨jk=33∨jk=34∨jk=35∨jk=36∨jk=37∨jk=38∨jk=39∨jk=40∨jk=41∨jk=42∨jk=43∨jk=44∨jk=45∨jk=46∨jk=47) with rfl|rfl|rfl|rfl|rfl|rfl|rfl|rfl|rfl|rfl|rfl|rfl|rfl|rfl|rfl|rfl|rfl|rfl|rfl|rfl|rfl|rfl|rfl|rfl|rfl|rfl|rfl|rfl|rfl|rfl|rfl|rfl|rfl|rfl|rfl|rfl|rfl|rfl|rfl|rfl|rfl|rfl|rfl|rfl|rfl|rfl|rfl|rfl
 ·exact body_0
 ·exact body_1
 ·exact body_2
 ·exact body_3
 ·exact body_4
 ·exact body_5
 ·exact body_6
 ·exact body_7
 ·exact body_8
 ·exact body_9
 ·exact body_10
 ·exact body_11
 ·exact body_12
 ·exact body_13
 ·exact body_14
 ·exact body_15
 ·exact body_16
 ·exact body_17
 ·exact body_18
 ·exact body_19
 ·exact body_20
 ·exact body_21
 ·exact body_22
 ·exact body_23
 ·exact body_24
 ·exact body_25
 ·exact body_26
 ·exact body_27
 ·exact body_28
 ·exact body_29
 ·exact body_30
 ·exact body_31
 ·exact fun o=>by cases o;exact body_32_false;exact body_32_true
 ·exact body_33
 ·exact body_34
 ·exact body_35
 ·exact body_36
 ·exact fun o=>by cases o;exact body_37_false;exact body_37_true
 ·exact body_38
 ·exact body_39
 ·exact body_40
 ·exact body_41
 ·exact body_42
 ·exact body_43
 ·exact body_44
 ·exact body_45
 ·exact body_46
 ·exact body_47
theorem mk_body (b n N:Nat) (pr:List Nat) (c:S.Cp) (inj:Bool) (ga:Option Addr) (gn gc:Nat) (z:List Int) (jk jl jd js jp jo jc jn:Int) (hk:0≤jk∧jk≤47) (hj:1≤jl∧jl≤3) (hR:S.OkR c.A c.B c.C c.D c.E c.H c.L c.SP c.PC) (hN:N≤800) {w:World} (h:MkSt b n N pr c inj ga gn gc z w):
 Calls Tryz.prog 141 #[.pointer (some ⟨b,0,none⟩),.agg #[.int .i64 jk,.int .i64 jl,.int .i64 jd,.int .i64 js,.int .i64 jp,.int .i64 jo,.int .i64 jc,.int .i64 jn]] w (MkPost b n (N+8) pr c inj ga gn gc z w):=
 body_all jk hk _ b n N pr c inj ga gn gc z jl jd js jp jo jc jn hj hR hN rfl w h _ rfl
end
section
variable {b gc gn n:Nat} {c:S.Cp} {ga:Option Addr} {inj:Bool} {w:World} {z:List Int}
theorem internal_any (n:Int) (w:World):Calls Tryz.prog 117 #[.int .i64 n] w fun e w'=>e=.returned (.bool (decide (1≤n) && decide (n≤4)))∧w=w':=by
 by_cases h1:1≤n<;>by_cases h2:n≤4
 all_goals
  go_enter Tryz.func117,Tryz.ntmps117
  go_wp2
  go_ret
  exact ⟨by simp [h1,h2],rfl⟩
theorem internal_is (n:Int) (r:Bool) (h:(decide (1≤n) && decide (n≤4))=r):Calls Tryz.prog 117 #[.int .i64 n] w fun e w'=>e=.returned (.bool r)∧w=w':=h▸internal_any n w
def S.insB (op:Int) (on:Bool):Bool:=
 let i:=S.ins (if on then 2 else 1) op
 decide (0≤i.k∧i.k≤47∧1≤i.l∧i.l≤3∧0≤i.d∧i.d≤7∧0≤i.s∧i.s≤7∧0≤i.p∧i.p≤3∧0≤i.o∧i.o≤7∧0≤i.c∧i.c≤11∧0≤i.n∧i.n≤7)
theorem S.insB_fin:∀op:Fin 256,S.insB (op.val:Int) true=true∧S.insB (op.val:Int) false=true:=by decide+kernel
theorem S.ins_ok (ch op:Int) (o0:0≤op) (o1:op≤255):(S.ins ch op).Ok:=by
 have h:=S.insB_fin ⟨op.toNat,by omega⟩
 have e:((op.toNat:Nat):Int)=op:=Int.toNat_of_nonneg o0
 simp only [e] at h
 by_cases hc:ch=2
 ·subst hc
  have h1:=h.1
  simp only [S.insB,if_true,decide_eq_true_eq] at h1
  exact ⟨by omega,by omega,by omega,by omega,by omega,by omega,by omega,by omega⟩
 ·have h1:=h.2
  have e2:S.ins 1 op=S.ins ch op:=by unfold S.ins;simp [hc]
  simp only [S.insB,if_false,decide_eq_true_eq,Bool.false_eq_true] at h1
  rw [e2] at h1
  exact ⟨by omega,by omega,by omega,by omega,by omega,by omega,by omega,by omega⟩
theorem heap_lastE {o:Obj} {k:Nat} (h:k=w.heap.size):(w.alloc o).heap[k]? =some o:=h▸heap_last w o
theorem MkSt.lit {g bx:Nat} (x:S.Cy) (hh:w.heap[b]? =some (.cells #[.int .i64 c.Ch,.int .u8 c.A,.int .u8 c.B,.int .u8 c.C,.int .u8 c.D,.int .u8 c.E,.int .u8 c.H,.int .u8 c.L,.bool c.fS,.bool c.fZ,.bool c.fK,.bool c.fAC,.bool c.fP,.bool c.fV,.bool c.fCY,.int .u16 c.SP,.int .u16 c.PC,.bool c.IE,.bool c.De,.bool c.Ha,.int .u8 c.Ma,.bool c.Tr,.bool c.R7,.bool c.WT,.bool c.W7,.bool c.Sa,.bool c.SI,.bool c.SO,.bool inj,.slice ga gn gc,.slice (some ⟨g,0,none⟩) 1 1] 222 (0,0)))
 (hg:w.heap[g]? =some (.cells x.cs 58 (0,0))) (hx:x.Ok) (h1:n≤b∧n≤g∧g≠b∧bx≠b∧g≠bx∧bx < w.heap.size) (hL:LowG csB n w ga gn z) (hgc:gn≤gc) (hz:∀y∈z,0≤y∧y < 256):MkSt b n 1 [bx] c inj ga gn gc z w:=by
 refine ⟨_,[x],hh,⟨by simp [Fl_one];rfl,.inr ⟨g,1,x.cs,rfl,h1.2.1,hg,by simp,by unfold maxLen;omega,by simp [S.Cy.cs],?_⟩⟩,fun y hy=>by simp at hy;subst hy;exact hx,by simp,⟨h1.1,?_,by simp;omega⟩,fun k hk=> ?_,hL,hgc,hz⟩
 ·rw [Fl_one];rfl
 ·show some g≠some b
  simp;exact h1.2.2.1
 ·simp at hk;subst hk
  refine ⟨?_,h1.2.2.2.2.2⟩
  show some g≠some k
  simp;exact h1.2.2.2.2.1
theorem MkSt.last {N:Nat} {pr:List Nat} (h:MkSt b n N pr c inj ga gn gc z w):
 ∃g ln lc,w.cell? ⟨b,30,none⟩=some (.slice (some ⟨g,0,none⟩) ln lc)∧(1≤ln∧ln≤lc∧lc≤9223372036854775807)∧(gn < ln→∃x:S.Cy,x.Ok∧(wholeVar 58 ⟨g,gn * 4,none⟩).run Tryz.prog w=.ok (.agg x.cs) w):=by
 obtain ⟨lv,d,hh,ho,h1,h2,_⟩:=h
 have c30:w.cell? ⟨b,30,none⟩=some lv:=by rw [cell_of_row w b 30 _ _ (0,0) hh];rfl
 obtain ⟨la,ln,lc,rfl,hln,hl1,hl2,hl3, -⟩:=ho.form2
 have hln:=hln.out
 obtain ⟨g,rfl,hg1,hg2⟩:=hl3 (by omega)
 refine ⟨g,ln,lc,c30,⟨by omega,hl1,hl2⟩,fun hlt=> ?_⟩
 obtain ⟨x,hx⟩:∃x,d[gn]? =some x:=get_el (by omega)
 exact ⟨x,h1 x (List.mem_of_getElem? hx),AtC.load ho.at_ hx _ (by omega)⟩
def NextPost (gn:Nat) (w:World) (e:Ending) (w':World):Prop:=∃(x:S.Cy) (m:Bool),e=.returned (.tuple #[.agg x.cs,.bool m])∧(m=true→x.Ok)∧(gn=0→m=true)∧Adds w w'
end
section
theorem loaded_no (b:Nat) (c:S.Cp) (inj:Bool) (ga:Option Addr) (gn gc:Nat) (z:List Int) (jk jl jd js jp jo jc jn:Int) (e2:(jk==2)=false) (e3:(jk==3)=false) (e4:(jk==4)=false) (e5:(jk==5)=false) (e7:(jk==7)=false) (e9:(jk==9)=false) (e11:(jk==11)=false) (e29:(jk==29)=false) (e30:(jk==30)=false) (e31:(jk==31)=false) (e32:(jk==32)=false) (e33:(jk==33)=false) (e43:(jk==43)=false) (e44:(jk==44)=false) (e47:(jk==47)=false) (hR:S.OkR c.A c.B c.C c.D c.E c.H c.L c.SP c.PC) (w:World) (h:MkRd b c inj ga gn gc z w):Calls Tryz.prog 145 #[.pointer (some ⟨b,0,none⟩),.agg #[.int .i64 jk,.int .i64 jl,.int .i64 jd,.int .i64 js,.int .i64 jp,.int .i64 jo,.int .i64 jc,.int .i64 jn]] w (PostLd w):=by
 obtain ⟨lv,hc,hf,hb,hr⟩:=h.cells
 have hz:∀y∈z,0≤y∧y < 256:=by obtain ⟨_,_,_,_,hz⟩:=h;exact hz
 have H:=Lib.hid h
 have HZ:=Lib.hid hz
 have HR:=Lib.hid hR
 clear h hz hR
 go_enter Tryz.func145,Tryz.ntmps145
 go_wp2_with (first|(go_at_call 143;refine sm (rd_at b c inj ga gn gc z (by omega) _ (H.out.keeps aD)) ?_)|(go_at_call 159;refine sm (rd_word b c inj ga gn gc z (by omega) (by omega) (H.out.keeps aD)) ?_)|(go_at_call 157;refine (wk_get okh).mono ?_;rintro e w' ⟨vg,hvg,rfl,⟨⟨ng,osg⟩,rfl⟩⟩)|(go_at_call 148;refine (wk_pair _ okh).mono ?_;rintro e w' ⟨vp,hvp,rfl,⟨⟨np,osp⟩,rfl⟩⟩)|(go_at_call 167;refine (wk_set okh (by first|exact S.gb_bd HZ.out _|exact HR.out.a|exact HQ.out.a|assumption|exact w8_bd)).mono ?_;rintro e w' ⟨qA,qB,qC,qD,qE,qH,qL,qS,qZ,qK,qAC,qP,qV,qCY,qSP,qPC,h',rfl,⟨⟨nq,osq⟩,rfl⟩⟩;have HQ:=Lib.hid h';clear h')|(go_at_call 168;refine (wk_setpair okh (by first|exact S.gw_bd HZ.out|assumption|exact w16_bd|exact HR.out.sp)).mono ?_;rintro e w' ⟨qA,qB,qC,qD,qE,qH,qL,qS,qZ,qK,qAC,qP,qV,qCY,qSP,qPC,h',rfl,⟨⟨nq,osq⟩,rfl⟩⟩;have HQ:=Lib.hid h';clear h')|(go_at_call 169;refine (wk_setpsw okh (by first|exact S.gw_bd HZ.out|assumption|exact w16_bd|exact HR.out.sp)).mono ?_;rintro e w' ⟨qA,qB,qC,qD,qE,qH,qL,qS,qZ,qK,qAC,qP,qV,qCY,qSP,qPC,h',rfl,⟨⟨nq,osq⟩,rfl⟩⟩;have HQ:=Lib.hid h';clear h'))
 all_goals
  refine bodyPost_ret (ret3_Regs Tryz.results145 rfl rfl rfl (by simp [go_sem])) rfl ?_
  simp [go_sem]
  exact PostLd.mk _ _ _ _ _ _ _ _ _ _ _ _ _ _ _ _ _ okr aD
theorem loaded_any (b:Nat) (c:S.Cp) (inj:Bool) (ga:Option Addr) (gn gc:Nat) (z:List Int) (jk jl jd js jp jo jc jn:Int) (hR:S.OkR c.A c.B c.C c.D c.E c.H c.L c.SP c.PC) {w:World} (h:MkRd b c inj ga gn gc z w):Calls Tryz.prog 145 #[.pointer (some ⟨b,0,none⟩),.agg #[.int .i64 jk,.int .i64 jl,.int .i64 jd,.int .i64 js,.int .i64 jp,.int .i64 jo,.int .i64 jc,.int .i64 jn]] w (PostLd w):=by
 rcases e2:(jk==2) with _|_
 rotate_left
 ·obtain rfl:=eq_of_beq e2;exact loaded_2 b c inj ga gn gc z jl jd js jp jo jc jn hR w h
 rcases e3:(jk==3) with _|_
 rotate_left
 ·obtain rfl:=eq_of_beq e3;exact loaded_3 b c inj ga gn gc z jl jd js jp jo jc jn hR w h
 rcases e4:(jk==4) with _|_
 rotate_left
 ·obtain rfl:=eq_of_beq e4;exact loaded_4 b c inj ga gn gc z jl jd js jp jo jc jn hR w h
 rcases e5:(jk==5) with _|_
 rotate_left
 ·obtain rfl:=eq_of_beq e5;exact loaded_5 b c inj ga gn gc z jl jd js jp jo jc jn hR w h
 rcases e7:(jk==7) with _|_
 rotate_left
 ·obtain rfl:=eq_of_beq e7;exact loaded_7 b c inj ga gn gc z jl jd js jp jo jc jn hR w h
 rcases e9:(jk==9) with _|_
 rotate_left
 ·obtain rfl:=eq_of_beq e9;exact loaded_9 b c inj ga gn gc z jl jd js jp jo jc jn hR w h
 rcases e11:(jk==11) with _|_
 rotate_left
 ·obtain rfl:=eq_of_beq e11;exact loaded_11 b c inj ga gn gc z jl jd js jp jo jc jn hR w h
 rcases e29:(jk==29) with _|_
 rotate_left
 ·obtain rfl:=eq_of_beq e29;exact loaded_29 b c inj ga gn gc z jl jd js jp jo jc jn hR w h
 rcases e30:(jk==30) with _|_
 rotate_left
 ·obtain rfl:=eq_of_beq e30;exact loaded_30 b c inj ga gn gc z jl jd js jp jo jc jn hR w h
 rcases e31:(jk==31) with _|_
 rotate_left
 ·obtain rfl:=eq_of_beq e31;exact loaded_31 b c inj ga gn gc z jl jd js jp jo jc jn hR w h
 rcases e32:(jk==32) with _|_
 rotate_left
 ·obtain rfl:=eq_of_beq e32;exact loaded_32 b c inj ga gn gc z jl jd js jp jo jc jn hR w h
 rcases e33:(jk==33) with _|_
 rotate_left
 ·obtain rfl:=eq_of_beq e33;exact loaded_33 b c inj ga gn gc z jl jd js jp jo jc jn hR w h
 rcases e43:(jk==43) with _|_
 rotate_left
 ·obtain rfl:=eq_of_beq e43;exact loaded_43 b c inj ga gn gc z jl jd js jp jo jc jn hR w h
 rcases e44:(jk==44) with _|_
 rotate_left
 ·obtain rfl:=eq_of_beq e44;exact loaded_44 b c inj ga gn gc z jl jd js jp jo jc jn hR w h
 rcases e47:(jk==47) with _|_
 rotate_left
 ·obtain rfl:=eq_of_beq e47;exact loaded_47 b c inj ga gn gc z jl jd js jp jo jc jn hR w h
 exact loaded_no b c inj ga gn gc z jk jl jd js jp jo jc jn e2 e3 e4 e5 e7 e9 e11 e29 e30 e31 e32 e33 e43 e44 e47 hR w h
end
section
theorem computed_any (b:Nat) (c:S.Cp) (inj:Bool) (ga:Option Addr) (gn gc:Nat) (z:List Int) (jk jl jd js jp jo jc jn:Int) (hR:S.OkR c.A c.B c.C c.D c.E c.H c.L c.SP c.PC) {w:World} (h:MkRd b c inj ga gn gc z w):Calls Tryz.prog 146 #[.pointer (some ⟨b,0,none⟩),.agg #[.int .i64 jk,.int .i64 jl,.int .i64 jd,.int .i64 js,.int .i64 jp,.int .i64 jo,.int .i64 jc,.int .i64 jn]] w (PostR w):=by
 rcases e12:(jk==12) with _|_
 rotate_left
 ·obtain rfl:=eq_of_beq e12;exact computed_12 b c inj ga gn gc z jl jd js jp jo jc jn hR w h
 rcases e13:(jk==13) with _|_
 rotate_left
 ·obtain rfl:=eq_of_beq e13;exact computed_13 b c inj ga gn gc z jl jd js jp jo jc jn hR w h
 rcases e14:(jk==14) with _|_
 rotate_left
 ·obtain rfl:=eq_of_beq e14;exact computed_14 b c inj ga gn gc z jl jd js jp jo jc jn hR w h
 rcases e15:(jk==15) with _|_
 rotate_left
 ·obtain rfl:=eq_of_beq e15;exact computed_15 b c inj ga gn gc z jl jd js jp jo jc jn hR w h
 rcases e16:(jk==16) with _|_
 rotate_left
 ·obtain rfl:=eq_of_beq e16;exact computed_16 b c inj ga gn gc z jl jd js jp jo jc jn hR w h
 rcases e17:(jk==17) with _|_
 rotate_left
 ·obtain rfl:=eq_of_beq e17;exact computed_17 b c inj ga gn gc z jl jd js jp jo jc jn hR w h
 rcases e18:(jk==18) with _|_
 rotate_left
 ·obtain rfl:=eq_of_beq e18;exact computed_18 b c inj ga gn gc z jl jd js jp jo jc jn hR w h
 rcases e19:(jk==19) with _|_
 rotate_left
 ·obtain rfl:=eq_of_beq e19;exact computed_19 b c inj ga gn gc z jl jd js jp jo jc jn hR w h
 rcases e20:(jk==20) with _|_
 rotate_left
 ·obtain rfl:=eq_of_beq e20;exact computed_20 b c inj ga gn gc z jl jd js jp jo jc jn hR w h
 rcases e21:(jk==21) with _|_
 rotate_left
 ·obtain rfl:=eq_of_beq e21;exact computed_21 b c inj ga gn gc z jl jd js jp jo jc jn hR w h
 rcases e22:(jk==22) with _|_
 rotate_left
 ·obtain rfl:=eq_of_beq e22;exact computed_22 b c inj ga gn gc z jl jd js jp jo jc jn hR w h
 rcases e23:(jk==23) with _|_
 rotate_left
 ·obtain rfl:=eq_of_beq e23;exact computed_23 b c inj ga gn gc z jl jd js jp jo jc jn hR w h
 rcases e40:(jk==40) with _|_
 rotate_left
 ·obtain rfl:=eq_of_beq e40;exact computed_40 b c inj ga gn gc z jl jd js jp jo jc jn hR w h
 rcases e41:(jk==41) with _|_
 rotate_left
 ·obtain rfl:=eq_of_beq e41;exact computed_41 b c inj ga gn gc z jl jd js jp jo jc jn hR w h
 rcases e42:(jk==42) with _|_
 rotate_left
 ·obtain rfl:=eq_of_beq e42;exact computed_42 b c inj ga gn gc z jl jd js jp jo jc jn hR w h
 exact computed_no b c inj ga gn gc z jk jl jd js jp jo jc jn e12 e13 e14 e15 e16 e17 e18 e19 e20 e21 e22 e23 e40 e41 e42 hR w h
end
end Go.Proofs.YteggjjhjmhccjaaGreatDoor
