/- Texts that the proofs of the statements on dumps rest on, joined. Conditions stand in each theorem. -/
import Derived.Test.YteggjjhjmhccjaaGreatDoorQ20
set_option linter.unusedVariables false
set_option linter.unusedSimpArgs false
set_option maxRecDepth 100000
set_option maxHeartbeats 8000000
namespace Go.Proofs.YteggjjhjmhccjaaGreatDoor
open Go.ChangeShapes Go.WideShapes Go.ChangeAt Go.RowKit
section
theorem body_32_false:BodyK 32 false:=by
 intro b n N pr c inj ga gn gc z jl jd js jp jo jc jn hj hR hN hC w h ji hji
 obtain ⟨lv,hc,hf,hb,hr⟩:=h.cells
 have hz:∀y∈z,0≤y∧y < 256:=by obtain ⟨_,_,_,_,_,_,_,_,_,_,hz⟩:=h;exact hz
 have H:=Lib.hid h
 have HZ:=Lib.hid hz
 have HR:=Lib.hid hR
 have HC:=Lib.hid hC
 have HJ:=Lib.hid hji
 have Bhl:=Lib.hid (S.pr_bd 2 c.B c.C c.D c.E c.H c.L c.A c.SP c.PC hR)
 have Bde:=Lib.hid (S.pr_bd 1 c.B c.C c.D c.E c.H c.L c.A c.SP c.PC hR)
 clear h hz hR hC hji
 go_enter Tryz.func141,Tryz.ntmps141
 go_wp2_with fail
 refine qt ?_
 repeat (go_big_quiet_step ((go_at_call 148;exact calls_adds (fn_pair _ _ _ _ _ _ _ _ _ _ _ _ _ _ _ _ _ HR.out _))))
 refine qn fun nq osq=> ?_
 try simp only []
 refine bd_forget (fun W=>BdSt b n N pr c inj ga gn gc z w.heap.size (w.heap.size+1) ji W∧Keeps n pr w W) ⟨BdSt.start H.out aD (by simp [go_sem,HJ.out]) (by simp [go_sem]) (by simp [go_sem];omega) (by simp [HJ.out]),Keeps.of_adds aD H.out.low⟩ ?_
 rintro w0 ⟨h0,k0⟩
 clear hc hf hb hr H
 have H:=Lib.hid h0
 have K:=Lib.hid k0
 have hji:=HJ.out
 clear h0 k0 HJ
 subst hji
 generalize w.heap.size+1=br at H⊢
 generalize w.heap.size=bi at H⊢
 have Hhl:=Lib.hid Bhl.out
 have Hde:=Lib.hid Bde.out
 generalize K8.S.pr 2 c.B c.C c.D c.E c.H c.L c.SP=hl at Hhl⊢
 generalize K8.S.pr 1 c.B c.C c.D c.E c.H c.L c.SP=de at Hde⊢
 clear Bhl Bde
 obtain ⟨⟨lv,hc,hf,hb,hr⟩,hi,hri,hbi,hg,hrg,hbr⟩:=H.out.facts
 go_wp2_with (first|(go_at_call 157;refine (wk_get HR.out).mono ?_;rintro e w' ⟨vget,hvget,rfl,⟨⟨nget,osget⟩,rfl⟩⟩)|(go_at_call 148;refine (wk_pair _ HR.out).mono ?_;rintro e w' ⟨vpair,hvpair,rfl,⟨⟨npair,ospair⟩,rfl⟩⟩)|(go_at_call 165;refine (wk_psw HR.out).mono ?_;rintro e w' ⟨vpsw,hvpsw,rfl,⟨⟨npsw,ospsw⟩,rfl⟩⟩)|(go_at_call 166;refine sm (rjoin_any (S.gb_bd HZ.out _).1 (S.gb_bd HZ.out _).2 (S.gb_bd HZ.out _).1 (S.gb_bd HZ.out _).2 _) ?_)|(go_at_call 114;refine sm (on85_is c.Ch _ HC.out) ?_)|(go_at_call 156;refine bdc H K aD (mk_add b n _ (bi::br::pr) c inj ga gn gc z _ ⟨by omega,by omega⟩ (by first|exact w16_bd|exact Hhl.out|exact Hde.out|exact S.gw_bd HZ.out|exact HR.out.sp|exact HR.out.pc|assumption|omega) (by first|exact w8_bd|exact S.gb_bd HZ.out _|exact HR.out.a|exact HR.out.h|exact HR.out.l|assumption|omega) (by omega) _ (H.out.1.keeps aD)) ?_;clear H K hc hf hb hr hi hri hbi hg hrg hbr;intro w1 H K;obtain ⟨⟨lv,hc,hf,hb,hr⟩,hi,hri,hbi,hg,hrg,hbr⟩:=H.out.facts)|(go_at_call 158;refine bdc H K aD (mk_operandss b n _ (bi::br::pr) c inj ga gn gc z (by omega) HR.out.pc (by omega) (H.out.1.keeps aD)) ?_;clear H K hc hf hb hr hi hri hbi hg hrg hbr;intro w1 H K;obtain ⟨⟨lv,hc,hf,hb,hr⟩,hi,hri,hbi,hg,hrg,hbr⟩:=H.out.facts)|(go_at_call 140;refine bdc H K aD (mk_push b n _ (bi::br::pr) c inj ga gn gc z HR.out.sp (by omega) (H.out.1.keeps aD)) ?_;clear H K hc hf hb hr hi hri hbi hg hrg hbr;intro w1 H K;obtain ⟨⟨lv,hc,hf,hb,hr⟩,hi,hri,hbi,hg,hrg,hbr⟩:=H.out.facts)|(go_at_call 164;refine bdc H K aD (mk_pop b n (bi::br::pr) c inj ga gn gc z HR.out.sp (by omega) (H.out.1.keeps aD)) ?_;clear H K hc hf hb hr hi hri hbi hg hrg hbr;intro w1 H K;obtain ⟨⟨lv,hc,hf,hb,hr⟩,hi,hri,hbi,hg,hrg,hbr⟩:=H.out.facts)|(go_at_call 161;refine bdc H K aD (mk_idles b n (bi::br::pr) c inj ga gn gc z (by omega) HR.out.pc (by omega) (H.out.1.keeps aD)) ?_;clear H K hc hf hb hr hi hri hbi hg hrg hbr;intro w1 H K;obtain ⟨⟨lv,hc,hf,hb,hr⟩,hi,hri,hbi,hg,hrg,hbr⟩:=H.out.facts)|(go_at_call 162;refine bdc H K aD (mk_target b n (bi::br::pr) c inj ga gn gc z HR.out.pc (by omega) (H.out.1.keeps aD)) ?_;clear H K hc hf hb hr hi hri hbi hg hrg hbr;intro w1 H K;obtain ⟨⟨lv,hc,hf,hb,hr⟩,hi,hri,hbi,hg,hrg,hbr⟩:=H.out.facts)|(go_at_call 163;refine (mk_taken b n _ (bi::br::pr) c inj ga gn gc z _ _ _ _ _ _ _ _ (H.out.1.keeps aD)).mono ?_;rintro e w' ⟨⟨rt,rfl⟩,⟨⟨nt,ost⟩,rfl⟩⟩)|(go_at_call 143;refine sm (mk_at b n _ (bi::br::pr) c inj ga gn gc z (by omega) _ (H.out.1.keeps aD)) ?_)|(go_at_call 159;refine sm (mk_word b n (bi::br::pr) c inj ga gn gc z (by omega) (by omega) (H.out.1.keeps aD)) ?_)|(go_at_call 147;refine sm (mk_behind b n (bi::br::pr) c inj ga gn gc z (H.out.1.keeps aD)) ?_))
 obtain ⟨g,ln,lc,c30,⟨v3,cv⟩,fz,⟨hb1',hb2'⟩,hM5,hK5⟩:=H.out.1.five
 have e30:some (Value.slice (some ⟨g,0,none⟩) (ln+1) lc)=some lv:=c30.symm.trans (hc 30)
 obtain rfl:=Option.some.inj e30
 have HM5:=Lib.hid hM5
 have HK5:=Lib.hid hK5
 clear hM5 hK5
 have q1:(0:Int)≤(ln:Int):=by omega
 have q2:(ln:Int) < ((ln+1:Nat):Int):=by omega
 go_region
 all_goals
  go_wp2_with fail
  go_end0
  exact ⟨rfl,((MkSt.unprot (ps:=[bi,br]) HM5.out).keeps aD).le (by omega),K.out.trans (HK5.out.drop2.trans (Keeps.of_adds aD HM5.out.low))⟩
theorem body_34 (o:Bool):BodyK 34 o:=bodyD
theorem body_26 (o:Bool):BodyK 26 o:=bodyT
theorem body_27 (o:Bool):BodyK 27 o:=bodyT
theorem body_45 (o:Bool):BodyK 45 o:=bodyT
theorem body_31 (o:Bool):BodyK 31 o:=bodyT
theorem body_21 (o:Bool):BodyK 21 o:=bodyT
theorem body_22 (o:Bool):BodyK 22 o:=bodyT
theorem body_23 (o:Bool):BodyK 23 o:=bodyT
theorem body_28 (o:Bool):BodyK 28 o:=bodyT
theorem body_29 (o:Bool):BodyK 29 o:=bodyT
theorem body_33 (o:Bool):BodyK 33 o:=bodyT
end
end Go.Proofs.YteggjjhjmhccjaaGreatDoor
