/- Texts that the proofs of the statements on dumps rest on, joined. Conditions stand in each theorem. -/
import Derived.Test.YteggjjhjmhccjaaGreatDoorQ01
import Derived.Test.YteggjjhjmhccjaaGreatDoorQ04
import Derived.Test.YteggjjhjmhccjaaGreatDoorQ02
import Derived.Lib.Hide
import Derived.RegionTactic
import Derived.Deep.RegionWith
import Derived.Test.YteggjjhjmhccjaaGreatDoorQ05
import Derived.Test.YteggjjhjmhccjaaGreatDoorQ06
import Derived.Test.YteggjjhjmhccjaaGreatDoorQ03
import Derived.Test.YteggjjhjmhccjaaGreatDoorQ09
import Derived.Test.YteggjjhjmhccjaaGreatDoorQ10
set_option linter.unusedVariables false
set_option linter.unusedSimpArgs false
set_option maxRecDepth 100000
set_option maxHeartbeats 8000000
namespace Go.Proofs.YteggjjhjmhccjaaGreatDoor
open Go.ChangeShapes Go.WideShapes Go.ChangeAt Go.RowKit
section
variable {N b gc gn n:Nat} {c:S.Cp} {ga:Option Addr} {i:Int} {inj:Bool} {pr:List Nat} {w:World} {z:List Int}
def S.gb (z:List Int) (i:Int):Int:=z.getD i.toNat 0
theorem S.gb_bd (h:∀y∈z,0≤y∧y < 256) (i:Int):0≤S.gb z i∧S.gb z i < 256:=by
 unfold S.gb
 by_cases hi:i.toNat < z.length
 ·rw [List.getD_eq_getElem?_getD,List.getElem?_eq_getElem hi];exact h _ (List.getElem_mem hi)
 ·rw [List.getD_eq_getElem?_getD,List.getElem?_eq_none (by omega)];simp
def S.gw (z:List Int) (i:Int):Int:=S.joi (S.gb z (i+1)) (S.gb z i)
theorem S.gw_bd (h:∀y∈z,0≤y∧y < 256):0≤S.gw z i∧S.gw z i < 65536:=
 S.joi_bd (S.gb_bd h _).1 (S.gb_bd h _).2 (S.gb_bd h _).1 (S.gb_bd h _).2
def S.bh (inj:Bool) (pc len:Int):Int:=if inj then pc else (pc+len) % 65536
theorem S.bh_bd {pc len:Int} (h:0≤pc∧pc < 65536):0≤S.bh inj pc len∧S.bh inj pc len < 65536:=by
 unfold S.bh;split<;>omega
def MkSt (b n N:Nat) (pr:List Nat) (c:S.Cp) (inj:Bool) (ga:Option Addr) (gn gc:Nat) (z:List Int) (w:World):Prop:=
 ∃lv d,w.heap[b]? =some (.cells #[.int .i64 c.Ch,.int .u8 c.A,.int .u8 c.B,.int .u8 c.C,.int .u8 c.D,.int .u8 c.E,.int .u8 c.H,.int .u8 c.L,.bool c.fS,.bool c.fZ,.bool c.fK,.bool c.fAC,.bool c.fP,.bool c.fV,.bool c.fCY,.int .u16 c.SP,.int .u16 c.PC,.bool c.IE,.bool c.De,.bool c.Ha,.int .u8 c.Ma,.bool c.Tr,.bool c.R7,.bool c.WT,.bool c.W7,.bool c.Sa,.bool c.SI,.bool c.SO,.bool inj,.slice ga gn gc,lv] 222 (0,0))∧OwnsC w n lv d∧(∀x∈d,x.Ok)∧(1≤d.length∧d.length≤N)∧(n≤b∧lv.ownBlock≠some b∧b∉pr)∧(∀k∈pr,lv.ownBlock≠some k∧k < w.heap.size)∧LowG csB n w ga gn z∧gn≤gc∧(∀y∈z,0≤y∧y < 256)
theorem MkSt.cells (h:MkSt b n N pr c inj ga gn gc z w):
 ∃lv,(∀i,w.cell? ⟨b,i,none⟩=(#[.int .i64 c.Ch,.int .u8 c.A,.int .u8 c.B,.int .u8 c.C,.int .u8 c.D,.int .u8 c.E,.int .u8 c.H,.int .u8 c.L,.bool c.fS,.bool c.fZ,.bool c.fK,.bool c.fAC,.bool c.fP,.bool c.fV,.bool c.fCY,.int .u16 c.SP,.int .u16 c.PC,.bool c.IE,.bool c.De,.bool c.Ha,.int .u8 c.Ma,.bool c.Tr,.bool c.R7,.bool c.WT,.bool c.W7,.bool c.Sa,.bool c.SI,.bool c.SO,.bool inj,.slice ga gn gc,lv]:Array Value)[i]?)∧(∀i,w.frozen? ⟨b,i,none⟩=false)∧b < w.heap.size∧rowOf w b=#[.int .i64 c.Ch,.int .u8 c.A,.int .u8 c.B,.int .u8 c.C,.int .u8 c.D,.int .u8 c.E,.int .u8 c.H,.int .u8 c.L,.bool c.fS,.bool c.fZ,.bool c.fK,.bool c.fAC,.bool c.fP,.bool c.fV,.bool c.fCY,.int .u16 c.SP,.int .u16 c.PC,.bool c.IE,.bool c.De,.bool c.Ha,.int .u8 c.Ma,.bool c.Tr,.bool c.R7,.bool c.WT,.bool c.W7,.bool c.Sa,.bool c.SI,.bool c.SO,.bool inj,.slice ga gn gc,lv]:=by
 obtain ⟨lv,d,hh,_⟩:=h
 exact ⟨lv,fun i=>cell_of_row w b i _ _ (0,0) hh,fun i=>frozen_of_row w b i _ _ hh,(Array.getElem?_eq_some_iff.1 hh).1,by unfold rowOf;rw [hh];rfl⟩
theorem MkSt.keeps {w':World} (h:MkSt b n N pr c inj ga gn gc z w) (k:Adds w w'):MkSt b n N pr c inj ga gn gc z w':=by
 obtain ⟨lv,d,hh,ho,h1,h2,h3,h4,h5,h6,h7⟩:=h
 have hb:b < w.heap.size:=(Array.getElem?_eq_some_iff.1 hh).1
 refine ⟨lv,d,(k.below.block b hb).trans hh,ho.adds k,h1,h2,h3,fun x hx=>⟨(h4 x hx).1,by have:=(h4 x hx).2;have:=k.size;omega⟩,⟨h5.1.adds k,h5.2⟩,h6,h7⟩
theorem MkSt.drew (h:MkSt b n N pr c inj ga gn gc z w):MkSt b n N pr c inj ga gn gc z w.drew:=h.keeps aD
theorem MkSt.more (h:MkSt b n N pr c inj ga gn gc z w) (m:Nat) (os:Array Obj):MkSt b n N pr c inj ga gn gc z (More w m os):=h.keeps aD
theorem MkSt.le {M:Nat} (h:MkSt b n N pr c inj ga gn gc z w) (k:N≤M):MkSt b n M pr c inj ga gn gc z w:=by
 obtain ⟨lv,d,hh,ho,h1,h2,h3⟩:=h
 exact ⟨lv,d,hh,ho,h1,by omega,h3⟩
theorem mk_at (b n N:Nat) (pr:List Nat) (c:S.Cp) (inj:Bool) (ga:Option Addr) (gn gc:Nat) (z:List Int) (i0:0≤i) (w:World) (h:MkSt b n N pr c inj ga gn gc z w):
 Calls Tryz.prog 143 #[.pointer (some ⟨b,0,none⟩),.int .i64 i] w fun e w'=>e=.returned (.int .u8 (S.gb z i))∧w=w':=by
 obtain ⟨lv,hc,hf,hb,_⟩:=h.cells
 obtain ⟨_,_,_,_,_,_,_,_,hL,hgc,_⟩:=h
 obtain ⟨k,rfl⟩:∃k:Nat,i=(k:Int):=⟨i.toNat,by omega⟩
 have hlen:=Lib.hid hL.1.1
 have hl62:=hL.1.2.1
 have c29:=hc 29
 simp only [List.getElem?_toArray,List.getElem?_cons_succ,List.getElem?_cons_zero] at c29
 by_cases hk:k < gn
 ·obtain ⟨bb,o,rfl,hbb,hat⟩:=hL.1.2.2 (by omega)
  have hx:=AtB.el hat (j:=k) (by have:=hlen.out;omega)
  have hz:S.gb z (k:Int)=z.getD k 0:=rfl
  rw [hz]
  clear hat hL hc
  have q:(k:Int) < (gn:Int):=by omega
  go_enter Tryz.func143,Tryz.ntmps143
  go_wp2_with fail
  go_ret
  exact ⟨rfl,rfl⟩
 ·have hz:S.gb z (k:Int)=0:=by
   unfold S.gb
   rw [List.getD_eq_getElem?_getD,List.getElem?_eq_none (by have:=hlen.out;simp;omega)];rfl
  rw [hz]
  clear hL hc
  have q:¬(k:Int) < (gn:Int):=by omega
  go_enter Tryz.func143,Tryz.ntmps143
  go_wp2_with fail
  go_ret
  exact ⟨rfl,rfl⟩
theorem mk_word (b n:Nat) (pr:List Nat) (c:S.Cp) (inj:Bool) (ga:Option Addr) (gn gc:Nat) (z:List Int) (i0:0≤i) (i1:i≤1000) (h:MkSt b n N pr c inj ga gn gc z w):
 Calls Tryz.prog 159 #[.pointer (some ⟨b,0,none⟩),.int .i64 i] w fun e w'=>e=.returned (.int .u16 (S.gw z i))∧w=w':=by
 obtain ⟨lv,_,_,hb,_⟩:=h.cells
 have H:=Lib.hid h
 have hz:∀y∈z,0≤y∧y < 256:=by obtain ⟨_,_,_,_,_,_,_,_,_,_,hz⟩:=h;exact hz
 have HZ:=Lib.hid hz
 clear h hz
 go_enter Tryz.func159,Tryz.ntmps159
 go_wp2_with (first|(go_at_call 143;refine sm (mk_at b n N pr c inj ga gn gc z (by omega) w H.out) ?_)|(go_at_call 166;refine sm (rjoin_any (S.gb_bd HZ.out _).1 (S.gb_bd HZ.out _).2 (S.gb_bd HZ.out _).1 (S.gb_bd HZ.out _).2 w) ?_))
 go_ret
 exact ⟨rfl,rfl⟩
theorem mk_behind (b n:Nat) (pr:List Nat) (c:S.Cp) (inj:Bool) (ga:Option Addr) (gn gc:Nat) (z:List Int) {l:Int} (h:MkSt b n N pr c inj ga gn gc z w):
 Calls Tryz.prog 147 #[.pointer (some ⟨b,0,none⟩),.int .i64 l] w fun e w'=>e=.returned (.int .u16 (S.bh inj c.PC l))∧w=w':=by
 obtain ⟨lv,hc,hf,hb,_⟩:=h.cells
 clear h
 cases inj
 all_goals
  go_enter Tryz.func147,Tryz.ntmps147
  go_wp2_with fail
  go_ret
  exact ⟨ri (by simp [S.bh,IntKind.wrap,IntKind.bits,IntKind.signed]),rfl⟩
theorem mk_taken (b n N:Nat) (pr:List Nat) (c:S.Cp) (inj:Bool) (ga:Option Addr) (gn gc:Nat) (z:List Int) (jk jl jd js jp jo jc jn:Int) (h:MkSt b n N pr c inj ga gn gc z w):
 Calls Tryz.prog 163 #[.pointer (some ⟨b,0,none⟩),.agg #[.int .i64 jk,.int .i64 jl,.int .i64 jd,.int .i64 js,.int .i64 jp,.int .i64 jo,.int .i64 jc,.int .i64 jn]] w fun e w'=>(∃r:Bool,e=.returned (.bool r))∧Adds w w':=by
 obtain ⟨lv,hc,hf,hb,_⟩:=h.cells
 clear h
 go_enter Tryz.func163,Tryz.ntmps163
 go_wp2_with fail
 go_region_with (go_at_call 184;refine ad (K8.rholds_any) fun n1 os1=> ?_)
 all_goals go_wp2_with fail
 all_goals
  go_ret
  exact ⟨⟨_,rfl⟩,aD⟩
def MkPost (b n N:Nat) (pr:List Nat) (c:S.Cp) (inj:Bool) (ga:Option Addr) (gn gc:Nat) (z:List Int) (w:World) (e:Ending) (w':World):Prop:=
 e=.returned (.tuple #[])∧MkSt b n N pr c inj ga gn gc z w'∧Keeps n pr w w'
theorem mk_add (b n N:Nat) (pr:List Nat) (c:S.Cp) (inj:Bool) (ga:Option Addr) (gn gc:Nat) (z:List Int) (k:Int) {a d:Int} (hk:1≤k∧k≤12) (ha:0≤a∧a < 65536) (hd:0≤d∧d < 256) (hN:N≤1000) (w:World) (h:MkSt b n N pr c inj ga gn gc z w):
 Calls Tryz.prog 156 #[.pointer (some ⟨b,0,none⟩),.int .i64 k,.int .u16 a,.int .u8 d] w (MkPost b n (N+1) pr c inj ga gn gc z w):=by
 obtain ⟨lv,l,hh,ho,h1,h2,⟨h3,h3b,h3c⟩,h4,h5,h6,h7⟩:=h
 have hb:b < w.heap.size:=(Array.getElem?_eq_some_iff.1 hh).1
 have c30:w.cell? ⟨b,30,none⟩=some lv:=by rw [cell_of_row w b 30 _ _ (0,0) hh];rfl
 have hf:∀i,w.frozen? ⟨b,i,none⟩=false:=fun i=>frozen_of_row w b i _ _ hh
 obtain ⟨la,ln,lc,rfl,hln,hl1,hl2, -, -⟩:=ho.form2
 have hll:=Lib.hid hln.out
 have HO:=Lib.hid ho
 have HH:=Lib.hid hh
 clear ho hh hln
 have H1:=Lib.hid h1
 have H4:=Lib.hid h4
 have H5:=Lib.hid h5
 have H3:=Lib.hid h3b
 clear h1 h4 h5 h3b
 have hln2:ln≤1000:=by have:=hll.out;omega
 go_enter Tryz.func156,Tryz.ntmps156
 go_wp2_with (at_builtin;refine wpList_appC1_at rfl _ _ rfl n (.slice la ln lc) _ rfl ⟨k,a,d,3⟩ _ _ w.heap.size rfl rfl rfl HO.out (by have:=hll.out;omega) (by omega) ?_;intro v' w' hO' hG' hN';have hc':w'.cell? ⟨b,30,none⟩=some (.slice la ln lc):=(World.cell?_of_block (hG'.block b hb (fun e=>H3.out e.symm))).trans c30;have hf':w'.frozen? ⟨b,30,none⟩=false:=(World.frozen?_of_block (hG'.block b hb (fun e=>H3.out e.symm))).trans (hf 30);obtain ⟨va,vn,vc,rfl, -, -, -, -, -⟩:=hO'.form2;have HO':=Lib.hid hO';have HG':=Lib.hid hG';have HN':=Lib.hid hN';clear hO' hG' hN')
 go_end0
 have hG:=HG'.out
 have hO:=HO'.out
 have hN':=HN'.out
 have hsz:=hG.size
 have hlow:=HO.out
 have hrow:∀g,(Value.slice la ln lc).ownBlock=some g→n≤g:=fun g e=>(World.ownsRow.lt hlow g e).1
 have hh':w'.heap[b]? =_:=(hG.block b hb (fun e=>H3.out e.symm)).trans HH.out
 have K1:Keeps n pr w w':=Keeps.of_grown hG (by omega) (fun g e=>⟨hrow g e,fun hp=>(H4.out g hp).1 e⟩)
 have K2:Keeps n pr w' (w'.setCell ⟨b,30,none⟩ (.slice va vn vc)):=Keeps.setCell w' b 30 _ h3 h3c
 have hvb:(Value.slice va vn vc).ownBlock≠some b:=fun e=>by
  rcases hN' b e with q|q
  ·exact H3.out q
  ·omega
 refine ⟨rfl,⟨.slice va vn vc,l++[⟨k,a,d,3⟩],?_,?_,?_,⟨by simp,by simp;omega⟩,⟨h3,hvb,h3c⟩,fun x hx=>⟨fun e=> ?_,?_⟩,H5.out.keeps (K1.trans K2),h6,h7⟩,K1.trans K2⟩
 ·exact heap_setCell_same w' b 30 _ _ _ hh'
 ·exact hO.kept2 (row:=some b) ⟨rfl,rfl,rfl,by simp,fun i _ hi=>heap_setCell_other w' ⟨b,30,none⟩ i _ (fun e=>hi (by simp [e]))⟩ (.inr hvb)
 ·intro x hx
  rcases List.mem_append.1 hx with hx|hx
  ·exact H1.out x hx
  ·simp at hx;subst hx;exact ⟨hk,ha,hd,by show (3:Int)≤3∧(3:Int)≤6;omega⟩
 ·rcases hN' x e with q|q
  ·exact (H4.out x hx).1 q
  ·have:=(H4.out x hx).2;omega
 ·have:=(H4.out x hx).2;simp;omega
end
section
variable {N:Nat} {k n:Int} {w:World}
theorem w16_bd:0≤IntKind.u16.wrap n∧IntKind.u16.wrap n < 65536:=by simp [IntKind.wrap,IntKind.bits,IntKind.signed];omega
theorem w8_bd:0≤IntKind.u8.wrap n∧IntKind.u8.wrap n < 256:=by simp [IntKind.wrap,IntKind.bits,IntKind.signed];omega
theorem mk_push (b n N:Nat) (pr:List Nat) (c:S.Cp) (inj:Bool) (ga:Option Addr) (gn gc:Nat) (z:List Int) {v:Int} (hP:0≤c.SP∧c.SP < 65536) (hN:N≤900) (h:MkSt b n N pr c inj ga gn gc z w):
 Calls Tryz.prog 140 #[.pointer (some ⟨b,0,none⟩),.int .u16 v] w (MkPost b n (N+2) pr c inj ga gn gc z w):=by
 obtain ⟨lv,hc,hf,hb,_⟩:=h.cells
 have H:=Lib.hid h
 clear h
 go_enter Tryz.func140,Tryz.ntmps140
 go_wp2_with (first|(go_at_call 156;(with_reducible refine (mk_add b n (N+1) pr c inj ga gn gc z 5 ⟨by omega,by omega⟩ (by first|exact w16_bd|omega|assumption) (by first|exact w8_bd|omega|assumption) (by omega) w1 H1.out).mono ?_);rintro e w2 ⟨rfl,h',k'⟩;obtain ⟨lv',hc2,hf2,hb2,_⟩:=h'.cells;have H2:=Lib.hid h';have K2:=Lib.hid k';clear h' k')|(go_at_call 156;(with_reducible refine (mk_add b n N pr c inj ga gn gc z 5 ⟨by omega,by omega⟩ (by first|exact w16_bd|omega|assumption) (by first|exact w8_bd|omega|assumption) (by omega) w H.out).mono ?_);rintro e w1 ⟨rfl,h',k'⟩;obtain ⟨lv',hc1,hf1,hb1,_⟩:=h'.cells;have H1:=Lib.hid h';have K1:=Lib.hid k';clear h' k'))
 go_end0
 exact ⟨rfl,H2.out,K1.out.trans K2.out⟩
theorem mk_pop (b n:Nat) (pr:List Nat) (c:S.Cp) (inj:Bool) (ga:Option Addr) (gn gc:Nat) (z:List Int) (hP:0≤c.SP∧c.SP < 65536) (hN:N≤900) (h:MkSt b n N pr c inj ga gn gc z w):
 Calls Tryz.prog 164 #[.pointer (some ⟨b,0,none⟩)] w (MkPost b n (N+2) pr c inj ga gn gc z w):=by
 obtain ⟨lv,hc,hf,hb,_⟩:=h.cells
 have H:=Lib.hid h
 clear h
 go_enter Tryz.func164,Tryz.ntmps164
 go_wp2_with (first|(go_at_call 156;(with_reducible refine (mk_add b n (N+1) pr c inj ga gn gc z 4 ⟨by omega,by omega⟩ (by first|exact w16_bd|omega|assumption) (by first|exact w8_bd|omega|assumption) (by omega) w1 H1.out).mono ?_);rintro e w2 ⟨rfl,h',k'⟩;obtain ⟨lv',hc2,hf2,hb2,_⟩:=h'.cells;have H2:=Lib.hid h';have K2:=Lib.hid k';clear h' k')|(go_at_call 156;(with_reducible refine (mk_add b n N pr c inj ga gn gc z 4 ⟨by omega,by omega⟩ (by first|exact w16_bd|omega|assumption) (by first|exact w8_bd|omega|assumption) (by omega) w H.out).mono ?_);rintro e w1 ⟨rfl,h',k'⟩;obtain ⟨lv',hc1,hf1,hb1,_⟩:=h'.cells;have H1:=Lib.hid h';have K1:=Lib.hid k';clear h' k'))
 go_end0
 exact ⟨rfl,H2.out,K1.out.trans K2.out⟩
theorem mk_idle (b n N:Nat) (pr:List Nat) (c:S.Cp) (inj:Bool) (ga:Option Addr) (gn gc:Nat) (z:List Int) (m:Nat) (hm:m≤2) (hP:0≤c.PC∧c.PC < 65536) (hN:N≤900) (w:World) (h:MkSt b n N pr c inj ga gn gc z w):
 Calls Tryz.prog 161 #[.pointer (some ⟨b,0,none⟩),.int .i64 (m:Int)] w (MkPost b n (N+2) pr c inj ga gn gc z w):=by
 have H:=Lib.hid h
 clear h
 go_enter Tryz.func161,Tryz.ntmps161
 go_wp2_with fail
 go_loopw [4] (fun v wr=>∃k:Nat,v=.int .i64 (k:Int)∧k≤m∧Hid (MkSt b n (N+k) pr c inj ga gn gc z wr)∧Hid (Keeps n pr w wr)) (fun v _=>m - (intOf v).toNat)
 case atStart=>exact ⟨0,rfl,by omega,H.out,Keeps.refl _ _ _⟩
 case round=>
  obtain ⟨k,rfl,hk,HM,HK⟩:=hrel
  obtain ⟨lv,hc,hf,hb,_⟩:=HM.out.cells
  by_cases hlt:k < m
  ·have q:(k:Int) < (m:Int):=by omega
   go_wp2_with ((go_at_call 156;(with_reducible refine (mk_add b n (N+k) pr c inj ga gn gc z 11 ⟨by omega,by omega⟩ (by first|exact w16_bd|omega|assumption) (by first|exact w8_bd|omega|assumption) (by omega) wr HM.out).mono ?_);rintro e w1 ⟨rfl,h',k'⟩;obtain ⟨lv',hc1,hf1,hb1,_⟩:=h'.cells;have H1:=Lib.hid h';have K1:=Lib.hid k';clear h' k'))
   go_roundw
   case rel=>exact ⟨k+1,rfl,by omega,H1.out,HK.out.trans K1.out⟩
   case measure=>simp [intOf];omega
  ·have q:¬(k:Int) < (m:Int):=by omega
   go_wp2_with fail
   go_end0
   exact ⟨rfl,HM.out.le (by omega),HK.out⟩
theorem mk_idles (b n:Nat) (pr:List Nat) (c:S.Cp) (inj:Bool) (ga:Option Addr) (gn gc:Nat) (z:List Int) (hk:0≤k∧k≤2) (hP:0≤c.PC∧c.PC < 65536) (hN:N≤900) (h:MkSt b n N pr c inj ga gn gc z w):
 Calls Tryz.prog 161 #[.pointer (some ⟨b,0,none⟩),.int .i64 k] w (MkPost b n (N+2) pr c inj ga gn gc z w):=by
 obtain ⟨m,rfl⟩:∃m:Nat,k=(m:Int):=⟨k.toNat,by omega⟩
 exact mk_idle b n N pr c inj ga gn gc z m (by omega) hP hN w h
theorem mk_operands (b n N:Nat) (pr:List Nat) (c:S.Cp) (inj:Bool) (ga:Option Addr) (gn gc:Nat) (z:List Int) (m:Nat) (hm:m≤2) (hP:0≤c.PC∧c.PC < 65536) (hN:N≤900) (w:World) (h:MkSt b n N pr c inj ga gn gc z w):
 Calls Tryz.prog 158 #[.pointer (some ⟨b,0,none⟩),.int .i64 (m:Int)] w (MkPost b n (N+2) pr c inj ga gn gc z w):=by
 have H:=Lib.hid h
 clear h
 go_enter Tryz.func158,Tryz.ntmps158
 go_wp2_with fail
 go_loopw [4] (fun v wr=>∃k:Nat,v=.int .i64 (k:Int)∧(1≤k∧k≤m+1)∧Hid (MkSt b n (N+(k - 1)) pr c inj ga gn gc z wr)∧Hid (Keeps n pr w wr)) (fun v _=>m+1 - (intOf v).toNat)
 case atStart=>exact ⟨1,rfl,by omega,H.out,Keeps.refl _ _ _⟩
 case round=>
  obtain ⟨k,rfl,⟨hk0,hk⟩,HM,HK⟩:=hrel
  obtain ⟨lv,hc,hf,hb,_⟩:=HM.out.cells
  by_cases hlt:k≤m
  ·have q:(k:Int)≤(m:Int):=by omega
   cases inj
   all_goals
    go_wp2_with (first|(go_at_call 156;(with_reducible refine (mk_add b n (N+(k - 1)) pr c true ga gn gc z 9 ⟨by omega,by omega⟩ (by first|exact w16_bd|omega|assumption) (by first|exact w8_bd|omega|assumption) (by omega) wr HM.out).mono ?_);rintro e w1 ⟨rfl,h',k'⟩;obtain ⟨lv',hc1,hf1,hb1,_⟩:=h'.cells;have H1:=Lib.hid h';have K1:=Lib.hid k';clear h' k')|(go_at_call 156;(with_reducible refine (mk_add b n (N+(k - 1)) pr c false ga gn gc z 2 ⟨by omega,by omega⟩ (by first|exact w16_bd|omega|assumption) (by first|exact w8_bd|omega|assumption) (by omega) wr HM.out).mono ?_);rintro e w1 ⟨rfl,h',k'⟩;obtain ⟨lv',hc1,hf1,hb1,_⟩:=h'.cells;have H1:=Lib.hid h';have K1:=Lib.hid k';clear h' k'))
    go_roundw
    case rel=>exact ⟨k+1,rfl,by omega,H1.out.le (by omega),HK.out.trans K1.out⟩
    case measure=>simp [intOf];omega
  ·have q:¬(k:Int)≤(m:Int):=by omega
   go_wp2_with fail
   go_end0
   exact ⟨rfl,HM.out.le (by omega),HK.out⟩
theorem mk_operandss (b n N:Nat) (pr:List Nat) (c:S.Cp) (inj:Bool) (ga:Option Addr) (gn gc:Nat) (z:List Int) (hk:0≤k∧k≤2) (hP:0≤c.PC∧c.PC < 65536) (hN:N≤900) (h:MkSt b n N pr c inj ga gn gc z w):
 Calls Tryz.prog 158 #[.pointer (some ⟨b,0,none⟩),.int .i64 k] w (MkPost b n (N+2) pr c inj ga gn gc z w):=by
 obtain ⟨m,rfl⟩:∃m:Nat,k=(m:Int):=⟨k.toNat,by omega⟩
 exact mk_operands b n N pr c inj ga gn gc z m (by omega) hP hN w h
theorem mk_target (b n:Nat) (pr:List Nat) (c:S.Cp) (inj:Bool) (ga:Option Addr) (gn gc:Nat) (z:List Int) {jk jl jd js jp jo jc jn:Int} (hP:0≤c.PC∧c.PC < 65536) (hN:N≤900) (h:MkSt b n N pr c inj ga gn gc z w):
 Calls Tryz.prog 162 #[.pointer (some ⟨b,0,none⟩),.agg #[.int .i64 jk,.int .i64 jl,.int .i64 jd,.int .i64 js,.int .i64 jp,.int .i64 jo,.int .i64 jc,.int .i64 jn]] w (MkPost b n (N+2) pr c inj ga gn gc z w):=by
 obtain ⟨lv,hc,hf,hb,_⟩:=h.cells
 have H:=Lib.hid h
 have hnw:n≤w.heap.size:=by obtain ⟨_,_,hh,_,_,_,h3,_⟩:=h;have:=(Array.getElem?_eq_some_iff.1 hh).1;omega
 clear h
 rcases hch:(c.Ch==2) with _|_
 ·have HC:=Lib.hid hch
  clear hch
  go_enter Tryz.func162,Tryz.ntmps162
  go_wp2_with (first|(go_at_call 114;refine sm (on85_is _ false HC.out) ?_)|(go_at_call 158;(with_reducible refine (mk_operandss b n N pr c inj ga gn gc z (by omega) hP (by omega) (H.out.keeps aD)).mono ?_);rintro e w1 ⟨rfl,h',k'⟩;have H1:=Lib.hid h';have K1:=Lib.hid k';clear h' k'))
  go_end0
  exact ⟨rfl,H1.out,(Keeps.of_adds aD hnw).trans K1.out⟩
 ·have HC:=Lib.hid hch
  clear hch
  go_enter Tryz.func162,Tryz.ntmps162
  go_wp2_with (first|(go_at_call 114;refine sm (on85_is _ true HC.out) ?_)|(go_at_call 163;(with_reducible refine (mk_taken b n N pr c inj ga gn gc z jk jl jd js jp jo jc jn (H.out.keeps aD)).mono ?_);rintro e w' ⟨⟨r,rfl⟩,⟨⟨n1,os1⟩,rfl⟩⟩)|(go_at_call 158;(with_reducible refine (mk_operandss b n N pr c inj ga gn gc z (by omega) hP (by omega) (H.out.keeps aD)).mono ?_);rintro e w1 ⟨rfl,h',k'⟩;have H1:=Lib.hid h';have K1:=Lib.hid k';clear h' k'))
  all_goals
   go_end0
   exact ⟨rfl,H1.out.le (by omega),(Keeps.of_adds aD hnw).trans K1.out⟩
end
namespace K8
theorem rdo_any (c op a b:Int) (s z k ac p v cy:Bool) (a0:0≤a) (a1:a < 256) (b0:0≤b) (b1:b < 256) (w:World):Calls Tryz.prog 170 #[.int .i64 c,.int .i64 op,.int .u8 a,.int .u8 b,.agg #[.bool s,.bool z,.bool k,.bool ac,.bool p,.bool v,.bool cy]] w fun e w'=>e=.returned (.tuple #[.int .u8 (S.aX op a b cy),.agg #[.bool (S.has (S.aR op a b cy) 7),.bool (S.aR op a b cy==0),.bool (S.aK c op a b cy),.bool (S.aH c op a b cy),.bool (S.par (S.aR op a b cy)),.bool (S.aV c op a b cy),.bool (S.aO op a b cy)]])∧Adds w w':=by
 by_cases hc:c=2
 ·subst hc
  rcases (by omega:op % 8=0∨op % 8=1∨op % 8=2∨op % 8=3∨op % 8=4∨op % 8=5∨op % 8=6∨op % 8=7) with h|h|h|h|h|h|h|h
  ·exact rdo85_0 op a b s z k ac p v cy a0 a1 b0 b1 h w
  ·exact rdo85_1 op a b s z k ac p v cy a0 a1 b0 b1 h w
  ·exact rdo85_2 op a b s z k ac p v cy a0 a1 b0 b1 h w
  ·exact rdo85_3 op a b s z k ac p v cy a0 a1 b0 b1 h w
  ·exact rdo85_4 op a b s z k ac p v cy a0 a1 b0 b1 h w
  ·exact rdo85_5 op a b s z k ac p v cy a0 a1 b0 b1 h w
  ·exact rdo85_6 op a b s z k ac p v cy a0 a1 b0 b1 h w
  ·exact rdo85_7 op a b s z k ac p v cy a0 a1 b0 b1 h w
 ·rcases (by omega:op % 8=0∨op % 8=1∨op % 8=2∨op % 8=3∨op % 8=4∨op % 8=5∨op % 8=6∨op % 8=7) with h|h|h|h|h|h|h|h
  ·exact rdo80_0 c op a b s z k ac p v cy hc a0 a1 b0 b1 h w
  ·exact rdo80_1 c op a b s z k ac p v cy hc a0 a1 b0 b1 h w
  ·exact rdo80_2 c op a b s z k ac p v cy hc a0 a1 b0 b1 h w
  ·exact rdo80_3 c op a b s z k ac p v cy hc a0 a1 b0 b1 h w
  ·exact rdo80_4 c op a b s z k ac p v cy hc a0 a1 b0 b1 h w
  ·exact rdo80_5 c op a b s z k ac p v cy hc a0 a1 b0 b1 h w
  ·exact rdo80_6 c op a b s z k ac p v cy hc a0 a1 b0 b1 h w
  ·exact rdo80_7 c op a b s z k ac p v cy hc a0 a1 b0 b1 h w
end K8
section
variable {i j:S.Ins} {op:Int} {w:World}
theorem special_is (r:Bool) (h:S.spB op=r) (hi:S.spI op=i):Calls Tryz.prog 137 #[.int .u8 op] w fun e w'=>e=.returned (.tuple #[.agg i.cs,.bool r])∧Adds w w':=h▸hi▸special_any op w
theorem low_is (op:Int) (h:S.low (op / 8 % 8) (op % 8)=i):Calls Tryz.prog 138 #[.int .i64 (op / 8 % 8),.int .i64 (op % 8),.int .i64 (op / 8 % 8 / 2),.int .i64 (op / 8 % 2)] w fun e w'=>e=.returned (.agg i.cs)∧Adds w w':=(by omega:op / 8 % 8 % 2=op / 8 % 2)▸h▸low_any (by omega) (by omega) (by omega) (by omega) w
theorem high_is (op:Int) (h:S.high (op / 8 % 8) (op % 8)=i):Calls Tryz.prog 139 #[.int .i64 (op / 8 % 8),.int .i64 (op % 8),.int .i64 (op / 8 % 8 / 2),.int .i64 (op / 8 % 2)] w fun e w'=>e=.returned (.agg i.cs)∧Adds w w':=(by omega:op / 8 % 8 % 2=op / 8 % 2)▸h▸high_any (by omega) (by omega) (by omega) (by omega) w
theorem dec9_sp (ch op:Int) (hc:(ch==2)=true) (hb:S.spB op=true) (hi:S.spI op=i) (w:World):Calls Tryz.prog 113 #[.int .i64 ch,.int .u8 op] w fun e w'=>e=.returned (.agg i.cs)∧Adds w w':=by
 have HC:=Lib.hid hc
 have HB:=Lib.hid hb
 have HI:=Lib.hid hi
 clear hc hb hi
 obtain ⟨k,l,d,s,p,o,c,n⟩:=i
 simp only [S.Ins.cs]
 go_enter Tryz.func113,Tryz.ntmps113
 go_wp2_with (first|(go_at_call 137;refine ad (special_is true HB.out HI.out) fun n1 os1=> ?_;simp only [S.Ins.cs])|(go_at_call 114;refine sm (on85_is ch true HC.out) ?_))
 exact bodyPost_ret (ret_Instr Tryz.results113 rfl (by simp [go_sem]) rfl) rfl ⟨rfl,aD⟩
theorem dec9_low_false_false (ch op:Int) (hc:(ch==2)=false) (hb:S.spB op=false) (hi:S.spI op=i) (hj:S.low (op / 8 % 8) (op % 8)=j) (h0:(op / 64==0)=true) (o0:0≤op) (o1:op≤255) (w:World):Calls Tryz.prog 113 #[.int .i64 ch,.int .u8 op] w fun e w'=>e=.returned (.agg (S.ins ch op).cs)∧Adds w w':=by
 have HH:Hid ((S.spB op && ch==2)=false):=Lib.hid (by rw [hb,hc];rfl)
 have HC:=Lib.hid hc
 have HB:=Lib.hid hb
 have HI:=Lib.hid hi
 have HJ:=Lib.hid hj
 have H0:=Lib.hid h0
 clear hc hb hi hj
 obtain ⟨k,l,d,s,p,o,c,n⟩:=i
 obtain ⟨jk,jl,jd,js,jp,jo,jc,jn⟩:=j
 have hq:bits .and .i64 (op / 8 % 8) 1=op / 8 % 2:=by rw [K8.S.ones_and _ 1 1 (by decide) (by decide)];show op / 8 % 8 % 2=_;omega
 go_enter Tryz.func113,Tryz.ntmps113
 go_wp2_with (first|(go_at_call 137;refine ad (special_is false HB.out HI.out) fun n1 os1=> ?_;simp only [S.Ins.cs])|(go_at_call 114;refine sm (on85_is ch false HC.out) ?_)|(go_at_call 138;refine ad (low_is op HJ.out) fun n2 os2=> ?_;simp only [S.Ins.cs]))
 have g:=(S.ins_low ch op HH.out H0.out).trans HJ.out
 exact bodyPost_ret (v:=.agg #[.int .i64 jk,.int .i64 jl,.int .i64 jd,.int .i64 js,.int .i64 jp,.int .i64 jo,.int .i64 jc,.int .i64 jn]) (ret_Instr Tryz.results113 rfl (by simp [go_sem]) rfl) rfl ⟨by rw [g];rfl,aD⟩
theorem dec9_hlt_false_false (ch op:Int) (hc:(ch==2)=false) (hb:S.spB op=false) (hi:S.spI op=i) (h0:(op / 64==0)=false) (h1:(op / 64==1)=true) (h2:(op==118)=true) (o0:0≤op) (o1:op≤255) (w:World):Calls Tryz.prog 113 #[.int .i64 ch,.int .u8 op] w fun e w'=>e=.returned (.agg (S.ins ch op).cs)∧Adds w w':=by
 have HH:Hid ((S.spB op && ch==2)=false):=Lib.hid (by rw [hb,hc];rfl)
 have HC:=Lib.hid hc
 have HB:=Lib.hid hb
 have HI:=Lib.hid hi
 have H0:=Lib.hid h0
 have H1:=Lib.hid h1
 have H2:=Lib.hid h2
 clear hc hb hi
 obtain ⟨k,l,d,s,p,o,c,n⟩:=i
 have hq:bits .and .i64 (op / 8 % 8) 1=op / 8 % 2:=by rw [K8.S.ones_and _ 1 1 (by decide) (by decide)];show op / 8 % 8 % 2=_;omega
 go_enter Tryz.func113,Tryz.ntmps113
 go_wp2_with (first|(go_at_call 137;refine ad (special_is false HB.out HI.out) fun n1 os1=> ?_;simp only [S.Ins.cs])|(go_at_call 114;refine sm (on85_is ch false HC.out) ?_))
 have g:=S.ins_hlt ch op HH.out H2.out
 exact bodyPost_ret (v:=.agg #[.int .i64 37,.int .i64 1,.int .i64 0,.int .i64 0,.int .i64 0,.int .i64 0,.int .i64 0,.int .i64 0]) (ret_Instr Tryz.results113 rfl (by simp [go_sem]) rfl) rfl ⟨by rw [g];rfl,aD⟩
theorem dec9_mov_false_false (ch op:Int) (hc:(ch==2)=false) (hb:S.spB op=false) (hi:S.spI op=i) (h0:(op / 64==0)=false) (h1:(op / 64==1)=true) (h2:(op==118)=false) (o0:0≤op) (o1:op≤255) (w:World):Calls Tryz.prog 113 #[.int .i64 ch,.int .u8 op] w fun e w'=>e=.returned (.agg (S.ins ch op).cs)∧Adds w w':=by
 have HH:Hid ((S.spB op && ch==2)=false):=Lib.hid (by rw [hb,hc];rfl)
 have HC:=Lib.hid hc
 have HB:=Lib.hid hb
 have HI:=Lib.hid hi
 have H0:=Lib.hid h0
 have H1:=Lib.hid h1
 have H2:=Lib.hid h2
 clear hc hb hi
 obtain ⟨k,l,d,s,p,o,c,n⟩:=i
 have hq:bits .and .i64 (op / 8 % 8) 1=op / 8 % 2:=by rw [K8.S.ones_and _ 1 1 (by decide) (by decide)];show op / 8 % 8 % 2=_;omega
 go_enter Tryz.func113,Tryz.ntmps113
 go_wp2_with (first|(go_at_call 137;refine ad (special_is false HB.out HI.out) fun n1 os1=> ?_;simp only [S.Ins.cs])|(go_at_call 114;refine sm (on85_is ch false HC.out) ?_))
 have g:=S.ins_mov ch op HH.out H1.out H2.out
 exact bodyPost_ret (v:=.agg #[.int .i64 2,.int .i64 1,.int .i64 (op / 8 % 8),.int .i64 (op % 8),.int .i64 0,.int .i64 0,.int .i64 0,.int .i64 0]) (ret_Instr Tryz.results113 rfl (by simp [go_sem]) rfl) rfl ⟨by rw [g];rfl,aD⟩
theorem dec9_alu_false_false (ch op:Int) (hc:(ch==2)=false) (hb:S.spB op=false) (hi:S.spI op=i) (h0:(op / 64==0)=false) (h1:(op / 64==1)=false) (h3:(op / 64==2)=true) (o0:0≤op) (o1:op≤255) (w:World):Calls Tryz.prog 113 #[.int .i64 ch,.int .u8 op] w fun e w'=>e=.returned (.agg (S.ins ch op).cs)∧Adds w w':=by
 have HH:Hid ((S.spB op && ch==2)=false):=Lib.hid (by rw [hb,hc];rfl)
 have HC:=Lib.hid hc
 have HB:=Lib.hid hb
 have HI:=Lib.hid hi
 have H0:=Lib.hid h0
 have H1:=Lib.hid h1
 have H3:=Lib.hid h3
 clear hc hb hi
 obtain ⟨k,l,d,s,p,o,c,n⟩:=i
 have hq:bits .and .i64 (op / 8 % 8) 1=op / 8 % 2:=by rw [K8.S.ones_and _ 1 1 (by decide) (by decide)];show op / 8 % 8 % 2=_;omega
 go_enter Tryz.func113,Tryz.ntmps113
 go_wp2_with (first|(go_at_call 137;refine ad (special_is false HB.out HI.out) fun n1 os1=> ?_;simp only [S.Ins.cs])|(go_at_call 114;refine sm (on85_is ch false HC.out) ?_))
 have g:=S.ins_alu ch op HH.out H3.out
 exact bodyPost_ret (v:=.agg #[.int .i64 12,.int .i64 1,.int .i64 0,.int .i64 (op % 8),.int .i64 0,.int .i64 (op / 8 % 8),.int .i64 0,.int .i64 0]) (ret_Instr Tryz.results113 rfl (by simp [go_sem]) rfl) rfl ⟨by rw [g];rfl,aD⟩
theorem dec9_high_false_false (ch op:Int) (hc:(ch==2)=false) (hb:S.spB op=false) (hi:S.spI op=i) (hj:S.high (op / 8 % 8) (op % 8)=j) (h0:(op / 64==0)=false) (h1:(op / 64==1)=false) (h3:(op / 64==2)=false) (o0:0≤op) (o1:op≤255) (w:World):Calls Tryz.prog 113 #[.int .i64 ch,.int .u8 op] w fun e w'=>e=.returned (.agg (S.ins ch op).cs)∧Adds w w':=by
 have HH:Hid ((S.spB op && ch==2)=false):=Lib.hid (by rw [hb,hc];rfl)
 have HC:=Lib.hid hc
 have HB:=Lib.hid hb
 have HI:=Lib.hid hi
 have HJ:=Lib.hid hj
 have H0:=Lib.hid h0
 have H1:=Lib.hid h1
 have H3:=Lib.hid h3
 clear hc hb hi hj
 obtain ⟨k,l,d,s,p,o,c,n⟩:=i
 obtain ⟨jk,jl,jd,js,jp,jo,jc,jn⟩:=j
 have hq:bits .and .i64 (op / 8 % 8) 1=op / 8 % 2:=by rw [K8.S.ones_and _ 1 1 (by decide) (by decide)];show op / 8 % 8 % 2=_;omega
 go_enter Tryz.func113,Tryz.ntmps113
 go_wp2_with (first|(go_at_call 137;refine ad (special_is false HB.out HI.out) fun n1 os1=> ?_;simp only [S.Ins.cs])|(go_at_call 114;refine sm (on85_is ch false HC.out) ?_)|(go_at_call 139;refine ad (high_is op HJ.out) fun n2 os2=> ?_;simp only [S.Ins.cs]))
 have g:=(S.ins_high ch op o0 o1 HH.out H0.out H1.out H3.out).trans HJ.out
 exact bodyPost_ret (v:=.agg #[.int .i64 jk,.int .i64 jl,.int .i64 jd,.int .i64 js,.int .i64 jp,.int .i64 jo,.int .i64 jc,.int .i64 jn]) (ret_Instr Tryz.results113 rfl (by simp [go_sem]) rfl) rfl ⟨by rw [g];rfl,aD⟩
theorem dec9_false_false (ch op:Int) (hc:(ch==2)=false) (hb:S.spB op=false) (o0:0≤op) (o1:op≤255) (w:World):Calls Tryz.prog 113 #[.int .i64 ch,.int .u8 op] w fun e w'=>e=.returned (.agg (S.ins ch op).cs)∧Adds w w':=by
 rcases h0:(op / 64==0) with _|_
 ·rcases h1:(op / 64==1) with _|_
  ·rcases h3:(op / 64==2) with _|_
   ·exact dec9_high_false_false ch op hc hb rfl rfl h0 h1 h3 o0 o1 w
   ·exact dec9_alu_false_false ch op hc hb rfl h0 h1 h3 o0 o1 w
  ·rcases h2:(op==118) with _|_
   ·exact dec9_mov_false_false ch op hc hb rfl h0 h1 h2 o0 o1 w
   ·exact dec9_hlt_false_false ch op hc hb rfl h0 h1 h2 o0 o1 w
 ·exact dec9_low_false_false ch op hc hb rfl rfl h0 o0 o1 w
theorem dec9_low_false_true (ch op:Int) (hc:(ch==2)=true) (hb:S.spB op=false) (hi:S.spI op=i) (hj:S.low (op / 8 % 8) (op % 8)=j) (h0:(op / 64==0)=true) (o0:0≤op) (o1:op≤255) (w:World):Calls Tryz.prog 113 #[.int .i64 ch,.int .u8 op] w fun e w'=>e=.returned (.agg (S.ins ch op).cs)∧Adds w w':=by
 have HH:Hid ((S.spB op && ch==2)=false):=Lib.hid (by rw [hb,hc];rfl)
 have HC:=Lib.hid hc
 have HB:=Lib.hid hb
 have HI:=Lib.hid hi
 have HJ:=Lib.hid hj
 have H0:=Lib.hid h0
 clear hc hb hi hj
 obtain ⟨k,l,d,s,p,o,c,n⟩:=i
 obtain ⟨jk,jl,jd,js,jp,jo,jc,jn⟩:=j
 have hq:bits .and .i64 (op / 8 % 8) 1=op / 8 % 2:=by rw [K8.S.ones_and _ 1 1 (by decide) (by decide)];show op / 8 % 8 % 2=_;omega
 go_enter Tryz.func113,Tryz.ntmps113
 go_wp2_with (first|(go_at_call 137;refine ad (special_is false HB.out HI.out) fun n1 os1=> ?_;simp only [S.Ins.cs])|(go_at_call 114;refine sm (on85_is ch true HC.out) ?_)|(go_at_call 138;refine ad (low_is op HJ.out) fun n2 os2=> ?_;simp only [S.Ins.cs]))
 have g:=(S.ins_low ch op HH.out H0.out).trans HJ.out
 exact bodyPost_ret (v:=.agg #[.int .i64 jk,.int .i64 jl,.int .i64 jd,.int .i64 js,.int .i64 jp,.int .i64 jo,.int .i64 jc,.int .i64 jn]) (ret_Instr Tryz.results113 rfl (by simp [go_sem]) rfl) rfl ⟨by rw [g];rfl,aD⟩
theorem dec9_hlt_false_true (ch op:Int) (hc:(ch==2)=true) (hb:S.spB op=false) (hi:S.spI op=i) (h0:(op / 64==0)=false) (h1:(op / 64==1)=true) (h2:(op==118)=true) (o0:0≤op) (o1:op≤255) (w:World):Calls Tryz.prog 113 #[.int .i64 ch,.int .u8 op] w fun e w'=>e=.returned (.agg (S.ins ch op).cs)∧Adds w w':=by
 have HH:Hid ((S.spB op && ch==2)=false):=Lib.hid (by rw [hb,hc];rfl)
 have HC:=Lib.hid hc
 have HB:=Lib.hid hb
 have HI:=Lib.hid hi
 have H0:=Lib.hid h0
 have H1:=Lib.hid h1
 have H2:=Lib.hid h2
 clear hc hb hi
 obtain ⟨k,l,d,s,p,o,c,n⟩:=i
 have hq:bits .and .i64 (op / 8 % 8) 1=op / 8 % 2:=by rw [K8.S.ones_and _ 1 1 (by decide) (by decide)];show op / 8 % 8 % 2=_;omega
 go_enter Tryz.func113,Tryz.ntmps113
 go_wp2_with (first|(go_at_call 137;refine ad (special_is false HB.out HI.out) fun n1 os1=> ?_;simp only [S.Ins.cs])|(go_at_call 114;refine sm (on85_is ch true HC.out) ?_))
 have g:=S.ins_hlt ch op HH.out H2.out
 exact bodyPost_ret (v:=.agg #[.int .i64 37,.int .i64 1,.int .i64 0,.int .i64 0,.int .i64 0,.int .i64 0,.int .i64 0,.int .i64 0]) (ret_Instr Tryz.results113 rfl (by simp [go_sem]) rfl) rfl ⟨by rw [g];rfl,aD⟩
theorem dec9_mov_false_true (ch op:Int) (hc:(ch==2)=true) (hb:S.spB op=false) (hi:S.spI op=i) (h0:(op / 64==0)=false) (h1:(op / 64==1)=true) (h2:(op==118)=false) (o0:0≤op) (o1:op≤255) (w:World):Calls Tryz.prog 113 #[.int .i64 ch,.int .u8 op] w fun e w'=>e=.returned (.agg (S.ins ch op).cs)∧Adds w w':=by
 have HH:Hid ((S.spB op && ch==2)=false):=Lib.hid (by rw [hb,hc];rfl)
 have HC:=Lib.hid hc
 have HB:=Lib.hid hb
 have HI:=Lib.hid hi
 have H0:=Lib.hid h0
 have H1:=Lib.hid h1
 have H2:=Lib.hid h2
 clear hc hb hi
 obtain ⟨k,l,d,s,p,o,c,n⟩:=i
 have hq:bits .and .i64 (op / 8 % 8) 1=op / 8 % 2:=by rw [K8.S.ones_and _ 1 1 (by decide) (by decide)];show op / 8 % 8 % 2=_;omega
 go_enter Tryz.func113,Tryz.ntmps113
 go_wp2_with (first|(go_at_call 137;refine ad (special_is false HB.out HI.out) fun n1 os1=> ?_;simp only [S.Ins.cs])|(go_at_call 114;refine sm (on85_is ch true HC.out) ?_))
 have g:=S.ins_mov ch op HH.out H1.out H2.out
 exact bodyPost_ret (v:=.agg #[.int .i64 2,.int .i64 1,.int .i64 (op / 8 % 8),.int .i64 (op % 8),.int .i64 0,.int .i64 0,.int .i64 0,.int .i64 0]) (ret_Instr Tryz.results113 rfl (by simp [go_sem]) rfl) rfl ⟨by rw [g];rfl,aD⟩
theorem dec9_alu_false_true (ch op:Int) (hc:(ch==2)=true) (hb:S.spB op=false) (hi:S.spI op=i) (h0:(op / 64==0)=false) (h1:(op / 64==1)=false) (h3:(op / 64==2)=true) (o0:0≤op) (o1:op≤255) (w:World):Calls Tryz.prog 113 #[.int .i64 ch,.int .u8 op] w fun e w'=>e=.returned (.agg (S.ins ch op).cs)∧Adds w w':=by
 have HH:Hid ((S.spB op && ch==2)=false):=Lib.hid (by rw [hb,hc];rfl)
 have HC:=Lib.hid hc
 have HB:=Lib.hid hb
 have HI:=Lib.hid hi
 have H0:=Lib.hid h0
 have H1:=Lib.hid h1
 have H3:=Lib.hid h3
 clear hc hb hi
 obtain ⟨k,l,d,s,p,o,c,n⟩:=i
 have hq:bits .and .i64 (op / 8 % 8) 1=op / 8 % 2:=by rw [K8.S.ones_and _ 1 1 (by decide) (by decide)];show op / 8 % 8 % 2=_;omega
 go_enter Tryz.func113,Tryz.ntmps113
 go_wp2_with (first|(go_at_call 137;refine ad (special_is false HB.out HI.out) fun n1 os1=> ?_;simp only [S.Ins.cs])|(go_at_call 114;refine sm (on85_is ch true HC.out) ?_))
 have g:=S.ins_alu ch op HH.out H3.out
 exact bodyPost_ret (v:=.agg #[.int .i64 12,.int .i64 1,.int .i64 0,.int .i64 (op % 8),.int .i64 0,.int .i64 (op / 8 % 8),.int .i64 0,.int .i64 0]) (ret_Instr Tryz.results113 rfl (by simp [go_sem]) rfl) rfl ⟨by rw [g];rfl,aD⟩
theorem dec9_high_false_true (ch op:Int) (hc:(ch==2)=true) (hb:S.spB op=false) (hi:S.spI op=i) (hj:S.high (op / 8 % 8) (op % 8)=j) (h0:(op / 64==0)=false) (h1:(op / 64==1)=false) (h3:(op / 64==2)=false) (o0:0≤op) (o1:op≤255) (w:World):Calls Tryz.prog 113 #[.int .i64 ch,.int .u8 op] w fun e w'=>e=.returned (.agg (S.ins ch op).cs)∧Adds w w':=by
 have HH:Hid ((S.spB op && ch==2)=false):=Lib.hid (by rw [hb,hc];rfl)
 have HC:=Lib.hid hc
 have HB:=Lib.hid hb
 have HI:=Lib.hid hi
 have HJ:=Lib.hid hj
 have H0:=Lib.hid h0
 have H1:=Lib.hid h1
 have H3:=Lib.hid h3
 clear hc hb hi hj
 obtain ⟨k,l,d,s,p,o,c,n⟩:=i
 obtain ⟨jk,jl,jd,js,jp,jo,jc,jn⟩:=j
 have hq:bits .and .i64 (op / 8 % 8) 1=op / 8 % 2:=by rw [K8.S.ones_and _ 1 1 (by decide) (by decide)];show op / 8 % 8 % 2=_;omega
 go_enter Tryz.func113,Tryz.ntmps113
 go_wp2_with (first|(go_at_call 137;refine ad (special_is false HB.out HI.out) fun n1 os1=> ?_;simp only [S.Ins.cs])|(go_at_call 114;refine sm (on85_is ch true HC.out) ?_)|(go_at_call 139;refine ad (high_is op HJ.out) fun n2 os2=> ?_;simp only [S.Ins.cs]))
 have g:=(S.ins_high ch op o0 o1 HH.out H0.out H1.out H3.out).trans HJ.out
 exact bodyPost_ret (v:=.agg #[.int .i64 jk,.int .i64 jl,.int .i64 jd,.int .i64 js,.int .i64 jp,.int .i64 jo,.int .i64 jc,.int .i64 jn]) (ret_Instr Tryz.results113 rfl (by simp [go_sem]) rfl) rfl ⟨by rw [g];rfl,aD⟩
theorem dec9_false_true (ch op:Int) (hc:(ch==2)=true) (hb:S.spB op=false) (o0:0≤op) (o1:op≤255) (w:World):Calls Tryz.prog 113 #[.int .i64 ch,.int .u8 op] w fun e w'=>e=.returned (.agg (S.ins ch op).cs)∧Adds w w':=by
 rcases h0:(op / 64==0) with _|_
 ·rcases h1:(op / 64==1) with _|_
  ·rcases h3:(op / 64==2) with _|_
   ·exact dec9_high_false_true ch op hc hb rfl rfl h0 h1 h3 o0 o1 w
   ·exact dec9_alu_false_true ch op hc hb rfl h0 h1 h3 o0 o1 w
  ·rcases h2:(op==118) with _|_
   ·exact dec9_mov_false_true ch op hc hb rfl h0 h1 h2 o0 o1 w
   ·exact dec9_hlt_false_true ch op hc hb rfl h0 h1 h2 o0 o1 w
 ·exact dec9_low_false_true ch op hc hb rfl rfl h0 o0 o1 w
theorem dec9_low_true_false (ch op:Int) (hc:(ch==2)=false) (hb:S.spB op=true) (hi:S.spI op=i) (hj:S.low (op / 8 % 8) (op % 8)=j) (h0:(op / 64==0)=true) (o0:0≤op) (o1:op≤255) (w:World):Calls Tryz.prog 113 #[.int .i64 ch,.int .u8 op] w fun e w'=>e=.returned (.agg (S.ins ch op).cs)∧Adds w w':=by
 have HH:Hid ((S.spB op && ch==2)=false):=Lib.hid (by rw [hb,hc];rfl)
 have HC:=Lib.hid hc
 have HB:=Lib.hid hb
 have HI:=Lib.hid hi
 have HJ:=Lib.hid hj
 have H0:=Lib.hid h0
 clear hc hb hi hj
 obtain ⟨k,l,d,s,p,o,c,n⟩:=i
 obtain ⟨jk,jl,jd,js,jp,jo,jc,jn⟩:=j
 have hq:bits .and .i64 (op / 8 % 8) 1=op / 8 % 2:=by rw [K8.S.ones_and _ 1 1 (by decide) (by decide)];show op / 8 % 8 % 2=_;omega
 go_enter Tryz.func113,Tryz.ntmps113
 go_wp2_with (first|(go_at_call 137;refine ad (special_is true HB.out HI.out) fun n1 os1=> ?_;simp only [S.Ins.cs])|(go_at_call 114;refine sm (on85_is ch false HC.out) ?_)|(go_at_call 138;refine ad (low_is op HJ.out) fun n2 os2=> ?_;simp only [S.Ins.cs]))
 have g:=(S.ins_low ch op HH.out H0.out).trans HJ.out
 exact bodyPost_ret (v:=.agg #[.int .i64 jk,.int .i64 jl,.int .i64 jd,.int .i64 js,.int .i64 jp,.int .i64 jo,.int .i64 jc,.int .i64 jn]) (ret_Instr Tryz.results113 rfl (by simp [go_sem]) rfl) rfl ⟨by rw [g];rfl,aD⟩
theorem dec9_hlt_true_false (ch op:Int) (hc:(ch==2)=false) (hb:S.spB op=true) (hi:S.spI op=i) (h0:(op / 64==0)=false) (h1:(op / 64==1)=true) (h2:(op==118)=true) (o0:0≤op) (o1:op≤255) (w:World):Calls Tryz.prog 113 #[.int .i64 ch,.int .u8 op] w fun e w'=>e=.returned (.agg (S.ins ch op).cs)∧Adds w w':=by
 have HH:Hid ((S.spB op && ch==2)=false):=Lib.hid (by rw [hb,hc];rfl)
 have HC:=Lib.hid hc
 have HB:=Lib.hid hb
 have HI:=Lib.hid hi
 have H0:=Lib.hid h0
 have H1:=Lib.hid h1
 have H2:=Lib.hid h2
 clear hc hb hi
 obtain ⟨k,l,d,s,p,o,c,n⟩:=i
 have hq:bits .and .i64 (op / 8 % 8) 1=op / 8 % 2:=by rw [K8.S.ones_and _ 1 1 (by decide) (by decide)];show op / 8 % 8 % 2=_;omega
 go_enter Tryz.func113,Tryz.ntmps113
 go_wp2_with (first|(go_at_call 137;refine ad (special_is true HB.out HI.out) fun n1 os1=> ?_;simp only [S.Ins.cs])|(go_at_call 114;refine sm (on85_is ch false HC.out) ?_))
 have g:=S.ins_hlt ch op HH.out H2.out
 exact bodyPost_ret (v:=.agg #[.int .i64 37,.int .i64 1,.int .i64 0,.int .i64 0,.int .i64 0,.int .i64 0,.int .i64 0,.int .i64 0]) (ret_Instr Tryz.results113 rfl (by simp [go_sem]) rfl) rfl ⟨by rw [g];rfl,aD⟩
theorem dec9_mov_true_false (ch op:Int) (hc:(ch==2)=false) (hb:S.spB op=true) (hi:S.spI op=i) (h0:(op / 64==0)=false) (h1:(op / 64==1)=true) (h2:(op==118)=false) (o0:0≤op) (o1:op≤255) (w:World):Calls Tryz.prog 113 #[.int .i64 ch,.int .u8 op] w fun e w'=>e=.returned (.agg (S.ins ch op).cs)∧Adds w w':=by
 have HH:Hid ((S.spB op && ch==2)=false):=Lib.hid (by rw [hb,hc];rfl)
 have HC:=Lib.hid hc
 have HB:=Lib.hid hb
 have HI:=Lib.hid hi
 have H0:=Lib.hid h0
 have H1:=Lib.hid h1
 have H2:=Lib.hid h2
 clear hc hb hi
 obtain ⟨k,l,d,s,p,o,c,n⟩:=i
 have hq:bits .and .i64 (op / 8 % 8) 1=op / 8 % 2:=by rw [K8.S.ones_and _ 1 1 (by decide) (by decide)];show op / 8 % 8 % 2=_;omega
 go_enter Tryz.func113,Tryz.ntmps113
 go_wp2_with (first|(go_at_call 137;refine ad (special_is true HB.out HI.out) fun n1 os1=> ?_;simp only [S.Ins.cs])|(go_at_call 114;refine sm (on85_is ch false HC.out) ?_))
 have g:=S.ins_mov ch op HH.out H1.out H2.out
 exact bodyPost_ret (v:=.agg #[.int .i64 2,.int .i64 1,.int .i64 (op / 8 % 8),.int .i64 (op % 8),.int .i64 0,.int .i64 0,.int .i64 0,.int .i64 0]) (ret_Instr Tryz.results113 rfl (by simp [go_sem]) rfl) rfl ⟨by rw [g];rfl,aD⟩
theorem dec9_alu_true_false (ch op:Int) (hc:(ch==2)=false) (hb:S.spB op=true) (hi:S.spI op=i) (h0:(op / 64==0)=false) (h1:(op / 64==1)=false) (h3:(op / 64==2)=true) (o0:0≤op) (o1:op≤255) (w:World):Calls Tryz.prog 113 #[.int .i64 ch,.int .u8 op] w fun e w'=>e=.returned (.agg (S.ins ch op).cs)∧Adds w w':=by
 have HH:Hid ((S.spB op && ch==2)=false):=Lib.hid (by rw [hb,hc];rfl)
 have HC:=Lib.hid hc
 have HB:=Lib.hid hb
 have HI:=Lib.hid hi
 have H0:=Lib.hid h0
 have H1:=Lib.hid h1
 have H3:=Lib.hid h3
 clear hc hb hi
 obtain ⟨k,l,d,s,p,o,c,n⟩:=i
 have hq:bits .and .i64 (op / 8 % 8) 1=op / 8 % 2:=by rw [K8.S.ones_and _ 1 1 (by decide) (by decide)];show op / 8 % 8 % 2=_;omega
 go_enter Tryz.func113,Tryz.ntmps113
 go_wp2_with (first|(go_at_call 137;refine ad (special_is true HB.out HI.out) fun n1 os1=> ?_;simp only [S.Ins.cs])|(go_at_call 114;refine sm (on85_is ch false HC.out) ?_))
 have g:=S.ins_alu ch op HH.out H3.out
 exact bodyPost_ret (v:=.agg #[.int .i64 12,.int .i64 1,.int .i64 0,.int .i64 (op % 8),.int .i64 0,.int .i64 (op / 8 % 8),.int .i64 0,.int .i64 0]) (ret_Instr Tryz.results113 rfl (by simp [go_sem]) rfl) rfl ⟨by rw [g];rfl,aD⟩
theorem dec9_high_true_false (ch op:Int) (hc:(ch==2)=false) (hb:S.spB op=true) (hi:S.spI op=i) (hj:S.high (op / 8 % 8) (op % 8)=j) (h0:(op / 64==0)=false) (h1:(op / 64==1)=false) (h3:(op / 64==2)=false) (o0:0≤op) (o1:op≤255) (w:World):Calls Tryz.prog 113 #[.int .i64 ch,.int .u8 op] w fun e w'=>e=.returned (.agg (S.ins ch op).cs)∧Adds w w':=by
 have HH:Hid ((S.spB op && ch==2)=false):=Lib.hid (by rw [hb,hc];rfl)
 have HC:=Lib.hid hc
 have HB:=Lib.hid hb
 have HI:=Lib.hid hi
 have HJ:=Lib.hid hj
 have H0:=Lib.hid h0
 have H1:=Lib.hid h1
 have H3:=Lib.hid h3
 clear hc hb hi hj
 obtain ⟨k,l,d,s,p,o,c,n⟩:=i
 obtain ⟨jk,jl,jd,js,jp,jo,jc,jn⟩:=j
 have hq:bits .and .i64 (op / 8 % 8) 1=op / 8 % 2:=by rw [K8.S.ones_and _ 1 1 (by decide) (by decide)];show op / 8 % 8 % 2=_;omega
 go_enter Tryz.func113,Tryz.ntmps113
 go_wp2_with (first|(go_at_call 137;refine ad (special_is true HB.out HI.out) fun n1 os1=> ?_;simp only [S.Ins.cs])|(go_at_call 114;refine sm (on85_is ch false HC.out) ?_)|(go_at_call 139;refine ad (high_is op HJ.out) fun n2 os2=> ?_;simp only [S.Ins.cs]))
 have g:=(S.ins_high ch op o0 o1 HH.out H0.out H1.out H3.out).trans HJ.out
 exact bodyPost_ret (v:=.agg #[.int .i64 jk,.int .i64 jl,.int .i64 jd,.int .i64 js,.int .i64 jp,.int .i64 jo,.int .i64 jc,.int .i64 jn]) (ret_Instr Tryz.results113 rfl (by simp [go_sem]) rfl) rfl ⟨by rw [g];rfl,aD⟩
theorem dec9_true_false (ch op:Int) (hc:(ch==2)=false) (hb:S.spB op=true) (o0:0≤op) (o1:op≤255) (w:World):Calls Tryz.prog 113 #[.int .i64 ch,.int .u8 op] w fun e w'=>e=.returned (.agg (S.ins ch op).cs)∧Adds w w':=by
 rcases h0:(op / 64==0) with _|_
 ·rcases h1:(op / 64==1) with _|_
  ·rcases h3:(op / 64==2) with _|_
   ·exact dec9_high_true_false ch op hc hb rfl rfl h0 h1 h3 o0 o1 w
   ·exact dec9_alu_true_false ch op hc hb rfl h0 h1 h3 o0 o1 w
  ·rcases h2:(op==118) with _|_
   ·exact dec9_mov_true_false ch op hc hb rfl h0 h1 h2 o0 o1 w
   ·exact dec9_hlt_true_false ch op hc hb rfl h0 h1 h2 o0 o1 w
 ·exact dec9_low_true_false ch op hc hb rfl rfl h0 o0 o1 w
theorem dec9_any (ch op:Int) (o0:0≤op) (o1:op≤255) (w:World):Calls Tryz.prog 113 #[.int .i64 ch,.int .u8 op] w fun e w'=>e=.returned (.agg (S.ins ch op).cs)∧Adds w w':=by
 rcases hb:S.spB op with _|_<;>rcases hc:(ch==2) with _|_
 ·exact dec9_false_false ch op hc hb o0 o1 w
 ·exact dec9_false_true ch op hc hb o0 o1 w
 ·exact dec9_true_false ch op hc hb o0 o1 w
 ·rw [S.ins_sp ch op hc hb];exact dec9_sp ch op hc hb rfl w
theorem dec9_is {ch:Int} (o0:0≤op) (o1:op≤255) (h:S.ins ch op=i):Calls Tryz.prog 113 #[.int .i64 ch,.int .u8 op] w fun e w'=>e=.returned (.agg i.cs)∧Adds w w':=h▸dec9_any ch op o0 o1 w
end
section
variable {i:S.Ins}
theorem q1C16f {P:Prop} (h:P:=by
 go_enter Tryz.func72,Tryz.ntmps72
 go_wp2_with (first|(go_at_call 113;refine ad (dec9_is o0 o1 HI.out) fun n1 os1=> ?_;simp only [S.Ins.cs])|(go_at_call 114;refine sm (on85_is ch _ HC.out) ?_))
 all_goals
  go_ret
  refine ⟨?_,aD⟩
  simp only [beq_iff_eq,beq_eq_false_iff_ne,bne_iff_ne,ne_eq,bne_eq_false_iff_eq] at *
  subst_vars
  refine ri ?_
  first|(simp [S.fst,S.lon,S.sho, *];done)|(simp_all [S.fst,S.lon,S.sho];done)|(simp [S.fst,S.lon,S.sho, *];omega)):P:=h
theorem first_true (ch op:Int) (o0:0≤op) (o1:op≤255) (hi:S.ins ch op=i) (hc:(ch==2)=true) (w:World):Calls Tryz.prog 72 #[.int .i64 ch,.int .u8 op] w fun e w'=>e=.returned (.int .i64 (S.fst true i.k i.d i.s i.c))∧Adds w w':=by
 have HC:=Lib.hid hc
 have HI:=Lib.hid hi
 clear hc hi
 obtain ⟨k,l,d,s,p,o,c,n⟩:=i
 simp only []
 exact q1C16f
theorem first_false (ch op:Int) (o0:0≤op) (o1:op≤255) (hi:S.ins ch op=i) (hc:(ch==2)=false) (w:World):Calls Tryz.prog 72 #[.int .i64 ch,.int .u8 op] w fun e w'=>e=.returned (.int .i64 (S.fst false i.k i.d i.s i.c))∧Adds w w':=by
 have HC:=Lib.hid hc
 have HI:=Lib.hid hi
 clear hc hi
 obtain ⟨k,l,d,s,p,o,c,n⟩:=i
 simp only []
 exact q1C16f
theorem first_any (ch op:Int) (o0:0≤op) (o1:op≤255) (w:World):Calls Tryz.prog 72 #[.int .i64 ch,.int .u8 op] w fun e w'=>e=.returned (.int .i64 (S.first ch op))∧Adds w w':=by
 unfold S.first
 rcases hc:(ch==2) with _|_
 ·exact first_false ch op o0 o1 rfl hc w
 ·exact first_true ch op o0 o1 rfl hc w
end
end Go.Proofs.YteggjjhjmhccjaaGreatDoor
