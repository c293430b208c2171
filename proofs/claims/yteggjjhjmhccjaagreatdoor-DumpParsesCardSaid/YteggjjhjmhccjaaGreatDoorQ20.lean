/- Texts that the proofs of the statements on dumps rest on, joined. Conditions stand in each theorem. -/
import Derived.Test.YteggjjhjmhccjaaGreatDoorQ13
import Derived.Test.YteggjjhjmhccjaaGreatDoorQ14
import Derived.Test.YteggjjhjmhccjaaGreatDoorQ01
import Derived.Test.YteggjjhjmhccjaaGreatDoorQ12
import Derived.Test.YteggjjhjmhccjaaGreatDoorQ07
import Derived.Test.YteggjjhjmhccjaaGreatDoorQ02
import Derived.Test.YteggjjhjmhccjaaGreatDoorQ03
import Derived.Deep.Cut
import Derived.Deep.RegionHeld3
import Derived.Deep.CutRange
import Derived.Test.YteggjjhjmhccjaaGreatDoorQ15
import Derived.Test.YteggjjhjmhccjaaGreatDoorQ16
import Derived.Test.YteggjjhjmhccjaaGreatDoorQ17
import Derived.Test.YteggjjhjmhccjaaGreatDoorQ18
import Derived.Test.YteggjjhjmhccjaaGreatDoorQ19
set_option linter.unusedVariables false
set_option linter.unusedSimpArgs false
set_option maxRecDepth 100000
set_option maxHeartbeats 8000000
namespace Go.Proofs.YteggjjhjmhccjaaGreatDoor
open Go.ChangeShapes Go.WideShapes Go.ChangeAt Go.RowKit
namespace K8
theorem rdaa_any (c a:Int) (s z k ac p v cy:Bool) (a0:0≤a) (a1:a < 256) (w:World):Calls Tryz.prog 174 #[.int .i64 c,.int .u8 a,.agg #[.bool s,.bool z,.bool k,.bool ac,.bool p,.bool v,.bool cy]] w fun e w'=>e=.returned (.tuple #[.int .u8 (S.sumR a (S.dX a ac cy) false),.agg #[.bool (S.has (S.sumR a (S.dX a ac cy) false) 7),.bool ((S.sumR a (S.dX a ac cy) false)==0),.bool (S.nK c a false (S.sumR a (S.dX a ac cy) false)),.bool (S.sumH a (S.dX a ac cy) false),.bool (S.par (S.sumR a (S.dX a ac cy) false)),.bool (S.nV c (S.sumV a (S.dX a ac cy) false)),.bool (S.dH a cy)]])∧Adds w w':=by
 by_cases hc:c=2
 ·subst hc
  rw [S.nK85,S.nV85]
  exact rdaa85 a s z k ac p v cy a0 a1 w
 ·rw [S.nK80 hc,S.nV80 hc]
  exact rdaa80 c hc a s z k ac p v cy a0 a1 w
end K8
section
variable {a b c n op rA rB rC rD rE rH rL rPC rSP:Int} {ac cy k p rAC rCY rK rP rS rV rZ s v z:Bool} {w:World}
def PostBF (w:World) (e:Ending) (w':World):Prop:=∃(r:Int) (s z k ac p v cy:Bool),(0≤r∧r < 256)∧e=.returned (.tuple #[.int .u8 r,.agg #[.bool s,.bool z,.bool k,.bool ac,.bool p,.bool v,.bool cy]])∧Adds w w'
def PostWF (w:World) (e:Ending) (w':World):Prop:=∃(r:Int) (s z k ac p v cy:Bool),(0≤r∧r < 65536)∧e=.returned (.tuple #[.int .u16 r,.agg #[.bool s,.bool z,.bool k,.bool ac,.bool p,.bool v,.bool cy]])∧Adds w w'
def PostB (w:World) (e:Ending) (w':World):Prop:=∃r:Int,(0≤r∧r < 256)∧e=.returned (.int .u8 r)∧Adds w w'
def PostW (w:World) (e:Ending) (w':World):Prop:=∃r:Int,(0≤r∧r < 65536)∧e=.returned (.int .u16 r)∧Adds w w'
def PostR (w:World) (e:Ending) (w':World):Prop:=∃(qA qB qC qD qE qH qL:Int) (qS qZ qK qAC qP qV qCY:Bool) (qSP qPC:Int),S.OkR qA qB qC qD qE qH qL qSP qPC∧e=.returned (.agg #[.int .u8 qA,.int .u8 qB,.int .u8 qC,.int .u8 qD,.int .u8 qE,.int .u8 qH,.int .u8 qL,.bool qS,.bool qZ,.bool qK,.bool qAC,.bool qP,.bool qV,.bool qCY,.int .u16 qSP,.int .u16 qPC])∧Adds w w'
theorem wk_do (ha:0≤a∧a < 256) (hb:0≤b∧b < 256):Calls Tryz.prog 170 #[.int .i64 c,.int .i64 op,.int .u8 a,.int .u8 b,.agg #[.bool s,.bool z,.bool k,.bool ac,.bool p,.bool v,.bool cy]] w (PostBF w):=
 (K8.rdo_any c op a b s z k ac p v cy ha.1 ha.2 hb.1 hb.2 w).mono fun e w' ⟨he,hw⟩=>⟨_,_,_,_,_,_,_,_,by unfold K8.S.aX;split;exact ha;exact K8.S.aR_bd,he,hw⟩
theorem wk_inr (ha:0≤a∧a < 256):Calls Tryz.prog 182 #[.int .i64 c,.int .u8 a,.agg #[.bool s,.bool z,.bool k,.bool ac,.bool p,.bool v,.bool cy]] w (PostBF w):=
 (K8.rinr_any c a s z k ac p v cy ha.1 ha.2 w).mono fun e w' ⟨he,hw⟩=>⟨_,_,_,_,_,_,_,_,S.sumR_bd _ _ _,he,hw⟩
theorem wk_dcr (ha:0≤a∧a < 256):Calls Tryz.prog 183 #[.int .i64 c,.int .u8 a,.agg #[.bool s,.bool z,.bool k,.bool ac,.bool p,.bool v,.bool cy]] w (PostBF w):=
 (K8.rdcr_any c a s z k ac p v cy ha.1 ha.2 w).mono fun e w' ⟨he,hw⟩=>⟨_,_,_,_,_,_,_,_,S.difR_bd _ _ _,he,hw⟩
theorem wk_inx (ha:0≤a∧a < 65536):Calls Tryz.prog 171 #[.int .i64 c,.int .u16 a,.agg #[.bool s,.bool z,.bool k,.bool ac,.bool p,.bool v,.bool cy]] w (PostWF w):=
 (K8.rinx_any c a s z k ac p v cy ha.1 ha.2 w).mono fun e w' ⟨he,hw⟩=>⟨_,_,_,_,_,_,_,_,K8.S.inc_bd,he,hw⟩
theorem wk_dcx (ha:0≤a∧a < 65536):Calls Tryz.prog 172 #[.int .i64 c,.int .u16 a,.agg #[.bool s,.bool z,.bool k,.bool ac,.bool p,.bool v,.bool cy]] w (PostWF w):=
 (K8.rdcx_any c a s z k ac p v cy ha.1 ha.2 w).mono fun e w' ⟨he,hw⟩=>⟨_,_,_,_,_,_,_,_,K8.S.dec_bd,he,hw⟩
theorem wk_dad (ha:0≤a∧a < 65536) (hb:0≤b∧b < 65536):Calls Tryz.prog 173 #[.int .i64 c,.int .u16 a,.int .u16 b,.agg #[.bool s,.bool z,.bool k,.bool ac,.bool p,.bool v,.bool cy]] w (PostWF w):=
 (K8.rdad_any c a b s z k ac p v cy ha.1 ha.2 hb.1 hb.2 w).mono fun e w' ⟨he,hw⟩=>⟨_,_,_,_,_,_,_,_,K8.S.wsR_bd _ _,he,hw⟩
theorem wk_daa (ha:0≤a∧a < 256):Calls Tryz.prog 174 #[.int .i64 c,.int .u8 a,.agg #[.bool s,.bool z,.bool k,.bool ac,.bool p,.bool v,.bool cy]] w (PostBF w):=
 (K8.rdaa_any c a s z k ac p v cy ha.1 ha.2 w).mono fun e w' ⟨he,hw⟩=>⟨_,_,_,_,_,_,_,_,S.sumR_bd _ _ _,he,hw⟩
theorem wk_dsub (ha:0≤a∧a < 65536) (hb:0≤b∧b < 65536):Calls Tryz.prog 176 #[.int .u16 a,.int .u16 b] w (PostWF w):=
 (K8.rdsub_any a b ha.1 ha.2 hb.1 hb.2 w).mono fun e w' ⟨he,hw⟩=>⟨_,_,_,_,_,_,_,_,K8.S.wdR_bd,he,hw⟩
theorem wk_byte {c:Bool} (ha:0≤a∧a < 256):Calls Tryz.prog 175 #[.int .i64 op,.int .u8 a,.bool c] w fun e w'=>∃(r:Int) (o:Bool),(0≤r∧r < 256)∧e=.returned (.tuple #[.int .u8 r,.bool o])∧w=w':=
 (K8.rbyte_any op a c ha.1 ha.2 w).mono fun e w' ⟨he,hw⟩=>⟨_,_,K8.S.rotR_bd,he,hw⟩
theorem wk_arhl {v:Int} (hv:0≤v∧v < 65536):Calls Tryz.prog 177 #[.int .u16 v] w fun e w'=>∃(r:Int) (o:Bool),(0≤r∧r < 65536)∧e=.returned (.tuple #[.int .u16 r,.bool o])∧w=w':=
 (K8.rarhl_any v hv.1 hv.2 w).mono fun e w' ⟨he,hw⟩=>⟨_,_,K8.S.arR_bd hv.1 hv.2,he,hw⟩
theorem wk_rdel {v:Int} {c:Bool} (hv:0≤v∧v < 65536):Calls Tryz.prog 178 #[.int .u16 v,.bool c] w fun e w'=>∃(r:Int) (o q:Bool),(0≤r∧r < 65536)∧e=.returned (.tuple #[.int .u16 r,.bool o,.bool q])∧w=w':=
 (K8.rrdel_any v c hv.1 hv.2 w).mono fun e w' ⟨he,hw⟩=>⟨_,_,_,K8.S.rdR_bd _ _,he,hw⟩
theorem wk_get (h:S.OkR rA rB rC rD rE rH rL rSP rPC):Calls Tryz.prog 157 #[.agg #[.int .u8 rA,.int .u8 rB,.int .u8 rC,.int .u8 rD,.int .u8 rE,.int .u8 rH,.int .u8 rL,.bool rS,.bool rZ,.bool rK,.bool rAC,.bool rP,.bool rV,.bool rCY,.int .u16 rSP,.int .u16 rPC],.int .i64 n] w (PostB w):=
 (K8.rget_any rA rB rC rD rE rH rL rS rZ rK rAC rP rV rCY rSP rPC n w).mono fun e w' ⟨he,hw⟩=>⟨_,by
   have h1:=h.a;have h2:=h.b;have h3:=h.c;have h4:=h.d;have h5:=h.e;have h6:=h.h;have h7:=h.l
   unfold K8.S.rg;(repeat' split)<;>omega,he,hw⟩
theorem S.pr_bd (n rB rC rD rE rH rL rA rSP rPC:Int) (h:S.OkR rA rB rC rD rE rH rL rSP rPC):0≤K8.S.pr n rB rC rD rE rH rL rSP∧K8.S.pr n rB rC rD rE rH rL rSP < 65536:=by
 unfold K8.S.pr
 have h1:=S.joi_bd h.b.1 h.b.2 h.c.1 h.c.2
 have h2:=S.joi_bd h.d.1 h.d.2 h.e.1 h.e.2
 have h3:=S.joi_bd h.h.1 h.h.2 h.l.1 h.l.2
 have h4:=h.sp
 (repeat' split)<;>assumption
theorem wk_pair (n:Int) (h:S.OkR rA rB rC rD rE rH rL rSP rPC):Calls Tryz.prog 148 #[.agg #[.int .u8 rA,.int .u8 rB,.int .u8 rC,.int .u8 rD,.int .u8 rE,.int .u8 rH,.int .u8 rL,.bool rS,.bool rZ,.bool rK,.bool rAC,.bool rP,.bool rV,.bool rCY,.int .u16 rSP,.int .u16 rPC],.int .i64 n] w (PostW w):=
 (K8.rpair_any rA rB rC rD rE rH rL rS rZ rK rAC rP rV rCY rSP rPC n h.b.1 h.b.2 h.c.1 h.c.2 h.d.1 h.d.2 h.e.1 h.e.2 h.h.1 h.h.2 h.l.1 h.l.2 w).mono fun e w' ⟨he,hw⟩=>⟨_,S.pr_bd n _ _ _ _ _ _ _ _ _ h,he,hw⟩
theorem fn_pair (rA rB rC rD rE rH rL:Int) (rS rZ rK rAC rP rV rCY:Bool) (rSP rPC:Int) (n:Int) (h:S.OkR rA rB rC rD rE rH rL rSP rPC) (w:World):Calls Tryz.prog 148 #[.agg #[.int .u8 rA,.int .u8 rB,.int .u8 rC,.int .u8 rD,.int .u8 rE,.int .u8 rH,.int .u8 rL,.bool rS,.bool rZ,.bool rK,.bool rAC,.bool rP,.bool rV,.bool rCY,.int .u16 rSP,.int .u16 rPC],.int .i64 n] w fun e w'=>e=.returned (.int .u16 (K8.S.pr n rB rC rD rE rH rL rSP))∧Adds w w':=
 K8.rpair_any rA rB rC rD rE rH rL rS rZ rK rAC rP rV rCY rSP rPC n h.b.1 h.b.2 h.c.1 h.c.2 h.d.1 h.d.2 h.e.1 h.e.2 h.h.1 h.h.2 h.l.1 h.l.2 w
theorem wk_psw (h:S.OkR rA rB rC rD rE rH rL rSP rPC):Calls Tryz.prog 165 #[.int .i64 c,.agg #[.int .u8 rA,.int .u8 rB,.int .u8 rC,.int .u8 rD,.int .u8 rE,.int .u8 rH,.int .u8 rL,.bool rS,.bool rZ,.bool rK,.bool rAC,.bool rP,.bool rV,.bool rCY,.int .u16 rSP,.int .u16 rPC]] w (PostW w):=
 (K8.rpsw_any c rA rB rC rD rE rH rL rS rZ rK rAC rP rV rCY rSP rPC h.a.1 h.a.2 w).mono fun e w' ⟨he,hw⟩=>⟨_,S.joi_bd h.a.1 h.a.2 (K8.S.pack_bd _ _ _ _ _ _ _ _).1 (K8.S.pack_bd _ _ _ _ _ _ _ _).2,he,hw⟩
theorem wk_setpair {v:Int} (h:S.OkR rA rB rC rD rE rH rL rSP rPC) (hv:0≤v∧v < 65536):Calls Tryz.prog 168 #[.agg #[.int .u8 rA,.int .u8 rB,.int .u8 rC,.int .u8 rD,.int .u8 rE,.int .u8 rH,.int .u8 rL,.bool rS,.bool rZ,.bool rK,.bool rAC,.bool rP,.bool rV,.bool rCY,.int .u16 rSP,.int .u16 rPC],.int .i64 n,.int .u16 v] w (PostR w):=
 (K8.rsetpair_any rA rB rC rD rE rH rL rS rZ rK rAC rP rV rCY rSP rPC n v hv.1 hv.2 w).mono fun e w' ⟨he,hw⟩=>⟨_,_,_,_,_,_,_,_,_,_,_,_,_,_,_,_,by
   have h1:=h.b;have h2:=h.c;have h3:=h.d;have h4:=h.e;have h5:=h.h;have h6:=h.l;have h7:=h.sp
   refine ⟨h.a,?_,?_,?_,?_,?_,?_,?_,h.pc⟩<;>(unfold K8.S.sq;split<;>omega),he,hw⟩
theorem wk_set {v:Int} (h:S.OkR rA rB rC rD rE rH rL rSP rPC) (hv:0≤v∧v < 256):Calls Tryz.prog 167 #[.agg #[.int .u8 rA,.int .u8 rB,.int .u8 rC,.int .u8 rD,.int .u8 rE,.int .u8 rH,.int .u8 rL,.bool rS,.bool rZ,.bool rK,.bool rAC,.bool rP,.bool rV,.bool rCY,.int .u16 rSP,.int .u16 rPC],.int .i64 n,.int .u8 v] w (PostR w):=
 (K8.rset_any rA rB rC rD rE rH rL rS rZ rK rAC rP rV rCY rSP rPC n v w).mono fun e w' ⟨he,hw⟩=>⟨_,_,_,_,_,_,_,_,_,_,_,_,_,_,_,_,by
   have h0:=h.a;have h1:=h.b;have h2:=h.c;have h3:=h.d;have h4:=h.e;have h5:=h.h;have h6:=h.l
   refine ⟨?_,?_,?_,?_,?_,?_,?_,h.sp,h.pc⟩<;>(unfold K8.S.st;split<;>omega),he,hw⟩
theorem wk_setpsw {v:Int} (h:S.OkR rA rB rC rD rE rH rL rSP rPC) (hv:0≤v∧v < 65536):Calls Tryz.prog 169 #[.int .i64 c,.agg #[.int .u8 rA,.int .u8 rB,.int .u8 rC,.int .u8 rD,.int .u8 rE,.int .u8 rH,.int .u8 rL,.bool rS,.bool rZ,.bool rK,.bool rAC,.bool rP,.bool rV,.bool rCY,.int .u16 rSP,.int .u16 rPC],.int .u16 v] w (PostR w):=
 (K8.rsetpsw_any c rA rB rC rD rE rH rL rS rZ rK rAC rP rV rCY rSP rPC v hv.1 hv.2 w).mono fun e w' ⟨he,hw⟩=>⟨_,_,_,_,_,_,_,_,_,_,_,_,_,_,_,_,⟨by omega,h.b,h.c,h.d,h.e,h.h,h.l,h.sp,h.pc⟩,he,hw⟩
end
section
variable {b gc gn:Nat} {c:S.Cp} {ga:Option Addr} {i:Int} {inj:Bool} {w w':World} {z:List Int}
def MkRd (b:Nat) (c:S.Cp) (inj:Bool) (ga:Option Addr) (gn gc:Nat) (z:List Int) (w:World):Prop:=
 ∃lv,w.heap[b]? =some (.cells #[.int .i64 c.Ch,.int .u8 c.A,.int .u8 c.B,.int .u8 c.C,.int .u8 c.D,.int .u8 c.E,.int .u8 c.H,.int .u8 c.L,.bool c.fS,.bool c.fZ,.bool c.fK,.bool c.fAC,.bool c.fP,.bool c.fV,.bool c.fCY,.int .u16 c.SP,.int .u16 c.PC,.bool c.IE,.bool c.De,.bool c.Ha,.int .u8 c.Ma,.bool c.Tr,.bool c.R7,.bool c.WT,.bool c.W7,.bool c.Sa,.bool c.SI,.bool c.SO,.bool inj,.slice ga gn gc,lv] 222 (0,0))∧HeldB w ga gn z∧gn≤gc∧(∀y∈z,0≤y∧y < 256)
theorem MkRd.cells (h:MkRd b c inj ga gn gc z w):
 ∃lv,(∀i,w.cell? ⟨b,i,none⟩=(#[.int .i64 c.Ch,.int .u8 c.A,.int .u8 c.B,.int .u8 c.C,.int .u8 c.D,.int .u8 c.E,.int .u8 c.H,.int .u8 c.L,.bool c.fS,.bool c.fZ,.bool c.fK,.bool c.fAC,.bool c.fP,.bool c.fV,.bool c.fCY,.int .u16 c.SP,.int .u16 c.PC,.bool c.IE,.bool c.De,.bool c.Ha,.int .u8 c.Ma,.bool c.Tr,.bool c.R7,.bool c.WT,.bool c.W7,.bool c.Sa,.bool c.SI,.bool c.SO,.bool inj,.slice ga gn gc,lv]:Array Value)[i]?)∧(∀i,w.frozen? ⟨b,i,none⟩=false)∧b < w.heap.size∧rowOf w b=#[.int .i64 c.Ch,.int .u8 c.A,.int .u8 c.B,.int .u8 c.C,.int .u8 c.D,.int .u8 c.E,.int .u8 c.H,.int .u8 c.L,.bool c.fS,.bool c.fZ,.bool c.fK,.bool c.fAC,.bool c.fP,.bool c.fV,.bool c.fCY,.int .u16 c.SP,.int .u16 c.PC,.bool c.IE,.bool c.De,.bool c.Ha,.int .u8 c.Ma,.bool c.Tr,.bool c.R7,.bool c.WT,.bool c.W7,.bool c.Sa,.bool c.SI,.bool c.SO,.bool inj,.slice ga gn gc,lv]:=by
 obtain ⟨lv,hh,_⟩:=h
 exact ⟨lv,fun i=>cell_of_row w b i _ _ (0,0) hh,fun i=>frozen_of_row w b i _ _ hh,(Array.getElem?_eq_some_iff.1 hh).1,by unfold rowOf;rw [hh];rfl⟩
theorem MkRd.keeps (h:MkRd b c inj ga gn gc z w) (k:Adds w w'):MkRd b c inj ga gn gc z w':=by
 obtain ⟨lv,hh,h5,h6⟩:=h
 have hb:b < w.heap.size:=(Array.getElem?_eq_some_iff.1 hh).1
 exact ⟨lv,(k.below.block b hb).trans hh,h5.adds k,h6⟩
theorem rd_at (b:Nat) (c:S.Cp) (inj:Bool) (ga:Option Addr) (gn gc:Nat) (z:List Int) (i0:0≤i) (w:World) (h:MkRd b c inj ga gn gc z w):
 Calls Tryz.prog 143 #[.pointer (some ⟨b,0,none⟩),.int .i64 i] w fun e w'=>e=.returned (.int .u8 (S.gb z i))∧w=w':=by
 obtain ⟨lv,hc,hf,hb,_⟩:=h.cells
 obtain ⟨_,_,hL0,hgc,_⟩:=h
 have hL:=LowG.of hL0
 obtain ⟨k,rfl⟩:∃k:Nat,i=(k:Int):=⟨i.toNat,by omega⟩
 have hlen:=Lib.hid hL.1.1
 have hl62:=hL.1.2.1
 have c29:=hc 29
 simp only [List.getElem?_toArray,List.getElem?_cons_succ,List.getElem?_cons_zero] at c29
 by_cases hk:k < gn
 ·obtain ⟨bb,o,rfl,hbb,hat⟩:=hL.1.2.2 (by omega)
  have hx:=AtB.el hat (j:=k) (by have:=hlen.out;omega)
  have hz:S.gb z (k:Int)=z.getD k 0:=rfl
  rw [hz]
  clear hat hL hc
  have q:(k:Int) < (gn:Int):=by omega
  go_enter Tryz.func143,Tryz.ntmps143
  go_wp2_with fail
  go_ret
  exact ⟨rfl,rfl⟩
 ·have hz:S.gb z (k:Int)=0:=by
   unfold S.gb
   rw [List.getD_eq_getElem?_getD,List.getElem?_eq_none (by have:=hlen.out;simp;omega)];rfl
  rw [hz]
  clear hL hc
  have q:¬(k:Int) < (gn:Int):=by omega
  go_enter Tryz.func143,Tryz.ntmps143
  go_wp2_with fail
  go_ret
  exact ⟨rfl,rfl⟩
theorem rd_word (b:Nat) (c:S.Cp) (inj:Bool) (ga:Option Addr) (gn gc:Nat) (z:List Int) (i0:0≤i) (i1:i≤1000) (h:MkRd b c inj ga gn gc z w):
 Calls Tryz.prog 159 #[.pointer (some ⟨b,0,none⟩),.int .i64 i] w fun e w'=>e=.returned (.int .u16 (S.gw z i))∧w=w':=by
 obtain ⟨lv,_,_,hb,_⟩:=h.cells
 have H:=Lib.hid h
 have hz:∀y∈z,0≤y∧y < 256:=by obtain ⟨_,_,_,_,hz⟩:=h;exact hz
 have HZ:=Lib.hid hz
 clear h hz
 go_enter Tryz.func159,Tryz.ntmps159
 go_wp2_with (first|(go_at_call 143;refine sm (rd_at b c inj ga gn gc z (by omega) w H.out) ?_)|(go_at_call 166;refine sm (rjoin_any (S.gb_bd HZ.out _).1 (S.gb_bd HZ.out _).2 (S.gb_bd HZ.out _).1 (S.gb_bd HZ.out _).2 w) ?_))
 go_ret
 exact ⟨rfl,rfl⟩
theorem rd_behind (b:Nat) (c:S.Cp) (inj:Bool) (ga:Option Addr) (gn gc:Nat) (z:List Int) {l:Int} (h:MkRd b c inj ga gn gc z w):
 Calls Tryz.prog 147 #[.pointer (some ⟨b,0,none⟩),.int .i64 l] w fun e w'=>e=.returned (.int .u16 (S.bh inj c.PC l))∧w=w':=by
 obtain ⟨lv,hc,hf,hb,_⟩:=h.cells
 clear h
 cases inj
 all_goals
  go_enter Tryz.func147,Tryz.ntmps147
  go_wp2_with fail
  go_ret
  exact ⟨ri (by simp [S.bh,IntKind.wrap,IntKind.bits,IntKind.signed]),rfl⟩
theorem rd_taken (b:Nat) (c:S.Cp) (inj:Bool) (ga:Option Addr) (gn gc:Nat) (z:List Int) (jk jl jd js jp jo jc jn:Int) (h:MkRd b c inj ga gn gc z w):
 Calls Tryz.prog 163 #[.pointer (some ⟨b,0,none⟩),.agg #[.int .i64 jk,.int .i64 jl,.int .i64 jd,.int .i64 js,.int .i64 jp,.int .i64 jo,.int .i64 jc,.int .i64 jn]] w fun e w'=>(∃r:Bool,e=.returned (.bool r))∧Adds w w':=by
 obtain ⟨lv,hc,hf,hb,_⟩:=h.cells
 clear h
 go_enter Tryz.func163,Tryz.ntmps163
 go_wp2_with fail
 go_region_with (go_at_call 184;refine ad (K8.rholds_any) fun n1 os1=> ?_)
 all_goals go_wp2_with fail
 all_goals
  go_ret
  exact ⟨⟨_,rfl⟩,aD⟩
def PostU (ch:Int) (w:World) (e:Ending) (w':World):Prop:=∃q:S.Cp,e=.returned (.agg q.cs)∧q.Ch=ch∧q.Ok∧Adds w w'
theorem PostU.mk {ch:Int} (qCh qA qB qC qD qE qH qL:Int) (qfS qfZ qfK qfAC qfP qfV qfCY:Bool) (qSP qPC:Int) (qIE qDe qHa:Bool) (qMa:Int) (qTr qR7 qWT qW7 qSa qSI qSO:Bool) (h1:qCh=ch) (h2:S.OkR qA qB qC qD qE qH qL qSP qPC) (h3:0≤qMa∧qMa < 256) (h4:Adds w w'):PostU ch w (.returned (.agg #[.int .i64 qCh,.int .u8 qA,.int .u8 qB,.int .u8 qC,.int .u8 qD,.int .u8 qE,.int .u8 qH,.int .u8 qL,.bool qfS,.bool qfZ,.bool qfK,.bool qfAC,.bool qfP,.bool qfV,.bool qfCY,.int .u16 qSP,.int .u16 qPC,.bool qIE,.bool qDe,.bool qHa,.int .u8 qMa,.bool qTr,.bool qR7,.bool qWT,.bool qW7,.bool qSa,.bool qSI,.bool qSO])) w':=⟨⟨qCh,qA,qB,qC,qD,qE,qH,qL,qfS,qfZ,qfK,qfAC,qfP,qfV,qfCY,qSP,qPC,qIE,qDe,qHa,qMa,qTr,qR7,qWT,qW7,qSa,qSI,qSO⟩,rfl,h1,⟨h2,h3⟩,h4⟩
theorem jumped_any (b:Nat) (c:S.Cp) (inj:Bool) (ga:Option Addr) (gn gc:Nat) (z:List Int) (jk jl jd js jp jo jc jn:Int) (hR:c.Ok) (h:MkRd b c inj ga gn gc z w):
 Calls Tryz.prog 144 #[.pointer (some ⟨b,0,none⟩),.agg #[.int .i64 jk,.int .i64 jl,.int .i64 jd,.int .i64 js,.int .i64 jp,.int .i64 jo,.int .i64 jc,.int .i64 jn]] w (PostU c.Ch w):=by
 obtain ⟨lv,hc,hf,hb,hr⟩:=h.cells
 have hz:∀y∈z,0≤y∧y < 256:=by obtain ⟨_,_,_,_,hz⟩:=h;exact hz
 have H:=Lib.hid h
 have HZ:=Lib.hid hz
 have HR:=Lib.hid hR
 clear h hz hR
 go_enter Tryz.func144,Tryz.ntmps144
 go_wp2_with (first
  |(go_at_call 147;refine sm (rd_behind b c inj ga gn gc z (H.out.keeps aD)) ?_)
  |(go_at_call 163;refine (rd_taken b c inj ga gn gc z jk jl jd js jp jo jc jn (H.out.keeps aD)).mono ?_;rintro e w' ⟨⟨r,rfl⟩,⟨⟨n1,os1⟩,rfl⟩⟩)
  |(go_at_call 159;refine sm (rd_word b c inj ga gn gc z (by omega) (by omega) (H.out.keeps aD)) ?_))
 all_goals
  refine bodyPost_ret (ret_CPU Tryz.results144 rfl rfl (by simp [go_sem])) rfl ?_
  simp [go_sem]
  refine PostU.mk _ _ _ _ _ _ _ _ _ _ _ _ _ _ _ _ _ _ _ _ _ _ _ _ _ _ _ _ rfl ⟨HR.out.1.a,HR.out.1.b,HR.out.1.c,HR.out.1.d,HR.out.1.e,HR.out.1.h,HR.out.1.l,?_,?_⟩ HR.out.2 aD
  ·first|exact HR.out.1.sp|exact w16_bd|(simp;done)|(simp;omega)
  ·first|exact S.bh_bd HR.out.1.pc|exact S.gw_bd HZ.out|exact w16_bd|(simp;done)|(simp;omega)
end
section
variable {w w':World}
structure S.Co where
 c:S.Cp
 src:Int
 ga:Option Addr
 gn:Nat
 gc:Nat
 y:S.Cy
 nx:Int
 ho:Bool
def S.Co.cs (x:S.Co):Array Value:=#[.int .i64 x.c.Ch,.int .u8 x.c.A,.int .u8 x.c.B,.int .u8 x.c.C,.int .u8 x.c.D,.int .u8 x.c.E,.int .u8 x.c.H,.int .u8 x.c.L,.bool x.c.fS,.bool x.c.fZ,.bool x.c.fK,.bool x.c.fAC,.bool x.c.fP,.bool x.c.fV,.bool x.c.fCY,.int .u16 x.c.SP,.int .u16 x.c.PC,.bool x.c.IE,.bool x.c.De,.bool x.c.Ha,.int .u8 x.c.Ma,.bool x.c.Tr,.bool x.c.R7,.bool x.c.WT,.bool x.c.W7,.bool x.c.Sa,.bool x.c.SI,.bool x.c.SO,.int .i64 x.src,.slice x.ga x.gn x.gc,.int .i64 x.y.k,.int .u16 x.y.a,.int .u8 x.y.d,.int .i64 x.y.s,.int .i64 x.nx,.bool x.ho]
structure CoOk (x:S.Co) (z:List Int) (w:World):Prop where
 c:x.c.Ok
 y:x.y.Ok
 nx:1≤x.nx∧x.nx≤9
 held:HeldB w x.ga x.gn z
 gc:x.gn≤x.gc∧x.gc≤9223372036854775807
 by_:∀y∈z,0≤y∧y < 256
 nn:x.ga=none→x.gc=0
theorem CoOk.adds {x:S.Co} {z:List Int} (h:CoOk x z w) (k:Adds w w'):CoOk x z w':=⟨h.c,h.y,h.nx,h.held.adds k,h.gc,h.by_,h.nn⟩
def PostY (w:World) (e:Ending) (w':World):Prop:=∃x:S.Cy,e=.returned (.agg #[.int .i64 x.k,.int .u16 x.a,.int .u8 x.d,.int .i64 x.s])∧x.Ok∧Adds w w'
def PostK (ch:Int) (P:S.Co→Prop) (w:World) (e:Ending) (w':World):Prop:=∃(x:S.Co) (z:List Int),e=.returned (.agg #[.int .i64 x.c.Ch,.int .u8 x.c.A,.int .u8 x.c.B,.int .u8 x.c.C,.int .u8 x.c.D,.int .u8 x.c.E,.int .u8 x.c.H,.int .u8 x.c.L,.bool x.c.fS,.bool x.c.fZ,.bool x.c.fK,.bool x.c.fAC,.bool x.c.fP,.bool x.c.fV,.bool x.c.fCY,.int .u16 x.c.SP,.int .u16 x.c.PC,.bool x.c.IE,.bool x.c.De,.bool x.c.Ha,.int .u8 x.c.Ma,.bool x.c.Tr,.bool x.c.R7,.bool x.c.WT,.bool x.c.W7,.bool x.c.Sa,.bool x.c.SI,.bool x.c.SO,.int .i64 x.src,.slice x.ga x.gn x.gc,.int .i64 x.y.k,.int .u16 x.y.a,.int .u8 x.y.d,.int .i64 x.y.s,.int .i64 x.nx,.bool x.ho])∧x.c.Ch=ch∧CoOk x z w'∧P x∧Adds w w'
theorem PostK.mk {ch:Int} {P:S.Co→Prop} (qCh qA qB qC qD qE qH qL:Int) (qfS qfZ qfK qfAC qfP qfV qfCY:Bool) (qSP qPC:Int) (qIE qDe qHa:Bool) (qMa:Int) (qTr qR7 qWT qW7 qSa qSI qSO:Bool) (src:Int) (ga:Option Addr) (gn gc:Nat) (k a d s nx:Int) (ho:Bool) (z:List Int) (h1:qCh=ch) (h2:CoOk ⟨⟨qCh,qA,qB,qC,qD,qE,qH,qL,qfS,qfZ,qfK,qfAC,qfP,qfV,qfCY,qSP,qPC,qIE,qDe,qHa,qMa,qTr,qR7,qWT,qW7,qSa,qSI,qSO⟩,src,ga,gn,gc,⟨k,a,d,s⟩,nx,ho⟩ z w') (h3:P ⟨⟨qCh,qA,qB,qC,qD,qE,qH,qL,qfS,qfZ,qfK,qfAC,qfP,qfV,qfCY,qSP,qPC,qIE,qDe,qHa,qMa,qTr,qR7,qWT,qW7,qSa,qSI,qSO⟩,src,ga,gn,gc,⟨k,a,d,s⟩,nx,ho⟩) (h4:Adds w w'):
 PostK ch P w (.returned (.agg #[.int .i64 qCh,.int .u8 qA,.int .u8 qB,.int .u8 qC,.int .u8 qD,.int .u8 qE,.int .u8 qH,.int .u8 qL,.bool qfS,.bool qfZ,.bool qfK,.bool qfAC,.bool qfP,.bool qfV,.bool qfCY,.int .u16 qSP,.int .u16 qPC,.bool qIE,.bool qDe,.bool qHa,.int .u8 qMa,.bool qTr,.bool qR7,.bool qWT,.bool qW7,.bool qSa,.bool qSI,.bool qSO,.int .i64 src,.slice ga gn gc,.int .i64 k,.int .u16 a,.int .u8 d,.int .i64 s,.int .i64 nx,.bool ho])) w':=⟨⟨⟨qCh,qA,qB,qC,qD,qE,qH,qL,qfS,qfZ,qfK,qfAC,qfP,qfV,qfCY,qSP,qPC,qIE,qDe,qHa,qMa,qTr,qR7,qWT,qW7,qSa,qSI,qSO⟩,src,ga,gn,gc,⟨k,a,d,s⟩,nx,ho⟩,z,rfl,h1,h2,h3,h4⟩
end
section
variable {P:Program} {b m n:Nat} {cs tmps:Array Value} {v0:Value} {w:World}
structure S.Sy where
 k:S.Co
 ma:Option Addr
 mn:Nat
 mc:Nat
 p:K22.S.Pc
 da:Int
 dv:Int
 dl:Int
 wt:Int
 oa:Option Addr
 on:Nat
 oc:Nat
structure S.Bd where
 ch:Int
 ra:Option Addr
 rn:Nat
 rc:Nat
 iw:Int
 pp:Int
 dp:Int
 jm:Bool
 ia:Option Addr
 ni:Nat
 ic:Nat
structure S.Mo where
 Re:Bool
 Ho:Bool
 Rs:Bool
 Si:Bool
 Tr:Bool
 R7:Bool
 R6:Bool
 R5:Bool
 In:Bool
 da:Int
 ca:Int
 cv:Int
 mv:Bool
theorem ret4_all {fn:Func} {p q:Tmp} {t u:TypeId} {fs gs:Array Field} (hf:fn.results=#[.cell p t,.cell q u]) (hu:P.underlying t=some (.struct fs)) (hi:(P.info? t).map (·.size)=some n) (hn:0 < n) (hu2:P.underlying u=some (.struct gs)) (hi2:(P.info? u).map (·.size)=some m) (hm:0 < m) (tmps:Array Value) (w:World) (b c:Nat) (cs ds:Array Value)
 (hp:tmps.getD p undef=.pointer (some ⟨b,0,none⟩)) (hr:rowOf w b=cs) (hs:cs.size=n) (hq:tmps.getD q undef=.pointer (some ⟨c,0,none⟩)) (hr2:rowOf w c=ds) (hs2:ds.size=m):(results fn tmps).run P w=.ok (.tuple #[.agg cs,.agg ds]) w:=by
 subst hr hr2
 have hl:(loadVar t ⟨b,0,none⟩).run P w=.ok (.agg (rowOf w b)) w:=run_all hu hi hn w b hs
 have hl2:(loadVar u ⟨c,0,none⟩).run P w=.ok (.agg (rowOf w c)) w:=run_all hu2 hi2 hm w c hs2
 have hp':tmps[p]?.getD undef=.pointer (some ⟨b,0,none⟩):=by simpa using hp
 have hq':tmps[q]?.getD undef=.pointer (some ⟨c,0,none⟩):=by simpa using hq
 simp [results,hf,hp',hq',asAddr,hl,hl2]
theorem ret5_all {fn:Func} {p q r:Tmp} {t u v:TypeId} {l:Nat} {fs gs hs':Array Field} (hf:fn.results=#[.cell p t,.cell q u,.cell r v]) (hu:P.underlying t=some (.struct fs)) (hi:(P.info? t).map (·.size)=some n) (hn:0 < n) (hu2:P.underlying u=some (.struct gs)) (hi2:(P.info? u).map (·.size)=some m) (hm:0 < m) (hu3:P.underlying v=some (.struct hs')) (hi3:(P.info? v).map (·.size)=some l) (hl0:0 < l) (tmps:Array Value) (w:World) (b c d:Nat) (cs ds es:Array Value)
 (hp:tmps.getD p undef=.pointer (some ⟨b,0,none⟩)) (hr:rowOf w b=cs) (hs:cs.size=n) (hq:tmps.getD q undef=.pointer (some ⟨c,0,none⟩)) (hr2:rowOf w c=ds) (hs2:ds.size=m) (hq3:tmps.getD r undef=.pointer (some ⟨d,0,none⟩)) (hr3:rowOf w d=es) (hs3:es.size=l):(results fn tmps).run P w=.ok (.tuple #[.agg cs,.agg ds,.agg es]) w:=by
 subst hr hr2 hr3
 have hl:(loadVar t ⟨b,0,none⟩).run P w=.ok (.agg (rowOf w b)) w:=run_all hu hi hn w b hs
 have hl2:(loadVar u ⟨c,0,none⟩).run P w=.ok (.agg (rowOf w c)) w:=run_all hu2 hi2 hm w c hs2
 have hl3:(loadVar v ⟨d,0,none⟩).run P w=.ok (.agg (rowOf w d)) w:=run_all hu3 hi3 hl0 w d hs3
 have hp':tmps[p]?.getD undef=.pointer (some ⟨b,0,none⟩):=by simpa using hp
 have hq':tmps[q]?.getD undef=.pointer (some ⟨c,0,none⟩):=by simpa using hq
 have hq3':tmps[r]?.getD undef=.pointer (some ⟨d,0,none⟩):=by simpa using hq3
 simp [results,hf,hp',hq',hq3',asAddr,hl,hl2,hl3]
theorem ret_System {fn:Func} {p:Tmp} (hf:fn.results=#[.cell p 67]) (hp:tmps.getD p undef=.pointer (some ⟨b,0,none⟩)) (hr:rowOf w b=cs) (hs:cs.size=62):(results fn tmps).run Tryz.prog w=.ok (.agg cs) w:=
 ret_all hf Tryz.underlying67 (by kernel_rfl) (by decide) tmps w b cs hp hr hs
theorem ret3_System {fn:Func} {p0 p:Tmp} (hf:fn.results=#[.cell p 67,.tmp p0]) (h0:tmps.getD p0 undef=v0) (hp:tmps.getD p undef=.pointer (some ⟨b,0,none⟩)) (hr:rowOf w b=cs) (hs:cs.size=62):(results fn tmps).run Tryz.prog w=.ok (.tuple #[.agg cs,v0]) w:=
 ret3_all hf Tryz.underlying67 (by kernel_rfl) (by decide) tmps w b cs v0 h0 hp hr hs
@[go_sem ↓] theorem load_System (a:Addr):loadVar 67 a=wholeVar 67 a:=by unfold wholeVar;rfl
@[go_sem ↓] theorem store_System (a:Addr) (v:Value):storeVar 67 a v=wholeSet 67 a v:=by unfold wholeSet;rfl
@[go_sem] theorem run_load_System (w:World) (b:Nat) (h:(rowOf w b).size=62):(wholeVar 67 ⟨b,0,none⟩).run Tryz.prog w=.ok (.agg (rowOf w b)) w:=
 run_all Tryz.underlying67 (by kernel_rfl) (by decide) w b h
@[go_sem] theorem run_store_System (w:World) (b:Nat) (cs:Array Value) (hc:cs.size=62) (h:(rowOf w b).size=62) (h1:ones cs.toList=true):(wholeSet 67 ⟨b,0,none⟩ (.agg cs)).run Tryz.prog w=.ok () (w.setRow b cs):=
 set_all (by kernel_rfl) w b cs hc (by decide) h h1
@[go_sem] theorem run_load_System_in (w:World) (b o:Nat) (h:62 < (rowOf w b).size∧o+62≤(rowOf w b).size):(wholeVar 67 ⟨b,o,none⟩).run Tryz.prog w=.ok (.agg (part8 o 62 (rowOf w b))) w:=
 run_part Tryz.underlying67 (by kernel_rfl) (by decide) w b o h.2
@[go_sem] theorem run_store_System_in (w:World) (b o:Nat) (cs:Array Value) (hc:cs.size=62) (h:62 < (rowOf w b).size∧o+62≤(rowOf w b).size) (h1:ones cs.toList=true):(wholeSet 67 ⟨b,o,none⟩ (.agg cs)).run Tryz.prog w=.ok () (w.setRow b (put8 o cs (rowOf w b))):=
 set_part (by kernel_rfl) w b o cs hc (by decide) h.2 h1
theorem ret_Board {fn:Func} {p:Tmp} (hf:fn.results=#[.cell p 46]) (hp:tmps.getD p undef=.pointer (some ⟨b,0,none⟩)) (hr:rowOf w b=cs) (hs:cs.size=7):(results fn tmps).run Tryz.prog w=.ok (.agg cs) w:=
 ret_all hf Tryz.underlying46 (by kernel_rfl) (by decide) tmps w b cs hp hr hs
@[go_sem ↓] theorem load_Board (a:Addr):loadVar 46 a=wholeVar 46 a:=by unfold wholeVar;rfl
@[go_sem ↓] theorem store_Board (a:Addr) (v:Value):storeVar 46 a v=wholeSet 46 a v:=by unfold wholeSet;rfl
@[go_sem] theorem run_load_Board (w:World) (b:Nat) (h:(rowOf w b).size=7):(wholeVar 46 ⟨b,0,none⟩).run Tryz.prog w=.ok (.agg (rowOf w b)) w:=
 run_all Tryz.underlying46 (by kernel_rfl) (by decide) w b h
@[go_sem] theorem run_store_Board (w:World) (b:Nat) (cs:Array Value) (hc:cs.size=7) (h:(rowOf w b).size=7) (h1:ones cs.toList=true):(wholeSet 46 ⟨b,0,none⟩ (.agg cs)).run Tryz.prog w=.ok () (w.setRow b cs):=
 set_all (by kernel_rfl) w b cs hc (by decide) h h1
@[go_sem] theorem run_load_Board_in (w:World) (b o:Nat) (h:7 < (rowOf w b).size∧o+7≤(rowOf w b).size):(wholeVar 46 ⟨b,o,none⟩).run Tryz.prog w=.ok (.agg (part8 o 7 (rowOf w b))) w:=
 run_part Tryz.underlying46 (by kernel_rfl) (by decide) w b o h.2
@[go_sem] theorem run_store_Board_in (w:World) (b o:Nat) (cs:Array Value) (hc:cs.size=7) (h:7 < (rowOf w b).size∧o+7≤(rowOf w b).size) (h1:ones cs.toList=true):(wholeSet 46 ⟨b,o,none⟩ (.agg cs)).run Tryz.prog w=.ok () (w.setRow b (put8 o cs (rowOf w b))):=
 set_part (by kernel_rfl) w b o cs hc (by decide) h.2 h1
@[go_sem ↓] theorem load_Moment (a:Addr):loadVar 99 a=wholeVar 99 a:=by unfold wholeVar;rfl
@[go_sem ↓] theorem store_Moment (a:Addr) (v:Value):storeVar 99 a v=wholeSet 99 a v:=by unfold wholeSet;rfl
@[go_sem] theorem run_load_Moment (w:World) (b:Nat) (h:(rowOf w b).size=13):(wholeVar 99 ⟨b,0,none⟩).run Tryz.prog w=.ok (.agg (rowOf w b)) w:=
 run_all Tryz.underlying99 (by kernel_rfl) (by decide) w b h
@[go_sem] theorem run_store_Moment (w:World) (b:Nat) (cs:Array Value) (hc:cs.size=13) (h:(rowOf w b).size=13) (h1:ones cs.toList=true):(wholeSet 99 ⟨b,0,none⟩ (.agg cs)).run Tryz.prog w=.ok () (w.setRow b cs):=
 set_all (by kernel_rfl) w b cs hc (by decide) h h1
@[go_sem] theorem run_load_Moment_in (w:World) (b o:Nat) (h:13 < (rowOf w b).size∧o+13≤(rowOf w b).size):(wholeVar 99 ⟨b,o,none⟩).run Tryz.prog w=.ok (.agg (part8 o 13 (rowOf w b))) w:=
 run_part Tryz.underlying99 (by kernel_rfl) (by decide) w b o h.2
@[go_sem] theorem run_store_Moment_in (w:World) (b o:Nat) (cs:Array Value) (hc:cs.size=13) (h:13 < (rowOf w b).size∧o+13≤(rowOf w b).size) (h1:ones cs.toList=true):(wholeSet 99 ⟨b,o,none⟩ (.agg cs)).run Tryz.prog w=.ok () (w.setRow b (put8 o cs (rowOf w b))):=
 set_part (by kernel_rfl) w b o cs hc (by decide) h.2 h1
theorem ret3_Run {fn:Func} {p0 p:Tmp} (hf:fn.results=#[.cell p 69,.tmp p0]) (h0:tmps.getD p0 undef=v0) (hp:tmps.getD p undef=.pointer (some ⟨b,0,none⟩)) (hr:rowOf w b=cs) (hs:cs.size=66):(results fn tmps).run Tryz.prog w=.ok (.tuple #[.agg cs,v0]) w:=
 ret3_all hf Tryz.underlying69 (by kernel_rfl) (by decide) tmps w b cs v0 h0 hp hr hs
@[go_sem ↓] theorem load_Run (a:Addr):loadVar 69 a=wholeVar 69 a:=by unfold wholeVar;rfl
@[go_sem ↓] theorem store_Run (a:Addr) (v:Value):storeVar 69 a v=wholeSet 69 a v:=by unfold wholeSet;rfl
@[go_sem] theorem run_load_Run (w:World) (b:Nat) (h:(rowOf w b).size=66):(wholeVar 69 ⟨b,0,none⟩).run Tryz.prog w=.ok (.agg (rowOf w b)) w:=
 run_all Tryz.underlying69 (by kernel_rfl) (by decide) w b h
@[go_sem] theorem run_store_Run (w:World) (b:Nat) (hc:cs.size=66) (h:(rowOf w b).size=66) (h1:ones cs.toList=true):(wholeSet 69 ⟨b,0,none⟩ (.agg cs)).run Tryz.prog w=.ok () (w.setRow b cs):=
 set_all (by kernel_rfl) w b cs hc (by decide) h h1
@[go_sem] theorem run_load_Run_in (w:World) (b o:Nat) (h:66 < (rowOf w b).size∧o+66≤(rowOf w b).size):(wholeVar 69 ⟨b,o,none⟩).run Tryz.prog w=.ok (.agg (part8 o 66 (rowOf w b))) w:=
 run_part Tryz.underlying69 (by kernel_rfl) (by decide) w b o h.2
@[go_sem] theorem run_store_Run_in (w:World) (b o:Nat) (cs:Array Value) (hc:cs.size=66) (h:66 < (rowOf w b).size∧o+66≤(rowOf w b).size) (h1:ones cs.toList=true):(wholeSet 69 ⟨b,o,none⟩ (.agg cs)).run Tryz.prog w=.ok () (w.setRow b (put8 o cs (rowOf w b))):=
 set_part (by kernel_rfl) w b o cs hc (by decide) h.2 h1
theorem ret_Event {fn:Func} {p:Tmp} (hf:fn.results=#[.cell p 109]) (hp:tmps.getD p undef=.pointer (some ⟨b,0,none⟩)) (hr:rowOf w b=cs) (hs:cs.size=18):(results fn tmps).run Tryz.prog w=.ok (.agg cs) w:=
 ret_all hf Tryz.underlying109 (by kernel_rfl) (by decide) tmps w b cs hp hr hs
@[go_sem ↓] theorem load_Event (a:Addr):loadVar 109 a=wholeVar 109 a:=by unfold wholeVar;rfl
@[go_sem ↓] theorem store_Event (a:Addr) (v:Value):storeVar 109 a v=wholeSet 109 a v:=by unfold wholeSet;rfl
@[go_sem] theorem run_load_Event (w:World) (b:Nat) (h:(rowOf w b).size=18):(wholeVar 109 ⟨b,0,none⟩).run Tryz.prog w=.ok (.agg (rowOf w b)) w:=
 run_all Tryz.underlying109 (by kernel_rfl) (by decide) w b h
@[go_sem] theorem run_store_Event (w:World) (b:Nat) (cs:Array Value) (hc:cs.size=18) (h:(rowOf w b).size=18) (h1:ones cs.toList=true):(wholeSet 109 ⟨b,0,none⟩ (.agg cs)).run Tryz.prog w=.ok () (w.setRow b cs):=
 set_all (by kernel_rfl) w b cs hc (by decide) h h1
@[go_sem] theorem run_load_Event_in (w:World) (b o:Nat) (h:18 < (rowOf w b).size∧o+18≤(rowOf w b).size):(wholeVar 109 ⟨b,o,none⟩).run Tryz.prog w=.ok (.agg (part8 o 18 (rowOf w b))) w:=
 run_part Tryz.underlying109 (by kernel_rfl) (by decide) w b o h.2
@[go_sem] theorem run_store_Event_in (w:World) (b o:Nat) (cs:Array Value) (hc:cs.size=18) (h:18 < (rowOf w b).size∧o+18≤(rowOf w b).size) (h1:ones cs.toList=true):(wholeSet 109 ⟨b,o,none⟩ (.agg cs)).run Tryz.prog w=.ok () (w.setRow b (put8 o cs (rowOf w b))):=
 set_part (by kernel_rfl) w b o cs hc (by decide) h.2 h1
@[go_sem ↓] theorem load_Output (a:Addr):loadVar 194 a=wholeVar 194 a:=by unfold wholeVar;rfl
@[go_sem ↓] theorem store_Output (a:Addr) (v:Value):storeVar 194 a v=wholeSet 194 a v:=by unfold wholeSet;rfl
@[go_sem] theorem run_load_Output (w:World) (b:Nat) (h:(rowOf w b).size=2):(wholeVar 194 ⟨b,0,none⟩).run Tryz.prog w=.ok (.agg (rowOf w b)) w:=
 run_all Tryz.underlying194 (by kernel_rfl) (by decide) w b h
@[go_sem] theorem run_store_Output (w:World) (b:Nat) (cs:Array Value) (hc:cs.size=2) (h:(rowOf w b).size=2) (h1:ones cs.toList=true):(wholeSet 194 ⟨b,0,none⟩ (.agg cs)).run Tryz.prog w=.ok () (w.setRow b cs):=
 set_all (by kernel_rfl) w b cs hc (by decide) h h1
@[go_sem] theorem run_load_Output_in (w:World) (b o:Nat) (h:2 < (rowOf w b).size∧o+2≤(rowOf w b).size):(wholeVar 194 ⟨b,o,none⟩).run Tryz.prog w=.ok (.agg (part8 o 2 (rowOf w b))) w:=
 run_part Tryz.underlying194 (by kernel_rfl) (by decide) w b o h.2
@[go_sem] theorem run_store_Output_in (w:World) (b o:Nat) (cs:Array Value) (hc:cs.size=2) (h:2 < (rowOf w b).size∧o+2≤(rowOf w b).size) (h1:ones cs.toList=true):(wholeSet 194 ⟨b,o,none⟩ (.agg cs)).run Tryz.prog w=.ok () (w.setRow b (put8 o cs (rowOf w b))):=
 set_part (by kernel_rfl) w b o cs hc (by decide) h.2 h1
@[go_sem ↓] theorem load_Cell (a:Addr):loadVar 97 a=wholeVar 97 a:=by unfold wholeVar;rfl
@[go_sem ↓] theorem store_Cell (a:Addr) (v:Value):storeVar 97 a v=wholeSet 97 a v:=by unfold wholeSet;rfl
@[go_sem] theorem run_load_Cell (w:World) (b:Nat) (h:(rowOf w b).size=2):(wholeVar 97 ⟨b,0,none⟩).run Tryz.prog w=.ok (.agg (rowOf w b)) w:=
 run_all Tryz.underlying97 (by kernel_rfl) (by decide) w b h
@[go_sem] theorem run_store_Cell (w:World) (b:Nat) (cs:Array Value) (hc:cs.size=2) (h:(rowOf w b).size=2) (h1:ones cs.toList=true):(wholeSet 97 ⟨b,0,none⟩ (.agg cs)).run Tryz.prog w=.ok () (w.setRow b cs):=
 set_all (by kernel_rfl) w b cs hc (by decide) h h1
@[go_sem] theorem run_load_Cell_in (w:World) (b o:Nat) (h:2 < (rowOf w b).size∧o+2≤(rowOf w b).size):(wholeVar 97 ⟨b,o,none⟩).run Tryz.prog w=.ok (.agg (part8 o 2 (rowOf w b))) w:=
 run_part Tryz.underlying97 (by kernel_rfl) (by decide) w b o h.2
@[go_sem] theorem run_store_Cell_in (w:World) (b o:Nat) (cs:Array Value) (hc:cs.size=2) (h:2 < (rowOf w b).size∧o+2≤(rowOf w b).size) (h1:ones cs.toList=true):(wholeSet 97 ⟨b,o,none⟩ (.agg cs)).run Tryz.prog w=.ok () (w.setRow b (put8 o cs (rowOf w b))):=
 set_part (by kernel_rfl) w b o cs hc (by decide) h.2 h1
@[go_sem ↓] theorem load_DMA (a:Addr):loadVar 64 a=wholeVar 64 a:=by unfold wholeVar;rfl
@[go_sem ↓] theorem store_DMA (a:Addr) (v:Value):storeVar 64 a v=wholeSet 64 a v:=by unfold wholeSet;rfl
@[go_sem] theorem run_load_DMA (w:World) (b:Nat) (h:(rowOf w b).size=3):(wholeVar 64 ⟨b,0,none⟩).run Tryz.prog w=.ok (.agg (rowOf w b)) w:=
 run_all Tryz.underlying64 (by kernel_rfl) (by decide) w b h
@[go_sem] theorem run_store_DMA (w:World) (b:Nat) (cs:Array Value) (hc:cs.size=3) (h:(rowOf w b).size=3) (h1:ones cs.toList=true):(wholeSet 64 ⟨b,0,none⟩ (.agg cs)).run Tryz.prog w=.ok () (w.setRow b cs):=
 set_all (by kernel_rfl) w b cs hc (by decide) h h1
@[go_sem] theorem run_load_DMA_in (w:World) (b o:Nat) (h:3 < (rowOf w b).size∧o+3≤(rowOf w b).size):(wholeVar 64 ⟨b,o,none⟩).run Tryz.prog w=.ok (.agg (part8 o 3 (rowOf w b))) w:=
 run_part Tryz.underlying64 (by kernel_rfl) (by decide) w b o h.2
@[go_sem] theorem run_store_DMA_in (w:World) (b o:Nat) (cs:Array Value) (hc:cs.size=3) (h:3 < (rowOf w b).size∧o+3≤(rowOf w b).size) (h1:ones cs.toList=true):(wholeSet 64 ⟨b,o,none⟩ (.agg cs)).run Tryz.prog w=.ok () (w.setRow b (put8 o cs (rowOf w b))):=
 set_part (by kernel_rfl) w b o cs hc (by decide) h.2 h1
@[go_sem] theorem run_load_Lines_in (w:World) (b o:Nat) (h:9 < (rowOf w b).size∧(rowOf w b).size < 28∧o+9≤(rowOf w b).size):(wholeVar 95 ⟨b,o,none⟩).run Tryz.prog w=.ok (.agg (part8 o 9 (rowOf w b))) w:=
 run_part Tryz.underlying95 (by kernel_rfl) (by decide) w b o h.2.2
@[go_sem] theorem run_store_Lines_in (w:World) (b o:Nat) (cs:Array Value) (hc:cs.size=9) (h:9 < (rowOf w b).size∧(rowOf w b).size < 28∧o+9≤(rowOf w b).size) (h1:ones cs.toList=true):(wholeSet 95 ⟨b,o,none⟩ (.agg cs)).run Tryz.prog w=.ok () (w.setRow b (put8 o cs (rowOf w b))):=
 set_part (by kernel_rfl) w b o cs hc (by decide) h.2.2 h1
end
section
variable {L n:Nat} {a:Option Addr} {d m:List K12.Cl} {os:List S.Ou} {p:K22.S.Pc} {w w':World} {x:S.Sy} {z:List Int}
@[go_sem] theorem rowOf_setRow_ne (w:World) (b k:Nat) (cs:Array Value) (h:k≠b):rowOf (w.setRow b cs) k=rowOf w k:=rowOf_setRow_other w b k cs h
@[go_sem] theorem rowOf_setRow_eq (w:World) (b:Nat) (cs:Array Value) (h:0 < (rowOf w b).size):rowOf (w.setRow b cs) b=cs:=rowOf_setRow_same w b cs h
@[go_sem] theorem cell_setRow_ne (w:World) (b k i:Nat) (cs:Array Value) (h:k≠b):(w.setRow b cs).cell? ⟨k,i,none⟩=w.cell? ⟨k,i,none⟩:=World.cell?_of_block (a:=⟨k,i,none⟩) (heap_setRow_other w b k cs h)
@[go_sem] theorem InB_setRow (b k:Nat) (w:World) (cs:Array Value):InB k (w.setRow b cs)=InB k w:=by unfold InB;rw [size_setRow]
def Okq (p:K22.S.Pc):Prop:=K22.S.Ok p∧(0≤p.IM∧p.IM < 256)∧(0≤p.Li∧p.Li < 256)∧(0≤p.Ed∧p.Ed < 256)
theorem Okq.nw:Okq K22.S.nw:=by unfold Okq K22.S.Ok K22.S.nw;simp
theorem Okq.raise (h:Okq p) {l:Int} (hl:0≤l∧l < 256):Okq (K22.S.raise p l):=⟨K22.S.Ok_raise h.1 l,h.2.1,hl,K22.S.pr_and_bd⟩
theorem Okq.en (h:Okq p) (n:Int) (r:Bool):Okq (K22.S.en p n r):=by
 refine ⟨K22.S.Ok_en h.1 n r,?_⟩
 unfold K22.S.en
 split<;>exact h.2
theorem Okq.sv (h:Okq p) (n:Int):Okq (K22.S.sv p n):=⟨K22.S.Ok_sv h.1 n,h.2.1,h.2.2.1,K22.S.andNot_bd _ _⟩
theorem Okq.wr (h:Okq p) (hi:Bool) {v:Int} (hv:0≤v∧v < 256):Okq (K22.S.wr p hi v):=by
 refine ⟨K22.S.Ok_wr h.1 hi hv,?_⟩
 unfold K22.S.wr
 split
 ·unfold K22.S.wrH
  split
  ·exact h.2
  ·split
   ·exact h.2
   ·split
    ·exact h.2
    ·exact ⟨hv,h.2.2⟩
 ·split
  ·exact ⟨⟨by show (0:Int)≤0;omega,by show (0:Int) < 256;omega⟩,h.2.2.1,by show (0:Int)≤0;omega,by show (0:Int) < 256;omega⟩
  ·split
   ·exact h.2
   ·unfold K22.S.cmd
    repeat' split
    all_goals first|exact h.2|exact (Okq.en h _ _).2
theorem Okq.rdP (h:Okq p) (hi:Bool):Okq (K22.S.rdP p hi):=by
 unfold K22.S.rdP
 split
 ·exact h
 ·split
  ·unfold K22.S.poll
   split
   ·exact h
   ·split
    ·exact Okq.en (Okq.sv (p:={p with Po:=false}) h _) _ _
    ·exact Okq.sv (p:={p with Po:=false}) h _
  ·exact h
theorem Okq.ack (h:Okq p):Okq (K22.S.ack p):=by
 unfold K22.S.ack
 split
 ·unfold K22.S.ch
  split
  ·exact h
  ·exact Okq.sv (p:={p with Sq:=1,Sv:=K22.S.pkc p,Su:=false}) h _
 ·split
  ·exact h
  ·unfold K22.S.fin
   split
   ·exact Okq.en (p:={p with Sq:=0}) h _ _
   ·exact h
theorem Okq.rdW (h:Okq p) (hi:Bool):0≤K22.S.rdW p hi∧K22.S.rdW p hi < 256:=by
 unfold K22.S.rdW
 split
 ·exact h.2.1
 ·split
  ·unfold K22.S.pollV
   have:=K22.S.pkc_bd p
   split<;>omega
  ·split
   ·exact h.1.1
   ·unfold K22.S.req;split
    ·exact h.2.2.1
    ·exact h.2.2.2
theorem Okq.ackV (h:Okq p):0≤K22.S.ackV p∧K22.S.ackV p < 256:=by
 unfold K22.S.ackV
 split
 ·omega
 ·split
  ·unfold K22.S.low;split<;>omega
  ·exact h.1.2.2
structure SyOk (L:Nat) (x:S.Sy) (z:List Int) (m:List K12.Cl) (os:List S.Ou) (w:World):Prop where
 k:CoOk x.k z w
 gl:x.k.gn≤L
 mh:K12.Held w x.ma x.mn m
 mc:x.mn≤x.mc∧x.mc≤9223372036854775807
 ml:x.mn≤L
 mb:∀y,0≤K12.Sm.get m y∧K12.Sm.get m y < 256
 p:Okq x.p
 da:0≤x.da∧x.da < 65536
 dv:0≤x.dv∧x.dv < 256
 dl:0≤x.dl∧x.dl < 256
 o:HeldO w x.oa x.on os
 oc:x.on≤x.oc∧x.oc≤9223372036854775807
 ol:x.on≤L
 oz:x.oa=none→x.oc=0
theorem SyOk.adds (h:SyOk L x z m os w) (k:Adds w w'):SyOk L x z m os w':=
 ⟨h.k.adds k,h.gl,h.mh.adds k,h.mc,h.ml,h.mb,h.p,h.da,h.dv,h.dl,h.o.adds k,h.oc,h.ol,h.oz⟩
theorem SyOk.mono {M:Nat} (h:SyOk L x z m os w) (k:L≤M):SyOk M x z m os w:=
 ⟨h.k,Nat.le_trans h.gl k,h.mh,h.mc,Nat.le_trans h.ml k,h.mb,h.p,h.da,h.dv,h.dl,h.o,h.oc,Nat.le_trans h.ol k,h.oz⟩
theorem K12.Held.tch {S:Nat→Prop} (h:K12.Held w a n d) (k:Tch S w w') (hs:Off S a n):K12.Held w' a n d:=
 ⟨h.1,h.2.1,fun hn=>by
   obtain ⟨b,o,ha,hb,hat⟩:=h.2.2 hn
   exact ⟨b,o,ha,by have:=k.size;omega,hat.keep fun i=>k.cell hb (hs b o ha hn)⟩⟩
theorem SyOk.tch {S:Nat→Prop} (h:SyOk L x z m os w) (k:Tch S w w') (h1:Off S x.k.ga x.k.gn) (h2:Off S x.ma x.mn) (h3:Off S x.oa x.on):SyOk L x z m os w':=
 ⟨⟨h.k.c,h.k.y,h.k.nx,h.k.held.tch k h1,h.k.gc,h.k.by_,h.k.nn⟩,h.gl,h.mh.tch k h2,h.mc,h.ml,h.mb,h.p,h.da,h.dv,h.dl,h.o.tch k h3,h.oc,h.ol,h.oz⟩
theorem K12.Owns.nw {base cap:Nat} (h:K12.Owns w base (.slice a n cap) d):Nw base a n:=fun b o e hn=>by
 subst e
 exact (World.ownsRow.lt h b rfl).1
structure BdOk (b:S.Bd) (l:List K12.Rg) (w:World):Prop where
 r:K12.HeldR w b.ra b.rn l
 rc:b.rn≤b.rc∧b.rc≤9223372036854775807
 pp:0≤b.pp∧b.pp < 256
 dp:0≤b.dp∧b.dp < 256
theorem BdOk.adds {b:S.Bd} {l:List K12.Rg} (h:BdOk b l w) (k:Adds w w'):BdOk b l w':=⟨h.r.adds k,h.rc,h.pp,h.dp⟩
def PostI (w:World) (e:Ending) (w':World):Prop:=∃i:Int,e=.returned (.int .i64 i)∧Adds w w'
end
section
variable {M N b bi br gc gn n:Nat} {c:S.Cp} {ga:Option Addr} {inj:Bool} {ji:Array Value} {pr ps:List Nat} {w w' w1:World} {z:List Int}
theorem row_cells {cs:Array Value} (h:rowOf w b=cs) (h0:0 < cs.size):(∀i,w.cell? ⟨b,i,none⟩=cs[i]?)∧b < w.heap.size:=by
 subst h
 obtain ⟨t,ht⟩:=rowOf_some h0
 exact ⟨fun i=>cell_of_row w b i _ t (0,0) ht,(Array.getElem?_eq_some_iff.1 ht).1⟩
theorem MkSt.prot (h:MkSt b n N pr c inj ga gn gc z w) (k:Adds w w') (hx:∀x∈ps,w.heap.size≤x∧x < w'.heap.size):MkSt b n N (ps++pr) c inj ga gn gc z w':=by
 obtain ⟨lv,d,hh,ho,h1,h2,h3,h4,h5,h6,h7⟩:=h
 have hb:b < w.heap.size:=(Array.getElem?_eq_some_iff.1 hh).1
 refine ⟨lv,d,(k.below.block b hb).trans hh,ho.adds k,h1,h2,⟨h3.1,h3.2.1,fun hp=> ?_⟩,fun x hx'=> ?_,⟨h5.1.adds k,h5.2⟩,h6,h7⟩
 ·rcases List.mem_append.1 hp with q|q
  ·have:=hx b q;omega
  ·exact h3.2.2 q
 ·rcases List.mem_append.1 hx' with q|q
  ·exact ⟨fun e=>by have:=(World.ownsRow.lt ho x e).2;have:=hx x q;omega,(hx x q).2⟩
  ·exact ⟨(h4 x q).1,by have:=(h4 x q).2;have:=k.size;omega⟩
theorem MkSt.unprot (h:MkSt b n N (ps++pr) c inj ga gn gc z w):MkSt b n N pr c inj ga gn gc z w:=by
 obtain ⟨lv,d,hh,ho,h1,h2,h3,h4,h5⟩:=h
 exact ⟨lv,d,hh,ho,h1,h2,⟨h3.1,h3.2.1,fun hp=>h3.2.2 (List.mem_append.2 (.inr hp))⟩,fun x hx=>h4 x (List.mem_append.2 (.inr hx)),h5⟩
def BdSt (b n N:Nat) (pr:List Nat) (c:S.Cp) (inj:Bool) (ga:Option Addr) (gn gc:Nat) (z:List Int) (bi br:Nat) (ji:Array Value) (w:World):Prop:=
 MkSt b n N (bi::br::pr) c inj ga gn gc z w∧(rowOf w bi=ji∧0 < ji.size)∧rowOf w br=#[.int .u8 c.A,.int .u8 c.B,.int .u8 c.C,.int .u8 c.D,.int .u8 c.E,.int .u8 c.H,.int .u8 c.L,.bool c.fS,.bool c.fZ,.bool c.fK,.bool c.fAC,.bool c.fP,.bool c.fV,.bool c.fCY,.int .u16 c.SP,.int .u16 c.PC]
theorem Keeps.drop2 (h:Keeps n (bi::br::pr) w w'):Keeps n pr w w':=h.sub (Nat.le_refl _) (fun x hx=> .inl (by simp [hx]))
theorem BdSt.facts (h:BdSt b n N pr c inj ga gn gc z bi br ji w):
 (∃lv,(∀i,w.cell? ⟨b,i,none⟩=(#[.int .i64 c.Ch,.int .u8 c.A,.int .u8 c.B,.int .u8 c.C,.int .u8 c.D,.int .u8 c.E,.int .u8 c.H,.int .u8 c.L,.bool c.fS,.bool c.fZ,.bool c.fK,.bool c.fAC,.bool c.fP,.bool c.fV,.bool c.fCY,.int .u16 c.SP,.int .u16 c.PC,.bool c.IE,.bool c.De,.bool c.Ha,.int .u8 c.Ma,.bool c.Tr,.bool c.R7,.bool c.WT,.bool c.W7,.bool c.Sa,.bool c.SI,.bool c.SO,.bool inj,.slice ga gn gc,lv]:Array Value)[i]?)∧(∀i,w.frozen? ⟨b,i,none⟩=false)∧b < w.heap.size∧rowOf w b=#[.int .i64 c.Ch,.int .u8 c.A,.int .u8 c.B,.int .u8 c.C,.int .u8 c.D,.int .u8 c.E,.int .u8 c.H,.int .u8 c.L,.bool c.fS,.bool c.fZ,.bool c.fK,.bool c.fAC,.bool c.fP,.bool c.fV,.bool c.fCY,.int .u16 c.SP,.int .u16 c.PC,.bool c.IE,.bool c.De,.bool c.Ha,.int .u8 c.Ma,.bool c.Tr,.bool c.R7,.bool c.WT,.bool c.W7,.bool c.Sa,.bool c.SI,.bool c.SO,.bool inj,.slice ga gn gc,lv])∧(∀i,w.cell? ⟨bi,i,none⟩=ji[i]?)∧rowOf w bi=ji∧bi < w.heap.size∧(∀i,w.cell? ⟨br,i,none⟩=(#[.int .u8 c.A,.int .u8 c.B,.int .u8 c.C,.int .u8 c.D,.int .u8 c.E,.int .u8 c.H,.int .u8 c.L,.bool c.fS,.bool c.fZ,.bool c.fK,.bool c.fAC,.bool c.fP,.bool c.fV,.bool c.fCY,.int .u16 c.SP,.int .u16 c.PC]:Array Value)[i]?)∧rowOf w br=#[.int .u8 c.A,.int .u8 c.B,.int .u8 c.C,.int .u8 c.D,.int .u8 c.E,.int .u8 c.H,.int .u8 c.L,.bool c.fS,.bool c.fZ,.bool c.fK,.bool c.fAC,.bool c.fP,.bool c.fV,.bool c.fCY,.int .u16 c.SP,.int .u16 c.PC]∧br < w.heap.size:=by
 obtain ⟨h1,⟨h2,h2z⟩,h3⟩:=h
 obtain ⟨a2,b2⟩:=row_cells h2 h2z
 obtain ⟨a3,b3⟩:=row_cells h3 (by simp)
 exact ⟨h1.cells,a2,h2,b2,a3,h3,b3⟩
theorem MkSt.low (h:MkSt b n N pr c inj ga gn gc z w):n≤w.heap.size:=by
 obtain ⟨_,_,hh,_,_,_,h3,_⟩:=h
 have:=(Array.getElem?_eq_some_iff.1 hh).1
 omega
theorem BdSt.low (h:BdSt b n N pr c inj ga gn gc z bi br ji w):n≤w.heap.size:=h.1.low
theorem BdSt.step (h:BdSt b n N pr c inj ga gn gc z bi br ji w) (hA:Adds w w1)
 (h':MkSt b n (M) (bi::br::pr) c inj ga gn gc z w') (k:Keeps n (bi::br::pr) w1 w') (hM:M≤N+2:=by omega):BdSt b n (N+2) pr c inj ga gn gc z bi br ji w':=by
 obtain ⟨h1,⟨h2,h2z⟩,h3⟩:=h
 obtain ⟨a2,b2⟩:=row_cells h2 h2z
 obtain ⟨a3,b3⟩:=row_cells h3 (by simp)
 have hz:=hA.size
 refine ⟨h'.le hM,⟨?_,h2z⟩,?_⟩
 ·rw [k.row (by simp) (by omega),←h2];exact rowOf_eq (hA.below.block bi b2)
 ·rw [k.row (by simp) (by omega),←h3];exact rowOf_eq (hA.below.block br b3)
theorem BdSt.start {W:World} (h:MkSt b n N pr c inj ga gn gc z w) (k:Adds w W)
 (h1:rowOf W w.heap.size=ji) (h2:rowOf W (w.heap.size+1)=#[.int .u8 c.A,.int .u8 c.B,.int .u8 c.C,.int .u8 c.D,.int .u8 c.E,.int .u8 c.H,.int .u8 c.L,.bool c.fS,.bool c.fZ,.bool c.fK,.bool c.fAC,.bool c.fP,.bool c.fV,.bool c.fCY,.int .u16 c.SP,.int .u16 c.PC]) (hs:w.heap.size+1 < W.heap.size) (hz:0 < ji.size):BdSt b n N pr c inj ga gn gc z w.heap.size (w.heap.size+1) ji W:=
 ⟨MkSt.prot (ps:=[w.heap.size,w.heap.size+1]) h k (fun x hx=>by
   simp only [List.mem_cons,List.not_mem_nil,or_false] at hx
   omega),⟨h1,hz⟩,h2⟩
theorem body_fin {w2:World} (h:BdSt b n M pr c inj ga gn gc z bi br ji w1) (k:Keeps n pr w w1) (hA:Adds w1 w2) (hM:M≤N+8:=by omega):
 MkPost b n (N+8) pr c inj ga gn gc z w (.returned (.tuple #[])) w2:=
 ⟨rfl,((MkSt.unprot (ps:=[bi,br]) h.1).keeps hA).le hM,k.trans (Keeps.of_adds hA h.low)⟩
theorem Fl_setAt {α:Type} {cs:α→List Value} {sz:Nat} (hs:∀a,(cs a).length=sz) (k:Nat) (v:Value) (hk:k < sz):∀(d:List α) (i:Nat) (x a:α),d[i]? =some x→cs a=(cs x).set k v→(Fl cs d).set (i * sz+k) v=Fl cs (d.set i a)
 |[],i,x,a,h,_=>by simp at h
 |c::d,0,x,a,h,he=>by
  simp at h;subst h
  rw [List.set_cons_zero,Fl_cons,Fl_cons,Nat.zero_mul,Nat.zero_add,List.set_append_left _ _ (by rw [hs];exact hk),he]
 |c::d,i+1,x,a,h,he=>by
  rw [List.set_cons_succ,Fl_cons,Fl_cons,List.set_append_right _ _ (by rw [hs,Nat.succ_mul];omega),hs,show (i+1) * sz+k - sz=i * sz+k by rw [Nat.succ_mul];omega,Fl_setAt hs k v hk d i x a (by simpa using h) he]
theorem MkSt.five (h:MkSt b n N pr c inj ga gn gc z w):
 ∃g ln lc,w.cell? ⟨b,30,none⟩=some (.slice (some ⟨g,0,none⟩) (ln+1) lc)∧(∃v,w.cell? ⟨g,ln * 4+3,none⟩=some v)∧w.frozen? ⟨g,ln * 4+3,none⟩=false∧(ln+1≤lc∧lc≤9223372036854775807)∧MkSt b n N pr c inj ga gn gc z (w.setCell ⟨g,ln * 4+3,none⟩ (.int .i64 5))∧Keeps n pr w (w.setCell ⟨g,ln * 4+3,none⟩ (.int .i64 5)):=by
 obtain ⟨lv,d,hh,ho,h1,h2,⟨h3,h3b,h3c⟩,h4,h5,h6,h7⟩:=h
 have c30:w.cell? ⟨b,30,none⟩=some lv:=by rw [cell_of_row w b 30 _ _ (0,0) hh];rfl
 obtain ⟨la,ln,lc,rfl,hln,hl1,hl2,hl3, -⟩:=ho.form2
 have hln:=hln.out
 obtain ⟨g,rfl,hg1,hg2⟩:=hl3 (by omega)
 obtain ⟨m,rfl⟩:∃m,ln=m+1:=⟨ln - 1,by omega⟩
 obtain ⟨x,hx⟩:∃x,d[m]? =some x:=get_el (by omega)
 have hb3:some g≠some b:=h3b
 have hgb:g≠b:=fun e=>hb3 (by rw [e])
 have hat:=ho.at_.el csC_len hx (k:=3) (u:=.int .i64 x.s) rfl
 rw [Nat.zero_add] at hat
 have ho':World.ownsRow w n 58 4 (.slice (some ⟨g,0,none⟩) (m+1) lc) (m+1) (Fl csC d):=by have:=ho;unfold OwnsC OwnsG at this;rw [hln] at this;exact this
 have hst:=World.ownsRow.stored ho' (m * 4+3) (.int .i64 5)
 have e:=Fl_setAt csC_len 3 (.int .i64 5) (by omega) d m x ⟨x.k,x.a,x.d,5⟩ hx rfl
 have hG:=hst.2
 have K:Keeps n pr w (w.setCell ⟨g,m * 4+3,none⟩ (.int .i64 5)):=Keeps.setCell w g _ _ hg1 (fun hp=>(h4 g hp).1 rfl)
 refine ⟨g,m,lc,c30,⟨_,hat⟩,OwnsG.frozen ho _,⟨hl1,hl2⟩,⟨_,d.set m ⟨x.k,x.a,x.d,5⟩,?_,?_,fun y hy=> ?_,by rw [List.length_set];exact h2,⟨h3,h3b,h3c⟩,fun k hk=>⟨(h4 k hk).1,by have:=(h4 k hk).2;simp;omega⟩,h5.keeps K,h6,h7⟩,K⟩
 ·exact (heap_setCell_other w ⟨g,m * 4+3,none⟩ b _ (fun e=>hgb e.symm)).trans hh
 ·unfold OwnsC OwnsG
  rw [←e,List.length_set,hln]
  exact hst.1
 ·rcases List.mem_or_eq_of_mem_set hy with hy|rfl
  ·exact h1 y hy
  ·have:=h1 x (List.mem_of_getElem? hx)
   exact ⟨this.k,this.a,this.d,by show (3:Int)≤5∧(5:Int)≤6;omega⟩
end
section
variable {w:World}
theorem ret2_Flags {fn:Func} {p0 p:Tmp} (hf:fn.results=#[.tmp p0,.cell p 52]) {tmps:Array Value} {b:Nat} {cs:Array Value} {v0:Value} (h0:tmps.getD p0 undef=v0) (hp:tmps.getD p undef=.pointer (some ⟨b,0,none⟩)) (hr:rowOf w b=cs) (hs:cs.size=7):(results fn tmps).run Tryz.prog w=.ok (.tuple #[v0,.agg cs]) w:=
 ret2_all hf Tryz.underlying52 (by kernel_rfl) (by decide) tmps w b cs v0 h0 hp hr hs
theorem stepped_any {cCh cA cB cC cD cE cH cL:Int} {cfS cfZ cfK cfAC cfP cfV cfCY:Bool} {cSP cPC:Int} {cIE cDe cHa:Bool} {cMa:Int} {cTr cR7 cWT cW7 cSa cSI cSO:Bool} {jk jl jd js jp jo jc jn v:Int} (hv:0≤v∧v < 256):Calls Tryz.prog 160 #[.agg #[.int .i64 cCh,.int .u8 cA,.int .u8 cB,.int .u8 cC,.int .u8 cD,.int .u8 cE,.int .u8 cH,.int .u8 cL,.bool cfS,.bool cfZ,.bool cfK,.bool cfAC,.bool cfP,.bool cfV,.bool cfCY,.int .u16 cSP,.int .u16 cPC,.bool cIE,.bool cDe,.bool cHa,.int .u8 cMa,.bool cTr,.bool cR7,.bool cWT,.bool cW7,.bool cSa,.bool cSI,.bool cSO],.agg #[.int .i64 jk,.int .i64 jl,.int .i64 jd,.int .i64 js,.int .i64 jp,.int .i64 jo,.int .i64 jc,.int .i64 jn],.int .u8 v] w (PostBF w):=by
 have HV:=Lib.hid hv
 clear hv
 by_cases hk:jk=14
 ·subst hk
  go_enter Tryz.func160,Tryz.ntmps160
  go_wp2_with (go_at_call 182;refine (wk_inr HV.out).mono ?_;rintro e w' ⟨r,s,z,k,ac,p,q,cy,hr,rfl,⟨⟨n1,os1⟩,rfl⟩⟩)
  exact bodyPost_ret (v:=.tuple #[.int .u8 r,.agg #[.bool s,.bool z,.bool k,.bool ac,.bool p,.bool q,.bool cy]]) (ret2_Flags Tryz.results160 rfl rfl (by simp [go_sem]) rfl) rfl ⟨r,s,z,k,ac,p,q,cy,hr,rfl,aD⟩
 ·go_enter Tryz.func160,Tryz.ntmps160
  go_wp2_with (go_at_call 183;refine (wk_dcr HV.out).mono ?_;rintro e w' ⟨r,s,z,k,ac,p,q,cy,hr,rfl,⟨⟨n1,os1⟩,rfl⟩⟩)
  exact bodyPost_ret (v:=.tuple #[.int .u8 r,.agg #[.bool s,.bool z,.bool k,.bool ac,.bool p,.bool q,.bool cy]]) (ret2_Flags Tryz.results160 rfl rfl (by simp [go_sem]) rfl) rfl ⟨r,s,z,k,ac,p,q,cy,hr,rfl,aD⟩
end
section
variable {N b bi br gc gn n:Nat} {W w:World} {c:S.Cp} {ga:Option Addr} {inj:Bool} {ji:Array Value} {pr:List Nat} {z:List Int}
theorem bd_forget {K:Act→World→Prop} {Q:Exit→Act→World→Prop} {a:Act} (R:World→Prop) (hR:R W) (h:∀ww,R ww→Exit.then K Q .normal a ww):Exit.then K Q .normal a W:=h W hR
theorem BdSt.adds {w':World} (h:BdSt b n N pr c inj ga gn gc z bi br ji w) (k:Adds w w'):BdSt b n N pr c inj ga gn gc z bi br ji w':=by
 obtain ⟨h1,⟨h2,h2z⟩,h3⟩:=h
 obtain ⟨a2,b2⟩:=row_cells h2 h2z
 obtain ⟨a3,b3⟩:=row_cells h3 (by simp)
 exact ⟨h1.keeps k,⟨by rw [←h2];exact rowOf_eq (k.below.block bi b2),h2z⟩,by rw [←h3];exact rowOf_eq (k.below.block br b3)⟩
def BodyK (jk:Int) (o:Bool):Prop:=∀(b n N:Nat) (pr:List Nat) (c:S.Cp) (inj:Bool) (ga:Option Addr) (gn gc:Nat) (z:List Int) (jl jd js jp jo jc jn:Int),1≤jl∧jl≤3→S.OkR c.A c.B c.C c.D c.E c.H c.L c.SP c.PC→N≤800→(c.Ch==2)=o→∀w,MkSt b n N pr c inj ga gn gc z w→∀ji:Array Value,ji=#[.int .i64 jk,.int .i64 jl,.int .i64 jd,.int .i64 js,.int .i64 jp,.int .i64 jo,.int .i64 jc,.int .i64 jn]→
 Calls Tryz.prog 141 #[.pointer (some ⟨b,0,none⟩),.agg #[.int .i64 jk,.int .i64 jl,.int .i64 jd,.int .i64 js,.int .i64 jp,.int .i64 jo,.int .i64 jc,.int .i64 jn]] w (MkPost b n (N+8) pr c inj ga gn gc z w)
theorem bdc {M:Nat} {w1:World} {f:FuncId} {args:Array Value} {Q:Ending→World→Prop} (H:Hid (BdSt b n N pr c inj ga gn gc z bi br ji w1)) (K:Hid (Keeps n pr w w1)) (hA:Adds w1 W) (h:Calls Tryz.prog f args W (MkPost b n M (bi::br::pr) c inj ga gn gc z W)) (k:∀w',Hid (BdSt b n (N+2) pr c inj ga gn gc z bi br ji w')→Hid (Keeps n pr w w')→Q (.returned (.tuple #[])) w') (hM:M≤N+2:=by omega):Calls Tryz.prog f args W Q:=
 h.mono fun e w' ⟨he,h',k'⟩=>by subst he;exact k w' (Lib.hid (BdSt.step H.out hA h' k' hM)) (Lib.hid (K.out.trans ((Keeps.of_adds hA H.out.low).trans k'.drop2)))
theorem bodyT {P:Prop} (hP:P:=by
 intro b n N pr c inj ga gn gc z jl jd js jp jo jc jn hj hR hN hC w h ji hji
 obtain ⟨lv,hc,hf,hb,hr⟩:=h.cells
 have hz:∀y∈z,0≤y∧y < 256:=by obtain ⟨_,_,_,_,_,_,_,_,_,_,hz⟩:=h;exact hz
 have H:=Lib.hid h
 have HZ:=Lib.hid hz
 have HR:=Lib.hid hR
 have HC:=Lib.hid hC
 have HJ:=Lib.hid hji
 have Bhl:=Lib.hid (S.pr_bd 2 c.B c.C c.D c.E c.H c.L c.A c.SP c.PC hR)
 have Bde:=Lib.hid (S.pr_bd 1 c.B c.C c.D c.E c.H c.L c.A c.SP c.PC hR)
 clear h hz hR hC hji
 go_enter Tryz.func141,Tryz.ntmps141
 go_wp2_with fail
 refine qt ?_
 repeat (go_big_quiet_step ((go_at_call 148;exact calls_adds (fn_pair _ _ _ _ _ _ _ _ _ _ _ _ _ _ _ _ _ HR.out _))))
 refine qn fun nq osq=> ?_
 try simp only []
 refine bd_forget (fun W=>BdSt b n N pr c inj ga gn gc z w.heap.size (w.heap.size+1) ji W∧Keeps n pr w W) ⟨BdSt.start H.out aD (by simp [go_sem,HJ.out]) (by simp [go_sem]) (by simp [go_sem];omega) (by simp [HJ.out]),Keeps.of_adds aD H.out.low⟩ ?_
 rintro w0 ⟨h0,k0⟩
 clear hc hf hb hr H
 have H:=Lib.hid h0
 have K:=Lib.hid k0
 have hji:=HJ.out
 clear h0 k0 HJ
 subst hji
 generalize w.heap.size+1=br at H⊢
 generalize w.heap.size=bi at H⊢
 have Hhl:=Lib.hid Bhl.out
 have Hde:=Lib.hid Bde.out
 generalize K8.S.pr 2 c.B c.C c.D c.E c.H c.L c.SP=hl at Hhl⊢
 generalize K8.S.pr 1 c.B c.C c.D c.E c.H c.L c.SP=de at Hde⊢
 clear Bhl Bde
 obtain ⟨⟨lv,hc,hf,hb,hr⟩,hi,hri,hbi,hg,hrg,hbr⟩:=H.out.facts
 go_wp2_with (first|(go_at_call 157;refine (wk_get HR.out).mono ?_;rintro e w' ⟨vget,hvget,rfl,⟨⟨nget,osget⟩,rfl⟩⟩)|(go_at_call 148;refine (wk_pair _ HR.out).mono ?_;rintro e w' ⟨vpair,hvpair,rfl,⟨⟨npair,ospair⟩,rfl⟩⟩)|(go_at_call 165;refine (wk_psw HR.out).mono ?_;rintro e w' ⟨vpsw,hvpsw,rfl,⟨⟨npsw,ospsw⟩,rfl⟩⟩)|(go_at_call 166;refine sm (rjoin_any (S.gb_bd HZ.out _).1 (S.gb_bd HZ.out _).2 (S.gb_bd HZ.out _).1 (S.gb_bd HZ.out _).2 _) ?_)|(go_at_call 114;refine sm (on85_is c.Ch _ HC.out) ?_)|(go_at_call 156;refine bdc H K aD (mk_add b n _ (bi::br::pr) c inj ga gn gc z _ ⟨by omega,by omega⟩ (by first|exact w16_bd|exact Hhl.out|exact Hde.out|exact S.gw_bd HZ.out|exact HR.out.sp|exact HR.out.pc|assumption|omega) (by first|exact w8_bd|exact S.gb_bd HZ.out _|exact HR.out.a|exact HR.out.h|exact HR.out.l|assumption|omega) (by omega) _ (H.out.1.keeps aD)) ?_;clear H K hc hf hb hr hi hri hbi hg hrg hbr;intro w1 H K;obtain ⟨⟨lv,hc,hf,hb,hr⟩,hi,hri,hbi,hg,hrg,hbr⟩:=H.out.facts)|(go_at_call 158;refine bdc H K aD (mk_operandss b n _ (bi::br::pr) c inj ga gn gc z (by omega) HR.out.pc (by omega) (H.out.1.keeps aD)) ?_;clear H K hc hf hb hr hi hri hbi hg hrg hbr;intro w1 H K;obtain ⟨⟨lv,hc,hf,hb,hr⟩,hi,hri,hbi,hg,hrg,hbr⟩:=H.out.facts)|(go_at_call 140;refine bdc H K aD (mk_push b n _ (bi::br::pr) c inj ga gn gc z HR.out.sp (by omega) (H.out.1.keeps aD)) ?_;clear H K hc hf hb hr hi hri hbi hg hrg hbr;intro w1 H K;obtain ⟨⟨lv,hc,hf,hb,hr⟩,hi,hri,hbi,hg,hrg,hbr⟩:=H.out.facts)|(go_at_call 164;refine bdc H K aD (mk_pop b n (bi::br::pr) c inj ga gn gc z HR.out.sp (by omega) (H.out.1.keeps aD)) ?_;clear H K hc hf hb hr hi hri hbi hg hrg hbr;intro w1 H K;obtain ⟨⟨lv,hc,hf,hb,hr⟩,hi,hri,hbi,hg,hrg,hbr⟩:=H.out.facts)|(go_at_call 161;refine bdc H K aD (mk_idles b n (bi::br::pr) c inj ga gn gc z (by omega) HR.out.pc (by omega) (H.out.1.keeps aD)) ?_;clear H K hc hf hb hr hi hri hbi hg hrg hbr;intro w1 H K;obtain ⟨⟨lv,hc,hf,hb,hr⟩,hi,hri,hbi,hg,hrg,hbr⟩:=H.out.facts)|(go_at_call 162;refine bdc H K aD (mk_target b n (bi::br::pr) c inj ga gn gc z HR.out.pc (by omega) (H.out.1.keeps aD)) ?_;clear H K hc hf hb hr hi hri hbi hg hrg hbr;intro w1 H K;obtain ⟨⟨lv,hc,hf,hb,hr⟩,hi,hri,hbi,hg,hrg,hbr⟩:=H.out.facts)|(go_at_call 163;refine (mk_taken b n _ (bi::br::pr) c inj ga gn gc z _ _ _ _ _ _ _ _ (H.out.1.keeps aD)).mono ?_;rintro e w' ⟨⟨rt,rfl⟩,⟨⟨nt,ost⟩,rfl⟩⟩)|(go_at_call 143;refine sm (mk_at b n _ (bi::br::pr) c inj ga gn gc z (by omega) _ (H.out.1.keeps aD)) ?_)|(go_at_call 159;refine sm (mk_word b n (bi::br::pr) c inj ga gn gc z (by omega) (by omega) (H.out.1.keeps aD)) ?_)|(go_at_call 147;refine sm (mk_behind b n (bi::br::pr) c inj ga gn gc z (H.out.1.keeps aD)) ?_))
 all_goals
  go_end0
  exact body_fin H.out K.out aD):P:=hP
theorem bodyD {P:Prop} (hP:P:=by
 intro b n N pr c inj ga gn gc z jl jd js jp jo jc jn hj hR hN hC w h ji hji
 obtain ⟨lv,hc,hf,hb,hr⟩:=h.cells
 have hz:∀y∈z,0≤y∧y < 256:=by obtain ⟨_,_,_,_,_,_,_,_,_,_,hz⟩:=h;exact hz
 have H:=Lib.hid h
 have HZ:=Lib.hid hz
 have HR:=Lib.hid hR
 have HC:=Lib.hid hC
 have HJ:=Lib.hid hji
 have Bhl:=Lib.hid (S.pr_bd 2 c.B c.C c.D c.E c.H c.L c.A c.SP c.PC hR)
 have Bde:=Lib.hid (S.pr_bd 1 c.B c.C c.D c.E c.H c.L c.A c.SP c.PC hR)
 clear h hz hR hC hji
 go_enter Tryz.func141,Tryz.ntmps141
 go_wp2_with fail
 refine qt ?_
 repeat (go_big_quiet_step ((go_at_call 148;exact calls_adds (fn_pair _ _ _ _ _ _ _ _ _ _ _ _ _ _ _ _ _ HR.out _))))
 refine qn fun nq osq=> ?_
 try simp only []
 refine bd_forget (fun W=>BdSt b n N pr c inj ga gn gc z w.heap.size (w.heap.size+1) ji W∧Keeps n pr w W) ⟨BdSt.start H.out aD (by simp [go_sem,HJ.out]) (by simp [go_sem]) (by simp [go_sem];omega) (by simp [HJ.out]),Keeps.of_adds aD H.out.low⟩ ?_
 rintro w0 ⟨h0,k0⟩
 clear hc hf hb hr H
 have H:=Lib.hid h0
 have K:=Lib.hid k0
 have hji:=HJ.out
 clear h0 k0 HJ
 subst hji
 generalize w.heap.size+1=br at H⊢
 generalize w.heap.size=bi at H⊢
 have Hhl:=Lib.hid Bhl.out
 have Hde:=Lib.hid Bde.out
 generalize K8.S.pr 2 c.B c.C c.D c.E c.H c.L c.SP=hl at Hhl⊢
 generalize K8.S.pr 1 c.B c.C c.D c.E c.H c.L c.SP=de at Hde⊢
 clear Bhl Bde
 obtain ⟨⟨lv,hc,hf,hb,hr⟩,hi,hri,hbi,hg,hrg,hbr⟩:=H.out.facts
 iterate 3
  all_goals (try go_wp2_with (first|(go_at_call 157;refine (wk_get HR.out).mono ?_;rintro e w' ⟨vget,hvget,rfl,⟨⟨nget,osget⟩,rfl⟩⟩)|(go_at_call 148;refine (wk_pair _ HR.out).mono ?_;rintro e w' ⟨vpair,hvpair,rfl,⟨⟨npair,ospair⟩,rfl⟩⟩)|(go_at_call 165;refine (wk_psw HR.out).mono ?_;rintro e w' ⟨vpsw,hvpsw,rfl,⟨⟨npsw,ospsw⟩,rfl⟩⟩)|(go_at_call 166;refine sm (rjoin_any (S.gb_bd HZ.out _).1 (S.gb_bd HZ.out _).2 (S.gb_bd HZ.out _).1 (S.gb_bd HZ.out _).2 _) ?_)|(go_at_call 114;refine sm (on85_is c.Ch _ HC.out) ?_)|(go_at_call 156;refine bdc H K aD (mk_add b n _ (bi::br::pr) c inj ga gn gc z _ ⟨by omega,by omega⟩ (by first|exact w16_bd|exact Hhl.out|exact Hde.out|exact S.gw_bd HZ.out|exact HR.out.sp|exact HR.out.pc|assumption|omega) (by first|exact w8_bd|exact S.gb_bd HZ.out _|exact HR.out.a|exact HR.out.h|exact HR.out.l|assumption|omega) (by omega) _ (H.out.1.keeps aD)) ?_;clear H K hc hf hb hr hi hri hbi hg hrg hbr;intro w1 H K;obtain ⟨⟨lv,hc,hf,hb,hr⟩,hi,hri,hbi,hg,hrg,hbr⟩:=H.out.facts)|(go_at_call 158;refine bdc H K aD (mk_operandss b n _ (bi::br::pr) c inj ga gn gc z (by omega) HR.out.pc (by omega) (H.out.1.keeps aD)) ?_;clear H K hc hf hb hr hi hri hbi hg hrg hbr;intro w1 H K;obtain ⟨⟨lv,hc,hf,hb,hr⟩,hi,hri,hbi,hg,hrg,hbr⟩:=H.out.facts)|(go_at_call 140;refine bdc H K aD (mk_push b n _ (bi::br::pr) c inj ga gn gc z HR.out.sp (by omega) (H.out.1.keeps aD)) ?_;clear H K hc hf hb hr hi hri hbi hg hrg hbr;intro w1 H K;obtain ⟨⟨lv,hc,hf,hb,hr⟩,hi,hri,hbi,hg,hrg,hbr⟩:=H.out.facts)|(go_at_call 164;refine bdc H K aD (mk_pop b n (bi::br::pr) c inj ga gn gc z HR.out.sp (by omega) (H.out.1.keeps aD)) ?_;clear H K hc hf hb hr hi hri hbi hg hrg hbr;intro w1 H K;obtain ⟨⟨lv,hc,hf,hb,hr⟩,hi,hri,hbi,hg,hrg,hbr⟩:=H.out.facts)|(go_at_call 161;refine bdc H K aD (mk_idles b n (bi::br::pr) c inj ga gn gc z (by omega) HR.out.pc (by omega) (H.out.1.keeps aD)) ?_;clear H K hc hf hb hr hi hri hbi hg hrg hbr;intro w1 H K;obtain ⟨⟨lv,hc,hf,hb,hr⟩,hi,hri,hbi,hg,hrg,hbr⟩:=H.out.facts)|(go_at_call 162;refine bdc H K aD (mk_target b n (bi::br::pr) c inj ga gn gc z HR.out.pc (by omega) (H.out.1.keeps aD)) ?_;clear H K hc hf hb hr hi hri hbi hg hrg hbr;intro w1 H K;obtain ⟨⟨lv,hc,hf,hb,hr⟩,hi,hri,hbi,hg,hrg,hbr⟩:=H.out.facts)|(go_at_call 163;refine (mk_taken b n _ (bi::br::pr) c inj ga gn gc z _ _ _ _ _ _ _ _ (H.out.1.keeps aD)).mono ?_;rintro e w' ⟨⟨rt,rfl⟩,⟨⟨nt,ost⟩,rfl⟩⟩)|(go_at_call 143;refine sm (mk_at b n _ (bi::br::pr) c inj ga gn gc z (by omega) _ (H.out.1.keeps aD)) ?_)|(go_at_call 159;refine sm (mk_word b n (bi::br::pr) c inj ga gn gc z (by omega) (by omega) (H.out.1.keeps aD)) ?_)|(go_at_call 147;refine sm (mk_behind b n (bi::br::pr) c inj ga gn gc z (H.out.1.keeps aD)) ?_)))
  all_goals (try (go_region_with (first|(go_at_call 157;refine (wk_get HR.out).mono ?_;rintro e w' ⟨vget,hvget,rfl,⟨⟨nget,osget⟩,rfl⟩⟩)|(go_at_call 148;refine (wk_pair _ HR.out).mono ?_;rintro e w' ⟨vpair,hvpair,rfl,⟨⟨npair,ospair⟩,rfl⟩⟩)|(go_at_call 165;refine (wk_psw HR.out).mono ?_;rintro e w' ⟨vpsw,hvpsw,rfl,⟨⟨npsw,ospsw⟩,rfl⟩⟩)|(go_at_call 166;refine sm (rjoin_any (S.gb_bd HZ.out _).1 (S.gb_bd HZ.out _).2 (S.gb_bd HZ.out _).1 (S.gb_bd HZ.out _).2 _) ?_)|(go_at_call 114;refine sm (on85_is c.Ch _ HC.out) ?_)|(go_at_call 156;refine bdc H K aD (mk_add b n _ (bi::br::pr) c inj ga gn gc z _ ⟨by omega,by omega⟩ (by first|exact w16_bd|exact Hhl.out|exact Hde.out|exact S.gw_bd HZ.out|exact HR.out.sp|exact HR.out.pc|assumption|omega) (by first|exact w8_bd|exact S.gb_bd HZ.out _|exact HR.out.a|exact HR.out.h|exact HR.out.l|assumption|omega) (by omega) _ (H.out.1.keeps aD)) ?_;clear H K hc hf hb hr hi hri hbi hg hrg hbr;intro w1 H K;obtain ⟨⟨lv,hc,hf,hb,hr⟩,hi,hri,hbi,hg,hrg,hbr⟩:=H.out.facts)|(go_at_call 158;refine bdc H K aD (mk_operandss b n _ (bi::br::pr) c inj ga gn gc z (by omega) HR.out.pc (by omega) (H.out.1.keeps aD)) ?_;clear H K hc hf hb hr hi hri hbi hg hrg hbr;intro w1 H K;obtain ⟨⟨lv,hc,hf,hb,hr⟩,hi,hri,hbi,hg,hrg,hbr⟩:=H.out.facts)|(go_at_call 140;refine bdc H K aD (mk_push b n _ (bi::br::pr) c inj ga gn gc z HR.out.sp (by omega) (H.out.1.keeps aD)) ?_;clear H K hc hf hb hr hi hri hbi hg hrg hbr;intro w1 H K;obtain ⟨⟨lv,hc,hf,hb,hr⟩,hi,hri,hbi,hg,hrg,hbr⟩:=H.out.facts)|(go_at_call 164;refine bdc H K aD (mk_pop b n (bi::br::pr) c inj ga gn gc z HR.out.sp (by omega) (H.out.1.keeps aD)) ?_;clear H K hc hf hb hr hi hri hbi hg hrg hbr;intro w1 H K;obtain ⟨⟨lv,hc,hf,hb,hr⟩,hi,hri,hbi,hg,hrg,hbr⟩:=H.out.facts)|(go_at_call 161;refine bdc H K aD (mk_idles b n (bi::br::pr) c inj ga gn gc z (by omega) HR.out.pc (by omega) (H.out.1.keeps aD)) ?_;clear H K hc hf hb hr hi hri hbi hg hrg hbr;intro w1 H K;obtain ⟨⟨lv,hc,hf,hb,hr⟩,hi,hri,hbi,hg,hrg,hbr⟩:=H.out.facts)|(go_at_call 162;refine bdc H K aD (mk_target b n (bi::br::pr) c inj ga gn gc z HR.out.pc (by omega) (H.out.1.keeps aD)) ?_;clear H K hc hf hb hr hi hri hbi hg hrg hbr;intro w1 H K;obtain ⟨⟨lv,hc,hf,hb,hr⟩,hi,hri,hbi,hg,hrg,hbr⟩:=H.out.facts)|(go_at_call 163;refine (mk_taken b n _ (bi::br::pr) c inj ga gn gc z _ _ _ _ _ _ _ _ (H.out.1.keeps aD)).mono ?_;rintro e w' ⟨⟨rt,rfl⟩,⟨⟨nt,ost⟩,rfl⟩⟩)|(go_at_call 143;refine sm (mk_at b n _ (bi::br::pr) c inj ga gn gc z (by omega) _ (H.out.1.keeps aD)) ?_)|(go_at_call 159;refine sm (mk_word b n (bi::br::pr) c inj ga gn gc z (by omega) (by omega) (H.out.1.keeps aD)) ?_)|(go_at_call 147;refine sm (mk_behind b n (bi::br::pr) c inj ga gn gc z (H.out.1.keeps aD)) ?_))))
 all_goals
  go_end0
  exact body_fin H.out K.out aD):P:=hP
end
section
variable {P:Prop} {w:World}
theorem ret3_Regs {fn:Func} {p0 p:Tmp} (hf:fn.results=#[.cell p 54,.tmp p0]) {tmps:Array Value} {b:Nat} {cs:Array Value} {v0:Value} (h0:tmps.getD p0 undef=v0) (hp:tmps.getD p undef=.pointer (some ⟨b,0,none⟩)) (hr:rowOf w b=cs) (hs:cs.size=16):(results fn tmps).run Tryz.prog w=.ok (.tuple #[.agg cs,v0]) w:=
 ret3_all hf Tryz.underlying54 (by kernel_rfl) (by decide) tmps w b cs v0 h0 hp hr hs
def PostLd (w:World) (e:Ending) (w':World):Prop:=∃(qA qB qC qD qE qH qL:Int) (qS qZ qK qAC qP qV qCY:Bool) (qSP qPC:Int) (m:Bool),e=.returned (.tuple #[.agg #[.int .u8 qA,.int .u8 qB,.int .u8 qC,.int .u8 qD,.int .u8 qE,.int .u8 qH,.int .u8 qL,.bool qS,.bool qZ,.bool qK,.bool qAC,.bool qP,.bool qV,.bool qCY,.int .u16 qSP,.int .u16 qPC],.bool m])∧S.OkR qA qB qC qD qE qH qL qSP qPC∧Adds w w'
theorem PostLd.mk {w':World} (qA qB qC qD qE qH qL:Int) (qS qZ qK qAC qP qV qCY:Bool) (qSP qPC:Int) (m:Bool) (h2:S.OkR qA qB qC qD qE qH qL qSP qPC) (h4:Adds w w'):PostLd w (.returned (.tuple #[.agg #[.int .u8 qA,.int .u8 qB,.int .u8 qC,.int .u8 qD,.int .u8 qE,.int .u8 qH,.int .u8 qL,.bool qS,.bool qZ,.bool qK,.bool qAC,.bool qP,.bool qV,.bool qCY,.int .u16 qSP,.int .u16 qPC],.bool m])) w':=⟨_,_,_,_,_,_,_,_,_,_,_,_,_,_,_,_,_,rfl,h2,h4⟩
theorem bqa (h:P:=by first|exact HR.out.a|exact HQ.out.a|exact HQ2.out.a|exact S.gb_bd HZ.out _|exact S.gw_bd HZ.out|exact w16_bd|exact w8_bd|exact HR.out.d|exact HR.out.e|exact HR.out.h|exact HR.out.l|assumption|omega):P:=h
theorem bqb (h:P:=by first|exact HR.out.b|exact HQ.out.b|exact HQ2.out.b|exact S.gb_bd HZ.out _|exact S.gw_bd HZ.out|exact w16_bd|exact w8_bd|exact HR.out.d|exact HR.out.e|exact HR.out.h|exact HR.out.l|assumption|omega):P:=h
theorem bqc (h:P:=by first|exact HR.out.c|exact HQ.out.c|exact HQ2.out.c|exact S.gb_bd HZ.out _|exact S.gw_bd HZ.out|exact w16_bd|exact w8_bd|exact HR.out.d|exact HR.out.e|exact HR.out.h|exact HR.out.l|assumption|omega):P:=h
theorem bqd (h:P:=by first|exact HR.out.d|exact HQ.out.d|exact HQ2.out.d|exact S.gb_bd HZ.out _|exact S.gw_bd HZ.out|exact w16_bd|exact w8_bd|exact HR.out.d|exact HR.out.e|exact HR.out.h|exact HR.out.l|assumption|omega):P:=h
theorem bqe (h:P:=by first|exact HR.out.e|exact HQ.out.e|exact HQ2.out.e|exact S.gb_bd HZ.out _|exact S.gw_bd HZ.out|exact w16_bd|exact w8_bd|exact HR.out.d|exact HR.out.e|exact HR.out.h|exact HR.out.l|assumption|omega):P:=h
theorem bqh (h:P:=by first|exact HR.out.h|exact HQ.out.h|exact HQ2.out.h|exact S.gb_bd HZ.out _|exact S.gw_bd HZ.out|exact w16_bd|exact w8_bd|exact HR.out.d|exact HR.out.e|exact HR.out.h|exact HR.out.l|assumption|omega):P:=h
theorem bql (h:P:=by first|exact HR.out.l|exact HQ.out.l|exact HQ2.out.l|exact S.gb_bd HZ.out _|exact S.gw_bd HZ.out|exact w16_bd|exact w8_bd|exact HR.out.d|exact HR.out.e|exact HR.out.h|exact HR.out.l|assumption|omega):P:=h
theorem bqsp (h:P:=by first|exact HR.out.sp|exact HQ.out.sp|exact HQ2.out.sp|exact S.gb_bd HZ.out _|exact S.gw_bd HZ.out|exact w16_bd|exact w8_bd|exact HR.out.d|exact HR.out.e|exact HR.out.h|exact HR.out.l|assumption|omega):P:=h
theorem bqpc (h:P:=by first|exact HR.out.pc|exact HQ.out.pc|exact HQ2.out.pc|exact S.gb_bd HZ.out _|exact S.gw_bd HZ.out|exact w16_bd|exact w8_bd|exact HR.out.d|exact HR.out.e|exact HR.out.h|exact HR.out.l|assumption|omega):P:=h
theorem okr (h:P:=by exact ⟨bqa,bqb,bqc,bqd,bqe,bqh,bql,bqsp,bqpc⟩):P:=h
theorem okh (h:P:=by first|exact HQ2.out|exact HQ.out|exact HR.out|exact okr):P:=h
def LoadK (jk:Int):Prop:=∀(b:Nat) (c:S.Cp) (inj:Bool) (ga:Option Addr) (gn gc:Nat) (z:List Int) (jl jd js jp jo jc jn:Int),S.OkR c.A c.B c.C c.D c.E c.H c.L c.SP c.PC→∀w,MkRd b c inj ga gn gc z w→Calls Tryz.prog 145 #[.pointer (some ⟨b,0,none⟩),.agg #[.int .i64 jk,.int .i64 jl,.int .i64 jd,.int .i64 js,.int .i64 jp,.int .i64 jo,.int .i64 jc,.int .i64 jn]] w (PostLd w)
theorem ldT {P:Prop} (hP:P:=by
 intro b c inj ga gn gc z jl jd js jp jo jc jn hR w h
 obtain ⟨lv,hc,hf,hb,hr⟩:=h.cells
 have hz:∀y∈z,0≤y∧y < 256:=by obtain ⟨_,_,_,_,hz⟩:=h;exact hz
 have H:=Lib.hid h
 have HZ:=Lib.hid hz
 have HR:=Lib.hid hR
 clear h hz hR
 go_enter Tryz.func145,Tryz.ntmps145
 go_wp2_with (first|(go_at_call 143;refine sm (rd_at b c inj ga gn gc z (by omega) _ (H.out.keeps aD)) ?_)|(go_at_call 159;refine sm (rd_word b c inj ga gn gc z (by omega) (by omega) (H.out.keeps aD)) ?_)|(go_at_call 157;refine (wk_get okh).mono ?_;rintro e w' ⟨vg,hvg,rfl,⟨⟨ng,osg⟩,rfl⟩⟩)|(go_at_call 148;refine (wk_pair _ okh).mono ?_;rintro e w' ⟨vp,hvp,rfl,⟨⟨np,osp⟩,rfl⟩⟩)|(go_at_call 167;refine (wk_set okh (by first|exact S.gb_bd HZ.out _|exact HR.out.a|exact HQ.out.a|assumption|exact w8_bd)).mono ?_;rintro e w' ⟨qA,qB,qC,qD,qE,qH,qL,qS,qZ,qK,qAC,qP,qV,qCY,qSP,qPC,h',rfl,⟨⟨nq,osq⟩,rfl⟩⟩;have HQ:=Lib.hid h';clear h')|(go_at_call 168;refine (wk_setpair okh (by first|exact S.gw_bd HZ.out|assumption|exact w16_bd|exact HR.out.sp)).mono ?_;rintro e w' ⟨qA,qB,qC,qD,qE,qH,qL,qS,qZ,qK,qAC,qP,qV,qCY,qSP,qPC,h',rfl,⟨⟨nq,osq⟩,rfl⟩⟩;have HQ:=Lib.hid h';clear h')|(go_at_call 169;refine (wk_setpsw okh (by first|exact S.gw_bd HZ.out|assumption|exact w16_bd|exact HR.out.sp)).mono ?_;rintro e w' ⟨qA,qB,qC,qD,qE,qH,qL,qS,qZ,qK,qAC,qP,qV,qCY,qSP,qPC,h',rfl,⟨⟨nq,osq⟩,rfl⟩⟩;have HQ:=Lib.hid h';clear h'))
 all_goals
  refine bodyPost_ret (ret3_Regs Tryz.results145 rfl rfl rfl (by simp [go_sem])) rfl ?_
  simp [go_sem]
  exact PostLd.mk _ _ _ _ _ _ _ _ _ _ _ _ _ _ _ _ _ okr aD):P:=hP
theorem ldD {P:Prop} (hP:P:=by
 intro b c inj ga gn gc z jl jd js jp jo jc jn hR w h
 obtain ⟨lv,hc,hf,hb,hr⟩:=h.cells
 have hz:∀y∈z,0≤y∧y < 256:=by obtain ⟨_,_,_,_,hz⟩:=h;exact hz
 have H:=Lib.hid h
 have HZ:=Lib.hid hz
 have HR:=Lib.hid hR
 clear h hz hR
 go_enter Tryz.func145,Tryz.ntmps145
 go_wp2_with (first|(go_at_call 143;refine sm (rd_at b c inj ga gn gc z (by omega) _ (H.out.keeps aD)) ?_)|(go_at_call 159;refine sm (rd_word b c inj ga gn gc z (by omega) (by omega) (H.out.keeps aD)) ?_)|(go_at_call 157;refine (wk_get okh).mono ?_;rintro e w' ⟨vg,hvg,rfl,⟨⟨ng,osg⟩,rfl⟩⟩)|(go_at_call 148;refine (wk_pair _ okh).mono ?_;rintro e w' ⟨vp,hvp,rfl,⟨⟨np,osp⟩,rfl⟩⟩)|(go_at_call 167;refine (wk_set okh (by first|exact S.gb_bd HZ.out _|exact HR.out.a|exact HQ.out.a|assumption|exact w8_bd)).mono ?_;rintro e w' ⟨qA,qB,qC,qD,qE,qH,qL,qS,qZ,qK,qAC,qP,qV,qCY,qSP,qPC,h',rfl,⟨⟨nq,osq⟩,rfl⟩⟩;have HQ:=Lib.hid h';clear h')|(go_at_call 168;refine (wk_setpair okh (by first|exact S.gw_bd HZ.out|assumption|exact w16_bd|exact HR.out.sp)).mono ?_;rintro e w' ⟨qA,qB,qC,qD,qE,qH,qL,qS,qZ,qK,qAC,qP,qV,qCY,qSP,qPC,h',rfl,⟨⟨nq,osq⟩,rfl⟩⟩;have HQ:=Lib.hid h';clear h')|(go_at_call 169;refine (wk_setpsw okh (by first|exact S.gw_bd HZ.out|assumption|exact w16_bd|exact HR.out.sp)).mono ?_;rintro e w' ⟨qA,qB,qC,qD,qE,qH,qL,qS,qZ,qK,qAC,qP,qV,qCY,qSP,qPC,h',rfl,⟨⟨nq,osq⟩,rfl⟩⟩;have HQ:=Lib.hid h';clear h'))
 all_goals (try (go_region_with (first|(go_at_call 143;refine sm (rd_at b c inj ga gn gc z (by omega) _ (H.out.keeps aD)) ?_)|(go_at_call 159;refine sm (rd_word b c inj ga gn gc z (by omega) (by omega) (H.out.keeps aD)) ?_)|(go_at_call 157;refine (wk_get okh).mono ?_;rintro e w' ⟨vg,hvg,rfl,⟨⟨ng,osg⟩,rfl⟩⟩)|(go_at_call 148;refine (wk_pair _ okh).mono ?_;rintro e w' ⟨vp,hvp,rfl,⟨⟨np,osp⟩,rfl⟩⟩)|(go_at_call 167;refine (wk_set okh (by first|exact S.gb_bd HZ.out _|exact HR.out.a|exact HQ.out.a|assumption|exact w8_bd)).mono ?_;rintro e w' ⟨qA,qB,qC,qD,qE,qH,qL,qS,qZ,qK,qAC,qP,qV,qCY,qSP,qPC,h',rfl,⟨⟨nq,osq⟩,rfl⟩⟩;have HQ:=Lib.hid h';clear h')|(go_at_call 168;refine (wk_setpair okh (by first|exact S.gw_bd HZ.out|assumption|exact w16_bd|exact HR.out.sp)).mono ?_;rintro e w' ⟨qA,qB,qC,qD,qE,qH,qL,qS,qZ,qK,qAC,qP,qV,qCY,qSP,qPC,h',rfl,⟨⟨nq,osq⟩,rfl⟩⟩;have HQ:=Lib.hid h';clear h')|(go_at_call 169;refine (wk_setpsw okh (by first|exact S.gw_bd HZ.out|assumption|exact w16_bd|exact HR.out.sp)).mono ?_;rintro e w' ⟨qA,qB,qC,qD,qE,qH,qL,qS,qZ,qK,qAC,qP,qV,qCY,qSP,qPC,h',rfl,⟨⟨nq,osq⟩,rfl⟩⟩;have HQ:=Lib.hid h';clear h'))))
 all_goals (try go_wp2_with (first|(go_at_call 143;refine sm (rd_at b c inj ga gn gc z (by omega) _ (H.out.keeps aD)) ?_)|(go_at_call 159;refine sm (rd_word b c inj ga gn gc z (by omega) (by omega) (H.out.keeps aD)) ?_)|(go_at_call 157;refine (wk_get okh).mono ?_;rintro e w' ⟨vg,hvg,rfl,⟨⟨ng,osg⟩,rfl⟩⟩)|(go_at_call 148;refine (wk_pair _ okh).mono ?_;rintro e w' ⟨vp,hvp,rfl,⟨⟨np,osp⟩,rfl⟩⟩)|(go_at_call 167;refine (wk_set okh (by first|exact S.gb_bd HZ.out _|exact HR.out.a|exact HQ.out.a|assumption|exact w8_bd)).mono ?_;rintro e w' ⟨qA,qB,qC,qD,qE,qH,qL,qS,qZ,qK,qAC,qP,qV,qCY,qSP,qPC,h',rfl,⟨⟨nq,osq⟩,rfl⟩⟩;have HQ:=Lib.hid h';clear h')|(go_at_call 168;refine (wk_setpair okh (by first|exact S.gw_bd HZ.out|assumption|exact w16_bd|exact HR.out.sp)).mono ?_;rintro e w' ⟨qA,qB,qC,qD,qE,qH,qL,qS,qZ,qK,qAC,qP,qV,qCY,qSP,qPC,h',rfl,⟨⟨nq,osq⟩,rfl⟩⟩;have HQ:=Lib.hid h';clear h')|(go_at_call 169;refine (wk_setpsw okh (by first|exact S.gw_bd HZ.out|assumption|exact w16_bd|exact HR.out.sp)).mono ?_;rintro e w' ⟨qA,qB,qC,qD,qE,qH,qL,qS,qZ,qK,qAC,qP,qV,qCY,qSP,qPC,h',rfl,⟨⟨nq,osq⟩,rfl⟩⟩;have HQ:=Lib.hid h';clear h')))
 all_goals
  refine bodyPost_ret (ret3_Regs Tryz.results145 rfl rfl rfl (by simp [go_sem])) rfl ?_
  simp [go_sem]
  exact PostLd.mk _ _ _ _ _ _ _ _ _ _ _ _ _ _ _ _ _ okr aD):P:=hP
end
section
theorem loaded_2:LoadK 2:=ldT
theorem loaded_11:LoadK 11:=ldT
theorem loaded_5:LoadK 5:=ldT
theorem loaded_7:LoadK 7:=ldT
theorem loaded_47:LoadK 47:=ldT
theorem loaded_9:LoadK 9:=ldT
theorem loaded_33:LoadK 33:=ldT
theorem loaded_32:LoadK 32:=ldT
theorem loaded_29:LoadK 29:=ldT
theorem loaded_30:LoadK 30:=ldT
end
section
variable {P:Prop}
theorem cpb (h:P:=by first|exact S.gb_bd HZ.out _|exact HR.out.a|assumption):P:=h
theorem cpw (h:P:=by first|assumption|exact HR.out.sp):P:=h
theorem cp_a (h:P:=by first|exact HR.out.a|exact HQ.out.a|exact S.gb_bd HZ.out _|assumption|omega):P:=h
theorem cp_b (h:P:=by first|exact HR.out.b|exact HQ.out.b|exact S.gb_bd HZ.out _|assumption|omega):P:=h
theorem cp_c (h:P:=by first|exact HR.out.c|exact HQ.out.c|exact S.gb_bd HZ.out _|assumption|omega):P:=h
theorem cp_d (h:P:=by first|exact HR.out.d|exact HQ.out.d|exact S.gb_bd HZ.out _|assumption|omega):P:=h
theorem cp_e (h:P:=by first|exact HR.out.e|exact HQ.out.e|exact S.gb_bd HZ.out _|assumption|omega):P:=h
theorem cp_h (h:P:=by first|exact HR.out.h|exact HQ.out.h|exact S.gb_bd HZ.out _|assumption|omega):P:=h
theorem cp_l (h:P:=by first|exact HR.out.l|exact HQ.out.l|exact S.gb_bd HZ.out _|assumption|omega):P:=h
theorem cp_sp (h:P:=by first|exact HR.out.sp|exact HQ.out.sp|exact S.gb_bd HZ.out _|assumption|omega):P:=h
theorem cp_pc (h:P:=by first|exact HR.out.pc|exact HQ.out.pc|exact S.gb_bd HZ.out _|assumption|omega):P:=h
theorem cpr (h:P:=by exact ⟨cp_a,cp_b,cp_c,cp_d,cp_e,cp_h,cp_l,cp_sp,cp_pc⟩):P:=h
def CompK (jk:Int):Prop:=∀(b:Nat) (c:S.Cp) (inj:Bool) (ga:Option Addr) (gn gc:Nat) (z:List Int) (jl jd js jp jo jc jn:Int),S.OkR c.A c.B c.C c.D c.E c.H c.L c.SP c.PC→∀w,MkRd b c inj ga gn gc z w→Calls Tryz.prog 146 #[.pointer (some ⟨b,0,none⟩),.agg #[.int .i64 jk,.int .i64 jl,.int .i64 jd,.int .i64 js,.int .i64 jp,.int .i64 jo,.int .i64 jc,.int .i64 jn]] w (PostR w)
theorem cpT {P:Prop} (hP:P:=by
 intro b c inj ga gn gc z jl jd js jp jo jc jn hR w h
 obtain ⟨lv,hc,hf,hb,hr⟩:=h.cells
 have hz:∀y∈z,0≤y∧y < 256:=by obtain ⟨_,_,_,_,hz⟩:=h;exact hz
 have H:=Lib.hid h
 have HZ:=Lib.hid hz
 have HR:=Lib.hid hR
 clear h hz hR
 go_enter Tryz.func146,Tryz.ntmps146
 go_wp2_with fail
 go_region
 go_wp2_with (first|(go_at_call 143;refine sm (rd_at b c inj ga gn gc z (by omega) _ (H.out.keeps aD)) ?_)|(go_at_call 157;refine (wk_get HR.out).mono ?_;rintro e w' ⟨vg,hvg,rfl,⟨⟨ng,osg⟩,rfl⟩⟩)|(go_at_call 148;(with_reducible refine (wk_pair 2 (by exact HR.out)).mono ?_);rintro e w' ⟨hl,hhl,rfl,⟨⟨np,osp⟩,rfl⟩⟩)|(go_at_call 148;refine (wk_pair _ (by exact HR.out)).mono ?_;rintro e w' ⟨vp,hvp,rfl,⟨⟨np2,osp2⟩,rfl⟩⟩)|(go_at_call 170;refine (wk_do cpb cpb).mono ?_;rintro e w' ⟨rr,f1,f2,f3,f4,f5,f6,f7,hrr,rfl,⟨⟨nf,osf⟩,rfl⟩⟩)|(go_at_call 160;refine (stepped_any cpb).mono ?_;rintro e w' ⟨rr,f1,f2,f3,f4,f5,f6,f7,hrr,rfl,⟨⟨nf,osf⟩,rfl⟩⟩)|(go_at_call 171;refine (wk_inx cpw).mono ?_;rintro e w' ⟨rr,f1,f2,f3,f4,f5,f6,f7,hrr,rfl,⟨⟨nf,osf⟩,rfl⟩⟩)|(go_at_call 172;refine (wk_dcx cpw).mono ?_;rintro e w' ⟨rr,f1,f2,f3,f4,f5,f6,f7,hrr,rfl,⟨⟨nf,osf⟩,rfl⟩⟩)|(go_at_call 173;refine (wk_dad cpw cpw).mono ?_;rintro e w' ⟨rr,f1,f2,f3,f4,f5,f6,f7,hrr,rfl,⟨⟨nf,osf⟩,rfl⟩⟩)|(go_at_call 174;refine (wk_daa cpb).mono ?_;rintro e w' ⟨rr,f1,f2,f3,f4,f5,f6,f7,hrr,rfl,⟨⟨nf,osf⟩,rfl⟩⟩)|(go_at_call 176;refine (wk_dsub cpw cpw).mono ?_;rintro e w' ⟨rr,f1,f2,f3,f4,f5,f6,f7,hrr,rfl,⟨⟨nf,osf⟩,rfl⟩⟩)|(go_at_call 175;refine (wk_byte cpb).mono ?_;rintro e w' ⟨rr,o1,hrr,rfl,rfl⟩)|(go_at_call 177;refine (wk_arhl cpw).mono ?_;rintro e w' ⟨rr,o1,hrr,rfl,rfl⟩)|(go_at_call 178;refine (wk_rdel cpw).mono ?_;rintro e w' ⟨rr,o1,o2,hrr,rfl,rfl⟩)|(go_at_call 167;refine (wk_set (by exact HR.out) cpb).mono ?_;rintro e w' ⟨qA,qB,qC,qD,qE,qH,qL,qS,qZ,qK,qAC,qP,qV,qCY,qSP,qPC,h',rfl,⟨⟨nq,osq⟩,rfl⟩⟩;have HQ:=Lib.hid h';clear h')|(go_at_call 168;refine (wk_setpair (by exact HR.out) cpw).mono ?_;rintro e w' ⟨qA,qB,qC,qD,qE,qH,qL,qS,qZ,qK,qAC,qP,qV,qCY,qSP,qPC,h',rfl,⟨⟨nq,osq⟩,rfl⟩⟩;have HQ:=Lib.hid h';clear h'))
 all_goals
  refine bodyPost_ret (ret_Regs Tryz.results146 rfl rfl (by simp [go_sem])) rfl ?_
  simp [go_sem]
  exact ⟨_,_,_,_,_,_,_,_,_,_,_,_,_,_,_,_,cpr,rfl,aD⟩):P:=hP
theorem computed_12:CompK 12:=cpT
theorem computed_19:CompK 19:=cpT
theorem computed_20:CompK 20:=cpT
theorem computed_21:CompK 21:=cpT
theorem computed_22:CompK 22:=cpT
theorem computed_23:CompK 23:=cpT
theorem computed_41:CompK 41:=cpT
theorem computed_40:CompK 40:=cpT
end
section
theorem computed_no (b:Nat) (c:S.Cp) (inj:Bool) (ga:Option Addr) (gn gc:Nat) (z:List Int) (jk jl jd js jp jo jc jn:Int) (e12:(jk==12)=false) (e13:(jk==13)=false) (e14:(jk==14)=false) (e15:(jk==15)=false) (e16:(jk==16)=false) (e17:(jk==17)=false) (e18:(jk==18)=false) (e19:(jk==19)=false) (e20:(jk==20)=false) (e21:(jk==21)=false) (e22:(jk==22)=false) (e23:(jk==23)=false) (e40:(jk==40)=false) (e41:(jk==41)=false) (e42:(jk==42)=false) (hR:S.OkR c.A c.B c.C c.D c.E c.H c.L c.SP c.PC) (w:World) (h:MkRd b c inj ga gn gc z w):Calls Tryz.prog 146 #[.pointer (some ⟨b,0,none⟩),.agg #[.int .i64 jk,.int .i64 jl,.int .i64 jd,.int .i64 js,.int .i64 jp,.int .i64 jo,.int .i64 jc,.int .i64 jn]] w (PostR w):=by
 obtain ⟨lv,hc,hf,hb,hr⟩:=h.cells
 have hz:∀y∈z,0≤y∧y < 256:=by obtain ⟨_,_,_,_,hz⟩:=h;exact hz
 have H:=Lib.hid h
 have HZ:=Lib.hid hz
 have HR:=Lib.hid hR
 clear h hz hR
 go_enter Tryz.func146,Tryz.ntmps146
 go_wp2_with fail
 go_region
 go_wp2_with (first|(go_at_call 143;refine sm (rd_at b c inj ga gn gc z (by omega) _ (H.out.keeps aD)) ?_)|(go_at_call 157;refine (wk_get HR.out).mono ?_;rintro e w' ⟨vg,hvg,rfl,⟨⟨ng,osg⟩,rfl⟩⟩)|(go_at_call 148;(with_reducible refine (wk_pair 2 (by exact HR.out)).mono ?_);rintro e w' ⟨hl,hhl,rfl,⟨⟨np,osp⟩,rfl⟩⟩)|(go_at_call 148;refine (wk_pair _ (by exact HR.out)).mono ?_;rintro e w' ⟨vp,hvp,rfl,⟨⟨np2,osp2⟩,rfl⟩⟩))
 all_goals
  refine bodyPost_ret (ret_Regs Tryz.results146 rfl rfl (by simp [go_sem])) rfl ?_
  simp [go_sem]
  exact ⟨_,_,_,_,_,_,_,_,_,_,_,_,_,_,_,_,cpr,rfl,aD⟩
end
section
theorem computed_14:CompK 14:=by
 intro b c inj ga gn gc z jl jd js jp jo jc jn hR w h
 obtain ⟨lv,hc,hf,hb,hr⟩:=h.cells
 have hz:∀y∈z,0≤y∧y < 256:=by obtain ⟨_,_,_,_,hz⟩:=h;exact hz
 have H:=Lib.hid h
 have HZ:=Lib.hid hz
 have HR:=Lib.hid hR
 clear h hz hR
 go_enter Tryz.func146,Tryz.ntmps146
 go_wp2_with fail
 go_region
 go_upto_region 16 with (first|(go_at_call 143;refine sm (rd_at b c inj ga gn gc z (by omega) _ (H.out.keeps aD)) ?_)|(go_at_call 157;refine (wk_get HR.out).mono ?_;rintro e w' ⟨vg,hvg,rfl,⟨⟨ng,osg⟩,rfl⟩⟩)|(go_at_call 148;(with_reducible refine (wk_pair 2 (by exact HR.out)).mono ?_);rintro e w' ⟨hl,hhl,rfl,⟨⟨np,osp⟩,rfl⟩⟩)|(go_at_call 148;refine (wk_pair _ (by exact HR.out)).mono ?_;rintro e w' ⟨vp,hvp,rfl,⟨⟨np2,osp2⟩,rfl⟩⟩)|(go_at_call 160;refine (stepped_any cpb).mono ?_;rintro e w' ⟨rr,f1,f2,f3,f4,f5,f6,f7,hrr,rfl,⟨⟨nf,osf⟩,rfl⟩⟩)|(go_at_call 167;refine (wk_set (by exact HR.out) cpb).mono ?_;rintro e w' ⟨qA,qB,qC,qD,qE,qH,qL,qS,qZ,qK,qAC,qP,qV,qCY,qSP,qPC,h',rfl,⟨⟨nq,osq⟩,rfl⟩⟩;have HQ:=Lib.hid h';clear h'))
 all_goals go_region_held3 (fun w'=>rowOf w' b=#[.int .i64 c.Ch,.int .u8 c.A,.int .u8 c.B,.int .u8 c.C,.int .u8 c.D,.int .u8 c.E,.int .u8 c.H,.int .u8 c.L,.bool c.fS,.bool c.fZ,.bool c.fK,.bool c.fAC,.bool c.fP,.bool c.fV,.bool c.fCY,.int .u16 c.SP,.int .u16 c.PC,.bool c.IE,.bool c.De,.bool c.Ha,.int .u8 c.Ma,.bool c.Tr,.bool c.R7,.bool c.WT,.bool c.W7,.bool c.Sa,.bool c.SI,.bool c.SO,.bool inj,.slice ga gn gc,lv]∧rowOf w' w.heap.size=#[.int .i64 14,.int .i64 jl,.int .i64 jd,.int .i64 js,.int .i64 jp,.int .i64 jo,.int .i64 jc,.int .i64 jn]) (simp [go_sem,hr,hb]) (first|(go_at_call 143;refine sm (rd_at b c inj ga gn gc z (by omega) _ (H.out.keeps aD)) ?_)|(go_at_call 157;refine (wk_get HR.out).mono ?_;rintro e w' ⟨vg,hvg,rfl,⟨⟨ng,osg⟩,rfl⟩⟩)|(go_at_call 148;(with_reducible refine (wk_pair 2 (by exact HR.out)).mono ?_);rintro e w' ⟨hl,hhl,rfl,⟨⟨np,osp⟩,rfl⟩⟩)|(go_at_call 148;refine (wk_pair _ (by exact HR.out)).mono ?_;rintro e w' ⟨vp,hvp,rfl,⟨⟨np2,osp2⟩,rfl⟩⟩)|(go_at_call 160;refine (stepped_any cpb).mono ?_;rintro e w' ⟨rr,f1,f2,f3,f4,f5,f6,f7,hrr,rfl,⟨⟨nf,osf⟩,rfl⟩⟩)|(go_at_call 167;refine (wk_set (by exact HR.out) cpb).mono ?_;rintro e w' ⟨qA,qB,qC,qD,qE,qH,qL,qS,qZ,qK,qAC,qP,qV,qCY,qSP,qPC,h',rfl,⟨⟨nq,osq⟩,rfl⟩⟩;have HQ:=Lib.hid h';clear h'))
 all_goals go_wp2_with (first|(go_at_call 143;refine sm (rd_at b c inj ga gn gc z (by omega) _ (H.out.keeps aD)) ?_)|(go_at_call 157;refine (wk_get HR.out).mono ?_;rintro e w' ⟨vg,hvg,rfl,⟨⟨ng,osg⟩,rfl⟩⟩)|(go_at_call 148;(with_reducible refine (wk_pair 2 (by exact HR.out)).mono ?_);rintro e w' ⟨hl,hhl,rfl,⟨⟨np,osp⟩,rfl⟩⟩)|(go_at_call 148;refine (wk_pair _ (by exact HR.out)).mono ?_;rintro e w' ⟨vp,hvp,rfl,⟨⟨np2,osp2⟩,rfl⟩⟩)|(go_at_call 160;refine (stepped_any cpb).mono ?_;rintro e w' ⟨rr,f1,f2,f3,f4,f5,f6,f7,hrr,rfl,⟨⟨nf,osf⟩,rfl⟩⟩)|(go_at_call 167;refine (wk_set (by exact HR.out) cpb).mono ?_;rintro e w' ⟨qA,qB,qC,qD,qE,qH,qL,qS,qZ,qK,qAC,qP,qV,qCY,qSP,qPC,h',rfl,⟨⟨nq,osq⟩,rfl⟩⟩;have HQ:=Lib.hid h';clear h'))
 all_goals
  refine bodyPost_ret (ret_Regs Tryz.results146 rfl rfl (by simp [go_sem])) rfl ?_
  simp [go_sem]
  exact ⟨_,_,_,_,_,_,_,_,_,_,_,_,_,_,_,_,cpr,rfl,aD⟩
end
section
theorem computed_15:CompK 15:=by
 intro b c inj ga gn gc z jl jd js jp jo jc jn hR w h
 obtain ⟨lv,hc,hf,hb,hr⟩:=h.cells
 have hz:∀y∈z,0≤y∧y < 256:=by obtain ⟨_,_,_,_,hz⟩:=h;exact hz
 have H:=Lib.hid h
 have HZ:=Lib.hid hz
 have HR:=Lib.hid hR
 clear h hz hR
 go_enter Tryz.func146,Tryz.ntmps146
 go_wp2_with fail
 go_region
 go_upto_region 16 with (first|(go_at_call 143;refine sm (rd_at b c inj ga gn gc z (by omega) _ (H.out.keeps aD)) ?_)|(go_at_call 157;refine (wk_get HR.out).mono ?_;rintro e w' ⟨vg,hvg,rfl,⟨⟨ng,osg⟩,rfl⟩⟩)|(go_at_call 148;(with_reducible refine (wk_pair 2 (by exact HR.out)).mono ?_);rintro e w' ⟨hl,hhl,rfl,⟨⟨np,osp⟩,rfl⟩⟩)|(go_at_call 148;refine (wk_pair _ (by exact HR.out)).mono ?_;rintro e w' ⟨vp,hvp,rfl,⟨⟨np2,osp2⟩,rfl⟩⟩)|(go_at_call 160;refine (stepped_any cpb).mono ?_;rintro e w' ⟨rr,f1,f2,f3,f4,f5,f6,f7,hrr,rfl,⟨⟨nf,osf⟩,rfl⟩⟩)|(go_at_call 167;refine (wk_set (by exact HR.out) cpb).mono ?_;rintro e w' ⟨qA,qB,qC,qD,qE,qH,qL,qS,qZ,qK,qAC,qP,qV,qCY,qSP,qPC,h',rfl,⟨⟨nq,osq⟩,rfl⟩⟩;have HQ:=Lib.hid h';clear h'))
 all_goals go_region_held3 (fun w'=>rowOf w' b=#[.int .i64 c.Ch,.int .u8 c.A,.int .u8 c.B,.int .u8 c.C,.int .u8 c.D,.int .u8 c.E,.int .u8 c.H,.int .u8 c.L,.bool c.fS,.bool c.fZ,.bool c.fK,.bool c.fAC,.bool c.fP,.bool c.fV,.bool c.fCY,.int .u16 c.SP,.int .u16 c.PC,.bool c.IE,.bool c.De,.bool c.Ha,.int .u8 c.Ma,.bool c.Tr,.bool c.R7,.bool c.WT,.bool c.W7,.bool c.Sa,.bool c.SI,.bool c.SO,.bool inj,.slice ga gn gc,lv]∧rowOf w' w.heap.size=#[.int .i64 15,.int .i64 jl,.int .i64 jd,.int .i64 js,.int .i64 jp,.int .i64 jo,.int .i64 jc,.int .i64 jn]) (simp [go_sem,hr,hb]) (first|(go_at_call 143;refine sm (rd_at b c inj ga gn gc z (by omega) _ (H.out.keeps aD)) ?_)|(go_at_call 157;refine (wk_get HR.out).mono ?_;rintro e w' ⟨vg,hvg,rfl,⟨⟨ng,osg⟩,rfl⟩⟩)|(go_at_call 148;(with_reducible refine (wk_pair 2 (by exact HR.out)).mono ?_);rintro e w' ⟨hl,hhl,rfl,⟨⟨np,osp⟩,rfl⟩⟩)|(go_at_call 148;refine (wk_pair _ (by exact HR.out)).mono ?_;rintro e w' ⟨vp,hvp,rfl,⟨⟨np2,osp2⟩,rfl⟩⟩)|(go_at_call 160;refine (stepped_any cpb).mono ?_;rintro e w' ⟨rr,f1,f2,f3,f4,f5,f6,f7,hrr,rfl,⟨⟨nf,osf⟩,rfl⟩⟩)|(go_at_call 167;refine (wk_set (by exact HR.out) cpb).mono ?_;rintro e w' ⟨qA,qB,qC,qD,qE,qH,qL,qS,qZ,qK,qAC,qP,qV,qCY,qSP,qPC,h',rfl,⟨⟨nq,osq⟩,rfl⟩⟩;have HQ:=Lib.hid h';clear h'))
 all_goals go_wp2_with (first|(go_at_call 143;refine sm (rd_at b c inj ga gn gc z (by omega) _ (H.out.keeps aD)) ?_)|(go_at_call 157;refine (wk_get HR.out).mono ?_;rintro e w' ⟨vg,hvg,rfl,⟨⟨ng,osg⟩,rfl⟩⟩)|(go_at_call 148;(with_reducible refine (wk_pair 2 (by exact HR.out)).mono ?_);rintro e w' ⟨hl,hhl,rfl,⟨⟨np,osp⟩,rfl⟩⟩)|(go_at_call 148;refine (wk_pair _ (by exact HR.out)).mono ?_;rintro e w' ⟨vp,hvp,rfl,⟨⟨np2,osp2⟩,rfl⟩⟩)|(go_at_call 160;refine (stepped_any cpb).mono ?_;rintro e w' ⟨rr,f1,f2,f3,f4,f5,f6,f7,hrr,rfl,⟨⟨nf,osf⟩,rfl⟩⟩)|(go_at_call 167;refine (wk_set (by exact HR.out) cpb).mono ?_;rintro e w' ⟨qA,qB,qC,qD,qE,qH,qL,qS,qZ,qK,qAC,qP,qV,qCY,qSP,qPC,h',rfl,⟨⟨nq,osq⟩,rfl⟩⟩;have HQ:=Lib.hid h';clear h'))
 all_goals
  refine bodyPost_ret (ret_Regs Tryz.results146 rfl rfl (by simp [go_sem])) rfl ?_
  simp [go_sem]
  exact ⟨_,_,_,_,_,_,_,_,_,_,_,_,_,_,_,_,cpr,rfl,aD⟩
end
section
theorem computed_16:CompK 16:=by
 intro b c inj ga gn gc z jl jd js jp jo jc jn hR w h
 obtain ⟨lv,hc,hf,hb,hr⟩:=h.cells
 have hz:∀y∈z,0≤y∧y < 256:=by obtain ⟨_,_,_,_,hz⟩:=h;exact hz
 have H:=Lib.hid h
 have HZ:=Lib.hid hz
 have HR:=Lib.hid hR
 clear h hz hR
 go_enter Tryz.func146,Tryz.ntmps146
 go_wp2_with fail
 go_region
 go_upto_region 20 with (first|(go_at_call 148;(with_reducible refine (wk_pair 2 (by exact HR.out)).mono ?_);rintro e w' ⟨hl,hhl,rfl,⟨⟨np,osp⟩,rfl⟩⟩)|(go_at_call 148;refine (wk_pair _ (by exact HR.out)).mono ?_;rintro e w' ⟨vp,hvp,rfl,⟨⟨np2,osp2⟩,rfl⟩⟩)|(go_at_call 171;refine (wk_inx cpw).mono ?_;rintro e w' ⟨rr,f1,f2,f3,f4,f5,f6,f7,hrr,rfl,⟨⟨nf,osf⟩,rfl⟩⟩)|(go_at_call 168;refine (wk_setpair (by exact HR.out) cpw).mono ?_;rintro e w' ⟨qA,qB,qC,qD,qE,qH,qL,qS,qZ,qK,qAC,qP,qV,qCY,qSP,qPC,h',rfl,⟨⟨nq,osq⟩,rfl⟩⟩;have HQ:=Lib.hid h';clear h'))
 go_region_held3 (fun w'=>rowOf w' (w.heap.size+1+1)=#[.int .u8 c.A,.int .u8 c.B,.int .u8 c.C,.int .u8 c.D,.int .u8 c.E,.int .u8 c.H,.int .u8 c.L,.bool c.fS,.bool c.fZ,.bool c.fK,.bool c.fAC,.bool c.fP,.bool c.fV,.bool c.fCY,.int .u16 c.SP,.int .u16 c.PC]∧w'.cell? ⟨w.heap.size,4,none⟩=some (.int .i64 jp)) (simp [go_sem]) (first|(go_at_call 148;(with_reducible refine (wk_pair 2 (by exact HR.out)).mono ?_);rintro e w' ⟨hl,hhl,rfl,⟨⟨np,osp⟩,rfl⟩⟩)|(go_at_call 148;refine (wk_pair _ (by exact HR.out)).mono ?_;rintro e w' ⟨vp,hvp,rfl,⟨⟨np2,osp2⟩,rfl⟩⟩)|(go_at_call 171;refine (wk_inx cpw).mono ?_;rintro e w' ⟨rr,f1,f2,f3,f4,f5,f6,f7,hrr,rfl,⟨⟨nf,osf⟩,rfl⟩⟩)|(go_at_call 168;refine (wk_setpair (by exact HR.out) cpw).mono ?_;rintro e w' ⟨qA,qB,qC,qD,qE,qH,qL,qS,qZ,qK,qAC,qP,qV,qCY,qSP,qPC,h',rfl,⟨⟨nq,osq⟩,rfl⟩⟩;have HQ:=Lib.hid h';clear h'))
 all_goals go_wp2_with (first|(go_at_call 148;(with_reducible refine (wk_pair 2 (by exact HR.out)).mono ?_);rintro e w' ⟨hl,hhl,rfl,⟨⟨np,osp⟩,rfl⟩⟩)|(go_at_call 148;refine (wk_pair _ (by exact HR.out)).mono ?_;rintro e w' ⟨vp,hvp,rfl,⟨⟨np2,osp2⟩,rfl⟩⟩)|(go_at_call 171;refine (wk_inx cpw).mono ?_;rintro e w' ⟨rr,f1,f2,f3,f4,f5,f6,f7,hrr,rfl,⟨⟨nf,osf⟩,rfl⟩⟩)|(go_at_call 168;refine (wk_setpair (by exact HR.out) cpw).mono ?_;rintro e w' ⟨qA,qB,qC,qD,qE,qH,qL,qS,qZ,qK,qAC,qP,qV,qCY,qSP,qPC,h',rfl,⟨⟨nq,osq⟩,rfl⟩⟩;have HQ:=Lib.hid h';clear h'))
 all_goals
  refine bodyPost_ret (ret_Regs Tryz.results146 rfl rfl (by simp [go_sem])) rfl ?_
  simp [go_sem]
  exact ⟨_,_,_,_,_,_,_,_,_,_,_,_,_,_,_,_,cpr,rfl,aD⟩
end
section
theorem computed_17:CompK 17:=by
 intro b c inj ga gn gc z jl jd js jp jo jc jn hR w h
 obtain ⟨lv,hc,hf,hb,hr⟩:=h.cells
 have hz:∀y∈z,0≤y∧y < 256:=by obtain ⟨_,_,_,_,hz⟩:=h;exact hz
 have H:=Lib.hid h
 have HZ:=Lib.hid hz
 have HR:=Lib.hid hR
 clear h hz hR
 go_enter Tryz.func146,Tryz.ntmps146
 go_wp2_with fail
 go_region
 go_upto_region 24 with (first|(go_at_call 148;(with_reducible refine (wk_pair 2 (by exact HR.out)).mono ?_);rintro e w' ⟨hl,hhl,rfl,⟨⟨np,osp⟩,rfl⟩⟩)|(go_at_call 148;refine (wk_pair _ (by exact HR.out)).mono ?_;rintro e w' ⟨vp,hvp,rfl,⟨⟨np2,osp2⟩,rfl⟩⟩)|(go_at_call 172;refine (wk_dcx cpw).mono ?_;rintro e w' ⟨rr,f1,f2,f3,f4,f5,f6,f7,hrr,rfl,⟨⟨nf,osf⟩,rfl⟩⟩)|(go_at_call 168;refine (wk_setpair (by exact HR.out) cpw).mono ?_;rintro e w' ⟨qA,qB,qC,qD,qE,qH,qL,qS,qZ,qK,qAC,qP,qV,qCY,qSP,qPC,h',rfl,⟨⟨nq,osq⟩,rfl⟩⟩;have HQ:=Lib.hid h';clear h'))
 go_region_held3 (fun w'=>rowOf w' (w.heap.size+1+1)=#[.int .u8 c.A,.int .u8 c.B,.int .u8 c.C,.int .u8 c.D,.int .u8 c.E,.int .u8 c.H,.int .u8 c.L,.bool c.fS,.bool c.fZ,.bool c.fK,.bool c.fAC,.bool c.fP,.bool c.fV,.bool c.fCY,.int .u16 c.SP,.int .u16 c.PC]∧w'.cell? ⟨w.heap.size,4,none⟩=some (.int .i64 jp)) (simp [go_sem]) (first|(go_at_call 148;(with_reducible refine (wk_pair 2 (by exact HR.out)).mono ?_);rintro e w' ⟨hl,hhl,rfl,⟨⟨np,osp⟩,rfl⟩⟩)|(go_at_call 148;refine (wk_pair _ (by exact HR.out)).mono ?_;rintro e w' ⟨vp,hvp,rfl,⟨⟨np2,osp2⟩,rfl⟩⟩)|(go_at_call 172;refine (wk_dcx cpw).mono ?_;rintro e w' ⟨rr,f1,f2,f3,f4,f5,f6,f7,hrr,rfl,⟨⟨nf,osf⟩,rfl⟩⟩)|(go_at_call 168;refine (wk_setpair (by exact HR.out) cpw).mono ?_;rintro e w' ⟨qA,qB,qC,qD,qE,qH,qL,qS,qZ,qK,qAC,qP,qV,qCY,qSP,qPC,h',rfl,⟨⟨nq,osq⟩,rfl⟩⟩;have HQ:=Lib.hid h';clear h'))
 all_goals go_wp2_with (first|(go_at_call 148;(with_reducible refine (wk_pair 2 (by exact HR.out)).mono ?_);rintro e w' ⟨hl,hhl,rfl,⟨⟨np,osp⟩,rfl⟩⟩)|(go_at_call 148;refine (wk_pair _ (by exact HR.out)).mono ?_;rintro e w' ⟨vp,hvp,rfl,⟨⟨np2,osp2⟩,rfl⟩⟩)|(go_at_call 172;refine (wk_dcx cpw).mono ?_;rintro e w' ⟨rr,f1,f2,f3,f4,f5,f6,f7,hrr,rfl,⟨⟨nf,osf⟩,rfl⟩⟩)|(go_at_call 168;refine (wk_setpair (by exact HR.out) cpw).mono ?_;rintro e w' ⟨qA,qB,qC,qD,qE,qH,qL,qS,qZ,qK,qAC,qP,qV,qCY,qSP,qPC,h',rfl,⟨⟨nq,osq⟩,rfl⟩⟩;have HQ:=Lib.hid h';clear h'))
 all_goals
  refine bodyPost_ret (ret_Regs Tryz.results146 rfl rfl (by simp [go_sem])) rfl ?_
  simp [go_sem]
  exact ⟨_,_,_,_,_,_,_,_,_,_,_,_,_,_,_,_,cpr,rfl,aD⟩
end
section
theorem computed_18:CompK 18:=by
 intro b c inj ga gn gc z jl jd js jp jo jc jn hR w h
 obtain ⟨lv,hc,hf,hb,hr⟩:=h.cells
 have hz:∀y∈z,0≤y∧y < 256:=by obtain ⟨_,_,_,_,hz⟩:=h;exact hz
 have H:=Lib.hid h
 have HZ:=Lib.hid hz
 have HR:=Lib.hid hR
 clear h hz hR
 go_enter Tryz.func146,Tryz.ntmps146
 go_wp2_with fail
 go_region
 go_upto_region 28 with (first|(go_at_call 148;(with_reducible refine (wk_pair 2 (by exact HR.out)).mono ?_);rintro e w' ⟨hl,hhl,rfl,⟨⟨np,osp⟩,rfl⟩⟩)|(go_at_call 148;refine (wk_pair _ (by exact HR.out)).mono ?_;rintro e w' ⟨vp,hvp,rfl,⟨⟨np2,osp2⟩,rfl⟩⟩)|(go_at_call 173;refine (wk_dad cpw cpw).mono ?_;rintro e w' ⟨rr,f1,f2,f3,f4,f5,f6,f7,hrr,rfl,⟨⟨nf,osf⟩,rfl⟩⟩)|(go_at_call 168;refine (wk_setpair (by exact HR.out) cpw).mono ?_;rintro e w' ⟨qA,qB,qC,qD,qE,qH,qL,qS,qZ,qK,qAC,qP,qV,qCY,qSP,qPC,h',rfl,⟨⟨nq,osq⟩,rfl⟩⟩;have HQ:=Lib.hid h';clear h'))
 go_region_held3 (fun w'=>rowOf w' (w.heap.size+1+1)=#[.int .u8 c.A,.int .u8 c.B,.int .u8 c.C,.int .u8 c.D,.int .u8 c.E,.int .u8 c.H,.int .u8 c.L,.bool c.fS,.bool c.fZ,.bool c.fK,.bool c.fAC,.bool c.fP,.bool c.fV,.bool c.fCY,.int .u16 c.SP,.int .u16 c.PC]∧w'.cell? ⟨w.heap.size,4,none⟩=some (.int .i64 jp)) (simp [go_sem]) (first|(go_at_call 148;(with_reducible refine (wk_pair 2 (by exact HR.out)).mono ?_);rintro e w' ⟨hl,hhl,rfl,⟨⟨np,osp⟩,rfl⟩⟩)|(go_at_call 148;refine (wk_pair _ (by exact HR.out)).mono ?_;rintro e w' ⟨vp,hvp,rfl,⟨⟨np2,osp2⟩,rfl⟩⟩)|(go_at_call 173;refine (wk_dad cpw cpw).mono ?_;rintro e w' ⟨rr,f1,f2,f3,f4,f5,f6,f7,hrr,rfl,⟨⟨nf,osf⟩,rfl⟩⟩)|(go_at_call 168;refine (wk_setpair (by exact HR.out) cpw).mono ?_;rintro e w' ⟨qA,qB,qC,qD,qE,qH,qL,qS,qZ,qK,qAC,qP,qV,qCY,qSP,qPC,h',rfl,⟨⟨nq,osq⟩,rfl⟩⟩;have HQ:=Lib.hid h';clear h'))
 all_goals go_wp2_with (first|(go_at_call 148;(with_reducible refine (wk_pair 2 (by exact HR.out)).mono ?_);rintro e w' ⟨hl,hhl,rfl,⟨⟨np,osp⟩,rfl⟩⟩)|(go_at_call 148;refine (wk_pair _ (by exact HR.out)).mono ?_;rintro e w' ⟨vp,hvp,rfl,⟨⟨np2,osp2⟩,rfl⟩⟩)|(go_at_call 173;refine (wk_dad cpw cpw).mono ?_;rintro e w' ⟨rr,f1,f2,f3,f4,f5,f6,f7,hrr,rfl,⟨⟨nf,osf⟩,rfl⟩⟩)|(go_at_call 168;refine (wk_setpair (by exact HR.out) cpw).mono ?_;rintro e w' ⟨qA,qB,qC,qD,qE,qH,qL,qS,qZ,qK,qAC,qP,qV,qCY,qSP,qPC,h',rfl,⟨⟨nq,osq⟩,rfl⟩⟩;have HQ:=Lib.hid h';clear h'))
 all_goals
  refine bodyPost_ret (ret_Regs Tryz.results146 rfl rfl (by simp [go_sem])) rfl ?_
  simp [go_sem]
  exact ⟨_,_,_,_,_,_,_,_,_,_,_,_,_,_,_,_,cpr,rfl,aD⟩
end
section
theorem rpinsq_any (ch s d q:Int) (x:S.It) (h1:1≤s) (h10:s≤10) (hd:x.d=if s=3∧S.stR x.c=true then q else d) (w:World):Calls Tryz.prog 101 #[.int .i64 ch,.int .i64 s,.agg #[.int .i64 x.c,.int .u16 x.a,.int .u8 d,.int .i64 x.s],.int .u8 q,.bool x.e,.bool x.o] w fun r w'=>r=.returned (.agg (S.pn (ch==2) x s).cs)∧Adds w w':=by
 rcases (by omega:s=1∨s=2∨s=3∨s=4∨s=5∨s=6∨s=7∨s=8∨s=9∨s=10) with rfl|rfl|rfl|rfl|rfl|rfl|rfl|rfl|rfl|rfl<;>simp at hd<;>cases hc:(ch==2)
 ·exact rpins_1_false ch x.c x.a d x.s q x.e x.o x ⟨rfl,rfl,hd,rfl,rfl⟩ hc w
 ·exact rpins_1_true ch x.c x.a d x.s q x.e x.o x ⟨rfl,rfl,hd,rfl,rfl⟩ hc w
 ·exact rpins_2_false ch x.c x.a d x.s q x.e x.o x ⟨rfl,rfl,hd,rfl,rfl⟩ hc w
 ·exact rpins_2_true ch x.c x.a d x.s q x.e x.o x ⟨rfl,rfl,hd,rfl,rfl⟩ hc w
 ·exact rpins_3_false ch x.c x.a d x.s q x.e x.o x ⟨rfl,rfl,hd,rfl,rfl⟩ hc w
 ·exact rpins_3_true ch x.c x.a d x.s q x.e x.o x ⟨rfl,rfl,hd,rfl,rfl⟩ hc w
 ·exact rpins_4_false ch x.c x.a d x.s q x.e x.o x ⟨rfl,rfl,hd,rfl,rfl⟩ hc w
 ·exact rpins_4_true ch x.c x.a d x.s q x.e x.o x ⟨rfl,rfl,hd,rfl,rfl⟩ hc w
 ·exact rpins_5_false ch x.c x.a d x.s q x.e x.o x ⟨rfl,rfl,hd,rfl,rfl⟩ hc w
 ·exact rpins_5_true ch x.c x.a d x.s q x.e x.o x ⟨rfl,rfl,hd,rfl,rfl⟩ hc w
 ·exact rpins_6_false ch x.c x.a d x.s q x.e x.o x ⟨rfl,rfl,hd,rfl,rfl⟩ hc w
 ·exact rpins_6_true ch x.c x.a d x.s q x.e x.o x ⟨rfl,rfl,hd,rfl,rfl⟩ hc w
 ·exact rpins_7_false ch x.c x.a d x.s q x.e x.o x ⟨rfl,rfl,hd,rfl,rfl⟩ hc w
 ·exact rpins_7_true ch x.c x.a d x.s q x.e x.o x ⟨rfl,rfl,hd,rfl,rfl⟩ hc w
 ·exact rpins_8_false ch x.c x.a d x.s q x.e x.o x ⟨rfl,rfl,hd,rfl,rfl⟩ hc w
 ·exact rpins_8_true ch x.c x.a d x.s q x.e x.o x ⟨rfl,rfl,hd,rfl,rfl⟩ hc w
 ·exact rpins_9_false ch x.c x.a d x.s q x.e x.o x ⟨rfl,rfl,hd,rfl,rfl⟩ hc w
 ·exact rpins_9_true ch x.c x.a d x.s q x.e x.o x ⟨rfl,rfl,hd,rfl,rfl⟩ hc w
 ·exact rpins_10_false ch x.c x.a d x.s q x.e x.o x ⟨rfl,rfl,hd,rfl,rfl⟩ hc w
 ·exact rpins_10_true ch x.c x.a d x.s q x.e x.o x ⟨rfl,rfl,hd,rfl,rfl⟩ hc w
end
end Go.Proofs.YteggjjhjmhccjaaGreatDoor
