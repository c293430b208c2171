/- Texts that the proofs of the statements on dumps rest on, joined. Conditions stand in each theorem. -/
import Derived.Test.YteggjjhjmhccjaaGreatDoorQ00
import Derived.Test.YteggjjhjmhccjaaGreatDoorQ02
import Derived.Lib.Hide
import Derived.RegionTactic
import Derived.Deep.RegionWith
import Derived.Test.YteggjjhjmhccjaaGreatDoorQ01
import Derived.Laws.Bits128
import Derived.Lib.BitFns
import Derived.Deep.RegionHeld3
import Derived.OrdersHeld
import Derived.Deep.RegionHeld
set_option linter.unusedVariables false
set_option linter.unusedSimpArgs false
set_option maxRecDepth 100000
set_option maxHeartbeats 8000000
namespace Go.Proofs.YteggjjhjmhccjaaGreatDoor
open Go.ChangeShapes Go.WideShapes Go.ChangeAt Go.RowKit
section
variable {cA cB cC cCh cD cE cH cL cMa cPC cSP k:Int} {cDe cHa cIE cR7 cSI cSO cSa cTr cW7 cWT cfAC cfCY cfK cfP cfS cfV cfZ:Bool} {w:World}
theorem on85_15 {c:Int}:Calls Tryz.prog 114 #[.int .i64 c] w fun e w'=>e=.returned (.bool (decide (c=2)))∧w=w':=by
 go_enter Tryz.func114,Tryz.ntmps114
 go_wp2
 go_ret
 exact ⟨rfl,rfl⟩
theorem rlatch_any (cCh cA cB cC cD cE cH cL:Int) (cfS cfZ cfK cfAC cfP cfV cfCY:Bool) (cSP cPC:Int) (cIE cDe cHa:Bool) (cMa:Int) (cTr cR7 cWT cW7 cSa cSI cSO:Bool) (lRe lHo lRs lSi lTr lR7 lR6 lR5 lIn:Bool) (w:World):Calls Tryz.prog 78 #[.agg #[.int .i64 cCh,.int .u8 cA,.int .u8 cB,.int .u8 cC,.int .u8 cD,.int .u8 cE,.int .u8 cH,.int .u8 cL,.bool cfS,.bool cfZ,.bool cfK,.bool cfAC,.bool cfP,.bool cfV,.bool cfCY,.int .u16 cSP,.int .u16 cPC,.bool cIE,.bool cDe,.bool cHa,.int .u8 cMa,.bool cTr,.bool cR7,.bool cWT,.bool cW7,.bool cSa,.bool cSI,.bool cSO],.agg #[.bool lRe,.bool lHo,.bool lRs,.bool lSi,.bool lTr,.bool lR7,.bool lR6,.bool lR5,.bool lIn]] w fun e w'=>e=.returned (.agg #[.int .i64 cCh,.int .u8 cA,.int .u8 cB,.int .u8 cC,.int .u8 cD,.int .u8 cE,.int .u8 cH,.int .u8 cL,.bool cfS,.bool cfZ,.bool cfK,.bool cfAC,.bool cfP,.bool cfV,.bool cfCY,.int .u16 cSP,.int .u16 cPC,.bool cIE,.bool cDe,.bool cHa,.int .u8 cMa,.bool (S.latT cCh lTr cTr cWT),.bool (S.lat7 cCh lR7 cR7 cW7),.bool (S.latW cCh lTr cWT),.bool (S.latW cCh lR7 cW7),.bool cSa,.bool cSI,.bool cSO])∧Adds w w':=by
 by_cases hc:cCh=2
 ·subst hc
  go_enter Tryz.func78,Tryz.ntmps78
  go_wp2_with (first|(go_at_call 114;refine sm (on85_15) ?_))
  all_goals go_region
  all_goals go_wp2_with fail
  all_goals exact bodyPost_ret (ret_CPU Tryz.results78 rfl (by simp [go_sem,S.latT,S.lat7,S.latW, *]) rfl) rfl ⟨rfl,aD⟩
 ·go_enter Tryz.func78,Tryz.ntmps78
  go_wp2_with (first|(go_at_call 114;refine sm (on85_15) ?_))
  all_goals exact bodyPost_ret (ret_CPU Tryz.results78 rfl (by simp [go_sem,S.latT,S.lat7,S.latW,hc]) rfl) rfl ⟨rfl,aD⟩
theorem q1C15 {P:Prop} (h:P:=by
 go_enter Tryz.func133,Tryz.ntmps133
 go_wp2_with fail
 exact bodyPost_ret (ret_CPU Tryz.results133 rfl (by simp [go_sem,S.off,S.sw]) rfl) rfl ⟨rfl,aD⟩):P:=h
theorem raccept_any:Calls Tryz.prog 133 #[.agg #[.int .i64 cCh,.int .u8 cA,.int .u8 cB,.int .u8 cC,.int .u8 cD,.int .u8 cE,.int .u8 cH,.int .u8 cL,.bool cfS,.bool cfZ,.bool cfK,.bool cfAC,.bool cfP,.bool cfV,.bool cfCY,.int .u16 cSP,.int .u16 cPC,.bool cIE,.bool cDe,.bool cHa,.int .u8 cMa,.bool cTr,.bool cR7,.bool cWT,.bool cW7,.bool cSa,.bool cSI,.bool cSO],.int .i64 k] w fun e w'=>e=.returned (.agg #[.int .i64 cCh,.int .u8 cA,.int .u8 cB,.int .u8 cC,.int .u8 cD,.int .u8 cE,.int .u8 cH,.int .u8 cL,.bool cfS,.bool cfZ,.bool cfK,.bool cfAC,.bool cfP,.bool cfV,.bool cfCY,.int .u16 cSP,.int .u16 cPC,.bool (S.off k cIE),.bool (S.off k cDe),.bool (S.off k cHa),.int .u8 cMa,.bool (S.sw k 1 false cTr),.bool (S.sw k 2 false cR7),.bool cWT,.bool cW7,.bool (S.sw k 1 true cSa),.bool (S.sw k 1 cIE cSI),.bool cSO])∧Adds w w':=by
 by_cases h1:k=1
 ·subst h1
  exact q1C15
 by_cases h2:k=2
 ·subst h2
  exact q1C15
 by_cases h3:k=3
 ·subst h3
  exact q1C15
 by_cases h4:k=4
 ·subst h4
  exact q1C15
 by_cases h5:k=5
 ·subst h5
  exact q1C15
 have hk:¬(1≤k∧k≤5):=by omega
 have ho:∀b,S.off k b=b:=fun b=>by simp [S.off,hk]
 have hs1:∀x y,S.sw k 1 x y=y:=fun x y=>by simp [S.sw,h1]
 have hs2:∀x y,S.sw k 2 x y=y:=fun x y=>by simp [S.sw,h2]
 simp only [ho,hs1,hs2]
 clear ho hs1 hs2
 rcases (by omega:k < 1∨(¬k < 1∧5 < k)) with hl|⟨hl,hg⟩
 all_goals
  go_enter Tryz.func133,Tryz.ntmps133
  go_wp2_with fail
  all_goals exact bodyPost_ret (ret_CPU Tryz.results133 rfl (by simp [go_sem]) rfl) rfl ⟨rfl,aD⟩
theorem q2C15 {P:Prop} (h:P:=by
 go_enter Tryz.func142,Tryz.ntmps142
 go_wp2_with fail
 go_ret
 exact ⟨rfl,aD⟩):P:=h
theorem rvec_any:Calls Tryz.prog 142 #[.int .i64 k] w fun e w'=>e=.returned (.int .u16 (S.vec k))∧Adds w w':=by
 by_cases h1:k=1
 ·subst h1
  exact q2C15
 by_cases h2:k=2
 ·subst h2
  exact q2C15
 by_cases h3:k=3
 ·subst h3
  exact q2C15
 by_cases h4:k=4
 ·subst h4
  exact q2C15
 go_enter Tryz.func142,Tryz.ntmps142
 go_wp2_with fail
 go_ret
 exact ⟨ri (by simp [S.vec, *]),aD⟩
theorem rreset_any:Calls Tryz.prog 89 #[.agg #[.int .i64 cCh,.int .u8 cA,.int .u8 cB,.int .u8 cC,.int .u8 cD,.int .u8 cE,.int .u8 cH,.int .u8 cL,.bool cfS,.bool cfZ,.bool cfK,.bool cfAC,.bool cfP,.bool cfV,.bool cfCY,.int .u16 cSP,.int .u16 cPC,.bool cIE,.bool cDe,.bool cHa,.int .u8 cMa,.bool cTr,.bool cR7,.bool cWT,.bool cW7,.bool cSa,.bool cSI,.bool cSO]] w fun e w'=>e=.returned (.agg #[.int .i64 (cCh),.int .u8 cA,.int .u8 cB,.int .u8 cC,.int .u8 cD,.int .u8 cE,.int .u8 cH,.int .u8 cL,.bool cfS,.bool cfZ,.bool cfK,.bool cfAC,.bool cfP,.bool cfV,.bool cfCY,.int .u16 cSP,.int .u16 (0),.bool (false),.bool (false),.bool (false),.int .u8 (S.rsm cCh),.bool (false),.bool (false),.bool (false),.bool (false),.bool (false),.bool (false),.bool (false)])∧Adds w w':=by
 by_cases hc:cCh=2
 ·subst hc
  go_enter Tryz.func89,Tryz.ntmps89
  go_wp2_with (first|(go_at_call 114;refine sm (on85_15) ?_))
  exact bodyPost_ret (ret_CPU Tryz.results89 rfl (by simp [go_sem,S.rsm]) rfl) rfl ⟨rfl,aD⟩
 ·go_enter Tryz.func89,Tryz.ntmps89
  go_wp2_with (first|(go_at_call 114;refine sm (on85_15) ?_))
  exact bodyPost_ret (ret_CPU Tryz.results89 rfl (by simp [go_sem,S.rsm,hc]) rfl) rfl ⟨rfl,aD⟩
end
section
theorem q1C9 {P:Prop} (h:P:=by
 go_enter Tryz.func137,Tryz.ntmps137
 go_wp2_with fail
 exact bodyPost_ret (ret3_Instr Tryz.results137 rfl rfl (by simp [go_sem,S.spI,S.Ins.cs]) rfl) rfl ⟨rfl,aD⟩):P:=h
theorem special_any (op:Int) (w:World):Calls Tryz.prog 137 #[.int .u8 op] w fun e w'=>e=.returned (.tuple #[.agg (S.spI op).cs,.bool (S.spB op)])∧Adds w w':=by
 by_cases h8:op=8
 ·subst h8
  exact q1C9
 by_cases h16:op=16
 ·subst h16
  exact q1C9
 by_cases h24:op=24
 ·subst h24
  exact q1C9
 by_cases h32:op=32
 ·subst h32
  exact q1C9
 by_cases h40:op=40
 ·subst h40
  exact q1C9
 by_cases h48:op=48
 ·subst h48
  exact q1C9
 by_cases h56:op=56
 ·subst h56
  exact q1C9
 by_cases h203:op=203
 ·subst h203
  exact q1C9
 by_cases h217:op=217
 ·subst h217
  exact q1C9
 by_cases h221:op=221
 ·subst h221
  exact q1C9
 by_cases h237:op=237
 ·subst h237
  exact q1C9
 by_cases h253:op=253
 ·subst h253
  exact q1C9
 ·have e1:S.spI op={k:=0,l:=0}:=by simp [S.spI, *]
  have e2:S.spB op=false:=by simp [S.spB, *]
  rw [e1,e2]
  go_enter Tryz.func137,Tryz.ntmps137
  go_wp2_with fail
  exact bodyPost_ret (ret3_Instr Tryz.results137 rfl rfl (by simp [go_sem,S.Ins.cs]) rfl) rfl ⟨rfl,aD⟩
end
namespace K22.S
open Go.Proofs.YteggjjhjmhccjaaGreatDoor.S
variable {a b i n s:Int} {k:Nat}
def rk (l n:Int):Int:=(l - n - 1) % 8
def onB (s i:Int):Bool:=decide (s / 2 ^ i.toNat % 2=1)
def fst (s f:Int):Nat→Int
 |0=> -1
 |k+1=>if onB s ((f+7 - k) % 8) then (f+7 - k) % 8 else fst s f k
def hi (s n:Int):Int:=fst s ((n+1) % 8) 8
def bst (s n:Int):Nat→Int
 |0=> -1
 |k+1=>if onB s k=true∧(bst s n k < 0∨rk k n < rk (bst s n k) n) then k else bst s n k
def rot (s:Int) (f:Nat):Int:=(s / 2 ^ f+s * 2 ^ (8 - f)) % 256
def blk (m s:Int) (sp:Bool):Int:=if sp then bits .andNot .u8 s m else s
def pk (q b n:Int):Int:=if 0≤hi q n∧(hi b n < 0∨rk (hi q n) n < rk (hi b n) n) then hi q n else -1
theorem pr_and7 (n:Int):bits .and .i64 n 7=n % 8:=by
 have h7:(BitVec.ofInt 64 7).toNat=2 ^ 3 - 1:=by decide
 have key:(BitVec.ofInt 64 n &&& BitVec.ofInt 64 7).toNat=(n % ((2 ^ 64:Nat):Int)).toNat % 2 ^ 3:=by
  rw [BitVec.toNat_and,BitVec.toNat_ofInt,h7,Nat.and_two_pow_sub_one_eq_mod]
 show IntKind.i64.wrap ((BitVec.ofInt 64 n &&& BitVec.ofInt 64 7).toNat:Nat)=n % 8
 rw [key,IntKind.wrap_i64]
 omega
theorem rk_bd (l n:Int):0≤rk l n∧rk l n < 8:=by unfold rk;omega
theorem rk_inj (a0:0≤a) (a1:a < 8) (b0:0≤b) (b1:b < 8) (h:rk a n=rk b n):a=b:=by unfold rk at h;omega
theorem fst_spec (s f:Int):∀k:Nat,(fst s f k= -1∧∀j:Nat,j < k→onB s ((f+7 - j) % 8)=false)∨
 ∃j:Nat,j < k∧fst s f k=(f+7 - j) % 8∧onB s ((f+7 - j) % 8)=true∧∀i:Nat,j < i→i < k→onB s ((f+7 - i) % 8)=false
 |0=> .inl ⟨rfl,fun j hj=>by omega⟩
 |k+1=>by
  cases ho:onB s ((f+7 - k) % 8) with
  |true=>exact .inr ⟨k,by omega,by simp [fst,ho],ho,fun i h1 h2=>by omega⟩
  |false=>
   have e:fst s f (k+1)=fst s f k:=by simp [fst,ho]
   rw [e]
   rcases fst_spec s f k with ⟨h1,h2⟩|⟨j,h1,h2,h3,h4⟩
   ·refine .inl ⟨h1,fun j hj=> ?_⟩
    by_cases hk:j=k
    ·subst hk;exact ho
    ·exact h2 j (by omega)
   ·refine .inr ⟨j,by omega,h2,h3,fun i hi hik=> ?_⟩
    by_cases hk:i=k
    ·subst hk;exact ho
    ·exact h4 i hi (by omega)
theorem hi_spec (s n:Int):(hi s n= -1∧∀i:Int,0≤i→i < 8→onB s i=false)∨
 (0≤hi s n∧hi s n < 8∧onB s (hi s n)=true∧∀i:Int,0≤i→i < 8→onB s i=true→rk (hi s n) n≤rk i n):=by
 have key:∀i:Int,0≤i→i < 8→((n+1) % 8+7 - ((7 - (rk i n).toNat:Nat):Int)) % 8=i:=by
  intro i h0 h1
  have hb:=rk_bd i n
  unfold rk at hb⊢
  omega
 rcases fst_spec s ((n+1) % 8) 8 with ⟨h1,h2⟩|⟨j,h1,h2,h3,h4⟩
 ·refine .inl ⟨h1,fun i i0 i1=> ?_⟩
  rw [←key i i0 i1]
  exact h2 _ (by omega)
 ·refine .inr ⟨?_,?_,?_,fun i i0 i1 ho=> ?_⟩
  ·unfold hi;rw [h2];omega
  ·unfold hi;rw [h2];omega
  ·unfold hi;rw [h2];exact h3
  ·unfold hi;rw [h2]
   have hb:=rk_bd i n
   rw [←key i i0 i1] at ho
   by_cases hj:j < 7 - (rk i n).toNat
   ·rw [h4 _ hj (by omega)] at ho;cases ho
   ·have e:rk (((n+1) % 8+7 - (j:Int)) % 8) n=7 - j:=by unfold rk;omega
    rw [e];omega
theorem hi_bd (s n:Int): -1≤hi s n∧hi s n < 8:=by
 rcases hi_spec s n with ⟨h,_⟩|⟨h1,h2,_⟩<;>omega
theorem bst_spec (s n:Int):∀k:Nat,(bst s n k= -1∧∀i:Int,0≤i→i < k→onB s i=false)∨
 (0≤bst s n k∧bst s n k < k∧onB s (bst s n k)=true∧∀i:Int,0≤i→i < k→onB s i=true→rk (bst s n k) n≤rk i n)
 |0=> .inl ⟨rfl,fun i h0 h1=>by omega⟩
 |k+1=>by
  have hb:=bst_spec s n k
  by_cases h:onB s k=true∧(bst s n k < 0∨rk k n < rk (bst s n k) n)
  ·have e:bst s n (k+1)=k:=by simp only [bst];rw [if_pos h]
   rw [e]
   refine .inr ⟨by omega,by omega,h.1,fun i i0 i1 ho=> ?_⟩
   by_cases hk:i=k
   ·subst hk;exact Int.le_refl _
   ·rcases hb with ⟨h1,h2⟩|⟨h1,h2,h3,h4⟩
    ·rw [h2 i i0 (by omega)] at ho;cases ho
    ·have:=h4 i i0 (by omega) ho
     rcases h.2 with h5|h5<;>omega
  ·have e:bst s n (k+1)=bst s n k:=by simp only [bst];rw [if_neg h]
   rw [e]
   rcases hb with ⟨h1,h2⟩|⟨h1,h2,h3,h4⟩
   ·refine .inl ⟨h1,fun i i0 i1=> ?_⟩
    by_cases hk:i=k
    ·subst hk
     cases ho:onB s k with
     |false=>rfl
     |true=>exact absurd ⟨ho,.inl (by omega)⟩ h
    ·exact h2 i i0 (by omega)
   ·refine .inr ⟨h1,by omega,h3,fun i i0 i1 ho=> ?_⟩
    by_cases hk:i=k
    ·subst hk
     have:¬rk k n < rk (bst s n k) n:=fun hl=>h ⟨ho,.inr hl⟩
     omega
    ·exact h4 i i0 (by omega) ho
theorem bst_hi (s n:Int):bst s n 8=hi s n:=by
 rcases bst_spec s n 8 with ⟨h1,h2⟩|⟨h1,h2,h3,h4⟩<;>rcases hi_spec s n with ⟨k1,k2⟩|⟨k1,k2,k3,k4⟩
 ·omega
 ·rw [h2 _ k1 (by omega)] at k3;cases k3
 ·rw [k2 _ h1 (by omega)] at h3;cases h3
 ·refine rk_inj (n:=n) h1 (by omega) k1 k2 ?_
  have a:=h4 _ k1 (by omega) k3
  have b:=k4 _ h1 (by omega) h3
  omega
theorem bst_on (h:onB s k=true∧(bst s n k < 0∨rk k n < rk (bst s n k) n)):bst s n (k+1)=k:=by simp only [bst];rw [if_pos h]
theorem bst_off (h:¬(onB s k=true∧(bst s n k < 0∨rk k n < rk (bst s n k) n))):bst s n (k+1)=bst s n k:=by simp only [bst];rw [if_neg h]
theorem pr_u8_bd:0≤IntKind.u8.wrap n∧IntKind.u8.wrap n < 256:=by simp [IntKind.wrap,IntKind.bits,IntKind.signed];omega
theorem andNot_bd (a b:Int):0≤bits .andNot .u8 a b∧bits .andNot .u8 a b < 256:=pr_u8_bd
theorem pr_and_bd:0≤bits .and .u8 a b∧bits .and .u8 a b < 256:=pr_u8_bd
theorem pr_or_bd:0≤bits .or .u8 a b∧bits .or .u8 a b < 256:=pr_u8_bd
theorem blk_bd (m s:Int) (sp:Bool) (s0:0≤s) (s1:s < 256):0≤blk m s sp∧blk m s sp < 256:=by
 cases sp
 ·exact ⟨s0,s1⟩
 ·exact andNot_bd _ _
theorem pk_spec (q b n:Int):
 (pk q b n= -1∧(hi q n= -1∨(0≤hi q n∧∃i:Int,0≤i∧i < 8∧onB b i=true∧rk i n≤rk (hi q n) n)))∨
 (0≤pk q b n∧pk q b n < 8∧onB q (pk q b n)=true∧(∀i:Int,0≤i→i < 8→onB q i=true→rk (pk q b n) n≤rk i n)∧∀i:Int,0≤i→i < 8→onB b i=true→rk (pk q b n) n < rk i n):=by
 by_cases h:0≤hi q n∧(hi b n < 0∨rk (hi q n) n < rk (hi b n) n)
 ·have e:pk q b n=hi q n:=by unfold pk;rw [if_pos h]
  rw [e]
  rcases hi_spec q n with ⟨h1,h2⟩|⟨h1,h2,h3,h4⟩
  ·omega
  ·refine .inr ⟨h1,h2,h3,h4,fun i i0 i1 ho=> ?_⟩
   rcases hi_spec b n with ⟨k1,k2⟩|⟨k1,k2,k3,k4⟩
   ·rw [k2 i i0 i1] at ho;cases ho
   ·have:=k4 i i0 i1 ho
    rcases h.2 with h5|h5<;>omega
 ·have e:pk q b n= -1:=by unfold pk;rw [if_neg h]
  refine .inl ⟨e,?_⟩
  rcases hi_spec q n with ⟨h1,h2⟩|⟨h1,h2,h3,h4⟩
  ·exact .inl h1
  ·refine .inr ⟨h1,?_⟩
   rcases hi_spec b n with ⟨k1,k2⟩|⟨k1,k2,k3,k4⟩
   ·exact absurd ⟨h1,.inl (by omega)⟩ h
   ·refine ⟨hi b n,k1,k2,k3,?_⟩
    have:¬rk (hi q n) n < rk (hi b n) n:=fun hl=>h ⟨h1,.inr hl⟩
    omega
end K22.S
namespace K22.S
open Go.Proofs.YteggjjhjmhccjaaGreatDoor.S
structure Pc where
 St:Int
 Le:Bool
 Fo:Bool
 Si:Bool
 Ft:Bool
 Lw:Int
 Hg:Int
 Au:Bool
 Ro:Bool
 Sp:Bool
 RI:Bool
 Po:Bool
 Li:Int
 Ed:Int
 IS:Int
 IM:Int
 Lo:Int
 Sq:Int
 Sv:Int
 Su:Bool
deriving DecidableEq
def Pc.cs (p:Pc):Array Value:=#[.int .i64 p.St,.bool p.Le,.bool p.Fo,.bool p.Si,.bool p.Ft,.int .u8 p.Lw,.int .u8 p.Hg,.bool p.Au,.bool p.Ro,.bool p.Sp,.bool p.RI,.bool p.Po,.int .u8 p.Li,.int .u8 p.Ed,.int .u8 p.IS,.int .u8 p.IM,.int .i64 p.Lo,.int .i64 p.Sq,.int .i64 p.Sv,.bool p.Su]
def Ok (p:Pc):Prop:=(0≤p.IS∧p.IS < 256)∧(0≤p.Lw∧p.Lw < 256)∧(0≤p.Hg∧p.Hg < 256)
def nw:Pc:=⟨0,false,false,false,false,0,0,false,false,false,false,false,0,0,0,0,7,0,0,false⟩
def raise (p:Pc) (l:Int):Pc:={p with Ed:=bits .and .u8 (bits .or .u8 p.Ed (bits .andNot .u8 l p.Li)) l,Li:=l}
def req (p:Pc):Int:=if p.Le then p.Li else p.Ed
def pkc (p:Pc):Int:=pk (bits .andNot .u8 (req p) p.IM) (blk p.IM p.IS p.Sp) p.Lo
def bl (n:Int):Int:=2 ^ n.toNat % 256
def sv (p:Pc) (n:Int):Pc:={p with IS:=bits .or .u8 p.IS (bl n),Ed:=bits .andNot .u8 p.Ed (bl n)}
def en (p:Pc) (n:Int) (r:Bool):Pc:=if n= -1 then p else {p with IS:=bits .andNot .u8 p.IS (bl n),Lo:=if r then n else p.Lo}
def his (p:Pc):Int:=hi (blk p.IM p.IS p.Sp) p.Lo
def int (p:Pc):Bool:=decide (0≤pkc p)
def lst (p:Pc):Int:=if p.Ft then 4 else 0
def wrH (p:Pc) (v:Int):Pc:=
 if p.St=2 then {p with Hg:=v,St:=if p.Si then lst p else 3}
 else if p.St=3 then {p with St:=lst p}
 else if p.St=4 then {p with Au:=bits .and .u8 v 2 !=0,St:=0}
 else {p with IM:=v}
def ini (p:Pc) (v:Int):Pc:=⟨2,bits .and .u8 v 8 !=0,bits .and .u8 v 4 !=0,bits .and .u8 v 2 !=0,bits .and .u8 v 1 !=0,bits .and .u8 v 224,0,false,false,false,false,false,p.Li,0,0,0,7,0,0,false⟩
def mode (p:Pc) (v:Int):Pc:={p with
 Sp:=if bits .and .u8 v 64=0 then p.Sp else bits .and .u8 v 32 !=0
 RI:=if bits .and .u8 v 2=0 then p.RI else bits .and .u8 v 1 !=0
 Po:=p.Po||(bits .and .u8 v 4 !=0)}
def cmd (p:Pc) (v:Int):Pc:=
 if v / 32=0 then {p with Ro:=false}
 else if v / 32=4 then {p with Ro:=true}
 else if v / 32=6 then {p with Lo:=v % 8}
 else if v / 32=1 then en p (his p) false
 else if v / 32=5 then en p (his p) true
 else if v / 32=3 then en p (v % 8) false
 else if v / 32=7 then en p (v % 8) true
 else p
def wr (p:Pc) (h:Bool) (v:Int):Pc:=
 if h then wrH p v else if bits .and .u8 v 16≠0 then ini p v else if bits .and .u8 v 8≠0 then mode p v else cmd p v
def poll (p:Pc):Pc:=
 if pkc p= -1 then {p with Po:=false}
 else if p.Au then en (sv {p with Po:=false} (pkc p)) (pkc p) p.Ro else sv {p with Po:=false} (pkc p)
def pollV (p:Pc):Int:=if pkc p= -1 then 0 else 128+pkc p
def rdP (p:Pc) (h:Bool):Pc:=if h then p else if p.Po then poll p else p
def rdW (p:Pc) (h:Bool):Int:=if h then p.IM else if p.Po then pollV p else if p.RI then p.IS else req p
def ch (p:Pc):Pc:=
 if pkc p= -1 then {p with Sq:=1,Sv:=7,Su:=true} else sv {p with Sq:=1,Sv:=pkc p,Su:=false} (pkc p)
def low (p:Pc):Int:=if p.Fo then (bits .and .u8 p.Lw 224+4 * (p.Sv % 8)) % 256 else (bits .and .u8 p.Lw 192+8 * (p.Sv % 8)) % 256
def fin (p:Pc):Pc:=if p.Au && !p.Su then en {p with Sq:=0} (p.Sv % 8) p.Ro else {p with Sq:=0}
def ack (p:Pc):Pc:=if p.Sq=0 then ch p else if p.Sq=1 then {p with Sq:=2} else fin p
def ackV (p:Pc):Int:=if p.Sq=0 then 205 else if p.Sq=1 then low p else p.Hg
theorem pkc_bd (p:Pc): -1≤pkc p∧pkc p < 8:=by
 rcases pk_spec (bits .andNot .u8 (req p) p.IM) (blk p.IM p.IS p.Sp) p.Lo with ⟨h,_⟩|⟨h1,h2,_⟩
 ·unfold pkc;omega
 ·unfold pkc;omega
theorem his_bd (p:Pc): -1≤his p∧his p < 8:=hi_bd _ _
theorem and7_8 (v:Int) (h0:0≤v) (h1:v < 256):bits .and .u8 v 7=v % 8:=by
 obtain ⟨x,rfl⟩:=Int.eq_ofNat_of_zero_le h0
 have key:∀x:Fin 256,bits .and .u8 (x.val:Int) 7=(x.val:Int) % 8:=by decide+kernel
 exact key ⟨x,by omega⟩
end K22.S
namespace K22.S
open Go.Proofs.YteggjjhjmhccjaaGreatDoor.S
theorem Ok_raise {p:Pc} (h:Ok p) (l:Int):Ok (raise p l):=h
theorem Ok_en {p:Pc} (h:Ok p) (n:Int) (r:Bool):Ok (en p n r):=by
 unfold en
 split
 ·exact h
 ·exact ⟨andNot_bd _ _,h.2⟩
theorem Ok_sv {p:Pc} (h:Ok p) (n:Int):Ok (sv p n):=⟨pr_or_bd,h.2⟩
theorem Ok_wr {p:Pc} (h:Ok p) (hi:Bool) {v:Int} (hv:0≤v∧v < 256):Ok (wr p hi v):=by
 unfold wr
 split
 ·unfold wrH
  split
  ·exact ⟨h.1,h.2.1,hv⟩
  ·split
   ·exact h
   ·split
    ·exact h
    ·exact h
 ·split
  ·exact ⟨⟨by show (0:Int)≤0;omega,by show (0:Int) < 256;omega⟩,pr_and_bd,by show (0:Int)≤0;omega,by show (0:Int) < 256;omega⟩
  ·split
   ·exact h
   ·unfold cmd
    repeat' split
    all_goals first|exact h|exact Ok_en h _ _
end K22.S
namespace K12.Sm
variable {k:Nat} {x:Int}
def has (x:Int) (r:Rg):Bool:=decide (r.fr≤x) && decide (x≤r.tw)
theorem has_yes {r:Rg} (h1:r.fr≤x) (h2:x≤r.tw):has x r=true:=by simp [has,h1,h2]
theorem has_no1 {r:Rg} (h1:¬r.fr≤x):has x r=false:=by simp [has,h1]
theorem has_no2 {r:Rg} (h1:¬x≤r.tw):has x r=false:=by simp [has,h1]
def fndFrom (x:Int):List Rg→Nat→Int
 |[],_=> -1
 |r::l,k=>if has x r then (k:Int) else fndFrom x l (k+1)
def fnd (l:List Rg) (x:Int):Int:=fndFrom x l 0
def sel (l:List Rg) (x:Int):Option Rg:=l.find? (has x)
theorem fndFrom_spec (x:Int):∀(l:List Rg) (k:Nat),(fndFrom x l k= -1∧l.find? (has x)=none)∨∃j r,fndFrom x l k=((k+j:Nat):Int)∧l[j]? =some r∧l.find? (has x)=some r
 |[],k=> .inl ⟨rfl,rfl⟩
 |r::l,k=>by
  cases h:has x r with
  |true=>exact .inr ⟨0,r,by simp [fndFrom,h],rfl,by simp [h]⟩
  |false=>
   rcases fndFrom_spec x l (k+1) with ⟨h1,h2⟩|⟨j,q,h1,h2,h3⟩
   ·exact .inl ⟨by simp [fndFrom,h,h1],by simp [h,h2]⟩
   ·refine .inr ⟨j+1,q,?_,by simpa using h2,by simp [h,h3]⟩
    simp only [fndFrom,h,h1]
    simp;omega
theorem fnd_spec (l:List Rg) (x:Int):(fnd l x= -1∧sel l x=none)∨∃(j:Nat) (r:Rg),fnd l x=(j:Int)∧l[j]? =some r∧sel l x=some r:=by
 have:=fndFrom_spec x l 0
 simpa [fnd,sel] using this
theorem rdrop_cons {d:List Rg} {c:Rg} (h:d[k]? =some c):d.drop k=c::d.drop (k+1):=by
 obtain ⟨h1,rfl⟩:=List.getElem?_eq_some_iff.1 h
 exact List.drop_eq_getElem_cons h1
theorem fnd_hit {l:List Rg} {r:Rg} (hr:l[k]? =some r) (h:has x r=true) (hk:fnd l x=fndFrom x (l.drop k) k):fnd l x=(k:Int):=by
 rw [hk,rdrop_cons hr];simp [fndFrom,h]
theorem fnd_miss {l:List Rg} {r:Rg} (hr:l[k]? =some r) (h:has x r=false) (hk:fnd l x=fndFrom x (l.drop k) k):fnd l x=fndFrom x (l.drop (k+1)) (k+1):=by
 rw [hk,rdrop_cons hr];simp [fndFrom,h]
theorem fnd_end {l:List Rg} (hl:l.length≤k) (hk:fnd l x=fndFrom x (l.drop k) k):fnd l x= -1:=by
 rw [hk,List.drop_eq_nil_of_le hl];rfl
def rd (l:List Rg) (m:List Cl) (x:Int):Int:=if fnd l x < 0 then 255 else get m x
def lim (n:Int):Int:=if n < 0 then 0 else if 100 < n then 100 else n
def wts (l:List Rg) (x:Int):Int:=match sel l x with
 |none=>0
 |some r=>lim r.wt
def ramAt (l:List Rg) (x:Int):Bool:=match sel l x with
 |none=>false
 |some r=>r.ram
def wrt (l:List Rg) (m:List Cl) (x v:Int):List Cl:=if ramAt l x then put (nrm m) (x,v) else nrm m
def rok (r:Rg):Bool:= !(decide (r.tw < r.fr)||decide (r.wt < 0)||decide (100 < r.wt))
def rval (l:List Rg):Int:=if 16 < l.length then 3 else if l.all rok then 0 else 1
theorem rok_no {r:Rg} (h:r.tw < r.fr∨r.wt < 0∨100 < r.wt):rok r=false:=by
 rcases h with h|h|h<;>simp [rok,h]
theorem rok_yes {r:Rg} (h1:¬r.tw < r.fr) (h2:¬r.wt < 0) (h3:¬100 < r.wt):rok r=true:=by simp [rok,h1,h2,h3]
theorem rval_bad {l:List Rg} {r:Rg} (hl:l.length≤16) (hr:l[k]? =some r) (h:rok r=false):rval l=1:=by
 unfold rval
 rw [if_neg (by omega),if_neg]
 intro q
 have:=List.all_eq_true.1 q r (List.mem_of_getElem? hr)
 rw [h] at this;cases this
theorem rval_ok {l:List Rg} (hl:l.length≤16) (h:∀k r,k < l.length→l[k]? =some r→rok r=true):rval l=0:=by
 unfold rval
 rw [if_neg (by omega),if_pos]
 refine List.all_eq_true.2 fun r hr=> ?_
 obtain ⟨k,hk⟩:=List.getElem?_of_mem hr
 exact h k r (List.getElem?_eq_some_iff.1 hk).1 hk
end K12.Sm
namespace K12
theorem rfind_any (a:Option Addr) (len cap:Nat) (l:List Rg) (x:Int) (w:World) (h:HeldR w a len l):Calls Tryz.prog 111 #[.slice a len cap,.int .u16 x] w fun e w'=>e=.returned (.int .i64 (Sm.fnd l x))∧Adds w w':=by
 obtain ⟨hl,hbig,hat⟩:=h
 have HL:Hid _:=Lib.hid hl
 have HA:Hid _:=Lib.hid hat
 clear hl hat
 go_enter Tryz.func111,Tryz.ntmps111
 go_wp2
 go_loopw [9] (fun i wr=>∃k:Nat,k≤len∧i=.int .i64 k∧Adds w wr∧Hid (Sm.fnd l x=Sm.fndFrom x (l.drop k) k)) (fun i _=>len - (intOf i).toNat)
 case atStart=>exact ⟨0,Nat.zero_le _,rfl,Adds.refl _,rfl⟩
 case round=>
  obtain ⟨k,hk,rfl,⟨⟨n1,os1⟩,rfl⟩,HF⟩:=hrel
  by_cases hlt:k < len
  ·have hltz:(k:Int) < (len:Int):=by omega
   obtain ⟨r,hr⟩:∃r,l[k]? =some r:=⟨l[k]'(by have:=HL.out;omega),List.getElem?_eq_getElem _⟩
   obtain ⟨b,o,rfl,hb,hat⟩:=HA.out (by omega)
   obtain ⟨h1,h2,h3,h4⟩:=hat k r hr
   have HHit:Hid _:=Lib.hid (fun h=>Sm.fnd_hit hr h HF.out)
   have HMiss:Hid _:=Lib.hid (fun h=>Sm.fnd_miss hr h HF.out)
   obtain ⟨fr,tw,ram,wt⟩:=r
   simp only at h1 h2 h3 h4
   clear hat hr
   by_cases q1:fr≤x
   ·by_cases q2:x≤tw
    ·have HV:Hid _:=Lib.hid (HHit.out (Sm.has_yes q1 q2))
     go_wp2_with fail
     go_ret
     exact ⟨rn HV.out.symm,aD⟩
    ·have HV:Hid _:=Lib.hid (HMiss.out (Sm.has_no2 q2))
     have q2':decide (x≤tw)=false:=decide_eq_false q2
     go_wp2_with fail
     go_roundw
     case rel=>exact ⟨k+1,by omega,by go_num,aD,HV⟩
     case measure=>simp [intOf]<;>omega
   ·have HV:Hid _:=Lib.hid (HMiss.out (Sm.has_no1 q1))
    have q1':decide (fr≤x)=false:=decide_eq_false q1
    go_wp2_with fail
    go_roundw
    case rel=>exact ⟨k+1,by omega,by go_num,aD,HV⟩
    case measure=>simp [intOf]<;>omega
  ·have hltz:¬(k:Int) < (len:Int):=by omega
   have HV:Hid _:=Lib.hid (Sm.fnd_end (by have:=HL.out;omega) HF.out)
   go_wp2_with fail
   go_ret
   exact ⟨rn HV.out.symm,aD⟩
end K12
namespace K12
variable {a:Option Addr} {cap len:Nat} {w:World}
theorem rrgval_any {l:List Rg} (h:HeldR w a len l):Calls Tryz.prog 88 #[.slice a len cap] w fun e w'=>e=.returned (.int .i64 (Sm.rval l))∧Adds w w':=by
 obtain ⟨hl,hbig,hat⟩:=h
 have HL:Hid _:=Lib.hid hl
 have HA:Hid _:=Lib.hid hat
 clear hl hat
 by_cases h16:16 < len
 ·have hz:(16:Int) < (len:Int):=by omega
  have HV:Hid (Sm.rval l=3):=by show _=_;unfold Sm.rval;rw [if_pos (by have:=HL.out;omega)]
  go_enter Tryz.func88,Tryz.ntmps88
  go_wp2
  go_ret
  exact ⟨rn HV.out.symm,Adds.refl _⟩
 have hz:¬(16:Int) < (len:Int):=by omega
 go_enter Tryz.func88,Tryz.ntmps88
 go_wp2
 clear hz
 go_loopw [10] (fun i wr=>∃k:Nat,k≤len∧i=.int .i64 k∧Adds w wr∧Hid (∀j r,j < k→l[j]? =some r→Sm.rok r=true)) (fun i _=>len - (intOf i).toNat)
 case atStart=>exact ⟨0,Nat.zero_le _,rfl,Adds.refl _,fun j r hj=>absurd hj (by omega)⟩
 case round=>
  obtain ⟨k,hk,rfl,⟨⟨n1,os1⟩,rfl⟩,HF⟩:=hrel
  by_cases hlt:k < len
  ·have hltz:(k:Int) < (len:Int):=by omega
   obtain ⟨r,hr⟩:∃r,l[k]? =some r:=⟨l[k]'(by have:=HL.out;omega),List.getElem?_eq_getElem _⟩
   obtain ⟨b,o,rfl,hb,hat⟩:=HA.out (by omega)
   obtain ⟨h1,h2,h3,h4⟩:=hat k r hr
   have HBad:Hid _:=Lib.hid (fun h=>Sm.rval_bad (l:=l) (k:=k) (r:=r) (by have:=HL.out;omega) hr h)
   have HGood:Hid (Sm.rok r=true→∀j q,j < k+1→l[j]? =some q→Sm.rok q=true):=by
    show _→_
    intro hg j q hj hq
    by_cases hjk:j=k
    ·subst hjk;rw [hr] at hq;cases hq;exact hg
    ·exact HF.out j q (by omega) hq
   obtain ⟨fr,tw,ram,wt⟩:=r
   simp only at h1 h2 h3 h4
   clear hat hr
   by_cases q1:tw < fr
   ·have HV:Hid _:=Lib.hid (HBad.out (Sm.rok_no (.inl q1)))
    go_wp2_with fail
    go_ret
    exact ⟨rn HV.out.symm,aD⟩
   ·have q1':decide (tw < fr)=false:=decide_eq_false q1
    by_cases q2:wt < 0
    ·have HV:Hid _:=Lib.hid (HBad.out (Sm.rok_no (.inr (.inl q2))))
     go_wp2_with fail
     go_ret
     exact ⟨rn HV.out.symm,aD⟩
    ·have q2':decide (wt < 0)=false:=decide_eq_false q2
     by_cases q3:100 < wt
     ·have HV:Hid _:=Lib.hid (HBad.out (Sm.rok_no (.inr (.inr q3))))
      go_wp2_with fail
      go_ret
      exact ⟨rn HV.out.symm,aD⟩
     ·have q3':decide (100 < wt)=false:=decide_eq_false q3
      have HV:Hid _:=Lib.hid (HGood.out (Sm.rok_yes q1 q2 q3))
      go_wp2_with fail
      go_roundw
      case rel=>exact ⟨k+1,by omega,by go_num,aD,HV⟩
      case measure=>simp [intOf]<;>omega
  ·have hltz:¬(k:Int) < (len:Int):=by omega
   have HV:Hid (Sm.rval l=0):=Sm.rval_ok (by have:=HL.out;omega) (fun j r hj hr=>HF.out j r (by have:=HL.out;omega) hr)
   go_wp2_with fail
   go_ret
   exact ⟨rn HV.out.symm,aD⟩
theorem rget_h (a:Option Addr) (len cap:Nat) (d:List Cl) (z:Int) (w:World) (h:Held w a len d):Calls Tryz.prog 127 #[.slice a len cap,.int .u16 z] w fun e w'=>e=.returned (.int .u8 (Sm.get d z))∧Adds w w':=by
 refine Calls.mono (rget_any a len cap d z w h) ?_
 rintro e w' ⟨rfl,rfl⟩
 exact ⟨rfl,Adds.refl _⟩
theorem rrgread_any {a2:Option Addr} {len2 cap2:Nat} (l:List Rg) (d:List Cl) {x:Int} (h:HeldR w a len l) (h2:Held w a2 len2 d):Calls Tryz.prog 97 #[.slice a len cap,.slice a2 len2 cap2,.int .u16 x] w fun e w'=>e=.returned (.int .u8 (Sm.rd l d x))∧Adds w w':=by
 have HF:Hid _:=Lib.hid (rfind_any a len cap l x w h)
 have H2:Hid _:=Lib.hid h2
 obtain ⟨i,hi⟩:∃i,i=Sm.fnd l x:=⟨_,rfl⟩
 rw [←hi] at HF
 clear h h2
 by_cases hn:i < 0
 ·have HV:Hid (Sm.rd l d x=255):=by show _=_;unfold Sm.rd;rw [←hi,if_pos hn]
  clear hi
  go_enter Tryz.func97,Tryz.ntmps97
  go_wp2_with (go_at_call 111;(with_reducible refine HF.out.mono ?_);rintro e w1 ⟨rfl,A1⟩)
  go_ret
  exact ⟨rn HV.out.symm,A1⟩
 ·have HV:Hid (Sm.rd l d x=Sm.get d x):=by show _=_;unfold Sm.rd;rw [←hi,if_neg hn]
  clear hi
  have hn':decide (i < 0)=false:=decide_eq_false hn
  go_enter Tryz.func97,Tryz.ntmps97
  go_wp2_with (first
   |(go_at_call 111;(with_reducible refine HF.out.mono ?_);rintro e w1 ⟨rfl,A1⟩)
   |(go_at_call 127;(with_reducible refine (rget_h a2 len2 cap2 d x w1 (H2.out.adds A1)).mono ?_);rintro e w2 ⟨rfl,A2⟩))
  go_ret
  exact ⟨rn HV.out.symm,A1.trans A2⟩
end K12
namespace K12
theorem q1C13c {P:Prop} (h:P:=by
 go_enter Tryz.func126,Tryz.ntmps126
 go_wp2
 all_goals (go_ret;exact ⟨rn (by rw [HV.out]<;>omega),Adds.refl _⟩)):P:=h
theorem limit_any {n:Int} (w:World):Calls Tryz.prog 126 #[.int .i64 n] w fun e w'=>e=.returned (.int .i64 (Sm.lim n))∧Adds w w':=by
 by_cases h0:n < 0
 ·have HV:Hid (Sm.lim n=0):=by show _=_;unfold Sm.lim;rw [if_pos h0]
  exact q1C13c
 ·by_cases h1:100 < n
  ·have HV:Hid (Sm.lim n=100):=by show _=_;unfold Sm.lim;rw [if_neg h0,if_pos h1]
   exact q1C13c
  ·have HV:Hid (Sm.lim n=n):=by show _=_;unfold Sm.lim;rw [if_neg h0,if_neg h1]
   exact q1C13c
theorem rrgwaits_any {a:Option Addr} {len cap:Nat} (l:List Rg) {x:Int} {w:World} (h:HeldR w a len l):Calls Tryz.prog 125 #[.slice a len cap,.int .u16 x] w fun e w'=>e=.returned (.int .i64 (Sm.wts l x))∧Adds w w':=by
 have HF:=Lib.hid (rfind_any a len cap l x w h)
 rcases Sm.fnd_spec l x with ⟨h1,h2⟩|⟨j,r,h1,h2,h3⟩
 ·rw [h1] at HF
  have HV:Hid (Sm.wts l x=0):=by show _=_;unfold Sm.wts;rw [h2]
  clear h h1 h2
  go_enter Tryz.func125,Tryz.ntmps125
  go_wp2_with (go_at_call 111;(with_reducible refine HF.out.mono ?_);rintro e w1 ⟨rfl,A1⟩)
  go_ret
  exact ⟨rn HV.out.symm,A1⟩
 ·rw [h1] at HF
  have HV:Hid (Sm.wts l x=Sm.lim r.wt):=by show _=_;unfold Sm.wts;rw [h3]
  have hjl:=(List.getElem?_eq_some_iff.1 h2).1
  have hl:=h.1
  have hjz:(j:Int) < (len:Int):=by omega
  have HH:=Lib.hid h
  have H2:=Lib.hid h2
  obtain ⟨b,o,rfl,_,_⟩:=h.2.2 (by omega)
  clear h h1 h2 h3 hjl hl
  go_enter Tryz.func125,Tryz.ntmps125
  go_wp2_with (first
   |(go_at_call 111;(with_reducible refine HF.out.mono ?_);rintro e w1 ⟨rfl,A1⟩;obtain ⟨b',o',hbo,hb',hat⟩:=(HH.out.adds A1).2.2 (by omega);obtain ⟨rfl,rfl⟩:b=b'∧o=o':=(by simpa using hbo);obtain ⟨g1,g2,g3,g4⟩:=hat j r H2.out;clear hat hbo)
   |(go_at_call 126;(with_reducible refine (limit_any w1).mono ?_);rintro e w2 ⟨rfl,A2⟩))
  go_ret
  exact ⟨rn (by rw [HV.out]),A1.trans A2⟩
end K12
namespace K12
variable {v:Int} {w:World}
def PostM (n:Nat) (d0:List Cl) (v:Int) (w:World) (e:Ending) (w':World):Prop:=∃(ad:Option Addr) (m c:Nat) (d:List Cl),e=.returned (.slice ad m c)∧Owns w' w.heap.size (.slice ad m c) d∧m≤n∧m≤c∧c≤9223372036854775807∧(∀y,Sm.get d y=v∨Sm.get d y=Sm.get d0 y)∧Adds w w'
theorem PostM.of {n:Nat} {d0:List Cl} {w0:World} {r:Value} {d:List Cl} (hO:Owns w w0.heap.size r d) (hd:d.length≤n) (hg:∀y,Sm.get d y=v∨Sm.get d y=Sm.get d0 y) (hA:Adds w0 w):PostM n d0 v w0 (.returned r) w:=by
 obtain ⟨ad,m,c,rfl,hn,h4,h5,_⟩:=hO.form2
 have hn':=hn.out
 exact ⟨ad,m,c,d,rfl,hO,by omega,h4,h5,hg,hA⟩
theorem Sm.get_putn (d:List Cl) (x v y:Int):Sm.get (Sm.put (Sm.nrm d) (x,v)) y=v∨Sm.get (Sm.put (Sm.nrm d) (x,v)) y=Sm.get d y:=by
 rw [Sm.get_put (Sm.V_nrm d)]
 split
 ·exact .inl rfl
 ·exact .inr (Sm.get_nrm d y)
theorem rwrite_own {a a2:Option Addr} {len cap len2 cap2:Nat} (l:List Rg) (d:List Cl) {x:Int} (h:HeldR w a len l) (hd:Held w a2 len2 d) (hlen:len2≤16777215):
 Calls Tryz.prog 70 #[.slice a len cap,.slice a2 len2 cap2,.int .u16 x,.int .u8 v] w (PostM (len2+1) d v w):=by
 have HF:=Lib.hid (rfind_any a len cap l x w h)
 have HD:=Lib.hid hd
 have hz:=hd.1
 have hN:=Sm.nrm_len d
 have hP:=Sm.put_len (Sm.nrm d) (x,v)
 have HZ:=Lib.hid (show (Sm.nrm d).length≤len2+1∧(Sm.put (Sm.nrm d) (x,v)).length≤len2+1 by omega)
 clear hz hN hP
 rcases Sm.fnd_spec l x with ⟨h1,h2⟩|⟨j,r,h1,h2,h3⟩
 ·rw [h1] at HF
  clear h h1 h2 hd
  go_enter Tryz.func70,Tryz.ntmps70
  go_wp2_with (first
   |(go_at_call 111;(with_reducible refine HF.out.mono ?_);rintro e w1 ⟨rfl,A1⟩)
   |(go_at_call 31;(with_reducible refine (rnrm_any a2 len2 cap2 d w1 (HD.out.adds A1) (by omega)).mono ?_);rintro e w2 ⟨r2,rfl,H2,A2⟩))
  go_ret
  exact PostM.of (H2.mono A1.size) HZ.out.1 (fun y=> .inr (Sm.get_nrm d y)) (A1.trans A2)
 ·rw [h1] at HF
  have hjl:=(List.getElem?_eq_some_iff.1 h2).1
  have hl:=h.1
  have hjz:(j:Int) < (len:Int):=by omega
  have HH:=Lib.hid h
  have H2:=Lib.hid h2
  obtain ⟨b,o,rfl,_,_⟩:=h.2.2 (by omega)
  obtain ⟨fr,tw,ram,wt⟩:=r
  clear h h1 h2 h3 hjl hl hd
  cases ram
  all_goals
   go_enter Tryz.func70,Tryz.ntmps70
   go_wp2_with (first
    |(go_at_call 111;(with_reducible refine HF.out.mono ?_);rintro e w1 ⟨rfl,A1⟩;obtain ⟨b',o',hbo,hb',hat⟩:=(HH.out.adds A1).2.2 (by omega);obtain ⟨rfl,rfl⟩:b=b'∧o=o':=(by simpa using hbo);obtain ⟨g1,g2,g3,g4⟩:=hat j _ H2.out;(simp only at g1 g2 g3 g4);clear hat hbo)
    |(go_at_call 112;(with_reducible refine (rPut_any a2 len2 cap2 d x v w1 (HD.out.adds A1) (by omega)).mono ?_);rintro e w2 ⟨r2,rfl,H3,A2⟩;have HE:=Lib.hid (show _≤len2+1 from HZ.out.2);have HG:=Lib.hid (Sm.get_putn d x v))
    |(go_at_call 31;(with_reducible refine (rnrm_any a2 len2 cap2 d w1 (HD.out.adds A1) (by omega)).mono ?_);rintro e w2 ⟨r2,rfl,H3,A2⟩;have HE:=Lib.hid (show _≤len2+1 from HZ.out.1);have HG:=Lib.hid (fun y=>(show Sm.get (Sm.nrm d) y=v∨Sm.get (Sm.nrm d) y=Sm.get d y from .inr (Sm.get_nrm d y)))))
   go_ret
   exact PostM.of (H3.mono A1.size) HE.out HG.out (A1.trans A2)
end K12
section
theorem rpick_any (cCh cA cB cC cD cE cH cL:Int) (cfS cfZ cfK cfAC cfP cfV cfCY:Bool) (cSP cPC:Int) (cIE cDe cHa:Bool) (cMa:Int) (cTr cR7 cWT cW7 cSa cSI cSO:Bool) (lRe lHo lRs lSi lTr lR7 lR6 lR5 lIn:Bool) (w:World):Calls Tryz.prog 104 #[.agg #[.int .i64 cCh,.int .u8 cA,.int .u8 cB,.int .u8 cC,.int .u8 cD,.int .u8 cE,.int .u8 cH,.int .u8 cL,.bool cfS,.bool cfZ,.bool cfK,.bool cfAC,.bool cfP,.bool cfV,.bool cfCY,.int .u16 cSP,.int .u16 cPC,.bool cIE,.bool cDe,.bool cHa,.int .u8 cMa,.bool cTr,.bool cR7,.bool cWT,.bool cW7,.bool cSa,.bool cSI,.bool cSO],.agg #[.bool lRe,.bool lHo,.bool lRs,.bool lSi,.bool lTr,.bool lR7,.bool lR6,.bool lR5,.bool lIn]] w fun e w'=>e=.returned (.int .i64 (S.pik cCh cIE cDe cMa cTr cR7 lR6 lR5 lIn))∧Adds w w':=by
 have hmf:∀(fn:Fn) (first cap:Array Value) (w:World),(Instr.makeFunc fn first cap).run Tryz.prog w=.ok (.func fn first cap) w:=fun _ _ _ _=>rfl
 have g4:(bits .and .u8 cMa 4==0)=S.fr cMa 4:=rfl
 have g2:(bits .and .u8 cMa 2==0)=S.fr cMa 2:=rfl
 have g1:(bits .and .u8 cMa 1==0)=S.fr cMa 1:=rfl
 by_cases hc:cCh=2
 ·subst hc
  go_enter Tryz.func104,Tryz.ntmps104
  go_wp2_with (first|(go_at_call 114;refine sm (on85_15) ?_))
  all_goals go_ret
  all_goals exact ⟨ri (by simp [S.pik, *]),aD⟩
 ·go_enter Tryz.func104,Tryz.ntmps104
  go_wp2_with (first|(go_at_call 114;refine sm (on85_15) ?_))
  all_goals go_ret
  all_goals exact ⟨ri (by simp [S.pik, *]),aD⟩
end
namespace K22
variable {m n s x y:Int} {sp:Bool} {w:World}
theorem rpr_rank {l:Int}:Calls Tryz.prog 180 #[.int .i64 l,.int .i64 n] w fun e w'=>e=.returned (.int .i64 (S.rk l n))∧w=w':=by
 go_enter Tryz.func180,Tryz.ntmps180
 go_wp2_with fail
 go_ret
 refine ⟨?_,rfl⟩
 refine ri ?_
 simp only [S.pr_and7]
 unfold S.rk wrap64
 omega
theorem rpr_on {i:Int} (s0:0≤s) (s1:s < 256) (i0:0≤i) (i1:i < 8):Calls Tryz.prog 181 #[.int .u8 s,.int .i64 i] w fun e w'=>e=.returned (.bool (S.onB s i))∧w=w':=by
 go_enter Tryz.func181,Tryz.ntmps181
 go_wp2_with fail
 go_ret
 exact ⟨rb (S.bit_test s s0 s1 (2 ^ i.toNat) (Int.pow_pos (by decide))),rfl⟩
theorem rpr_hi (s0:0≤s) (s1:s < 256):Calls Tryz.prog 154 #[.int .u8 s,.int .i64 n] w fun e w'=>e=.returned (.int .i64 (S.hi s n))∧w=w':=by
 go_enter Tryz.func154,Tryz.ntmps154
 go_wp2_with fail
 go_loopw [5,6] (fun x i wr=>∃j:Nat,j≤8∧i=.int .i64 j∧x=.int .i64 (S.bst s n j)∧w=wr) (fun _ i _=>8 - (intOf i).toNat)
 case atStart=>exact ⟨0,by omega,rfl,rfl,rfl⟩
 case round=>
  obtain ⟨j,hj,rfl,rfl,rfl⟩:=hrel
  by_cases hj8:j=8
  ·subst hj8
   go_wp2_with fail
   go_ret
   exact ⟨ri (S.bst_hi s n),rfl⟩
  ·have j0:(0:Int)≤j:=by omega
   have j1:(j:Int) < 8:=by omega
   cases ho:S.onB s j with
   |false=>
    have e1:Hid (S.bst s n (j+1)=S.bst s n j):=S.bst_off (by simp [ho])
    generalize S.bst s n j=x at e1
    go_wp2_with (go_at_call 181;refine sm (rpr_on s0 s1 j0 j1) ?_;rw [ho])
    go_roundw
    case rel=>exact ⟨j+1,by omega,by go_num,by rw [e1.out],trivial⟩
    case measure=>simp [intOf]<;>omega
   |true=>
    by_cases hx:S.bst s n j < 0
    ·have e1:Hid (S.bst s n (j+1)=j):=S.bst_on ⟨ho,.inl hx⟩
     generalize S.bst s n j=x at hx
     go_wp2_with (go_at_call 181;refine sm (rpr_on s0 s1 j0 j1) ?_;rw [ho])
     go_roundw
     case rel=>exact ⟨j+1,by omega,by go_num,by rw [e1.out],trivial⟩
     case measure=>simp [intOf]<;>omega
    ·by_cases hl:S.rk j n < S.rk (S.bst s n j) n
     ·have e1:Hid (S.bst s n (j+1)=j):=S.bst_on ⟨ho,.inr hl⟩
      generalize S.bst s n j=x at hx hl
      go_wp2_with (first|(go_at_call 181;refine sm (rpr_on s0 s1 j0 j1) ?_;rw [ho])|(go_at_call 180;refine sm (rpr_rank) ?_))
      go_roundw
      case rel=>exact ⟨j+1,by omega,by go_num,by rw [e1.out],trivial⟩
      case measure=>simp [intOf]<;>omega
     ·have e1:Hid (S.bst s n (j+1)=S.bst s n j):=S.bst_off (fun h=>h.2.elim hx hl)
      generalize S.bst s n j=x at hx hl e1
      go_wp2_with (first|(go_at_call 181;refine sm (rpr_on s0 s1 j0 j1) ?_;rw [ho])|(go_at_call 180;refine sm (rpr_rank) ?_))
      go_roundw
      case rel=>exact ⟨j+1,by omega,by go_num,by rw [e1.out],trivial⟩
      case measure=>simp [intOf]<;>omega
theorem rpr_blk:Calls Tryz.prog 155 #[.int .u8 m,.int .u8 s,.bool sp] w fun e w'=>e=.returned (.int .u8 (S.blk m s sp))∧w=w':=by
 cases sp
 all_goals
  go_enter Tryz.func155,Tryz.ntmps155
  go_wp2_with fail
  go_ret
  exact ⟨rfl,rfl⟩
theorem q1C21 {P:Prop} (h:P:=by
 go_enter Tryz.func153,Tryz.ntmps153
 go_wp2_with (first|(go_at_call 154;refine sm (rpr_hi (by first|with_reducible exact bq.out.1|with_reducible exact bb.out.1) (by first|with_reducible exact bq.out.2|with_reducible exact bb.out.2)) ?_;first|rw [HX.out]|rw [HY.out])|(go_at_call 180;refine sm (rpr_rank) ?_)|(go_at_call 155;refine sm (rpr_blk) ?_;rw [show S.blk m s true=bits .andNot .u8 s m from rfl]))
 go_ret
 exact ⟨rfl,rfl⟩):P:=h
theorem rpr_pick_on (q m s n:Int) (bb:Hid (0≤bits .andNot .u8 s m∧bits .andNot .u8 s m < 256)) (HX:Hid (S.hi (bits .andNot .u8 q m) n=x)) (HY:Hid (S.hi (bits .andNot .u8 s m) n=y)) (w:World):Calls Tryz.prog 153 #[.int .u8 q,.int .u8 m,.int .u8 s,.int .i64 n,.bool true] w fun e w'=>e=.returned (.int .i64 (if 0≤x∧(y < 0∨S.rk x n < S.rk y n) then x else -1))∧w=w':=by
 have bq:Hid _:=S.andNot_bd q m
 have bx:=S.hi_bd (bits .andNot .u8 q m) n
 have by':=S.hi_bd (bits .andNot .u8 s m) n
 rw [HX.out] at bx
 rw [HY.out] at by'
 by_cases h1:x= -1
 ·subst h1
  by_cases h2:y= -1
  ·subst h2
   exact q1C21
  ·exact q1C21
 ·have h3:0≤x:=by omega
  have g1:(x== -1)=false:=by simpa using h1
  have g3:decide (0≤x)=true:=by simpa using h3
  by_cases h2:y= -1
  ·subst h2
   rw [if_pos ⟨h3,.inl (by omega)⟩]
   exact q1C21
  ·have h4:¬y < 0:=by omega
   have g2:(y != -1)=true:=by simpa using h2
   have g4:decide (y < 0)=false:=by simpa using h4
   by_cases h5:S.rk x n < S.rk y n
   ·rw [if_pos ⟨h3,.inr h5⟩]
    have g5:decide (S.rk x n < S.rk y n)=true:=by simpa using h5
    have g6:decide (S.rk y n≤S.rk x n)=false:=decide_eq_false (by omega)
    exact q1C21
   ·rw [if_neg (fun h=>h.2.elim h4 h5)]
    have g5:decide (S.rk x n < S.rk y n)=false:=by simpa using h5
    have g6:decide (S.rk y n≤S.rk x n)=true:=decide_eq_true (by omega)
    exact q1C21
theorem q2C21 {P:Prop} (h:P:=by
 go_enter Tryz.func153,Tryz.ntmps153
 go_wp2_with (first|(go_at_call 154;refine sm (rpr_hi (by first|with_reducible exact bq.out.1|with_reducible exact bb.out.1) (by first|with_reducible exact bq.out.2|with_reducible exact bb.out.2)) ?_;first|rw [HX.out]|rw [HY.out])|(go_at_call 180;refine sm (rpr_rank) ?_)|(go_at_call 155;refine sm (rpr_blk) ?_;rw [show S.blk m s false=s from rfl]))
 go_ret
 exact ⟨rfl,rfl⟩):P:=h
theorem rpr_pick_off (q m s n:Int) (bb:Hid (0≤s∧s < 256)) (HX:Hid (S.hi (bits .andNot .u8 q m) n=x)) (HY:Hid (S.hi (s) n=y)) (w:World):Calls Tryz.prog 153 #[.int .u8 q,.int .u8 m,.int .u8 s,.int .i64 n,.bool false] w fun e w'=>e=.returned (.int .i64 (if 0≤x∧(y < 0∨S.rk x n < S.rk y n) then x else -1))∧w=w':=by
 have bq:Hid _:=S.andNot_bd q m
 have bx:=S.hi_bd (bits .andNot .u8 q m) n
 have by':=S.hi_bd (s) n
 rw [HX.out] at bx
 rw [HY.out] at by'
 by_cases h1:x= -1
 ·subst h1
  by_cases h2:y= -1
  ·subst h2
   exact q2C21
  ·exact q2C21
 ·have h3:0≤x:=by omega
  have g1:(x== -1)=false:=by simpa using h1
  have g3:decide (0≤x)=true:=by simpa using h3
  by_cases h2:y= -1
  ·subst h2
   rw [if_pos ⟨h3,.inl (by omega)⟩]
   exact q2C21
  ·have h4:¬y < 0:=by omega
   have g2:(y != -1)=true:=by simpa using h2
   have g4:decide (y < 0)=false:=by simpa using h4
   by_cases h5:S.rk x n < S.rk y n
   ·rw [if_pos ⟨h3,.inr h5⟩]
    have g5:decide (S.rk x n < S.rk y n)=true:=by simpa using h5
    have g6:decide (S.rk y n≤S.rk x n)=false:=decide_eq_false (by omega)
    exact q2C21
   ·rw [if_neg (fun h=>h.2.elim h4 h5)]
    have g5:decide (S.rk x n < S.rk y n)=false:=by simpa using h5
    have g6:decide (S.rk y n≤S.rk x n)=true:=decide_eq_true (by omega)
    exact q2C21
theorem rpr_pick {q:Int} (s0:0≤s) (s1:s < 256):Calls Tryz.prog 153 #[.int .u8 q,.int .u8 m,.int .u8 s,.int .i64 n,.bool sp] w fun e w'=>e=.returned (.int .i64 (S.pk (bits .andNot .u8 q m) (S.blk m s sp) n))∧w=w':=by
 cases sp
 ·exact rpr_pick_off q m s n ⟨s0,s1⟩ rfl rfl w
 ·exact rpr_pick_on q m s n (S.andNot_bd s m) rfl rfl w
end K22
namespace K22
variable {w:World}
theorem rnew_any:Calls Tryz.prog 59 #[] w fun e w'=>e=.returned (.agg S.nw.cs)∧Adds w w':=by
 go_enter Tryz.func59,Tryz.ntmps59
 go_wp2_with fail
 exact bodyPost_ret (ret_PIC Tryz.results59 rfl (by simp [go_sem,S.nw,S.Pc.cs]) rfl) rfl ⟨rfl,aD⟩
theorem rraise_any (p:S.Pc) (l:Int):Calls Tryz.prog 62 #[.agg #[.int .i64 p.St,.bool p.Le,.bool p.Fo,.bool p.Si,.bool p.Ft,.int .u8 p.Lw,.int .u8 p.Hg,.bool p.Au,.bool p.Ro,.bool p.Sp,.bool p.RI,.bool p.Po,.int .u8 p.Li,.int .u8 p.Ed,.int .u8 p.IS,.int .u8 p.IM,.int .i64 p.Lo,.int .i64 p.Sq,.int .i64 p.Sv,.bool p.Su],.int .u8 l] w fun e w'=>e=.returned (.agg (S.raise p l).cs)∧Adds w w':=by
 go_enter Tryz.func62,Tryz.ntmps62
 go_wp2_with fail
 exact bodyPost_ret (ret_PIC Tryz.results62 rfl (by simp [go_sem,S.raise,S.Pc.cs]) rfl) rfl ⟨rfl,aD⟩
theorem rreq_any (p:S.Pc):Calls Tryz.prog 130 #[.agg #[.int .i64 p.St,.bool p.Le,.bool p.Fo,.bool p.Si,.bool p.Ft,.int .u8 p.Lw,.int .u8 p.Hg,.bool p.Au,.bool p.Ro,.bool p.Sp,.bool p.RI,.bool p.Po,.int .u8 p.Li,.int .u8 p.Ed,.int .u8 p.IS,.int .u8 p.IM,.int .i64 p.Lo,.int .i64 p.Sq,.int .i64 p.Sv,.bool p.Su]] w fun e w'=>e=.returned (.int .u8 (S.req p))∧Adds w w':=by
 by_cases h:p.Le=true
 all_goals
  go_enter Tryz.func130,Tryz.ntmps130
  go_wp2_with fail
  go_ret
  exact ⟨ri (by simp [S.req,h]),aD⟩
theorem rpick_any (p:S.Pc) (h0:0≤p.IS) (h1:p.IS < 256) (w:World):Calls Tryz.prog 124 #[.agg #[.int .i64 p.St,.bool p.Le,.bool p.Fo,.bool p.Si,.bool p.Ft,.int .u8 p.Lw,.int .u8 p.Hg,.bool p.Au,.bool p.Ro,.bool p.Sp,.bool p.RI,.bool p.Po,.int .u8 p.Li,.int .u8 p.Ed,.int .u8 p.IS,.int .u8 p.IM,.int .i64 p.Lo,.int .i64 p.Sq,.int .i64 p.Sv,.bool p.Su]] w fun e w'=>e=.returned (.int .i64 (S.pkc p))∧Adds w w':=by
 go_enter Tryz.func124,Tryz.ntmps124
 go_wp2_with fail
 refine qt ?_
 repeat (go_big_quiet_step (first|(go_at_call 130;exact calls_adds (rreq_any p))|(go_at_call 153;exact calls_same (rpr_pick h0 h1))))
 refine qn fun nq osq=> ?_
 go_wp2_with fail
 go_ret
 exact ⟨rfl,aD⟩
theorem rint_any (p:S.Pc) (h0:0≤p.IS) (h1:p.IS < 256):Calls Tryz.prog 91 #[.agg #[.int .i64 p.St,.bool p.Le,.bool p.Fo,.bool p.Si,.bool p.Ft,.int .u8 p.Lw,.int .u8 p.Hg,.bool p.Au,.bool p.Ro,.bool p.Sp,.bool p.RI,.bool p.Po,.int .u8 p.Li,.int .u8 p.Ed,.int .u8 p.IS,.int .u8 p.IM,.int .i64 p.Lo,.int .i64 p.Sq,.int .i64 p.Sv,.bool p.Su]] w fun e w'=>e=.returned (.bool (S.int p))∧Adds w w':=by
 have hb:=S.pkc_bd p
 go_enter Tryz.func91,Tryz.ntmps91
 go_wp2_with (go_at_call 124;refine ad (rpick_any p h0 h1 _) fun n1 os1=> ?_)
 go_ret
 refine ⟨rb ?_,aD⟩
 first|rfl|(unfold S.int;rw [Bool.eq_iff_iff];simp;omega)
theorem take_any (p:S.Pc) (n:Int) (n0:0≤n) (n1:n < 8):Calls Tryz.prog 128 #[.agg #[.int .i64 p.St,.bool p.Le,.bool p.Fo,.bool p.Si,.bool p.Ft,.int .u8 p.Lw,.int .u8 p.Hg,.bool p.Au,.bool p.Ro,.bool p.Sp,.bool p.RI,.bool p.Po,.int .u8 p.Li,.int .u8 p.Ed,.int .u8 p.IS,.int .u8 p.IM,.int .i64 p.Lo,.int .i64 p.Sq,.int .i64 p.Sv,.bool p.Su],.int .i64 n] w fun e w'=>e=.returned (.agg (S.sv p n).cs)∧Adds w w':=by
 go_enter Tryz.func128,Tryz.ntmps128
 go_wp2_with fail
 go_region
 go_wp2_with fail
 go_region
 go_wp2_with fail
 exact bodyPost_ret (ret_PIC Tryz.results128 rfl (by simp [go_sem,S.sv,S.bl,S.Pc.cs]) rfl) rfl ⟨rfl,aD⟩
theorem done_any (p:S.Pc) (n:Int) (n0:0≤n) (n1:n < 8):Calls Tryz.prog 129 #[.agg #[.int .i64 p.St,.bool p.Le,.bool p.Fo,.bool p.Si,.bool p.Ft,.int .u8 p.Lw,.int .u8 p.Hg,.bool p.Au,.bool p.Ro,.bool p.Sp,.bool p.RI,.bool p.Po,.int .u8 p.Li,.int .u8 p.Ed,.int .u8 p.IS,.int .u8 p.IM,.int .i64 p.Lo,.int .i64 p.Sq,.int .i64 p.Sv,.bool p.Su],.int .i64 n] w fun e w'=>e=.returned (.agg (S.en p n p.Ro).cs)∧Adds w w':=by
 have hn:¬n= -1:=by omega
 by_cases hr:p.Ro=true
 all_goals
  go_enter Tryz.func129,Tryz.ntmps129
  go_wp2_with fail
  go_region
  go_wp2_with fail
  exact bodyPost_ret (ret_PIC Tryz.results129 rfl (by simp [go_sem,S.en,S.bl,S.Pc.cs,hn,hr]) rfl) rfl ⟨rfl,aD⟩
end K22
namespace K22
theorem further_any (p:S.Pc) (v:Int) {w:World}:Calls Tryz.prog 134 #[.agg #[.int .i64 p.St,.bool p.Le,.bool p.Fo,.bool p.Si,.bool p.Ft,.int .u8 p.Lw,.int .u8 p.Hg,.bool p.Au,.bool p.Ro,.bool p.Sp,.bool p.RI,.bool p.Po,.int .u8 p.Li,.int .u8 p.Ed,.int .u8 p.IS,.int .u8 p.IM,.int .i64 p.Lo,.int .i64 p.Sq,.int .i64 p.Sv,.bool p.Su],.int .u8 v] w fun e w'=>e=.returned (.agg (S.wrH p v).cs)∧Adds w w':=by
 rcases (by omega:p.St=2∨p.St=3∨p.St=4∨(¬p.St=2∧¬p.St=3∧¬p.St=4)) with h|h|h|⟨h,h',h''⟩
 all_goals
  by_cases hf:p.Ft=true
  all_goals
   by_cases hs:p.Si=true
   all_goals
    go_enter Tryz.func134,Tryz.ntmps134
    go_wp2_with fail
    exact bodyPost_ret (ret_PIC Tryz.results134 rfl (by simp [go_sem,S.wrH,S.lst,S.Pc.cs, *]) rfl) rfl ⟨rfl,aD⟩
theorem first_any (p:S.Pc) (v:Int) (w:World):Calls Tryz.prog 135 #[.agg #[.int .i64 p.St,.bool p.Le,.bool p.Fo,.bool p.Si,.bool p.Ft,.int .u8 p.Lw,.int .u8 p.Hg,.bool p.Au,.bool p.Ro,.bool p.Sp,.bool p.RI,.bool p.Po,.int .u8 p.Li,.int .u8 p.Ed,.int .u8 p.IS,.int .u8 p.IM,.int .i64 p.Lo,.int .i64 p.Sq,.int .i64 p.Sv,.bool p.Su],.int .u8 v] w fun e w'=>e=.returned (.agg (S.ini p v).cs)∧Adds w w':=by
 go_enter Tryz.func135,Tryz.ntmps135
 go_wp2_with (go_at_call 59;refine ad (rnew_any) fun n1 os1=> ?_;simp only [S.nw,S.Pc.cs])
 exact bodyPost_ret (ret_PIC Tryz.results135 rfl (by simp [go_sem,S.ini,S.Pc.cs]) rfl) rfl ⟨rfl,aD⟩
end K22
namespace K22
theorem q1C22d {P:Prop} (h:P:=by
 have hn1:¬t= -1:=by omega
 go_enter Tryz.func136,Tryz.ntmps136
 go_wp2_with fail
 refine qt ?_
 repeat (go_big_quiet_step (first|(go_at_call 155;exact calls_same (rpr_blk))|(go_at_call 154;exact calls_same (HT.out▸rpr_hi hh.out.1 hh.out.2))))
 refine qn fun nq osq=> ?_
 go_wp2_with fail
 all_goals try go_region
 all_goals go_wp2_with fail
 all_goals exact bodyPost_ret (ret_PIC Tryz.results136 rfl (by simp [go_sem,S.en,S.bl,S.Pc.cs,hv7,hn1]) rfl) rfl ⟨rfl,aD⟩):P:=h
theorem q2C22d {P:Prop} (h:P:=by
 subst ht1
 go_enter Tryz.func136,Tryz.ntmps136
 go_wp2_with fail
 refine qt ?_
 repeat (go_big_quiet_step (first|(go_at_call 155;exact calls_same (rpr_blk))|(go_at_call 154;exact calls_same (HT.out▸rpr_hi hh.out.1 hh.out.2))))
 refine qn fun nq osq=> ?_
 go_wp2_with fail
 all_goals try go_region
 all_goals go_wp2_with fail
 all_goals exact bodyPost_ret (ret_PIC Tryz.results136 rfl (by simp [go_sem,S.en,S.bl,S.Pc.cs,hv7]) rfl) rfl ⟨rfl,aD⟩):P:=h
theorem oper_any (p:S.Pc) (v:Int) (v0:0≤v) (v1:v < 256) (h0:0≤p.IS) (h1:p.IS < 256) {w:World}:Calls Tryz.prog 136 #[.agg #[.int .i64 p.St,.bool p.Le,.bool p.Fo,.bool p.Si,.bool p.Ft,.int .u8 p.Lw,.int .u8 p.Hg,.bool p.Au,.bool p.Ro,.bool p.Sp,.bool p.RI,.bool p.Po,.int .u8 p.Li,.int .u8 p.Ed,.int .u8 p.IS,.int .u8 p.IM,.int .i64 p.Lo,.int .i64 p.Sq,.int .i64 p.Sv,.bool p.Su],.int .u8 v] w fun e w'=>e=.returned (.agg (S.cmd p v).cs)∧Adds w w':=by
 have e7:=S.and7_8 v v0 v1
 have hh:Hid _:=S.blk_bd p.IM p.IS p.Sp h0 h1
 have b0:0≤v % 8:=by omega
 have b1:v % 8 < 8:=by omega
 have hv7:¬v % 8= -1:=by omega
 have ht:=S.his_bd p
 obtain ⟨t,et⟩:∃t,S.his p=t:=⟨_,rfl⟩
 rw [et] at ht
 have HT:Hid (S.hi (S.blk p.IM p.IS p.Sp) p.Lo=t):=et
 have ET:Hid (S.his p=t):=et
 clear et h0 h1
 rcases (by omega:v / 32=0∨v / 32=1∨v / 32=2∨v / 32=3∨v / 32=4∨v / 32=5∨v / 32=6∨v / 32=7) with h|h|h|h|h|h|h|h
 ·have hv:S.cmd p v={p with Ro:=false}:=by simp [S.cmd,h,ET.out]
  rw [hv]
  clear hv
  rcases (by omega:t= -1∨0≤t) with ht1|ht1
  ·exact q2C22d
  ·exact q1C22d
 ·have hv:S.cmd p v=S.en p t false:=by simp [S.cmd,h,ET.out]
  rw [hv]
  clear hv
  rcases (by omega:t= -1∨0≤t) with ht1|ht1
  ·exact q2C22d
  ·exact q1C22d
 ·have hv:S.cmd p v=p:=by simp [S.cmd,h,ET.out]
  rw [hv]
  clear hv
  rcases (by omega:t= -1∨0≤t) with ht1|ht1
  ·exact q2C22d
  ·exact q1C22d
 ·have hv:S.cmd p v=S.en p (v % 8) false:=by simp [S.cmd,h,ET.out]
  rw [hv]
  clear hv
  rcases (by omega:t= -1∨0≤t) with ht1|ht1
  ·exact q2C22d
  ·exact q1C22d
 ·have hv:S.cmd p v={p with Ro:=true}:=by simp [S.cmd,h,ET.out]
  rw [hv]
  clear hv
  rcases (by omega:t= -1∨0≤t) with ht1|ht1
  ·exact q2C22d
  ·exact q1C22d
 ·have hv:S.cmd p v=S.en p t true:=by simp [S.cmd,h,ET.out]
  rw [hv]
  clear hv
  rcases (by omega:t= -1∨0≤t) with ht1|ht1
  ·exact q2C22d
  ·exact q1C22d
 ·have hv:S.cmd p v={p with Lo:=v % 8}:=by simp [S.cmd,h,ET.out]
  rw [hv]
  clear hv
  rcases (by omega:t= -1∨0≤t) with ht1|ht1
  ·exact q2C22d
  ·exact q1C22d
 ·have hv:S.cmd p v=S.en p (v % 8) true:=by simp [S.cmd,h,ET.out]
  rw [hv]
  clear hv
  rcases (by omega:t= -1∨0≤t) with ht1|ht1
  ·exact q2C22d
  ·exact q1C22d
end K22
namespace K22
theorem rwrite_any (p:S.Pc) {hi:Bool} {v:Int} (v0:0≤v) (v1:v < 256) (h0:0≤p.IS) (h1:p.IS < 256) {w:World}:Calls Tryz.prog 109 #[.agg #[.int .i64 p.St,.bool p.Le,.bool p.Fo,.bool p.Si,.bool p.Ft,.int .u8 p.Lw,.int .u8 p.Hg,.bool p.Au,.bool p.Ro,.bool p.Sp,.bool p.RI,.bool p.Po,.int .u8 p.Li,.int .u8 p.Ed,.int .u8 p.IS,.int .u8 p.IM,.int .i64 p.Lo,.int .i64 p.Sq,.int .i64 p.Sv,.bool p.Su],.bool hi,.int .u8 v] w fun e w'=>e=.returned (.agg (S.wr p hi v).cs)∧Adds w w':=by
 have hh:Hid _:=And.intro (And.intro v0 v1) (And.intro h0 h1)
 clear v0 v1 h0 h1
 cases hi
 ·by_cases h6:bits .and .u8 v 16=0
  ·by_cases h8:bits .and .u8 v 8=0
   ·go_enter Tryz.func109,Tryz.ntmps109
    go_wp2_with (first|(go_at_call 136;refine ad (oper_any p v hh.out.1.1 hh.out.1.2 hh.out.2.1 hh.out.2.2) fun n1 os1=> ?_;simp only [S.Pc.cs]))
    exact bodyPost_ret (ret_PIC Tryz.results109 rfl (by simp [go_sem,S.wr,S.Pc.cs,h6,h8]) rfl) rfl ⟨rfl,aD⟩
   ·by_cases g6:bits .and .u8 v 64=0
    all_goals
     by_cases g1:bits .and .u8 v 2=0
     all_goals
      by_cases gp:p.Po=true
      all_goals
       go_enter Tryz.func109,Tryz.ntmps109
       go_wp2_with fail
       exact bodyPost_ret (ret_PIC Tryz.results109 rfl (by simp [go_sem,S.wr,S.mode,S.Pc.cs, *]) rfl) rfl ⟨rfl,aD⟩
  ·go_enter Tryz.func109,Tryz.ntmps109
   go_wp2_with (go_at_call 135;refine ad (first_any p v _) fun n1 os1=> ?_;simp only [S.Pc.cs])
   exact bodyPost_ret (ret_PIC Tryz.results109 rfl (by simp [go_sem,S.wr,S.Pc.cs,h6]) rfl) rfl ⟨rfl,aD⟩
 ·go_enter Tryz.func109,Tryz.ntmps109
  go_wp2_with (go_at_call 134;refine ad (further_any p v) fun n1 os1=> ?_;simp only [S.Pc.cs])
  exact bodyPost_ret (ret_PIC Tryz.results109 rfl (by simp [go_sem,S.wr,S.Pc.cs]) rfl) rfl ⟨rfl,aD⟩
end K22
namespace S
theorem ones_and23 (n m:Int) (j:Nat) (hm:(BitVec.ofInt 64 m).toNat=2 ^ j - 1) (hj:j≤60):bits .and .i64 n m=n % ((2 ^ j:Nat):Int):=by
 have hp:(2 ^ j:Nat) ∣ 2 ^ 64:=Nat.pow_dvd_pow 2 (by omega)
 have hl:(2 ^ j:Nat)≤2 ^ 60:=Nat.pow_le_pow_right (by decide) hj
 have h0:0 < (2 ^ j:Nat):=Nat.pow_pos (by decide)
 have e:(BitVec.ofInt 64 n &&& BitVec.ofInt 64 m).toNat=(n % ((2 ^ 64:Nat):Int)).toNat % 2 ^ j:=by
  rw [BitVec.toNat_and,BitVec.toNat_ofInt,hm,Nat.and_two_pow_sub_one_eq_mod]
 have e2:(((n % ((2 ^ 64:Nat):Int)).toNat % 2 ^ j:Nat):Int)=n % ((2 ^ j:Nat):Int):=by
  rw [Int.natCast_emod,Int.toNat_of_nonneg (Int.emod_nonneg _ (by decide)),Int.emod_emod_of_dvd _ (Int.natCast_dvd_natCast.2 hp)]
 show IntKind.i64.wrap ((BitVec.ofInt 64 n &&& BitVec.ofInt 64 m).toNat:Nat)=_
 rw [e,e2]
 have l0:0≤n % ((2 ^ j:Nat):Int):=Int.emod_nonneg _ (by omega)
 have l1:n % ((2 ^ j:Nat):Int) < ((2 ^ j:Nat):Int):=Int.emod_lt_of_pos _ (by omega)
 exact IntWalk.i64_in _ (by omega)
theorem dm_and3 (n:Int):bits .and .i64 n 3=n % 4:=ones_and23 n 3 2 (by decide) (by decide)
def dmA (r a v:Int):Int:=if r % 4=0 then joi (a / 256) v else if r % 4=1 then joi v (a % 256) else a
def dmV (r x v:Int):Int:=if r % 4=2 then v else x
def dmL (r l v:Int):Int:=if r % 4=3 then v else l
def dmR (r a x l:Int):Int:=if r % 4=0 then a % 256 else if r % 4=1 then a / 256 else if r % 4=2 then x else l % 256
theorem dm_hi (a:Int) (a0:0≤a) (a1:a < 65536):bits .and .u16 a 65280=a / 256 * 256:=by
 rw [u16_and a 65280 a0 a1 (by decide) (by decide)]
 have e:(65280:Int).toNat=65280:=rfl
 rw [e]
 have d:(a.toNat &&& 65280) / 2 ^ 8=a.toNat / 2 ^ 8 &&& 65280 / 2 ^ 8:=Nat.and_div_two_pow ..
 have m:(a.toNat &&& 65280) % 2 ^ 8=a.toNat % 2 ^ 8 &&& 65280 % 2 ^ 8:=Nat.and_mod_two_pow ..
 have k:a.toNat / 2 ^ 8 &&& 65280 / 2 ^ 8=a.toNat / 2 ^ 8 % 2 ^ 8:=Nat.and_two_pow_sub_one_eq_mod _ 8
 have z:a.toNat % 2 ^ 8 &&& 65280 % 2 ^ 8=0:=Nat.and_zero _
 rw [k] at d
 rw [z] at m
 omega
theorem dm_or0 (a v:Int) (a0:0≤a) (a1:a < 65536):bits .or .u16 (bits .and .u16 a 65280) v=joi (a / 256) v:=by rw [dm_hi a a0 a1];rfl
theorem dm_lo (a:Int) (a0:0≤a) (a1:a < 65536):bits .and .u16 a 255=a % 256:=by
 rw [u16_and a 255 a0 a1 (by decide) (by decide)]
 have k:a.toNat &&& (255:Int).toNat=a.toNat % 2 ^ 8:=Nat.and_two_pow_sub_one_eq_mod _ 8
 rw [k]
 omega
theorem dm_or1 (a v:Int) (a0:0≤a) (a1:a < 65536) (v0:0≤v) (v1:v < 256):bits .or .u16 (bits .and .u16 a 255) (v * 256)=joi v (a % 256):=by
 rw [dm_lo a a0 a1]
 unfold joi
 rw [u16_or _ _ (by omega) (by omega) (by omega) (by omega),u16_or _ _ (by omega) (by omega) (by omega) (by omega),Nat.or_comm]
theorem dmA_bd (r a v:Int) (a0:0≤a) (a1:a < 65536) (v0:0≤v) (v1:v < 256):0≤dmA r a v∧dmA r a v < 65536:=by
 unfold dmA
 split
 ·exact joi_bd (by omega) (by omega) v0 v1
 ·split
  ·exact joi_bd v0 v1 (by omega) (by omega)
  ·exact ⟨a0,a1⟩
theorem dmV_bd (r x v:Int) (x0:0≤x) (x1:x < 256) (v0:0≤v) (v1:v < 256):0≤dmV r x v∧dmV r x v < 256:=by
 unfold dmV;split<;>omega
end S
section
variable {a l r x:Int} {w:World}
theorem dm_eq (x v l y u m:Int) (w:World):(Op.equalIn 10000 64 (.agg #[.int .u16 x,.int .u8 v,.int .i64 l]) (.agg #[.int .u16 y,.int .u8 u,.int .i64 m])).run Tryz.prog w=.ok (same [.int .u16 x,.int .u8 v,.int .i64 l] [.int .u16 y,.int .u8 u,.int .i64 m]) w:=
 eq_agg 3 [.int .u16,.int .u8,.int .i64] _ Tryz.underlying64 (by kernel_rfl) (by decide) _ _ w (by simp [shaped]) (by simp [shaped])
attribute [go_sem] dm_eq
@[go_sem] theorem eq_Cell23 (x v y u:Int) (w:World):(Op.equalIn 10000 97 (.agg #[.int .u16 x,.int .u8 v]) (.agg #[.int .u16 y,.int .u8 u])).run Tryz.prog w=.ok (same [.int .u16 x,.int .u8 v] [.int .u16 y,.int .u8 u]) w:=
 eq_agg 2 [.int .u16,.int .u8] _ Tryz.underlying97 (by kernel_rfl) (by decide) _ _ w (by simp [shaped]) (by simp [shaped])
theorem rdm_req:Calls Tryz.prog 93 #[.agg #[.int .u16 a,.int .u8 x,.int .i64 l]] w fun e w'=>e=.returned (.bool (decide (0 < l)))∧Adds w w':=by
 go_enter Tryz.func93,Tryz.ntmps93
 go_wp2_with fail
 go_ret
 exact ⟨rfl,aD⟩
@[go_sem] theorem dm_idx0 (p q r s:Int) (w:World):(Instr.index 211 (.agg #[.int .u8 p,.int .u8 q,.int .u8 r,.int .u8 s]) (.int .i64 0)).run Tryz.prog w=.ok (.int .u8 p) w:=by kernel_rfl
@[go_sem] theorem dm_idx1 (p q r s:Int) (w:World):(Instr.index 211 (.agg #[.int .u8 p,.int .u8 q,.int .u8 r,.int .u8 s]) (.int .i64 1)).run Tryz.prog w=.ok (.int .u8 q) w:=by kernel_rfl
@[go_sem] theorem dm_idx2 (p q r s:Int) (w:World):(Instr.index 211 (.agg #[.int .u8 p,.int .u8 q,.int .u8 r,.int .u8 s]) (.int .i64 2)).run Tryz.prog w=.ok (.int .u8 r) w:=by kernel_rfl
@[go_sem] theorem dm_idx3 (p q r s:Int) (w:World):(Instr.index 211 (.agg #[.int .u8 p,.int .u8 q,.int .u8 r,.int .u8 s]) (.int .i64 3)).run Tryz.prog w=.ok (.int .u8 s) w:=by kernel_rfl
theorem q1C23 {P:Prop} (h:P:=by
 go_enter Tryz.func110,Tryz.ntmps110
 go_wp2_with fail
 exact bodyPost_ret (by simp [results,Tryz.results110,go_sem]) rfl ⟨rfl,aD⟩):P:=h
theorem rdm_w0 (a x l r v:Int) (a0:0≤a) (a1:a < 65536) (v0:0≤v) (v1:v < 256) (hr:r % 4=0) (w:World):Calls Tryz.prog 110 #[.agg #[.int .u16 a,.int .u8 x,.int .i64 l],.int .i64 r,.int .u8 v] w fun e w'=>e=.returned (.agg #[.int .u16 (S.joi (a / 256) v),.int .u8 x,.int .i64 l])∧Adds w w':=by
 have hb:bits .and .i64 r 3=0:=by rw [S.dm_and3,hr]
 have h2:=S.dm_or0 a v a0 a1
 have h3:=S.dm_or1 a v a0 a1 v0 v1
 clear hr
 exact q1C23
theorem rdm_w1 (a x l r v:Int) (a0:0≤a) (a1:a < 65536) (v0:0≤v) (v1:v < 256) (hr:r % 4=1) (w:World):Calls Tryz.prog 110 #[.agg #[.int .u16 a,.int .u8 x,.int .i64 l],.int .i64 r,.int .u8 v] w fun e w'=>e=.returned (.agg #[.int .u16 (S.joi v (a % 256)),.int .u8 x,.int .i64 l])∧Adds w w':=by
 have hb:bits .and .i64 r 3=1:=by rw [S.dm_and3,hr]
 have h2:=S.dm_or0 a v a0 a1
 have h3:=S.dm_or1 a v a0 a1 v0 v1
 clear hr
 exact q1C23
theorem rdm_w2 (a x l r v:Int) (a0:0≤a) (a1:a < 65536) (v0:0≤v) (v1:v < 256) (hr:r % 4=2) (w:World):Calls Tryz.prog 110 #[.agg #[.int .u16 a,.int .u8 x,.int .i64 l],.int .i64 r,.int .u8 v] w fun e w'=>e=.returned (.agg #[.int .u16 a,.int .u8 v,.int .i64 l])∧Adds w w':=by
 have hb:bits .and .i64 r 3=2:=by rw [S.dm_and3,hr]
 have h2:=S.dm_or0 a v a0 a1
 have h3:=S.dm_or1 a v a0 a1 v0 v1
 clear hr
 exact q1C23
theorem rdm_w3 (a x l r v:Int) (a0:0≤a) (a1:a < 65536) (v0:0≤v) (v1:v < 256) (hr:r % 4=3) (w:World):Calls Tryz.prog 110 #[.agg #[.int .u16 a,.int .u8 x,.int .i64 l],.int .i64 r,.int .u8 v] w fun e w'=>e=.returned (.agg #[.int .u16 a,.int .u8 x,.int .i64 v])∧Adds w w':=by
 have hb:bits .and .i64 r 3=3:=by rw [S.dm_and3,hr]
 have h2:=S.dm_or0 a v a0 a1
 have h3:=S.dm_or1 a v a0 a1 v0 v1
 clear hr
 exact q1C23
theorem q2C23 {P:Prop} (h:P:=by
 go_enter Tryz.func100,Tryz.ntmps100
 go_wp2_with fail
 go_ret
 exact ⟨ri (by simp<;>omega),aD⟩):P:=h
theorem rdm_r0 (a x l r:Int) (a0:0≤a) (a1:a < 65536) (hr:r % 4=0) (w:World):Calls Tryz.prog 100 #[.agg #[.int .u16 a,.int .u8 x,.int .i64 l],.int .i64 r] w fun e w'=>e=.returned (.int .u8 (a % 256))∧Adds w w':=by
 have hb:bits .and .i64 r 3=0:=by rw [S.dm_and3,hr]
 clear hr
 exact q2C23
theorem rdm_r1 (a x l r:Int) (a0:0≤a) (a1:a < 65536) (hr:r % 4=1) (w:World):Calls Tryz.prog 100 #[.agg #[.int .u16 a,.int .u8 x,.int .i64 l],.int .i64 r] w fun e w'=>e=.returned (.int .u8 (a / 256))∧Adds w w':=by
 have hb:bits .and .i64 r 3=1:=by rw [S.dm_and3,hr]
 clear hr
 exact q2C23
theorem rdm_r2 (a x l r:Int) (a0:0≤a) (a1:a < 65536) (hr:r % 4=2) (w:World):Calls Tryz.prog 100 #[.agg #[.int .u16 a,.int .u8 x,.int .i64 l],.int .i64 r] w fun e w'=>e=.returned (.int .u8 x)∧Adds w w':=by
 have hb:bits .and .i64 r 3=2:=by rw [S.dm_and3,hr]
 clear hr
 exact q2C23
theorem rdm_r3 (a x l r:Int) (a0:0≤a) (a1:a < 65536) (hr:r % 4=3) (w:World):Calls Tryz.prog 100 #[.agg #[.int .u16 a,.int .u8 x,.int .i64 l],.int .i64 r] w fun e w'=>e=.returned (.int .u8 (l % 256))∧Adds w w':=by
 have hb:bits .and .i64 r 3=3:=by rw [S.dm_and3,hr]
 clear hr
 exact q2C23
theorem dm_four (r:Int):r % 4=0∨r % 4=1∨r % 4=2∨r % 4=3:=by omega
theorem dma_rwr {v:Int} (a0:0≤a) (a1:a < 65536) (v0:0≤v) (v1:v < 256):Calls Tryz.prog 110 #[.agg #[.int .u16 a,.int .u8 x,.int .i64 l],.int .i64 r,.int .u8 v] w fun e w'=>e=.returned (.agg #[.int .u16 (S.dmA r a v),.int .u8 (S.dmV r x v),.int .i64 (S.dmL r l v)])∧Adds w w':=by
 rcases dm_four r with h|h|h|h
 ·simpa [S.dmA,S.dmV,S.dmL,h] using rdm_w0 a x l r v a0 a1 v0 v1 h w
 ·simpa [S.dmA,S.dmV,S.dmL,h] using rdm_w1 a x l r v a0 a1 v0 v1 h w
 ·simpa [S.dmA,S.dmV,S.dmL,h] using rdm_w2 a x l r v a0 a1 v0 v1 h w
 ·simpa [S.dmA,S.dmV,S.dmL,h] using rdm_w3 a x l r v a0 a1 v0 v1 h w
theorem dma_rrd (a0:0≤a) (a1:a < 65536):Calls Tryz.prog 100 #[.agg #[.int .u16 a,.int .u8 x,.int .i64 l],.int .i64 r] w fun e w'=>e=.returned (.int .u8 (S.dmR r a x l))∧Adds w w':=by
 rcases dm_four r with h|h|h|h
 ·simpa [S.dmR,h] using rdm_r0 a x l r a0 a1 h w
 ·simpa [S.dmR,h] using rdm_r1 a x l r a0 a1 h w
 ·simpa [S.dmR,h] using rdm_r2 a x l r a0 a1 h w
 ·simpa [S.dmR,h] using rdm_r3 a x l r a0 a1 h w
theorem dma_rtr (l0:0 < l) (l1:l < 9223372036854775808):Calls Tryz.prog 69 #[.agg #[.int .u16 a,.int .u8 x,.int .i64 l]] w fun e w'=>e=.returned (.tuple #[.agg #[.int .u16 (IntKind.u16.wrap (a+1)),.int .u8 x,.int .i64 (l - 1)],.agg #[.int .u16 a,.int .u8 x],.bool true])∧Adds w w':=by
 have hd:decide (0 < l)=true:=decide_eq_true l0
 go_enter Tryz.func69,Tryz.ntmps69
 go_wp2_with (go_at_call 93;refine ad (rdm_req) fun n1 os1=> ?_)
 go_region
 all_goals go_wp2_with fail
 all_goals exact bodyPost_ret (by simp [results,Tryz.results69,go_sem]) rfl ⟨rfl,aD⟩
theorem dma_rtr0 (l0:¬0 < l):Calls Tryz.prog 69 #[.agg #[.int .u16 a,.int .u8 x,.int .i64 l]] w fun e w'=>e=.returned (.tuple #[.agg #[.int .u16 0,.int .u8 0,.int .i64 0],.agg #[.int .u16 0,.int .u8 0],.bool false])∧Adds w w':=by
 have hd:decide (0 < l)=false:=decide_eq_false l0
 go_enter Tryz.func69,Tryz.ntmps69
 go_wp2_with (go_at_call 93;refine ad (rdm_req) fun n1 os1=> ?_)
 all_goals exact bodyPost_ret (by simp [results,Tryz.results69,go_sem]) rfl ⟨rfl,aD⟩
end
section
variable {P:Program} {a a':Act} {fuel:Nat} {listed:Array Bool} {w:World}
theorem tk {md:Region.Mode} {ops:Array Oper} {Q:Exit→Act→World→Prop} {S:World→Prop} (i:Nat) {oi:Oper} {v:Value} (hi:ops[i]? =some oi)
 (h:wpAnyH P md ops Q S fuel (listed.setIfInBounds i true) a' w) (hs:Region.noSelect ops=true:=by kernel_rfl) (hf:Region.free md ops listed i=true:=by kernel_rfl) (hr:(Region.ready md ops listed).contains i=true:=by kernel_rfl)
 (hQ:∀c a w,Q (.panic c) (a.put oi.dst v) w→Q (.panic c) a w:=by exact fun _ _ _ h=>h) (hw:Region.wanted oi (yielded ops a.tmps)=true:=by kernel_rfl)
 (hy:∀w,S w→(execOp a.eval oi).run P w=.ok (.value v) w:=by (intro w hSw;(try dsimp only at hSw);go_simp;(try with_reducible rfl);done)) (hS:S w:=by assumption)
 (ha:a.put oi.dst v=a':=by ((try simp only [Act.put,List.setIfInBounds_toArray,List.set_cons_zero,List.set_cons_succ]);exact rfl)):wpAnyH P md ops Q S (fuel+1) listed a w:=by
 subst ha
 exact wpAnyH_take hi hs hf hr hQ (Or.inl ⟨hw,hy⟩) hS h
theorem tz {md:Region.Mode} {ops:Array Oper} {Q:Exit→Act→World→Prop} {S:World→Prop} (i:Nat) {oi:Oper} (hi:ops[i]? =some oi)
 (h:wpAnyH P md ops Q S fuel (listed.setIfInBounds i true) a' w) (hs:Region.noSelect ops=true:=by kernel_rfl) (hf:Region.free md ops listed i=true:=by kernel_rfl) (hr:(Region.ready md ops listed).contains i=true:=by kernel_rfl)
 (hQ:∀c a w,Q (.panic c) (a.put oi.dst undef) w→Q (.panic c) a w:=by exact fun _ _ _ h=>h) (hw:Region.wanted oi (yielded ops a.tmps)=false:=by kernel_rfl) (hS:S w:=by assumption)
 (ha:a.put oi.dst undef=a':=by ((try simp only [Act.put,List.setIfInBounds_toArray,List.set_cons_zero,List.set_cons_succ]);exact rfl)):wpAnyH P md ops Q S (fuel+1) listed a w:=by
 subst ha
 exact wpAnyH_take hi hs hf hr hQ (Or.inr ⟨hw,rfl⟩) hS h
end
section
section
variable {P:Program} {md:Region.Mode} {ops:Array Oper} {Q:Exit→Act→World→Prop} {T:World→Prop} {st:List Nat}
def Opn (st:List Nat) (l:Array Bool):Prop:=∀j∈st,l.getD j true=false
def Til (P:Program) (md:Region.Mode) (ops:Array Oper) (Q:Exit→Act→World→Prop) (T:World→Prop) (st:List Nat):Nat→Array Bool→Act→World→Prop
 |0=>fun l a w=>Region.ready md ops l=[]∧Q .normal a w
 |n+1=>fun l a w=>(Region.ready md ops l=[]→Q .normal a w)∧∀i,i∈Region.ready md ops l→wpOp P ops Q i (fun b v=>Til P md ops Q T st n (l.setIfInBounds i true) b v∧(Opn st (l.setIfInBounds i true)→T v)) a w
theorem Til.any:∀(n:Nat) (l:Array Bool) (a:Act) (w:World),Til P md ops Q T st n l a w→wpAny P md ops Q n l a w
 |0,_,_,_,h=>⟨h.1,h.2⟩
 |n+1,l,_,_,h=>And.intro h.1 fun i hi=>wpOp_mono (fun b v k=>Til.any n _ b v k.1) (h.2 i hi)
theorem Til.start {id:Nat} {a:Act} {w:World} (hm:P.follows .mixedOrders=true) (hT:T w.drew) (h:Til P .any ops Q T st ops.size (Array.replicate ops.size false) a w.drew):(Code.region id ops true).wp P Q a w:=
 wp_region_any hm (Til.any _ _ _ _ h)
theorem Til.begin {id:Nat} {a:Act} {w:World} (hm:P.follows .mixedOrders=true) (hT:T w.drew) (h:T w.drew→Til P .any ops Q T st ops.size (Array.replicate ops.size false) a w.drew):(Code.region id ops true).wp P Q a w:=Til.start hm hT (h hT)
theorem Til.done {l:Array Bool} {a:Act} {w:World} (hr:Region.ready md ops l=[]) (h:Q .normal a w):∀n,Til P md ops Q T st n l a w
 |0=>⟨hr,h⟩
 |_+1=>⟨fun _=>h,fun i hi=>by rw [hr] at hi;cases hi⟩
def tilWaits (md:Region.Mode) (ops:Array Oper) (i:Nat):Nat→Nat→Bool
 |0,_=>false
 |n+1,j=>match ops[j]? with
  |some o=>o.after.toList.any fun e=>Region.binds md e && (e.on==i||tilWaits md ops i n e.on)
  |none=>false
def TilCl (md:Region.Mode) (ops:Array Oper) (l:Array Bool):Prop:=∀k o,ops[k]? =some o→l.getD k false=true→∀e∈o.after,Region.binds md e=true→l.getD e.on false=true
theorem tilWaits_listed {i:Nat} {l:Array Bool} (hl:TilCl md ops l):∀(n j:Nat) (o:Oper),ops[j]? =some o→(∀e∈o.after,Region.binds md e=true→l.getD e.on false=true)→tilWaits md ops i n j=true→l.getD i false=true
 |0,j,o,_,_,h=>by simp [tilWaits] at h
 |n+1,j,o,ho,hall,h=>by
  rw [tilWaits,ho] at h
  simp only [List.any_eq_true,Bool.and_eq_true,Bool.or_eq_true,beq_iff_eq] at h
  obtain ⟨e,he,hb,q⟩:=h
  have he':e∈o.after:=by simpa using he
  have h1:=hall e he' hb
  rcases q with q|q
  ·rw [←q];exact h1
  ·cases hk:ops[e.on]? with
   |none=>
    cases n with
    |zero=>simp [tilWaits] at q
    |succ n=>simp [tilWaits,hk] at q
   |some o'=>exact tilWaits_listed hl n e.on o' hk (hl _ _ hk h1) q
theorem TilCl.set {l:Array Bool} (h:TilCl md ops l) {j:Nat} (hj:j∈Region.ready md ops l):TilCl md ops (l.setIfInBounds j true):=by
 intro k o ho hk e he hb
 by_cases hkj:j=k
 ·subst hkj
  obtain ⟨_,o',ho',hall⟩:=mem_ready.1 hj
  rw [ho] at ho'
  injection ho' with ho'
  subst ho'
  exact getD_set_true (hall e he hb)
 ·rw [getD_set_ne false hkj] at hk
  exact getD_set_true (h k o ho hk e he hb)
theorem Til.first {i:Nat} {oi:Oper} {v:Value} (hi:ops[i]? =some oi) (hsel:∀(j:Nat) (o:Oper) cs b,ops[j]? =some o→o.op≠ .select cs b) (hQ:∀c a w,Q (.panic c) (a.put oi.dst v) w→Q (.panic c) a w)
 (hst:∀j∈st,j≠i∧∃m,tilWaits md ops i m j=true):
 ∀(n:Nat) (l:Array Bool) (a:Act) (w:World),TilCl md ops l→(∀j oj,ops[j]? =some oj→j≠i→l.getD j true=false→(∀e∈oj.after,Region.binds md e=true→e.on≠i)→oi.apart ops oj=true)→
  i∈Region.ready md ops l→Opn st l→YieldsIf P ops T oi v a→T w→Til P md ops Q T st n (l.setIfInBounds i true) (a.put oi.dst v) w→Til P md ops Q T st (n+1) l a w:=by
 intro n
 induction n with
 |zero=>
  intro l a w _ _ hr ho hy hT h
  have one:∀j,j∈Region.ready md ops l→j=i:=fun j hj=>Classical.byContradiction fun hne=>by
   have:=ready_mono hj hne
   rw [h.1] at this;cases this
  refine ⟨fun e=>(by rw [e] at hr;cases hr),fun j hj=> ?_⟩
  obtain rfl:=one j hj
  exact hy.wpOp hi hT ⟨h,fun _=>hT⟩
 |succ n ih=>
  intro l a w hcl hfree hr ho hy hT h
  have hli:l.getD i false=false:=by
   have h0:=(mem_ready.1 hr).1
   rcases Nat.lt_or_ge i l.size with q|q
   ·simp [q] at h0⊢;exact h0
   ·simp [Array.getElem?_eq_none q]
  refine ⟨fun e=>(by rw [e] at hr;cases hr),fun j hj=> ?_⟩
  by_cases hji:j=i
  ·subst hji;exact hy.wpOp hi hT ⟨h,fun _=>hT⟩
  obtain ⟨hjl,oj,hoj,hall⟩:=mem_ready.1 hj
  have hwait:∀e∈oj.after,Region.binds md e=true→e.on≠i:=fun e he hb q=>by
   have:=hall e he hb
   rw [q,hli] at this;cases this
  have hjst:j∉st:=fun hs=>by
   obtain ⟨_,m,q⟩:=hst j hs
   have:=tilWaits_listed hcl m j oj hoj hall q
   rw [hli] at this;cases this
  have hop:∀l':Array Bool,Opn st l'→∀k,k∉st→Opn st (l'.setIfInBounds k true):=fun l' h' k hk q hq=>by
   have hne:k≠q:=fun e=>hk (by rw [e];exact hq)
   rw [getD_set_ne true hne];exact h' q hq
  have hist:i∉st:=fun hs=>(hst i hs).1 rfl
  have h1:=h.2 j (ready_mono hj hji)
  have h2:=wpOp_putIf hoj (hfree j oj hoj hji hjl hwait) (fun cs b=>hsel i oi cs b hi) (fun cs b=>hsel j oj cs b hoj) hQ hy h1
  refine wpOp_mono (fun b x k=> ?_) h2
  have hTx:T x:=k.2.2 (hop _ (hop _ ho i hist) j hjst)
  refine ⟨ih (l.setIfInBounds j true) b x (hcl.set hj) (fun k' ok e1 e2 e3 e4=>hfree k' ok e1 e2 ?_ e4) (ready_mono hr (Ne.symm hji)) (hop _ ho j hjst) k.1 hTx (by rw [Array.setIfInBounds_comm _ _ hji];exact k.2.1),fun _=>hTx⟩
  by_cases hjk:j=k'
  ·subst hjk;exact hjl
  ·rwa [getD_set_ne true hjk] at e3
theorem Til.firstAny {i:Nat} {oi:Oper} {v:Value} (hi:ops[i]? =some oi) (hsel:∀(j:Nat) (o:Oper) cs b,ops[j]? =some o→o.op≠ .select cs b) (hQ:∀c a w,Q (.panic c) (a.put oi.dst v) w→Q (.panic c) a w) (hist:i∉st):
 ∀(n:Nat) (l:Array Bool) (a:Act) (w:World),(∀j oj,ops[j]? =some oj→j≠i→l.getD j true=false→(∀e∈oj.after,Region.binds md e=true→e.on≠i)→oi.apart ops oj=true)→
  i∈Region.ready md ops l→YieldsIf P ops (fun _=>True) oi v a→(Opn st l→T w)→Til P md ops Q T st n (l.setIfInBounds i true) (a.put oi.dst v) w→Til P md ops Q T st (n+1) l a w:=by
 have hback:∀l':Array Bool,Opn st (l'.setIfInBounds i true)→Opn st l':=fun l' h' q hq=>by
  have hne:i≠q:=fun e=>hist (by rw [e];exact hq)
  have:=h' q hq
  rwa [getD_set_ne true hne] at this
 have hput:∀l':Array Bool,Opn st l'→Opn st (l'.setIfInBounds i true):=fun l' h' q hq=>by
  have hne:i≠q:=fun e=>hist (by rw [e];exact hq)
  rw [getD_set_ne true hne];exact h' q hq
 intro n
 induction n with
 |zero=>
  intro l a w _ hr hy hT h
  have one:∀j,j∈Region.ready md ops l→j=i:=fun j hj=>Classical.byContradiction fun hne=>by
   have:=ready_mono hj hne
   rw [h.1] at this;cases this
  refine ⟨fun e=>(by rw [e] at hr;cases hr),fun j hj=> ?_⟩
  obtain rfl:=one j hj
  exact hy.wpOp hi trivial ⟨h,fun e=>hT (hback _ e)⟩
 |succ n ih=>
  intro l a w hfree hr hy hT h
  have hli:l.getD i false=false:=by
   have h0:=(mem_ready.1 hr).1
   rcases Nat.lt_or_ge i l.size with q|q
   ·simp [q] at h0⊢;exact h0
   ·simp [Array.getElem?_eq_none q]
  refine ⟨fun e=>(by rw [e] at hr;cases hr),fun j hj=> ?_⟩
  by_cases hji:j=i
  ·subst hji;exact hy.wpOp hi trivial ⟨h,fun e=>hT (hback _ e)⟩
  obtain ⟨hjl,oj,hoj,hall⟩:=mem_ready.1 hj
  have hwait:∀e∈oj.after,Region.binds md e=true→e.on≠i:=fun e he hb q=>by
   have:=hall e he hb
   rw [q,hli] at this;cases this
  have h1:=h.2 j (ready_mono hj hji)
  have h2:=wpOp_putIf hoj (hfree j oj hoj hji hjl hwait) (fun cs b=>hsel i oi cs b hi) (fun cs b=>hsel j oj cs b hoj) hQ hy h1
  refine wpOp_mono (fun b x k=> ?_) h2
  have hc:=Array.setIfInBounds_comm (xs:=l) true true hji
  have hTx:Opn st (l.setIfInBounds j true)→T x:=fun e=>k.2.2 (by rw [←hc];exact hput _ e)
  refine ⟨ih (l.setIfInBounds j true) b x (fun k' ok e1 e2 e3 e4=>hfree k' ok e1 e2 ?_ e4) (ready_mono hr (Ne.symm hji)) k.1 hTx (by rw [hc];exact k.2.1),hTx⟩
  by_cases hjk:j=k'
  ·subst hjk;exact hjl
  ·rwa [getD_set_ne true hjk] at e3
theorem Til.takeAny {i:Nat} {oi:Oper} {v:Value} {n:Nat} {l:Array Bool} {a:Act} {w:World} (hi:ops[i]? =some oi) (hs:Region.noSelect ops=true) (hf:Region.free md ops l i=true) (hr:(Region.ready md ops l).contains i=true) (hist:st.contains i=false)
 (hQ:∀c a w,Q (.panic c) (a.put oi.dst v) w→Q (.panic c) a w) (hy:YieldsIf P ops (fun _=>True) oi v a) (hT:T w) (h:Til P md ops Q T st n (l.setIfInBounds i true) (a.put oi.dst v) w):Til P md ops Q T st (n+1) l a w:=
 Til.firstAny hi (Region.noSelect_spec hs) hQ (fun e=>by rw [List.contains_iff_mem.2 e] at hist;cases hist) n l a w (Region.free_spec hi hf) (by simpa using hr) hy (fun _=>hT) h
theorem Til.takeLate {i:Nat} {oi:Oper} {v:Value} {n:Nat} {l:Array Bool} {a:Act} {w:World} (hi:ops[i]? =some oi) (hs:Region.noSelect ops=true) (hf:Region.free md ops l i=true) (hr:(Region.ready md ops l).contains i=true) (hist:(!st.contains i && st.any fun j=>l.getD j true)=true)
 (hQ:∀c a w,Q (.panic c) (a.put oi.dst v) w→Q (.panic c) a w) (hy:YieldsIf P ops (fun _=>True) oi v a) (h:Til P md ops Q T st n (l.setIfInBounds i true) (a.put oi.dst v) w):Til P md ops Q T st (n+1) l a w:=by
 rw [Bool.and_eq_true] at hist
 refine Til.firstAny hi (Region.noSelect_spec hs) hQ (fun e=>by have:=hist.1;rw [List.contains_iff_mem.2 e] at this;cases this) n l a w (Region.free_spec hi hf) (by simpa using hr) hy (fun ho=> ?_) h
 obtain ⟨k,hk,e⟩:=List.any_eq_true.1 hist.2
 rw [ho k hk] at e;cases e
def tilClB (md:Region.Mode) (ops:Array Oper) (l:Array Bool):Bool:=(List.range ops.size).all fun k=> !l.getD k false||match ops[k]? with
 |some o=>o.after.toList.all fun e=> !Region.binds md e||l.getD e.on false
 |none=>true
theorem tilClB_spec {l:Array Bool} (h:tilClB md ops l=true):TilCl md ops l:=by
 intro k o ho hk e he hb
 have hlt:k < ops.size:=(Array.getElem?_eq_some_iff.1 ho).1
 have h1:=(List.all_eq_true.1 h) k (List.mem_range.2 hlt)
 rw [hk,ho] at h1
 have h2:(o.after.toList.all fun e=> !Region.binds md e||l.getD e.on false)=true:=h1
 have h3:=(List.all_eq_true.1 h2) e (by simpa using he)
 rw [hb] at h3
 exact h3
theorem Til.take {i:Nat} {oi:Oper} {v:Value} {n:Nat} {l:Array Bool} {a:Act} {w:World} (hi:ops[i]? =some oi) (hs:Region.noSelect ops=true) (hf:Region.free md ops l i=true) (hr:(Region.ready md ops l).contains i=true) (hw:(st.all fun j=>j !=i && tilWaits md ops i 3 j)=true) (ho:(st.all (fun j=> !l.getD j true) && tilClB md ops l)=true)
 (hQ:∀c a w,Q (.panic c) (a.put oi.dst v) w→Q (.panic c) a w) (hy:YieldsIf P ops T oi v a) (hT:T w) (h:Til P md ops Q T st n (l.setIfInBounds i true) (a.put oi.dst v) w):Til P md ops Q T st (n+1) l a w:=by
 rw [Bool.and_eq_true] at ho
 refine Til.first hi (Region.noSelect_spec hs) hQ (fun j hj=> ?_) n l a w (tilClB_spec ho.2) (Region.free_spec hi hf) (by simpa using hr) (fun j hj=>by simpa using (List.all_eq_true.1 ho.1) j hj) hy hT h
 have h1:=(List.all_eq_true.1 hw) j hj
 rw [Bool.and_eq_true] at h1
 exact ⟨by simpa using h1.1,3,h1.2⟩
def TilAll (P:Program) (md:Region.Mode) (ops:Array Oper) (Q:Exit→Act→World→Prop) (T:World→Prop) (st:List Nat) (n:Nat) (l:Array Bool) (a:Act) (w:World) (rs:List Nat):Prop:=∀i,i∈rs→wpOp P ops Q i (fun b v=>Til P md ops Q T st n (l.setIfInBounds i true) b v∧(Opn st (l.setIfInBounds i true)→T v)) a w
theorem Til.ready {rs:List Nat} {n:Nat} {l:Array Bool} {a:Act} {w:World} (hr:Region.ready md ops l=rs) (hne:rs≠[]) (h:TilAll P md ops Q T st n l a w rs):Til P md ops Q T st (n+1) l a w:=
 ⟨fun e=>absurd (hr.symm.trans e) hne,fun i hi=>h i (hr▸hi)⟩
theorem TilAll.nil {n:Nat} {l:Array Bool} {a:Act} {w:World}:TilAll P md ops Q T st n l a w []:=fun _ h=>by cases h
theorem TilAll.cons {n:Nat} {l:Array Bool} {a:Act} {w:World} {i:Nat} {o:Oper} {rs:List Nat} (ho:ops[i]? =some o)
 (h:∀K:Act→World→Prop,Shut (∀b v,T v→(T v→Til P md ops Q T st n (l.setIfInBounds i true) b v)→K b v)→if Region.wanted o (yielded ops a.tmps)=true then Oper.wp P o a w K Q else K (a.put o.dst undef) w)
 (hs:TilAll P md ops Q T st n l a w rs):TilAll P md ops Q T st n l a w (i::rs):=fun j hj=>by
 rcases List.mem_cons.1 hj with rfl|hj
 ·exact wpOp_step ho (fun K hK=>h K (fun b v hT hW=>hK b v ⟨hW hT,fun _=>hT⟩))
 ·exact hs j hj
theorem TilAll.store {n:Nat} {l:Array Bool} {a:Act} {w:World} {i:Nat} {o:Oper} {rs:List Nat} (ho:ops[i]? =some o) (hc:(st.any fun j=>(l.setIfInBounds i true).getD j true)=true)
 (h:∀K:Act→World→Prop,Shut (∀b v,Til P md ops Q T st n (l.setIfInBounds i true) b v→K b v)→if Region.wanted o (yielded ops a.tmps)=true then Oper.wp P o a w K Q else K (a.put o.dst undef) w)
 (hs:TilAll P md ops Q T st n l a w rs):TilAll P md ops Q T st n l a w (i::rs):=fun j hj=>by
 rcases List.mem_cons.1 hj with rfl|hj
 ·refine wpOp_step ho (fun K hK=>h K (fun b v hW=>hK b v ⟨hW,fun ho'=> ?_⟩))
  obtain ⟨k,hk,e⟩:=List.any_eq_true.1 hc
  rw [ho' k hk] at e;cases e
 ·exact hs j hj
theorem Tt_ (i:Nat) {oi:Oper} {v:Value} {n:Nat} {l:Array Bool} {a a':Act} {w:World} (hi:ops[i]? =some oi) (h:Til P md ops Q T st n (l.setIfInBounds i true) a' w) (hs:Region.noSelect ops=true:=by kernel_rfl) (hf:Region.free md ops l i=true:=by kernel_rfl) (hr:(Region.ready md ops l).contains i=true:=by kernel_rfl) (h1:(st.all fun j=>j !=i && tilWaits md ops i 3 j)=true:=by kernel_rfl) (h2:(st.all (fun j=> !l.getD j true) && tilClB md ops l)=true:=by kernel_rfl)
 (hQ:∀c a w,Q (.panic c) (a.put oi.dst v) w→Q (.panic c) a w:=by exact fun _ _ _ h=>h) (hw:Region.wanted oi (yielded ops a.tmps)=true:=by kernel_rfl) (hy:∀w,T w→(execOp a.eval oi).run P w=.ok (.value v) w:=by (intro w hSw;(try dsimp only at hSw);go_simp;(try with_reducible rfl);done)) (hT:T w:=by assumption) (ha:a.put oi.dst v=a':=by ((try simp only [Act.put,List.setIfInBounds_toArray,List.set_cons_zero,List.set_cons_succ]);exact rfl)):Til P md ops Q T st (n+1) l a w:=by
 subst ha
 exact Til.take hi hs hf hr h1 h2 hQ (Or.inl ⟨hw,hy⟩) hT h
theorem Tf_ (i:Nat) {oi:Oper} {v:Value} {n:Nat} {l:Array Bool} {a a':Act} {w:World} (hi:ops[i]? =some oi) (h:Til P md ops Q T st n (l.setIfInBounds i true) a' w) (hs:Region.noSelect ops=true:=by kernel_rfl) (hf:Region.free md ops l i=true:=by kernel_rfl) (hr:(Region.ready md ops l).contains i=true:=by kernel_rfl) (h1:st.contains i=false:=by kernel_rfl)
 (hQ:∀c a w,Q (.panic c) (a.put oi.dst v) w→Q (.panic c) a w:=by exact fun _ _ _ h=>h) (hw:Region.wanted oi (yielded ops a.tmps)=true:=by kernel_rfl) (hy:∀w,(fun _=>True) w→(execOp a.eval oi).run P w=.ok (.value v) w:=by (intro w hSw;(try dsimp only at hSw);go_simp;(try with_reducible rfl);done)) (hT:T w:=by assumption) (ha:a.put oi.dst v=a':=by ((try simp only [Act.put,List.setIfInBounds_toArray,List.set_cons_zero,List.set_cons_succ]);exact rfl)):Til P md ops Q T st (n+1) l a w:=by
 subst ha
 exact Til.takeAny hi hs hf hr h1 hQ (Or.inl ⟨hw,hy⟩) hT h
theorem Tl_ (i:Nat) {oi:Oper} {v:Value} {n:Nat} {l:Array Bool} {a a':Act} {w:World} (hi:ops[i]? =some oi) (h:Til P md ops Q T st n (l.setIfInBounds i true) a' w) (hs:Region.noSelect ops=true:=by kernel_rfl) (hf:Region.free md ops l i=true:=by kernel_rfl) (hr:(Region.ready md ops l).contains i=true:=by kernel_rfl) (h1:(!st.contains i && st.any fun j=>l.getD j true)=true:=by kernel_rfl)
 (hQ:∀c a w,Q (.panic c) (a.put oi.dst v) w→Q (.panic c) a w:=by exact fun _ _ _ h=>h) (hw:Region.wanted oi (yielded ops a.tmps)=true:=by kernel_rfl) (hy:∀w,(fun _=>True) w→(execOp a.eval oi).run P w=.ok (.value v) w:=by (intro w hSw;(try dsimp only at hSw);go_simp;(try with_reducible rfl);done)) (ha:a.put oi.dst v=a':=by ((try simp only [Act.put,List.setIfInBounds_toArray,List.set_cons_zero,List.set_cons_succ]);exact rfl)):Til P md ops Q T st (n+1) l a w:=by
 subst ha
 exact Til.takeLate hi hs hf hr h1 hQ (Or.inl ⟨hw,hy⟩) h
end
end
namespace K22
theorem rread_any (p:S.Pc) {hi:Bool} (h0:0≤p.IS) (h1:p.IS < 256) {w:World}:Calls Tryz.prog 99 #[.agg #[.int .i64 p.St,.bool p.Le,.bool p.Fo,.bool p.Si,.bool p.Ft,.int .u8 p.Lw,.int .u8 p.Hg,.bool p.Au,.bool p.Ro,.bool p.Sp,.bool p.RI,.bool p.Po,.int .u8 p.Li,.int .u8 p.Ed,.int .u8 p.IS,.int .u8 p.IM,.int .i64 p.Lo,.int .i64 p.Sq,.int .i64 p.Sv,.bool p.Su],.bool hi] w fun e w'=>e=.returned (.tuple #[.agg (S.rdP p hi).cs,.int .u8 (S.rdW p hi)])∧Adds w w':=by
 have hh:Hid _:=And.intro h0 h1
 clear h0 h1
 cases hi
 ·by_cases hp:p.Po=true
  ·have hb:=S.pkc_bd p
   obtain ⟨n,en⟩:∃n,S.pkc p=n:=⟨_,rfl⟩
   rw [en] at hb
   have EN:Hid (S.pkc p=n):=en
   have EV:Hid (S.pkc {p with Po:=true}=n):=en
   clear en
   rcases (by omega:n= -1∨0≤n) with hn|hn
   ·subst hn
    go_enter Tryz.func99,Tryz.ntmps99
    go_wp2_with (go_at_call 124;refine ad (rpick_any {p with Po:=true} hh.out.1 hh.out.2 _) fun n1 os1=> ?_;rw [EV.out])
    exact bodyPost_ret (ret3_PIC Tryz.results99 (by simp [Act.put,S.rdW,S.pollV,hp,EN.out]) rfl (by simp [go_sem,S.rdP,S.poll,S.Pc.cs,hp,EN.out]) rfl) rfl ⟨rfl,aD⟩
   ·have n8:n < 8:=hb.2
    have hn1:¬n= -1:=by omega
    go_enter Tryz.func99,Tryz.ntmps99
    go_wp2_with (first|(go_at_call 124;refine ad (rpick_any {p with Po:=true} hh.out.1 hh.out.2 _) fun n1 os1=> ?_;rw [EV.out])|(go_at_call 128;refine ad (take_any {p with Po:=false} n hn n8) fun n2 os2=> ?_;simp only [S.Pc.cs,S.sv])|(go_at_call 129;refine ad (done_any ⟨p.St,p.Le,p.Fo,p.Si,p.Ft,p.Lw,p.Hg,true,p.Ro,p.Sp,p.RI,false,p.Li,bits .andNot .u8 p.Ed (S.bl n),bits .or .u8 p.IS (S.bl n),p.IM,p.Lo,p.Sq,p.Sv,p.Su⟩ n hn n8) fun n3 os3=> ?_;simp only [S.Pc.cs]))
    all_goals exact bodyPost_ret (ret3_PIC Tryz.results99 (by simp [Act.put,S.rdW,S.pollV,hp,EN.out,hn1]<;>omega) rfl (by simp [go_sem,S.rdP,S.poll,S.en,S.sv,S.Pc.cs,EN.out,hn1,hp, *]) rfl) rfl ⟨rfl,aD⟩
  ·by_cases hr:p.RI=true
   ·go_enter Tryz.func99,Tryz.ntmps99
    go_wp2_with fail
    go_region
    all_goals go_wp2_with fail
    all_goals exact bodyPost_ret (ret3_PIC Tryz.results99 (by simp [Act.put,S.rdW,hp,hr]) rfl (by simp [go_sem,S.rdP,S.Pc.cs,hp,hr]) rfl) rfl ⟨rfl,aD⟩
   ·go_enter Tryz.func99,Tryz.ntmps99
    go_wp2_with fail
    go_region_with (go_at_call 130;refine ad (rreq_any {p with Po:=false,RI:=false}) fun n1 os1=> ?_)
    all_goals go_wp2_with fail
    all_goals exact bodyPost_ret (ret3_PIC Tryz.results99 (by simp [Act.put,S.rdW,hp,hr];rfl) rfl (by simp [go_sem,S.rdP,S.Pc.cs,hp,hr]) rfl) rfl ⟨rfl,aD⟩
 ·go_enter Tryz.func99,Tryz.ntmps99
  go_wp2_with fail
  go_region
  all_goals go_wp2_with fail
  all_goals exact bodyPost_ret (ret3_PIC Tryz.results99 (by simp [Act.put,S.rdW]) rfl (by simp [go_sem,S.rdP,S.Pc.cs]) rfl) rfl ⟨rfl,aD⟩
end K22
namespace K22
theorem rack_any (p:S.Pc) (h0:0≤p.IS) (h1:p.IS < 256) {w:World}:Calls Tryz.prog 98 #[.agg #[.int .i64 p.St,.bool p.Le,.bool p.Fo,.bool p.Si,.bool p.Ft,.int .u8 p.Lw,.int .u8 p.Hg,.bool p.Au,.bool p.Ro,.bool p.Sp,.bool p.RI,.bool p.Po,.int .u8 p.Li,.int .u8 p.Ed,.int .u8 p.IS,.int .u8 p.IM,.int .i64 p.Lo,.int .i64 p.Sq,.int .i64 p.Sv,.bool p.Su]] w fun e w'=>e=.returned (.tuple #[.agg (S.ack p).cs,.int .u8 (S.ackV p)])∧Adds w w':=by
 have hh:Hid _:=And.intro h0 h1
 clear h0 h1
 have e7:=S.pr_and7 p.Sv
 have b0:0≤p.Sv % 8:=by omega
 have b1:p.Sv % 8 < 8:=by omega
 have hm1:¬p.Sv % 8= -1:=by omega
 by_cases hq:p.Sq=0
 ·have hb:=S.pkc_bd p
  obtain ⟨n,en⟩:∃n,S.pkc p=n:=⟨_,rfl⟩
  rw [en] at hb
  have EN:Hid (S.pkc p=n):=en
  have EV:Hid (S.pkc {p with Sq:=0}=n):=en
  clear en
  rcases (by omega:n= -1∨0≤n) with hn|hn
  ·subst hn
   go_enter Tryz.func98,Tryz.ntmps98
   go_wp2_with (go_at_call 124;refine ad (rpick_any {p with Sq:=0} hh.out.1 hh.out.2 _) fun n1 os1=> ?_;rw [EV.out])
   exact bodyPost_ret (ret3_PIC Tryz.results98 (by simp [Act.put,S.ackV,hq]) rfl (by simp [go_sem,S.ack,S.ch,S.Pc.cs,hq,EN.out]) rfl) rfl ⟨rfl,aD⟩
  ·have n8:n < 8:=hb.2
   have hn1:¬n= -1:=by omega
   go_enter Tryz.func98,Tryz.ntmps98
   go_wp2_with (first|(go_at_call 124;refine ad (rpick_any {p with Sq:=0} hh.out.1 hh.out.2 _) fun n1 os1=> ?_;rw [EV.out])|(go_at_call 128;refine ad (take_any {p with Sq:=1,Sv:=7,Su:=true} n hn n8) fun n2 os2=> ?_;simp only [S.Pc.cs,S.sv]))
   exact bodyPost_ret (ret3_PIC Tryz.results98 (by simp [Act.put,S.ackV,hq]) rfl (by simp [go_sem,S.ack,S.ch,S.sv,S.Pc.cs,hq,EN.out,hn1]) rfl) rfl ⟨rfl,aD⟩
 by_cases hq1:p.Sq=1
 ·by_cases hf:p.Fo=true
  all_goals
   go_enter Tryz.func98,Tryz.ntmps98
   go_wp2_with fail
   go_region
   all_goals go_wp2_with fail
   all_goals exact bodyPost_ret (ret3_PIC Tryz.results98 (by simp [Act.put,S.ackV,S.low,hq1,hf]<;>omega) rfl (by simp [go_sem,S.ack,S.Pc.cs,hq1,hf]) rfl) rfl ⟨rfl,aD⟩
 ·by_cases ha:p.Au=true
  ·by_cases hs:p.Su=true
   all_goals
    go_enter Tryz.func98,Tryz.ntmps98
    go_wp2_with (go_at_call 129;refine ad (done_any {p with Sq:=0,Au:=true,Su:=false} (p.Sv % 8) b0 b1) fun n3 os3=> ?_;simp only [S.Pc.cs])
    go_region
    all_goals go_wp2_with fail
    all_goals exact bodyPost_ret (ret3_PIC Tryz.results98 (by simp [Act.put,S.ackV,S.en,hm1,hq,hq1]) rfl (by simp [go_sem,S.ack,S.fin,S.en,S.Pc.cs,hq,hq1,ha,hs,hm1]) rfl) rfl ⟨rfl,aD⟩
  ·go_enter Tryz.func98,Tryz.ntmps98
   go_wp2_with fail
   go_region
   all_goals go_wp2_with fail
   all_goals exact bodyPost_ret (ret3_PIC Tryz.results98 (by simp [Act.put,S.ackV,hq,hq1]) rfl (by simp [go_sem,S.ack,S.fin,S.Pc.cs,hq,hq1,ha]) rfl) rfl ⟨rfl,aD⟩
end K22
section
section
variable {α:Type} {cs:α→List Value} {sz:Nat} {E:TypeId}
theorem Fl_setPart (hs:∀a,(cs a).length=sz) (k:Nat) (new:List Value) (hk:k+new.length≤sz):∀(d:List α) (i:Nat) (x a:α),d[i]? =some x→cs a=(cs x).take k++new++(cs x).drop (k+new.length)→
 (Fl cs d).take (i * sz+k)++new++(Fl cs d).drop (i * sz+k+new.length)=Fl cs (d.set i a)
 |[],i,x,a,h,_=>by simp at h
 |c::d,0,x,a,h,he=>by
  simp at h;subst h
  have hc:=hs c
  rw [List.set_cons_zero,Fl_cons,Fl_cons,Nat.zero_mul,Nat.zero_add,List.take_append_of_le_length (by omega),List.drop_append_of_le_length (by omega),he]
  simp [List.append_assoc]
 |c::d,i+1,x,a,h,he=>by
  have hc:=hs c
  have ih:=Fl_setPart hs k new hk d i x a (by simpa using h) he
  rw [List.set_cons_succ,Fl_cons,Fl_cons,←ih,show (i+1) * sz+k=sz+(i * sz+k) by rw [Nat.succ_mul];omega,show sz+(i * sz+k)+new.length=sz+(i * sz+k+new.length) by omega]
  rw [List.take_append,List.drop_append,List.take_of_length_le (by omega),List.drop_of_length_le (by omega),hc]
  rw [show sz+(i * sz+k) - sz=i * sz+k by omega,show sz+(i * sz+k+new.length) - sz=i * sz+k+new.length by omega]
  simp [List.append_assoc]
theorem OwnsG.part (hs:∀a,(cs a).length=sz) {w:World} {base g n cap:Nat} {d:List α} (h:OwnsG cs sz E w base (.slice (some ⟨g,0,none⟩) n cap) d) (i k:Nat) (x a:α) (new:List Value) (hi:d[i]? =some x) (hk:k+new.length≤sz) (h0:0 < new.length) (he:cs a=(cs x).take k++new++(cs x).drop (k+new.length)):
 OwnsG cs sz E (w.setRow g (put8 (i * sz+k) new.toArray (rowOf w g))) base (.slice (some ⟨g,0,none⟩) n cap) (d.set i a)∧w.grownBy (w.setRow g (put8 (i * sz+k) new.toArray (rowOf w g))) (some g)∧i * sz+k+new.length≤(rowOf w g).size:=by
 obtain ⟨cur,hg,hb,hdn,hnc,hcm,hcs,ht⟩:=h.elim
 have hrow:rowOf w g=cur:=by unfold rowOf;rw [hg];rfl
 have hin:i < n:=by have:=(List.getElem?_eq_some_iff.1 hi).1;omega
 have h1:i * sz+sz≤n * sz:=by have:=Nat.mul_le_mul_right sz (show i+1≤n by omega);rw [Nat.succ_mul] at this;exact this
 have h2:n * sz≤cap * sz:=Nat.mul_le_mul_right sz hnc
 have hsz:(put8 (i * sz+k) new.toArray cur).size=cap * sz:=by
  simp only [put8,List.size_toArray,List.length_append,List.length_take,List.length_drop,Array.length_toList];omega
 refine ⟨⟨by rw [Fl_len hs,List.length_set],.inr ⟨g,cap,put8 (i * sz+k) new.toArray cur,by rw [List.length_set,hdn],hb,?_,by rw [List.length_set,hdn];exact hnc,hcm,hsz,?_⟩⟩,grown_setRow w g _,by rw [hrow];omega⟩
 ·rw [hrow];exact setRow_heap w g cur _ E (0,0) hg
 ·rw [List.length_set,hdn]
  show ((cur.toList.take (i * sz+k)++new++cur.toList.drop (i * sz+k+new.length))).take (n * sz)=_
  rw [take_mid cur.toList new (i * sz+k) new.length (n * sz) rfl (by omega) (by simp;omega),ht]
  exact Fl_setPart hs k new hk d i x a hi he
theorem OwnsG.one (hs:∀a,(cs a).length=sz) {w:World} {base g n cap:Nat} {d:List α} (h:OwnsG cs sz E w base (.slice (some ⟨g,0,none⟩) n cap) d) (i k:Nat) (x a:α) (v:Value) (hi:d[i]? =some x) (hk:k+1≤sz) (he:cs a=(cs x).take k++[v]++(cs x).drop (k+1)):
 OwnsG cs sz E (w.setCell ⟨g,i * sz+k,none⟩ v) base (.slice (some ⟨g,0,none⟩) n cap) (d.set i a)∧w.grownBy (w.setCell ⟨g,i * sz+k,none⟩ v) (some g):=by
 obtain ⟨cur,hg,_⟩:=h.elim
 obtain ⟨h1,h2,h3⟩:=OwnsG.part hs h i k x a [v] hi hk (by simp) he
 have hrow:rowOf w g=cur:=by unfold rowOf;rw [hg];rfl
 have e:w.setCell ⟨g,i * sz+k,none⟩ v=w.setRow g (put8 (i * sz+k) [v].toArray (rowOf w g)):=by
  rw [setCell_eq_setRow w g (i * sz+k) cur E (0,0) v hg,hrow]
  congr 1
  rw [hrow] at h3
  simp only [List.length_singleton] at h3
  apply Array.toList_inj.1
  simp only [put8,Array.toList_setIfInBounds]
  rw [List.set_eq_take_append_cons_drop,if_pos (by rw [Array.length_toList];omega)]
  simp [List.append_assoc]
 rw [e];exact ⟨h1,h2⟩
end
end
section
theorem same_reflQ (x:S.Pn):same [.int .i64 x.st,.int .u16 x.ad,.int .u8 x.da,.bool x.sy,.bool x.db,.bool x.wa,.bool x.it,.bool x.al,.bool x.im,.bool x.s1,.bool x.s0,.bool x.rd,.bool x.ia,.bool x.so,.bool x.wr,.bool x.hl,.bool x.fl] [.int .i64 x.st,.int .u16 x.ad,.int .u8 x.da,.bool x.sy,.bool x.db,.bool x.wa,.bool x.it,.bool x.al,.bool x.im,.bool x.s1,.bool x.s0,.bool x.rd,.bool x.ia,.bool x.so,.bool x.wr,.bool x.hl,.bool x.fl]=true:=by simp [same]
theorem spins_any (a a':Option Addr) (len cap cap':Nat) (l:List S.Pn) (w:World) (h:HeldQ w a len l) (h':HeldQ w a' len l):
 Calls Tryz.prog 14 #[.slice a len cap,.slice a' len cap'] w fun e w'=>e=.returned (.bool true)∧Adds w w':=by
 obtain ⟨hl,hbig,hat⟩:=h
 obtain ⟨_,_,hat2⟩:=h'
 have HL:=Lib.hid hl
 have HAT:=Lib.hid hat
 have HAT2:=Lib.hid hat2
 clear hl hat hat2
 go_enter Tryz.func14,Tryz.ntmps14
 go_wp2_with fail
 go_loopw [13] (fun i wr=>∃k:Nat,k≤len∧i=.int .i64 (k:Int)∧Adds w wr) (fun i _=>len - (intOf i).toNat)
 case atStart=>exact ⟨0,Nat.zero_le _,rfl,Adds.refl _⟩
 case round=>
  obtain ⟨k,hk,rfl,hA⟩:=hrel
  have HA:=Lib.hid hA
  clear hA
  by_cases hlt:k < len
  ·obtain ⟨b,o,rfl,hb,hat⟩:=HAT.out (by omega)
   obtain ⟨b2,o2,rfl,hb2,hat2⟩:=HAT2.out (by omega)
   obtain ⟨x,hx⟩:=get_el (d:=l) (k:=k) (by have:=HL.out;omega)
   have hL:∀n os,(wholeVar 34 ⟨b,o+k * 17,none⟩).run Tryz.prog (More wr n os)=.ok (.agg #[.int .i64 x.st,.int .u16 x.ad,.int .u8 x.da,.bool x.sy,.bool x.db,.bool x.wa,.bool x.it,.bool x.al,.bool x.im,.bool x.s1,.bool x.s0,.bool x.rd,.bool x.ia,.bool x.so,.bool x.wr,.bool x.hl,.bool x.fl]) (More wr n os):=AtQ.loadM (AtG.keep (w':=wr) hat fun i=>HA.out.cell hb) (by have:=HA.out.size;omega) hx _ rfl
   have hL2:∀n os,(wholeVar 34 ⟨b2,o2+k * 17,none⟩).run Tryz.prog (More wr n os)=.ok (.agg #[.int .i64 x.st,.int .u16 x.ad,.int .u8 x.da,.bool x.sy,.bool x.db,.bool x.wa,.bool x.it,.bool x.al,.bool x.im,.bool x.s1,.bool x.s0,.bool x.rd,.bool x.ia,.bool x.so,.bool x.wr,.bool x.hl,.bool x.fl]) (More wr n os):=AtQ.loadM (AtG.keep (w':=wr) hat2 fun i=>HA.out.cell hb2) (by have:=HA.out.size;omega) hx _ rfl
   have q1:(k:Int) < (len:Int):=by omega
   clear hat hat2 hx HAT HAT2
   go_wp2_with fail
   refine qt ?_
   repeat (go_big_quiet_step (fail))
   refine qn fun nq osq=> ?_
   go_wp2_with fail
   go_roundw
   case rel=>exact ⟨k+1,by omega,by go_num,HA.out.trans aD⟩
   case measure=>simp [intOf];omega
  ·have q1:¬(k:Int) < (len:Int):=by omega
   clear HAT HAT2
   go_wp2_with fail
   go_ret
   exact ⟨rfl,HA.out⟩
end
end Go.Proofs.YteggjjhjmhccjaaGreatDoor
