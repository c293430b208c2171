/- Texts that the proofs of GrammarTraces and GrammarCounts rest on, joined. Conditions stand in each theorem. -/
import Derived.Test.YteggjjhjmhccjaaGreatQ00
import Derived.Laws.Bits128
import Derived.RegionTactic
import Derived.Deep.RegionWith
import Derived.Lib.Hide
import Derived.Maps.AppendAt
import Derived.Laws.AppendOwnNone
import Derived.BigCall
import Derived.StillTailTactics
import Derived.Deep.RegionHeld3
set_option linter.unusedVariables false
set_option linter.unusedSimpArgs false
set_option maxRecDepth 100000
set_option maxHeartbeats 8000000
namespace Go.Proofs.YteggjjhjmhccjaaGreat
open Go.ChangeShapes Go.WideShapes Go.ChangeAt Go.RowKit
namespace K8
theorem q1C10 {P:Prop} (h:P:=by
 go_enter Tryz.func173,Tryz.ntmps173
 go_wp2_with fail
 go_ret
 exact ⟨rfl,aD⟩):P:=h
theorem rholds_0 (s z k ac p v c:Bool) (w:World):Calls Tryz.prog 173 #[.int .i64 0,.agg #[.bool s,.bool z,.bool k,.bool ac,.bool p,.bool v,.bool c]] w fun e w'=>e=.returned (.bool (S.cnd 0 s z k p v c))∧Adds w w':=by
 exact q1C10
theorem rholds_1 (s z k ac p v c:Bool) (w:World):Calls Tryz.prog 173 #[.int .i64 1,.agg #[.bool s,.bool z,.bool k,.bool ac,.bool p,.bool v,.bool c]] w fun e w'=>e=.returned (.bool (S.cnd 1 s z k p v c))∧Adds w w':=by
 exact q1C10
theorem rholds_2 (s z k ac p v c:Bool) (w:World):Calls Tryz.prog 173 #[.int .i64 2,.agg #[.bool s,.bool z,.bool k,.bool ac,.bool p,.bool v,.bool c]] w fun e w'=>e=.returned (.bool (S.cnd 2 s z k p v c))∧Adds w w':=by
 exact q1C10
theorem rholds_3 (s z k ac p v c:Bool) (w:World):Calls Tryz.prog 173 #[.int .i64 3,.agg #[.bool s,.bool z,.bool k,.bool ac,.bool p,.bool v,.bool c]] w fun e w'=>e=.returned (.bool (S.cnd 3 s z k p v c))∧Adds w w':=by
 exact q1C10
theorem rholds_4 (s z k ac p v c:Bool) (w:World):Calls Tryz.prog 173 #[.int .i64 4,.agg #[.bool s,.bool z,.bool k,.bool ac,.bool p,.bool v,.bool c]] w fun e w'=>e=.returned (.bool (S.cnd 4 s z k p v c))∧Adds w w':=by
 exact q1C10
theorem rholds_5 (s z k ac p v c:Bool) (w:World):Calls Tryz.prog 173 #[.int .i64 5,.agg #[.bool s,.bool z,.bool k,.bool ac,.bool p,.bool v,.bool c]] w fun e w'=>e=.returned (.bool (S.cnd 5 s z k p v c))∧Adds w w':=by
 exact q1C10
theorem rholds_6 (s z k ac p v c:Bool) (w:World):Calls Tryz.prog 173 #[.int .i64 6,.agg #[.bool s,.bool z,.bool k,.bool ac,.bool p,.bool v,.bool c]] w fun e w'=>e=.returned (.bool (S.cnd 6 s z k p v c))∧Adds w w':=by
 exact q1C10
theorem rholds_7 (s z k ac p v c:Bool) (w:World):Calls Tryz.prog 173 #[.int .i64 7,.agg #[.bool s,.bool z,.bool k,.bool ac,.bool p,.bool v,.bool c]] w fun e w'=>e=.returned (.bool (S.cnd 7 s z k p v c))∧Adds w w':=by
 exact q1C10
theorem rholds_8 (s z k ac p v c:Bool) (w:World):Calls Tryz.prog 173 #[.int .i64 8,.agg #[.bool s,.bool z,.bool k,.bool ac,.bool p,.bool v,.bool c]] w fun e w'=>e=.returned (.bool (S.cnd 8 s z k p v c))∧Adds w w':=by
 exact q1C10
theorem rholds_9 (s z k ac p v c:Bool) (w:World):Calls Tryz.prog 173 #[.int .i64 9,.agg #[.bool s,.bool z,.bool k,.bool ac,.bool p,.bool v,.bool c]] w fun e w'=>e=.returned (.bool (S.cnd 9 s z k p v c))∧Adds w w':=by
 exact q1C10
theorem rholds_10 (s z k ac p v c:Bool) (w:World):Calls Tryz.prog 173 #[.int .i64 10,.agg #[.bool s,.bool z,.bool k,.bool ac,.bool p,.bool v,.bool c]] w fun e w'=>e=.returned (.bool (S.cnd 10 s z k p v c))∧Adds w w':=by
 exact q1C10
theorem rholds_11 (s z k ac p v c:Bool) (w:World):Calls Tryz.prog 173 #[.int .i64 11,.agg #[.bool s,.bool z,.bool k,.bool ac,.bool p,.bool v,.bool c]] w fun e w'=>e=.returned (.bool (S.cnd 11 s z k p v c))∧Adds w w':=by
 exact q1C10
theorem rholds_any {n:Int} {s z k ac p v c:Bool} {w:World}:Calls Tryz.prog 173 #[.int .i64 n,.agg #[.bool s,.bool z,.bool k,.bool ac,.bool p,.bool v,.bool c]] w fun e w'=>e=.returned (.bool (S.cnd n s z k p v c))∧Adds w w':=by
 by_cases h0:n=0
 ·subst h0;exact rholds_0 s z k ac p v c w
 by_cases h1:n=1
 ·subst h1;exact rholds_1 s z k ac p v c w
 by_cases h2:n=2
 ·subst h2;exact rholds_2 s z k ac p v c w
 by_cases h3:n=3
 ·subst h3;exact rholds_3 s z k ac p v c w
 by_cases h4:n=4
 ·subst h4;exact rholds_4 s z k ac p v c w
 by_cases h5:n=5
 ·subst h5;exact rholds_5 s z k ac p v c w
 by_cases h6:n=6
 ·subst h6;exact rholds_6 s z k ac p v c w
 by_cases h7:n=7
 ·subst h7;exact rholds_7 s z k ac p v c w
 by_cases h8:n=8
 ·subst h8;exact rholds_8 s z k ac p v c w
 by_cases h9:n=9
 ·subst h9;exact rholds_9 s z k ac p v c w
 by_cases h10:n=10
 ·subst h10;exact rholds_10 s z k ac p v c w
 by_cases h11:n=11
 ·subst h11;exact rholds_11 s z k ac p v c w
 ·rw [S.cnd_no n s z k p v c h0 h1 h2 h3 h4 h5 h6 h7 h8 h9 h10 h11]
  go_enter Tryz.func173,Tryz.ntmps173
  go_wp2_with fail
  go_ret
  exact ⟨rb (beq_false_of_ne h11),aD⟩
end K8
section
structure S.Ins where
 k:Int
 l:Int
 d:Int:=0
 s:Int:=0
 p:Int:=0
 o:Int:=0
 c:Int:=0
 n:Int:=0
instance:Inhabited S.Ins:=⟨⟨0,0,0,0,0,0,0,0⟩⟩
def S.Ins.cs (i:S.Ins):Array Value:=#[.int .i64 i.k,.int .i64 i.l,.int .i64 i.d,.int .i64 i.s,.int .i64 i.p,.int .i64 i.o,.int .i64 i.c,.int .i64 i.n]
structure S.Ins.Ok (i:S.Ins):Prop where
 k:0≤i.k∧i.k≤47
 l:1≤i.l∧i.l≤3
 d:0≤i.d∧i.d≤7
 s:0≤i.s∧i.s≤7
 p:0≤i.p∧i.p≤3
 o:0≤i.o∧i.o≤7
 c:0≤i.c∧i.c≤11
 n:0≤i.n∧i.n≤7
def S.spI (op:Int):S.Ins:=
 if op=8 then {k:=40,l:=1} else if op=16 then {k:=41,l:=1} else if op=24 then {k:=42,l:=1} else if op=32 then {k:=38,l:=1} else
 if op=40 then {k:=43,l:=2} else if op=48 then {k:=39,l:=1} else if op=56 then {k:=44,l:=2} else if op=203 then {k:=45,l:=1,c:=10} else
 if op=217 then {k:=46,l:=1} else if op=221 then {k:=24,l:=3,c:=8} else if op=237 then {k:=47,l:=1} else if op=253 then {k:=24,l:=3,c:=9} else {k:=0,l:=0}
def S.spB (op:Int):Bool:=decide (op=8∨op=16∨op=24∨op=32∨op=40∨op=48∨op=56∨op=203∨op=217∨op=221∨op=237∨op=253)
def S.of8 (y a b c d e f g h:Int):Int:=if y=0 then a else if y=1 then b else if y=2 then c else if y=3 then d else if y=4 then e else if y=5 then f else if y=6 then g else h
def S.low (y z:Int):S.Ins:=
 if z=0 then {k:=1,l:=1} else
 if z=1 then {k:=S.of8 y 4 18 4 18 4 18 4 18,l:=S.of8 y 3 1 3 1 3 1 3 1,p:=y / 2} else
 if z=2 then {k:=S.of8 y 10 9 10 9 8 7 6 5,l:=S.of8 y 1 1 1 1 3 3 3 3,p:=S.of8 y 0 0 1 1 0 0 0 0} else
 if z=3 then {k:=S.of8 y 16 17 16 17 16 17 16 17,l:=1,p:=y / 2} else
 if z=4 then {k:=14,l:=1,d:=y} else
 if z=5 then {k:=15,l:=1,d:=y} else
 if z=6 then {k:=3,l:=2,d:=y} else {k:=S.of8 y 23 23 23 23 19 20 21 22,l:=1,o:=S.of8 y 0 1 2 3 0 0 0 0}
def S.high (y z:Int):S.Ins:=
 if z=0 then {k:=26,l:=1,c:=y} else
 if z=1 then {k:=S.of8 y 31 26 31 26 31 28 31 29,l:=1,p:=S.of8 y 0 0 1 0 2 0 3 0,c:=S.of8 y 0 11 0 11 0 0 0 0} else
 if z=2 then {k:=24,l:=3,c:=y} else
 if z=3 then {k:=S.of8 y 24 24 34 33 32 11 36 35,l:=S.of8 y 3 3 2 2 1 1 1 1,c:=S.of8 y 11 11 0 0 0 0 0 0} else
 if z=4 then {k:=25,l:=3,c:=y} else
 if z=5 then {k:=S.of8 y 30 25 30 25 30 25 30 25,l:=S.of8 y 1 3 1 3 1 3 1 3,p:=S.of8 y 0 0 1 0 2 0 3 0,c:=S.of8 y 0 11 0 11 0 11 0 11} else
 if z=6 then {k:=13,l:=2,o:=y} else {k:=27,l:=1,n:=y}
def S.ins (ch op:Int):S.Ins:=
 if ch=2∧S.spB op=true then S.spI op else
 if op < 64 then S.low (op / 8 % 8) (op % 8) else if op=118 then {k:=37,l:=1} else
 if op < 128 then {k:=2,l:=1,d:=op / 8 % 8,s:=op % 8} else if op < 192 then {k:=12,l:=1,o:=op / 8 % 8,s:=op % 8} else S.high (op / 8 % 8) (op % 8)
theorem S.ins_sp (ch op:Int) (hc:(ch==2)=true) (hb:S.spB op=true):S.ins ch op=S.spI op:=by
 unfold S.ins;rw [if_pos ⟨by simpa using hc,hb⟩]
theorem S.ins_no (ch op:Int) (h:(S.spB op && ch==2)=false):¬(ch=2∧S.spB op=true):=by
 rintro ⟨h1,h2⟩
 simp [h1,h2] at h
theorem S.ins_low (ch op:Int) (h:(S.spB op && ch==2)=false) (h0:(op / 64==0)=true):S.ins ch op=S.low (op / 8 % 8) (op % 8):=by
 have g:op / 64=0:=by simpa using h0
 unfold S.ins;rw [if_neg (S.ins_no ch op h),if_pos (by omega)]
theorem S.ins_hlt (ch op:Int) (h:(S.spB op && ch==2)=false) (h2:(op==118)=true):S.ins ch op={k:=37,l:=1}:=by
 have g:op=118:=by simpa using h2
 unfold S.ins;rw [if_neg (S.ins_no ch op h),if_neg (by omega),if_pos g]
theorem S.ins_mov (ch op:Int) (h:(S.spB op && ch==2)=false) (h1:(op / 64==1)=true) (h2:(op==118)=false):S.ins ch op={k:=2,l:=1,d:=op / 8 % 8,s:=op % 8}:=by
 have g:op / 64=1:=by simpa using h1
 have g2:¬op=118:=by simpa using h2
 unfold S.ins;rw [if_neg (S.ins_no ch op h),if_neg (by omega),if_neg g2,if_pos (by omega)]
theorem S.ins_alu (ch op:Int) (h:(S.spB op && ch==2)=false) (h1:(op / 64==2)=true):S.ins ch op={k:=12,l:=1,o:=op / 8 % 8,s:=op % 8}:=by
 have g:op / 64=2:=by simpa using h1
 unfold S.ins;rw [if_neg (S.ins_no ch op h),if_neg (by omega),if_neg (by omega),if_neg (by omega),if_pos (by omega)]
theorem S.ins_high (ch op:Int) (o0:0≤op) (o1:op≤255) (h:(S.spB op && ch==2)=false) (h0:(op / 64==0)=false) (h1:(op / 64==1)=false) (h2:(op / 64==2)=false):S.ins ch op=S.high (op / 8 % 8) (op % 8):=by
 have g0:¬op / 64=0:=by simpa using h0
 have g1:¬op / 64=1:=by simpa using h1
 have g2:¬op / 64=2:=by simpa using h2
 unfold S.ins;rw [if_neg (S.ins_no ch op h),if_neg (by omega),if_neg (by omega),if_neg (by omega),if_neg (by omega)]
def S.sho (k d s:Int):Bool:=if (k==2)=true then (if (d !=6)=true then s !=6 else false) else if (k==14)=true then d !=6 else if (k==15)=true then d !=6 else false
def S.lon (k c:Int):Bool:=if (k==16)=true then true else if (k==17)=true then true else if (k==28)=true then true else if (k==29)=true then true else if (k==25)=true then true else if (k==27)=true then true else if (k==30)=true then true else if (k==45)=true then true else if (k==26)=true then c !=11 else false
def S.fst (on:Bool) (k d s c:Int):Int:=if on=true then (if S.lon k c=true then 6 else if (k==37)=true then 5 else 4) else if S.lon k c=true then 5 else if S.sho k d s=true then 5 else 4
def S.first (ch op:Int):Int:=S.fst (ch==2) (S.ins ch op).k (S.ins ch op).d (S.ins ch op).s (S.ins ch op).c
theorem S.first_in (ch op:Int):4≤S.first ch op∧S.first ch op≤6:=by
 unfold S.first S.fst
 repeat' split
 all_goals omega
end
namespace K8.S
open Go.Proofs.YteggjjhjmhccjaaGreat.S
variable {c:Int}
def has (b n:Int):Bool:=decide (b / 2 ^ n.toNat % 2=1)
def pl (f:Bool) (n:Int):Int:=if f then 2 ^ n.toNat else 0
def pk (s z ac p cy:Bool):Int:=128 * one s+64 * one z+16 * one ac+4 * one p+one cy
def pack (c:Int) (s z k ac p v cy:Bool):Int:=pk s z ac p cy+(if c=2 then 32 * one k+2 * one v else 2)
def uk (c b:Int):Bool:=decide (c=2) && has b 5
def uv (c b:Int):Bool:=decide (c=2) && has b 1
theorem uk85 (hc:c=2) (b:Int):uk c b=has b 5:=by simp [uk,hc]
theorem uv85 (hc:c=2) (b:Int):uv c b=has b 1:=by simp [uv,hc]
theorem uk80 (hc:¬c=2) (b:Int):uk c b=false:=by simp [uk,hc]
theorem uv80 (hc:¬c=2) (b:Int):uv c b=false:=by simp [uv,hc]
theorem pk_or:∀s z ac p cy:Bool,bits .or .u8 (bits .or .u8 (bits .or .u8 (bits .or .u8 (pl s 7) (pl z 6)) (pl ac 4)) (pl p 2)) (pl cy 0)=pk s z ac p cy:=by decide+kernel
theorem pack_or:∀s z k ac p v cy:Bool,bits .or .u8 (bits .or .u8 (pk s z ac p cy) (pl k 5)) (pl v 1)=pk s z ac p cy+(32 * one k+2 * one v):=by decide+kernel
theorem pack_or2:∀s z ac p cy:Bool,bits .or .u8 (pk s z ac p cy) 2=pk s z ac p cy+2:=by decide+kernel
theorem pack_85 (hc:c=2) (s z k ac p v cy:Bool):pack c s z k ac p v cy=pk s z ac p cy+(32 * one k+2 * one v):=by simp [pack,hc]
theorem pack_80 (hc:¬c=2) (s z k ac p v cy:Bool):pack c s z k ac p v cy=pk s z ac p cy+2:=by simp [pack,hc]
theorem pack_bd85:∀s z k ac p v cy:Bool,0≤pack 2 s z k ac p v cy∧pack 2 s z k ac p v cy < 256:=by decide+kernel
theorem pack_bd80:∀s z k ac p v cy:Bool,0≤pack 1 s z k ac p v cy∧pack 1 s z k ac p v cy < 256:=by decide+kernel
theorem pack_bd (c:Int) (s z k ac p v cy:Bool):0≤pack c s z k ac p v cy∧pack c s z k ac p v cy < 256:=by
 by_cases hc:c=2
 ·subst hc;exact pack_bd85 ..
 ·have:pack c s z k ac p v cy=pack 1 s z k ac p v cy:=by simp [pack,hc]
  rw [this];exact pack_bd80 ..
theorem mask_fin:∀n:Fin 256,(bits .and .u8 (n.val:Int) 128 !=0)=has (n.val:Int) 7∧(bits .and .u8 (n.val:Int) 64 !=0)=has (n.val:Int) 6∧(bits .and .u8 (n.val:Int) 32 !=0)=has (n.val:Int) 5∧(bits .and .u8 (n.val:Int) 16 !=0)=has (n.val:Int) 4∧(bits .and .u8 (n.val:Int) 4 !=0)=has (n.val:Int) 2∧(bits .and .u8 (n.val:Int) 2 !=0)=has (n.val:Int) 1∧(bits .and .u8 (n.val:Int) 1 !=0)=has (n.val:Int) 0:=by decide+kernel
theorem mask (a:Int) (a0:0≤a) (a1:a < 256):(bits .and .u8 a 128 !=0)=has a 7∧(bits .and .u8 a 64 !=0)=has a 6∧(bits .and .u8 a 32 !=0)=has a 5∧(bits .and .u8 a 16 !=0)=has a 4∧(bits .and .u8 a 4 !=0)=has a 2∧(bits .and .u8 a 2 !=0)=has a 1∧(bits .and .u8 a 1 !=0)=has a 0:=by
 have h:=mask_fin ⟨a.toNat,by omega⟩
 simpa [Int.toNat_of_nonneg a0] using h
theorem has7 (a:Int) (a0:0≤a) (a1:a < 256):has a 7=decide (128≤a):=by
 unfold has
 exact dec_iff (by simp;omega)
end K8.S
namespace K8
variable {c:Int} {w:World}
theorem rbit_any (f:Bool) (n:Int) (n0:0≤n) (n1:n < 8) (w:World):Calls Tryz.prog 181 #[.bool f,.int .i64 n] w fun e w'=>e=.returned (.int .u8 (S.pl f n))∧w=w':=by
 rcases (by omega:n=0∨n=1∨n=2∨n=3∨n=4∨n=5∨n=6∨n=7) with rfl|rfl|rfl|rfl|rfl|rfl|rfl|rfl
 all_goals
  cases f
  all_goals
   go_enter Tryz.func181,Tryz.ntmps181
   go_wp2
   go_ret
   exact ⟨rfl,rfl⟩
theorem ron_any:Calls Tryz.prog 107 #[.int .i64 c] w fun e w'=>e=.returned (.bool (decide (c=2)))∧w=w':=by
 go_enter Tryz.func107,Tryz.ntmps107
 go_wp2
 go_ret
 exact ⟨rfl,rfl⟩
theorem rpack_any {s z k ac p v cy:Bool}:Calls Tryz.prog 174 #[.int .i64 c,.agg #[.bool s,.bool z,.bool k,.bool ac,.bool p,.bool v,.bool cy]] w fun e w'=>e=.returned (.int .u8 (S.pack c s z k ac p v cy))∧Adds w w':=by
 have e5:=S.pk_or s z ac p cy
 by_cases hc:c=2
 ·have e7:=S.pack_or s z k ac p v cy
  have ep':=S.pack_85 hc s z k ac p v cy
  subst hc
  have ep:Hid _:=ep'
  clear ep'
  go_enter Tryz.func174,Tryz.ntmps174
  go_wp2_with fail
  refine qt ?_
  repeat (go_big_quiet_step (first|(go_at_call 181;exact calls_same (rbit_any _ _ (by decide) (by decide) _))))
  refine qn fun nq osq=> ?_
  go_wp2_with (first|(go_at_call 107;refine sm (ron_any) ?_))
  refine qt ?_
  repeat (go_big_quiet_step (first|(go_at_call 181;exact calls_same (rbit_any _ _ (by decide) (by decide) _))))
  refine qn fun nq osq=> ?_
  go_wp2_with fail
  go_ret
  exact ⟨ri ep.out.symm,aD⟩
 ·have e7:=S.pack_or2 s z ac p cy
  have ep':=S.pack_80 hc s z k ac p v cy
  have ep:Hid _:=ep'
  clear ep'
  go_enter Tryz.func174,Tryz.ntmps174
  go_wp2_with fail
  refine qt ?_
  repeat (go_big_quiet_step (first|(go_at_call 181;exact calls_same (rbit_any _ _ (by decide) (by decide) _))))
  refine qn fun nq osq=> ?_
  go_wp2_with (first|(go_at_call 107;refine sm (ron_any) ?_))
  go_ret
  exact ⟨ri ep.out.symm,aD⟩
theorem runpack_any {b:Int} (b0:0≤b) (b1:b < 256):Calls Tryz.prog 175 #[.int .i64 c,.int .u8 b] w fun e w'=>e=.returned (.agg #[.bool (S.has b 7),.bool (S.has b 6),.bool (S.uk c b),.bool (S.has b 4),.bool (S.has b 2),.bool (S.uv c b),.bool (S.has b 0)])∧Adds w w':=by
 have hm:=S.mask b b0 b1
 obtain ⟨m7,m6,m5,m4,m2,m1,m0⟩:=hm
 by_cases hc:c=2
 ·have u1:=S.uk85 hc b
  have u2:=S.uv85 hc b
  subst hc
  go_enter Tryz.func175,Tryz.ntmps175
  go_wp2_with (first|(go_at_call 107;refine sm (ron_any) ?_))
  exact bodyPost_ret (by simp [results,Tryz.results175,go_sem];try simp [u1,u2]) rfl ⟨rfl,aD⟩
 ·have u1:=S.uk80 hc b
  have u2:=S.uv80 hc b
  go_enter Tryz.func175,Tryz.ntmps175
  go_wp2_with (first|(go_at_call 107;refine sm (ron_any) ?_))
  exact bodyPost_ret (by simp [results,Tryz.results175,go_sem];try simp [u1,u2]) rfl ⟨rfl,aD⟩
theorem rof_any {r:Int} (r0:0≤r) (r1:r < 256):Calls Tryz.prog 178 #[.int .u8 r] w fun e w'=>e=.returned (.agg #[.bool (S.has r 7),.bool (r==0),.bool false,.bool false,.bool (S.par r),.bool false,.bool false])∧Adds w w':=by
 have h7:=S.has7 r r0 r1
 go_enter Tryz.func178,Tryz.ntmps178
 go_wp2_with (first|(go_at_call 182;refine sm (rparity_any r0 r1) ?_))
 exact bodyPost_ret (by simp [results,Tryz.results178,go_sem];try simp [h7]) rfl ⟨rfl,aD⟩
@[go_sem] theorem eq_Flags (a0 a1 a2 a3 a4 a5 a6 b0 b1 b2 b3 b4 b5 b6:Bool) (w:World):(Op.equalIn 10000 33 (.agg #[.bool a0,.bool a1,.bool a2,.bool a3,.bool a4,.bool a5,.bool a6]) (.agg #[.bool b0,.bool b1,.bool b2,.bool b3,.bool b4,.bool b5,.bool b6])).run Tryz.prog w=
 .ok (same [.bool a0,.bool a1,.bool a2,.bool a3,.bool a4,.bool a5,.bool a6] [.bool b0,.bool b1,.bool b2,.bool b3,.bool b4,.bool b5,.bool b6]) w:=
 eq_agg 4 [.bool,.bool,.bool,.bool,.bool,.bool,.bool] Tryz.underlying33 (by kernel_rfl) (by decide) w trivial trivial
end K8
namespace K8.S
open Go.Proofs.YteggjjhjmhccjaaGreat.S
def aR (op a b:Int) (cy:Bool):Int:=
 if op % 8=0 then sumR a b false else if op % 8=1 then sumR a b cy else if op % 8=2 then difR a b false else if op % 8=3 then difR a b cy
 else if op % 8=4 then bits .and .u8 a b else if op % 8=5 then bits .xor .u8 a b else if op % 8=6 then bits .or .u8 a b else difR a b false
def aO (op a b:Int) (cy:Bool):Bool:=
 if op % 8=0 then sumO a b false else if op % 8=1 then sumO a b cy else if op % 8=2 then difO a b false else if op % 8=3 then difO a b cy
 else if op % 8=4 then false else if op % 8=5 then false else if op % 8=6 then false else difO a b false
def aH (c op a b:Int) (cy:Bool):Bool:=
 if op % 8=0 then sumH a b false else if op % 8=1 then sumH a b cy else if op % 8=2 then difH a b false else if op % 8=3 then difH a b cy
 else if op % 8=4 then (decide (c=2)||(bits .and .u8 (bits .or .u8 a b) 8 !=0)) else if op % 8=5 then false else if op % 8=6 then false else difH a b false
def aW (op a b:Int) (cy:Bool):Bool:=
 if op % 8=0 then sumV a b false else if op % 8=1 then sumV a b cy else if op % 8=2 then difV a b false else if op % 8=3 then difV a b cy
 else if op % 8=4 then false else if op % 8=5 then false else if op % 8=6 then false else difV a b false
def sub (op:Int):Bool:=decide (op % 8=2)||decide (op % 8=3)||decide (op % 8=7)
def big (a:Int):Bool:=decide (128≤a)
def aV (c op a b:Int) (cy:Bool):Bool:=decide (c=2) && aW op a b cy
def aK (c op a b:Int) (cy:Bool):Bool:=decide (c=2) && maj (big a) (big b !=sub op) (big (aR op a b cy))
def aX (op a b:Int) (cy:Bool):Int:=if op % 8=7 then a else aR op a b cy
theorem and7 (n:Int):bits .and .i64 n 7=n % 8:=by
 have h7:(BitVec.ofInt 64 7).toNat=2 ^ 3 - 1:=by decide
 have key:(BitVec.ofInt 64 n &&& BitVec.ofInt 64 7).toNat=(n % ((2 ^ 64:Nat):Int)).toNat % 2 ^ 3:=by
  rw [BitVec.toNat_and,BitVec.toNat_ofInt,h7,Nat.and_two_pow_sub_one_eq_mod]
 show IntKind.i64.wrap ((BitVec.ofInt 64 n &&& BitVec.ofInt 64 7).toNat:Nat)=n % 8
 rw [key,IntKind.wrap_i64]
 omega
theorem u8_bd {n:Int}:0≤IntKind.u8.wrap n∧IntKind.u8.wrap n < 256:=by simp [IntKind.wrap,IntKind.bits,IntKind.signed];omega
theorem and_bd (a b:Int):0≤bits .and .u8 a b∧bits .and .u8 a b < 256:=u8_bd
theorem or_bd (a b:Int):0≤bits .or .u8 a b∧bits .or .u8 a b < 256:=u8_bd
theorem xor_bd (a b:Int):0≤bits .xor .u8 a b∧bits .xor .u8 a b < 256:=u8_bd
section
variable {op:Int}
theorem al0 (h:op % 8=0) (c a b:Int) (cy:Bool):aR op a b cy=sumR a b false∧aO op a b cy=sumO a b false∧aH c op a b cy=sumH a b false∧aW op a b cy=sumV a b false∧sub op=false∧aX op a b cy=sumR a b false:=by simp [aR,aO,aH,aW,sub,aX,h]
theorem al1 (h:op % 8=1) (c a b:Int) (cy:Bool):aR op a b cy=sumR a b cy∧aO op a b cy=sumO a b cy∧aH c op a b cy=sumH a b cy∧aW op a b cy=sumV a b cy∧sub op=false∧aX op a b cy=sumR a b cy:=by simp [aR,aO,aH,aW,sub,aX,h]
theorem al2 (h:op % 8=2) (c a b:Int) (cy:Bool):aR op a b cy=difR a b false∧aO op a b cy=difO a b false∧aH c op a b cy=difH a b false∧aW op a b cy=difV a b false∧sub op=true∧aX op a b cy=difR a b false:=by simp [aR,aO,aH,aW,sub,aX,h]
theorem al3 (h:op % 8=3) (c a b:Int) (cy:Bool):aR op a b cy=difR a b cy∧aO op a b cy=difO a b cy∧aH c op a b cy=difH a b cy∧aW op a b cy=difV a b cy∧sub op=true∧aX op a b cy=difR a b cy:=by simp [aR,aO,aH,aW,sub,aX,h]
theorem al4 (h:op % 8=4) (c a b:Int) (cy:Bool):aR op a b cy=bits .and .u8 a b∧aO op a b cy=false∧aH c op a b cy=(decide (c=2)||(bits .and .u8 (bits .or .u8 a b) 8 !=0))∧aW op a b cy=false∧sub op=false∧aX op a b cy=bits .and .u8 a b:=by simp [aR,aO,aH,aW,sub,aX,h]
theorem al5 (h:op % 8=5) (c a b:Int) (cy:Bool):aR op a b cy=bits .xor .u8 a b∧aO op a b cy=false∧aH c op a b cy=false∧aW op a b cy=false∧sub op=false∧aX op a b cy=bits .xor .u8 a b:=by simp [aR,aO,aH,aW,sub,aX,h]
theorem al6 (h:op % 8=6) (c a b:Int) (cy:Bool):aR op a b cy=bits .or .u8 a b∧aO op a b cy=false∧aH c op a b cy=false∧aW op a b cy=false∧sub op=false∧aX op a b cy=bits .or .u8 a b:=by simp [aR,aO,aH,aW,sub,aX,h]
theorem al7 (h:op % 8=7) (c a b:Int) (cy:Bool):aR op a b cy=difR a b false∧aO op a b cy=difO a b false∧aH c op a b cy=difH a b false∧aW op a b cy=difV a b false∧sub op=true∧aX op a b cy=a:=by simp [aR,aO,aH,aW,sub,aX,h]
end
theorem aR_bd {op a b:Int} {cy:Bool}:0≤aR op a b cy∧aR op a b cy < 256:=by
 rcases (by omega:op % 8=0∨op % 8=1∨op % 8=2∨op % 8=3∨op % 8=4∨op % 8=5∨op % 8=6∨op % 8=7) with h|h|h|h|h|h|h|h
 ·rw [(al0 h 0 a b cy).1];exact sumR_bd ..
 ·rw [(al1 h 0 a b cy).1];exact sumR_bd ..
 ·rw [(al2 h 0 a b cy).1];exact difR_bd ..
 ·rw [(al3 h 0 a b cy).1];exact difR_bd ..
 ·rw [(al4 h 0 a b cy).1];exact and_bd ..
 ·rw [(al5 h 0 a b cy).1];exact xor_bd ..
 ·rw [(al6 h 0 a b cy).1];exact or_bd ..
 ·rw [(al7 h 0 a b cy).1];exact difR_bd ..
theorem aK85 (op a b:Int) (cy:Bool):aK 2 op a b cy=maj (big a) (big b !=sub op) (big (aR op a b cy)):=by simp [aK]
theorem aK80 {c:Int} (hc:¬c=2) (op a b:Int) (cy:Bool):aK c op a b cy=false:=by simp [aK,hc]
theorem aV85 (op a b:Int) (cy:Bool):aV 2 op a b cy=aW op a b cy:=by simp [aV]
theorem aV80 {c:Int} (hc:¬c=2) (op a b:Int) (cy:Bool):aV c op a b cy=false:=by simp [aV,hc]
end K8.S
namespace K8
variable {ac cy k p s v x y z:Bool} {w:World}
theorem ronly85:Calls Tryz.prog 179 #[.int .i64 2,.agg #[.bool s,.bool z,.bool k,.bool ac,.bool p,.bool v,.bool cy],.bool x,.bool y] w fun e w'=>e=.returned (.agg #[.bool s,.bool z,.bool x,.bool ac,.bool p,.bool y,.bool cy])∧Adds w w':=by
 go_enter Tryz.func179,Tryz.ntmps179
 go_wp2_with (first|(go_at_call 107;refine sm (ron_any) ?_))
 exact bodyPost_ret (by simp [results,Tryz.results179,go_sem]) rfl ⟨rfl,aD⟩
theorem ronly80 {c:Int} (hc:¬c=2):Calls Tryz.prog 179 #[.int .i64 c,.agg #[.bool s,.bool z,.bool k,.bool ac,.bool p,.bool v,.bool cy],.bool x,.bool y] w fun e w'=>e=.returned (.agg #[.bool s,.bool z,.bool false,.bool ac,.bool p,.bool false,.bool cy])∧Adds w w':=by
 go_enter Tryz.func179,Tryz.ntmps179
 go_wp2_with (first|(go_at_call 107;refine sm (ron_any) ?_))
 exact bodyPost_ret (by simp [results,Tryz.results179,go_sem]) rfl ⟨rfl,aD⟩
end K8
namespace K8.S
open Go.Proofs.YteggjjhjmhccjaaGreat.S
variable {c v:Int}
def nK (c v:Int) (d:Bool) (r:Int):Bool:=decide (c=2) && maj (big v) d (big r)
def nV (c:Int) (o:Bool):Bool:=decide (c=2) && o
theorem nK85 (v:Int) (d:Bool) (r:Int):nK 2 v d r=maj (big v) d (big r):=by simp [nK]
theorem nK80 (hc:¬c=2) (v:Int) (d:Bool) (r:Int):nK c v d r=false:=by simp [nK,hc]
theorem nV85 (o:Bool):nV 2 o=o:=by simp [nV]
theorem nV80 (hc:¬c=2) (o:Bool):nV c o=false:=by simp [nV,hc]
def inc (v:Int):Int:=(v+1) % 65536
def dec (v:Int):Int:=(v - 1) % 65536
def wK (c:Int) (x k:Bool):Bool:=if c=2 then x else k
theorem wK85 (x k:Bool):wK 2 x k=x:=by simp [wK]
theorem wK80 (hc:¬c=2) (x k:Bool):wK c x k=k:=by simp [wK,hc]
theorem u16_wrap {n:Int}:IntKind.u16.wrap n=n % 65536:=by simp [IntKind.wrap,IntKind.bits,IntKind.signed]
theorem inc_wrap (v:Int):IntKind.u16.wrap (v+1)=inc v:=u16_wrap
theorem dec_wrap (v:Int):IntKind.u16.wrap (v - 1)=dec v:=u16_wrap
theorem inc_bd:0≤inc v∧inc v < 65536:=by unfold inc;omega
theorem dec_bd:0≤dec v∧dec v < 65536:=by unfold dec;omega
end K8.S
namespace K8.S
open Go.Proofs.YteggjjhjmhccjaaGreat.S
variable {a op:Int} {c:Bool}
def b7 (a:Int):Bool:=decide (128≤a)
def b0 (a:Int):Bool:=decide (a % 2=1)
def b15 (v:Int):Bool:=decide (32768≤v)
def up (a:Int) (c:Bool):Int:=(2 * a+one c) % 256
def dn (a:Int) (c:Bool):Int:=(a / 2+128 * one c) % 256
def rotR (op a:Int) (c:Bool):Int:=if op % 4=0 then up a (b7 a) else if op % 4=1 then dn a (b0 a) else if op % 4=2 then up a c else dn a c
def rotO (op a:Int):Bool:=if op % 4=0 then b7 a else if op % 4=1 then b0 a else if op % 4=2 then b7 a else b0 a
theorem ro0 (h:op % 4=0) (a:Int) (c:Bool):rotR op a c=up a (b7 a)∧rotO op a=b7 a:=by simp [rotR,rotO,h]
theorem ro1 (h:op % 4=1) (a:Int) (c:Bool):rotR op a c=dn a (b0 a)∧rotO op a=b0 a:=by simp [rotR,rotO,h]
theorem ro2 (h:op % 4=2) (a:Int) (c:Bool):rotR op a c=up a c∧rotO op a=b7 a:=by simp [rotR,rotO,h]
theorem ro3 (h:op % 4=3) (a:Int) (c:Bool):rotR op a c=dn a c∧rotO op a=b0 a:=by simp [rotR,rotO,h]
def arR (v:Int):Int:=v / 2+32768 * one (b15 v)
def rdR (v:Int) (c:Bool):Int:=(2 * v+one c) % 65536
def rdV (v:Int):Bool:=b15 (rdR v false) !=b15 v
theorem and3 (n:Int):bits .and .i64 n 3=n % 4:=by
 have h3:(BitVec.ofInt 64 3).toNat=2 ^ 2 - 1:=by decide
 have key:(BitVec.ofInt 64 n &&& BitVec.ofInt 64 3).toNat=(n % ((2 ^ 64:Nat):Int)).toNat % 2 ^ 2:=by
  rw [BitVec.toNat_and,BitVec.toNat_ofInt,h3,Nat.and_two_pow_sub_one_eq_mod]
 show IntKind.i64.wrap ((BitVec.ofInt 64 n &&& BitVec.ofInt 64 3).toNat:Nat)=n % 4
 rw [key,IntKind.wrap_i64]
 omega
theorem up_bd:0≤up a c∧up a c < 256:=by unfold up;omega
theorem dn_bd:0≤dn a c∧dn a c < 256:=by unfold dn;omega
theorem rdR_bd (v:Int) (c:Bool):0≤rdR v c∧rdR v c < 65536:=by unfold rdR;omega
theorem arR_bd {v:Int} (v0:0≤v) (v1:v < 65536):0≤arR v∧arR v < 65536:=by
 unfold arR b15 one;split<;>(rename_i h;simp at h;omega)
theorem rotR_bd:0≤rotR op a c∧rotR op a c < 256:=by
 unfold rotR;(repeat' split)<;>first|exact up_bd|exact dn_bd
theorem bit7_fin:∀n:Fin 256,(bits .and .u8 (n.val:Int) 128 !=0)=b7 n.val∧(bits .and .u8 (n.val:Int) 1 !=0)=b0 n.val∧(bits .and .u8 (n.val:Int) 1==1)=b0 n.val:=by decide+kernel
theorem bit7_eq (a:Int) (a0:0≤a) (a1:a < 256):(bits .and .u8 a 128 !=0)=b7 a∧(bits .and .u8 a 1 !=0)=b0 a∧(bits .and .u8 a 1==1)=b0 a:=by
 have h:=bit7_fin ⟨a.toNat,by omega⟩
 simpa [Int.toNat_of_nonneg a0] using h
theorem ups_fin:∀n:Fin 256,bits .or .u8 (((n.val:Int) * 2 % 256)) 1=up n.val true∧bits .or .u8 ((n.val:Int) / 2) 128=dn n.val true∧
 (n.val:Int) * 2 % 256=up n.val false∧(n.val:Int) / 2=dn n.val false∧
 bits .or .u8 (((n.val:Int) * 2 % 256)) ((n.val:Int) / 128)=up n.val (b7 n.val)∧bits .or .u8 ((n.val:Int) / 2) (((n.val:Int) * 128 % 256))=dn n.val (b0 n.val)∧
 ∀c:Bool,bits .or .u8 (((n.val:Int) * 2 % 256)) (pl c 0)=up n.val c∧bits .or .u8 ((n.val:Int) / 2) (pl c 7)=dn n.val c:=by decide+kernel
theorem ups (a:Int) (a0:0≤a) (a1:a < 256):bits .or .u8 (a * 2 % 256) 1=up a true∧bits .or .u8 (a / 2) 128=dn a true∧
 a * 2 % 256=up a false∧a / 2=dn a false∧
 bits .or .u8 (a * 2 % 256) (a / 128)=up a (b7 a)∧bits .or .u8 (a / 2) (a * 128 % 256)=dn a (b0 a)∧
 ∀c:Bool,bits .or .u8 (a * 2 % 256) (pl c 0)=up a c∧bits .or .u8 (a / 2) (pl c 7)=dn a c:=by
 have h:=ups_fin ⟨a.toNat,by omega⟩
 simp only [Int.toNat_of_nonneg a0] at h
 exact h
theorem w_hi (v:Int) (v0:0≤v) (v1:v < 65536):bits .and .u16 v 32768=32768 * one (b15 v):=by
 rw [u16_and v 32768 v0 v1 (by decide) (by decide)]
 have e:v.toNat &&& (32768:Int).toNat=v.toNat / 2 ^ 15 % 2 * 2 ^ 15:=nat_bit 15 v.toNat
 rw [e];unfold b15 one
 split<;>(rename_i h;simp at h;omega)
theorem w_low (v:Int) (v0:0≤v) (v1:v < 65536):(bits .and .u16 v 1 !=0)=b0 v∧(bits .and .u16 v 1==1)=b0 v:=by
 rw [u16_and v 1 v0 v1 (by decide) (by decide)]
 have e:v.toNat &&& (1:Int).toNat=v.toNat % 2:=nat_mask1 v.toNat
 rw [e];unfold b0
 rcases (by omega:v % 2=0∨v % 2=1) with h|h
 ·rw [(by omega:((v.toNat % 2:Nat):Int)=0),h];decide
 ·rw [(by omega:((v.toNat % 2:Nat):Int)=1),h];decide
theorem w_ar (v:Int) (v0:0≤v) (v1:v < 65536):bits .or .u16 (v / 2) (bits .and .u16 v 32768)=arR v:=by
 rw [w_hi v v0 v1];unfold arR
 have hb:=one_bd (b15 v)
 rw [u16_or _ _ (by omega) (by omega) (by omega) (by omega)]
 cases h:b15 v
 ·simp [one];omega
 ·have e:(32768 * one true:Int).toNat=2 ^ 15 * 1:=by decide
  rw [e,Nat.or_comm,←Nat.two_pow_add_eq_or_of_lt (by omega)]
  have e2:one true=1:=rfl
  rw [e2];omega
theorem w_up (v:Int) (v0:0≤v) (v1:v < 65536) (c:Bool):bits .or .u16 (IntKind.u16.wrap (v * 2)) (one c)=rdR v c:=by
 have hw:IntKind.u16.wrap (v * 2)=(v * 2) % 65536:=by simp [IntKind.wrap,IntKind.bits,IntKind.signed]
 rw [hw]
 rw [u16_or _ _ (by omega) (by omega) (one_bd c).1 (by have:=one_bd c;omega)]
 have e:((v * 2) % 65536).toNat=2 ^ 1 * (v % 32768).toNat:=by omega
 rw [e,←Nat.two_pow_add_eq_or_of_lt (by have:=one_bd c;omega)]
 unfold rdR
 have:=one_bd c
 omega
theorem b15_rd (v:Int) (c:Bool):b15 (rdR v c)=b15 (rdR v false):=by
 unfold b15 rdR;cases c<;>simp [one];omega
theorem w_rdr (v:Int) (c:Bool) (v0:0≤v) (v1:v < 65536):(bits .and .u16 (rdR v c) 32768 !=bits .and .u16 v 32768)=rdV v:=by
 rw [w_hi v v0 v1,w_hi _ (rdR_bd v c).1 (rdR_bd v c).2,b15_rd]
 unfold rdV
 cases b15 (rdR v false)<;>cases b15 v<;>rfl
def rlcI (a:Int):Nat→Int
 |0=>a
 |k+1=>up (rlcI a k) (b7 (rlcI a k))
def rlcO (a:Int) (c:Bool):Nat→Bool
 |0=>c
 |k+1=>b7 (rlcI a k)
mutual
def ralI (a:Int) (c:Bool):Nat→Int
 |0=>a
 |k+1=>up (ralI a c k) (ralO a c k)
def ralO (a:Int) (c:Bool):Nat→Bool
 |0=>c
 |k+1=>b7 (ralI a c k)
end
def rd17 (n:Int) (k:Nat):Int:=n % 2 ^ (17 - k) * 2 ^ k+n / 2 ^ (17 - k)
def rdI (v:Int) (c:Bool) (k:Nat):Int:=rd17 (v+65536 * one c) k % 65536
def rdO (v:Int) (c:Bool) (k:Nat):Bool:=decide (65536≤rd17 (v+65536 * one c) k)
def sg16 (v:Int):Int:=if v < 32768 then v else v - 65536
theorem sg16_wrap (v:Int) (h0:0≤v) (h1:v < 65536):wrap64 (IntKind.i16.wrap v)=sg16 v:=by
 unfold sg16
 split<;>simp [wrap64,IntKind.wrap,IntKind.bits,IntKind.signed]<;>omega
theorem sg16_bd (v:Int) (h0:0≤v) (h1:v < 65536): -32768≤sg16 v∧sg16 v < 32768:=by unfold sg16;split<;>omega
end K8.S
namespace K8
variable {a b:Int} {c d:Bool}
@[go_sem] theorem store_fn (P:Program) (w:World) (a:Addr) (f:Fn) (x y:Array Value) (m:Mode):Sem.run P (store a (.func f x y) m) w=stored P w a (.func f x y) m:=run_store P w a _ m rfl
theorem rt2 {k:IntKind} (h:a=b) (g:c=d):Ending.returned (.tuple #[.int k a,.bool c])=.returned (.tuple #[.int k b,.bool d]):=by rw [h,g]
theorem rt3 {k:IntKind} {e f:Bool} (h:a=b) (g:c=d) (i:e=f):Ending.returned (.tuple #[.int k a,.bool c,.bool e])=.returned (.tuple #[.int k b,.bool d,.bool f]):=by rw [h,g,i]
theorem rbyte_0 (op a:Int) (c:Bool) (h4:op % 4=0) (a0:0≤a) (a1:a < 256) (w:World):Calls Tryz.prog 164 #[.int .i64 op,.int .u8 a,.bool c] w fun e w'=>e=.returned (.tuple #[.int .u8 (S.rotR op a c),.bool (S.rotO op a)])∧w=w':=by
 have h3:=S.and3 op
 rw [h4] at h3
 obtain ⟨e1,e2⟩:=S.ro0 h4 a c
 rw [e1,e2]
 clear e1 e2 h4
 obtain ⟨g1,g2,g3',g4,g5,g6,g7⟩:=S.ups a a0 a1
 have g3:Hid _:=(S.bit7_eq a a0 a1).2.2
 have h5:Hid _:=g5
 have h6:Hid _:=g6
 have h7:Hid _:=(g7 c).1
 have h8:Hid _:=(g7 c).2
 clear g1 g2 g3' g4 g5 g6 g7
 go_enter Tryz.func164,Tryz.ntmps164
 go_wp2_with (first|(go_at_call 181;refine sm (rbit_any _ _ (by decide) (by decide) _) ?_))
 have f5:=h5.out
 have f6:=h6.out
 have f7:=h7.out
 have f8:=h8.out
 exact bodyPost_ret (v:=.tuple #[.int .u8 (bits .or .u8 (a * 2 % 256) (a / 128)),.bool (decide (128≤a))]) (by simp [results,Tryz.results164,go_sem]) rfl ⟨rt2 f5 rfl,rfl⟩
theorem rbyte_1 (op a:Int) (c:Bool) (h4:op % 4=1) (a0:0≤a) (a1:a < 256) (w:World):Calls Tryz.prog 164 #[.int .i64 op,.int .u8 a,.bool c] w fun e w'=>e=.returned (.tuple #[.int .u8 (S.rotR op a c),.bool (S.rotO op a)])∧w=w':=by
 have h3:=S.and3 op
 rw [h4] at h3
 obtain ⟨e1,e2⟩:=S.ro1 h4 a c
 rw [e1,e2]
 clear e1 e2 h4
 obtain ⟨g1,g2,g3',g4,g5,g6,g7⟩:=S.ups a a0 a1
 have g3:Hid _:=(S.bit7_eq a a0 a1).2.2
 have h5:Hid _:=g5
 have h6:Hid _:=g6
 have h7:Hid _:=(g7 c).1
 have h8:Hid _:=(g7 c).2
 clear g1 g2 g3' g4 g5 g6 g7
 go_enter Tryz.func164,Tryz.ntmps164
 go_wp2_with (first|(go_at_call 181;refine sm (rbit_any _ _ (by decide) (by decide) _) ?_))
 have f5:=h5.out
 have f6:=h6.out
 have f7:=h7.out
 have f8:=h8.out
 exact bodyPost_ret (v:=.tuple #[.int .u8 (bits .or .u8 (a / 2) (a * 128 % 256)),.bool (bits .and .u8 a 1==1)]) (by simp [results,Tryz.results164,go_sem]) rfl ⟨rt2 f6 g3.out,rfl⟩
theorem rbyte_2 (op a:Int) (c:Bool) (h4:op % 4=2) (a0:0≤a) (a1:a < 256) (w:World):Calls Tryz.prog 164 #[.int .i64 op,.int .u8 a,.bool c] w fun e w'=>e=.returned (.tuple #[.int .u8 (S.rotR op a c),.bool (S.rotO op a)])∧w=w':=by
 have h3:=S.and3 op
 rw [h4] at h3
 obtain ⟨e1,e2⟩:=S.ro2 h4 a c
 rw [e1,e2]
 clear e1 e2 h4
 obtain ⟨g1,g2,g3',g4,g5,g6,g7⟩:=S.ups a a0 a1
 have g3:Hid _:=(S.bit7_eq a a0 a1).2.2
 have h5:Hid _:=g5
 have h6:Hid _:=g6
 have h7:Hid _:=(g7 c).1
 have h8:Hid _:=(g7 c).2
 clear g1 g2 g3' g4 g5 g6 g7
 go_enter Tryz.func164,Tryz.ntmps164
 go_wp2_with (first|(go_at_call 181;refine sm (rbit_any _ _ (by decide) (by decide) _) ?_))
 have f5:=h5.out
 have f6:=h6.out
 have f7:=h7.out
 have f8:=h8.out
 exact bodyPost_ret (v:=.tuple #[.int .u8 (bits .or .u8 (a * 2 % 256) (S.pl c 0)),.bool (decide (128≤a))]) (by simp [results,Tryz.results164,go_sem]) rfl ⟨rt2 f7 rfl,rfl⟩
theorem rbyte_3 (op a:Int) (c:Bool) (h4:op % 4=3) (a0:0≤a) (a1:a < 256) (w:World):Calls Tryz.prog 164 #[.int .i64 op,.int .u8 a,.bool c] w fun e w'=>e=.returned (.tuple #[.int .u8 (S.rotR op a c),.bool (S.rotO op a)])∧w=w':=by
 have h3:=S.and3 op
 rw [h4] at h3
 obtain ⟨e1,e2⟩:=S.ro3 h4 a c
 rw [e1,e2]
 clear e1 e2 h4
 obtain ⟨g1,g2,g3',g4,g5,g6,g7⟩:=S.ups a a0 a1
 have g3:Hid _:=(S.bit7_eq a a0 a1).2.2
 have h5:Hid _:=g5
 have h6:Hid _:=g6
 have h7:Hid _:=(g7 c).1
 have h8:Hid _:=(g7 c).2
 clear g1 g2 g3' g4 g5 g6 g7
 go_enter Tryz.func164,Tryz.ntmps164
 go_wp2_with (first|(go_at_call 181;refine sm (rbit_any _ _ (by decide) (by decide) _) ?_))
 have f5:=h5.out
 have f6:=h6.out
 have f7:=h7.out
 have f8:=h8.out
 exact bodyPost_ret (v:=.tuple #[.int .u8 (bits .or .u8 (a / 2) (S.pl c 7)),.bool (bits .and .u8 a 1==1)]) (by simp [results,Tryz.results164,go_sem]) rfl ⟨rt2 f8 g3.out,rfl⟩
theorem rbyte_any (op a:Int) (c:Bool) (a0:0≤a) (a1:a < 256) (w:World):Calls Tryz.prog 164 #[.int .i64 op,.int .u8 a,.bool c] w fun e w'=>e=.returned (.tuple #[.int .u8 (S.rotR op a c),.bool (S.rotO op a)])∧w=w':=by
 rcases (by omega:op % 4=0∨op % 4=1∨op % 4=2∨op % 4=3) with h|h|h|h
 ·exact rbyte_0 op a c h a0 a1 w
 ·exact rbyte_1 op a c h a0 a1 w
 ·exact rbyte_2 op a c h a0 a1 w
 ·exact rbyte_3 op a c h a0 a1 w
theorem rarhl_any (v:Int) (v0:0≤v) (v1:v < 65536) (w:World):Calls Tryz.prog 166 #[.int .u16 v] w fun e w'=>e=.returned (.tuple #[.int .u16 (S.arR v),.bool (S.b0 v)])∧w=w':=by
 have e1:Hid _:=S.w_ar v v0 v1
 have e2:Hid _:=(S.w_low v v0 v1).2
 go_enter Tryz.func166,Tryz.ntmps166
 go_wp2
 exact bodyPost_ret (v:=.tuple #[.int .u16 (bits .or .u16 (v / 2) (bits .and .u16 v 32768)),.bool (bits .and .u16 v 1==1)]) (by simp [results,Tryz.results166,go_sem]) rfl ⟨rt2 e1.out e2.out,rfl⟩
theorem rrdel_any (v:Int) (c:Bool) (v0:0≤v) (v1:v < 65536) (w:World):Calls Tryz.prog 167 #[.int .u16 v,.bool c] w fun e w'=>e=.returned (.tuple #[.int .u16 (S.rdR v c),.bool (S.b15 v),.bool (S.rdV v)])∧w=w':=by
 have hp:S.pl c 0=S.one c:=by cases c<;>rfl
 have e1:=S.w_up v v0 v1 c
 have e3:Hid _:=S.w_rdr v c v0 v1
 have hc:=S.one_bd c
 go_enter Tryz.func167,Tryz.ntmps167
 go_wp2_with (first|(go_at_call 181;refine sm (rbit_any _ _ (by decide) (by decide) _) ?_))
 exact bodyPost_ret (v:=.tuple #[.int .u16 (S.rdR v c),.bool (decide (32768≤v)),.bool (bits .and .u16 (S.rdR v c) 32768 !=bits .and .u16 v 32768)]) (by simp [results,Tryz.results167,go_sem]) rfl ⟨rt3 rfl rfl e3.out,rfl⟩
end K8
namespace K8.S
open Go.Proofs.YteggjjhjmhccjaaGreat.S
variable {a:Int}
def ovf16 (s:Int):Bool:=decide (s < -32768)||decide (32767 < s)
def wsR (a b:Int):Int:=(a+b) % 65536
def wsO (a b:Int):Bool:=decide (65535 < a+b)
def wsV (c a b:Int) (v:Bool):Bool:=if c=2 then ovf16 (sg16 a+sg16 b) else v
theorem wsV85 (a b:Int) (v:Bool):wsV 2 a b v=ovf16 (sg16 a+sg16 b):=by simp [wsV]
theorem wsV80 {c:Int} (hc:¬c=2) (a b:Int) (v:Bool):wsV c a b v=v:=by simp [wsV,hc]
theorem ws_wrap (a b:Int):IntKind.u16.wrap (a+b)=wsR a b:=by simp [wsR,IntKind.wrap,IntKind.bits,IntKind.signed]
theorem wsR_bd (a b:Int):0≤wsR a b∧wsR a b < 65536:=by unfold wsR;omega
def wdB (a b:Int):Bool:=difO (a % 256) (b % 256) false
def wdL (a b:Int):Int:=difR (a % 256) (b % 256) false
def wdT (a b:Int):Int:=difR (a / 256) (b / 256) (wdB a b)
def wdH (a b:Int):Bool:=difH (a / 256) (b / 256) (wdB a b)
def wdV (a b:Int):Bool:=difV (a / 256) (b / 256) (wdB a b)
def wdC (a b:Int):Bool:=difO (a / 256) (b / 256) (wdB a b)
def wdR (a b:Int):Int:=joi (wdT a b) (wdL a b)
def wdK (a b:Int):Bool:=maj (b15 a) (!b15 b) (b15 (wdR a b))
theorem wdL_bd (a b:Int):0≤wdL a b∧wdL a b < 256:=difR_bd _ _ _
theorem wdT_bd (a b:Int):0≤wdT a b∧wdT a b < 256:=difR_bd _ _ _
theorem wdR_bd {b:Int}:0≤wdR a b∧wdR a b < 65536:=joi_bd (wdT_bd a b).1 (wdT_bd a b).2 (wdL_bd a b).1 (wdL_bd a b).2
theorem wdR_join (a b:Int):wdR a b=256 * wdT a b+wdL a b:=joi_eq _ _ (wdT_bd a b).1 (wdT_bd a b).2 (wdL_bd a b).1 (wdL_bd a b).2
theorem wdZ2 (a b:Int):(wdT a b==0 && wdL a b==0)=(wdR a b==0):=by
 have h1:(wdR a b==0)=decide (wdR a b=0):=rfl
 have h2:(wdT a b==0)=decide (wdT a b=0):=rfl
 have h3:(wdL a b==0)=decide (wdL a b=0):=rfl
 have h4:=wdT_bd a b
 have h5:=wdL_bd a b
 rw [h1,h2,h3,wdR_join,←Bool.decide_and]
 exact dec_iff (by omega)
theorem wdS2 (a b:Int):decide (128≤wdT a b)=b15 (wdR a b):=by
 have h4:=wdT_bd a b
 have h5:=wdL_bd a b
 unfold b15
 rw [wdR_join]
 exact dec_iff (by omega)
theorem lt15 (b:Int):decide (b < 32768)= !b15 b:=by
 unfold b15
 exact dec_not (by omega)
end K8.S
namespace K8
theorem q1C7r {P:Prop} (h:P:=by
 go_enter Tryz.func165,Tryz.ntmps165
 go_wp2_with (first|(go_at_call 177;refine sm (rdif_any (by omega) (by omega) (by omega) (by omega)) ?_)|(go_at_call 155;refine sm (rjoin_any (by omega) (by omega) (by omega) (by omega) _) ?_)|(go_at_call 180;refine sm (rmajority_any) ?_)|(go_at_call 182;refine sm (rparity_any (by omega) (by omega)) ?_))
 exact bodyPost_ret (by simp [results,Tryz.results165,go_sem]) rfl ⟨rfl,aD⟩):P:=h
theorem rdsub_any (a b:Int) (a0:0≤a) (a1:a < 65536) (b0:0≤b) (b1:b < 65536) (w:World):Calls Tryz.prog 165 #[.int .u16 a,.int .u16 b] w fun e w'=>e=.returned (.tuple #[.int .u16 (S.wdR a b),.agg #[.bool (S.b15 (S.wdR a b)),.bool (S.wdR a b==0),.bool (S.wdK a b),.bool (S.wdH a b),.bool (S.par (S.wdT a b)),.bool (S.wdV a b),.bool (S.wdC a b)]])∧Adds w w':=by
 have f1:S.difO (a % 256) (b % 256) false=S.wdB a b:=rfl
 have f2:S.difR (a % 256) (b % 256) false=S.wdL a b:=rfl
 have f3:S.difR (a / 256) (b / 256) (S.wdB a b)=S.wdT a b:=rfl
 have f4:S.difH (a / 256) (b / 256) (S.wdB a b)=S.wdH a b:=rfl
 have f5:S.difV (a / 256) (b / 256) (S.wdB a b)=S.wdV a b:=rfl
 have f6:S.difO (a / 256) (b / 256) (S.wdB a b)=S.wdC a b:=rfl
 have f7:S.joi (S.wdT a b) (S.wdL a b)=S.wdR a b:=rfl
 have f8:S.maj (S.b15 a) (!S.b15 b) (S.b15 (S.wdR a b))=S.wdK a b:=rfl
 have l0:=S.wdL_bd a b
 have t0:=S.wdT_bd a b
 have x1:decide (128≤S.wdT a b)=S.b15 (S.wdR a b):=S.wdS2 a b
 have x2:decide (32768≤a)=S.b15 a:=rfl
 have x3:decide (b < 32768)= !S.b15 b:=S.lt15 b
 have x4:=S.wdZ2 a b
 by_cases hz:S.wdT a b=0
 ·rw [hz] at f3 f7 x1 x4⊢
  have x5:S.b15 (S.wdR a b)=false:=by rw [←x1];decide
  have x6:(S.wdL a b==0)=(S.wdR a b==0):=by rw [←x4];simp
  rw [x5] at f8⊢
  clear x1 x4 t0
  exact q1C7r
 ·have hy:(S.wdT a b==0)=false:=by simpa using hz
  have x6:(S.wdR a b==0)=false:=by rw [←x4,hy];rfl
  rw [x6]
  clear x4
  exact q1C7r
end K8
namespace K8
theorem q1C7 {P:Prop} (h:P:=by
 go_enter Tryz.func162,Tryz.ntmps162
 go_wp2_with (first|(go_at_call 107;refine sm (ron_any) ?_))
 go_region
 all_goals go_wp2_with fail
 all_goals exact bodyPost_ret (by simp [results,Tryz.results162,go_sem]) rfl ⟨rfl,aD⟩):P:=h
theorem rdad_any (c a b:Int) (s z k ac p v cy:Bool) (a0:0≤a) (a1:a < 65536) (b0:0≤b) (b1:b < 65536) (w:World):Calls Tryz.prog 162 #[.int .i64 c,.int .u16 a,.int .u16 b,.agg #[.bool s,.bool z,.bool k,.bool ac,.bool p,.bool v,.bool cy]] w fun e w'=>e=.returned (.tuple #[.int .u16 (S.wsR a b),.agg #[.bool s,.bool z,.bool k,.bool ac,.bool p,.bool (S.wsV c a b v),.bool (S.wsO a b)]])∧Adds w w':=by
 have e1:=S.ws_wrap a b
 have e2:decide (65535 < a+b)=S.wsO a b:=rfl
 have sa:=S.sg16_bd a a0 a1
 have sb:=S.sg16_bd b b0 b1
 have g1:=S.sg16_wrap a a0 a1
 have g2:=S.sg16_wrap b b0 b1
 by_cases hc:c=2
 ·subst hc
  rw [S.wsV85]
  obtain ⟨t,ht⟩:∃t,S.sg16 a+S.sg16 b=t:=⟨_,rfl⟩
  rw [ht]
  have tb: -65536≤t∧t < 65536:=by omega
  rcases (by omega:t < -32768∨32767 < t∨(¬t < -32768∧¬32767 < t)) with hs|hs|hs
  ·have h4:S.ovf16 t=true:=by unfold S.ovf16;rw [decide_eq_true hs];rfl
   rw [h4]
   exact q1C7
  ·have h4:S.ovf16 t=true:=by unfold S.ovf16;rw [decide_eq_true hs,Bool.or_true]
   have hn:¬t < -32768:=by omega
   rw [h4]
   exact q1C7
  ·obtain ⟨hs1,hs2⟩:=hs
   have h4:S.ovf16 t=false:=by unfold S.ovf16;rw [decide_eq_false hs1,decide_eq_false hs2];rfl
   rw [h4]
   go_enter Tryz.func162,Tryz.ntmps162
   go_wp2_with (first|(go_at_call 107;refine sm (ron_any) ?_))
   go_region
   all_goals go_wp2_with fail
   all_goals exact bodyPost_ret (by simp [results,Tryz.results162,go_sem];try omega) rfl ⟨rfl,aD⟩
 ·rw [S.wsV80 hc]
  exact q1C7
end K8
namespace K8.S
open Go.Proofs.YteggjjhjmhccjaaGreat.S
variable {i j n v x:Int}
theorem ones_and (n m:Int) (j:Nat) (hm:(BitVec.ofInt 64 m).toNat=2 ^ j - 1) (hj:j≤60):bits .and .i64 n m=n % ((2 ^ j:Nat):Int):=by
 have hp:(2 ^ j:Nat) ∣ 2 ^ 64:=Nat.pow_dvd_pow 2 (by omega)
 have hl:(2 ^ j:Nat)≤2 ^ 60:=Nat.pow_le_pow_right (by decide) hj
 have h0:0 < (2 ^ j:Nat):=Nat.pow_pos (by decide)
 have e:(BitVec.ofInt 64 n &&& BitVec.ofInt 64 m).toNat=(n % ((2 ^ 64:Nat):Int)).toNat % 2 ^ j:=by
  rw [BitVec.toNat_and,BitVec.toNat_ofInt,hm,Nat.and_two_pow_sub_one_eq_mod]
 have e2:(((n % ((2 ^ 64:Nat):Int)).toNat % 2 ^ j:Nat):Int)=n % ((2 ^ j:Nat):Int):=by
  rw [Int.natCast_emod,Int.toNat_of_nonneg (Int.emod_nonneg _ (by decide)),Int.emod_emod_of_dvd _ (Int.natCast_dvd_natCast.2 hp)]
 show IntKind.i64.wrap ((BitVec.ofInt 64 n &&& BitVec.ofInt 64 m).toNat:Nat)=_
 rw [e,e2]
 have l0:0≤n % ((2 ^ j:Nat):Int):=Int.emod_nonneg _ (by omega)
 have l1:n % ((2 ^ j:Nat):Int) < ((2 ^ j:Nat):Int):=Int.emod_lt_of_pos _ (by omega)
 exact IntWalk.i64_in _ (by omega)
theorem and7r (n:Int):bits .and .i64 n 7=n % 8:=ones_and n 7 3 (by decide) (by decide)
theorem and3r (n:Int):bits .and .i64 n 3=n % 4:=ones_and n 3 2 (by decide) (by decide)
def rg (n a b c d e h l:Int):Int:=
 if n % 8=0 then b else if n % 8=1 then c else if n % 8=2 then d else if n % 8=3 then e else if n % 8=4 then h else if n % 8=5 then l else if n % 8=6 then 0 else a
def st (i n v x:Int):Int:=if n % 8=i then v else x
def sq (i n v x:Int):Int:=if n % 4=i then v else x
def pr (n b c d e h l sp:Int):Int:=
 if n % 4=0 then joi b c else if n % 4=1 then joi d e else if n % 4=2 then joi h l else sp
theorem st_of (h:n % 8=j) (i v x:Int):st i n v x=if j=i then v else x:=by unfold st;rw [h]
theorem sq_of (h:n % 4=j) (i v x:Int):sq i n v x=if j=i then v else x:=by unfold sq;rw [h]
theorem rg_0 (k:n % 8=0) (a b c d e h l:Int):rg n a b c d e h l=b:=by
 unfold rg;rw [k];rfl
theorem rg_1 (k:n % 8=1) (a b c d e h l:Int):rg n a b c d e h l=c:=by
 unfold rg;rw [k];rfl
theorem rg_2 (k:n % 8=2) (a b c d e h l:Int):rg n a b c d e h l=d:=by
 unfold rg;rw [k];rfl
theorem rg_3 (k:n % 8=3) (a b c d e h l:Int):rg n a b c d e h l=e:=by
 unfold rg;rw [k];rfl
theorem rg_4 (k:n % 8=4) (a b c d e h l:Int):rg n a b c d e h l=h:=by
 unfold rg;rw [k];rfl
theorem rg_5 (k:n % 8=5) (a b c d e h l:Int):rg n a b c d e h l=l:=by
 unfold rg;rw [k];rfl
theorem rg_6 (k:n % 8=6) (a b c d e h l:Int):rg n a b c d e h l=0:=by
 unfold rg;rw [k];rfl
theorem rg_7 (k:n % 8=7) (a b c d e h l:Int):rg n a b c d e h l=a:=by
 unfold rg;rw [k];rfl
theorem pr_0 (k:n % 4=0) (b c d e h l sp:Int):pr n b c d e h l sp=joi b c:=by
 unfold pr;rw [k];rfl
theorem pr_1 (k:n % 4=1) (b c d e h l sp:Int):pr n b c d e h l sp=joi d e:=by
 unfold pr;rw [k];rfl
theorem pr_2 (k:n % 4=2) (b c d e h l sp:Int):pr n b c d e h l sp=joi h l:=by
 unfold pr;rw [k];rfl
theorem pr_3 (k:n % 4=3) (b c d e h l sp:Int):pr n b c d e h l sp=sp:=by
 unfold pr;rw [k];rfl
end K8.S
namespace K8
theorem q1C8g {P:Prop} (h:P:=by
 go_enter Tryz.func146,Tryz.ntmps146
 go_wp2_with fail
 go_ret
 exact ⟨rfl,aD⟩):P:=h
theorem rget_any (rA rB rC rD rE rH rL:Int) (rS rZ rK rAC rP rV rCY:Bool) (rSP rPC:Int) (n:Int) (w:World):Calls Tryz.prog 146 #[.agg #[.int .u8 rA,.int .u8 rB,.int .u8 rC,.int .u8 rD,.int .u8 rE,.int .u8 rH,.int .u8 rL,.bool rS,.bool rZ,.bool rK,.bool rAC,.bool rP,.bool rV,.bool rCY,.int .u16 rSP,.int .u16 rPC],.int .i64 n] w fun e w'=>e=.returned (.int .u8 (S.rg n rA rB rC rD rE rH rL))∧Adds w w':=by
 have m:=S.and7r n
 have i0:∀w:World,(Instr.index 247 (.agg #[.int .u8 rB,.int .u8 rC,.int .u8 rD,.int .u8 rE,.int .u8 rH,.int .u8 rL,.int .u8 0,.int .u8 rA]) (.int .i64 0)).run Tryz.prog w=.ok (.int .u8 rB) w:=fun _=>by kernel_rfl
 have i1:∀w:World,(Instr.index 247 (.agg #[.int .u8 rB,.int .u8 rC,.int .u8 rD,.int .u8 rE,.int .u8 rH,.int .u8 rL,.int .u8 0,.int .u8 rA]) (.int .i64 1)).run Tryz.prog w=.ok (.int .u8 rC) w:=fun _=>by kernel_rfl
 have i2:∀w:World,(Instr.index 247 (.agg #[.int .u8 rB,.int .u8 rC,.int .u8 rD,.int .u8 rE,.int .u8 rH,.int .u8 rL,.int .u8 0,.int .u8 rA]) (.int .i64 2)).run Tryz.prog w=.ok (.int .u8 rD) w:=fun _=>by kernel_rfl
 have i3:∀w:World,(Instr.index 247 (.agg #[.int .u8 rB,.int .u8 rC,.int .u8 rD,.int .u8 rE,.int .u8 rH,.int .u8 rL,.int .u8 0,.int .u8 rA]) (.int .i64 3)).run Tryz.prog w=.ok (.int .u8 rE) w:=fun _=>by kernel_rfl
 have i4:∀w:World,(Instr.index 247 (.agg #[.int .u8 rB,.int .u8 rC,.int .u8 rD,.int .u8 rE,.int .u8 rH,.int .u8 rL,.int .u8 0,.int .u8 rA]) (.int .i64 4)).run Tryz.prog w=.ok (.int .u8 rH) w:=fun _=>by kernel_rfl
 have i5:∀w:World,(Instr.index 247 (.agg #[.int .u8 rB,.int .u8 rC,.int .u8 rD,.int .u8 rE,.int .u8 rH,.int .u8 rL,.int .u8 0,.int .u8 rA]) (.int .i64 5)).run Tryz.prog w=.ok (.int .u8 rL) w:=fun _=>by kernel_rfl
 have i6:∀w:World,(Instr.index 247 (.agg #[.int .u8 rB,.int .u8 rC,.int .u8 rD,.int .u8 rE,.int .u8 rH,.int .u8 rL,.int .u8 0,.int .u8 rA]) (.int .i64 6)).run Tryz.prog w=.ok (.int .u8 0) w:=fun _=>by kernel_rfl
 have i7:∀w:World,(Instr.index 247 (.agg #[.int .u8 rB,.int .u8 rC,.int .u8 rD,.int .u8 rE,.int .u8 rH,.int .u8 rL,.int .u8 0,.int .u8 rA]) (.int .i64 7)).run Tryz.prog w=.ok (.int .u8 rA) w:=fun _=>by kernel_rfl
 rcases (by omega:n % 8=0∨n % 8=1∨n % 8=2∨n % 8=3∨n % 8=4∨n % 8=5∨n % 8=6∨n % 8=7) with h|h|h|h|h|h|h|h
 ·rw [S.rg_0 h]
  rw [h] at m
  clear h
  exact q1C8g
 ·rw [S.rg_1 h]
  rw [h] at m
  clear h
  exact q1C8g
 ·rw [S.rg_2 h]
  rw [h] at m
  clear h
  exact q1C8g
 ·rw [S.rg_3 h]
  rw [h] at m
  clear h
  exact q1C8g
 ·rw [S.rg_4 h]
  rw [h] at m
  clear h
  exact q1C8g
 ·rw [S.rg_5 h]
  rw [h] at m
  clear h
  exact q1C8g
 ·rw [S.rg_6 h]
  rw [h] at m
  clear h
  exact q1C8g
 ·rw [S.rg_7 h]
  rw [h] at m
  clear h
  exact q1C8g
end K8
namespace K8
variable {rA rB rC rD rE rH rL rPC rSP:Int} {rAC rCY rK rP rS rV rZ:Bool}
theorem q1C8r {P:Prop} (h:P:=by
 go_enter Tryz.func156,Tryz.ntmps156
 go_wp2_with fail
 exact bodyPost_ret (ret_Regs Tryz.results156 rfl (by simp [go_sem]) rfl) rfl ⟨rfl,aD⟩):P:=h
theorem rset_0 (n v:Int) (w:World) (h:n % 8=0):Calls Tryz.prog 156 #[.agg #[.int .u8 rA,.int .u8 rB,.int .u8 rC,.int .u8 rD,.int .u8 rE,.int .u8 rH,.int .u8 rL,.bool rS,.bool rZ,.bool rK,.bool rAC,.bool rP,.bool rV,.bool rCY,.int .u16 rSP,.int .u16 rPC],.int .i64 n,.int .u8 v] w fun e w'=>e=.returned (.agg #[.int .u8 rA,.int .u8 v,.int .u8 rC,.int .u8 rD,.int .u8 rE,.int .u8 rH,.int .u8 rL,.bool rS,.bool rZ,.bool rK,.bool rAC,.bool rP,.bool rV,.bool rCY,.int .u16 rSP,.int .u16 rPC])∧Adds w w':=by
 have m:=S.and7r n
 rw [h] at m
 clear h
 exact q1C8r
theorem rset_1 (n v:Int) (w:World) (h:n % 8=1):Calls Tryz.prog 156 #[.agg #[.int .u8 rA,.int .u8 rB,.int .u8 rC,.int .u8 rD,.int .u8 rE,.int .u8 rH,.int .u8 rL,.bool rS,.bool rZ,.bool rK,.bool rAC,.bool rP,.bool rV,.bool rCY,.int .u16 rSP,.int .u16 rPC],.int .i64 n,.int .u8 v] w fun e w'=>e=.returned (.agg #[.int .u8 rA,.int .u8 rB,.int .u8 v,.int .u8 rD,.int .u8 rE,.int .u8 rH,.int .u8 rL,.bool rS,.bool rZ,.bool rK,.bool rAC,.bool rP,.bool rV,.bool rCY,.int .u16 rSP,.int .u16 rPC])∧Adds w w':=by
 have m:=S.and7r n
 rw [h] at m
 clear h
 exact q1C8r
theorem rset_2 (n v:Int) (w:World) (h:n % 8=2):Calls Tryz.prog 156 #[.agg #[.int .u8 rA,.int .u8 rB,.int .u8 rC,.int .u8 rD,.int .u8 rE,.int .u8 rH,.int .u8 rL,.bool rS,.bool rZ,.bool rK,.bool rAC,.bool rP,.bool rV,.bool rCY,.int .u16 rSP,.int .u16 rPC],.int .i64 n,.int .u8 v] w fun e w'=>e=.returned (.agg #[.int .u8 rA,.int .u8 rB,.int .u8 rC,.int .u8 v,.int .u8 rE,.int .u8 rH,.int .u8 rL,.bool rS,.bool rZ,.bool rK,.bool rAC,.bool rP,.bool rV,.bool rCY,.int .u16 rSP,.int .u16 rPC])∧Adds w w':=by
 have m:=S.and7r n
 rw [h] at m
 clear h
 exact q1C8r
theorem rset_3 (n v:Int) (w:World) (h:n % 8=3):Calls Tryz.prog 156 #[.agg #[.int .u8 rA,.int .u8 rB,.int .u8 rC,.int .u8 rD,.int .u8 rE,.int .u8 rH,.int .u8 rL,.bool rS,.bool rZ,.bool rK,.bool rAC,.bool rP,.bool rV,.bool rCY,.int .u16 rSP,.int .u16 rPC],.int .i64 n,.int .u8 v] w fun e w'=>e=.returned (.agg #[.int .u8 rA,.int .u8 rB,.int .u8 rC,.int .u8 rD,.int .u8 v,.int .u8 rH,.int .u8 rL,.bool rS,.bool rZ,.bool rK,.bool rAC,.bool rP,.bool rV,.bool rCY,.int .u16 rSP,.int .u16 rPC])∧Adds w w':=by
 have m:=S.and7r n
 rw [h] at m
 clear h
 exact q1C8r
theorem rset_4 (n v:Int) (w:World) (h:n % 8=4):Calls Tryz.prog 156 #[.agg #[.int .u8 rA,.int .u8 rB,.int .u8 rC,.int .u8 rD,.int .u8 rE,.int .u8 rH,.int .u8 rL,.bool rS,.bool rZ,.bool rK,.bool rAC,.bool rP,.bool rV,.bool rCY,.int .u16 rSP,.int .u16 rPC],.int .i64 n,.int .u8 v] w fun e w'=>e=.returned (.agg #[.int .u8 rA,.int .u8 rB,.int .u8 rC,.int .u8 rD,.int .u8 rE,.int .u8 v,.int .u8 rL,.bool rS,.bool rZ,.bool rK,.bool rAC,.bool rP,.bool rV,.bool rCY,.int .u16 rSP,.int .u16 rPC])∧Adds w w':=by
 have m:=S.and7r n
 rw [h] at m
 clear h
 exact q1C8r
theorem rset_5 (n v:Int) (w:World) (h:n % 8=5):Calls Tryz.prog 156 #[.agg #[.int .u8 rA,.int .u8 rB,.int .u8 rC,.int .u8 rD,.int .u8 rE,.int .u8 rH,.int .u8 rL,.bool rS,.bool rZ,.bool rK,.bool rAC,.bool rP,.bool rV,.bool rCY,.int .u16 rSP,.int .u16 rPC],.int .i64 n,.int .u8 v] w fun e w'=>e=.returned (.agg #[.int .u8 rA,.int .u8 rB,.int .u8 rC,.int .u8 rD,.int .u8 rE,.int .u8 rH,.int .u8 v,.bool rS,.bool rZ,.bool rK,.bool rAC,.bool rP,.bool rV,.bool rCY,.int .u16 rSP,.int .u16 rPC])∧Adds w w':=by
 have m:=S.and7r n
 rw [h] at m
 clear h
 exact q1C8r
theorem rset_6 (n v:Int) (w:World) (h:n % 8=6):Calls Tryz.prog 156 #[.agg #[.int .u8 rA,.int .u8 rB,.int .u8 rC,.int .u8 rD,.int .u8 rE,.int .u8 rH,.int .u8 rL,.bool rS,.bool rZ,.bool rK,.bool rAC,.bool rP,.bool rV,.bool rCY,.int .u16 rSP,.int .u16 rPC],.int .i64 n,.int .u8 v] w fun e w'=>e=.returned (.agg #[.int .u8 rA,.int .u8 rB,.int .u8 rC,.int .u8 rD,.int .u8 rE,.int .u8 rH,.int .u8 rL,.bool rS,.bool rZ,.bool rK,.bool rAC,.bool rP,.bool rV,.bool rCY,.int .u16 rSP,.int .u16 rPC])∧Adds w w':=by
 have m:=S.and7r n
 rw [h] at m
 clear h
 exact q1C8r
theorem rset_7 (n v:Int) (w:World) (h:n % 8=7):Calls Tryz.prog 156 #[.agg #[.int .u8 rA,.int .u8 rB,.int .u8 rC,.int .u8 rD,.int .u8 rE,.int .u8 rH,.int .u8 rL,.bool rS,.bool rZ,.bool rK,.bool rAC,.bool rP,.bool rV,.bool rCY,.int .u16 rSP,.int .u16 rPC],.int .i64 n,.int .u8 v] w fun e w'=>e=.returned (.agg #[.int .u8 v,.int .u8 rB,.int .u8 rC,.int .u8 rD,.int .u8 rE,.int .u8 rH,.int .u8 rL,.bool rS,.bool rZ,.bool rK,.bool rAC,.bool rP,.bool rV,.bool rCY,.int .u16 rSP,.int .u16 rPC])∧Adds w w':=by
 have m:=S.and7r n
 rw [h] at m
 clear h
 exact q1C8r
theorem rset_any (rA rB rC rD rE rH rL:Int) (rS rZ rK rAC rP rV rCY:Bool) (rSP rPC:Int) (n v:Int) (w:World):Calls Tryz.prog 156 #[.agg #[.int .u8 rA,.int .u8 rB,.int .u8 rC,.int .u8 rD,.int .u8 rE,.int .u8 rH,.int .u8 rL,.bool rS,.bool rZ,.bool rK,.bool rAC,.bool rP,.bool rV,.bool rCY,.int .u16 rSP,.int .u16 rPC],.int .i64 n,.int .u8 v] w fun e w'=>e=.returned (.agg #[.int .u8 (S.st 7 n v rA),.int .u8 (S.st 0 n v rB),.int .u8 (S.st 1 n v rC),.int .u8 (S.st 2 n v rD),.int .u8 (S.st 3 n v rE),.int .u8 (S.st 4 n v rH),.int .u8 (S.st 5 n v rL),.bool rS,.bool rZ,.bool rK,.bool rAC,.bool rP,.bool rV,.bool rCY,.int .u16 rSP,.int .u16 rPC])∧Adds w w':=by
 rcases (by omega:n % 8=0∨n % 8=1∨n % 8=2∨n % 8=3∨n % 8=4∨n % 8=5∨n % 8=6∨n % 8=7) with h|h|h|h|h|h|h|h
 ·simp [S.st_of h]
  exact rset_0 n v w h
 ·simp [S.st_of h]
  exact rset_1 n v w h
 ·simp [S.st_of h]
  exact rset_2 n v w h
 ·simp [S.st_of h]
  exact rset_3 n v w h
 ·simp [S.st_of h]
  exact rset_4 n v w h
 ·simp [S.st_of h]
  exact rset_5 n v w h
 ·simp [S.st_of h]
  exact rset_6 n v w h
 ·simp [S.st_of h]
  exact rset_7 n v w h
end K8
namespace K8
variable {rA rB rC rD rE rH rL rPC rSP:Int} {rAC rCY rK rP rS rV rZ:Bool}
theorem rpair_any (rA rB rC rD rE rH rL:Int) (rS rZ rK rAC rP rV rCY:Bool) (rSP rPC:Int) (n:Int) (b0:0≤rB) (b1:rB < 256) (c0:0≤rC) (c1:rC < 256) (d0:0≤rD) (d1:rD < 256) (e0:0≤rE) (e1:rE < 256) (h0:0≤rH) (h1:rH < 256) (l0:0≤rL) (l1:rL < 256) (w:World):Calls Tryz.prog 139 #[.agg #[.int .u8 rA,.int .u8 rB,.int .u8 rC,.int .u8 rD,.int .u8 rE,.int .u8 rH,.int .u8 rL,.bool rS,.bool rZ,.bool rK,.bool rAC,.bool rP,.bool rV,.bool rCY,.int .u16 rSP,.int .u16 rPC],.int .i64 n] w fun e w'=>e=.returned (.int .u16 (S.pr n rB rC rD rE rH rL rSP))∧Adds w w':=by
 have m:=S.and3r n
 rcases (by omega:n % 4=0∨n % 4=1∨n % 4=2∨n % 4=3) with h|h|h|h
 ·have g1:S.rg 0 rA rB rC rD rE rH rL=rB:=S.rg_0 rfl ..
  have g2:S.rg 1 rA rB rC rD rE rH rL=rC:=S.rg_1 rfl ..
  rw [S.pr_0 h]
  rw [h] at m
  clear h
  go_enter Tryz.func139,Tryz.ntmps139
  go_wp2_with fail
  refine qt ?_
  repeat (go_big_quiet_step (first|(go_at_call 146;exact calls_adds (rget_any _ _ _ _ _ _ _ _ _ _ _ _ _ _ _ _ _ _))|(go_at_call 155;exact calls_same (rjoin_any b0 b1 c0 c1 _))))
  refine qn fun nq osq=> ?_
  go_wp2_with fail
  go_ret
  exact ⟨rfl,aD⟩
 ·have g1:S.rg 2 rA rB rC rD rE rH rL=rD:=S.rg_2 rfl ..
  have g2:S.rg 3 rA rB rC rD rE rH rL=rE:=S.rg_3 rfl ..
  rw [S.pr_1 h]
  rw [h] at m
  clear h
  go_enter Tryz.func139,Tryz.ntmps139
  go_wp2_with fail
  refine qt ?_
  repeat (go_big_quiet_step (first|(go_at_call 146;exact calls_adds (rget_any _ _ _ _ _ _ _ _ _ _ _ _ _ _ _ _ _ _))|(go_at_call 155;exact calls_same (rjoin_any d0 d1 e0 e1 _))))
  refine qn fun nq osq=> ?_
  go_wp2_with fail
  go_ret
  exact ⟨rfl,aD⟩
 ·have g1:S.rg 4 rA rB rC rD rE rH rL=rH:=S.rg_4 rfl ..
  have g2:S.rg 5 rA rB rC rD rE rH rL=rL:=S.rg_5 rfl ..
  rw [S.pr_2 h]
  rw [h] at m
  clear h
  go_enter Tryz.func139,Tryz.ntmps139
  go_wp2_with fail
  refine qt ?_
  repeat (go_big_quiet_step (first|(go_at_call 146;exact calls_adds (rget_any _ _ _ _ _ _ _ _ _ _ _ _ _ _ _ _ _ _))|(go_at_call 155;exact calls_same (rjoin_any h0 h1 l0 l1 _))))
  refine qn fun nq osq=> ?_
  go_wp2_with fail
  go_ret
  exact ⟨rfl,aD⟩
 ·rw [S.pr_3 h]
  rw [h] at m
  clear h
  go_enter Tryz.func139,Tryz.ntmps139
  go_wp2_with fail
  go_ret
  exact ⟨rfl,aD⟩
theorem rsetpair_0 (n v:Int) (v0:0≤v) (v1:v < 65536) (w:World) (h:n % 4=0):Calls Tryz.prog 157 #[.agg #[.int .u8 rA,.int .u8 rB,.int .u8 rC,.int .u8 rD,.int .u8 rE,.int .u8 rH,.int .u8 rL,.bool rS,.bool rZ,.bool rK,.bool rAC,.bool rP,.bool rV,.bool rCY,.int .u16 rSP,.int .u16 rPC],.int .i64 n,.int .u16 v] w fun e w'=>e=.returned (.agg #[.int .u8 rA,.int .u8 (v / 256),.int .u8 (v % 256),.int .u8 (rD),.int .u8 (rE),.int .u8 (rH),.int .u8 (rL),.bool rS,.bool rZ,.bool rK,.bool rAC,.bool rP,.bool rV,.bool rCY,.int .u16 rSP,.int .u16 rPC])∧Adds w w':=by
 have m:=S.and3r n
 rw [h] at m
 clear h
 go_enter Tryz.func157,Tryz.ntmps157
 go_wp2_with (first|(go_at_call 156;(first|(with_reducible refine (rset_0 _ _ _ rfl).mono ?_)|(with_reducible refine (rset_1 _ _ _ rfl).mono ?_));rintro e w' ⟨rfl,⟨⟨n1,os1⟩,rfl⟩⟩))
 exact bodyPost_ret (ret_Regs Tryz.results157 rfl (by simp [go_sem]) rfl) rfl ⟨rfl,aD⟩
theorem rsetpair_1 (n v:Int) (v0:0≤v) (v1:v < 65536) (w:World) (h:n % 4=1):Calls Tryz.prog 157 #[.agg #[.int .u8 rA,.int .u8 rB,.int .u8 rC,.int .u8 rD,.int .u8 rE,.int .u8 rH,.int .u8 rL,.bool rS,.bool rZ,.bool rK,.bool rAC,.bool rP,.bool rV,.bool rCY,.int .u16 rSP,.int .u16 rPC],.int .i64 n,.int .u16 v] w fun e w'=>e=.returned (.agg #[.int .u8 rA,.int .u8 (rB),.int .u8 (rC),.int .u8 (v / 256),.int .u8 (v % 256),.int .u8 (rH),.int .u8 (rL),.bool rS,.bool rZ,.bool rK,.bool rAC,.bool rP,.bool rV,.bool rCY,.int .u16 rSP,.int .u16 rPC])∧Adds w w':=by
 have m:=S.and3r n
 rw [h] at m
 clear h
 go_enter Tryz.func157,Tryz.ntmps157
 go_wp2_with (first|(go_at_call 156;(first|(with_reducible refine (rset_2 _ _ _ rfl).mono ?_)|(with_reducible refine (rset_3 _ _ _ rfl).mono ?_));rintro e w' ⟨rfl,⟨⟨n1,os1⟩,rfl⟩⟩))
 exact bodyPost_ret (ret_Regs Tryz.results157 rfl (by simp [go_sem]) rfl) rfl ⟨rfl,aD⟩
theorem rsetpair_2 (n v:Int) (v0:0≤v) (v1:v < 65536) (w:World) (h:n % 4=2):Calls Tryz.prog 157 #[.agg #[.int .u8 rA,.int .u8 rB,.int .u8 rC,.int .u8 rD,.int .u8 rE,.int .u8 rH,.int .u8 rL,.bool rS,.bool rZ,.bool rK,.bool rAC,.bool rP,.bool rV,.bool rCY,.int .u16 rSP,.int .u16 rPC],.int .i64 n,.int .u16 v] w fun e w'=>e=.returned (.agg #[.int .u8 rA,.int .u8 (rB),.int .u8 (rC),.int .u8 (rD),.int .u8 (rE),.int .u8 (v / 256),.int .u8 (v % 256),.bool rS,.bool rZ,.bool rK,.bool rAC,.bool rP,.bool rV,.bool rCY,.int .u16 rSP,.int .u16 rPC])∧Adds w w':=by
 have m:=S.and3r n
 rw [h] at m
 clear h
 go_enter Tryz.func157,Tryz.ntmps157
 go_wp2_with (first|(go_at_call 156;(first|(with_reducible refine (rset_4 _ _ _ rfl).mono ?_)|(with_reducible refine (rset_5 _ _ _ rfl).mono ?_));rintro e w' ⟨rfl,⟨⟨n1,os1⟩,rfl⟩⟩))
 exact bodyPost_ret (ret_Regs Tryz.results157 rfl (by simp [go_sem]) rfl) rfl ⟨rfl,aD⟩
theorem rsetpair_3 (n v:Int) (w:World) (h:n % 4=3):Calls Tryz.prog 157 #[.agg #[.int .u8 rA,.int .u8 rB,.int .u8 rC,.int .u8 rD,.int .u8 rE,.int .u8 rH,.int .u8 rL,.bool rS,.bool rZ,.bool rK,.bool rAC,.bool rP,.bool rV,.bool rCY,.int .u16 rSP,.int .u16 rPC],.int .i64 n,.int .u16 v] w fun e w'=>e=.returned (.agg #[.int .u8 rA,.int .u8 rB,.int .u8 rC,.int .u8 rD,.int .u8 rE,.int .u8 rH,.int .u8 rL,.bool rS,.bool rZ,.bool rK,.bool rAC,.bool rP,.bool rV,.bool rCY,.int .u16 v,.int .u16 rPC])∧Adds w w':=by
 have m:=S.and3r n
 rw [h] at m
 clear h
 go_enter Tryz.func157,Tryz.ntmps157
 go_wp2_with fail
 exact bodyPost_ret (ret_Regs Tryz.results157 rfl (by simp [go_sem]) rfl) rfl ⟨rfl,aD⟩
theorem rsetpair_any (rA rB rC rD rE rH rL:Int) (rS rZ rK rAC rP rV rCY:Bool) (rSP rPC:Int) (n v:Int) (v0:0≤v) (v1:v < 65536) (w:World):Calls Tryz.prog 157 #[.agg #[.int .u8 rA,.int .u8 rB,.int .u8 rC,.int .u8 rD,.int .u8 rE,.int .u8 rH,.int .u8 rL,.bool rS,.bool rZ,.bool rK,.bool rAC,.bool rP,.bool rV,.bool rCY,.int .u16 rSP,.int .u16 rPC],.int .i64 n,.int .u16 v] w fun e w'=>e=.returned (.agg #[.int .u8 rA,.int .u8 (S.sq 0 n (v / 256) rB),.int .u8 (S.sq 0 n (v % 256) rC),.int .u8 (S.sq 1 n (v / 256) rD),.int .u8 (S.sq 1 n (v % 256) rE),.int .u8 (S.sq 2 n (v / 256) rH),.int .u8 (S.sq 2 n (v % 256) rL),.bool rS,.bool rZ,.bool rK,.bool rAC,.bool rP,.bool rV,.bool rCY,.int .u16 (S.sq 3 n v rSP),.int .u16 rPC])∧Adds w w':=by
 rcases (by omega:n % 4=0∨n % 4=1∨n % 4=2∨n % 4=3) with h|h|h|h
 ·simp [S.sq_of h];exact rsetpair_0 n v v0 v1 w h
 ·simp [S.sq_of h];exact rsetpair_1 n v v0 v1 w h
 ·simp [S.sq_of h];exact rsetpair_2 n v v0 v1 w h
 ·simp [S.sq_of h];exact rsetpair_3 n v w h
theorem rpsw_any (c:Int) (rA rB rC rD rE rH rL:Int) (rS rZ rK rAC rP rV rCY:Bool) (rSP rPC:Int) (a0:0≤rA) (a1:rA < 256) (w:World):Calls Tryz.prog 154 #[.int .i64 c,.agg #[.int .u8 rA,.int .u8 rB,.int .u8 rC,.int .u8 rD,.int .u8 rE,.int .u8 rH,.int .u8 rL,.bool rS,.bool rZ,.bool rK,.bool rAC,.bool rP,.bool rV,.bool rCY,.int .u16 rSP,.int .u16 rPC]] w fun e w'=>e=.returned (.int .u16 (S.joi rA (S.pack c rS rZ rK rAC rP rV rCY)))∧Adds w w':=by
 obtain ⟨p0,p1⟩:=S.pack_bd c rS rZ rK rAC rP rV rCY
 go_enter Tryz.func154,Tryz.ntmps154
 go_wp2_with fail
 refine qt ?_
 repeat (go_big_quiet_step (first|(go_at_call 174;exact calls_adds (rpack_any))|(go_at_call 155;exact calls_same (rjoin_any a0 a1 p0 p1 _))))
 refine qn fun nq osq=> ?_
 go_wp2_with fail
 go_ret
 exact ⟨rfl,aD⟩
theorem rsetpsw_any (c:Int) (rA rB rC rD rE rH rL:Int) (rS rZ rK rAC rP rV rCY:Bool) (rSP rPC:Int) (v:Int) (v0:0≤v) (v1:v < 65536) (w:World):Calls Tryz.prog 158 #[.int .i64 c,.agg #[.int .u8 rA,.int .u8 rB,.int .u8 rC,.int .u8 rD,.int .u8 rE,.int .u8 rH,.int .u8 rL,.bool rS,.bool rZ,.bool rK,.bool rAC,.bool rP,.bool rV,.bool rCY,.int .u16 rSP,.int .u16 rPC],.int .u16 v] w fun e w'=>e=.returned (.agg #[.int .u8 (v / 256),.int .u8 rB,.int .u8 rC,.int .u8 rD,.int .u8 rE,.int .u8 rH,.int .u8 rL,.bool (S.has (v % 256) 7),.bool (S.has (v % 256) 6),.bool (S.uk c (v % 256)),.bool (S.has (v % 256) 4),.bool (S.has (v % 256) 2),.bool (S.uv c (v % 256)),.bool (S.has (v % 256) 0),.int .u16 rSP,.int .u16 rPC])∧Adds w w':=by
 go_enter Tryz.func158,Tryz.ntmps158
 go_wp2_with (first|(go_at_call 175;refine ad (runpack_any (by omega) (by omega)) fun n1 os1=> ?_))
 exact bodyPost_ret (ret_Regs Tryz.results158 rfl (by simp [go_sem]) rfl) rfl ⟨rfl,aD⟩
end K8
section
variable {cA cB cC cCh cD cE cH cL cMa cPC cSP:Int} {cDe cHa cIE cR7 cSI cSO cSa cTr cW7 cWT cfAC cfCY cfK cfP cfS cfV cfZ:Bool} {w:World}
theorem bit14_any {f:Bool} {n:Int} (n0:0≤n) (n1:n < 8):Calls Tryz.prog 168 #[.bool f,.int .i64 n] w fun e w'=>e=.returned (.int .u8 (S.bp f n))∧w=w':=by
 rcases (by omega:n=0∨n=1∨n=2∨n=3∨n=4∨n=5∨n=6∨n=7) with rfl|rfl|rfl|rfl|rfl|rfl|rfl|rfl
 all_goals
  cases f
  all_goals
   go_enter Tryz.func168,Tryz.ntmps168
   go_wp2_with (go_at_call 183;refine sm (one_any) ?_)
   go_ret
   exact ⟨ri (by decide+kernel),rfl⟩
theorem q2C14 {P:Prop} (h:P:=by
 go_enter Tryz.func140,Tryz.ntmps140
 go_wp2_with fail
 refine qt ?_
 repeat (go_big_quiet_step (first|(go_at_call 168;exact calls_same (bit14_any (by decide) (by decide)))))
 refine qn fun nq osq=> ?_
 go_wp2_with fail
 go_region
 all_goals go_wp2_with fail
 all_goals exact bodyPost_ret (ret2_CPU Tryz.results140 (congrArg (Value.int .u8) HR.out) rfl (by simp [go_sem]) rfl) rfl ⟨rfl,aD⟩):P:=h
theorem rrim_any {lRe lHo lRs lSi lTr lR7 lR6 lR5 lIn:Bool} (m0:0≤cMa) (m1:cMa < 256):Calls Tryz.prog 140 #[.agg #[.int .i64 cCh,.int .u8 cA,.int .u8 cB,.int .u8 cC,.int .u8 cD,.int .u8 cE,.int .u8 cH,.int .u8 cL,.bool cfS,.bool cfZ,.bool cfK,.bool cfAC,.bool cfP,.bool cfV,.bool cfCY,.int .u16 cSP,.int .u16 cPC,.bool cIE,.bool cDe,.bool cHa,.int .u8 cMa,.bool cTr,.bool cR7,.bool cWT,.bool cW7,.bool cSa,.bool cSI,.bool cSO],.agg #[.bool lRe,.bool lHo,.bool lRs,.bool lSi,.bool lTr,.bool lR7,.bool lR6,.bool lR5,.bool lIn]] w fun e w'=>e=.returned (.tuple #[.int .u8 (S.rim lSi cR7 lR6 lR5 (S.pick cSa cSI cIE) cMa),.agg #[.int .i64 cCh,.int .u8 cA,.int .u8 cB,.int .u8 cC,.int .u8 cD,.int .u8 cE,.int .u8 cH,.int .u8 cL,.bool cfS,.bool cfZ,.bool cfK,.bool cfAC,.bool cfP,.bool cfV,.bool cfCY,.int .u16 cSP,.int .u16 cPC,.bool cIE,.bool cDe,.bool cHa,.int .u8 cMa,.bool cTr,.bool cR7,.bool cWT,.bool cW7,.bool (false),.bool (false),.bool cSO]])∧Adds w w':=by
 have h3:=S.low3 cMa m0 m1
 have HR:=Lib.hid (S.rim_orp lSi cR7 lR6 lR5 (S.pick cSa cSI cIE) cMa)
 cases cSa
 all_goals exact q2C14
theorem q1C14 {P:Prop} (h:P:=by
 go_enter Tryz.func141,Tryz.ntmps141
 go_wp2_with fail
 exact bodyPost_ret (ret_CPU Tryz.results141 rfl (by simp [go_sem,S.pick,S.pickN]) rfl) rfl ⟨rfl,aD⟩):P:=h
theorem rsim_any {a:Int} (a0:0≤a) (a1:a < 256):Calls Tryz.prog 141 #[.agg #[.int .i64 cCh,.int .u8 cA,.int .u8 cB,.int .u8 cC,.int .u8 cD,.int .u8 cE,.int .u8 cH,.int .u8 cL,.bool cfS,.bool cfZ,.bool cfK,.bool cfAC,.bool cfP,.bool cfV,.bool cfCY,.int .u16 cSP,.int .u16 cPC,.bool cIE,.bool cDe,.bool cHa,.int .u8 cMa,.bool cTr,.bool cR7,.bool cWT,.bool cW7,.bool cSa,.bool cSI,.bool cSO],.int .u8 a] w fun e w'=>e=.returned (.agg #[.int .i64 cCh,.int .u8 cA,.int .u8 cB,.int .u8 cC,.int .u8 cD,.int .u8 cE,.int .u8 cH,.int .u8 cL,.bool cfS,.bool cfZ,.bool cfK,.bool cfAC,.bool cfP,.bool cfV,.bool cfCY,.int .u16 cSP,.int .u16 cPC,.bool cIE,.bool cDe,.bool cHa,.int .u8 (S.pickN (S.hs a 8) (a % 8) cMa),.bool cTr,.bool (S.pick (S.hs a 16) false cR7),.bool cWT,.bool cW7,.bool cSa,.bool cSI,.bool (S.pick (S.hs a 64) (S.hs a 128) cSO)])∧Adds w w':=by
 have h7:=S.low3 a a0 a1
 have g1:(bits .and .u8 a 64 !=0)=S.hs a 64:=rfl
 have g2:(bits .and .u8 a 128 !=0)=S.hs a 128:=rfl
 have g3:(bits .and .u8 a 16 !=0)=S.hs a 16:=rfl
 have g4:(bits .and .u8 a 8 !=0)=S.hs a 8:=rfl
 cases h6:S.hs a 64<;>cases h4:S.hs a 16<;>cases h3:S.hs a 8
 all_goals exact q1C14
end
namespace S
def latT (c:Int) (l cur was:Bool):Bool:=if c=2 then l && (cur|| !was) else cur
def lat7 (c:Int) (l cur was:Bool):Bool:=if c=2 then cur||l && !was else cur
def latW (c:Int) (l was:Bool):Bool:=if c=2 then l else was
def fr (m n:Int):Bool:=bits .and .u8 m n==0
def pik (c:Int) (ie de:Bool) (m:Int) (tr r7 r6 r5 i:Bool):Int:=
 if c=2∧tr=true then 1 else if ie=false∨de=true then 0 else if c=2∧r7=true∧fr m 4=true then 2 else if c=2∧r6=true∧fr m 2=true then 3 else if c=2∧r5=true∧fr m 1=true then 4 else if i=true then 5 else 0
def off (k:Int) (b:Bool):Bool:=if 1≤k∧k≤5 then false else b
def sw (k n:Int) (x y:Bool):Bool:=if k=n then x else y
def vec (k:Int):Int:=if k=1 then 36 else if k=2 then 60 else if k=3 then 52 else if k=4 then 44 else 0
def rsm (c:Int):Int:=if c=2 then 7 else 0
def ask (c:Int) (f r x:Bool):Bool:=decide (c=2) && (f && (r && x))
end S
section
variable {cA cB cC cCh cD cE cH cL cMa cPC cSP k:Int} {cDe cHa cIE cR7 cSI cSO cSa cTr cW7 cWT cfAC cfCY cfK cfP cfS cfV cfZ:Bool} {w:World}
theorem on85_15 {c:Int}:Calls Tryz.prog 107 #[.int .i64 c] w fun e w'=>e=.returned (.bool (decide (c=2)))∧w=w':=by
 go_enter Tryz.func107,Tryz.ntmps107
 go_wp2
 go_ret
 exact ⟨rfl,rfl⟩
theorem rlatch_any (cCh cA cB cC cD cE cH cL:Int) (cfS cfZ cfK cfAC cfP cfV cfCY:Bool) (cSP cPC:Int) (cIE cDe cHa:Bool) (cMa:Int) (cTr cR7 cWT cW7 cSa cSI cSO:Bool) (lRe lHo lRs lSi lTr lR7 lR6 lR5 lIn:Bool) (w:World):Calls Tryz.prog 73 #[.agg #[.int .i64 cCh,.int .u8 cA,.int .u8 cB,.int .u8 cC,.int .u8 cD,.int .u8 cE,.int .u8 cH,.int .u8 cL,.bool cfS,.bool cfZ,.bool cfK,.bool cfAC,.bool cfP,.bool cfV,.bool cfCY,.int .u16 cSP,.int .u16 cPC,.bool cIE,.bool cDe,.bool cHa,.int .u8 cMa,.bool cTr,.bool cR7,.bool cWT,.bool cW7,.bool cSa,.bool cSI,.bool cSO],.agg #[.bool lRe,.bool lHo,.bool lRs,.bool lSi,.bool lTr,.bool lR7,.bool lR6,.bool lR5,.bool lIn]] w fun e w'=>e=.returned (.agg #[.int .i64 cCh,.int .u8 cA,.int .u8 cB,.int .u8 cC,.int .u8 cD,.int .u8 cE,.int .u8 cH,.int .u8 cL,.bool cfS,.bool cfZ,.bool cfK,.bool cfAC,.bool cfP,.bool cfV,.bool cfCY,.int .u16 cSP,.int .u16 cPC,.bool cIE,.bool cDe,.bool cHa,.int .u8 cMa,.bool (S.latT cCh lTr cTr cWT),.bool (S.lat7 cCh lR7 cR7 cW7),.bool (S.latW cCh lTr cWT),.bool (S.latW cCh lR7 cW7),.bool cSa,.bool cSI,.bool cSO])∧Adds w w':=by
 by_cases hc:cCh=2
 ·subst hc
  go_enter Tryz.func73,Tryz.ntmps73
  go_wp2_with (first|(go_at_call 107;refine sm (on85_15) ?_))
  all_goals go_region
  all_goals go_wp2_with fail
  all_goals exact bodyPost_ret (ret_CPU Tryz.results73 rfl (by simp [go_sem,S.latT,S.lat7,S.latW, *]) rfl) rfl ⟨rfl,aD⟩
 ·go_enter Tryz.func73,Tryz.ntmps73
  go_wp2_with (first|(go_at_call 107;refine sm (on85_15) ?_))
  all_goals exact bodyPost_ret (ret_CPU Tryz.results73 rfl (by simp [go_sem,S.latT,S.lat7,S.latW,hc]) rfl) rfl ⟨rfl,aD⟩
theorem q1C15 {P:Prop} (h:P:=by
 go_enter Tryz.func124,Tryz.ntmps124
 go_wp2_with fail
 exact bodyPost_ret (ret_CPU Tryz.results124 rfl (by simp [go_sem,S.off,S.sw]) rfl) rfl ⟨rfl,aD⟩):P:=h
theorem raccept_any:Calls Tryz.prog 124 #[.agg #[.int .i64 cCh,.int .u8 cA,.int .u8 cB,.int .u8 cC,.int .u8 cD,.int .u8 cE,.int .u8 cH,.int .u8 cL,.bool cfS,.bool cfZ,.bool cfK,.bool cfAC,.bool cfP,.bool cfV,.bool cfCY,.int .u16 cSP,.int .u16 cPC,.bool cIE,.bool cDe,.bool cHa,.int .u8 cMa,.bool cTr,.bool cR7,.bool cWT,.bool cW7,.bool cSa,.bool cSI,.bool cSO],.int .i64 k] w fun e w'=>e=.returned (.agg #[.int .i64 cCh,.int .u8 cA,.int .u8 cB,.int .u8 cC,.int .u8 cD,.int .u8 cE,.int .u8 cH,.int .u8 cL,.bool cfS,.bool cfZ,.bool cfK,.bool cfAC,.bool cfP,.bool cfV,.bool cfCY,.int .u16 cSP,.int .u16 cPC,.bool (S.off k cIE),.bool (S.off k cDe),.bool (S.off k cHa),.int .u8 cMa,.bool (S.sw k 1 false cTr),.bool (S.sw k 2 false cR7),.bool cWT,.bool cW7,.bool (S.sw k 1 true cSa),.bool (S.sw k 1 cIE cSI),.bool cSO])∧Adds w w':=by
 by_cases h1:k=1
 ·subst h1
  exact q1C15
 by_cases h2:k=2
 ·subst h2
  exact q1C15
 by_cases h3:k=3
 ·subst h3
  exact q1C15
 by_cases h4:k=4
 ·subst h4
  exact q1C15
 by_cases h5:k=5
 ·subst h5
  exact q1C15
 have hk:¬(1≤k∧k≤5):=by omega
 have ho:∀b,S.off k b=b:=fun b=>by simp [S.off,hk]
 have hs1:∀x y,S.sw k 1 x y=y:=fun x y=>by simp [S.sw,h1]
 have hs2:∀x y,S.sw k 2 x y=y:=fun x y=>by simp [S.sw,h2]
 simp only [ho,hs1,hs2]
 clear ho hs1 hs2
 rcases (by omega:k < 1∨(¬k < 1∧5 < k)) with hl|⟨hl,hg⟩
 all_goals
  go_enter Tryz.func124,Tryz.ntmps124
  go_wp2_with fail
  all_goals exact bodyPost_ret (ret_CPU Tryz.results124 rfl (by simp [go_sem]) rfl) rfl ⟨rfl,aD⟩
theorem q2C15 {P:Prop} (h:P:=by
 go_enter Tryz.func133,Tryz.ntmps133
 go_wp2_with fail
 go_ret
 exact ⟨rfl,aD⟩):P:=h
theorem rvec_any:Calls Tryz.prog 133 #[.int .i64 k] w fun e w'=>e=.returned (.int .u16 (S.vec k))∧Adds w w':=by
 by_cases h1:k=1
 ·subst h1
  exact q2C15
 by_cases h2:k=2
 ·subst h2
  exact q2C15
 by_cases h3:k=3
 ·subst h3
  exact q2C15
 by_cases h4:k=4
 ·subst h4
  exact q2C15
 go_enter Tryz.func133,Tryz.ntmps133
 go_wp2_with fail
 go_ret
 exact ⟨ri (by simp [S.vec, *]),aD⟩
theorem rreset_any:Calls Tryz.prog 83 #[.agg #[.int .i64 cCh,.int .u8 cA,.int .u8 cB,.int .u8 cC,.int .u8 cD,.int .u8 cE,.int .u8 cH,.int .u8 cL,.bool cfS,.bool cfZ,.bool cfK,.bool cfAC,.bool cfP,.bool cfV,.bool cfCY,.int .u16 cSP,.int .u16 cPC,.bool cIE,.bool cDe,.bool cHa,.int .u8 cMa,.bool cTr,.bool cR7,.bool cWT,.bool cW7,.bool cSa,.bool cSI,.bool cSO]] w fun e w'=>e=.returned (.agg #[.int .i64 (cCh),.int .u8 cA,.int .u8 cB,.int .u8 cC,.int .u8 cD,.int .u8 cE,.int .u8 cH,.int .u8 cL,.bool cfS,.bool cfZ,.bool cfK,.bool cfAC,.bool cfP,.bool cfV,.bool cfCY,.int .u16 cSP,.int .u16 (0),.bool (false),.bool (false),.bool (false),.int .u8 (S.rsm cCh),.bool (false),.bool (false),.bool (false),.bool (false),.bool (false),.bool (false),.bool (false)])∧Adds w w':=by
 by_cases hc:cCh=2
 ·subst hc
  go_enter Tryz.func83,Tryz.ntmps83
  go_wp2_with (first|(go_at_call 107;refine sm (on85_15) ?_))
  exact bodyPost_ret (ret_CPU Tryz.results83 rfl (by simp [go_sem,S.rsm]) rfl) rfl ⟨rfl,aD⟩
 ·go_enter Tryz.func83,Tryz.ntmps83
  go_wp2_with (first|(go_at_call 107;refine sm (on85_15) ?_))
  exact bodyPost_ret (ret_CPU Tryz.results83 rfl (by simp [go_sem,S.rsm,hc]) rfl) rfl ⟨rfl,aD⟩
end
section
theorem q1C9 {P:Prop} (h:P:=by
 go_enter Tryz.func128,Tryz.ntmps128
 go_wp2_with fail
 exact bodyPost_ret (ret3_Instr Tryz.results128 rfl rfl (by simp [go_sem,S.spI,S.Ins.cs]) rfl) rfl ⟨rfl,aD⟩):P:=h
theorem special_any (op:Int) (w:World):Calls Tryz.prog 128 #[.int .u8 op] w fun e w'=>e=.returned (.tuple #[.agg (S.spI op).cs,.bool (S.spB op)])∧Adds w w':=by
 by_cases h8:op=8
 ·subst h8
  exact q1C9
 by_cases h16:op=16
 ·subst h16
  exact q1C9
 by_cases h24:op=24
 ·subst h24
  exact q1C9
 by_cases h32:op=32
 ·subst h32
  exact q1C9
 by_cases h40:op=40
 ·subst h40
  exact q1C9
 by_cases h48:op=48
 ·subst h48
  exact q1C9
 by_cases h56:op=56
 ·subst h56
  exact q1C9
 by_cases h203:op=203
 ·subst h203
  exact q1C9
 by_cases h217:op=217
 ·subst h217
  exact q1C9
 by_cases h221:op=221
 ·subst h221
  exact q1C9
 by_cases h237:op=237
 ·subst h237
  exact q1C9
 by_cases h253:op=253
 ·subst h253
  exact q1C9
 ·have e1:S.spI op={k:=0,l:=0}:=by simp [S.spI, *]
  have e2:S.spB op=false:=by simp [S.spB, *]
  rw [e1,e2]
  go_enter Tryz.func128,Tryz.ntmps128
  go_wp2_with fail
  exact bodyPost_ret (ret3_Instr Tryz.results128 rfl rfl (by simp [go_sem,S.Ins.cs]) rfl) rfl ⟨rfl,aD⟩
end
section
def Tch (S:Nat→Prop) (w w':World):Prop:=Below 0 w w'∧∀k,k < w.heap.size→¬S k→w'.heap[k]? =w.heap[k]?
theorem Tch.size {S:Nat→Prop} {w w':World} (h:Tch S w w'):w.heap.size≤w'.heap.size:=h.1.size
theorem Tch.refl (S:Nat→Prop) (w:World):Tch S w w:=⟨⟨rfl,rfl,rfl,Nat.le_refl _,fun _ _=>rfl⟩,fun _ _ _=>rfl⟩
theorem Tch.trans {S S1:Nat→Prop} {w w1 w2:World} (h:Tch S w w1) (k:Tch S1 w1 w2) (hs:∀b,b < w.heap.size→S1 b→S b):Tch S w w2:=
 ⟨⟨k.1.os.trans h.1.os,k.1.tape.trans h.1.tape,k.1.output.trans h.1.output,Nat.le_trans h.size k.size,fun i hi=>absurd hi (by omega)⟩,fun i hi hne=>(k.2 i (by have:=h.size;omega) (fun e=>hne (hs i hi e))).trans (h.2 i hi hne)⟩
theorem Tch.mono {S S1:Nat→Prop} {w w':World} (h:Tch S w w') (hs:∀b,b < w.heap.size→S b→S1 b):Tch S1 w w':=⟨h.1,fun k hk hne=>h.2 k hk (fun e=>hne (hs k hk e))⟩
theorem Tch.of_adds {S:Nat→Prop} {w w':World} (h:Adds w w'):Tch S w w':=by
 have hb:=h.below
 exact ⟨⟨hb.os,hb.tape,hb.output,hb.size,fun k hk=>absurd hk (by omega)⟩,fun k hk _=>hb.block k hk⟩
theorem Tch.of_grown {S:Nat→Prop} {w w':World} {row:Option Nat} (h:w.grownBy w' row) (hs:∀g,row=some g→S g):Tch S w w':=
 ⟨⟨h.os,h.tape,h.output,h.size,fun k hk=>absurd hk (by omega)⟩,fun k hk hne=>h.block k hk (fun e=>hne (hs k e.symm))⟩
theorem Tch.setRow {S:Nat→Prop} {w w':World} (h:Tch S w w') (b:Nat) (cs:Array Value) (hs:b < w.heap.size→S b):Tch S w (w'.setRow b cs):=
 ⟨⟨h.1.os,h.1.tape,h.1.output,by rw [size_setRow];exact h.size,fun k hk=>absurd hk (by omega)⟩,fun k hk hne=>(heap_setRow_other w' b k cs (fun e=>hne (e▸hs (e▸hk)))).trans (h.2 k hk hne)⟩
theorem Tch.setCell {S:Nat→Prop} {w w':World} (h:Tch S w w') (b i:Nat) (v:Value) (hs:b < w.heap.size→S b):Tch S w (w'.setCell ⟨b,i,none⟩ v):=
 ⟨⟨h.1.os,h.1.tape,h.1.output,by simpa using h.size,fun k hk=>absurd hk (by omega)⟩,fun k hk hne=>(heap_setCell_other w' ⟨b,i,none⟩ k v (fun e=>hne (by have e:k=b:=e;exact e▸hs (e▸hk)))).trans (h.2 k hk hne)⟩
theorem Tch.drew {S:Nat→Prop} {w w':World} (h:Tch S w w'):Tch S w w'.drew:=⟨⟨h.1.os,h.1.tape,h.1.output,h.1.size,h.1.block⟩,h.2⟩
theorem Tch.alloc {S:Nat→Prop} {w w':World} (h:Tch S w w') (o:Obj):Tch S w (w'.alloc o):=h.trans (S1:=S) (Tch.of_adds ((Adds.refl w').alloc o)) (fun _ _ e=>e)
theorem Tch.more {S:Nat→Prop} {w w':World} (h:Tch S w w') (n:Nat) (os:Array Obj):Tch S w (More w' n os):=h.trans (S1:=S) (Tch.of_adds ((Adds.refl w').more n os)) (fun _ _ e=>e)
theorem Tch.row {S:Nat→Prop} {w w':World} (h:Tch S w w') {k:Nat} (hk:k < w.heap.size) (hs:¬S k):rowOf w' k=rowOf w k:=rowOf_eq (h.2 k hk hs)
theorem Tch.cell {S:Nat→Prop} {w w':World} (h:Tch S w w') {k i:Nat} (hk:k < w.heap.size) (hs:¬S k):w'.cell? ⟨k,i,none⟩=w.cell? ⟨k,i,none⟩:=World.cell?_of_block (a:=⟨k,i,none⟩) (h.2 k hk hs)
theorem Tch.adds {S:Nat→Prop} {w0 w w':World} (h:Tch S w w') (k:Adds w0 w) (hs:∀b,b < w.heap.size→S b→w0.heap.size≤b):Adds w0 w':=by
 have hb:=k.below
 refine Adds.of_below ⟨h.1.os.trans hb.os,h.1.tape.trans hb.tape,h.1.output.trans hb.output,Nat.le_trans hb.size h.size,fun i hi=> ?_⟩
 have:=hb.size
 exact (h.2 i (by omega) (fun e=>by have:=hs i (by omega) e;omega)).trans (hb.block i hi)
theorem Tch.out {S:Nat→Prop} {w0 w w':World} (h:Tch S w0 w) (k:Tch S w w'):Tch S w0 w':=h.trans k (fun _ _ e=>e)
def Nw (B:Nat) (a:Option Addr) (n:Nat):Prop:=∀b o,a=some ⟨b,o,none⟩→0 < n→B≤b
theorem Nw.nil (B:Nat) (a:Option Addr):Nw B a 0:=fun _ _ _ h=>absurd h (by omega)
theorem Nw.mono {B B':Nat} {a:Option Addr} {n:Nat} (h:Nw B a n) (k:B'≤B):Nw B' a n:=fun b o e hn=>by have:=h b o e hn;omega
def Sm2 (B:Nat) (a:Option Addr) (n:Nat) (a':Option Addr) (n':Nat):Prop:=(a'=a∧n'=n)∨Nw B a' n'
theorem Sm2.refl (B:Nat) (a:Option Addr) (n:Nat):Sm2 B a n a n:=.inl ⟨rfl,rfl⟩
theorem Sm2.mono {B B':Nat} {a a':Option Addr} {n n':Nat} (h:Sm2 B a n a' n') (k:B'≤B):Sm2 B' a n a' n':=h.imp id fun h=>h.mono k
theorem Sm2.trans {B:Nat} {a a' a2:Option Addr} {n n' n2:Nat} (h:Sm2 B a n a' n') (k:Sm2 B a' n' a2 n2):Sm2 B a n a2 n2:=by
 rcases k with ⟨rfl,rfl⟩|k
 ·exact h
 ·exact .inr k
def Off (S:Nat→Prop) (a:Option Addr) (n:Nat):Prop:=∀b o,a=some ⟨b,o,none⟩→0 < n→¬S b
theorem Off.nil (S:Nat→Prop) (a:Option Addr):Off S a 0:=fun _ _ _ h=>absurd h (by omega)
theorem Off.mono {S S1:Nat→Prop} {a:Option Addr} {n:Nat} (h:Off S a n) (k:∀b,S1 b→S b):Off S1 a n:=fun b o e hn hs=>h b o e hn (k b hs)
theorem Off.of_nw {S:Nat→Prop} {B:Nat} {a:Option Addr} {n:Nat} (h:Nw B a n) (k:∀b,S b→b < B):Off S a n:=fun b o e hn hs=>by have:=h b o e hn;have:=k b hs;omega
theorem Off.sm2 {S:Nat→Prop} {B:Nat} {a a':Option Addr} {n n':Nat} (h:Off S a n) (k:Sm2 B a n a' n') (hs:∀b,S b→b < B):Off S a' n':=by
 rcases k with ⟨rfl,rfl⟩|k
 ·exact h
 ·exact Off.of_nw k hs
section
variable {α:Type} {cs:α→List Value} {sz:Nat} {E:TypeId}
theorem HeldG.tch {S:Nat→Prop} {w w':World} {a:Option Addr} {n:Nat} {d:List α} (h:HeldG cs w a n d) (k:Tch S w w') (hs:Off S a n):HeldG cs w' a n d:=
 ⟨h.1,h.2.1,fun hn=>by
   obtain ⟨b,o,ha,hb,hat⟩:=h.2.2 hn
   exact ⟨b,o,ha,by have:=k.size;omega,hat.keep fun i=>k.cell hb (hs b o ha hn)⟩⟩
theorem OwnsG.tch {S:Nat→Prop} {w w':World} {base:Nat} {v:Value} {d:List α} (h:OwnsG cs sz E w base v d) (k:Tch S w w') (hs:∀g,v.ownBlock=some g→¬S g):OwnsG cs sz E w' base v d:=by
 refine ⟨h.1,?_⟩
 rcases h.2 with hn|⟨g,cap,cur,h1,h2,h3,h4⟩
 ·exact .inl hn
 ·exact .inr ⟨g,cap,cur,h1,h2,(k.2 g (Array.getElem?_eq_some_iff.1 h3).1 (hs g (by rw [h1];rfl))).trans h3,h4⟩
theorem OwnsG.nw {w:World} {base n cap:Nat} {a:Option Addr} {d:List α} (h:OwnsG cs sz E w base (.slice a n cap) d):Nw base a n:=fun b o e hn=>by
 obtain ⟨g,hg,hb,_⟩:=h.head hn
 rw [hg] at e
 injection e with e
 injection e with e
 omega
theorem OwnsG.lt2 {w:World} {base:Nat} {v:Value} {d:List α} (h:OwnsG cs sz E w base v d) {g:Nat} (e:v.ownBlock=some g):base≤g∧g < w.heap.size:=World.ownsRow.lt h g e
theorem HeldG.other {W:World} {n:Nat} {os:Array Obj} {a:Option Addr} {m:Nat} {d:List α} (h:HeldG cs (More W n os) a m d) (hb:Nw W.heap.size a m):∀V:World,V.heap.size=W.heap.size→HeldG cs (More V n os) a m d:=fun V hV=>
 ⟨h.1,h.2.1,fun hn=>by
   obtain ⟨b,o,ha,hl,hat⟩:=h.2.2 hn
   have hB:=hb b o ha hn
   rw [More_size] at hl
   refine ⟨b,o,ha,by rw [More_size];omega,hat.keep fun i=>World.cell?_of_block (a:=⟨b,i,none⟩) ?_⟩
   show (V.heap++os)[b]? =(W.heap++os)[b]?
   rw [Array.getElem?_append_right (by omega),Array.getElem?_append_right hB,hV]⟩
theorem held_fin {V w':World} {s n:Nat} {os:Array Obj} {a:Option Addr} {m:Nat} {d:List α} (k:Adds (More V n os) w') (hs:V.heap.size=s) (h:∀V:World,V.heap.size=s→HeldG cs (More V n os) a m d):HeldG cs w' a m d:=(h V hs).adds k
theorem wp_appH {P:Program} (hs:∀a,(cs a).length=sz) (h1:∀a,∀u∈cs a,u.oneCell'=true) {T:TypeId} (hT:P.underlying T=some (.slice E)) {z:Value} {bytes:Nat} (hinfo:(P.info? E).map (fun i=>(i.zero,i.size,i.bytes))=some (some z,sz,bytes)) (hzs:z.cells.size=sz) (hz:0 < sz)
 {w:World} {o:Oper} {a:Act} {K:Act→World→Prop} {Q:Exit→Act→World→Prop} (s x:Operand)
 (ho:o.op=.call {callee:=.builtin .append,args:=#[s,x],argTypes:=#[T,T]})
 (base:Nat) (v:Value) (d:List α) (hv:a.eval s=v) (hown:OwnsG cs sz E w base v d) (ax:Option Addr) (m c:Nat) (e:List α) (hx:a.eval x=.slice ax m c) (hh:HeldG cs w ax m e) (hmc:m≤c) (hnn:ax=none→c=0)
 (h63:d.length+m≤maxLen) (hb:(d.length+m) * bytes≤140737488355328) (hbase:base≤w.heap.size)
 (h:∀v' w',OwnsG cs sz E w' base v' (d++e)→w.grownBy w' v.ownBlock→(∀g,v'.ownBlock=some g→v.ownBlock=some g∨w.heap.size≤g)→K (a.put o.dst v') w'):o.wp P a w K Q:=by
 obtain ⟨i0,hi,hz0,hz1,hz2⟩:=info_parts hinfo
 have go:∀ad,ax=some ad→(∀j u,(Fl cs e)[j]? =some u→w.cell? (ad.add j)=some u)→o.wp P a w K Q:=by
  intro ad had hat
  obtain ⟨v',w',hr,h2,h3,h4,h5⟩:=run_append_own_at (P:=P) w base T o.type E i0 z sz bytes hT hi hz0 hz1 hz2 hzs hz v d.length (Fl cs d) hown ad m c (Fl cs e) (by rw [Fl_len hs,hh.1]) hat (Fl_oneCell h1 e) h63 hb hbase
  subst had
  unfold Oper.wp execOp
  simp only [ho,resolve,invoke,builtin,Sem.run_bind,Sem.run_pure,Result.andThen_ok,List.map_toArray,List.map_cons,List.map_nil,hv,hx,hr]
  refine h v' w' ?_ h3 (fun g hg=> ?_)
  ·unfold OwnsG;rw [List.length_append,hh.1,Fl_app];exact h2
  ·rcases h5 with q|q
   ·exact .inl (q▸hg)
   ·rw [q] at hg;injection hg with hg;exact .inr (by omega)
 cases ax with
 |none=>
  obtain rfl:=hnn rfl
  obtain rfl:m=0:=by omega
  obtain rfl:e=[]:=List.eq_nil_of_length_eq_zero hh.1
  have hrun:=run_append_owned_none (P:=P) (w:=w) base T o.type E i0 sz hT hi v d.length (Fl cs d) hown
  unfold Oper.wp
  simp [execOp,ho,resolve,invoke,builtin,hv,hx,hrun,Result.andThen]
  exact h v w (by rw [List.append_nil];exact hown) ⟨rfl,rfl,rfl,Nat.le_refl _,fun _ _ _=>rfl⟩ (fun g hg=> .inl hg)
 |some ad=>
  refine go ad rfl ?_
  by_cases hm:0 < m
  ·obtain ⟨b,o',ha,_,hat⟩:=hh.2.2 hm
   injection ha with ha
   subst ha
   intro j u hu
   rw [add_plain];exact hat j u hu
  ·intro j u hu
   have:e=[]:=List.eq_nil_of_length_eq_zero (by have:=hh.1;omega)
   subst this
   simp [Fl] at hu
end
theorem held_new {α:Type} {cs:α→List Value} (w:World) (y:α) {b:Nat} (hb:b=w.heap.size) {c:Array Value} (hc:c.toList=cs y) {t:TypeId}:HeldG cs (w.alloc (.cells c t)) (some ⟨b,0,none⟩) 1 [y]:=
 ⟨rfl,by omega,fun _=>⟨b,0,rfl,by subst hb;simp,fun j u hu=>by
   have:=at_new w t c [y] (by rw [Fl_one];exact hc) b hb j u hu
   rwa [add_plain] at this⟩⟩
theorem held_at {α:Type} {cs:α→List Value} {w:World} (y:α) {b:Nat} {c:Array Value} (hc:c.toList=cs y) (hr:rowOf w b=c) (hp:0 < c.size):HeldG cs w (some ⟨b,0,none⟩) 1 [y]:=
 ⟨rfl,by omega,fun _=>⟨b,0,rfl,by
   have h0:0 < (rowOf w b).size:=by rw [hr];exact hp
   obtain ⟨t,ht⟩:=rowOf_some h0
   exact (Array.getElem?_eq_some_iff.1 ht).1,fun j u hu=>by
   rw [Fl_one,←hc] at hu
   rw [Nat.zero_add]
   exact rowOf_cell hr (by simpa using hu)⟩⟩
theorem adds_no {w w':World} (h:w.grownBy w' none):Adds w w':=Adds.of_below ⟨h.os,h.tape,h.output,h.size,fun k hk=>h.block k hk (by simp)⟩
theorem wp_forget {P:Program} {c:Code} {Q:Exit→Act→World→Prop} {a:Act} {W:World} (R:World→Prop) (hR:R W) (h:∀ww,R ww→Code.wp P c Q a ww):Code.wp P c Q a W:=h W hR
theorem grown_row {w w':World} {row:Option Nat} {b:Nat} {c:Array Value} (h:w.grownBy w' row) (hr:rowOf w b=c) (hp:0 < c.size) (hne:row≠some b):rowOf w' b=c:=by
 have hl:b < w.heap.size:=by
  have h0:0 < (rowOf w b).size:=by rw [hr];exact hp
  obtain ⟨t,ht⟩:=rowOf_some h0
  exact (Array.getElem?_eq_some_iff.1 ht).1
 exact (rowOf_eq (h.block b hl (fun e=>hne e.symm))).trans hr
theorem row_lt {w:World} {b:Nat} {c:Array Value} (hr:rowOf w b=c) (hp:0 < c.size):b < w.heap.size:=by
 have h0:0 < (rowOf w b).size:=by rw [hr];exact hp
 obtain ⟨t,ht⟩:=rowOf_some h0
 exact (Array.getElem?_eq_some_iff.1 ht).1
theorem wp_appT {w:World} {o:Oper} {a:Act} {K:Act→World→Prop} {Q:Exit→Act→World→Prop} (s x:Operand)
 (ho:o.op=.call {callee:=.builtin .append,args:=#[s,x],argTypes:=#[22,22]})
 (base:Nat) (v:Value) (d:List S.It) (hv:a.eval s=v) (hown:OwnsT w base v d) (ax:Option Addr) (m c:Nat) (e:List S.It) (hx:a.eval x=.slice ax m c) (hh:HeldT w ax m e) (hmc:m≤c) (hnn:ax=none→c=0)
 (hsz:d.length+m≤2000000000000) (hbase:base≤w.heap.size)
 (h:∀v' w',OwnsT w' base v' (d++e)→w.grownBy w' v.ownBlock→(∀g,v'.ownBlock=some g→v.ownBlock=some g∨w.heap.size≤g)→K (a.put o.dst v') w'):o.wp Tryz.prog a w K Q:=
 wp_appH csT_len csT_one Tryz.underlying22 infoT rfl (by decide) s x ho base v d hv hown ax m c e hx hh hmc hnn (by unfold maxLen;omega) (by omega) hbase h
theorem wpList_appTH {w:World} {ops:Array Oper} {rest:List Oper} {o:Oper} {a:Act} {Q:Exit→Act→World→Prop} (hgd:o.guard=none) (s x:Operand)
 (ho:o.op=.call {callee:=.builtin .append,args:=#[s,x],argTypes:=#[22,22]})
 (base:Nat) (v:Value) (d:List S.It) (hv:a.eval s=v) (hown:OwnsT w base v d) (ax:Option Addr) (m c:Nat) (e:List S.It) (hx:a.eval x=.slice ax m c) (hh:HeldT w ax m e) (hmc:m≤c) (hnn:ax=none→c=0)
 (hsz:d.length+m≤2000000000000) (hbase:base≤w.heap.size)
 (h:∀v' w',OwnsT w' base v' (d++e)→w.grownBy w' v.ownBlock→(∀g,v'.ownBlock=some g→v.ownBlock=some g∨w.heap.size≤g)→wpList Tryz.prog ops Q rest (a.put o.dst v') w'):wpList Tryz.prog ops Q (o::rest) a w:=
 wpList_plain hgd fun K hK=>wp_appT s x ho base v d hv hown ax m c e hx hh hmc hnn hsz hbase fun v' w' k1 k2 k3=>hK _ _ (h v' w' k1 k2 k3)
theorem wp_appU {w:World} {o:Oper} {a:Act} {K:Act→World→Prop} {Q:Exit→Act→World→Prop} (s x:Operand)
 (ho:o.op=.call {callee:=.builtin .append,args:=#[s,x],argTypes:=#[31,31]})
 (base:Nat) (v:Value) (d:List S.Cp) (hv:a.eval s=v) (hown:OwnsU w base v d) (ax:Option Addr) (m c:Nat) (e:List S.Cp) (hx:a.eval x=.slice ax m c) (hh:HeldU w ax m e) (hmc:m≤c) (hnn:ax=none→c=0)
 (hsz:d.length+m≤3000000000000) (hbase:base≤w.heap.size)
 (h:∀v' w',OwnsU w' base v' (d++e)→w.grownBy w' v.ownBlock→(∀g,v'.ownBlock=some g→v.ownBlock=some g∨w.heap.size≤g)→K (a.put o.dst v') w'):o.wp Tryz.prog a w K Q:=
 wp_appH csU_len csU_one Tryz.underlying31 infoU rfl (by decide) s x ho base v d hv hown ax m c e hx hh hmc hnn (by unfold maxLen;omega) (by omega) hbase h
theorem step_appUH {w:World} {ops:Array Oper} {o:Oper} {a:Act} {K:Act→World→Prop} {Q:Exit→Act→World→Prop} {E:Prop} (hgd:o.guard=none) (s x:Operand)
 (ho:o.op=.call {callee:=.builtin .append,args:=#[s,x],argTypes:=#[31,31]})
 (base:Nat) (v:Value) (d:List S.Cp) (hv:a.eval s=v) (hown:OwnsU w base v d) (ax:Option Addr) (m c:Nat) (e:List S.Cp) (hx:a.eval x=.slice ax m c) (hh:HeldU w ax m e) (hmc:m≤c) (hnn:ax=none→c=0)
 (hsz:d.length+m≤3000000000000) (hbase:base≤w.heap.size)
 (h:∀v' w',OwnsU w' base v' (d++e)→w.grownBy w' v.ownBlock→(∀g,v'.ownBlock=some g→v.ownBlock=some g∨w.heap.size≤g)→K (a.put o.dst v') w'):if Region.wanted o (yielded ops a.tmps)=true then Oper.wp Tryz.prog o a w K Q else E:=by
 rw [if_pos (by simp [Region.wanted,hgd])]
 exact wp_appU s x ho base v d hv hown ax m c e hx hh hmc hnn hsz hbase h
theorem wpList_appUH {w:World} {ops:Array Oper} {rest:List Oper} {o:Oper} {a:Act} {Q:Exit→Act→World→Prop} (hgd:o.guard=none) (s x:Operand)
 (ho:o.op=.call {callee:=.builtin .append,args:=#[s,x],argTypes:=#[31,31]})
 (base:Nat) (v:Value) (d:List S.Cp) (hv:a.eval s=v) (hown:OwnsU w base v d) (ax:Option Addr) (m c:Nat) (e:List S.Cp) (hx:a.eval x=.slice ax m c) (hh:HeldU w ax m e) (hmc:m≤c) (hnn:ax=none→c=0)
 (hsz:d.length+m≤3000000000000) (hbase:base≤w.heap.size)
 (h:∀v' w',OwnsU w' base v' (d++e)→w.grownBy w' v.ownBlock→(∀g,v'.ownBlock=some g→v.ownBlock=some g∨w.heap.size≤g)→wpList Tryz.prog ops Q rest (a.put o.dst v') w'):wpList Tryz.prog ops Q (o::rest) a w:=
 wpList_plain hgd fun K hK=>wp_appU s x ho base v d hv hown ax m c e hx hh hmc hnn hsz hbase fun v' w' k1 k2 k3=>hK _ _ (h v' w' k1 k2 k3)
theorem wp_appO {w:World} {o:Oper} {a:Act} {K:Act→World→Prop} {Q:Exit→Act→World→Prop} (s x:Operand)
 (ho:o.op=.call {callee:=.builtin .append,args:=#[s,x],argTypes:=#[48,48]})
 (base:Nat) (v:Value) (d:List S.Ou) (hv:a.eval s=v) (hown:OwnsO w base v d) (ax:Option Addr) (m c:Nat) (e:List S.Ou) (hx:a.eval x=.slice ax m c) (hh:HeldO w ax m e) (hmc:m≤c) (hnn:ax=none→c=0)
 (hsz:d.length+m≤10000000000000) (hbase:base≤w.heap.size)
 (h:∀v' w',OwnsO w' base v' (d++e)→w.grownBy w' v.ownBlock→(∀g,v'.ownBlock=some g→v.ownBlock=some g∨w.heap.size≤g)→K (a.put o.dst v') w'):o.wp Tryz.prog a w K Q:=
 wp_appH csO_len csO_one Tryz.underlying48 infoO rfl (by decide) s x ho base v d hv hown ax m c e hx hh hmc hnn (by unfold maxLen;omega) (by omega) hbase h
theorem step_appOH {w:World} {ops:Array Oper} {o:Oper} {a:Act} {K:Act→World→Prop} {Q:Exit→Act→World→Prop} {E:Prop} (hgd:o.guard=none) (s x:Operand)
 (ho:o.op=.call {callee:=.builtin .append,args:=#[s,x],argTypes:=#[48,48]})
 (base:Nat) (v:Value) (d:List S.Ou) (hv:a.eval s=v) (hown:OwnsO w base v d) (ax:Option Addr) (m c:Nat) (e:List S.Ou) (hx:a.eval x=.slice ax m c) (hh:HeldO w ax m e) (hmc:m≤c) (hnn:ax=none→c=0)
 (hsz:d.length+m≤10000000000000) (hbase:base≤w.heap.size)
 (h:∀v' w',OwnsO w' base v' (d++e)→w.grownBy w' v.ownBlock→(∀g,v'.ownBlock=some g→v.ownBlock=some g∨w.heap.size≤g)→K (a.put o.dst v') w'):if Region.wanted o (yielded ops a.tmps)=true then Oper.wp Tryz.prog o a w K Q else E:=by
 rw [if_pos (by simp [Region.wanted,hgd])]
 exact wp_appO s x ho base v d hv hown ax m c e hx hh hmc hnn hsz hbase h
theorem wp_appV {w:World} {o:Oper} {a:Act} {K:Act→World→Prop} {Q:Exit→Act→World→Prop} (s x:Operand)
 (ho:o.op=.call {callee:=.builtin .append,args:=#[s,x],argTypes:=#[30,30]})
 (base:Nat) (v:Value) (d:List S.Ev) (hv:a.eval s=v) (hown:OwnsV w base v d) (ax:Option Addr) (m c:Nat) (e:List S.Ev) (hx:a.eval x=.slice ax m c) (hh:HeldV w ax m e) (hmc:m≤c) (hnn:ax=none→c=0)
 (hsz:d.length+m≤2000000000000) (hbase:base≤w.heap.size)
 (h:∀v' w',OwnsV w' base v' (d++e)→w.grownBy w' v.ownBlock→(∀g,v'.ownBlock=some g→v.ownBlock=some g∨w.heap.size≤g)→K (a.put o.dst v') w'):o.wp Tryz.prog a w K Q:=
 wp_appH csV_len csV_one Tryz.underlying30 infoV rfl (by decide) s x ho base v d hv hown ax m c e hx hh hmc hnn (by unfold maxLen;omega) (by omega) hbase h
theorem step_appVH {w:World} {ops:Array Oper} {o:Oper} {a:Act} {K:Act→World→Prop} {Q:Exit→Act→World→Prop} {E:Prop} (hgd:o.guard=none) (s x:Operand)
 (ho:o.op=.call {callee:=.builtin .append,args:=#[s,x],argTypes:=#[30,30]})
 (base:Nat) (v:Value) (d:List S.Ev) (hv:a.eval s=v) (hown:OwnsV w base v d) (ax:Option Addr) (m c:Nat) (e:List S.Ev) (hx:a.eval x=.slice ax m c) (hh:HeldV w ax m e) (hmc:m≤c) (hnn:ax=none→c=0)
 (hsz:d.length+m≤2000000000000) (hbase:base≤w.heap.size)
 (h:∀v' w',OwnsV w' base v' (d++e)→w.grownBy w' v.ownBlock→(∀g,v'.ownBlock=some g→v.ownBlock=some g∨w.heap.size≤g)→K (a.put o.dst v') w'):if Region.wanted o (yielded ops a.tmps)=true then Oper.wp Tryz.prog o a w K Q else E:=by
 rw [if_pos (by simp [Region.wanted,hgd])]
 exact wp_appV s x ho base v d hv hown ax m c e hx hh hmc hnn hsz hbase h
theorem wp_appB {w:World} {o:Oper} {a:Act} {K:Act→World→Prop} {Q:Exit→Act→World→Prop} (s x:Operand)
 (ho:o.op=.call {callee:=.builtin .append,args:=#[s,x],argTypes:=#[39,39]})
 (base:Nat) (v:Value) (d:List Int) (hv:a.eval s=v) (hown:OwnsB w base v d) (ax:Option Addr) (m c:Nat) (e:List Int) (hx:a.eval x=.slice ax m c) (hh:HeldB w ax m e) (hmc:m≤c) (hnn:ax=none→c=0)
 (hsz:d.length+m≤10000000000000) (hbase:base≤w.heap.size)
 (h:∀v' w',OwnsB w' base v' (d++e)→w.grownBy w' v.ownBlock→(∀g,v'.ownBlock=some g→v.ownBlock=some g∨w.heap.size≤g)→K (a.put o.dst v') w'):o.wp Tryz.prog a w K Q:=
 wp_appH csB_len csB_one Tryz.underlying39 infoB rfl (by decide) s x ho base v d hv hown ax m c e hx hh hmc hnn (by unfold maxLen;omega) (by omega) hbase h
theorem step_appBH {w:World} {ops:Array Oper} {o:Oper} {a:Act} {K:Act→World→Prop} {Q:Exit→Act→World→Prop} {E:Prop} (hgd:o.guard=none) (s x:Operand)
 (ho:o.op=.call {callee:=.builtin .append,args:=#[s,x],argTypes:=#[39,39]})
 (base:Nat) (v:Value) (d:List Int) (hv:a.eval s=v) (hown:OwnsB w base v d) (ax:Option Addr) (m c:Nat) (e:List Int) (hx:a.eval x=.slice ax m c) (hh:HeldB w ax m e) (hmc:m≤c) (hnn:ax=none→c=0)
 (hsz:d.length+m≤10000000000000) (hbase:base≤w.heap.size)
 (h:∀v' w',OwnsB w' base v' (d++e)→w.grownBy w' v.ownBlock→(∀g,v'.ownBlock=some g→v.ownBlock=some g∨w.heap.size≤g)→K (a.put o.dst v') w'):if Region.wanted o (yielded ops a.tmps)=true then Oper.wp Tryz.prog o a w K Q else E:=by
 rw [if_pos (by simp [Region.wanted,hgd])]
 exact wp_appB s x ho base v d hv hown ax m c e hx hh hmc hnn hsz hbase h
theorem wpList_appBH {w:World} {ops:Array Oper} {rest:List Oper} {o:Oper} {a:Act} {Q:Exit→Act→World→Prop} (hgd:o.guard=none) (s x:Operand)
 (ho:o.op=.call {callee:=.builtin .append,args:=#[s,x],argTypes:=#[39,39]})
 (base:Nat) (v:Value) (d:List Int) (hv:a.eval s=v) (hown:OwnsB w base v d) (ax:Option Addr) (m c:Nat) (e:List Int) (hx:a.eval x=.slice ax m c) (hh:HeldB w ax m e) (hmc:m≤c) (hnn:ax=none→c=0)
 (hsz:d.length+m≤10000000000000) (hbase:base≤w.heap.size)
 (h:∀v' w',OwnsB w' base v' (d++e)→w.grownBy w' v.ownBlock→(∀g,v'.ownBlock=some g→v.ownBlock=some g∨w.heap.size≤g)→wpList Tryz.prog ops Q rest (a.put o.dst v') w'):wpList Tryz.prog ops Q (o::rest) a w:=
 wpList_plain hgd fun K hK=>wp_appB s x ho base v d hv hown ax m c e hx hh hmc hnn hsz hbase fun v' w' k1 k2 k3=>hK _ _ (h v' w' k1 k2 k3)
end
section
variable {M N b cap len:Nat} {a:Option Addr} {w w' w1:World} {zs:List Int}
def Nb (w:World) (b:Nat) (a:Option Addr) (len cap:Nat) (N:Nat):Prop:=
 w.heap[b]? =some (.cells #[.slice a len cap,.int .i64 (N:Int)] 86 (0,0))∧len≤cap∧len≤4611686018427387904∧∀i,i < len→∃bx ox z,a=some ⟨bx,ox,none⟩∧bx < b∧w.cell? ⟨bx,ox+i,none⟩=some (.int .i64 z)
def Up (w:World) (b N:Nat) (w':World):Prop:=Adds (w.setCell ⟨b,1,none⟩ (.int .i64 (N:Int))) w'
theorem Up.of (h:Adds (w.setCell ⟨b,1,none⟩ (.int .i64 (N:Int))) w'):Up w b N w':=h
theorem Nb.lt (h:Nb w b a len cap N):b < w.heap.size:=(Array.getElem?_eq_some_iff.1 h.1).1
theorem Nb.of_heap (h:Nb w b a len cap N) (hk:∀k,k≤b→w'.heap[k]? =w.heap[k]?):Nb w' b a len cap N:=by
 refine ⟨(hk b (Nat.le_refl _)).trans h.1,h.2.1,h.2.2.1,fun i hi=> ?_⟩
 obtain ⟨bx,ox,z,h1,h2,h3⟩:=h.2.2.2 i hi
 exact ⟨bx,ox,z,h1,h2,by rw [←h3];simp only [World.cell?,hk bx (by omega)]⟩
theorem Nb.more (h:Nb w b a len cap N) (n:Nat) (os:Array Obj):Nb (More w n os) b a len cap N:=
 h.of_heap fun k hk=>More_heap w n os (by have:=h.lt;omega)
theorem Nb.alloc (h:Nb w b a len cap N) (o:Obj):Nb (w.alloc o) b a len cap N:=
 h.of_heap fun k hk=>heap_past w o (by have:=h.lt;omega)
theorem Nb.drew (h:Nb w b a len cap N):Nb w.drew b a len cap N:=h
theorem Nb.bump (h:Nb w b a len cap N) (M:Nat):Nb (w.setCell ⟨b,1,none⟩ (.int .i64 (M:Int))) b a len cap M:=by
 refine ⟨heap_setCell_same w b 1 _ _ _ h.1,h.2.1,h.2.2.1,fun i hi=> ?_⟩
 obtain ⟨bx,ox,z,h1,h2,h3⟩:=h.2.2.2 i hi
 refine ⟨bx,ox,z,h1,h2,?_⟩
 rw [←h3]
 simp only [World.cell?,heap_setCell_other w ⟨b,1,none⟩ bx _ (show bx≠b by omega)]
theorem Nb.up (h:Nb w b a len cap N) (u:Up w b M w'):Nb w' b a len cap M:=by
 obtain ⟨⟨n,os⟩,rfl⟩:=u
 exact (h.bump M).more n os
theorem setCell_twice (w:World) (b i:Nat) (v v':Value):(w.setCell ⟨b,i,none⟩ v).setCell ⟨b,i,none⟩ v'=w.setCell ⟨b,i,none⟩ v':=by
 simp only [World.setCell]
 congr 1
 apply Array.ext_getElem?
 intro k
 simp only [Array.getElem?_modify]
 by_cases hk:b=k
 ·simp only [hk,if_true,Option.map_map]
  cases w.heap[k]? with
  |none=>rfl
  |some o=>cases o<;>simp [Function.comp]
 ·simp [hk]
@[go_sem] theorem setCell_box (w:World) (b i:Nat) (v v':Value):(w.setCell ⟨b,i,none⟩ v).setCell ⟨b,i,none⟩ v'=w.setCell ⟨b,i,none⟩ v':=setCell_twice ..
theorem Up.then {w2:World} (h:Up w b N w1) (hb:b < w.heap.size) (k:Up w1 b M w2):Up w b M w2:=by
 obtain ⟨⟨n,os⟩,rfl⟩:=h
 unfold Up at k⊢
 rw [More_setCell (by rw [InB_setCell];exact hb),setCell_twice] at k
 exact ((Adds.refl _).more n os).trans k
theorem Up.alloc (h:Up w b N w1) (o:Obj):Up w b N (w1.alloc o):=Adds.alloc h o
theorem Up.pre {o:Obj} (h:Up (w.alloc o) b N w1) (hb:b < w.heap.size):Up w b N w1:=by
 unfold Up at h⊢
 rw [World.setCell_alloc_past o b 1 _ hb] at h
 exact ((Adds.refl _).alloc o).trans h
theorem Up.adds (h:Up w b N w1) {w0:World} (hb:w0.heap.size≤b) (k:Adds w0 w):Adds w0 w1:=(k.setCell hb _).trans h
theorem Nb.of_row (h:IsRow .i64 w a len cap zs) (hl:len≤1000):Nb (w.alloc (.cells #[.slice a len cap,.int .i64 0] 86)) w.heap.size a len cap 0:=by
 have hc:∀i,i < len→∃bx ox z,a=some ⟨bx,ox,none⟩∧bx < w.heap.size∧w.cell? ⟨bx,ox+i,none⟩=some (.int .i64 z):=by
  intro i hi
  rcases h with ⟨_,h0,_,_⟩|⟨x,rfl,h2,h3,h4,h5,h6⟩
  ·omega
  ·have hx:=h5 i (by omega)
   obtain ⟨bx,ox,sp⟩:=x
   have hx0:=h5 0 (by omega)
   rw [show (⟨bx,ox,sp⟩:Addr).add 0=⟨bx,ox,sp⟩ by simp [Addr.add]] at hx0
   obtain rfl:sp=none:=cell_spot hx0
   have hadd:(⟨bx,ox,none⟩:Addr).add i=⟨bx,ox+i,none⟩:=by unfold Addr.add;split<;>simp_all
   rw [hadd] at hx
   exact ⟨bx,ox,_,rfl,cell_lt hx,hx⟩
 have hlc:len≤cap:=by
  rcases h with ⟨_,h0,_,_⟩|⟨x,rfl,h2,_⟩
  ·omega
  ·exact h2
 refine ⟨heap_last w _,hlc,by omega,fun i hi=> ?_⟩
 obtain ⟨bx,ox,z,h1,h2,h3⟩:=hc i hi
 exact ⟨bx,ox,z,h1,h2,by rw [World.cell?_alloc_lt w _ _ h2];exact h3⟩
theorem Nb.from (hb:b=w.heap.size) (h:IsRow .i64 w a len cap zs) (hl:len≤1000):Nb (w.alloc (.cells #[.slice a len cap,.int .i64 0] 86)) b a len cap 0:=by
 subst hb;exact Nb.of_row h hl
theorem Nb.at (hb:b=w.heap.size) (h:IsRow .i64 w a len cap zs) (hl:len≤1000):Nb (w.alloc (.cells #[.slice a len cap,.int .i64 (N:Int)] 86)) b a len cap N:=by
 have k:=Nb.from hb h hl
 refine ⟨?_,k.2.1,k.2.2.1,fun i hi=> ?_⟩
 ·subst hb;exact heap_last w _
 ·obtain ⟨bx,ox,z,h1,h2,h3⟩:=k.2.2.2 i hi
  refine ⟨bx,ox,z,h1,h2,?_⟩
  rw [World.cell?_alloc_lt w _ _ (show bx < w.heap.size by omega)] at h3⊢
  exact h3
theorem nx_one (b len cap N:Nat) (a:Option Addr) (n:Int) (n0:1≤n) (n1:n≤65536) (hM:N≤100000000) (w:World) (h:Nb w b a len cap N):
 Calls Tryz.prog 18 #[.pointer (some ⟨b,0,none⟩),.int .i64 n] w fun e w'=>∃(y:Int) (M:Nat),0≤y∧y < n∧(N < M∧M≤N+1)∧e=.returned (.int .i64 y)∧Up w b M w':=by
 have hB:=h.lt
 obtain ⟨hh,hlc,hl62,hx⟩:=h
 have h0:w.cell? ⟨b,0,none⟩=some (.slice a len cap):=by rw [cell_of_row w b 0 _ _ _ hh];rfl
 have h1:w.cell? ⟨b,1,none⟩=some (.int .i64 (N:Int)):=by rw [cell_of_row w b 1 _ _ _ hh];rfl
 have hf:w.frozen? ⟨b,1,none⟩=false:=frozen_of_row w b 1 _ _ hh
 by_cases hN:N < len
 ·obtain ⟨bx,ox,z,rfl,hb,hz⟩:=hx N hN
  refine (next_some b bx ox len cap N z n n0 n1 hN (by omega) (by omega) hlc w hB hb h0 h1 hf hz).mono ?_
  rintro e w' ⟨rfl,p,rfl⟩
  obtain ⟨q0,q1⟩:=S.plc_bd z n n0
  exact ⟨S.plc z n,N+1,q0,q1,⟨by omega,by omega⟩,rfl,p,rfl⟩
 ·refine (next_none b len cap N a n (by omega) (by omega) w hB h0 h1 hf).mono ?_
  rintro e w' ⟨rfl,p,rfl⟩
  exact ⟨0,N+1,by omega,by omega,⟨by omega,by omega⟩,rfl,p,rfl⟩
theorem nx_any (b len cap N:Nat) (a:Option Addr) (n:Int) (n0:1≤n) (n1:n≤65536) (hM:N≤100000000) (w:World) (h:Nb w b a len cap N):
 Calls Tryz.prog 18 #[.pointer (some ⟨b,0,none⟩),.int .i64 n] w fun e w'=>∃(y:Int) (M:Nat),0≤y∧y < n∧M≤N+1∧e=.returned (.int .i64 y)∧Up w b M w':=
 (nx_one b len cap N a n n0 n1 hM w h).mono fun e w' ⟨y,M,h0,h1,hm,he,hu⟩=>⟨y,M,h0,h1,hm.2,he,hu⟩
theorem flg_any (b len cap N:Nat) (a:Option Addr) (hM:N≤99999000) (h:Nb w b a len cap N):
 Calls Tryz.prog 19 #[.pointer (some ⟨b,0,none⟩)] w fun e w'=>∃(f:Bool) (M:Nat),M≤N+1∧e=.returned (.bool f)∧Up w b M w':=by
 have H:Hid _:=Lib.hid h
 clear h
 go_enter Tryz.func19,Tryz.ntmps19
 go_wp2_with (go_at_call 18;(with_reducible refine (nx_any b len cap N a 2 (by omega) (by omega) (by omega) w H.out).mono ?_);rintro e w1 ⟨y,M,hy0,hy1,hM1,rfl,hU⟩)
 go_ret
 exact ⟨_,M,hM1,rfl,hU⟩
theorem chp_any (b len cap N:Nat) (a:Option Addr) (hM:N≤99999000) (h:Nb w b a len cap N):
 Calls Tryz.prog 27 #[.pointer (some ⟨b,0,none⟩)] w fun e w'=>∃(c:Int) (M:Nat),1≤c∧c≤2∧M≤N+1∧e=.returned (.int .i64 c)∧Up w b M w':=by
 have H:Hid _:=Lib.hid h
 clear h
 go_enter Tryz.func27,Tryz.ntmps27
 go_wp2_with (go_at_call 18;(with_reducible refine (nx_any b len cap N a 2 (by omega) (by omega) (by omega) w H.out).mono ?_);rintro e w1 ⟨y,M,hy0,hy1,hM1,rfl,hU⟩)
 go_ret
 exact ⟨1+y,M,by omega,by omega,hM1,rfl,hU⟩
theorem lt8 (y:Int) (h0:0≤y) (h:y < 8):∃(k:Nat) (o:Int),y=(k:Int)∧0≤o∧o < 65536∧(#[.int .u16 0,.int .u16 1,.int .u16 65535,.int .u16 65534,.int .u16 32767,.int .u16 32768,.int .u16 255,.int .u16 256]:Array Value)[k]? =some (.int .u16 o):=by
 rcases (by omega:y=0∨y=1∨y=2∨y=3∨y=4∨y=5∨y=6∨y=7) with rfl|rfl|rfl|rfl|rfl|rfl|rfl|rfl
 ·exact ⟨0,0,rfl,by omega,by omega,rfl⟩
 ·exact ⟨1,1,rfl,by omega,by omega,rfl⟩
 ·exact ⟨2,65535,rfl,by omega,by omega,rfl⟩
 ·exact ⟨3,65534,rfl,by omega,by omega,rfl⟩
 ·exact ⟨4,32767,rfl,by omega,by omega,rfl⟩
 ·exact ⟨5,32768,rfl,by omega,by omega,rfl⟩
 ·exact ⟨6,255,rfl,by omega,by omega,rfl⟩
 ·exact ⟨7,256,rfl,by omega,by omega,rfl⟩
theorem wrd_any (b len cap N:Nat) (a:Option Addr) (hM:N≤99999000) (w:World) (h:Nb w b a len cap N):
 Calls Tryz.prog 20 #[.pointer (some ⟨b,0,none⟩)] w fun e w'=>∃(y:Int) (M:Nat),0≤y∧y < 65536∧M≤N+2∧e=.returned (.int .u16 y)∧Up w b M w':=by
 have hbw:=h.lt
 have H:Hid _:=Lib.hid h
 clear h
 go_enter Tryz.func20,Tryz.ntmps20
 go_wp2_with (first
  |(go_at_call 18;(with_reducible refine (nx_any b len cap M1 a 8 (by omega) (by omega) (by omega) (w1.alloc (.cells #[.int .u16 0,.int .u16 1,.int .u16 65535,.int .u16 65534,.int .u16 32767,.int .u16 32768,.int .u16 255,.int .u16 256] 34)) ((H.out.up hU1.out).alloc _)).mono ?_);rintro e w2 ⟨y2,M2,hy20,hy21,hM2,rfl,hU2'⟩;obtain ⟨k,o,rfl,ho0,ho1,ho2⟩:=lt8 y2 hy20 hy21;have hb1:=(H.out.up hU1.out).lt;have hU2:=hU2';obtain ⟨⟨n2,os2⟩,hw2⟩:=hU2';have hc:w2.cell? ⟨w1.heap.size,k,none⟩=some (.int .u16 o):=(by rw [hw2,More_cell (by rw [InB_setCell,InB_alloc];exact .inl rfl),World.setCell_alloc_past _ _ _ _ hb1,cell_of_row _ _ _ _ _ (0,0) (by have:=heap_last (w1.setCell ⟨b,1,none⟩ (.int .i64 (M2:Int))) (.cells #[.int .u16 0,.int .u16 1,.int .u16 65535,.int .u16 65534,.int .u16 32767,.int .u16 32768,.int .u16 255,.int .u16 256] 34);simpa using this)];exact ho2);clear hw2 ho2;have hk8:(k:Int) < 8:=hy21)
  |(go_at_call 18;(with_reducible refine (nx_any b len cap M1 a 65536 (by omega) (by omega) (by omega) w1 (H.out.up hU1.out)).mono ?_);rintro e w2 ⟨y2,M2,hy20,hy21,hM2,rfl,hU2⟩;have hwr:IntKind.u16.wrap y2=y2:=(by simp [IntKind.wrap,IntKind.bits,IntKind.signed];omega);have hwr2:y2 % 65536=y2:=(by omega))
  |(go_at_call 18;(with_reducible refine (nx_any b len cap M1 a 64 (by omega) (by omega) (by omega) w1 (H.out.up hU1.out)).mono ?_);rintro e w2 ⟨y2,M2,hy20,hy21,hM2,rfl,hU2⟩;have hwr:IntKind.u16.wrap y2=y2:=(by simp [IntKind.wrap,IntKind.bits,IntKind.signed];omega);have hwr2:y2 % 65536=y2:=(by omega))
  |(go_at_call 18;(with_reducible refine (nx_any b len cap N a 5 (by omega) (by omega) (by omega) w H.out).mono ?_);rintro e w1 ⟨y1,M1,hy10,hy11,hM1,rfl,hU1'⟩;have hU1:=Lib.hid hU1';clear hU1'))
 ·go_ret
  exact ⟨o,M2,ho0,ho1,by omega,rfl,hU1.out.then hbw (hU2.pre hb1)⟩
 ·go_ret
  exact ⟨y2,M2,hy20,hy21,by omega,rfl,hU1.out.then hbw hU2⟩
 ·go_ret
  exact ⟨y2,M2,hy20,by omega,by omega,rfl,hU1.out.then hbw hU2⟩
theorem lt16 (y:Nat) (h:y < 16):∃o:Nat,o < 256∧(#[.int .u8 0,.int .u8 1,.int .u8 127,.int .u8 128,.int .u8 255,.int .u8 15,.int .u8 16,.int .u8 153,.int .u8 154,.int .u8 9,.int .u8 102,.int .u8 254,.int .u8 129,.int .u8 85,.int .u8 170,.int .u8 64]:Array Value)[y]? =some (.int .u8 (o:Int)):=by
 match y,h with
 |0,_=>exact ⟨0,by omega,rfl⟩
 |1,_=>exact ⟨1,by omega,rfl⟩
 |2,_=>exact ⟨127,by omega,rfl⟩
 |3,_=>exact ⟨128,by omega,rfl⟩
 |4,_=>exact ⟨255,by omega,rfl⟩
 |5,_=>exact ⟨15,by omega,rfl⟩
 |6,_=>exact ⟨16,by omega,rfl⟩
 |7,_=>exact ⟨153,by omega,rfl⟩
 |8,_=>exact ⟨154,by omega,rfl⟩
 |9,_=>exact ⟨9,by omega,rfl⟩
 |10,_=>exact ⟨102,by omega,rfl⟩
 |11,_=>exact ⟨254,by omega,rfl⟩
 |12,_=>exact ⟨129,by omega,rfl⟩
 |13,_=>exact ⟨85,by omega,rfl⟩
 |14,_=>exact ⟨170,by omega,rfl⟩
 |15,_=>exact ⟨64,by omega,rfl⟩
 |y+16,h=>exact absurd h (by omega)
theorem byt_any (b len cap N:Nat) (a:Option Addr) (hM:N≤99999000) (w:World) (h:Nb w b a len cap N):
 Calls Tryz.prog 21 #[.pointer (some ⟨b,0,none⟩)] w fun e w'=>∃(y:Int) (M:Nat),0≤y∧y < 256∧M≤N+2∧e=.returned (.int .u8 y)∧Up w b M w':=by
 have H:Hid _:=Lib.hid h
 clear h
 go_enter Tryz.func21,Tryz.ntmps21
 go_wp2_with (go_at_call 18;(with_reducible refine (nx_any b len cap N a 512 (by omega) (by omega) (by omega) w H.out).mono ?_);rintro e w1 ⟨z1,M1,hz10,hz11,hM1,rfl,hU1⟩;obtain ⟨y1,rfl⟩:∃k:Nat,z1=(k:Int):=⟨z1.toNat,by omega⟩;obtain ⟨q,hq⟩:∃q,q=y1 % 16:=⟨_,rfl⟩;obtain ⟨o,ho1,ho2⟩:=lt16 q (by omega);have hmod:(y1:Int) % 16=(q:Int):=(by omega);have hmod2:(y1:Int).tmod 16=(q:Int):=(by rw [Int.tmod_eq_emod_of_nonneg (by omega)];omega);have hq16:(q:Int) < 16:=(by omega);have hc:(w1.alloc (.cells #[.int .u8 0,.int .u8 1,.int .u8 127,.int .u8 128,.int .u8 255,.int .u8 15,.int .u8 16,.int .u8 153,.int .u8 154,.int .u8 9,.int .u8 102,.int .u8 254,.int .u8 129,.int .u8 85,.int .u8 170,.int .u8 64] 5)).cell? ⟨w1.heap.size,q,none⟩=some (.int .u8 (o:Int)):=(by rw [cell_of_row _ _ _ _ _ (0,0) (heap_last w1 _)];exact ho2);have HQ:=Lib.hid hq;clear hq)
 ·go_ret
  exact ⟨o,M1,by omega,by omega,by omega,rfl,hU1.alloc _⟩
 ·go_ret
  exact ⟨y1 % 256,M1,by omega,by omega,by omega,ri (by omega),hU1⟩
end
section
section
variable {P:Program} {ops:Array Oper} {Q:Exit→Act→World→Prop} {md:Region.Mode}
theorem count_set:∀(L:List Bool) (i:Nat),L[i]? =some false→(L.set i true).countP (fun b=> !b)+1=L.countP (fun b=> !b)
 |[],i,h=>by simp at h
 |x::xs,0,h=>by
  simp at h
  subst h
  simp
 |x::xs,i+1,h=>by
  have k:=count_set xs i (by simpa using h)
  simp only [List.set_cons_succ,List.countP_cons]
  omega
theorem unlisted {L:Array Bool} {i:Nat} (h:L.getD i true=false):L[i]? =some false:=by
 rw [Array.getD_eq_getD_getElem?] at h
 cases hx:L[i]? with
 |none=>simp [hx] at h
 |some x=>simp [hx] at h;rw [h]
theorem listed_set (L:Array Bool) (i j:Nat) (h:(L.setIfInBounds i true).getD j false=true):j=i∨L.getD j false=true:=by
 by_cases e:i=j
 ·exact .inl e.symm
 ·rw [Array.getD_eq_getD_getElem?,Array.getElem?_setIfInBounds_ne e] at h
  exact .inr (by rw [Array.getD_eq_getD_getElem?];exact h)
theorem listed_set_ne (L:Array Bool) (i j:Nat) (h:i≠j):(L.setIfInBounds i true).getD j false=L.getD j false:=by
 rw [Array.getD_eq_getD_getElem?,Array.getElem?_setIfInBounds_ne h,Array.getD_eq_getD_getElem?]
theorem listed_set_same (L:Array Bool) (i:Nat) (h:i < L.size):(L.setIfInBounds i true).getD i false=true:=by
 rw [Array.getD_eq_getD_getElem?,Array.getElem?_setIfInBounds_self]
 simp [h]
theorem wpAny_inv (Inv:Nat→Array Bool→Act→World→Prop)
 (hs:∀n L a w i,n < ops.size→L.size=ops.size→Inv n L a w→i∈Region.ready md ops L→wpOp P ops Q i (fun a' w'=>Inv (n+1) (L.setIfInBounds i true) a' w') a w)
 (he:∀n L a w,n≤ops.size→L.size=ops.size→Inv n L a w→Region.ready md ops L=[]→Q .normal a w):
 ∀(fuel n:Nat) (L:Array Bool) (a:Act) (w:World),n+fuel=ops.size→L.size=ops.size→L.toList.countP (fun b=> !b)≤fuel→Inv n L a w→wpAny P md ops Q fuel L a w
 |0,n,L,a,w,hf,hz,hc,hI=>by
  have hr:Region.ready md ops L=[]:=by
   cases hr:Region.ready md ops L with
   |nil=>rfl
   |cons i is=>
    have hi:i∈Region.ready md ops L:=by rw [hr];exact List.mem_cons_self
    have k:=count_set L.toList i (by simpa using unlisted (mem_ready.1 hi).1)
    omega
  exact ⟨hr,he n L a w (by omega) hz hI hr⟩
 |fuel+1,n,L,a,w,hf,hz,hc,hI=>by
  refine ⟨fun hr=>he n L a w (by omega) hz hI hr,fun i hi=>wpOp_mono (fun a' w' h'=> ?_) (hs n L a w i (by omega) hz hI hi)⟩
  have k:=count_set L.toList i (by simpa using unlisted (mem_ready.1 hi).1)
  exact wpAny_inv Inv hs he fuel (n+1) _ a' w' (by omega) (by simpa using hz) (by rw [Array.toList_setIfInBounds];omega) h'
theorem ready_dep {L:Array Bool} {i j:Nat} (h:i∈Region.ready md ops L) (hj:((ops[i]?).map fun o=>o.after.any fun e=>Region.binds md e && e.on==j)=some true):L.getD j false=true:=by
 obtain ⟨_,o,ho,hall⟩:=mem_ready.1 h
 rw [ho] at hj
 simp only [Option.map_some,Option.some.injEq,Array.any_eq_true'] at hj
 obtain ⟨e,he,hb⟩:=hj
 simp only [Bool.and_eq_true,beq_iff_eq] at hb
 rw [←hb.2]
 exact hall e he hb.1
theorem all_listed {L:Array Bool} (hac:((List.range ops.size).all fun i=>((ops[i]?).map fun o=>o.after.all fun e=>decide (e.on < i)).getD true)=true) (hz:L.size=ops.size) (hr:Region.ready md ops L=[]):∀i,i < ops.size→L.getD i false=true:=by
 intro i
 induction i using Nat.strongRecOn with
 |_ i ih=>
  intro hi
  cases hl:L.getD i false with
  |true=>rfl
  |false=>
   have hm:i∈Region.ready md ops L:=mem_ready.2 ⟨by
    rw [Array.getD_eq_getD_getElem?] at hl⊢
    have:L[i]? =some L[i]:=Array.getElem?_eq_getElem (by omega)
    rw [this] at hl⊢
    exact hl,ops[i],Array.getElem?_eq_getElem hi,fun e he _=>by
     have h1:=List.all_eq_true.1 hac i (List.mem_range.2 hi)
     rw [Array.getElem?_eq_getElem hi] at h1
     simp only [Option.map_some,Option.getD_some,Array.all_eq_true'] at h1
     have h2:e.on < i:=by simpa using h1 e he
     exact ih e.on h2 (by omega)⟩
   rw [hr] at hm
   cases hm
variable {i t s:Nat} {K:Act→World→Prop} {a:Act} {w w':World} {v x y:Value}
@[noinline] def secondOps (f:Func):Array Oper:=match f.body with
 |some (.seq _ (.seq (.region _ ops _) _))=>ops
 |_=>#[]
theorem replicate_getD (n i:Nat):(Array.replicate n false).getD i false=false:=by
 rw [Array.getD_eq_getD_getElem?,Array.getElem?_replicate]
 split<;>rfl
theorem region_as {id:Nat} {ops':Array Oper} (h:ops=ops') (hw:(Code.region id ops' true).wp P Q a w):(Code.region id ops true).wp P Q a w:=h▸hw
theorem st_val {o:Oper} (ho:ops[i]? =some o) (hg:o.guard=none) (hd:o.dst=some t) (hr:(execOp a.eval o).run P w=.ok (.value v) w') (h:K (a.put (some t) v) w'):wpOp P ops Q i K a w:=by
 unfold wpOp
 simp only [ho,Region.wanted,hg,if_true]
 refine .inl ?_
 unfold Oper.wp
 rw [hr]
 simp only [Oper.upon,hd]
 exact h
theorem st_skip {o:Oper} (ho:ops[i]? =some o) (hg:o.guard=none) (hd:o.dst=none) (hr:(execOp a.eval o).run P w=.ok .skip w') (h:K a w'):wpOp P ops Q i K a w:=by
 unfold wpOp
 simp only [ho,Region.wanted,hg,if_true]
 refine .inl ?_
 unfold Oper.wp
 rw [hr]
 simp only [Oper.upon,hd]
 exact h
theorem st_enter {o:Oper} {f:FuncId} {args:Array Value} (ho:ops[i]? =some o) (hg:o.guard=none) (hd:o.dst=some t) (hr:(execOp a.eval o).run P w=.ok (.enter f args) w')
 (hc:Calls P f args w' fun e w''=>∃v,e=.returned v∧K (a.put (some t) v) w''):wpOp P ops Q i K a w:=by
 unfold wpOp
 simp only [ho,Region.wanted,hg,if_true]
 refine .inl ?_
 unfold Oper.wp
 rw [hr]
 simp only [Oper.upon,hd]
 refine hc.mono ?_
 rintro e w'' ⟨v,rfl,hk⟩
 exact hk
theorem op_of {d:Option Tmp} {op:Op} (h:(ops[i]?).map (fun o=>(o.dst,o.op,o.guard))=some (d,op,none)):∃ty pos aft,ops[i]? =some {dst:=d,op:=op,type:=ty,pos:=pos,after:=aft,guard:=none}:=by
 cases ho:ops[i]? with
 |none=>rw [ho] at h;cases h
 |some o=>
  rw [ho] at h
  obtain ⟨d',op',ty,pos,aft,g⟩:=o
  simp only [Option.map_some,Option.some.injEq,Prod.mk.injEq] at h
  obtain ⟨rfl,rfl,rfl⟩:=h
  exact ⟨ty,pos,aft,rfl⟩
theorem st_move (ho:(ops[i]?).map (fun o=>(o.dst,o.op,o.guard))=some (some t,.move (.tmp s),none)) (hx:a.tmps.getD s undef=v) (h:K (a.put (some t) v) w):wpOp P ops Q i K a w:=
 let ⟨ty,pos,aft,ho⟩:=op_of ho;st_val ho rfl rfl (by show Result.ok (Next.value (a.tmps.getD s undef)) w=_;rw [hx]) h
theorem st_call1 {f:FuncId} {ats:Array TypeId} (ho:(ops[i]?).map (fun o=>(o.dst,o.op,o.guard))=some (some t,.call {callee:=.value (.func f),args:=#[.tmp s],argTypes:=ats},none)) (hx:a.tmps.getD s undef=x)
 (hf:(callFunc f #[x]).run P w=.ok (.enter f #[x]) w) (hc:Calls P f #[x] w fun e w''=>∃v,e=.returned v∧K (a.put (some t) v) w''):wpOp P ops Q i K a w:=
 let ⟨ty,pos,aft,ho⟩:=op_of ho;st_enter ho rfl rfl (by show (callFunc f (#[]++(#[Operand.tmp s]:Array Operand).map a.eval++#[])).run P w=_;have e:(#[]++(#[Operand.tmp s]:Array Operand).map a.eval++#[])=#[x]:=(by rw [←hx];simp [Act.eval]);rw [e];exact hf) hc
theorem st_call2 {f:FuncId} {ats:Array TypeId} {c:Value} (ho:(ops[i]?).map (fun o=>(o.dst,o.op,o.guard))=some (some t,.call {callee:=.value (.func f),args:=#[.tmp s,.const c],argTypes:=ats},none)) (hx:a.tmps.getD s undef=x)
 (hf:(callFunc f #[x,c]).run P w=.ok (.enter f #[x,c]) w) (hc:Calls P f #[x,c] w fun e w''=>∃v,e=.returned v∧K (a.put (some t) v) w''):wpOp P ops Q i K a w:=
 let ⟨ty,pos,aft,ho⟩:=op_of ho;st_enter ho rfl rfl (by show (callFunc f (#[]++(#[Operand.tmp s,Operand.const c]:Array Operand).map a.eval++#[])).run P w=_;have e:(#[]++(#[Operand.tmp s,Operand.const c]:Array Operand).map a.eval++#[])=#[x,c]:=(by rw [←hx];simp [Act.eval]);rw [e];exact hf) hc
theorem st_binc {op:BinOp} {xt yt:TypeId} {c:Value} (ho:(ops[i]?).map (fun o=>(o.dst,o.op,o.guard))=some (some t,.binOp op xt (.tmp s) (.const c) yt,none)) (hx:a.tmps.getD s undef=x)
 (hr:(do eqGuard op xt (.tmp s) (.const c) x c;binOp op xt x c:Sem Value).run P w=.ok v w) (h:K (a.put (some t) v) w):wpOp P ops Q i K a w:=
 let ⟨ty,pos,aft,ho⟩:=op_of ho;st_val ho rfl rfl (by
  subst hx
  show (do let z←(do eqGuard op xt (.tmp s) (.const c) (a.tmps.getD s undef) c;binOp op xt (a.tmps.getD s undef) c:Sem Value);pure (Next.value z):Sem Next).run P w=_
  rw [Sem.run_bind,hr];rfl) h
theorem st_conv {xt yt:TypeId} (ho:(ops[i]?).map (fun o=>(o.dst,o.op,o.guard))=some (some t,.convert xt yt (.tmp s),none)) (hx:a.tmps.getD s undef=x)
 (hr:(convert xt yt x).run P w=.ok v w) (h:K (a.put (some t) v) w):wpOp P ops Q i K a w:=
 let ⟨ty,pos,aft,ho⟩:=op_of ho;st_val ho rfl rfl (by
  subst hx
  show (do let z←convert xt yt (a.tmps.getD s undef);pure (Next.value z):Sem Next).run P w=_
  rw [Sem.run_bind,hr];rfl) h
theorem st_indexAddr {xt:TypeId} {s':Nat} (ho:(ops[i]?).map (fun o=>(o.dst,o.op,o.guard))=some (some t,.indexAddr xt (.tmp s) (.tmp s'),none)) (hx:a.tmps.getD s undef=x) (hy:a.tmps.getD s' undef=y)
 (hr:(Instr.indexAt xt x y).run P w=.ok v w) (h:K (a.put (some t) v) w):wpOp P ops Q i K a w:=
 let ⟨ty,pos,aft,ho⟩:=op_of ho;st_val ho rfl rfl (by
  subst hx hy
  show (do let z←Instr.indexAt xt (a.tmps.getD s undef) (a.tmps.getD s' undef);pure (Next.value z):Sem Next).run P w=_
  rw [Sem.run_bind,hr];rfl) h
theorem st_load {xt:TypeId} (ho:(ops[i]?).map (fun o=>(o.dst,o.op,o.guard))=some (some t,.load xt (.tmp s),none)) (hx:a.tmps.getD s undef=x)
 (hr:(Instr.loadAt xt x).run P w=.ok v w) (h:K (a.put (some t) v) w):wpOp P ops Q i K a w:=
 let ⟨ty,pos,aft,ho⟩:=op_of ho;st_val ho rfl rfl (by
  subst hx
  show (do let z←Instr.loadAt xt (a.tmps.getD s undef);pure (Next.value z):Sem Next).run P w=_
  rw [Sem.run_bind,hr];rfl) h
theorem st_store {xt:TypeId} {s':Nat} (ho:(ops[i]?).map (fun o=>(o.dst,o.op,o.guard))=some (none,.store xt (.tmp s) (.tmp s'),none)) (hx:a.tmps.getD s undef=x) (hy:a.tmps.getD s' undef=y)
 (hr:(Instr.storeAt xt x y).run P w=.ok () w') (h:K a w'):wpOp P ops Q i K a w:=
 let ⟨ty,pos,aft,ho⟩:=op_of ho;st_skip ho rfl rfl (by
  subst hx hy
  show (do Instr.storeAt xt (a.tmps.getD s undef) (a.tmps.getD s' undef);pure Next.skip:Sem Next).run P w=_
  rw [Sem.run_bind,hr];rfl) h
theorem st_build {xt:TypeId} {parts:Array (Nat×Operand)} {vs:Array (Nat×Value)} (ho:(ops[i]?).map (fun o=>(o.dst,o.op,o.guard))=some (some t,.build xt parts,none)) (hp:(parts.map fun (i,x)=>(i,a.eval x))=vs)
 (hr:(Instr.build xt vs).run P w=.ok v w') (h:K (a.put (some t) v) w'):wpOp P ops Q i K a w:=
 let ⟨ty,pos,aft,ho⟩:=op_of ho;st_val ho rfl rfl (by
  subst hp
  show (do let z←Instr.build xt (parts.map fun (i,x)=>(i,a.eval x));pure (Next.value z):Sem Next).run P w=_
  rw [Sem.run_bind,hr];rfl) h
theorem st_buildSlice {xt:TypeId} {len:Nat} {parts:Array (Nat×Operand)} {vs:Array (Nat×Value)} (ho:(ops[i]?).map (fun o=>(o.dst,o.op,o.guard))=some (some t,.buildSlice xt len parts,none)) (hp:(parts.map fun (i,x)=>(i,a.eval x))=vs)
 (hr:(Instr.buildSlice xt len vs).run P w=.ok v w') (h:K (a.put (some t) v) w'):wpOp P ops Q i K a w:=
 let ⟨ty,pos,aft,ho⟩:=op_of ho;st_val ho rfl rfl (by
  subst hp
  show (do let z←Instr.buildSlice xt len (parts.map fun (i,x)=>(i,a.eval x));pure (Next.value z):Sem Next).run P w=_
  rw [Sem.run_bind,hr];rfl) h
end
def KeepsJ (b:Nat) (w w':World):Prop:=∀c,c≠b→c < w.heap.size→w'.heap[c]? =w.heap[c]?
theorem Up.keepsJ {w w':World} {b N:Nat} (h:Up w b N w'):KeepsJ b w w':=by
 obtain ⟨⟨n,os⟩,rfl⟩:=h
 intro c hc hl
 have e:(w.setCell ⟨b,1,none⟩ (.int .i64 (N:Int))).heap.size=w.heap.size:=Array.size_modify ..
 rw [More_heap _ _ _ (by rw [e];exact hl),heap_setCell_other w ⟨b,1,none⟩ c _ hc]
theorem Up.size {w w':World} {b N:Nat} (h:Up w b N w'):w.heap.size≤w'.heap.size:=by
 have:=Adds.below h
 have e:(w.setCell ⟨b,1,none⟩ (.int .i64 (N:Int))).heap.size=w.heap.size:=Array.size_modify ..
 have:=this.size
 omega
theorem Up.reflJ {w:World} {b len cap N:Nat} {a:Option Addr} (h:Nb w b a len cap N):Up w b N w:=by
 have e:w.setCell ⟨b,1,none⟩ (.int .i64 (N:Int))=w:=by
  have hs:=heap_setCell_same w b 1 _ _ (.int .i64 (N:Int)) h.1
  have hw:(w.setCell ⟨b,1,none⟩ (.int .i64 (N:Int))).heap=w.heap:=by
   apply Array.ext_getElem?
   intro k
   by_cases hk:k=b
   ·subst hk;rw [hs,h.1];rfl
   ·exact heap_setCell_other w ⟨b,1,none⟩ k _ hk
  show ({w with heap:=(w.setCell ⟨b,1,none⟩ (.int .i64 (N:Int))).heap}:World)=w
  rw [hw]
 unfold Up
 rw [e]
 exact Adds.refl w
def regOps:Code→Nat→Option (Array Oper)
 | .region i ops _,k=>if i=k then some ops else none
 | .seq c d,k=>(regOps c k).orElse fun _=>regOps d k
 | .block _ c,k=>regOps c k
 | .loop c,k=>regOps c k
 | .cond _ c d,k=>(regOps c k).orElse fun _=>regOps d k
 |_,_=>none
end
section
variable {w:World}
theorem rchk_any {c r p:Int}:Calls Tryz.prog 55 #[.int .u8 c,.int .u8 r,.int .u8 p] w fun e w'=>e=.returned (.int .u8 (S.chk c r p))∧w=w':=by
 go_enter Tryz.func55,Tryz.ntmps55
 go_wp2
 go_ret
 exact ⟨rfl,rfl⟩
theorem ridle_any:Calls Tryz.prog 56 #[] w fun e w'=>e=.returned (.agg S.idle.cs)∧Adds w w':=by
 go_enter Tryz.func56,Tryz.ntmps56
 go_wp2
 exact bodyPost_ret (ret_Input Tryz.results56 rfl (by simp [go_sem];rfl) rfl) rfl ⟨rfl,aD⟩
theorem rbit_0 (c:Bool) (w:World):Calls Tryz.prog 74 #[.bool c,.int .i64 0] w fun e w'=>e=.returned (.int .u8 (S.wh c 1))∧w=w':=by
 have hs:∀w:World,Sem.run Tryz.prog (Op.shift BinOp.shl IntKind.u8 1 IntKind.i64 0) w=.ok (.int .u8 1) w:=fun _=>by kernel_rfl
 cases c
 all_goals
  go_enter Tryz.func74,Tryz.ntmps74
  go_wp2
  go_ret
  exact ⟨rfl,rfl⟩
theorem rbit_1 (c:Bool) (w:World):Calls Tryz.prog 74 #[.bool c,.int .i64 1] w fun e w'=>e=.returned (.int .u8 (S.wh c 2))∧w=w':=by
 have hs:∀w:World,Sem.run Tryz.prog (Op.shift BinOp.shl IntKind.u8 1 IntKind.i64 1) w=.ok (.int .u8 2) w:=fun _=>by kernel_rfl
 cases c
 all_goals
  go_enter Tryz.func74,Tryz.ntmps74
  go_wp2
  go_ret
  exact ⟨rfl,rfl⟩
theorem rbit_2 (c:Bool) (w:World):Calls Tryz.prog 74 #[.bool c,.int .i64 2] w fun e w'=>e=.returned (.int .u8 (S.wh c 4))∧w=w':=by
 have hs:∀w:World,Sem.run Tryz.prog (Op.shift BinOp.shl IntKind.u8 1 IntKind.i64 2) w=.ok (.int .u8 4) w:=fun _=>by kernel_rfl
 cases c
 all_goals
  go_enter Tryz.func74,Tryz.ntmps74
  go_wp2
  go_ret
  exact ⟨rfl,rfl⟩
theorem rbit_3 (c:Bool) (w:World):Calls Tryz.prog 74 #[.bool c,.int .i64 3] w fun e w'=>e=.returned (.int .u8 (S.wh c 8))∧w=w':=by
 have hs:∀w:World,Sem.run Tryz.prog (Op.shift BinOp.shl IntKind.u8 1 IntKind.i64 3) w=.ok (.int .u8 8) w:=fun _=>by kernel_rfl
 cases c
 all_goals
  go_enter Tryz.func74,Tryz.ntmps74
  go_wp2
  go_ret
  exact ⟨rfl,rfl⟩
theorem rbit_4 (c:Bool) (w:World):Calls Tryz.prog 74 #[.bool c,.int .i64 4] w fun e w'=>e=.returned (.int .u8 (S.wh c 16))∧w=w':=by
 have hs:∀w:World,Sem.run Tryz.prog (Op.shift BinOp.shl IntKind.u8 1 IntKind.i64 4) w=.ok (.int .u8 16) w:=fun _=>by kernel_rfl
 cases c
 all_goals
  go_enter Tryz.func74,Tryz.ntmps74
  go_wp2
  go_ret
  exact ⟨rfl,rfl⟩
theorem rbit_5 (c:Bool) (w:World):Calls Tryz.prog 74 #[.bool c,.int .i64 5] w fun e w'=>e=.returned (.int .u8 (S.wh c 32))∧w=w':=by
 have hs:∀w:World,Sem.run Tryz.prog (Op.shift BinOp.shl IntKind.u8 1 IntKind.i64 5) w=.ok (.int .u8 32) w:=fun _=>by kernel_rfl
 cases c
 all_goals
  go_enter Tryz.func74,Tryz.ntmps74
  go_wp2
  go_ret
  exact ⟨rfl,rfl⟩
theorem rbit_6 (c:Bool) (w:World):Calls Tryz.prog 74 #[.bool c,.int .i64 6] w fun e w'=>e=.returned (.int .u8 (S.wh c 64))∧w=w':=by
 have hs:∀w:World,Sem.run Tryz.prog (Op.shift BinOp.shl IntKind.u8 1 IntKind.i64 6) w=.ok (.int .u8 64) w:=fun _=>by kernel_rfl
 cases c
 all_goals
  go_enter Tryz.func74,Tryz.ntmps74
  go_wp2
  go_ret
  exact ⟨rfl,rfl⟩
theorem rbit_7 (c:Bool) (w:World):Calls Tryz.prog 74 #[.bool c,.int .i64 7] w fun e w'=>e=.returned (.int .u8 (S.wh c 128))∧w=w':=by
 have hs:∀w:World,Sem.run Tryz.prog (Op.shift BinOp.shl IntKind.u8 1 IntKind.i64 7) w=.ok (.int .u8 128) w:=fun _=>by kernel_rfl
 cases c
 all_goals
  go_enter Tryz.func74,Tryz.ntmps74
  go_wp2
  go_ret
  exact ⟨rfl,rfl⟩
theorem rbit_any (c:Bool) (k:Int) (k0:0≤k) (k8:k < 8) (w:World):Calls Tryz.prog 74 #[.bool c,.int .i64 k] w fun e w'=>e=.returned (.int .u8 (S.wh c (S.pw k)))∧w=w':=by
 rcases (by omega:k=0∨k=1∨k=2∨k=3∨k=4∨k=5∨k=6∨k=7) with rfl|rfl|rfl|rfl|rfl|rfl|rfl|rfl
 ·exact rbit_0 c w
 ·exact rbit_1 c w
 ·exact rbit_2 c w
 ·exact rbit_3 c w
 ·exact rbit_4 c w
 ·exact rbit_5 c w
 ·exact rbit_6 c w
 ·exact rbit_7 c w
end
section
theorem lt18 (y:Int) (h0:0≤y) (h:y < 18):∃(k:Nat) (o:Int),y=(k:Int)∧0≤o∧o < 256∧(#[.int .u8 251,.int .u8 243,.int .u8 118,.int .u8 205,.int .u8 201,.int .u8 197,.int .u8 227,.int .u8 211,.int .u8 219,.int .u8 54,.int .u8 52,.int .u8 32,.int .u8 48,.int .u8 194,.int .u8 202,.int .u8 255,.int .u8 62,.int .u8 49]:Array Value)[k]? =some (.int .u8 o):=by
 obtain ⟨k,rfl⟩:∃k:Nat,y=(k:Int):=⟨y.toNat,by omega⟩
 match k,h with
 |0,_=>exact ⟨0,251,rfl,by omega,by omega,rfl⟩
 |1,_=>exact ⟨1,243,rfl,by omega,by omega,rfl⟩
 |2,_=>exact ⟨2,118,rfl,by omega,by omega,rfl⟩
 |3,_=>exact ⟨3,205,rfl,by omega,by omega,rfl⟩
 |4,_=>exact ⟨4,201,rfl,by omega,by omega,rfl⟩
 |5,_=>exact ⟨5,197,rfl,by omega,by omega,rfl⟩
 |6,_=>exact ⟨6,227,rfl,by omega,by omega,rfl⟩
 |7,_=>exact ⟨7,211,rfl,by omega,by omega,rfl⟩
 |8,_=>exact ⟨8,219,rfl,by omega,by omega,rfl⟩
 |9,_=>exact ⟨9,54,rfl,by omega,by omega,rfl⟩
 |10,_=>exact ⟨10,52,rfl,by omega,by omega,rfl⟩
 |11,_=>exact ⟨11,32,rfl,by omega,by omega,rfl⟩
 |12,_=>exact ⟨12,48,rfl,by omega,by omega,rfl⟩
 |13,_=>exact ⟨13,194,rfl,by omega,by omega,rfl⟩
 |14,_=>exact ⟨14,202,rfl,by omega,by omega,rfl⟩
 |15,_=>exact ⟨15,255,rfl,by omega,by omega,rfl⟩
 |16,_=>exact ⟨16,62,rfl,by omega,by omega,rfl⟩
 |17,_=>exact ⟨17,49,rfl,by omega,by omega,rfl⟩
 |k+18,h=>exact absurd h (by omega)
theorem opc_any (b len cap N:Nat) (a:Option Addr) (hM:N≤99999000) {w:World} (h:Nb w b a len cap N):
 Calls Tryz.prog 31 #[.pointer (some ⟨b,0,none⟩)] w fun e w'=>∃(y:Int) (M:Nat),0≤y∧y < 256∧M≤N+2∧e=.returned (.int .u8 y)∧Up w b M w':=by
 have hbw:=h.lt
 have H:Hid _:=Lib.hid h
 clear h
 go_enter Tryz.func31,Tryz.ntmps31
 go_wp2_with (first
  |(go_at_call 18;(with_reducible refine (nx_any b len cap M1 a 18 (by omega) (by omega) (by omega) (w1.alloc (.cells #[.int .u8 251,.int .u8 243,.int .u8 118,.int .u8 205,.int .u8 201,.int .u8 197,.int .u8 227,.int .u8 211,.int .u8 219,.int .u8 54,.int .u8 52,.int .u8 32,.int .u8 48,.int .u8 194,.int .u8 202,.int .u8 255,.int .u8 62,.int .u8 49] 5)) ((H.out.up hU1.out).alloc _)).mono ?_);rintro e w2 ⟨y2,M2,hy20,hy21,hM2,rfl,hU2'⟩;obtain ⟨k,o,rfl,ho0,ho1,ho2⟩:=lt18 y2 hy20 hy21;have hb1:=(H.out.up hU1.out).lt;have hU2:=hU2';obtain ⟨⟨n2,os2⟩,hw2⟩:=hU2';have hc:w2.cell? ⟨w1.heap.size,k,none⟩=some (.int .u8 o):=(by rw [hw2,More_cell (by rw [InB_setCell,InB_alloc];exact .inl rfl),World.setCell_alloc_past _ _ _ _ hb1,cell_of_row _ _ _ _ _ (0,0) (by have:=heap_last (w1.setCell ⟨b,1,none⟩ (.int .i64 (M2:Int))) (.cells #[.int .u8 251,.int .u8 243,.int .u8 118,.int .u8 205,.int .u8 201,.int .u8 197,.int .u8 227,.int .u8 211,.int .u8 219,.int .u8 54,.int .u8 52,.int .u8 32,.int .u8 48,.int .u8 194,.int .u8 202,.int .u8 255,.int .u8 62,.int .u8 49] 5);simpa using this)];exact ho2);clear hw2 ho2;have hk18:(k:Int) < 18:=hy21)
  |(go_at_call 18;(with_reducible refine (nx_any b len cap M1 a 256 (by omega) (by omega) (by omega) w1 (H.out.up hU1.out)).mono ?_);rintro e w2 ⟨y2,M2,hy20,hy21,hM2,rfl,hU2⟩;have hwr:IntKind.u8.wrap y2=y2:=(by simp [IntKind.wrap,IntKind.bits,IntKind.signed];omega);have hwr2:y2 % 256=y2:=(by omega))
  |(go_at_call 18;(with_reducible refine (nx_any b len cap N a 3 (by omega) (by omega) (by omega) w H.out).mono ?_);rintro e w1 ⟨y1,M1,hy10,hy11,hM1,rfl,hU1'⟩;have hU1:=Lib.hid hU1';clear hU1'))
 ·go_ret
  exact ⟨y2,M2,hy20,hy21,by omega,rfl,hU1.out.then hbw hU2⟩
 ·go_ret
  exact ⟨o,M2,ho0,ho1,by omega,rfl,hU1.out.then hbw (hU2.pre hb1)⟩
theorem inp_mk (b len cap N:Nat) (a:Option Addr) (hM:N≤99990000) (w:World) (h:Nb w b a len cap N):
 Calls Tryz.prog 75 #[.pointer (some ⟨b,0,none⟩)] w fun e w'=>∃(x:S.Inp) (M:Nat),x.ok∧M≤N+10∧e=.returned (.agg x.cs)∧Up w b M w':=by
 have hbw:=h.lt
 have H:Hid _:=Lib.hid h
 clear h
 go_enter Tryz.func75,Tryz.ntmps75
 go_wp2_with (first
  |(go_at_call 18;(with_reducible refine (nx_any b len cap M7 a 256 (by omega) (by omega) (by omega) _ (by (repeat (first|with_reducible exact H.out|with_reducible refine Nb.more ?_ _ _|with_reducible refine Nb.alloc ?_ _|with_reducible refine Nb.drew ?_|apply Nb.bump)))).mono ?_);rintro e w' ⟨y8,M8,ha8,hb8,hM8,rfl,⟨n8,os8⟩,rfl⟩;have hv1:IntKind.u8.wrap y8=y8:=(by simp [IntKind.wrap,IntKind.bits,IntKind.signed];omega);have hv2:y8 % 256=y8:=(by omega))
  |(go_at_call 18;(with_reducible refine (nx_any b len cap M6 a 256 (by omega) (by omega) (by omega) _ (by (repeat (first|with_reducible exact H.out|with_reducible refine Nb.more ?_ _ _|with_reducible refine Nb.alloc ?_ _|with_reducible refine Nb.drew ?_|apply Nb.bump)))).mono ?_);rintro e w' ⟨y7,M7,ha7,hb7,hM7,rfl,⟨n7,os7⟩,rfl⟩;have hu1:IntKind.u8.wrap y7=y7:=(by simp [IntKind.wrap,IntKind.bits,IntKind.signed];omega);have hu2:y7 % 256=y7:=(by omega))
  |(go_at_call 19;(with_reducible refine (flg_any b len cap M5 a (by omega) (by (repeat (first|with_reducible exact H.out|with_reducible refine Nb.more ?_ _ _|with_reducible refine Nb.alloc ?_ _|with_reducible refine Nb.drew ?_|apply Nb.bump)))).mono ?_);rintro e w' ⟨f6,M6,hM6,rfl,⟨n6,os6⟩,rfl⟩)
  |(go_at_call 19;(with_reducible refine (flg_any b len cap M4 a (by omega) (by (repeat (first|with_reducible exact H.out|with_reducible refine Nb.more ?_ _ _|with_reducible refine Nb.alloc ?_ _|with_reducible refine Nb.drew ?_|apply Nb.bump)))).mono ?_);rintro e w' ⟨f5,M5,hM5,rfl,⟨n5,os5⟩,rfl⟩)
  |(go_at_call 19;(with_reducible refine (flg_any b len cap M3 a (by omega) (by (repeat (first|with_reducible exact H.out|with_reducible refine Nb.more ?_ _ _|with_reducible refine Nb.alloc ?_ _|with_reducible refine Nb.drew ?_|apply Nb.bump)))).mono ?_);rintro e w' ⟨f4,M4,hM4,rfl,⟨n4,os4⟩,rfl⟩)
  |(go_at_call 19;(with_reducible refine (flg_any b len cap M2 a (by omega) (by (repeat (first|with_reducible exact H.out|with_reducible refine Nb.more ?_ _ _|with_reducible refine Nb.alloc ?_ _|with_reducible refine Nb.drew ?_|apply Nb.bump)))).mono ?_);rintro e w' ⟨f3,M3,hM3,rfl,⟨n3,os3⟩,rfl⟩)
  |(go_at_call 19;(with_reducible refine (flg_any b len cap M1 a (by omega) (by (repeat (first|with_reducible exact H.out|with_reducible refine Nb.more ?_ _ _|with_reducible refine Nb.alloc ?_ _|with_reducible refine Nb.drew ?_|apply Nb.bump)))).mono ?_);rintro e w' ⟨f2,M2,hM2,rfl,⟨n2,os2⟩,rfl⟩)
  |(go_at_call 18;(with_reducible refine (nx_any b len cap M1 a 256 (by omega) (by omega) (by omega) _ (by (repeat (first|with_reducible exact H.out|with_reducible refine Nb.more ?_ _ _|with_reducible refine Nb.alloc ?_ _|with_reducible refine Nb.drew ?_|apply Nb.bump)))).mono ?_);rintro e w' ⟨y2,M2,ha2,hb2,hM2,rfl,⟨n2,os2⟩,rfl⟩;have ht1:IntKind.u8.wrap y2=y2:=(by simp [IntKind.wrap,IntKind.bits,IntKind.signed];omega);have ht2:y2 % 256=y2:=(by omega))
  |(go_at_call 31;(with_reducible refine (opc_any b len cap M1 a (by omega) (by (repeat (first|with_reducible exact H.out|with_reducible refine Nb.more ?_ _ _|with_reducible refine Nb.alloc ?_ _|with_reducible refine Nb.drew ?_|apply Nb.bump)))).mono ?_);rintro e w' ⟨y2,M2,ha2,hb2,hM2,rfl,⟨n2,os2⟩,rfl⟩)
  |(go_at_call 18;(with_reducible refine (nx_any b len cap N a 64 (by omega) (by omega) (by omega) _ (by (repeat (first|with_reducible exact H.out|with_reducible refine Nb.more ?_ _ _|with_reducible refine Nb.alloc ?_ _|with_reducible refine Nb.drew ?_|apply Nb.bump)))).mono ?_);rintro e w' ⟨y,M1,hy0,hy1,hM1,rfl,⟨n1,os1⟩,rfl⟩;have hw1:IntKind.u8.wrap y=y:=(by simp [IntKind.wrap,IntKind.bits,IntKind.signed];omega);have hw2:y % 256=y:=(by omega))
  |(go_at_call 56;with_reducible refine ad (ridle_any) fun n0 os0=> ?_;simp only [S.Inp.cs,S.idle]))
 ·exact bodyPost_ret (v:=.agg #[.bool true,.bool false,.bool false,.bool false,.bool false,.bool false,.bool false,.bool false,.int .u8 0,.int .u8 y]) (ret_Input Tryz.results75 rfl (by simp [go_sem]) rfl) rfl ⟨⟨true,false,false,false,false,false,false,false,0,y⟩,M1,⟨(show (0:Int)≤0∧(0:Int) < 256 by decide),⟨hy0,Int.lt_trans hy1 (by decide)⟩⟩,by omega,rfl,Up.of aD⟩
 ·exact bodyPost_ret (v:=.agg #[.bool false,.bool false,.bool false,.bool false,.bool false,.bool false,.bool false,.bool false,.int .u8 0,.int .u8 0]) (ret_Input Tryz.results75 rfl (by simp [go_sem]) rfl) rfl ⟨⟨false,false,false,false,false,false,false,false,0,0⟩,M1,⟨(show (0:Int)≤0∧(0:Int) < 256 by decide),(show (0:Int)≤0∧(0:Int) < 256 by decide)⟩,by omega,rfl,Up.of aD⟩
 ·exact bodyPost_ret (v:=.agg #[.bool true,.bool true,.bool false,.bool false,.bool false,.bool false,.bool false,.bool false,.int .u8 0,.int .u8 0]) (ret_Input Tryz.results75 rfl (by simp [go_sem]) rfl) rfl ⟨⟨true,true,false,false,false,false,false,false,0,0⟩,M1,⟨(show (0:Int)≤0∧(0:Int) < 256 by decide),(show (0:Int)≤0∧(0:Int) < 256 by decide)⟩,by omega,rfl,Up.of aD⟩
 ·exact bodyPost_ret (v:=.agg #[.bool true,.bool false,.bool false,.bool false,.bool false,.bool false,.bool false,.bool false,.int .u8 y2,.int .u8 0]) (ret_Input Tryz.results75 rfl (by simp [go_sem]) rfl) rfl ⟨⟨true,false,false,false,false,false,false,false,y2,0⟩,M2,⟨⟨ha2,hb2⟩,(show (0:Int)≤0∧(0:Int) < 256 by decide)⟩,by omega,rfl,Up.of aD⟩
 ·exact bodyPost_ret (v:=.agg #[.bool true,.bool false,.bool false,.bool false,.bool false,.bool (y % 2==0),.bool (y % 2==1),.bool false,.int .u8 0,.int .u8 0]) (ret_Input Tryz.results75 rfl (by simp [go_sem]) rfl) rfl ⟨⟨true,false,false,false,false,(y % 2==0),(y % 2==1),false,0,0⟩,M1,⟨(show (0:Int)≤0∧(0:Int) < 256 by decide),(show (0:Int)≤0∧(0:Int) < 256 by decide)⟩,by omega,rfl,Up.of aD⟩
 ·exact bodyPost_ret (v:=.agg #[.bool true,.bool false,.bool false,.bool (y==51),.bool false,.bool false,.bool false,.bool true,.int .u8 0,.int .u8 0]) (ret_Input Tryz.results75 rfl (by simp [go_sem]) rfl) rfl ⟨⟨true,false,false,(y==51),false,false,false,true,0,0⟩,M1,⟨(show (0:Int)≤0∧(0:Int) < 256 by decide),(show (0:Int)≤0∧(0:Int) < 256 by decide)⟩,by omega,rfl,Up.of aD⟩
 ·exact bodyPost_ret (v:=.agg #[.bool true,.bool false,.bool false,.bool false,.bool true,.bool false,.bool false,.bool false,.int .u8 0,.int .u8 0]) (ret_Input Tryz.results75 rfl (by simp [go_sem]) rfl) rfl ⟨⟨true,false,false,false,true,false,false,false,0,0⟩,M1,⟨(show (0:Int)≤0∧(0:Int) < 256 by decide),(show (0:Int)≤0∧(0:Int) < 256 by decide)⟩,by omega,rfl,Up.of aD⟩
 ·exact bodyPost_ret (v:=.agg #[.bool true,.bool false,.bool true,.bool false,.bool false,.bool false,.bool false,.bool false,.int .u8 0,.int .u8 0]) (ret_Input Tryz.results75 rfl (by simp [go_sem]) rfl) rfl ⟨⟨true,false,true,false,false,false,false,false,0,0⟩,M1,⟨(show (0:Int)≤0∧(0:Int) < 256 by decide),(show (0:Int)≤0∧(0:Int) < 256 by decide)⟩,by omega,rfl,Up.of aD⟩
 ·exact bodyPost_ret (v:=.agg #[.bool true,.bool false,.bool false,.bool false,.bool false,.bool false,.bool false,.bool false,.int .u8 1,.int .u8 y2]) (ret_Input Tryz.results75 rfl (by simp [go_sem]) rfl) rfl ⟨⟨true,false,false,false,false,false,false,false,1,y2⟩,M2,⟨(show (0:Int)≤1∧(1:Int) < 256 by decide),⟨ha2,hb2⟩⟩,by omega,rfl,Up.of aD⟩
 ·exact bodyPost_ret (v:=.agg #[.bool f2,.bool f3,.bool false,.bool f4,.bool false,.bool f5,.bool f6,.bool false,.int .u8 y7,.int .u8 y8]) (ret_Input Tryz.results75 rfl (by simp [go_sem]) rfl) rfl ⟨⟨f2,f3,false,f4,false,f5,f6,false,y7,y8⟩,M8,⟨⟨ha7,hb7⟩,⟨ha8,hb8⟩⟩,by omega,rfl,Up.of aD⟩
end
section
variable {N b:Nat} {w w':World}
theorem Up.grown (u:Up w b N w'):w.grownBy w' (some b):=by
 have g1:w.grownBy (w.setCell ⟨b,1,none⟩ (.int .i64 (N:Int))) (some b):=⟨rfl,rfl,rfl,by simp,fun k _ hk=>heap_setCell_other w ⟨b,1,none⟩ k _ (fun e=>hk (by simp [e]))⟩
 exact g1.trans (Adds.grownBy u (some b))
theorem Nb.grown {a:Option Addr} {len cap:Nat} {row:Option Nat} (h:Nb w b a len cap N) (hg:w.grownBy w' row) (hne:∀g,row=some g→b < g):Nb w' b a len cap N:=
 h.of_heap fun k hk=>hg.block k (by have:=h.lt;omega) (fun e=>by have:=hne k e.symm;omega)
def lenOf:Value→Nat
 | .slice _ n _=>n
 |_=>0
def InpsPost (b len cap N:Nat) (a:Option Addr) (n:Nat) (w:World) (e:Ending) (w':World):Prop:=
 ∃r d N',e=.returned r∧OwnsI w' w.heap.size r d∧d.length≤n∧(∀x∈d,x.ok)∧N'≤N+1+12 * n∧Nb w' b a len cap N'∧w.grownBy w' (some b)
theorem inps_mk (b len cap N:Nat) (a:Option Addr) (n:Nat) (hn:n≤1000) (hN:N≤1000000) (w:World) (h:Nb w b a len cap N):
 Calls Tryz.prog 42 #[.pointer (some ⟨b,0,none⟩),.int .i64 (n:Int)] w (InpsPost b len cap N a n w):=by
 have hbw:=h.lt
 have H:Hid _:=Lib.hid h
 clear h
 go_enter Tryz.func42,Tryz.ntmps42
 go_wp2_with (go_at_call 18;(with_reducible refine (nx_any b len cap N a _ (by omega) (by omega) (by omega) w H.out).mono ?_);rintro e w1 ⟨z,M1,hz0,hz1,hM1,rfl,hU1⟩)
 obtain ⟨s,rfl⟩:∃s:Nat,z=(s:Int):=⟨z.toNat,by omega⟩
 have hs:s≤n:=by omega
 have HB1:=Lib.hid (H.out.up hU1)
 have HG1:=Lib.hid hU1.grown
 clear hU1 hz0 hz1
 go_loopw [5] (fun v wr=>∃(m N':Nat) (d:List S.Inp) (ad:Option Addr) (c:Nat),v=.slice ad m c∧m≤s∧N'≤N+1+12 * m∧Hid (d.length=m)∧Hid (OwnsI wr w.heap.size (.slice ad m c) d)∧Hid (∀x∈d,x.ok)∧Hid (Nb wr b a len cap N')∧Hid (w.grownBy wr (some b))) (fun v _=>s - lenOf v)
 case atStart=>exact ⟨0,M1,[],none,0,rfl,by omega,by omega,rfl,OwnsG.nil _ _,(fun x hx=>by cases hx),HB1.out,HG1.out⟩
 case round=>
  obtain ⟨m,N',d,ad,c,rfl,hm,hN',HD,HO,HK,HB,HG⟩:=hrel
  by_cases hlt:m < s
  ·have q1:(m:Int) < (s:Int):=by omega
   go_wp2_with (first
    |(go_at_call 75;(with_reducible refine (inp_mk b len cap N' a (by omega) wr HB.out).mono ?_);rintro e w2 ⟨x,M2,hx,hM2,rfl,hU2⟩;have HX:=Lib.hid hx;have HB2:=Lib.hid (HB.out.up hU2);have HG2:=Lib.hid hU2.grown;clear hU2 hx;simp only [S.Inp.cs])
    |(go_at_call 18;(with_reducible refine (nx_any b len cap M3 a 5 (by omega) (by omega) (by omega) w3 HB3.out).mono ?_);rintro e w4 ⟨z4,M4,hz40,hz41,hM4,rfl,hU4⟩;have HB4:=Lib.hid (HB3.out.up hU4);have HG4:=Lib.hid hU4.grown;clear hU4;obtain ⟨k0,hk0⟩:∃k:Int,z3 * z4=k:=⟨_,rfl⟩;have hk1:0≤k0:=(by rw [←hk0];exact Int.mul_nonneg hz30 hz40);have hk2:k0≤12:=(by rw [←hk0];exact Int.mul_le_mul (c:=3) (d:=4) (by omega) (by omega) hz40 (by omega)))
    |(go_at_call 18;(with_reducible refine (nx_any b len cap M2 a 4 (by omega) (by omega) (by omega) (w2.alloc (.cells #[.bool x.r,.bool x.h,.bool x.z,.bool x.s,.bool x.t,.bool x.a,.bool x.b,.bool x.c,.int .u8 x.q,.int .u8 x.p] 96)) (HB2.out.alloc _)).mono ?_);rintro e w3 ⟨z3,M3,hz30,hz31,hM3,rfl,hU3⟩;have HB3:=Lib.hid ((HB2.out.alloc (.cells #[.bool x.r,.bool x.h,.bool x.z,.bool x.s,.bool x.t,.bool x.a,.bool x.b,.bool x.c,.int .u8 x.q,.int .u8 x.p] 96)).up hU3);have HG3:=Lib.hid hU3.grown;clear hU3))
   have hbsz:b < w2.heap.size:=HB2.out.lt
   have hs2:=HG2.out.size
   have HO4:=Lib.hid (show OwnsI w4 w.heap.size (.slice ad m c) d from ((((HO.out.kept HG2.out (fun g e=>by injection e with e;omega)).alloc (.cells #[.bool x.r,.bool x.h,.bool x.z,.bool x.s,.bool x.t,.bool x.a,.bool x.b,.bool x.c,.int .u8 x.q,.int .u8 x.p] 96)).kept HG3.out (fun g e=>by injection e with e;omega)).kept HG4.out (fun g e=>by injection e with e;omega)))
   have HGG:=Lib.hid ((((HG.out.trans HG2.out).trans (World.grownBy_alloc w2 (.cells #[.bool x.r,.bool x.h,.bool x.z,.bool x.s,.bool x.t,.bool x.a,.bool x.b,.bool x.c,.int .u8 x.q,.int .u8 x.p] 96) _)).trans HG3.out).trans HG4.out)
   have HI:=Lib.hid (show w4.heap[w2.heap.size]? =some (.cells #[.bool x.r,.bool x.h,.bool x.z,.bool x.s,.bool x.t,.bool x.a,.bool x.b,.bool x.c,.int .u8 x.q,.int .u8 x.p] 96 (0,0)) by
    have s3:=HG3.out.size
    have sa:(w2.alloc (.cells #[.bool x.r,.bool x.h,.bool x.z,.bool x.s,.bool x.t,.bool x.a,.bool x.b,.bool x.c,.int .u8 x.q,.int .u8 x.p] 96)).heap.size=w2.heap.size+1:=Array.size_push ..
    rw [HG4.out.block _ (by omega) (fun e=>by injection e with e;omega),HG3.out.block _ (by omega) (fun e=>by injection e with e;omega)]
    exact heap_last w2 _)
   have HNE:=Lib.hid (show ∀g,(Value.slice ad m c).ownBlock=some g→g≠w2.heap.size from fun g hg=>by have:=(World.ownsRow.lt HO.out g hg).2;omega)
   clear HB2 HG2 HB3 HG3 HG4 hs2 hz30 hz31 hz40 hz41 HO HG HB
   have hw4:w.heap.size≤w4.heap.size:=HGG.out.size
   generalize w2.heap.size=bi at HI HNE⊢
   clear hk0
   go_loopw [5,8] (fun v5 v8 w'=>∃(m':Nat) (d':List S.Inp) (ad':Option Addr) (c':Nat) (k:Int),v5=.slice ad' m' c'∧v8=.int .i64 k∧(m≤m'∧m'≤s∧(m < m'∨0≤k))∧(-1≤k∧k≤12)∧Hid (d'.length=m')∧Hid (OwnsI w' w.heap.size (.slice ad' m' c') d')∧Hid (∀x∈d',x.ok)∧Hid (Nb w' b a len cap M4)∧Hid (w.grownBy w' (some b))∧Hid (w'.heap[bi]? =some (.cells #[.bool x.r,.bool x.h,.bool x.z,.bool x.s,.bool x.t,.bool x.a,.bool x.b,.bool x.c,.int .u8 x.q,.int .u8 x.p] 96 (0,0)))∧Hid (∀g,(Value.slice ad' m' c').ownBlock=some g→g≠bi)) (fun _ v8 _=>(intOf v8+1).toNat)
   case atStart=>exact ⟨m,d,ad,c,k0,rfl,rfl,⟨by omega,by omega,by omega⟩,⟨by omega,by omega⟩,HD.out,HO4.out,HK.out,HB4.out,HGG.out,HI.out,HNE.out⟩
   case round=>
    obtain ⟨m',d',ad',c',k,rfl,rfl,⟨hm1,hm2,hm3⟩,⟨hk3,hk4⟩,HD',HO',HK',HB',HG',HI',HNE'⟩:=hrel
    have hL:(wholeVar 96 ⟨bi,0,none⟩).run Tryz.prog wr=.ok (.agg #[.bool x.r,.bool x.h,.bool x.z,.bool x.s,.bool x.t,.bool x.a,.bool x.b,.bool x.c,.int .u8 x.q,.int .u8 x.p]) wr:=whole_cells Tryz.underlying96 rfl sizeI wr bi 0 #[.bool x.r,.bool x.h,.bool x.z,.bool x.s,.bool x.t,.bool x.a,.bool x.b,.bool x.c,.int .u8 x.q,.int .u8 x.p] rfl fun j v hj=>by rw [Nat.zero_add,cell_of_row wr bi j _ _ (0,0) HI'.out];exact hj
    have hbi:bi < wr.heap.size:=(Array.getElem?_eq_some_iff.1 HI'.out).1
    have hw':=HG'.out.size
    have HLO:=Lib.hid (show ∀g,(Value.slice ad' m' c').ownBlock=some g→w.heap.size≤g from fun g e=>(World.ownsRow.lt HO'.out g e).1)
    by_cases hk0:0≤k
    ·by_cases hms:m' < s
     ·have q2:(m':Int) < (s:Int):=by omega
      go_wp2_with (at_builtin;refine wpList_appI1_at rfl _ _ rfl w.heap.size (.slice ad' m' c') _ rfl x _ _ wr.heap.size rfl rfl rfl HO'.out (by have:=HD'.out;omega) hw' ?_;intro v5 w5 hO5 hG5 hN5;obtain ⟨ad5,m5,c5,rfl,hn5, -, -, -, -⟩:=hO5.form2;obtain rfl:m5=m'+1:=(by have:=hn5.out;have h2:=HD'.out;rw [List.length_append,h2] at this;exact this.symm);have HO5:=Lib.hid hO5;have HG5:=Lib.hid hG5;have HN5:=Lib.hid hN5;clear hn5 hO5 hG5 hN5)
      go_roundw
      case rel=>
       refine ⟨m'+1,d'++[x],ad5,c5,k - 1,rfl,rfl,⟨by omega,by omega,by omega⟩,⟨by omega,by omega⟩,(by show _=_;rw [List.length_append,HD'.out];rfl),HO5.out,(fun y hy=> ?_),HB'.out.grown HG5.out (fun g e=>by have:=HLO.out g e;omega),grown_trans2 HG'.out HG5.out (fun g e=> .inr (HLO.out g e)),(HG5.out.block bi hbi (fun e=>HNE'.out bi e.symm rfl)).trans HI'.out,fun g hg=> ?_⟩
       ·rcases List.mem_append.1 hy with hy|hy
        ·exact HK'.out y hy
        ·simp at hy;subst hy;exact HX.out
       ·rcases HN5.out g hg with e|e
        ·exact HNE'.out g e
        ·omega
      case measure=>simp [intOf];omega
     ·have q2:¬(m':Int) < (s:Int):=by omega
      go_wp2_with fail
      go_roundw
      case rel=>exact ⟨m',M4,d',ad',c',rfl,by omega,by omega,HD'.out,HO'.out,HK'.out,HB'.out,HG'.out⟩
      case measure=>simp [lenOf];omega
    ·go_wp2_with fail
     go_roundw
     case rel=>exact ⟨m',M4,d',ad',c',rfl,by omega,by omega,HD'.out,HO'.out,HK'.out,HB'.out,HG'.out⟩
     case measure=>simp [lenOf];omega
  ·have q1:¬(m:Int) < (s:Int):=by omega
   go_wp2_with fail
   go_ret
   exact ⟨_,d,N',rfl,HO.out,by have:=HD.out;omega,HK.out,by omega,HB.out,HG.out⟩
end
section
theorem renc_any (a:Option Addr) (len cap:Nat) (l:List S.Inp) (w:World) (h:HeldI w a len l) (hc:len≤cap) (hcap:cap≤9223372036854775807) (hbig:len≤100000000):
 Calls Tryz.prog 41 #[.slice a len cap] w fun e w'=>∃r,e=.returned r∧OwnsB w' w.heap.size r (S.enc l)∧Adds w w':=by
 obtain ⟨hl,_,hat⟩:=h
 obtain ⟨n,hn⟩:∃n,n=min len 65536:=⟨_,rfl⟩
 have HN:=Lib.hid hn
 have hn6:n≤65536:=by omega
 have hnl:n≤len:=by omega
 have HL:=Lib.hid hl
 have HAT:=Lib.hid hat
 clear hn hl hat
 go_enter Tryz.func41,Tryz.ntmps41
 go_wp2_with fail
 go_loopw [3,9] (fun v i wr=>∃(k m:Nat) (ad:Option Addr) (c:Nat),k≤n∧Hid (m=k * 4)∧v=.slice ad m c∧i=.int .i64 (k:Int)∧Hid (OwnsB wr w.heap.size (.slice ad m c) (S.encs (l.take k)))∧Hid (Adds w wr)) (fun _ i _=>n - (intOf i).toNat)
 case atStart=>exact ⟨0,0,_,_,Nat.zero_le _,rfl,rfl,rfl,OwnsG.nil _ _,Adds.refl _⟩
 case round=>
  obtain ⟨k,m,ad,c,hk,HM,rfl,rfl,HO,HA⟩:=hrel
  by_cases hll:k < len
  ·obtain ⟨b,o,rfl,hb,hat⟩:=HAT.out (by omega)
   have hat':=AtG.keep (w':=wr) hat fun i=>HA.out.cell hb
   have hsz:=HA.out.size
   obtain ⟨x,hx⟩:=get_el (d:=l) (k:=k) (by have:=HL.out;omega)
   have HX:=Lib.hid (S.encs_step hx)
   have hL:(wholeVar 96 ⟨b,o+k * 10,none⟩).run Tryz.prog wr=.ok (.agg #[.bool x.r,.bool x.h,.bool x.z,.bool x.s,.bool x.t,.bool x.a,.bool x.b,.bool x.c,.int .u8 x.q,.int .u8 x.p]) wr:=AtI.load hat' hx _ rfl
   have q1:(k:Int) < (len:Int):=by omega
   clear hat hat' hx HAT
   by_cases hlt:k < n
   ·have q2:¬(65536:Int)≤(k:Int):=by omega
    go_wp2_with fail
    refine qt ?_
    repeat (go_big_quiet_step ((go_at_call 74;exact calls_same (rbit_any _ _ (by decide) (by decide) _))))
    refine qn fun nq osq=> ?_
    go_wp2_with fail
    generalize hcc:bits .or .u8 (bits .or .u8 _ _) (S.wh x.c (S.pw 7))=cc
    have hce:cc=S.ctl x:=hcc.symm.trans rfl
    clear hcc
    subst hce
    have HA1:=Lib.hid (show Adds wr (More (wr.alloc (.cells #[.bool x.r,.bool x.h,.bool x.z,.bool x.s,.bool x.t,.bool x.a,.bool x.b,.bool x.c,.int .u8 x.q,.int .u8 x.p] 96)) (nq+1) osq) from aD)
    have HO1:=Lib.hid (OwnsG.adds HO.out HA1.out)
    go_region_held3 (fun w'=>w'.cell? ⟨wr.heap.size,8,none⟩=some (.int .u8 x.q)∧w'.cell? ⟨wr.heap.size,9,none⟩=some (.int .u8 x.p)) (first|(simp [go_sem];done)|(constructor<;>assumption))
     (first
       |((go_at_call 55;with_reducible refine sm (rchk_any) ?_))
       |((refine step_appB rfl _ _ (by rfl) w.heap.size (.slice ad m c) _ (by rfl) (S.enc1 x) 4 _ _ (wr.heap.size+1+osq.size) (by rfl) rfl rfl (by simp [go_sem]) HO1.out (by have:=HM.out;have:=HO.out.len;omega) (by simp [go_sem];omega) ?_;intro v3 w3 hO3 hG3;obtain ⟨ad3,m3,c3,rfl,hn3, -, -, -, -⟩:=hO3.form2;have HM3:=Lib.hid (show m3=(k+1) * 4 by have:=hn3.out;rw [List.length_append,S.encs_len,List.length_take] at this;have:=HL.out;simp [S.enc1] at *;omega);have k1:=(World.cell?_of_block (a:=⟨wr.heap.size,8,none⟩) (hG3.block wr.heap.size (by simp [go_sem];omega) (fun e=>by have:=(World.ownsRow.lt HO.out _ e.symm).2;omega))).trans (by simp [go_sem]:_=some (.int .u8 x.q));have k2:=(World.cell?_of_block (a:=⟨wr.heap.size,9,none⟩) (hG3.block wr.heap.size (by simp [go_sem];omega) (fun e=>by have:=(World.ownsRow.lt HO.out _ e.symm).2;omega))).trans (by simp [go_sem]:_=some (.int .u8 x.p));have HO3:=Lib.hid hO3;have HA3:=Lib.hid (AddsG.grown (HA.out.trans HA1.out) hG3 HO1.out);clear hn3 hO3 hG3)))
    go_wp2_with fail
    go_roundw
    case rel=>exact ⟨k+1,m3,ad3,c3,by omega,HM3.out,rfl,by go_num,(by rw [HX.out];exact HO3.out),HA3.out⟩
    case measure=>simp [intOf];omega
   ·have q2:(65536:Int)≤(k:Int):=by have:=HN.out;omega
    have HF:=Lib.hid (show S.encs (l.take k)=S.enc l by have h6:k=65536:=(by have:=HN.out;omega);subst h6;rfl)
    go_wp2_with fail
    go_ret
    exact ⟨_,rfl,by rw [←HF.out];exact OwnsG.adds HO.out aD,HA.out.trans aD⟩
  ·have q1:¬(k:Int) < (len:Int):=by omega
   have HF:=Lib.hid (show S.encs (l.take k)=S.enc l by have hl:=HL.out;have hk6:=HN.out;unfold S.enc;rw [List.take_of_length_le (by omega),List.take_of_length_le (by omega)])
   clear HAT
   go_wp2_with fail
   go_ret
   exact ⟨_,rfl,by rw [←HF.out];exact HO.out,HA.out⟩
end
end Go.Proofs.YteggjjhjmhccjaaGreat
