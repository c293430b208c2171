/- Texts that the proofs of the statements on dumps rest on, joined. Conditions stand in each theorem. -/
import Derived.Test.YteggjjhjmhccjaaGreatDoorQ03
import Derived.Test.YteggjjhjmhccjaaGreatDoorQ36
set_option linter.unusedVariables false
set_option linter.unusedSimpArgs false
set_option maxRecDepth 100000
set_option maxHeartbeats 8000000
namespace Go.Proofs.YteggjjhjmhccjaaGreatDoor
open Go.ChangeShapes Go.WideShapes Go.ChangeAt Go.RowKit
section
variable {a:Option Addr} {aa d k s:Int} {base:Nat} {e o:Bool} {w:World}
def ItPost (base:Nat) (v:Value) (out:List S.It) (w:World) (e:Ending) (w':World):Prop:=∃v',e=.returned v'∧OwnsT w' base v' out∧w.grownBy w' v.ownBlock∧(∀g,v'.ownBlock=some g→v.ownBlock=some g∨w.heap.size≤g)
theorem last_el {α:Type} (l:List α) (i:α):(l++[i])[l.length]? =some i:=by simp
theorem last_set {α:Type} (l:List α) (i j:α):(l++[i]).set l.length j=l++[j]:=by simp
theorem inc_facts {g n c:Nat} {l:List S.It} {i:S.It} {z:Int} (hO:OwnsT w base (.slice (some ⟨g,0,none⟩) n c) (l++[i])) (hk:i.k=z):∃m:Nat,Hid (l.length=m)∧((n:Int) - 1=(m:Int))∧(0:Int)≤(m:Int)∧(m:Int) < (n:Int)∧(n:Int)≤9223372036854775807∧
 w.cell? ⟨g,m * 9,none⟩=some (.int .i64 z)∧w.cell? ⟨g,m * 9+6,none⟩=some (.int .i64 i.n)∧w.cell? ⟨g,m * 9+7,none⟩=some (.bool i.e)∧w.cell? ⟨g,m * 9+8,none⟩=some (.bool i.o)∧w.frozen? ⟨g,m * 9+6,none⟩=false∧
 Hid (OwnsT (w.setCell ⟨g,m * 9+6,none⟩ (.int .i64 (i.n+1))) base (.slice (some ⟨g,0,none⟩) n c) (l++[⟨i.k,i.c,i.a,i.d,i.s,i.w,i.n+1,i.e,i.o⟩]))∧Hid (w.grownBy (w.setCell ⟨g,m * 9+6,none⟩ (.int .i64 (i.n+1))) (some g))∧g < w.heap.size:=by
 have hlen:=hO.len
 rw [List.length_append,List.length_singleton] at hlen
 obtain ⟨gb,gw⟩:=hO.lt
 have hat:=hO.at_
 have c0:=hat.el csT_len (last_el l i) (k:=0) (u:=.int .i64 z) (by simp [csT,S.It.cs,hk])
 have c6:=hat.el csT_len (last_el l i) (k:=6) (u:=.int .i64 i.n) rfl
 have c7:=hat.el csT_len (last_el l i) (k:=7) (u:=.bool i.e) rfl
 have c8:=hat.el csT_len (last_el l i) (k:=8) (u:=.bool i.o) rfl
 rw [Nat.zero_add] at c0 c6 c7 c8
 rw [Nat.add_zero] at c0
 obtain ⟨h1,h2⟩:=hO.one csT_len l.length 6 i ⟨i.k,i.c,i.a,i.d,i.s,i.w,i.n+1,i.e,i.o⟩ (.int .i64 (i.n+1)) (last_el l i) (by omega) rfl
 rw [last_set] at h1
 obtain ⟨cur,_,_,_,hc1,hc2,hc3,_⟩:=hO.elim
 have hmax:n≤9223372036854775807:=by simp only [maxLen] at hc2;omega
 exact ⟨l.length,rfl,by omega,by omega,by omega,by omega,c0,c6,c7,c8,hO.frozen _,h1,h2,gw⟩
theorem q4C24u {P:Prop} (h:P:=by
 go_enter Tryz.func36,Tryz.ntmps36
 go_wp2_with fail
 all_goals (try go_region)
 all_goals (try go_wp2_with fail)
 all_goals
  go_ret
  exact ⟨_,rfl,H1.out.adds aD,World.grownBy.trans H2.out (Adds.grownBy aD _),fun g h=> .inl h⟩):P:=h
theorem item_inc_8 (base g n c:Nat) (x:S.Co) (k aa d s:Int) (l:List S.It) (i:S.It) (w:World) (hO:OwnsT w base (.slice (some ⟨g,0,none⟩) n c) (l++[i])) (hk:i.k=2) (hn:0≤i.n∧i.n≤1000000):Calls Tryz.prog 36 #[.slice (some ⟨g,0,none⟩) n c,.agg (List.toArray (.int .i64 x.c.Ch:: .int .u8 x.c.A:: .int .u8 x.c.B:: .int .u8 x.c.C:: .int .u8 x.c.D:: .int .u8 x.c.E:: .int .u8 x.c.H:: .int .u8 x.c.L:: .bool x.c.fS:: .bool x.c.fZ:: .bool x.c.fK:: .bool x.c.fAC:: .bool x.c.fP:: .bool x.c.fV:: .bool x.c.fCY:: .int .u16 x.c.SP:: .int .u16 x.c.PC:: .bool x.c.IE:: .bool x.c.De:: .bool x.c.Ha:: .int .u8 x.c.Ma:: .bool x.c.Tr:: .bool x.c.R7:: .bool x.c.WT:: .bool x.c.W7:: .bool x.c.Sa:: .bool x.c.SI:: .bool x.c.SO:: .int .i64 x.src:: .slice x.ga x.gn x.gc:: .int .i64 x.y.k:: .int .u16 x.y.a:: .int .u8 x.y.d:: .int .i64 x.y.s:: .int .i64 x.nx:: .bool x.ho::[])),.agg #[.int .i64 k,.int .u16 aa,.int .u8 d,.int .i64 s],.int .i64 8,.bool i.e,.bool i.o] w (ItPost base (.slice (some ⟨g,0,none⟩) n c) (l++[⟨i.k,i.c,i.a,i.d,i.s,i.w,i.n+1,i.e,i.o⟩]) w):=by
 obtain ⟨m,HM,q1,q2,q3,q4,c0,c6,c7,c8,f6,H1,H2,gw⟩:=inc_facts hO hk
 clear hO hk
 exact q4C24u
theorem item_inc_9 (base g n c:Nat) (x:S.Co) (k aa d s:Int) (l:List S.It) (i:S.It) (w:World) (hO:OwnsT w base (.slice (some ⟨g,0,none⟩) n c) (l++[i])) (hk:i.k=3) (hn:0≤i.n∧i.n≤1000000):Calls Tryz.prog 36 #[.slice (some ⟨g,0,none⟩) n c,.agg (List.toArray (.int .i64 x.c.Ch:: .int .u8 x.c.A:: .int .u8 x.c.B:: .int .u8 x.c.C:: .int .u8 x.c.D:: .int .u8 x.c.E:: .int .u8 x.c.H:: .int .u8 x.c.L:: .bool x.c.fS:: .bool x.c.fZ:: .bool x.c.fK:: .bool x.c.fAC:: .bool x.c.fP:: .bool x.c.fV:: .bool x.c.fCY:: .int .u16 x.c.SP:: .int .u16 x.c.PC:: .bool x.c.IE:: .bool x.c.De:: .bool x.c.Ha:: .int .u8 x.c.Ma:: .bool x.c.Tr:: .bool x.c.R7:: .bool x.c.WT:: .bool x.c.W7:: .bool x.c.Sa:: .bool x.c.SI:: .bool x.c.SO:: .int .i64 x.src:: .slice x.ga x.gn x.gc:: .int .i64 x.y.k:: .int .u16 x.y.a:: .int .u8 x.y.d:: .int .i64 x.y.s:: .int .i64 x.nx:: .bool x.ho::[])),.agg #[.int .i64 k,.int .u16 aa,.int .u8 d,.int .i64 s],.int .i64 9,.bool i.e,.bool i.o] w (ItPost base (.slice (some ⟨g,0,none⟩) n c) (l++[⟨i.k,i.c,i.a,i.d,i.s,i.w,i.n+1,i.e,i.o⟩]) w):=by
 obtain ⟨m,HM,q1,q2,q3,q4,c0,c6,c7,c8,f6,H1,H2,gw⟩:=inc_facts hO hk
 clear hO hk
 exact q4C24u
theorem item_inc_10 (base g n c:Nat) (x:S.Co) (k aa d s:Int) (l:List S.It) (i:S.It) (w:World) (hO:OwnsT w base (.slice (some ⟨g,0,none⟩) n c) (l++[i])) (hk:i.k=4) (hn:0≤i.n∧i.n≤1000000):Calls Tryz.prog 36 #[.slice (some ⟨g,0,none⟩) n c,.agg (List.toArray (.int .i64 x.c.Ch:: .int .u8 x.c.A:: .int .u8 x.c.B:: .int .u8 x.c.C:: .int .u8 x.c.D:: .int .u8 x.c.E:: .int .u8 x.c.H:: .int .u8 x.c.L:: .bool x.c.fS:: .bool x.c.fZ:: .bool x.c.fK:: .bool x.c.fAC:: .bool x.c.fP:: .bool x.c.fV:: .bool x.c.fCY:: .int .u16 x.c.SP:: .int .u16 x.c.PC:: .bool x.c.IE:: .bool x.c.De:: .bool x.c.Ha:: .int .u8 x.c.Ma:: .bool x.c.Tr:: .bool x.c.R7:: .bool x.c.WT:: .bool x.c.W7:: .bool x.c.Sa:: .bool x.c.SI:: .bool x.c.SO:: .int .i64 x.src:: .slice x.ga x.gn x.gc:: .int .i64 x.y.k:: .int .u16 x.y.a:: .int .u8 x.y.d:: .int .i64 x.y.s:: .int .i64 x.nx:: .bool x.ho::[])),.agg #[.int .i64 k,.int .u16 aa,.int .u8 d,.int .i64 s],.int .i64 10,.bool i.e,.bool i.o] w (ItPost base (.slice (some ⟨g,0,none⟩) n c) (l++[⟨i.k,i.c,i.a,i.d,i.s,i.w,i.n+1,i.e,i.o⟩]) w):=by
 obtain ⟨m,HM,q1,q2,q3,q4,c0,c6,c7,c8,f6,H1,H2,gw⟩:=inc_facts hO hk
 clear hO hk
 exact q4C24u
theorem ItPost.app {v v1:Value} {out:List S.It} {W w1:World} (h1:OwnsT w1 base v1 out) (h2:W.grownBy w1 v.ownBlock) (h3:∀g,v1.ownBlock=some g→v.ownBlock=some g∨W.heap.size≤g) (k:Adds w W):ItPost base v out w (.returned v1) w1:=
 ⟨v1,rfl,h1,World.grownBy.trans (k.grownBy _) h2,fun g e=>(h3 g e).imp id (fun h=>Nat.le_trans k.size h)⟩
theorem q2C24u {P:Prop} (h:P:=by
 go_enter Tryz.func36,Tryz.ntmps36
 go_wp2_with (first|(at_builtin;refine wpList_appTH rfl _ _ rfl base (.slice _ n c) _ rfl (HO.out.adds aD) (some ⟨_,0,none⟩) 1 1 [(⟨2,0,0,0,0,0,1,e,o⟩:S.It)] rfl (held_new _ (⟨2,0,0,0,0,0,1,e,o⟩:S.It) _ (by simp [go_sem]) _ rfl _) (Nat.le_refl _) (fun h=>by cases h) (by have:=HL.out;simp only [List.length_append,List.length_singleton,List.length_nil];omega) (Nat.le_trans hb (Adds.size aD)) ?_;intro v1 w1 hO1 hG1 hW1;have HP:=Lib.hid (ItPost.app hO1 hG1 hW1 (show Adds w _ from aD));clear hO1 hG1 hW1)|fail)
 all_goals (try go_region)
 all_goals (try go_wp2_with (first|(at_builtin;refine wpList_appTH rfl _ _ rfl base (.slice _ n c) _ rfl (HO.out.adds aD) (some ⟨_,0,none⟩) 1 1 [(⟨2,0,0,0,0,0,1,e,o⟩:S.It)] rfl (held_new _ (⟨2,0,0,0,0,0,1,e,o⟩:S.It) _ (by simp [go_sem]) _ rfl _) (Nat.le_refl _) (fun h=>by cases h) (by have:=HL.out;simp only [List.length_append,List.length_singleton,List.length_nil];omega) (Nat.le_trans hb (Adds.size aD)) ?_;intro v1 w1 hO1 hG1 hW1;have HP:=Lib.hid (ItPost.app hO1 hG1 hW1 (show Adds w _ from aD));clear hO1 hG1 hW1)|fail))
 all_goals
  go_ret
  exact HP.out):P:=h
theorem item_nil_8 (base n c:Nat) (a:Option Addr) (x:S.Co) (w:World) (hO:OwnsT w base (.slice a n c) []) (hb:base≤w.heap.size):Calls Tryz.prog 36 #[.slice a n c,.agg (List.toArray (.int .i64 x.c.Ch:: .int .u8 x.c.A:: .int .u8 x.c.B:: .int .u8 x.c.C:: .int .u8 x.c.D:: .int .u8 x.c.E:: .int .u8 x.c.H:: .int .u8 x.c.L:: .bool x.c.fS:: .bool x.c.fZ:: .bool x.c.fK:: .bool x.c.fAC:: .bool x.c.fP:: .bool x.c.fV:: .bool x.c.fCY:: .int .u16 x.c.SP:: .int .u16 x.c.PC:: .bool x.c.IE:: .bool x.c.De:: .bool x.c.Ha:: .int .u8 x.c.Ma:: .bool x.c.Tr:: .bool x.c.R7:: .bool x.c.WT:: .bool x.c.W7:: .bool x.c.Sa:: .bool x.c.SI:: .bool x.c.SO:: .int .i64 x.src:: .slice x.ga x.gn x.gc:: .int .i64 x.y.k:: .int .u16 x.y.a:: .int .u8 x.y.d:: .int .i64 x.y.s:: .int .i64 x.nx:: .bool x.ho::[])),.agg #[.int .i64 k,.int .u16 aa,.int .u8 d,.int .i64 s],.int .i64 8,.bool e,.bool o] w (ItPost base (.slice a n c) [⟨2,0,0,0,0,0,1,e,o⟩] w):=by
 have hn:0=n:=hO.len
 have q1:(n:Int) - 1= -1:=by omega
 have HL:=Lib.hid (show 0≤1000000 by omega)
 have HO:=Lib.hid hO
 clear hO hn
 ·exact q2C24u
theorem item_mis_8 (base n c:Nat) (x:S.Co) (l:List S.It) (i:S.It) (w:World) (hO:OwnsT w base (.slice a n c) (l++[i])) (hl:l.length≤1000000) (hb:base≤w.heap.size) (hm:¬(i.k=2∧i.e=e∧i.o=o)):Calls Tryz.prog 36 #[.slice a n c,.agg (List.toArray (.int .i64 x.c.Ch:: .int .u8 x.c.A:: .int .u8 x.c.B:: .int .u8 x.c.C:: .int .u8 x.c.D:: .int .u8 x.c.E:: .int .u8 x.c.H:: .int .u8 x.c.L:: .bool x.c.fS:: .bool x.c.fZ:: .bool x.c.fK:: .bool x.c.fAC:: .bool x.c.fP:: .bool x.c.fV:: .bool x.c.fCY:: .int .u16 x.c.SP:: .int .u16 x.c.PC:: .bool x.c.IE:: .bool x.c.De:: .bool x.c.Ha:: .int .u8 x.c.Ma:: .bool x.c.Tr:: .bool x.c.R7:: .bool x.c.WT:: .bool x.c.W7:: .bool x.c.Sa:: .bool x.c.SI:: .bool x.c.SO:: .int .i64 x.src:: .slice x.ga x.gn x.gc:: .int .i64 x.y.k:: .int .u16 x.y.a:: .int .u8 x.y.d:: .int .i64 x.y.s:: .int .i64 x.nx:: .bool x.ho::[])),.agg #[.int .i64 k,.int .u16 aa,.int .u8 d,.int .i64 s],.int .i64 8,.bool e,.bool o] w (ItPost base (.slice a n c) ((l++[i])++[⟨2,0,0,0,0,0,1,e,o⟩]) w):=by
 obtain ⟨g,rfl,_,_⟩:=hO.head (by have:=hO.len;simp at this;omega)
 obtain ⟨m,HM,q1,q2,q3,q4,c0,c6,c7,c8,f6,H1,H2,gw⟩:=inc_facts hO rfl
 have HO:=Lib.hid hO
 have HL:=Lib.hid hl
 clear hO hl H1 H2 f6 c6
 by_cases hk:i.k=2
 ·rcases he:(i.e==e) with _|_
  ·clear hm
   have hkb:(i.k==2)=true:=by simpa using hk
   clear hk
   exact q2C24u
  ·have h2:i.e=e:=eq_of_beq he
   have ho:(i.o==o)=false:=by
    rcases h3:(i.o==o) with _|_
    ·rfl
    ·exact absurd ⟨hk,h2,eq_of_beq h3⟩ hm
   have hkb:(i.k==2)=true:=by simpa using hk
   clear hm h2 hk
   exact q2C24u
 ·have hkb:(i.k==2)=false:=by simpa using hk
  clear hm hk
  exact q2C24u
theorem q1C24u {P:Prop} (h:P:=by
 go_enter Tryz.func36,Tryz.ntmps36
 go_wp2_with (first|(at_builtin;refine wpList_appTH rfl _ _ rfl base (.slice _ n c) _ rfl (HO.out.adds aD) (some ⟨_,0,none⟩) 1 1 [(⟨3,0,x.c.PC,0,0,0,1,e,o⟩:S.It)] rfl (held_new _ (⟨3,0,x.c.PC,0,0,0,1,e,o⟩:S.It) _ (by simp [go_sem]) _ rfl _) (Nat.le_refl _) (fun h=>by cases h) (by have:=HL.out;simp only [List.length_append,List.length_singleton,List.length_nil];omega) (Nat.le_trans hb (Adds.size aD)) ?_;intro v1 w1 hO1 hG1 hW1;have HP:=Lib.hid (ItPost.app hO1 hG1 hW1 (show Adds w _ from aD));clear hO1 hG1 hW1)|fail)
 all_goals (try go_region)
 all_goals (try go_wp2_with (first|(at_builtin;refine wpList_appTH rfl _ _ rfl base (.slice _ n c) _ rfl (HO.out.adds aD) (some ⟨_,0,none⟩) 1 1 [(⟨3,0,x.c.PC,0,0,0,1,e,o⟩:S.It)] rfl (held_new _ (⟨3,0,x.c.PC,0,0,0,1,e,o⟩:S.It) _ (by simp [go_sem]) _ rfl _) (Nat.le_refl _) (fun h=>by cases h) (by have:=HL.out;simp only [List.length_append,List.length_singleton,List.length_nil];omega) (Nat.le_trans hb (Adds.size aD)) ?_;intro v1 w1 hO1 hG1 hW1;have HP:=Lib.hid (ItPost.app hO1 hG1 hW1 (show Adds w _ from aD));clear hO1 hG1 hW1)|fail))
 all_goals
  go_ret
  exact HP.out):P:=h
theorem item_nil_9 (base n c:Nat) (a:Option Addr) (x:S.Co) (w:World) (hO:OwnsT w base (.slice a n c) []) (hb:base≤w.heap.size):Calls Tryz.prog 36 #[.slice a n c,.agg (List.toArray (.int .i64 x.c.Ch:: .int .u8 x.c.A:: .int .u8 x.c.B:: .int .u8 x.c.C:: .int .u8 x.c.D:: .int .u8 x.c.E:: .int .u8 x.c.H:: .int .u8 x.c.L:: .bool x.c.fS:: .bool x.c.fZ:: .bool x.c.fK:: .bool x.c.fAC:: .bool x.c.fP:: .bool x.c.fV:: .bool x.c.fCY:: .int .u16 x.c.SP:: .int .u16 x.c.PC:: .bool x.c.IE:: .bool x.c.De:: .bool x.c.Ha:: .int .u8 x.c.Ma:: .bool x.c.Tr:: .bool x.c.R7:: .bool x.c.WT:: .bool x.c.W7:: .bool x.c.Sa:: .bool x.c.SI:: .bool x.c.SO:: .int .i64 x.src:: .slice x.ga x.gn x.gc:: .int .i64 x.y.k:: .int .u16 x.y.a:: .int .u8 x.y.d:: .int .i64 x.y.s:: .int .i64 x.nx:: .bool x.ho::[])),.agg #[.int .i64 k,.int .u16 aa,.int .u8 d,.int .i64 s],.int .i64 9,.bool e,.bool o] w (ItPost base (.slice a n c) [⟨3,0,x.c.PC,0,0,0,1,e,o⟩] w):=by
 have hn:0=n:=hO.len
 have q1:(n:Int) - 1= -1:=by omega
 have HL:=Lib.hid (show 0≤1000000 by omega)
 have HO:=Lib.hid hO
 clear hO hn
 ·exact q1C24u
theorem item_mis_9 (base n c:Nat) (x:S.Co) (l:List S.It) (i:S.It) (w:World) (hO:OwnsT w base (.slice a n c) (l++[i])) (hl:l.length≤1000000) (hb:base≤w.heap.size) (hm:¬(i.k=3∧i.e=e∧i.o=o)):Calls Tryz.prog 36 #[.slice a n c,.agg (List.toArray (.int .i64 x.c.Ch:: .int .u8 x.c.A:: .int .u8 x.c.B:: .int .u8 x.c.C:: .int .u8 x.c.D:: .int .u8 x.c.E:: .int .u8 x.c.H:: .int .u8 x.c.L:: .bool x.c.fS:: .bool x.c.fZ:: .bool x.c.fK:: .bool x.c.fAC:: .bool x.c.fP:: .bool x.c.fV:: .bool x.c.fCY:: .int .u16 x.c.SP:: .int .u16 x.c.PC:: .bool x.c.IE:: .bool x.c.De:: .bool x.c.Ha:: .int .u8 x.c.Ma:: .bool x.c.Tr:: .bool x.c.R7:: .bool x.c.WT:: .bool x.c.W7:: .bool x.c.Sa:: .bool x.c.SI:: .bool x.c.SO:: .int .i64 x.src:: .slice x.ga x.gn x.gc:: .int .i64 x.y.k:: .int .u16 x.y.a:: .int .u8 x.y.d:: .int .i64 x.y.s:: .int .i64 x.nx:: .bool x.ho::[])),.agg #[.int .i64 k,.int .u16 aa,.int .u8 d,.int .i64 s],.int .i64 9,.bool e,.bool o] w (ItPost base (.slice a n c) ((l++[i])++[⟨3,0,x.c.PC,0,0,0,1,e,o⟩]) w):=by
 obtain ⟨g,rfl,_,_⟩:=hO.head (by have:=hO.len;simp at this;omega)
 obtain ⟨m,HM,q1,q2,q3,q4,c0,c6,c7,c8,f6,H1,H2,gw⟩:=inc_facts hO rfl
 have HO:=Lib.hid hO
 have HL:=Lib.hid hl
 clear hO hl H1 H2 f6 c6
 by_cases hk:i.k=3
 ·rcases he:(i.e==e) with _|_
  ·clear hm
   have hkb:(i.k==3)=true:=by simpa using hk
   clear hk
   exact q1C24u
  ·have h2:i.e=e:=eq_of_beq he
   have ho:(i.o==o)=false:=by
    rcases h3:(i.o==o) with _|_
    ·rfl
    ·exact absurd ⟨hk,h2,eq_of_beq h3⟩ hm
   have hkb:(i.k==3)=true:=by simpa using hk
   clear hm h2 hk
   exact q1C24u
 ·have hkb:(i.k==3)=false:=by simpa using hk
  clear hm hk
  exact q1C24u
theorem q3C24u {P:Prop} (h:P:=by
 go_enter Tryz.func36,Tryz.ntmps36
 go_wp2_with (first|(at_builtin;refine wpList_appTH rfl _ _ rfl base (.slice _ n c) _ rfl (HO.out.adds aD) (some ⟨_,0,none⟩) 1 1 [(⟨4,0,0,0,0,0,1,e,o⟩:S.It)] rfl (held_new _ (⟨4,0,0,0,0,0,1,e,o⟩:S.It) _ (by simp [go_sem]) _ rfl _) (Nat.le_refl _) (fun h=>by cases h) (by have:=HL.out;simp only [List.length_append,List.length_singleton,List.length_nil];omega) (Nat.le_trans hb (Adds.size aD)) ?_;intro v1 w1 hO1 hG1 hW1;have HP:=Lib.hid (ItPost.app hO1 hG1 hW1 (show Adds w _ from aD));clear hO1 hG1 hW1)|fail)
 all_goals (try go_region)
 all_goals (try go_wp2_with (first|(at_builtin;refine wpList_appTH rfl _ _ rfl base (.slice _ n c) _ rfl (HO.out.adds aD) (some ⟨_,0,none⟩) 1 1 [(⟨4,0,0,0,0,0,1,e,o⟩:S.It)] rfl (held_new _ (⟨4,0,0,0,0,0,1,e,o⟩:S.It) _ (by simp [go_sem]) _ rfl _) (Nat.le_refl _) (fun h=>by cases h) (by have:=HL.out;simp only [List.length_append,List.length_singleton,List.length_nil];omega) (Nat.le_trans hb (Adds.size aD)) ?_;intro v1 w1 hO1 hG1 hW1;have HP:=Lib.hid (ItPost.app hO1 hG1 hW1 (show Adds w _ from aD));clear hO1 hG1 hW1)|fail))
 all_goals
  go_ret
  exact HP.out):P:=h
theorem item_nil_10 (base n c:Nat) (a:Option Addr) (x:S.Co) (w:World) (hO:OwnsT w base (.slice a n c) []) (hb:base≤w.heap.size):Calls Tryz.prog 36 #[.slice a n c,.agg (List.toArray (.int .i64 x.c.Ch:: .int .u8 x.c.A:: .int .u8 x.c.B:: .int .u8 x.c.C:: .int .u8 x.c.D:: .int .u8 x.c.E:: .int .u8 x.c.H:: .int .u8 x.c.L:: .bool x.c.fS:: .bool x.c.fZ:: .bool x.c.fK:: .bool x.c.fAC:: .bool x.c.fP:: .bool x.c.fV:: .bool x.c.fCY:: .int .u16 x.c.SP:: .int .u16 x.c.PC:: .bool x.c.IE:: .bool x.c.De:: .bool x.c.Ha:: .int .u8 x.c.Ma:: .bool x.c.Tr:: .bool x.c.R7:: .bool x.c.WT:: .bool x.c.W7:: .bool x.c.Sa:: .bool x.c.SI:: .bool x.c.SO:: .int .i64 x.src:: .slice x.ga x.gn x.gc:: .int .i64 x.y.k:: .int .u16 x.y.a:: .int .u8 x.y.d:: .int .i64 x.y.s:: .int .i64 x.nx:: .bool x.ho::[])),.agg #[.int .i64 k,.int .u16 aa,.int .u8 d,.int .i64 s],.int .i64 10,.bool e,.bool o] w (ItPost base (.slice a n c) [⟨4,0,0,0,0,0,1,e,o⟩] w):=by
 have hn:0=n:=hO.len
 have q1:(n:Int) - 1= -1:=by omega
 have HL:=Lib.hid (show 0≤1000000 by omega)
 have HO:=Lib.hid hO
 clear hO hn
 ·exact q3C24u
theorem item_mis_10 (base n c:Nat) (x:S.Co) (l:List S.It) (i:S.It) (w:World) (hO:OwnsT w base (.slice a n c) (l++[i])) (hl:l.length≤1000000) (hb:base≤w.heap.size) (hm:¬(i.k=4∧i.e=e∧i.o=o)):Calls Tryz.prog 36 #[.slice a n c,.agg (List.toArray (.int .i64 x.c.Ch:: .int .u8 x.c.A:: .int .u8 x.c.B:: .int .u8 x.c.C:: .int .u8 x.c.D:: .int .u8 x.c.E:: .int .u8 x.c.H:: .int .u8 x.c.L:: .bool x.c.fS:: .bool x.c.fZ:: .bool x.c.fK:: .bool x.c.fAC:: .bool x.c.fP:: .bool x.c.fV:: .bool x.c.fCY:: .int .u16 x.c.SP:: .int .u16 x.c.PC:: .bool x.c.IE:: .bool x.c.De:: .bool x.c.Ha:: .int .u8 x.c.Ma:: .bool x.c.Tr:: .bool x.c.R7:: .bool x.c.WT:: .bool x.c.W7:: .bool x.c.Sa:: .bool x.c.SI:: .bool x.c.SO:: .int .i64 x.src:: .slice x.ga x.gn x.gc:: .int .i64 x.y.k:: .int .u16 x.y.a:: .int .u8 x.y.d:: .int .i64 x.y.s:: .int .i64 x.nx:: .bool x.ho::[])),.agg #[.int .i64 k,.int .u16 aa,.int .u8 d,.int .i64 s],.int .i64 10,.bool e,.bool o] w (ItPost base (.slice a n c) ((l++[i])++[⟨4,0,0,0,0,0,1,e,o⟩]) w):=by
 obtain ⟨g,rfl,_,_⟩:=hO.head (by have:=hO.len;simp at this;omega)
 obtain ⟨m,HM,q1,q2,q3,q4,c0,c6,c7,c8,f6,H1,H2,gw⟩:=inc_facts hO rfl
 have HO:=Lib.hid hO
 have HL:=Lib.hid hl
 clear hO hl H1 H2 f6 c6
 by_cases hk:i.k=4
 ·rcases he:(i.e==e) with _|_
  ·clear hm
   have hkb:(i.k==4)=true:=by simpa using hk
   clear hk
   exact q3C24u
  ·have h2:i.e=e:=eq_of_beq he
   have ho:(i.o==o)=false:=by
    rcases h3:(i.o==o) with _|_
    ·rfl
    ·exact absurd ⟨hk,h2,eq_of_beq h3⟩ hm
   have hkb:(i.k==4)=true:=by simpa using hk
   clear hm h2 hk
   exact q3C24u
 ·have hkb:(i.k==4)=false:=by simpa using hk
  clear hm hk
  exact q3C24u
end
end Go.Proofs.YteggjjhjmhccjaaGreatDoor
