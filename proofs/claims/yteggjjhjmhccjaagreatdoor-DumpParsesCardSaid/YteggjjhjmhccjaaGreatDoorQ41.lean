/- Texts that the proofs of the statements on dumps rest on, joined. Conditions stand in each theorem. -/
import Derived.Test.YteggjjhjmhccjaaGreatDoorQ03
import Derived.Test.YteggjjhjmhccjaaGreatDoorQ38
import Derived.Test.YteggjjhjmhccjaaGreatDoorQ36
import Derived.Test.YteggjjhjmhccjaaGreatDoorQ39
import Derived.Deep.CutRange
import Derived.Test.YteggjjhjmhccjaaGreatDoorQ40
set_option linter.unusedVariables false
set_option linter.unusedSimpArgs false
set_option maxRecDepth 100000
set_option maxHeartbeats 8000000
namespace Go.Proofs.YteggjjhjmhccjaaGreatDoor
open Go.ChangeShapes Go.WideShapes Go.ChangeAt Go.RowKit
section
variable {L M b11 b9 c n:Nat} {T:Nat→Prop} {V W w:World} {a:Option Addr} {b:S.Bd} {d m:List K12.Cl} {i:S.Inp} {mo:Array Value} {os:List S.Ou} {x y:S.Sy} {z:List Int}
theorem cell_setRow_eq (w:World) (b i:Nat) (cs:Array Value) (h:0 < (rowOf w b).size):(w.setRow b cs).cell? ⟨b,i,none⟩=cs[i]? :=by
 obtain ⟨t,ht⟩:=heap_setRow_same h cs
 rw [cell_of_row _ b i cs t (0,0) ht]
theorem frozen_setRow_eq (w:World) (b i:Nat) (cs:Array Value) (h:0 < (rowOf w b).size):(w.setRow b cs).frozen? ⟨b,i,none⟩=false:=by
 obtain ⟨t,ht⟩:=heap_setRow_same h cs
 exact frozen_of_row _ b i cs t ht
theorem frozen_setRow_ne (w:World) (b k i:Nat) (cs:Array Value) (h:k≠b):(w.setRow b cs).frozen? ⟨k,i,none⟩=w.frozen? ⟨k,i,none⟩:=World.frozen?_of_block (a:=⟨k,i,none⟩) (heap_setRow_other w b k cs h)
attribute [local go_sem] rowOf_setCell_same rowOf_setCell_other cell_setRow_eq frozen_setRow_eq frozen_setRow_ne
structure CkR (w:World) (b:S.Bd) (i:S.Inp) (W:World):Prop where
 a:Adds w W
 r3:rowOf W w.heap.size=#[.int .i64 b.ch,.slice b.ra b.rn b.rc,.int .i64 b.iw,.int .u8 b.pp,.int .u8 b.dp,.bool b.jm,.slice b.ia b.ni b.ic]
 r5:rowOf W (w.heap.size+1+1)=#[.bool i.r,.bool i.h,.bool i.z,.bool i.s,.bool i.t,.bool i.a,.bool i.b,.bool i.c,.int .u8 i.q,.int .u8 i.p]
 r6:(rowOf W (w.heap.size+1+1+1)).size=62
 r7:(rowOf W (w.heap.size+1+1+1+1)).size=17
 r8:(rowOf W (w.heap.size+1+1+1+1+1)).size=13
theorem CkR.tch (h:CkR w b i W) (k:Tch T W V) (hT:∀k,T k→k=w.heap.size+1∨w.heap.size+6≤k):CkR w b i V:=by
 have p:∀k,k < w.heap.size+6→k≠w.heap.size+1→0 < (rowOf W k).size→rowOf V k=rowOf W k:=fun j h1 h2 h3=>k.row (row_lt rfl h3) (fun e=>by have:=hT j e;omega)
 exact ⟨k.adds h.a (fun b _ e=>by have:=hT b e;omega),(p _ (by omega) (by omega) (by rw [h.r3];simp)).trans h.r3,(p _ (by omega) (by omega) (by rw [h.r5];simp)).trans h.r5,by rw [p _ (by omega) (by omega) (by rw [h.r6];omega)];exact h.r6,by rw [p _ (by omega) (by omega) (by rw [h.r7];omega)];exact h.r7,by rw [p _ (by omega) (by omega) (by rw [h.r8];omega)];exact h.r8⟩
theorem CkR.adds (h:CkR w b i W) (k:Adds W V):CkR w b i V:=h.tch (T:=fun _=>False) (Tch.of_adds k) (fun _ e=>e.elim)
theorem CkR.hs (h:CkR w b i W):w.heap.size+6≤W.heap.size:=row_lt (c:=rowOf W (w.heap.size+1+1+1+1+1)) rfl (by rw [h.r8];omega)
theorem SyOk.pic (h:SyOk L x z m os w) {p:K22.S.Pc} (hp:Okq p):SyOk L ⟨x.k,x.ma,x.mn,x.mc,p,x.da,x.dv,x.dl,x.wt,x.oa,x.on,x.oc⟩ z m os w:=⟨h.k,h.gl,h.mh,h.mc,h.ml,h.mb,hp,h.da,h.dv,h.dl,h.o,h.oc,h.ol,h.oz⟩
theorem HeldG.off {α:Type} {cs:α→List Value} {d:List α} (h:HeldG cs w a n d) (hT:∀k,T k→w.heap.size≤k):Off T a n:=fun b o e hn hs=>by
 obtain ⟨b',o',e',hb,_⟩:=h.2.2 hn
 rw [e'] at e
 injection e with e
 injection e with e _
 have:=hT b hs
 omega
theorem K12.Held.off (h:K12.Held w a n d) (hT:∀k,T k→w.heap.size≤k):Off T a n:=fun b o e hn hs=>by
 obtain ⟨b',o',e',hb,_⟩:=h.2.2 hn
 rw [e'] at e
 injection e with e
 injection e with e _
 have:=hT b hs
 omega
def CkO (w:World) (b9:Nat) (k:Nat):Prop:=(w.heap.size≤k∧k < w.heap.size+6)∨k=b9
structure CkS (w:World) (b:S.Bd) (i:S.Inp) (x:S.Sy) (b9 b11:Nat) (L:Nat) (y:S.Sy) (z:List Int) (m:List K12.Cl) (os:List S.Ou) (mo:Array Value) (W:World):Prop where
 r:CkR w b i W
 r4:rowOf W (w.heap.size+1)=(List.toArray (.int .i64 y.k.c.Ch:: .int .u8 y.k.c.A:: .int .u8 y.k.c.B:: .int .u8 y.k.c.C:: .int .u8 y.k.c.D:: .int .u8 y.k.c.E:: .int .u8 y.k.c.H:: .int .u8 y.k.c.L:: .bool y.k.c.fS:: .bool y.k.c.fZ:: .bool y.k.c.fK:: .bool y.k.c.fAC:: .bool y.k.c.fP:: .bool y.k.c.fV:: .bool y.k.c.fCY:: .int .u16 y.k.c.SP:: .int .u16 y.k.c.PC:: .bool y.k.c.IE:: .bool y.k.c.De:: .bool y.k.c.Ha:: .int .u8 y.k.c.Ma:: .bool y.k.c.Tr:: .bool y.k.c.R7:: .bool y.k.c.WT:: .bool y.k.c.W7:: .bool y.k.c.Sa:: .bool y.k.c.SI:: .bool y.k.c.SO:: .int .i64 y.k.src:: .slice y.k.ga y.k.gn y.k.gc:: .int .i64 y.k.y.k:: .int .u16 y.k.y.a:: .int .u8 y.k.y.d:: .int .i64 y.k.y.s:: .int .i64 y.k.nx:: .bool y.k.ho:: .slice y.ma y.mn y.mc:: .int .i64 y.p.St:: .bool y.p.Le:: .bool y.p.Fo:: .bool y.p.Si:: .bool y.p.Ft:: .int .u8 y.p.Lw:: .int .u8 y.p.Hg:: .bool y.p.Au:: .bool y.p.Ro:: .bool y.p.Sp:: .bool y.p.RI:: .bool y.p.Po:: .int .u8 y.p.Li:: .int .u8 y.p.Ed:: .int .u8 y.p.IS:: .int .u8 y.p.IM:: .int .i64 y.p.Lo:: .int .i64 y.p.Sq:: .int .i64 y.p.Sv:: .bool y.p.Su:: .int .u16 y.da:: .int .u8 y.dv:: .int .i64 y.dl:: .int .i64 y.wt:: .slice y.oa y.on y.oc::[]))
 r9:rowOf W b9=mo
 mz:mo.size=13
 r11:rowOf W b11=(List.toArray (.int .i64 x.k.c.Ch:: .int .u8 x.k.c.A:: .int .u8 x.k.c.B:: .int .u8 x.k.c.C:: .int .u8 x.k.c.D:: .int .u8 x.k.c.E:: .int .u8 x.k.c.H:: .int .u8 x.k.c.L:: .bool x.k.c.fS:: .bool x.k.c.fZ:: .bool x.k.c.fK:: .bool x.k.c.fAC:: .bool x.k.c.fP:: .bool x.k.c.fV:: .bool x.k.c.fCY:: .int .u16 x.k.c.SP:: .int .u16 x.k.c.PC:: .bool x.k.c.IE:: .bool x.k.c.De:: .bool x.k.c.Ha:: .int .u8 x.k.c.Ma:: .bool x.k.c.Tr:: .bool x.k.c.R7:: .bool x.k.c.WT:: .bool x.k.c.W7:: .bool x.k.c.Sa:: .bool x.k.c.SI:: .bool x.k.c.SO:: .int .i64 x.k.src:: .slice x.k.ga x.k.gn x.k.gc:: .int .i64 x.k.y.k:: .int .u16 x.k.y.a:: .int .u8 x.k.y.d:: .int .i64 x.k.y.s:: .int .i64 x.k.nx:: .bool x.k.ho::[]))
 s:SyOk L y z m os W
 n:w.heap.size+6≤b9∧w.heap.size+6≤b11∧¬b9=b11
 o1:Off (CkO w b9) y.k.ga y.k.gn
 o2:Off (CkO w b9) y.ma y.mn
 o3:Off (CkO w b9) y.oa y.on
 f1:Nw w.heap.size y.k.ga y.k.gn
 f2:Sm2 w.heap.size x.ma x.mn y.ma y.mn
 f3:Sm2 w.heap.size x.oa x.on y.oa y.on
theorem CkS.adds (h:CkS w b i x b9 b11 L y z m os mo W) (k:Adds W V):CkS w b i x b9 b11 L y z m os mo V:=
 ⟨h.r.adds k,(k.row (row_lt h.r4 (by simp))).trans h.r4,(k.row (row_lt h.r9 (by rw [h.mz];omega))).trans h.r9,h.mz,(k.row (row_lt h.r11 (by simp))).trans h.r11,h.s.adds k,h.n,h.o1,h.o2,h.o3,h.f1,h.f2,h.f3⟩
theorem CkS.mono (h:CkS w b i x b9 b11 L y z m os mo W) (k:L≤M):CkS w b i x b9 b11 M y z m os mo W:=
 ⟨h.r,h.r4,h.r9,h.mz,h.r11,h.s.mono k,h.n,h.o1,h.o2,h.o3,h.f1,h.f2,h.f3⟩
theorem CkS.put {yy:S.Sy} {z':List Int} {m':List K12.Cl} {os':List S.Ou} {mo':Array Value} (h:CkS w b i x b9 b11 L y z m os mo W) (k:Tch T W V) (hT:∀k,T k→k=w.heap.size+1∨k=b9)
 (r4:rowOf V (w.heap.size+1)=(List.toArray (.int .i64 yy.k.c.Ch:: .int .u8 yy.k.c.A:: .int .u8 yy.k.c.B:: .int .u8 yy.k.c.C:: .int .u8 yy.k.c.D:: .int .u8 yy.k.c.E:: .int .u8 yy.k.c.H:: .int .u8 yy.k.c.L:: .bool yy.k.c.fS:: .bool yy.k.c.fZ:: .bool yy.k.c.fK:: .bool yy.k.c.fAC:: .bool yy.k.c.fP:: .bool yy.k.c.fV:: .bool yy.k.c.fCY:: .int .u16 yy.k.c.SP:: .int .u16 yy.k.c.PC:: .bool yy.k.c.IE:: .bool yy.k.c.De:: .bool yy.k.c.Ha:: .int .u8 yy.k.c.Ma:: .bool yy.k.c.Tr:: .bool yy.k.c.R7:: .bool yy.k.c.WT:: .bool yy.k.c.W7:: .bool yy.k.c.Sa:: .bool yy.k.c.SI:: .bool yy.k.c.SO:: .int .i64 yy.k.src:: .slice yy.k.ga yy.k.gn yy.k.gc:: .int .i64 yy.k.y.k:: .int .u16 yy.k.y.a:: .int .u8 yy.k.y.d:: .int .i64 yy.k.y.s:: .int .i64 yy.k.nx:: .bool yy.k.ho:: .slice yy.ma yy.mn yy.mc:: .int .i64 yy.p.St:: .bool yy.p.Le:: .bool yy.p.Fo:: .bool yy.p.Si:: .bool yy.p.Ft:: .int .u8 yy.p.Lw:: .int .u8 yy.p.Hg:: .bool yy.p.Au:: .bool yy.p.Ro:: .bool yy.p.Sp:: .bool yy.p.RI:: .bool yy.p.Po:: .int .u8 yy.p.Li:: .int .u8 yy.p.Ed:: .int .u8 yy.p.IS:: .int .u8 yy.p.IM:: .int .i64 yy.p.Lo:: .int .i64 yy.p.Sq:: .int .i64 yy.p.Sv:: .bool yy.p.Su:: .int .u16 yy.da:: .int .u8 yy.dv:: .int .i64 yy.dl:: .int .i64 yy.wt:: .slice yy.oa yy.on yy.oc::[]))) (r9:rowOf V b9=mo') (mz:mo'.size=13) (s:SyOk M yy z' m' os' W) (o1:Off (CkO w b9) yy.k.ga yy.k.gn) (o2:Off (CkO w b9) yy.ma yy.mn) (o3:Off (CkO w b9) yy.oa yy.on) (f1:Nw w.heap.size yy.k.ga yy.k.gn) (f2:Sm2 w.heap.size x.ma x.mn yy.ma yy.mn) (f3:Sm2 w.heap.size x.oa x.on yy.oa yy.on):CkS w b i x b9 b11 M yy z' m' os' mo' V:=by
 have hn:=h.n
 have hk:∀k,T k→CkO w b9 k:=fun k e=>by
  rcases hT k e with e|e
  ·exact .inl (by omega)
  ·exact .inr e
 exact ⟨h.r.tch k (fun k e=>by have:=hT k e;omega),r4,r9,mz,(k.row (row_lt h.r11 (by simp)) (fun e=>by have:=hT _ e;omega)).trans h.r11,s.tch k (o1.mono hk) (o2.mono hk) (o3.mono hk),h.n,o1,o2,o3,f1,f2,f3⟩
theorem SyOk.dma (h:SyOk L x z m os w) {da dv dl:Int} (h1:0≤da∧da < 65536) (h2:0≤dv∧dv < 256) (h3:0≤dl∧dl < 256):SyOk L ⟨x.k,x.ma,x.mn,x.mc,x.p,da,dv,dl,x.wt,x.oa,x.on,x.oc⟩ z m os w:=⟨h.k,h.gl,h.mh,h.mc,h.ml,h.mb,h.p,h1,h2,h3,h.o,h.oc,h.ol,h.oz⟩
theorem SyOk.mem (h:SyOk L x z m os w) (hL:L≤M) {ad:Option Addr} (h1:K12.Held w ad n d) (h2:n≤c∧c≤9223372036854775807) (h3:n≤M) (h4:∀y,0≤K12.Sm.get d y∧K12.Sm.get d y < 256):SyOk M ⟨x.k,ad,n,c,x.p,x.da,x.dv,x.dl,x.wt,x.oa,x.on,x.oc⟩ z d os w:=
 ⟨h.k,Nat.le_trans h.gl hL,h1,h2,h3,h4,h.p,h.da,h.dv,h.dl,h.o,h.oc,Nat.le_trans h.ol hL,h.oz⟩
theorem wrap16_bd {a:Int}:0≤IntKind.u16.wrap a∧IntKind.u16.wrap a < 65536:=by simp [IntKind.wrap,IntKind.bits,IntKind.signed];omega
def PostClk (L:Nat) (x:S.Sy) (i:S.Inp) (w:World) (e:Ending) (w':World):Prop:=∃(y:S.Sy) (z:List Int) (m:List K12.Cl) (os:List S.Ou) (mo:S.Mo),
 e=.returned (.tuple #[.agg (List.toArray (.int .i64 y.k.c.Ch:: .int .u8 y.k.c.A:: .int .u8 y.k.c.B:: .int .u8 y.k.c.C:: .int .u8 y.k.c.D:: .int .u8 y.k.c.E:: .int .u8 y.k.c.H:: .int .u8 y.k.c.L:: .bool y.k.c.fS:: .bool y.k.c.fZ:: .bool y.k.c.fK:: .bool y.k.c.fAC:: .bool y.k.c.fP:: .bool y.k.c.fV:: .bool y.k.c.fCY:: .int .u16 y.k.c.SP:: .int .u16 y.k.c.PC:: .bool y.k.c.IE:: .bool y.k.c.De:: .bool y.k.c.Ha:: .int .u8 y.k.c.Ma:: .bool y.k.c.Tr:: .bool y.k.c.R7:: .bool y.k.c.WT:: .bool y.k.c.W7:: .bool y.k.c.Sa:: .bool y.k.c.SI:: .bool y.k.c.SO:: .int .i64 y.k.src:: .slice y.k.ga y.k.gn y.k.gc:: .int .i64 y.k.y.k:: .int .u16 y.k.y.a:: .int .u8 y.k.y.d:: .int .i64 y.k.y.s:: .int .i64 y.k.nx:: .bool y.k.ho:: .slice y.ma y.mn y.mc:: .int .i64 y.p.St:: .bool y.p.Le:: .bool y.p.Fo:: .bool y.p.Si:: .bool y.p.Ft:: .int .u8 y.p.Lw:: .int .u8 y.p.Hg:: .bool y.p.Au:: .bool y.p.Ro:: .bool y.p.Sp:: .bool y.p.RI:: .bool y.p.Po:: .int .u8 y.p.Li:: .int .u8 y.p.Ed:: .int .u8 y.p.IS:: .int .u8 y.p.IM:: .int .i64 y.p.Lo:: .int .i64 y.p.Sq:: .int .i64 y.p.Sv:: .bool y.p.Su:: .int .u16 y.da:: .int .u8 y.dv:: .int .i64 y.dl:: .int .i64 y.wt:: .slice y.oa y.on y.oc::[])),.agg (S.pn (x.k.c.Ch==2) (S.itm x.k (if i.z then 10 else x.k.nx) mo.da) (if i.z then 10 else x.k.nx)).cs,.agg #[.bool mo.Re,.bool mo.Ho,.bool mo.Rs,.bool mo.Si,.bool mo.Tr,.bool mo.R7,.bool mo.R6,.bool mo.R5,.bool mo.In,.int .u8 mo.da,.int .u16 mo.ca,.int .u8 mo.cv,.bool mo.mv]])∧y.k.c.Ch=x.k.c.Ch∧S.Stp x.k mo.da i.z y.k∧mo.Rs=i.z∧(0≤mo.da∧mo.da < 256)∧SyOk (L+3) y z m os w'∧Nw w.heap.size y.k.ga y.k.gn∧Sm2 w.heap.size x.ma x.mn y.ma y.mn∧Sm2 w.heap.size x.oa x.on y.oa y.on∧Adds w w'
theorem PostClk.mk {w':World} (y:S.Sy) (z:List Int) (m:List K12.Cl) (os:List S.Ou) (mo:S.Mo) (P:S.Pn) (hP:S.pn (x.k.c.Ch==2) (S.itm x.k (if i.z then 10 else x.k.nx) mo.da) (if i.z then 10 else x.k.nx)=P) (h1:y.k.c.Ch=x.k.c.Ch) (h2:S.Stp x.k mo.da i.z y.k) (h3:mo.Rs=i.z) (h4:0≤mo.da∧mo.da < 256) (h5:SyOk (L+3) y z m os w') (h6:Nw w.heap.size y.k.ga y.k.gn) (h7:Sm2 w.heap.size x.ma x.mn y.ma y.mn) (h8:Sm2 w.heap.size x.oa x.on y.oa y.on) (h9:Adds w w'):
 PostClk L x i w (.returned (.tuple #[.agg (List.toArray (.int .i64 y.k.c.Ch:: .int .u8 y.k.c.A:: .int .u8 y.k.c.B:: .int .u8 y.k.c.C:: .int .u8 y.k.c.D:: .int .u8 y.k.c.E:: .int .u8 y.k.c.H:: .int .u8 y.k.c.L:: .bool y.k.c.fS:: .bool y.k.c.fZ:: .bool y.k.c.fK:: .bool y.k.c.fAC:: .bool y.k.c.fP:: .bool y.k.c.fV:: .bool y.k.c.fCY:: .int .u16 y.k.c.SP:: .int .u16 y.k.c.PC:: .bool y.k.c.IE:: .bool y.k.c.De:: .bool y.k.c.Ha:: .int .u8 y.k.c.Ma:: .bool y.k.c.Tr:: .bool y.k.c.R7:: .bool y.k.c.WT:: .bool y.k.c.W7:: .bool y.k.c.Sa:: .bool y.k.c.SI:: .bool y.k.c.SO:: .int .i64 y.k.src:: .slice y.k.ga y.k.gn y.k.gc:: .int .i64 y.k.y.k:: .int .u16 y.k.y.a:: .int .u8 y.k.y.d:: .int .i64 y.k.y.s:: .int .i64 y.k.nx:: .bool y.k.ho:: .slice y.ma y.mn y.mc:: .int .i64 y.p.St:: .bool y.p.Le:: .bool y.p.Fo:: .bool y.p.Si:: .bool y.p.Ft:: .int .u8 y.p.Lw:: .int .u8 y.p.Hg:: .bool y.p.Au:: .bool y.p.Ro:: .bool y.p.Sp:: .bool y.p.RI:: .bool y.p.Po:: .int .u8 y.p.Li:: .int .u8 y.p.Ed:: .int .u8 y.p.IS:: .int .u8 y.p.IM:: .int .i64 y.p.Lo:: .int .i64 y.p.Sq:: .int .i64 y.p.Sv:: .bool y.p.Su:: .int .u16 y.da:: .int .u8 y.dv:: .int .i64 y.dl:: .int .i64 y.wt:: .slice y.oa y.on y.oc::[])),.agg #[.int .i64 P.st,.int .u16 P.ad,.int .u8 P.da,.bool P.sy,.bool P.db,.bool P.wa,.bool P.it,.bool P.al,.bool P.im,.bool P.s1,.bool P.s0,.bool P.rd,.bool P.ia,.bool P.so,.bool P.wr,.bool P.hl,.bool P.fl],.agg #[.bool mo.Re,.bool mo.Ho,.bool mo.Rs,.bool mo.Si,.bool mo.Tr,.bool mo.R7,.bool mo.R6,.bool mo.R5,.bool mo.In,.int .u8 mo.da,.int .u16 mo.ca,.int .u8 mo.cv,.bool mo.mv]])) w':=⟨y,z,m,os,mo,by rw [hP];rfl,h1,h2,h3,h4,h5,h6,h7,h8,h9⟩
theorem ret5_Clk {fn:Func} {p q r:Tmp} (hf:fn.results=#[.cell p 67,.cell q 34,.cell r 99]) {tmps:Array Value} {b d:Nat} {cs ds es:Array Value} (hp:tmps.getD p undef=.pointer (some ⟨b,0,none⟩)) (hr:rowOf w b=cs) (hs:cs.size=62) (hq:tmps.getD q undef=.pointer (some ⟨c,0,none⟩)) (hr2:rowOf w c=ds) (hs2:ds.size=17) (hq3:tmps.getD r undef=.pointer (some ⟨d,0,none⟩)) (hr3:rowOf w d=es) (hs3:es.size=13):(results fn tmps).run Tryz.prog w=.ok (.tuple #[.agg cs,.agg ds,.agg es]) w:=
 ret5_all hf Tryz.underlying67 (by kernel_rfl) (by decide) Tryz.underlying34 (by kernel_rfl) (by decide) Tryz.underlying99 (by kernel_rfl) (by decide) tmps w b c d cs ds es hp hr hs hq hr2 hs2 hq3 hr3 hs3
theorem clk_any (L:Nat) (b:S.Bd) (x:S.Sy) (i:S.Inp) (l:List K12.Rg) (z:List Int) (m:List K12.Cl) (os:List S.Ou) (hB:BdOk b l w) (hS:SyOk L x z m os w) (hL:L≤899990) (hi:i.ok):Calls Tryz.prog 34 #[.agg #[.int .i64 b.ch,.slice b.ra b.rn b.rc,.int .i64 b.iw,.int .u8 b.pp,.int .u8 b.dp,.bool b.jm,.slice b.ia b.ni b.ic],.agg (List.toArray (.int .i64 x.k.c.Ch:: .int .u8 x.k.c.A:: .int .u8 x.k.c.B:: .int .u8 x.k.c.C:: .int .u8 x.k.c.D:: .int .u8 x.k.c.E:: .int .u8 x.k.c.H:: .int .u8 x.k.c.L:: .bool x.k.c.fS:: .bool x.k.c.fZ:: .bool x.k.c.fK:: .bool x.k.c.fAC:: .bool x.k.c.fP:: .bool x.k.c.fV:: .bool x.k.c.fCY:: .int .u16 x.k.c.SP:: .int .u16 x.k.c.PC:: .bool x.k.c.IE:: .bool x.k.c.De:: .bool x.k.c.Ha:: .int .u8 x.k.c.Ma:: .bool x.k.c.Tr:: .bool x.k.c.R7:: .bool x.k.c.WT:: .bool x.k.c.W7:: .bool x.k.c.Sa:: .bool x.k.c.SI:: .bool x.k.c.SO:: .int .i64 x.k.src:: .slice x.k.ga x.k.gn x.k.gc:: .int .i64 x.k.y.k:: .int .u16 x.k.y.a:: .int .u8 x.k.y.d:: .int .i64 x.k.y.s:: .int .i64 x.k.nx:: .bool x.k.ho:: .slice x.ma x.mn x.mc:: .int .i64 x.p.St:: .bool x.p.Le:: .bool x.p.Fo:: .bool x.p.Si:: .bool x.p.Ft:: .int .u8 x.p.Lw:: .int .u8 x.p.Hg:: .bool x.p.Au:: .bool x.p.Ro:: .bool x.p.Sp:: .bool x.p.RI:: .bool x.p.Po:: .int .u8 x.p.Li:: .int .u8 x.p.Ed:: .int .u8 x.p.IS:: .int .u8 x.p.IM:: .int .i64 x.p.Lo:: .int .i64 x.p.Sq:: .int .i64 x.p.Sv:: .bool x.p.Su:: .int .u16 x.da:: .int .u8 x.dv:: .int .i64 x.dl:: .int .i64 x.wt:: .slice x.oa x.on x.oc::[])),.agg #[.bool i.r,.bool i.h,.bool i.z,.bool i.s,.bool i.t,.bool i.a,.bool i.b,.bool i.c,.int .u8 i.q,.int .u8 i.p]] w (PostClk L x i w):=by
 have HB:=Lib.hid hB
 have HS:=Lib.hid hS
 have HL:=Lib.hid hL
 have HI:=Lib.hid hi
 clear hB hS hL hi
 go_enter Tryz.func34,Tryz.ntmps34
 go_upto_if 19 with fail
 go_cut [3,4,5,6,7,8] from 0 to 25 (fun v3 v4 v5 v6 v7 v8 wx=>v3=.pointer (some ⟨w.heap.size,0,none⟩)∧v4=.pointer (some ⟨w.heap.size+1,0,none⟩)∧v5=.pointer (some ⟨w.heap.size+1+1,0,none⟩)∧v6=.pointer (some ⟨w.heap.size+1+1+1,0,none⟩)∧v7=.pointer (some ⟨w.heap.size+1+1+1+1,0,none⟩)∧v8=.pointer (some ⟨w.heap.size+1+1+1+1+1,0,none⟩)∧∃p:K22.S.Pc,Hid (Okq p)∧Hid (CkR w b i wx)∧Hid (rowOf wx (w.heap.size+1)=(List.toArray (.int .i64 x.k.c.Ch:: .int .u8 x.k.c.A:: .int .u8 x.k.c.B:: .int .u8 x.k.c.C:: .int .u8 x.k.c.D:: .int .u8 x.k.c.E:: .int .u8 x.k.c.H:: .int .u8 x.k.c.L:: .bool x.k.c.fS:: .bool x.k.c.fZ:: .bool x.k.c.fK:: .bool x.k.c.fAC:: .bool x.k.c.fP:: .bool x.k.c.fV:: .bool x.k.c.fCY:: .int .u16 x.k.c.SP:: .int .u16 x.k.c.PC:: .bool x.k.c.IE:: .bool x.k.c.De:: .bool x.k.c.Ha:: .int .u8 x.k.c.Ma:: .bool x.k.c.Tr:: .bool x.k.c.R7:: .bool x.k.c.WT:: .bool x.k.c.W7:: .bool x.k.c.Sa:: .bool x.k.c.SI:: .bool x.k.c.SO:: .int .i64 x.k.src:: .slice x.k.ga x.k.gn x.k.gc:: .int .i64 x.k.y.k:: .int .u16 x.k.y.a:: .int .u8 x.k.y.d:: .int .i64 x.k.y.s:: .int .i64 x.k.nx:: .bool x.k.ho:: .slice x.ma x.mn x.mc:: .int .i64 p.St:: .bool p.Le:: .bool p.Fo:: .bool p.Si:: .bool p.Ft:: .int .u8 p.Lw:: .int .u8 p.Hg:: .bool p.Au:: .bool p.Ro:: .bool p.Sp:: .bool p.RI:: .bool p.Po:: .int .u8 p.Li:: .int .u8 p.Ed:: .int .u8 p.IS:: .int .u8 p.IM:: .int .i64 p.Lo:: .int .i64 p.Sq:: .int .i64 p.Sv:: .bool p.Su:: .int .u16 x.da:: .int .u8 x.dv:: .int .i64 x.dl:: .int .i64 x.wt:: .slice x.oa x.on x.oc::[]))))
 case first=>
  cases hj:b.jm
  ·go_wp2_with (go_at_call 62;refine ad (K22.rraise_any x.p i.q) fun n1 os1=> ?_;have HQ:=Lib.hid (HS.out.p.raise HI.out.1);generalize K22.S.raise x.p i.q=pp at HQ⊢;simp only [K22.S.Pc.cs])
   go_meet
   exact ⟨rfl,rfl,rfl,rfl,rfl,rfl,pp,HQ,⟨aD,by simp [go_sem,hj],by simp [go_sem],by simp [go_sem],by simp [go_sem],by simp [go_sem]⟩,Lib.hid (by simp [go_sem])⟩
  ·go_wp2_with fail
   go_meet
   exact ⟨rfl,rfl,rfl,rfl,rfl,rfl,x.p,HS.out.p,⟨aD,by simp [go_sem,hj],by simp [go_sem],by simp [go_sem],by simp [go_sem],by simp [go_sem]⟩,Lib.hid (by simp [go_sem])⟩
 case rest=>
  obtain ⟨rfl,rfl,rfl,rfl,rfl,rfl,p,HP,HR,H4⟩:=hcut
  have r3:=HR.out.r3
  have r4:=H4.out
  have r5:=HR.out.r5
  have r6:=HR.out.r6
  have r7:=HR.out.r7
  have r8:=HR.out.r8
  have hs:=HR.out.hs
  have p3:w.heap.size < wc.heap.size:=by omega
  have p4:w.heap.size+1 < wc.heap.size:=by omega
  have p5:w.heap.size+1+1 < wc.heap.size:=by omega
  have HB1:=Lib.hid (HB.out.adds HR.out.a)
  have HS1:=Lib.hid ((HS.out.adds HR.out.a).pic HP.out)
  go_upto_region 5 with (go_at_call 63;refine (levels_any L b ⟨x.k,x.ma,x.mn,x.mc,p,x.da,x.dv,x.dl,x.wt,x.oa,x.on,x.oc⟩ i l z m os (HB1.out.adds aD) (HS1.out.adds aD)).mono ?_;rintro e w' ⟨lRe,lHo,lSi,lTr,lR7,lR6,lR5,lIn,rfl,⟨⟨n1,os1⟩,rfl⟩⟩)
  go_cut [9,10,11] from 9 to 34 (fun v9 v10 v11 wx=>∃(b9 b11:Nat) (i0:Int),v9=.pointer (some ⟨b9,0,none⟩)∧v10=.int .i64 i0∧v11=.pointer (some ⟨b11,0,none⟩)∧Hid (CkR w b i wx)∧Hid (rowOf wx (w.heap.size+1)=(List.toArray (.int .i64 x.k.c.Ch:: .int .u8 x.k.c.A:: .int .u8 x.k.c.B:: .int .u8 x.k.c.C:: .int .u8 x.k.c.D:: .int .u8 x.k.c.E:: .int .u8 x.k.c.H:: .int .u8 x.k.c.L:: .bool x.k.c.fS:: .bool x.k.c.fZ:: .bool x.k.c.fK:: .bool x.k.c.fAC:: .bool x.k.c.fP:: .bool x.k.c.fV:: .bool x.k.c.fCY:: .int .u16 x.k.c.SP:: .int .u16 x.k.c.PC:: .bool x.k.c.IE:: .bool x.k.c.De:: .bool x.k.c.Ha:: .int .u8 x.k.c.Ma:: .bool x.k.c.Tr:: .bool x.k.c.R7:: .bool x.k.c.WT:: .bool x.k.c.W7:: .bool x.k.c.Sa:: .bool x.k.c.SI:: .bool x.k.c.SO:: .int .i64 x.k.src:: .slice x.k.ga x.k.gn x.k.gc:: .int .i64 x.k.y.k:: .int .u16 x.k.y.a:: .int .u8 x.k.y.d:: .int .i64 x.k.y.s:: .int .i64 x.k.nx:: .bool x.k.ho:: .slice x.ma x.mn x.mc:: .int .i64 p.St:: .bool p.Le:: .bool p.Fo:: .bool p.Si:: .bool p.Ft:: .int .u8 p.Lw:: .int .u8 p.Hg:: .bool p.Au:: .bool p.Ro:: .bool p.Sp:: .bool p.RI:: .bool p.Po:: .int .u8 p.Li:: .int .u8 p.Ed:: .int .u8 p.IS:: .int .u8 p.IM:: .int .i64 p.Lo:: .int .i64 p.Sq:: .int .i64 p.Sv:: .bool p.Su:: .int .u16 x.da:: .int .u8 x.dv:: .int .i64 x.dl:: .int .i64 x.wt:: .slice x.oa x.on x.oc::[])))∧Hid (rowOf wx b9=#[.bool lRe,.bool lHo,.bool i.z,.bool lSi,.bool lTr,.bool lR7,.bool lR6,.bool lR5,.bool lIn,.int .u8 0,.int .u16 0,.int .u8 0,.bool false])∧Hid (rowOf wx b11=(List.toArray (.int .i64 x.k.c.Ch:: .int .u8 x.k.c.A:: .int .u8 x.k.c.B:: .int .u8 x.k.c.C:: .int .u8 x.k.c.D:: .int .u8 x.k.c.E:: .int .u8 x.k.c.H:: .int .u8 x.k.c.L:: .bool x.k.c.fS:: .bool x.k.c.fZ:: .bool x.k.c.fK:: .bool x.k.c.fAC:: .bool x.k.c.fP:: .bool x.k.c.fV:: .bool x.k.c.fCY:: .int .u16 x.k.c.SP:: .int .u16 x.k.c.PC:: .bool x.k.c.IE:: .bool x.k.c.De:: .bool x.k.c.Ha:: .int .u8 x.k.c.Ma:: .bool x.k.c.Tr:: .bool x.k.c.R7:: .bool x.k.c.WT:: .bool x.k.c.W7:: .bool x.k.c.Sa:: .bool x.k.c.SI:: .bool x.k.c.SO:: .int .i64 x.k.src:: .slice x.k.ga x.k.gn x.k.gc:: .int .i64 x.k.y.k:: .int .u16 x.k.y.a:: .int .u8 x.k.y.d:: .int .i64 x.k.y.s:: .int .i64 x.k.nx:: .bool x.k.ho::[])))∧Hid (w.heap.size+6≤b9∧w.heap.size+6≤b11∧b9≠b11))
  case first=>
   go_region_held3 (fun w'=>rowOf w' (w.heap.size+1)=(List.toArray (.int .i64 x.k.c.Ch:: .int .u8 x.k.c.A:: .int .u8 x.k.c.B:: .int .u8 x.k.c.C:: .int .u8 x.k.c.D:: .int .u8 x.k.c.E:: .int .u8 x.k.c.H:: .int .u8 x.k.c.L:: .bool x.k.c.fS:: .bool x.k.c.fZ:: .bool x.k.c.fK:: .bool x.k.c.fAC:: .bool x.k.c.fP:: .bool x.k.c.fV:: .bool x.k.c.fCY:: .int .u16 x.k.c.SP:: .int .u16 x.k.c.PC:: .bool x.k.c.IE:: .bool x.k.c.De:: .bool x.k.c.Ha:: .int .u8 x.k.c.Ma:: .bool x.k.c.Tr:: .bool x.k.c.R7:: .bool x.k.c.WT:: .bool x.k.c.W7:: .bool x.k.c.Sa:: .bool x.k.c.SI:: .bool x.k.c.SO:: .int .i64 x.k.src:: .slice x.k.ga x.k.gn x.k.gc:: .int .i64 x.k.y.k:: .int .u16 x.k.y.a:: .int .u8 x.k.y.d:: .int .i64 x.k.y.s:: .int .i64 x.k.nx:: .bool x.k.ho:: .slice x.ma x.mn x.mc:: .int .i64 p.St:: .bool p.Le:: .bool p.Fo:: .bool p.Si:: .bool p.Ft:: .int .u8 p.Lw:: .int .u8 p.Hg:: .bool p.Au:: .bool p.Ro:: .bool p.Sp:: .bool p.RI:: .bool p.Po:: .int .u8 p.Li:: .int .u8 p.Ed:: .int .u8 p.IS:: .int .u8 p.IM:: .int .i64 p.Lo:: .int .i64 p.Sq:: .int .i64 p.Sv:: .bool p.Su:: .int .u16 x.da:: .int .u8 x.dv:: .int .i64 x.dl:: .int .i64 x.wt:: .slice x.oa x.on x.oc::[]))) ((simp [go_sem, *];done))
    (first
      |(go_at_call 64;refine (waited_any ⟨x.k,x.ma,x.mn,x.mc,p,x.da,x.dv,x.dl,x.wt,x.oa,x.on,x.oc⟩ HS1.out.k.nx _).mono ?_;rintro e w' ⟨i0,rfl,⟨⟨n2,os2⟩,rfl⟩⟩)
      |fail)
   all_goals
    go_wp2_with fail
    go_meet
    exact ⟨wc.heap.size,_,_,rfl,rfl,rfl,HR.out.adds aD,Lib.hid (by simp [go_sem, *]),Lib.hid (by simp [go_sem]),Lib.hid (by simp [go_sem]),Lib.hid ⟨by omega,by omega,by omega⟩⟩
  case rest=>
   obtain ⟨b9,b11,i0,rfl,rfl,rfl,HR1,H41,H9,H11,HN⟩:=hcut
   clear r3 r4 r5 r6 r7 r8 hs p3 p4 p5 HB1 HS1 HR H4
   have HB2:=Lib.hid (HB.out.adds HR1.out.a)
   have HS2:=Lib.hid ((HS.out.adds HR1.out.a).pic HP.out)
   have r3:=HR1.out.r3
   have r4:=H41.out
   have r5:=HR1.out.r5
   have r9:=H9.out
   have r11:=H11.out
   have hs:=HR1.out.hs
   obtain ⟨hn1,hn2,hn3⟩:=HN.out
   have p3:w.heap.size < wc.heap.size:=by omega
   have p4:w.heap.size+1 < wc.heap.size:=by omega
   have p5:w.heap.size+1+1 < wc.heap.size:=by omega
   have p9:=row_lt r9 (by simp)
   have p11:=row_lt r11 (by simp)
   have c9:=rowOf_cell (i:=9) (v:=.int .u8 0) r9 rfl
   have f9:=row_frozen r9 (by simp) 9
   have n94:¬b9=w.heap.size+1:=by omega
   have n114:¬b11=w.heap.size+1:=by omega
   have g94:∀c,(wc.setRow (w.heap.size+1) c).frozen? ⟨b9,9,none⟩=false:=fun c=>row_frozen ((rowOf_setRow_other wc _ b9 c n94).trans r9) (by simp) 9
   go_upto_region 7 with (go_at_call 65;refine (bus_any L b ⟨x.k,x.ma,x.mn,x.mc,p,x.da,x.dv,x.dl,x.wt,x.oa,x.on,x.oc⟩ i l z m os (HB2.out.adds aD) (HS2.out.adds aD) HI.out).mono ?_;rintro e w' ⟨p2,v,rfl,hp2,hv,⟨⟨n3,os3⟩,rfl⟩⟩;have HP2:=Lib.hid hp2;have HV:=Lib.hid hv;clear hp2 hv)
   refine wp_forget (fun W=>Adds w W∧CkR w b i W∧rowOf W (w.heap.size+1)=(List.toArray (.int .i64 x.k.c.Ch:: .int .u8 x.k.c.A:: .int .u8 x.k.c.B:: .int .u8 x.k.c.C:: .int .u8 x.k.c.D:: .int .u8 x.k.c.E:: .int .u8 x.k.c.H:: .int .u8 x.k.c.L:: .bool x.k.c.fS:: .bool x.k.c.fZ:: .bool x.k.c.fK:: .bool x.k.c.fAC:: .bool x.k.c.fP:: .bool x.k.c.fV:: .bool x.k.c.fCY:: .int .u16 x.k.c.SP:: .int .u16 x.k.c.PC:: .bool x.k.c.IE:: .bool x.k.c.De:: .bool x.k.c.Ha:: .int .u8 x.k.c.Ma:: .bool x.k.c.Tr:: .bool x.k.c.R7:: .bool x.k.c.WT:: .bool x.k.c.W7:: .bool x.k.c.Sa:: .bool x.k.c.SI:: .bool x.k.c.SO:: .int .i64 x.k.src:: .slice x.k.ga x.k.gn x.k.gc:: .int .i64 x.k.y.k:: .int .u16 x.k.y.a:: .int .u8 x.k.y.d:: .int .i64 x.k.y.s:: .int .i64 x.k.nx:: .bool x.k.ho:: .slice x.ma x.mn x.mc:: .int .i64 p2.St:: .bool p2.Le:: .bool p2.Fo:: .bool p2.Si:: .bool p2.Ft:: .int .u8 p2.Lw:: .int .u8 p2.Hg:: .bool p2.Au:: .bool p2.Ro:: .bool p2.Sp:: .bool p2.RI:: .bool p2.Po:: .int .u8 p2.Li:: .int .u8 p2.Ed:: .int .u8 p2.IS:: .int .u8 p2.IM:: .int .i64 p2.Lo:: .int .i64 p2.Sq:: .int .i64 p2.Sv:: .bool p2.Su:: .int .u16 x.da:: .int .u8 x.dv:: .int .i64 x.dl:: .int .i64 x.wt:: .slice x.oa x.on x.oc::[]))∧rowOf W b9=#[.bool lRe,.bool lHo,.bool i.z,.bool lSi,.bool lTr,.bool lR7,.bool lR6,.bool lR5,.bool lIn,.int .u8 v,.int .u16 0,.int .u8 0,.bool false]∧rowOf W b11=(List.toArray (.int .i64 x.k.c.Ch:: .int .u8 x.k.c.A:: .int .u8 x.k.c.B:: .int .u8 x.k.c.C:: .int .u8 x.k.c.D:: .int .u8 x.k.c.E:: .int .u8 x.k.c.H:: .int .u8 x.k.c.L:: .bool x.k.c.fS:: .bool x.k.c.fZ:: .bool x.k.c.fK:: .bool x.k.c.fAC:: .bool x.k.c.fP:: .bool x.k.c.fV:: .bool x.k.c.fCY:: .int .u16 x.k.c.SP:: .int .u16 x.k.c.PC:: .bool x.k.c.IE:: .bool x.k.c.De:: .bool x.k.c.Ha:: .int .u8 x.k.c.Ma:: .bool x.k.c.Tr:: .bool x.k.c.R7:: .bool x.k.c.WT:: .bool x.k.c.W7:: .bool x.k.c.Sa:: .bool x.k.c.SI:: .bool x.k.c.SO:: .int .i64 x.k.src:: .slice x.k.ga x.k.gn x.k.gc:: .int .i64 x.k.y.k:: .int .u16 x.k.y.a:: .int .u8 x.k.y.d:: .int .i64 x.k.y.s:: .int .i64 x.k.nx:: .bool x.k.ho::[]))) ?_ ?_
   ·have hT:=fun c=>(Tch.setCell (Tch.setRow (S:=fun k=>k=w.heap.size+1∨k=b9) (Tch.refl _ wc) (w.heap.size+1) c (fun _=> .inl rfl)) b9 9 (.int .u8 v) (fun _=> .inr rfl)).more n3 os3
    have e9:=fun c=>(rowOf_setRow_other wc _ b9 c n94).trans r9
    refine ⟨(hT _).adds HR1.out.a (fun b _ e=>by omega),HR1.out.tch (hT _) (fun k e=>by omega),?_,?_,((hT _).row p11 (by omega)).trans r11⟩
    ·rw [rowOf_More _ _ _ _ (by simp [go_sem];omega),rowOf_setCell_other _ _ _ _ _ (by omega),rowOf_setRow_same _ _ _ (by rw [r4];simp)]
    ·rw [rowOf_More _ _ _ _ (by simp [go_sem];omega),rowOf_setCell_same _ _ _ _ (by rw [e9];simp),e9];rfl
   ·rintro ww ⟨hA,hR,h4,h9,h11⟩
    have HA:=Lib.hid hA
    have HR2:=Lib.hid hR
    clear r3 r4 r5 r9 r11 hs p3 p4 p5 p9 p11 c9 f9 g94 HB2 HS2 HR1 H41 H9 H11 hA hR
    have r3:=HR2.out.r3
    have r4:=h4
    have r5:=HR2.out.r5
    have r9:=h9
    have r11:=h11
    have hs:=HR2.out.hs
    clear h4 h9 h11
    have p3:w.heap.size < ww.heap.size:=by omega
    have p4:w.heap.size+1 < ww.heap.size:=by omega
    have p5:w.heap.size+1+1 < ww.heap.size:=by omega
    have p9:=row_lt r9 (by simp)
    have p11:=row_lt r11 (by simp)
    have c60:=rowOf_cell (i:=60) (v:=.int .i64 x.wt) r4 rfl
    have f60:=row_frozen r4 (by simp) 60
    have c9:=rowOf_cell (i:=9) (v:=.int .u8 v) r9 rfl
    have HA60:=Lib.hid (fun c=>(Tch.setCell (S:=fun k=>k=w.heap.size+1) (Tch.refl _ ww) (w.heap.size+1) 60 c (fun _=>rfl)).adds HA.out (fun b _ e=>by omega))
    have n94':¬w.heap.size+1=b9:=by omega
    go_upto_region 10 with (go_at_call 66;refine (clock_any x.k z lRe lHo i.z lSi lTr lR7 lR6 lR5 lIn v HV.out (by have:=HS.out.gl;have:=HL.out;omega) (HS.out.k.adds (HA60.out _))).mono ?_;rintro e w' ⟨q,zq,rfl,hch,hok,hgn,hnw,hst,⟨⟨n4,os4⟩,rfl⟩⟩;generalize hP:S.pn _ _ _=P;have HPn:=Lib.hid hP;have HCh:=Lib.hid hch;have HOK:=Lib.hid hok;have HGN:=Lib.hid hgn;have HNW:=Lib.hid hnw;have HST:=Lib.hid hst;clear hP hch hok hgn hnw hst;simp only [S.Pn.cs])
    generalize hb13:ww.heap.size+os4.size+1=b13
    have HB13:=Lib.hid hb13
    clear hb13
    refine wp_forget (fun W=>CkS w b i x b9 b11 (L+1) ⟨q,x.ma,x.mn,x.mc,p2,x.da,x.dv,x.dl,i0,x.oa,x.on,x.oc⟩ zq m os #[.bool lRe,.bool lHo,.bool i.z,.bool lSi,.bool lTr,.bool lR7,.bool lR6,.bool lR5,.bool lIn,.int .u8 v,.int .u16 0,.int .u8 0,.bool false] W∧rowOf W b13=#[.int .i64 P.st,.int .u16 P.ad,.int .u8 P.da,.bool P.sy,.bool P.db,.bool P.wa,.bool P.it,.bool P.al,.bool P.im,.bool P.s1,.bool P.s0,.bool P.rd,.bool P.ia,.bool P.so,.bool P.wr,.bool P.hl,.bool P.fl]∧w.heap.size+6≤b13∧¬b13=b9) ?_ ?_
    ·have e4:0 < (rowOf (ww.setCell ⟨w.heap.size+1,60,none⟩ (.int .i64 i0)) (w.heap.size+1)).size:=by rw [rowOf_setCell_same _ _ _ _ (by rw [r4];simp),r4];simp
     have hT:=fun c o1 o2=>(((Tch.setRow (S:=fun k=>k=w.heap.size+1) (Tch.setCell (Tch.refl _ ww) (w.heap.size+1) 60 (.int .i64 i0) (fun _=>rfl)) (w.heap.size+1) c (fun _=>rfl)).more n4 os4).alloc o1).alloc o2
     have hF:=fun c o1 o2=>(hT c o1 o2).adds HA.out (fun b _ e=>by omega)
     have hh:=fun c=>(HOK.out.held.other HNW.out) ((ww.setCell ⟨w.heap.size+1,60,none⟩ (.int .i64 i0)).setRow (w.heap.size+1) c) (by simp [go_sem])
     have h0:=HS.out.gl
     have hS:=fun c o1 o2=>(HS.out.adds (hF c o1 o2)).pic HP2.out
     refine ⟨⟨HR2.out.tch (hT _ _ _) (fun k e=> .inl e),?_,((hT _ _ _).row p9 (by omega)).trans r9,rfl,((hT _ _ _).row p11 (by omega)).trans r11,⟨⟨HOK.out.c,HOK.out.y,HOK.out.nx,(hh _).adds aD,HOK.out.gc,HOK.out.by_,HOK.out.nn⟩,(by have h1:=HGN.out;show q.gn≤L+1;omega),(hS _ _ _).mh,(hS #[] default default).mc,Nat.le_succ_of_le (hS #[] default default).ml,(hS #[] default default).mb,HP2.out,HS.out.da,HS.out.dv,HS.out.dl,(hS _ _ _).o,HS.out.oc,Nat.le_succ_of_le HS.out.ol,HS.out.oz⟩,by omega,Off.of_nw (HNW.out.mono (B':=ww.heap.size) (by simp [go_sem])) (fun k e=>by rcases e with e|e<;>omega),HS.out.mh.off (fun k e=>by rcases e with e|e<;>omega),HS.out.o.off (fun k e=>by rcases e with e|e<;>omega),HNW.out.mono (by simp [go_sem];omega),Sm2.refl _ _ _,Sm2.refl _ _ _⟩,?_,by have:=HB13.out;omega,by have:=HB13.out;omega⟩
     ·simp [go_sem, *]
     ·rw [←HB13.out];simp [go_sem]
    ·rintro w8 ⟨hC,h13,hn13⟩
     have HC:=Lib.hid hC
     have H13:=Lib.hid h13
     have HN13:=Lib.hid hn13
     clear r3 r4 r5 r9 r11 hs p3 p4 p5 p9 p11 c60 f60 c9 HA60 n94 n94' n114 hn1 hn2 hn3 HA HR2 HOK HNW HN hC h13 hn13
     have r3:=HC.out.r.r3
     have r4:=HC.out.r4
     have r5:=HC.out.r.r5
     have r9:=HC.out.r9
     have r11:=HC.out.r11
     have r13:=H13.out
     have hs:=HC.out.r.hs
     obtain ⟨hn1,hn2,hn3⟩:=HC.out.n
     obtain ⟨hn4,hn5⟩:=HN13.out
     have p3:w.heap.size < w8.heap.size:=by omega
     have p4:w.heap.size+1 < w8.heap.size:=by omega
     have p5:w.heap.size+1+1 < w8.heap.size:=by omega
     have p9:=row_lt r9 (by simp)
     have p11:=row_lt r11 (by simp)
     have p13:=row_lt r13 (by simp)
     have c52:=rowOf_cell (i:=2) (v:=.bool i.z) r5 rfl
     have c1130:=rowOf_cell (i:=30) (v:=.int .i64 x.k.y.k) r11 rfl
     have n94:¬b9=w.heap.size+1:=by omega
     have n49:¬w.heap.size+1=b9:=by omega
     have n114:¬b11=w.heap.size+1:=by omega
     have n134:¬b13=w.heap.size+1:=by omega
     go_cut [70] from 35 to 70 (fun v70 wx=>∃bb:Bool,v70=.bool bb∧Hid (Adds w8 wx))
     case first=>
      go_wp2_with (first
       |(go_at_call 35;refine ad (state_any x.k HS.out.k.nx _) fun n5 os5=> ?_)
       |(go_at_call 67;refine ad (rst_writes _ _) fun n6 os6=> ?_)
       |fail)
      all_goals
       go_meet
       exact ⟨_,rfl,Lib.hid aD⟩
     case rest=>
      obtain ⟨bb,rfl,HA9⟩:=hcut
      have HC1:=Lib.hid (HC.out.adds HA9.out)
      have H131:=Lib.hid ((HA9.out.row p13).trans r13)
      clear r3 r4 r5 r9 r11 r13 hs p3 p4 p5 p9 p11 p13 c52 c1130 HC H13
      have r3:=HC1.out.r.r3
      have r4:=HC1.out.r4
      have r5:=HC1.out.r.r5
      have r9:=HC1.out.r9
      have r11:=HC1.out.r11
      have r13:=H131.out
      have hs:=HC1.out.r.hs
      have p3:w.heap.size < wc.heap.size:=by omega
      have p4:w.heap.size+1 < wc.heap.size:=by omega
      have p5:w.heap.size+1+1 < wc.heap.size:=by omega
      have p9:=row_lt r9 (by simp)
      have p11:=row_lt r11 (by simp)
      have p13:=row_lt r13 (by simp)
      go_upto_if 70 with fail
      go_cut [] from 70 to 75 (fun wx=>∃(y:S.Sy) (m':List K12.Cl) (os':List S.Ou),Hid (CkS w b i x b9 b11 (L+2) y zq m' os' #[.bool lRe,.bool lHo,.bool i.z,.bool lSi,.bool lTr,.bool lR7,.bool lR6,.bool lR5,.bool lIn,.int .u8 v,.int .u16 0,.int .u8 0,.bool false] wx)∧Hid (rowOf wx b13=#[.int .i64 P.st,.int .u16 P.ad,.int .u8 P.da,.bool P.sy,.bool P.db,.bool P.wa,.bool P.it,.bool P.al,.bool P.im,.bool P.s1,.bool P.s0,.bool P.rd,.bool P.ia,.bool P.so,.bool P.wr,.bool P.hl,.bool P.fl])∧Hid (y.k=q))
      case first=>
       cases bb
       ·go_wp2_with fail
        go_meet
        exact ⟨⟨q,x.ma,x.mn,x.mc,p2,x.da,x.dv,x.dl,i0,x.oa,x.on,x.oc⟩,m,os,HC1.out.mono (by omega),H131,rfl⟩
       ·go_wp2_with (go_at_call 68;refine (store_any (L+1) b ⟨q,x.ma,x.mn,x.mc,p2,x.da,x.dv,x.dl,i0,x.oa,x.on,x.oc⟩ l zq m os ((HB.out.adds HC1.out.r.a).adds aD) (HC1.out.s.adds aD) (by have:=HL.out;omega) HS.out.k.y.d).mono ?_;rintro e w' ⟨yq,m',os',rfl,hk,hwt,hs',hm1,hm2,⟨⟨n5,os5⟩,rfl⟩⟩;have HK:=Lib.hid hk;have HS9:=Lib.hid hs';have HM1:=Lib.hid hm1;have HM2:=Lib.hid hm2;clear hk hwt hs' hm1 hm2)
        go_meet
        have hA:=Lib.hid (show Adds wc (More wc n5 os5) from aD)
        have hsz:0 < (rowOf (More wc n5 os5) (w.heap.size+1)).size:=by rw [hA.out.row p4,r4];simp
        refine ⟨yq,m',os',Lib.hid ?_,Lib.hid ?_,HK⟩
        ·rw [←setRow_More _ _ _ _ _ p4]
         exact (HC1.out.adds hA.out).put (Tch.setRow (S:=fun k=>k=w.heap.size+1) (Tch.refl _ _) _ _ (fun _=>rfl)) (fun k e=> .inl e) (rowOf_setRow_same _ _ _ hsz) ((rowOf_setRow_other _ _ _ _ n94).trans ((hA.out.row p9).trans r9)) rfl HS9.out (HK.out▸HC1.out.o1) (HC1.out.o2.sm2 HM1.out (fun k e=>by rcases e with e|e<;>omega)) (HC1.out.o3.sm2 HM2.out (fun k e=>by rcases e with e|e<;>omega)) (HK.out▸HC1.out.f1) (HC1.out.f2.trans (HM1.out.mono (by omega))) (HC1.out.f3.trans (HM2.out.mono (by omega)))
        ·rw [←setRow_More _ _ _ _ _ p4]
         exact (rowOf_setRow_other _ _ _ _ n134).trans ((hA.out.row p13).trans r13)
      case rest=>
       clear r3 r4 r5 r9 r11 r13 hs p3 p4 p5 p9 p11 p13 HC1 H131 HA9
       obtain ⟨y,m1,os1',HC2,H132,HK⟩:=hcut
       have r3:=HC2.out.r.r3
       have r4:=HC2.out.r4
       have r5:=HC2.out.r.r5
       have r9:=HC2.out.r9
       have r11:=HC2.out.r11
       have r13:=H132.out
       have hs:=HC2.out.r.hs
       have p3:w.heap.size < wc.heap.size:=by omega
       have p4:w.heap.size+1 < wc.heap.size:=by omega
       have p5:w.heap.size+1+1 < wc.heap.size:=by omega
       have p9:=row_lt r9 (by simp)
       have p11:=row_lt r11 (by simp)
       have p13:=row_lt r13 (by simp)
       have c15:=rowOf_cell (i:=15) (v:=.bool P.hl) r13 rfl
       go_upto_if 77 with fail
       go_cut [] from 76 to 100 (fun wx=>∃(y':S.Sy) (m':List K12.Cl) (os':List S.Ou) (ca cv:Int) (mv:Bool),Hid (CkS w b i x b9 b11 (L+3) y' zq m' os' #[.bool lRe,.bool lHo,.bool i.z,.bool lSi,.bool lTr,.bool lR7,.bool lR6,.bool lR5,.bool lIn,.int .u8 v,.int .u16 ca,.int .u8 cv,.bool mv] wx)∧Hid (rowOf wx b13=#[.int .i64 P.st,.int .u16 P.ad,.int .u8 P.da,.bool P.sy,.bool P.db,.bool P.wa,.bool P.it,.bool P.al,.bool P.im,.bool P.s1,.bool P.s0,.bool P.rd,.bool P.ia,.bool P.so,.bool P.wr,.bool P.hl,.bool P.fl])∧Hid (y'.k=q))
       case first=>
        rcases hh:P.hl with _|_
        ·go_wp2_with fail
         go_meet
         exact ⟨y,m1,os1',0,0,false,HC2.out.mono (by omega),H132,HK⟩
        ·by_cases hd:0 < y.dl
         ·go_upto_region 15 with (go_at_call 69;refine ad (dma_rtr hd (by have:=HC2.out.s.dl;omega)) fun n6 os6=> ?_)
          generalize hb15:wc.heap.size+os6.size+1=b15
          generalize hb14:wc.heap.size+os6.size=b14
          refine wp_forget (fun W=>Adds wc W∧rowOf W b14=#[.int .u16 (IntKind.u16.wrap (y.da+1)),.int .u8 y.dv,.int .i64 (y.dl - 1)]∧rowOf W b15=#[.int .u16 y.da,.int .u8 y.dv]) ⟨aD,by rw [←hb14];simp [go_sem],by rw [←hb15];simp [go_sem]⟩ ?_
          rintro wd ⟨hA,r14,r15⟩
          have n144:¬b14=w.heap.size+1:=by omega
          have n154:¬b15=w.heap.size+1:=by omega
          have n149:¬b14=b9:=by omega
          have n159:¬b15=b9:=by omega
          have HA:=Lib.hid hA
          have HC3:=Lib.hid (HC2.out.adds hA)
          have H133:=Lib.hid ((hA.row p13).trans r13)
          clear r3 r4 r5 r9 r11 r13 hs p3 p4 p5 p9 p11 p13 c15 hA hb14 hb15
          have r3:=HC3.out.r.r3
          have r4:=HC3.out.r4
          have r9:=HC3.out.r9
          have p4:w.heap.size+1 < wd.heap.size:=row_lt r4 (by simp)
          have p9:=row_lt r9 (by simp)
          have p14:=row_lt r14 (by simp)
          have p15:=row_lt r15 (by simp)
          go_region_held3 (fun w'=>rowOf w' b14=#[.int .u16 (IntKind.u16.wrap (y.da+1)),.int .u8 y.dv,.int .i64 (y.dl - 1)]∧rowOf w' b15=#[.int .u16 y.da,.int .u8 y.dv]) ((simp [go_sem, *];done)) (fail)
          have hT:=fun c d u=>(((Tch.setRow (S:=fun k=>k=w.heap.size+1∨k=b9) (Tch.refl _ wd) (w.heap.size+1) c (fun _=> .inl rfl)).setRow b9 d (fun _=> .inr rfl)).setCell b9 12 u (fun _=> .inr rfl)).drew
          refine exit_forget (fun W=>CkS w b i x b9 b11 (L+2) ⟨y.k,y.ma,y.mn,y.mc,y.p,IntKind.u16.wrap (y.da+1),y.dv,y.dl - 1,y.wt,y.oa,y.on,y.oc⟩ zq m1 os1' #[.bool lRe,.bool lHo,.bool i.z,.bool lSi,.bool lTr,.bool lR7,.bool lR6,.bool lR5,.bool lIn,.int .u8 v,.int .u16 y.da,.int .u8 y.dv,.bool true] W∧rowOf W b13=#[.int .i64 P.st,.int .u16 P.ad,.int .u8 P.da,.bool P.sy,.bool P.db,.bool P.wa,.bool P.it,.bool P.al,.bool P.im,.bool P.s1,.bool P.s0,.bool P.rd,.bool P.ia,.bool P.so,.bool P.wr,.bool P.hl,.bool P.fl]∧rowOf W b15=#[.int .u16 y.da,.int .u8 y.dv]) ⟨HC3.out.put (hT _ _ _) (fun k e=>e) ?_ ?_ rfl (HC3.out.s.dma (wrap16_bd) HC3.out.s.dv (by have:=HC3.out.s.dl;omega)) HC3.out.o1 HC3.out.o2 HC3.out.o3 HC3.out.f1 HC3.out.f2 HC3.out.f3,((hT _ _ _).row (row_lt H133.out (by simp)) (by omega)).trans H133.out,((hT _ _ _).row p15 (by omega)).trans r15⟩ ?_
          ·rw [rowOf_drew,rowOf_setCell_other _ _ _ _ _ n49,rowOf_setRow_other _ _ _ _ n49,rowOf_setRow_same _ _ _ (by rw [r4];simp)]
          ·have h1:∀c,0 < (rowOf (wd.setRow (w.heap.size+1) c) b9).size:=fun c=>by rw [rowOf_setRow_other _ _ _ _ n94,r9];simp
           rw [rowOf_drew,rowOf_setCell_same _ _ _ _ (by rw [rowOf_setRow_same _ _ _ (h1 _)];simp),rowOf_setRow_same _ _ _ (h1 _)];rfl
          rintro we ⟨hC,h13,h15⟩
          clear r3 r4 r9 p4 p9 p14 p15 r14 r15 HC3 H133 HA hT
          have HC4:=Lib.hid hC
          have H134:=Lib.hid h13
          have r3:=hC.r.r3
          have r4:=hC.r4
          have r9:=hC.r9
          have p4:w.heap.size+1 < we.heap.size:=row_lt r4 (by simp)
          have p9:=row_lt r9 (by simp)
          have p13:=row_lt h13 (by simp)
          have p15:=row_lt h15 (by simp)
          have c31:=rowOf_cell (i:=1) (v:=.slice b.ra b.rn b.rc) r3 rfl
          have c436:=rowOf_cell (i:=36) (v:=.slice y.ma y.mn y.mc) r4 rfl
          have c150:=rowOf_cell (i:=0) (v:=.int .u16 y.da) h15 rfl
          have c151:=rowOf_cell (i:=1) (v:=.int .u8 y.dv) h15 rfl
          have f436:=row_frozen r4 (by simp) 36
          clear hC h13 h15
          go_wp2_with (go_at_call 70;refine (K12.rwrite_own l _ ((HB.out.adds HC4.out.r.a).r.adds aD) (HC4.out.s.mh.adds aD) (Nat.le_trans HC4.out.s.ml (by have:=HL.out;omega))).mono ?_;rintro e w' ⟨ad,n8,c8,d8,rfl,hO,hn8,hc8,hc9,hg8,⟨⟨n7,os7⟩,rfl⟩⟩;have HO:=Lib.hid hO;have HN8:=Lib.hid hn8;have HC8:=Lib.hid (And.intro hc8 hc9);have HG8:=Lib.hid hg8;clear hO hn8 hc8 hc9 hg8)
          go_meet
          have hA:=Lib.hid (show Adds we (More we n7 os7) from aD)
          have hsz:0 < (rowOf (More we n7 os7) (w.heap.size+1)).size:=by rw [hA.out.row p4,r4];simp
          have h6:=HC4.out.r.hs
          have hT:=fun u=>Tch.setCell (S:=fun k=>k=w.heap.size+1) (Tch.refl _ (More we n7 os7)) (w.heap.size+1) 36 u (fun _=>rfl)
          have hs:=HC4.out.s.adds hA.out
          have hl1:y.mn≤L+2:=hs.ml
          have hl2:=HN8.out
          have hl3:=HL.out
          have hl4:=K12.Owns.len HO.out
          refine ⟨⟨y.k,ad,n8,c8,y.p,IntKind.u16.wrap (y.da+1),y.dv,y.dl - 1,y.wt,y.oa,y.on,y.oc⟩,d8,os1',y.da,y.dv,true,Lib.hid ?_,Lib.hid ?_,HK⟩
          ·rw [←More_setCell _ _ _ _ _ _ _ p4]
           exact (HC4.out.adds hA.out).put (hT _) (fun k e=> .inl e) (by rw [rowOf_setCell_same _ _ _ _ hsz,hA.out.row p4,r4];rfl) ((rowOf_setCell_other _ _ _ _ _ n94).trans ((hA.out.row p9).trans r9)) rfl (hs.mem (by omega) (K12.Owns.held HO.out (by omega)) HC8.out (by omega) (fun u=>by rcases HG8.out u with e|e;rw [e];exact HC4.out.s.dv;rw [e];exact HC4.out.s.mb u)) HC4.out.o1 (Off.of_nw HO.out.nw (fun k e=>by rcases e with e|e<;>omega)) HC4.out.o3 HC4.out.f1 (.inr (HO.out.nw.mono (by omega))) HC4.out.f3
          ·rw [←More_setCell _ _ _ _ _ _ _ p4]
           exact (rowOf_setCell_other _ _ _ _ _ n134).trans ((hA.out.row p13).trans H134.out)
         ·go_wp2_with (go_at_call 69;refine ad (dma_rtr0 hd) fun n6 os6=> ?_)
          go_meet
          exact ⟨y,m1,os1',0,0,false,(HC2.out.mono (by omega)).adds aD,Lib.hid ((Adds.row aD p13).trans r13),HK⟩
       case rest=>
        clear r3 r4 r5 r9 r11 r13 hs p3 p4 p5 p9 p11 p13 c15 HC2 H132 HK
        obtain ⟨y2,m2,os2,ca,cv,mv,HC5,H135,HK⟩:=hcut
        have r3:=HC5.out.r.r3
        have r4:=HC5.out.r4
        have r5:=HC5.out.r.r5
        have r9:=HC5.out.r9
        have r13:=H135.out
        have hs:=HC5.out.r.hs
        have p3:w.heap.size < wc.heap.size:=by omega
        have p4:w.heap.size+1 < wc.heap.size:=by omega
        have p5:w.heap.size+1+1 < wc.heap.size:=by omega
        have p9:=row_lt r9 (by simp)
        have p13:=row_lt r13 (by simp)
        have c52:=rowOf_cell (i:=2) (v:=.bool i.z) r5 rfl
        have c459:=rowOf_cell (i:=59) (v:=.int .i64 y2.dl) r4 rfl
        have c454:=rowOf_cell (i:=54) (v:=.int .i64 y2.p.Sq) r4 rfl
        have f459:=row_frozen r4 (by simp) 59
        have f454:=row_frozen r4 (by simp) 54
        go_upto_if 102 with fail
        go_cut [] from 101 to 106 (fun wx=>∃(y':S.Sy) (m':List K12.Cl) (os':List S.Ou),Hid (CkS w b i x b9 b11 (L+3) y' zq m' os' #[.bool lRe,.bool lHo,.bool i.z,.bool lSi,.bool lTr,.bool lR7,.bool lR6,.bool lR5,.bool lIn,.int .u8 v,.int .u16 ca,.int .u8 cv,.bool mv] wx)∧Hid (rowOf wx b13=#[.int .i64 P.st,.int .u16 P.ad,.int .u8 P.da,.bool P.sy,.bool P.db,.bool P.wa,.bool P.it,.bool P.al,.bool P.im,.bool P.s1,.bool P.s0,.bool P.rd,.bool P.ia,.bool P.so,.bool P.wr,.bool P.hl,.bool P.fl])∧Hid (y'.k=q))
        case first=>
         rcases hz:i.z with _|_
         ·go_wp2_with fail
          go_meet
          exact ⟨y2,m2,os2,HC5,H135,HK⟩
         ·go_wp2_with fail
          go_meet
          have hT:=fun u v=>Tch.setCell (S:=fun k=>k=w.heap.size+1) (Tch.setCell (Tch.refl _ wc) (w.heap.size+1) 59 u (fun _=>rfl)) (w.heap.size+1) 54 v (fun _=>rfl)
          have hsz:0 < (rowOf wc (w.heap.size+1)).size:=by rw [r4];simp
          have hsz2:0 < (rowOf (wc.setCell ⟨w.heap.size+1,59,none⟩ (.int .i64 0)) (w.heap.size+1)).size:=by rw [rowOf_setCell_same _ _ _ _ hsz,r4];simp
          refine ⟨⟨y2.k,y2.ma,y2.mn,y2.mc,⟨y2.p.St,y2.p.Le,y2.p.Fo,y2.p.Si,y2.p.Ft,y2.p.Lw,y2.p.Hg,y2.p.Au,y2.p.Ro,y2.p.Sp,y2.p.RI,y2.p.Po,y2.p.Li,y2.p.Ed,y2.p.IS,y2.p.IM,y2.p.Lo,0,y2.p.Sv,y2.p.Su⟩,y2.da,y2.dv,0,y2.wt,y2.oa,y2.on,y2.oc⟩,m2,os2,Lib.hid (HC5.out.put (hT _ _) (fun k e=> .inl e) (by rw [rowOf_setCell_same _ _ _ _ hsz2,rowOf_setCell_same _ _ _ _ hsz,r4];rfl) ((rowOf_setCell_other _ _ _ _ _ n94).trans ((rowOf_setCell_other _ _ _ _ _ n94).trans r9)) rfl ?_ HC5.out.o1 HC5.out.o2 HC5.out.o3 HC5.out.f1 HC5.out.f2 HC5.out.f3),Lib.hid ((rowOf_setCell_other _ _ _ _ _ n134).trans ((rowOf_setCell_other _ _ _ _ _ n134).trans r13)),HK⟩
          exact (HC5.out.s.pic (p:=⟨y2.p.St,y2.p.Le,y2.p.Fo,y2.p.Si,y2.p.Ft,y2.p.Lw,y2.p.Hg,y2.p.Au,y2.p.Ro,y2.p.Sp,y2.p.RI,y2.p.Po,y2.p.Li,y2.p.Ed,y2.p.IS,y2.p.IM,y2.p.Lo,0,y2.p.Sv,y2.p.Su⟩) HC5.out.s.p).dma HC5.out.s.da HC5.out.s.dv ⟨by omega,by omega⟩
        case rest=>
         clear r3 r4 r5 r9 r13 hs p3 p4 p5 p9 p13 c52 c459 c454 f459 f454 HC5 H135 HK
         obtain ⟨y3,m3,os3',HC6,H136,HK⟩:=hcut
         have r4:=HC6.out.r4
         have r9:=HC6.out.r9
         have r13:=H136.out
         have r6:=HC6.out.r.r6
         have r7:=HC6.out.r.r7
         have r8:=HC6.out.r.r8
         have hs:=HC6.out.r.hs
         have p4:w.heap.size+1 < wc.heap.size:=by omega
         have p9:=row_lt r9 (by simp)
         have p13:=row_lt r13 (by simp)
         go_wp2_with fail
         have hn4:=HN13.out.1
         have e7:∀c,(rowOf (wc.setRow (w.heap.size+1+1+1) c) (w.heap.size+1+1+1+1)).size=17:=fun c=>by rw [rowOf_setRow_other _ _ _ _ (by omega)];exact r7
         have e8:∀c,(rowOf (wc.setRow (w.heap.size+1+1+1) c) (w.heap.size+1+1+1+1+1)).size=13:=fun c=>by rw [rowOf_setRow_other _ _ _ _ (by omega)];exact r8
         refine wp_region_noPanic ?_
         refine wp_region_held_drew (S:=fun w'=>rowOf w' (w.heap.size+1)=(List.toArray (.int .i64 y3.k.c.Ch:: .int .u8 y3.k.c.A:: .int .u8 y3.k.c.B:: .int .u8 y3.k.c.C:: .int .u8 y3.k.c.D:: .int .u8 y3.k.c.E:: .int .u8 y3.k.c.H:: .int .u8 y3.k.c.L:: .bool y3.k.c.fS:: .bool y3.k.c.fZ:: .bool y3.k.c.fK:: .bool y3.k.c.fAC:: .bool y3.k.c.fP:: .bool y3.k.c.fV:: .bool y3.k.c.fCY:: .int .u16 y3.k.c.SP:: .int .u16 y3.k.c.PC:: .bool y3.k.c.IE:: .bool y3.k.c.De:: .bool y3.k.c.Ha:: .int .u8 y3.k.c.Ma:: .bool y3.k.c.Tr:: .bool y3.k.c.R7:: .bool y3.k.c.WT:: .bool y3.k.c.W7:: .bool y3.k.c.Sa:: .bool y3.k.c.SI:: .bool y3.k.c.SO:: .int .i64 y3.k.src:: .slice y3.k.ga y3.k.gn y3.k.gc:: .int .i64 y3.k.y.k:: .int .u16 y3.k.y.a:: .int .u8 y3.k.y.d:: .int .i64 y3.k.y.s:: .int .i64 y3.k.nx:: .bool y3.k.ho:: .slice y3.ma y3.mn y3.mc:: .int .i64 y3.p.St:: .bool y3.p.Le:: .bool y3.p.Fo:: .bool y3.p.Si:: .bool y3.p.Ft:: .int .u8 y3.p.Lw:: .int .u8 y3.p.Hg:: .bool y3.p.Au:: .bool y3.p.Ro:: .bool y3.p.Sp:: .bool y3.p.RI:: .bool y3.p.Po:: .int .u8 y3.p.Li:: .int .u8 y3.p.Ed:: .int .u8 y3.p.IS:: .int .u8 y3.p.IM:: .int .i64 y3.p.Lo:: .int .i64 y3.p.Sq:: .int .i64 y3.p.Sv:: .bool y3.p.Su:: .int .u16 y3.da:: .int .u8 y3.dv:: .int .i64 y3.dl:: .int .i64 y3.wt:: .slice y3.oa y3.on y3.oc::[]))∧rowOf w' b13=#[.int .i64 P.st,.int .u16 P.ad,.int .u8 P.da,.bool P.sy,.bool P.db,.bool P.wa,.bool P.it,.bool P.al,.bool P.im,.bool P.s1,.bool P.s0,.bool P.rd,.bool P.ia,.bool P.so,.bool P.wr,.bool P.hl,.bool P.fl]∧rowOf w' b9=#[.bool lRe,.bool lHo,.bool i.z,.bool lSi,.bool lTr,.bool lR7,.bool lR6,.bool lR5,.bool lIn,.int .u8 v,.int .u16 ca,.int .u8 cv,.bool mv]∧(rowOf w' (w.heap.size+1+1+1)).size=62∧(rowOf w' (w.heap.size+1+1+1+1)).size=17∧(rowOf w' (w.heap.size+1+1+1+1+1)).size=13) (by kernel_rfl) (by (try dsimp only);exact ⟨r4,r13,r9,r6,r7,r8⟩) (fun hHeld=> ?_)
         refine tk 0 rfl ?_
         refine tk 1 rfl ?_
         refine tk 2 rfl ?_
         refine wpAnyH_ready (rs:=[3]) (by kernel_rfl) (by simp) ?_
         refine AllReadyH.cons rfl (fun K hK=> ?_) AllReadyH.nil
         go_simp
         refine hK.out _ _ (by (try dsimp only);(simp only [rowOf_drew] at hHeld⊢;obtain ⟨k1,k2,k3,k4,k5,k6⟩:=hHeld;refine ⟨(rowOf_setRow_other _ _ _ _ (by omega)).trans k1,(rowOf_setRow_other _ _ _ _ (by omega)).trans k2,(rowOf_setRow_other _ _ _ _ (by omega)).trans k3,?_,?_,?_⟩<;>(first|(rw [rowOf_setRow_other _ _ _ _ (by omega)];assumption)|(rw [rowOf_setRow_same _ _ _ (by omega)];rfl)))) (fun hHeld=> ?_)
         clear hK K
         (try simp only [Act.put,List.setIfInBounds_toArray,List.set_cons_zero,List.set_cons_succ])
         refine wpAnyH_ready (rs:=[4]) (by kernel_rfl) (by simp) ?_
         refine AllReadyH.cons rfl (fun K hK=> ?_) AllReadyH.nil
         go_simp
         refine hK.out _ _ (by (try dsimp only);(simp only [rowOf_drew] at hHeld⊢;obtain ⟨k1,k2,k3,k4,k5,k6⟩:=hHeld;refine ⟨(rowOf_setRow_other _ _ _ _ (by omega)).trans k1,(rowOf_setRow_other _ _ _ _ (by omega)).trans k2,(rowOf_setRow_other _ _ _ _ (by omega)).trans k3,?_,?_,?_⟩<;>(first|(rw [rowOf_setRow_other _ _ _ _ (by omega)];assumption)|(rw [rowOf_setRow_same _ _ _ (by omega)];rfl)))) (fun hHeld=> ?_)
         clear hK K
         (try simp only [Act.put,List.setIfInBounds_toArray,List.set_cons_zero,List.set_cons_succ])
         refine wpAnyH_ready (rs:=[5]) (by kernel_rfl) (by simp) ?_
         refine AllReadyH.cons rfl (fun K hK=> ?_) AllReadyH.nil
         go_simp
         refine hK.out _ _ (by (try dsimp only);(simp only [rowOf_drew] at hHeld⊢;obtain ⟨k1,k2,k3,k4,k5,k6⟩:=hHeld;refine ⟨(rowOf_setRow_other _ _ _ _ (by omega)).trans k1,(rowOf_setRow_other _ _ _ _ (by omega)).trans k2,(rowOf_setRow_other _ _ _ _ (by omega)).trans k3,?_,?_,?_⟩<;>(first|(rw [rowOf_setRow_other _ _ _ _ (by omega)];assumption)|(rw [rowOf_setRow_same _ _ _ (by omega)];rfl)))) (fun hHeld=> ?_)
         clear hK K
         (try simp only [Act.put,List.setIfInBounds_toArray,List.set_cons_zero,List.set_cons_succ])
         refine wpAnyH_done (by kernel_rfl) ?_ _
         refine NoPanic.normal ?_
         clear hHeld
         clear hHeld
         go_wp2_with fail
         have g6:0 < (rowOf wc (w.heap.size+1+1+1)).size:=by omega
         have g7:∀c,0 < (rowOf (wc.setRow (w.heap.size+1+1+1) c) (w.heap.size+1+1+1+1)).size:=fun c=>by rw [e7];omega
         have g8:∀c d,0 < (rowOf ((wc.setRow (w.heap.size+1+1+1) c).setRow (w.heap.size+1+1+1+1) d) (w.heap.size+1+1+1+1+1)).size:=fun c d=>by rw [rowOf_setRow_other _ _ _ _ (by omega),e8];omega
         have hT:=fun c d e=>(((Tch.setRow (S:=fun k=>k=w.heap.size+1+1+1∨k=w.heap.size+1+1+1+1∨k=w.heap.size+1+1+1+1+1) (Tch.refl _ wc) (w.heap.size+1+1+1) c (fun _=> .inl rfl)).setRow (w.heap.size+1+1+1+1) d (fun _=> .inr (.inl rfl))).setRow (w.heap.size+1+1+1+1+1) e (fun _=> .inr (.inr rfl))).drew
         have hO:∀k,(k=w.heap.size+1+1+1∨k=w.heap.size+1+1+1+1∨k=w.heap.size+1+1+1+1+1)→CkO w b9 k:=fun k e=> .inl (by omega)
         refine bodyPost_ret (ret5_Clk Tryz.results34 rfl ((rowOf_drew _ _).trans ((rowOf_setRow_other _ _ _ _ (by omega)).trans ((rowOf_setRow_other _ _ _ _ (by omega)).trans (rowOf_setRow_same _ _ _ g6)))) rfl rfl ((rowOf_drew _ _).trans ((rowOf_setRow_other _ _ _ _ (by omega)).trans (rowOf_setRow_same _ _ _ (g7 _)))) rfl rfl ((rowOf_drew _ _).trans (rowOf_setRow_same _ _ _ (g8 _ _))) rfl) rfl ?_
         exact PostClk.mk y3 zq m3 os3' ⟨lRe,lHo,i.z,lSi,lTr,lR7,lR6,lR5,lIn,v,ca,cv,mv⟩ P HPn.out (by rw [HK.out];exact HCh.out) (by rw [HK.out];exact HST.out) rfl HV.out (HC6.out.s.tch (hT _ _ _) (HC6.out.o1.mono hO) (HC6.out.o2.mono hO) (HC6.out.o3.mono hO)) HC6.out.f1 HC6.out.f2 HC6.out.f3 ((hT _ _ _).adds HC6.out.r.a (fun b _ e=>by omega))
end
section
variable {base rb:Nat} {il:List S.It} {tl:List S.Pn} {u v:Value} {ul:List S.Cp} {vl:List S.Ev} {w w':World}
structure S.Rn where
 ta:Option Addr
 tn:Nat
 tc:Nat
 ia:Option Addr
 ni:Nat
 ic:Nat
 ea:Option Addr
 en:Nat
 ec:Nat
 ua:Option Addr
 un:Nat
 uc:Nat
 s:S.Sy
def Ap (u v:Value):Prop:=∀g,u.ownBlock=some g→¬v.ownBlock=some g
theorem Ap.symm (h:Ap u v):Ap v u:=fun g e k=>h g k e
theorem Ap.new {v':Value} {n:Nat} (h:Ap u v) (k:∀g,v'.ownBlock=some g→v.ownBlock=some g∨n≤g) (hu:∀g,u.ownBlock=some g→g < n):Ap u v':=fun g e e'=>by
 rcases k g e' with q|q
 ·exact h g e q
 ·have:=hu g e;omega
structure RnOk (base rb:Nat) (r:S.Rn) (tl:List S.Pn) (il:List S.It) (vl:List S.Ev) (ul:List S.Cp) (w:World):Prop where
 row:rowOf w rb=(List.toArray (.slice r.ta r.tn r.tc:: .slice r.ia r.ni r.ic:: .slice r.ea r.en r.ec:: .slice r.ua r.un r.uc:: .int .i64 r.s.k.c.Ch:: .int .u8 r.s.k.c.A:: .int .u8 r.s.k.c.B:: .int .u8 r.s.k.c.C:: .int .u8 r.s.k.c.D:: .int .u8 r.s.k.c.E:: .int .u8 r.s.k.c.H:: .int .u8 r.s.k.c.L:: .bool r.s.k.c.fS:: .bool r.s.k.c.fZ:: .bool r.s.k.c.fK:: .bool r.s.k.c.fAC:: .bool r.s.k.c.fP:: .bool r.s.k.c.fV:: .bool r.s.k.c.fCY:: .int .u16 r.s.k.c.SP:: .int .u16 r.s.k.c.PC:: .bool r.s.k.c.IE:: .bool r.s.k.c.De:: .bool r.s.k.c.Ha:: .int .u8 r.s.k.c.Ma:: .bool r.s.k.c.Tr:: .bool r.s.k.c.R7:: .bool r.s.k.c.WT:: .bool r.s.k.c.W7:: .bool r.s.k.c.Sa:: .bool r.s.k.c.SI:: .bool r.s.k.c.SO:: .int .i64 r.s.k.src:: .slice r.s.k.ga r.s.k.gn r.s.k.gc:: .int .i64 r.s.k.y.k:: .int .u16 r.s.k.y.a:: .int .u8 r.s.k.y.d:: .int .i64 r.s.k.y.s:: .int .i64 r.s.k.nx:: .bool r.s.k.ho:: .slice r.s.ma r.s.mn r.s.mc:: .int .i64 r.s.p.St:: .bool r.s.p.Le:: .bool r.s.p.Fo:: .bool r.s.p.Si:: .bool r.s.p.Ft:: .int .u8 r.s.p.Lw:: .int .u8 r.s.p.Hg:: .bool r.s.p.Au:: .bool r.s.p.Ro:: .bool r.s.p.Sp:: .bool r.s.p.RI:: .bool r.s.p.Po:: .int .u8 r.s.p.Li:: .int .u8 r.s.p.Ed:: .int .u8 r.s.p.IS:: .int .u8 r.s.p.IM:: .int .i64 r.s.p.Lo:: .int .i64 r.s.p.Sq:: .int .i64 r.s.p.Sv:: .bool r.s.p.Su:: .int .u16 r.s.da:: .int .u8 r.s.dv:: .int .i64 r.s.dl:: .int .i64 r.s.wt:: .slice r.s.oa r.s.on r.s.oc::[]))
 lt:rb < base
 t:OwnsQ w base (.slice r.ta r.tn r.tc) tl
 i:OwnsT w base (.slice r.ia r.ni r.ic) il
 e:OwnsV w base (.slice r.ea r.en r.ec) vl
 u:OwnsU w base (.slice r.ua r.un r.uc) ul
 ti:Ap (.slice r.ta r.tn r.tc) (.slice r.ia r.ni r.ic)
 te:Ap (.slice r.ta r.tn r.tc) (.slice r.ea r.en r.ec)
 tu:Ap (.slice r.ta r.tn r.tc) (.slice r.ua r.un r.uc)
 ie:Ap (.slice r.ia r.ni r.ic) (.slice r.ea r.en r.ec)
 iu:Ap (.slice r.ia r.ni r.ic) (.slice r.ua r.un r.uc)
 eu:Ap (.slice r.ea r.en r.ec) (.slice r.ua r.un r.uc)
def RnO (rb:Nat) (r:S.Rn) (k:Nat):Prop:=k=rb∨(Value.slice r.ta r.tn r.tc).ownBlock=some k∨(Value.slice r.ia r.ni r.ic).ownBlock=some k∨(Value.slice r.ea r.en r.ec).ownBlock=some k∨(Value.slice r.ua r.un r.uc).ownBlock=some k
theorem RnOk.rlt {r:S.Rn} (h:RnOk base rb r tl il vl ul w):rb < w.heap.size:=row_lt h.row (by simp)
theorem RnOk.olt {r:S.Rn} (h:RnOk base rb r tl il vl ul w) {k:Nat} (hk:RnO rb r k):k < w.heap.size∧(k=rb∨base≤k):=by
 rcases hk with rfl|e|e|e|e
 ·exact ⟨h.rlt,.inl rfl⟩
 ·exact ⟨(h.t.lt2 e).2,.inr (h.t.lt2 e).1⟩
 ·exact ⟨(h.i.lt2 e).2,.inr (h.i.lt2 e).1⟩
 ·exact ⟨(h.e.lt2 e).2,.inr (h.e.lt2 e).1⟩
 ·exact ⟨(h.u.lt2 e).2,.inr (h.u.lt2 e).1⟩
theorem RnOk.tch {r:S.Rn} {T:Nat→Prop} (h:RnOk base rb r tl il vl ul w) (k:Tch T w w') (hT:∀k,T k→¬RnO rb r k):RnOk base rb r tl il vl ul w':=
 ⟨(k.row h.rlt (fun e=>hT _ e (.inl rfl))).trans h.row,h.lt,h.t.tch k (fun g e hg=>hT g hg (.inr (.inl e))),h.i.tch k (fun g e hg=>hT g hg (.inr (.inr (.inl e)))),h.e.tch k (fun g e hg=>hT g hg (.inr (.inr (.inr (.inl e))))),h.u.tch k (fun g e hg=>hT g hg (.inr (.inr (.inr (.inr e))))),h.ti,h.te,h.tu,h.ie,h.iu,h.eu⟩
theorem RnOk.adds {r:S.Rn} (h:RnOk base rb r tl il vl ul w) (k:Adds w w'):RnOk base rb r tl il vl ul w':=h.tch (T:=fun _=>False) (Tch.of_adds k) (fun _ e=>e.elim)
def AddPost (N base rb:Nat) (r:S.Rn) (tl:List S.Pn) (il:List S.It) (vl:List S.Ev) (ul:List S.Cp) (w:World) (e:Ending) (w':World):Prop:=∃(r':S.Rn) (vl':List S.Ev) (ul':List S.Cp),e=.returned (.tuple #[])∧RnOk base rb r' tl il vl' ul' w'∧(r'.ta=r.ta∧r'.tn=r.tn∧r'.tc=r.tc∧r'.ia=r.ia∧r'.ni=r.ni∧r'.ic=r.ic∧r'.s=r.s)∧vl'.length≤vl.length+N∧ul'.length≤ul.length+N∧Tch (RnO rb r) w w'∧(∀k,RnO rb r' k→RnO rb r k∨w.heap.size≤k)
theorem RnOk.add {r:S.Rn} {w0:World} (h:RnOk base rb r tl il vl ul w) (ha:Tch (fun k=>(Value.slice r.ea r.en r.ec).ownBlock=some k∨(Value.slice r.ua r.un r.uc).ownBlock=some k) w w0)
 {ea ua:Option Addr} {en ec un uc:Nat} {vl':List S.Ev} {ul':List S.Cp} (he:OwnsV w0 base (.slice ea en ec) vl') (hu:OwnsU w0 base (.slice ua un uc) ul') (h1:∀g,(Value.slice ea en ec).ownBlock=some g→(Value.slice r.ea r.en r.ec).ownBlock=some g∨w.heap.size≤g) (h2:∀g,(Value.slice ua un uc).ownBlock=some g→(Value.slice r.ua r.un r.uc).ownBlock=some g∨w.heap.size≤g) (h3:Ap (.slice ea en ec) (.slice ua un uc)) (l1:vl'.length≤vl.length+1) (l2:ul'.length≤ul.length+1):
 AddPost 1 base rb r tl il vl ul w (.returned (.tuple #[])) ((w0.setCell ⟨rb,2,none⟩ (.slice ea en ec)).setCell ⟨rb,3,none⟩ (.slice ua un uc)):=by
 have hb:∀k,((Value.slice r.ea r.en r.ec).ownBlock=some k∨(Value.slice r.ua r.un r.uc).ownBlock=some k)→base≤k:=fun k e=>by
  rcases e with e|e
  ·exact (h.e.lt2 e).1
  ·exact (h.u.lt2 e).1
 have hrow:rowOf w0 rb=(List.toArray (.slice r.ta r.tn r.tc:: .slice r.ia r.ni r.ic:: .slice r.ea r.en r.ec:: .slice r.ua r.un r.uc:: .int .i64 r.s.k.c.Ch:: .int .u8 r.s.k.c.A:: .int .u8 r.s.k.c.B:: .int .u8 r.s.k.c.C:: .int .u8 r.s.k.c.D:: .int .u8 r.s.k.c.E:: .int .u8 r.s.k.c.H:: .int .u8 r.s.k.c.L:: .bool r.s.k.c.fS:: .bool r.s.k.c.fZ:: .bool r.s.k.c.fK:: .bool r.s.k.c.fAC:: .bool r.s.k.c.fP:: .bool r.s.k.c.fV:: .bool r.s.k.c.fCY:: .int .u16 r.s.k.c.SP:: .int .u16 r.s.k.c.PC:: .bool r.s.k.c.IE:: .bool r.s.k.c.De:: .bool r.s.k.c.Ha:: .int .u8 r.s.k.c.Ma:: .bool r.s.k.c.Tr:: .bool r.s.k.c.R7:: .bool r.s.k.c.WT:: .bool r.s.k.c.W7:: .bool r.s.k.c.Sa:: .bool r.s.k.c.SI:: .bool r.s.k.c.SO:: .int .i64 r.s.k.src:: .slice r.s.k.ga r.s.k.gn r.s.k.gc:: .int .i64 r.s.k.y.k:: .int .u16 r.s.k.y.a:: .int .u8 r.s.k.y.d:: .int .i64 r.s.k.y.s:: .int .i64 r.s.k.nx:: .bool r.s.k.ho:: .slice r.s.ma r.s.mn r.s.mc:: .int .i64 r.s.p.St:: .bool r.s.p.Le:: .bool r.s.p.Fo:: .bool r.s.p.Si:: .bool r.s.p.Ft:: .int .u8 r.s.p.Lw:: .int .u8 r.s.p.Hg:: .bool r.s.p.Au:: .bool r.s.p.Ro:: .bool r.s.p.Sp:: .bool r.s.p.RI:: .bool r.s.p.Po:: .int .u8 r.s.p.Li:: .int .u8 r.s.p.Ed:: .int .u8 r.s.p.IS:: .int .u8 r.s.p.IM:: .int .i64 r.s.p.Lo:: .int .i64 r.s.p.Sq:: .int .i64 r.s.p.Sv:: .bool r.s.p.Su:: .int .u16 r.s.da:: .int .u8 r.s.dv:: .int .i64 r.s.dl:: .int .i64 r.s.wt:: .slice r.s.oa r.s.on r.s.oc::[])):=(ha.row h.rlt (fun e=>by have:=hb _ e;have:=h.lt;omega)).trans h.row
 have hsz:0 < (rowOf w0 rb).size:=by rw [hrow];simp
 have hsz2:0 < (rowOf (w0.setCell ⟨rb,2,none⟩ (.slice ea en ec)) rb).size:=by rw [rowOf_setCell_same _ _ _ _ hsz,hrow];simp
 have hT:=Tch.setCell (S:=fun k=>k=rb) (Tch.setCell (Tch.refl _ w0) rb 2 (.slice ea en ec) (fun _=>rfl)) rb 3 (.slice ua un uc) (fun _=>rfl)
 have hlt:=h.lt
 have ht:=h.t.tch ha (fun g e k=>by rcases k with k|k;exact h.te g e k;exact h.tu g e k)
 have hi:=h.i.tch ha (fun g e k=>by rcases k with k|k;exact h.ie g e k;exact h.iu g e k)
 have far:∀{α:Type} {cs:α→List Value} {sz:Nat} {E:TypeId} {v:Value} {d:List α},OwnsG cs sz E w0 base v d→OwnsG cs sz E ((w0.setCell ⟨rb,2,none⟩ (.slice ea en ec)).setCell ⟨rb,3,none⟩ (.slice ua un uc)) base v d:=fun o=>o.tch hT (fun g e k=>by have:=(o.lt2 e).1;omega)
 refine ⟨⟨r.ta,r.tn,r.tc,r.ia,r.ni,r.ic,ea,en,ec,ua,un,uc,r.s⟩,vl',ul',rfl,⟨?_,h.lt,far ht,far hi,far he,far hu,h.ti,h.te.new h1 (fun g e=>(h.t.lt2 e).2),h.tu.new h2 (fun g e=>(h.t.lt2 e).2),h.ie.new h1 (fun g e=>(h.i.lt2 e).2),h.iu.new h2 (fun g e=>(h.i.lt2 e).2),h3⟩,⟨rfl,rfl,rfl,rfl,rfl,rfl,rfl⟩,l1,l2,?_,?_⟩
 ·rw [rowOf_setCell_same _ _ _ _ hsz2,rowOf_setCell_same _ _ _ _ hsz,hrow];rfl
 ·refine Tch.trans (S1:=fun k=>k=rb) (ha.mono (fun k _ e=> ?_)) hT (fun k _ e=> .inl e)
  rcases e with e|e
  ·exact .inr (.inr (.inr (.inl e)))
  ·exact .inr (.inr (.inr (.inr e)))
 ·intro k e
  rcases e with e|e|e|e|e
  ·exact .inl (.inl e)
  ·exact .inl (.inr (.inl e))
  ·exact .inl (.inr (.inr (.inl e)))
  ·exact (h1 k e).imp (fun e=> .inr (.inr (.inr (.inl e)))) id
  ·exact (h2 k e).imp (fun e=> .inr (.inr (.inr (.inr e)))) id
end
section
variable {aa d k s st v:Int} {base c g m n:Nat} {e o:Bool} {i:S.It} {l:List S.It} {w:World} {x:S.Co}
theorem item_t1 (base n c:Nat) (a:Option Addr) (x:S.Co) (l:List S.It) (w:World) (hO:OwnsT w base (.slice a n c) l) (hl:l.length≤1000000) (hb:base≤w.heap.size):Calls Tryz.prog 36 #[.slice a n c,.agg (List.toArray (.int .i64 x.c.Ch:: .int .u8 x.c.A:: .int .u8 x.c.B:: .int .u8 x.c.C:: .int .u8 x.c.D:: .int .u8 x.c.E:: .int .u8 x.c.H:: .int .u8 x.c.L:: .bool x.c.fS:: .bool x.c.fZ:: .bool x.c.fK:: .bool x.c.fAC:: .bool x.c.fP:: .bool x.c.fV:: .bool x.c.fCY:: .int .u16 x.c.SP:: .int .u16 x.c.PC:: .bool x.c.IE:: .bool x.c.De:: .bool x.c.Ha:: .int .u8 x.c.Ma:: .bool x.c.Tr:: .bool x.c.R7:: .bool x.c.WT:: .bool x.c.W7:: .bool x.c.Sa:: .bool x.c.SI:: .bool x.c.SO:: .int .i64 x.src:: .slice x.ga x.gn x.gc:: .int .i64 x.y.k:: .int .u16 x.y.a:: .int .u8 x.y.d:: .int .i64 x.y.s:: .int .i64 x.nx:: .bool x.ho::[])),.agg #[.int .i64 k,.int .u16 aa,.int .u8 d,.int .i64 s],.int .i64 1,.bool e,.bool o] w (ItPost base (.slice a n c) (l++[⟨1,k,aa,d,s,0,1,e,o⟩]) w):=by
 have HO:=Lib.hid hO
 have HL:=Lib.hid hl
 clear hO hl
 go_enter Tryz.func36,Tryz.ntmps36
 go_wp2_with (first|(at_builtin;refine wpList_appTH rfl _ _ rfl base (.slice _ n c) _ rfl (HO.out.adds aD) (some ⟨_,0,none⟩) 1 1 [(⟨1,k,aa,d,s,0,1,e,o⟩:S.It)] rfl (held_new _ (⟨1,k,aa,d,s,0,1,e,o⟩:S.It) _ (by simp [go_sem]) _ rfl _) (Nat.le_refl _) (fun h=>by cases h) (by have:=HL.out;omega) (Nat.le_trans hb (Adds.size aD)) ?_;intro v1 w1 hO1 hG1 hW1;have HP:=Lib.hid (ItPost.app hO1 hG1 hW1 (show Adds w _ from aD));clear hO1 hG1 hW1)|fail)
 all_goals
  go_ret
  exact HP.out
theorem cyc_facts (hO:OwnsT w base (.slice (some ⟨g,0,none⟩) n c) (l++[i])) (k aa d s:Int):∃(m:Nat) (cur:Array Value),Hid (l.length=m)∧((n:Int) - 1=(m:Int))∧(0:Int)≤(m:Int)∧(m:Int) < (n:Int)∧(n:Int)≤9223372036854775807∧rowOf w g=cur∧m * 9+5≤cur.size∧g < w.heap.size:=by
 have hlen:=hO.len
 rw [List.length_append,List.length_singleton] at hlen
 obtain ⟨gb,gw⟩:=hO.lt
 obtain ⟨cur,hg,_,_,hc1,hc2,hc3,_⟩:=hO.elim
 have hmax:n≤9223372036854775807:=by simp only [maxLen] at hc2;omega
 exact ⟨l.length,cur,rfl,by omega,by omega,by omega,by omega,by unfold rowOf;rw [hg];rfl,by omega,gw⟩
theorem up_facts (hO:OwnsT w base (.slice (some ⟨g,0,none⟩) n c) (l++[i])) (hm:l.length=m):
 w.cell? ⟨g,m * 9+5,none⟩=some (.int .i64 i.w)∧w.cell? ⟨g,m * 9+6,none⟩=some (.int .i64 i.n)∧w.frozen? ⟨g,m * 9+5,none⟩=false∧w.frozen? ⟨g,m * 9+6,none⟩=false∧
 (OwnsT (w.setCell ⟨g,m * 9+5,none⟩ (.int .i64 (i.w+1))) base (.slice (some ⟨g,0,none⟩) n c) (l++[⟨i.k,i.c,i.a,i.d,i.s,i.w+1,i.n,i.e,i.o⟩])∧w.grownBy (w.setCell ⟨g,m * 9+5,none⟩ (.int .i64 (i.w+1))) (some g))∧
 (OwnsT (w.setCell ⟨g,m * 9+6,none⟩ (.int .i64 (i.n+1))) base (.slice (some ⟨g,0,none⟩) n c) (l++[⟨i.k,i.c,i.a,i.d,i.s,i.w,i.n+1,i.e,i.o⟩])∧w.grownBy (w.setCell ⟨g,m * 9+6,none⟩ (.int .i64 (i.n+1))) (some g)):=by
 subst hm
 have hat:=hO.at_
 have c5:=hat.el csT_len (last_el l i) (k:=5) (u:=.int .i64 i.w) rfl
 have c6:=hat.el csT_len (last_el l i) (k:=6) (u:=.int .i64 i.n) rfl
 rw [Nat.zero_add] at c5 c6
 have h5:=hO.one csT_len l.length 5 i ⟨i.k,i.c,i.a,i.d,i.s,i.w+1,i.n,i.e,i.o⟩ (.int .i64 (i.w+1)) (last_el l i) (by omega) rfl
 have h6:=hO.one csT_len l.length 6 i ⟨i.k,i.c,i.a,i.d,i.s,i.w,i.n+1,i.e,i.o⟩ (.int .i64 (i.n+1)) (last_el l i) (by omega) rfl
 rw [last_set] at h5 h6
 exact ⟨c5,c6,hO.frozen _,hO.frozen _,h5,h6⟩
theorem part_facts {w2:World} {cur:Array Value} (hO:OwnsT w base (.slice (some ⟨g,0,none⟩) n c) (l++[i])) (hm:l.length=m) (r0:rowOf w g=cur)
 (hW:w.setRow g (List.take (m * 9+1) cur.toList++Value.int .i64 k::Value.int .u16 aa::Value.int .u8 d::Value.int .i64 s::List.drop (m * 9+1+4) cur.toList).toArray=w2):
 OwnsT w2 base (.slice (some ⟨g,0,none⟩) n c) (l++[⟨i.k,k,aa,d,s,i.w,i.n,i.e,i.o⟩])∧w.grownBy w2 (some g):=by
 subst hm
 obtain ⟨h1,h2,_⟩:=hO.part csT_len l.length 1 i ⟨i.k,k,aa,d,s,i.w,i.n,i.e,i.o⟩ [.int .i64 k,.int .u16 aa,.int .u8 d,.int .i64 s] (last_el l i) (by simp) (by simp) rfl
 have e:w.setRow g (put8 (l.length * 9+1) [Value.int .i64 k,.int .u16 aa,.int .u8 d,.int .i64 s].toArray (rowOf w g))=w2:=by
  rw [←hW,r0];simp [put8]
 rw [e,last_set] at h1
 rw [e] at h2
 exact ⟨h1,h2⟩
theorem item_cyc_7 (base g n c:Nat) (x:S.Co) (k aa d s st:Int) (e o:Bool) (l:List S.It) (i:S.It) (w:World) (hO:OwnsT w base (.slice (some ⟨g,0,none⟩) n c) (l++[i])) (hw:0≤i.w∧i.w≤1000000) (hn:0≤i.n∧i.n≤1000000):Calls Tryz.prog 36 #[.slice (some ⟨g,0,none⟩) n c,.agg (List.toArray (.int .i64 x.c.Ch:: .int .u8 x.c.A:: .int .u8 x.c.B:: .int .u8 x.c.C:: .int .u8 x.c.D:: .int .u8 x.c.E:: .int .u8 x.c.H:: .int .u8 x.c.L:: .bool x.c.fS:: .bool x.c.fZ:: .bool x.c.fK:: .bool x.c.fAC:: .bool x.c.fP:: .bool x.c.fV:: .bool x.c.fCY:: .int .u16 x.c.SP:: .int .u16 x.c.PC:: .bool x.c.IE:: .bool x.c.De:: .bool x.c.Ha:: .int .u8 x.c.Ma:: .bool x.c.Tr:: .bool x.c.R7:: .bool x.c.WT:: .bool x.c.W7:: .bool x.c.Sa:: .bool x.c.SI:: .bool x.c.SO:: .int .i64 x.src:: .slice x.ga x.gn x.gc:: .int .i64 x.y.k:: .int .u16 x.y.a:: .int .u8 x.y.d:: .int .i64 x.y.s:: .int .i64 x.nx:: .bool x.ho::[])),.agg #[.int .i64 k,.int .u16 aa,.int .u8 d,.int .i64 s],.int .i64 7,.bool e,.bool o] w (ItPost base (.slice (some ⟨g,0,none⟩) n c) (l++[⟨i.k,k,aa,d,s,i.w+1,i.n,i.e,i.o⟩]) w):=by
 obtain ⟨m,cur,HM,q1,q2,q3,q4,r0,r1,gw⟩:=cyc_facts hO k aa d s
 have HO:=Lib.hid hO
 clear hO
 go_enter Tryz.func36,Tryz.ntmps36
 go_upto_region 18 with fail
 generalize hW:World.setRow w g _=w2
 obtain ⟨hP,hG⟩:=part_facts HO.out HM.out r0 hW
 obtain ⟨c5,c6,f5,f6,h5,h6⟩:=up_facts hP HM.out
 have H5:=Lib.hid h5
 have H6:=Lib.hid h6
 have HG:=Lib.hid hG
 have gw2:g < w2.heap.size:=hP.lt.2
 have GS:=Lib.hid (show w2.heap.size=w.heap.size by rw [←hW];exact size_setRow _ _ _)
 clear hP hG h5 h6 hW r0 r1
 go_wp2_with fail
 all_goals
  go_ret
  refine ⟨_,rfl,OwnsG.adds H5.out.1 aD,World.grownBy.trans (World.grownBy.trans HG.out H5.out.2) (Adds.grownBy aD _),fun g h=> .inl h⟩
theorem item_cyc_o (base g n c:Nat) (x:S.Co) (st:Int) (l:List S.It) (i:S.It) (w:World) (hO:OwnsT w base (.slice (some ⟨g,0,none⟩) n c) (l++[i])) (hw:0≤i.w∧i.w≤1000000) (hn:0≤i.n∧i.n≤1000000) (h1:(st==1)=false) (h7:(st==7)=false) (h8:(st==8)=false) (h9:(st==9)=false) (h10:(st==10)=false):Calls Tryz.prog 36 #[.slice (some ⟨g,0,none⟩) n c,.agg (List.toArray (.int .i64 x.c.Ch:: .int .u8 x.c.A:: .int .u8 x.c.B:: .int .u8 x.c.C:: .int .u8 x.c.D:: .int .u8 x.c.E:: .int .u8 x.c.H:: .int .u8 x.c.L:: .bool x.c.fS:: .bool x.c.fZ:: .bool x.c.fK:: .bool x.c.fAC:: .bool x.c.fP:: .bool x.c.fV:: .bool x.c.fCY:: .int .u16 x.c.SP:: .int .u16 x.c.PC:: .bool x.c.IE:: .bool x.c.De:: .bool x.c.Ha:: .int .u8 x.c.Ma:: .bool x.c.Tr:: .bool x.c.R7:: .bool x.c.WT:: .bool x.c.W7:: .bool x.c.Sa:: .bool x.c.SI:: .bool x.c.SO:: .int .i64 x.src:: .slice x.ga x.gn x.gc:: .int .i64 x.y.k:: .int .u16 x.y.a:: .int .u8 x.y.d:: .int .i64 x.y.s:: .int .i64 x.nx:: .bool x.ho::[])),.agg #[.int .i64 k,.int .u16 aa,.int .u8 d,.int .i64 s],.int .i64 st,.bool e,.bool o] w (ItPost base (.slice (some ⟨g,0,none⟩) n c) (l++[⟨i.k,k,aa,d,s,i.w,i.n+1,i.e,i.o⟩]) w):=by
 obtain ⟨m,cur,HM,q1,q2,q3,q4,r0,r1,gw⟩:=cyc_facts hO k aa d s
 have HO:=Lib.hid hO
 clear hO
 go_enter Tryz.func36,Tryz.ntmps36
 go_upto_region 18 with fail
 generalize hW:World.setRow w g _=w2
 obtain ⟨hP,hG⟩:=part_facts HO.out HM.out r0 hW
 obtain ⟨c5,c6,f5,f6,h5,h6⟩:=up_facts hP HM.out
 have H5:=Lib.hid h5
 have H6:=Lib.hid h6
 have HG:=Lib.hid hG
 have gw2:g < w2.heap.size:=hP.lt.2
 have GS:=Lib.hid (show w2.heap.size=w.heap.size by rw [←hW];exact size_setRow _ _ _)
 clear hP hG h5 h6 hW r0 r1
 go_wp2_with fail
 all_goals
  go_ret
  refine ⟨_,rfl,OwnsG.adds H6.out.1 aD,World.grownBy.trans (World.grownBy.trans HG.out H6.out.2) (Adds.grownBy aD _),fun g h=> .inl h⟩
theorem add_nil8 (x:S.Co) (st v:Int) (h:st=8∨st=9∨st=10):S.add [] x st v=[S.new1 x st]:=by unfold S.add;rw [if_pos h];rfl
theorem add_inc (h:st=8∨st=9∨st=10) (hm:i.k=S.kd st∧i.e=x.c.IE∧i.o=x.c.SO):S.add (l++[i]) x st v=l++[⟨i.k,i.c,i.a,i.d,i.s,i.w,i.n+1,i.e,i.o⟩]:=by
 unfold S.add;rw [if_pos h,S.snoc_last,S.snoc_drop];simp only [];rw [if_pos hm]
theorem add_mis (h:st=8∨st=9∨st=10) (hm:¬(i.k=S.kd st∧i.e=x.c.IE∧i.o=x.c.SO)):S.add (l++[i]) x st v=(l++[i])++[S.new1 x st]:=by
 unfold S.add;rw [if_pos h,S.snoc_last];simp only [];rw [if_neg hm]
theorem add_cyc (h:¬(st=8∨st=9∨st=10)) (h1:¬st=1):S.add (l++[i]) x st v=l++[⟨i.k,x.y.k,x.y.a,S.cd x.y.k x.y.d st v,S.cst3 x.c.Ch x.y.k x.y.d x.y.s st v,if st=7 then i.w+1 else i.w,if st=7 then i.n else i.n+1,i.e,i.o⟩]:=by
 unfold S.add;rw [if_neg h,if_neg h1,S.snoc_last,S.snoc_drop]
theorem kd8:S.kd 8=2:=by simp [S.kd]
theorem kd9:S.kd 9=3:=by simp [S.kd]
theorem kd10:S.kd 10=4:=by simp [S.kd]
theorem new1_8 (x:S.Co):S.new1 x 8=⟨2,0,0,0,0,0,1,x.c.IE,x.c.SO⟩:=by simp [S.new1,S.kd]
theorem new1_9 (x:S.Co):S.new1 x 9=⟨3,0,x.c.PC,0,0,0,1,x.c.IE,x.c.SO⟩:=by simp [S.new1,S.kd]
theorem new1_10 (x:S.Co):S.new1 x 10=⟨4,0,0,0,0,0,1,x.c.IE,x.c.SO⟩:=by simp [S.new1,S.kd]
theorem item_any (base:Nat) {a:Option Addr} (x:S.Co) (st v:Int) (il:List S.It) (hO:OwnsT w base (.slice a n c) il) (hl:il.length≤1000000) (hb:base≤w.heap.size) (hst:1≤st∧st≤10) (hne:st=1∨8≤st∨il≠[]) (hbd:∀i∈il,0≤i.n∧i.n≤1000000∧0≤i.w∧i.w≤1000000):Calls Tryz.prog 36 #[.slice a n c,.agg (List.toArray (.int .i64 x.c.Ch:: .int .u8 x.c.A:: .int .u8 x.c.B:: .int .u8 x.c.C:: .int .u8 x.c.D:: .int .u8 x.c.E:: .int .u8 x.c.H:: .int .u8 x.c.L:: .bool x.c.fS:: .bool x.c.fZ:: .bool x.c.fK:: .bool x.c.fAC:: .bool x.c.fP:: .bool x.c.fV:: .bool x.c.fCY:: .int .u16 x.c.SP:: .int .u16 x.c.PC:: .bool x.c.IE:: .bool x.c.De:: .bool x.c.Ha:: .int .u8 x.c.Ma:: .bool x.c.Tr:: .bool x.c.R7:: .bool x.c.WT:: .bool x.c.W7:: .bool x.c.Sa:: .bool x.c.SI:: .bool x.c.SO:: .int .i64 x.src:: .slice x.ga x.gn x.gc:: .int .i64 x.y.k:: .int .u16 x.y.a:: .int .u8 x.y.d:: .int .i64 x.y.s:: .int .i64 x.nx:: .bool x.ho::[])),.agg #[.int .i64 x.y.k,.int .u16 x.y.a,.int .u8 (S.cd x.y.k x.y.d st v),.int .i64 (S.cst3 x.c.Ch x.y.k x.y.d x.y.s st v)],.int .i64 st,.bool x.c.IE,.bool x.c.SO] w (ItPost base (.slice a n c) (S.add il x st v) w):=by
 by_cases h1:st=1
 ·subst h1
  have e:S.add il x 1 v=il++[⟨1,x.y.k,x.y.a,x.y.d,x.y.s,0,1,x.c.IE,x.c.SO⟩]:=by unfold S.add;rw [if_neg (by omega),if_pos rfl]
  have e1:S.cd x.y.k x.y.d 1 v=x.y.d:=by unfold S.cd;rw [if_neg (fun h=>absurd h.1 (by omega))]
  have e2:S.cst3 x.c.Ch x.y.k x.y.d x.y.s 1 v=x.y.s:=by unfold S.cst3;rw [if_neg (fun h=>absurd h.1 (by omega))]
  rw [e,e1,e2]
  exact item_t1 base n c a x il w hO hl hb
 rcases List.eq_nil_or_concat il with rfl|⟨l,i,rfl⟩
 ·rcases (show st=8∨st=9∨st=10 by rcases hne with h|h|h;exact absurd h h1;omega;exact absurd rfl h) with rfl|rfl|rfl
  ·rw [add_nil8 x 8 v (.inl rfl),new1_8];exact item_nil_8 base n c a x w hO hb
  ·rw [add_nil8 x 9 v (.inr (.inl rfl)),new1_9];exact item_nil_9 base n c a x w hO hb
  ·rw [add_nil8 x 10 v (.inr (.inr rfl)),new1_10];exact item_nil_10 base n c a x w hO hb
 rw [List.concat_eq_append] at *
 have hlen:=hO.len
 rw [List.length_append,List.length_singleton] at hlen
 obtain ⟨b1,b2,b3,b4⟩:=hbd i (by simp)
 obtain ⟨g,rfl,_,_⟩:=hO.head (by omega)
 have hl':l.length≤1000000:=by rw [List.length_append] at hl;omega
 by_cases h8:st=8∨st=9∨st=10
 ·by_cases hm:i.k=S.kd st∧i.e=x.c.IE∧i.o=x.c.SO
  ·rw [add_inc h8 hm,hm.2.1,hm.2.2]
   rcases h8 with rfl|rfl|rfl
   ·have t:=fun p q r s=>item_inc_8 base g n c x p q r s l i w hO (kd8▸hm.1) ⟨b1,b2⟩;rw [hm.2.1,hm.2.2] at t;exact t _ _ _ _
   ·have t:=fun p q r s=>item_inc_9 base g n c x p q r s l i w hO (kd9▸hm.1) ⟨b1,b2⟩;rw [hm.2.1,hm.2.2] at t;exact t _ _ _ _
   ·have t:=fun p q r s=>item_inc_10 base g n c x p q r s l i w hO (kd10▸hm.1) ⟨b1,b2⟩;rw [hm.2.1,hm.2.2] at t;exact t _ _ _ _
  ·rw [add_mis h8 hm]
   rcases h8 with rfl|rfl|rfl
   ·rw [kd8] at hm;rw [new1_8];exact item_mis_8 base n c x l i w hO hl' hb hm
   ·rw [kd9] at hm;rw [new1_9];exact item_mis_9 base n c x l i w hO hl' hb hm
   ·rw [kd10] at hm;rw [new1_10];exact item_mis_10 base n c x l i w hO hl' hb hm
 ·rw [add_cyc h8 h1]
  by_cases h7:st=7
  ·subst h7
   rw [if_pos rfl,if_pos rfl]
   exact item_cyc_7 base g n c x _ _ _ _ 7 _ _ l i w hO ⟨b3,b4⟩ ⟨b1,b2⟩
  ·rw [if_neg h7,if_neg h7]
   exact item_cyc_o base g n c x st l i w hO ⟨b3,b4⟩ ⟨b1,b2⟩ (by simpa using h1) (by simpa using h7) (by simp;omega) (by simp;omega) (by simp;omega)
end
end Go.Proofs.YteggjjhjmhccjaaGreatDoor
