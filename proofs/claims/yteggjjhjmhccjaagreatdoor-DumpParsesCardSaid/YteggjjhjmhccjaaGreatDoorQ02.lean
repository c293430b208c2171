/- Texts that the proofs of the statements on dumps rest on, joined. Conditions stand in each theorem. -/
import Derived.Test.YteggjjhjmhccjaaGreatDoorQ01
import Derived.Laws.AppendOwnNone
import Derived.Deep.Slices
import Derived.ChangeSame
import Derived.Deep.Cut
import Derived.Test.YteggjjhjmhccjaaGreatDoorQ00
import Derived.Lib.SliceRun
import Derived.Lib.Hide
import Derived.Deep.RegionWith
import Derived.Deep.RegionHeld3
import Derived.Laws.Bits128
import Derived.RegionTactic
set_option linter.unusedVariables false
set_option linter.unusedSimpArgs false
set_option maxRecDepth 100000
set_option maxHeartbeats 8000000
namespace Go.Proofs.YteggjjhjmhccjaaGreatDoor
open Go.ChangeShapes Go.WideShapes Go.ChangeAt Go.RowKit
namespace K12
open Go.ChangeShapes Go.WideShapes Go.ChangeAt Go.RowKit Go.Deep
variable {a:Option Addr} {b base cap n o:Nat} {v:Value} {w w':World}
structure Rg where
 fr:Int
 tw:Int
 ram:Bool
 wt:Int
instance:Inhabited Rg:=⟨⟨0,0,false,0⟩⟩
def Sm.rc (r:Rg):List Value:=[.int .u16 r.fr,.int .u16 r.tw,.bool r.ram,.int .i64 r.wt]
def AtR (w:World) (b o:Nat) (d:List Rg):Prop:=∀j r,d[j]? =some r→w.cell? ⟨b,o+j * 4,none⟩=some (.int .u16 r.fr)∧w.cell? ⟨b,o+j * 4+1,none⟩=some (.int .u16 r.tw)∧w.cell? ⟨b,o+j * 4+2,none⟩=some (.bool r.ram)∧w.cell? ⟨b,o+j * 4+3,none⟩=some (.int .i64 r.wt)
def HeldR (w:World) (a:Option Addr) (n:Nat) (d:List Rg):Prop:=d.length=n∧n≤2305843009213693952∧(0 < n→∃b o,a=some ⟨b,o,none⟩∧b < w.heap.size∧AtR w b o d)
theorem AtR.keep {d:List Rg} (h:AtR w b o d) (k:∀i,w'.cell? ⟨b,i,none⟩=w.cell? ⟨b,i,none⟩):AtR w' b o d:=fun j r hd=>by rw [k,k,k,k];exact h j r hd
theorem HeldR.adds {d:List Rg} (h:HeldR w a n d) (k:Adds w w'):HeldR w' a n d:=
 ⟨h.1,h.2.1,fun hn=>by
   obtain ⟨b,o,ha,hb,hat⟩:=h.2.2 hn
   exact ⟨b,o,ha,by have:=k.size;omega,hat.keep fun i=>k.cell hb⟩⟩
theorem HeldR.nil (w:World) (a:Option Addr):HeldR w a 0 []:=⟨rfl,by omega,fun h=>absurd h (by omega)⟩
def Sm.cr (d:List Rg):List Value:=d.flatMap Sm.rc
theorem Sm.cr_app (a b:List Rg):Sm.cr (a++b)=Sm.cr a++Sm.cr b:=by simp [Sm.cr]
theorem Sm.cr_cons (c:Rg) (d:List Rg):Sm.cr (c::d)=.int .u16 c.fr:: .int .u16 c.tw:: .bool c.ram:: .int .i64 c.wt::Sm.cr d:=rfl
theorem Sm.cr_len:∀(d:List Rg),(Sm.cr d).length=d.length * 4
 |[]=>rfl
 |c::d=>by rw [Sm.cr_cons];simp only [List.length_cons];rw [Sm.cr_len d];omega
theorem Sm.cr_get:∀(d:List Rg) (j:Nat) (r:Rg),d[j]? =some r→(Sm.cr d)[j * 4]? =some (.int .u16 r.fr)∧(Sm.cr d)[j * 4+1]? =some (.int .u16 r.tw)∧(Sm.cr d)[j * 4+2]? =some (.bool r.ram)∧(Sm.cr d)[j * 4+3]? =some (.int .i64 r.wt)
 |[],j,r,h=>by simp at h
 |c::d,0,r,h=>by simp at h;subst h;exact ⟨rfl,rfl,rfl,rfl⟩
 |c::d,j+1,r,h=>by
  have:=Sm.cr_get d j r (by simpa using h)
  rw [Sm.cr_cons,show (j+1) * 4=j * 4+1+1+1+1 by omega]
  simpa using this
theorem Sm.cr_one (d:List Rg):∀u∈Sm.cr d,u.oneCell'=true:=by
 intro u hu
 simp only [Sm.cr,List.mem_flatMap] at hu
 obtain ⟨c,_,hc⟩:=hu
 simp only [Sm.rc,List.mem_cons,List.not_mem_nil,or_false] at hc
 rcases hc with rfl|rfl|rfl|rfl<;>rfl
theorem Sm.cr_set:∀(d:List Rg) (i:Nat) (r:Rg),((((Sm.cr d).set (i * 4) (.int .u16 r.fr)).set (i * 4+1) (.int .u16 r.tw)).set (i * 4+2) (.bool r.ram)).set (i * 4+3) (.int .i64 r.wt)=Sm.cr (d.set i r)
 |[],i,r=>by simp [Sm.cr]
 |c::d,0,r=>rfl
 |c::d,i+1,r=>by
  rw [Sm.cr_cons,show (i+1) * 4=i * 4+1+1+1+1 by omega]
  simp only [List.set_cons_succ,Sm.cr_cons,Sm.cr_set d i r]
def OwnsR (w:World) (base:Nat) (v:Value) (d:List Rg):Prop:=w.ownsRow base 134 4 v d.length (Sm.cr d)
theorem OwnsR.kept {d:List Rg} {row:Option Nat} (h:OwnsR w base v d) (hg:w.grownBy w' row) (hne:∀g,row=some g→g < base):OwnsR w' base v d:=by
 refine World.ownsRow.kept h hg ?_
 cases hq:v.ownBlock with
 |none=>exact .inl rfl
 |some g=>exact .inr fun e=>by have h1:=(World.ownsRow.lt h g hq).1;have h2:=hne g e.symm;omega
theorem OwnsR.adds {d:List Rg} (h:OwnsR w base v d) (k:Adds w w'):OwnsR w' base v d:=h.kept (row:=none) ⟨k.below.os,k.below.tape,k.below.output,k.below.size,fun i hi _=>k.below.block i hi⟩ (fun g e=>by cases e)
theorem OwnsR.mono {base':Nat} {d:List Rg} (h:OwnsR w base v d) (k:base'≤base):OwnsR w base' v d:=by
 refine ⟨h.1,?_⟩
 rcases h.2 with hn|⟨g,cap,cur,h1,h2,h3⟩
 ·exact .inl hn
 ·exact .inr ⟨g,cap,cur,h1,by omega,h3⟩
theorem OwnsR.at_ {g:Nat} {d:List Rg} (h:OwnsR w base (.slice (some ⟨g,0,none⟩) n cap) d):AtR w g 0 d:=by
 have hn:n=d.length:=by
  rcases h.2 with ⟨h',_⟩|⟨g',cap',cur,h',_⟩
  ·simp at h'
  ·simp only [Value.slice.injEq] at h';exact h'.2.1
 subst hn
 intro j r hd
 have hj:j < d.length:=(List.getElem?_eq_some_iff.1 hd).1
 obtain ⟨h1,h2,h3,h4⟩:=Sm.cr_get d j r hd
 rw [Nat.zero_add]
 exact ⟨(World.ownsRow.cellAt h (j * 4) (by omega)).trans h1,(World.ownsRow.cellAt h (j * 4+1) (by omega)).trans h2,(World.ownsRow.cellAt h (j * 4+2) (by omega)).trans h3,(World.ownsRow.cellAt h (j * 4+3) (by omega)).trans h4⟩
theorem OwnsR.form2 {d:List Rg} (h:OwnsR w base v d):
 ∃a n cap,v=.slice a n cap∧Hid (d.length=n)∧n≤cap∧cap≤9223372036854775807∧(0 < cap→∃g,a=some ⟨g,0,none⟩∧base≤g∧g < w.heap.size)∧(a=none→n=0∧cap=0):=by
 rcases h.2 with ⟨h',h0⟩|⟨g,cap,cur,h',hb,hh,h1,h2,h3⟩
 ·exact ⟨none,0,0,h',h0,by omega,by omega,fun h=>absurd h (by omega),fun _=>⟨rfl,rfl⟩⟩
 ·refine ⟨_,d.length,cap,h',rfl,h1,?_,fun _=>⟨g,rfl,hb,(Array.getElem?_eq_some_iff.1 hh).1⟩,fun e=>by cases e⟩
  simpa [maxLen] using h2
theorem OwnsR.held {d:List Rg} (h:OwnsR w base (.slice a n cap) d) (hd:d.length≤2305843009213693952):HeldR w a n d:=by
 obtain ⟨a',n',cap',h1,h0,h2,h3,h4,_⟩:=h.form2
 have h0:=h0.out
 simp only [Value.slice.injEq] at h1
 obtain ⟨rfl,rfl,rfl⟩:=h1
 refine ⟨h0,by omega,fun hn=> ?_⟩
 obtain ⟨g,rfl,_,hg⟩:=h4 (by omega)
 exact ⟨g,0,rfl,hg,h.at_⟩
theorem AtR.news {d:List Rg} (h:AtR w b o d):∀j u,(Sm.cr d)[j]? =some u→w.cell? ((⟨b,o,none⟩:Addr).add j)=some u:=by
 intro j u hu
 rw [add_plain]
 have hj:j < d.length * 4:=by have:=(List.getElem?_eq_some_iff.1 hu).1;rwa [Sm.cr_len] at this
 obtain ⟨r,hr⟩:∃r,d[j / 4]? =some r:=⟨d[j / 4]'(by omega),List.getElem?_eq_getElem _⟩
 obtain ⟨h1,h2,h3,h4⟩:=h _ r hr
 obtain ⟨k1,k2,k3,k4⟩:=Sm.cr_get d _ r hr
 rcases (by omega:j % 4=0∨j % 4=1∨j % 4=2∨j % 4=3) with h0|h0|h0|h0
 ·have e:j=j / 4 * 4:=by omega
  rw [←e] at h1 k1;rw [h1,←k1,hu]
 ·have e:j=j / 4 * 4+1:=by omega
  rw [Nat.add_assoc,←e] at h2;rw [←e] at k2;rw [h2,←k2,hu]
 ·have e:j=j / 4 * 4+2:=by omega
  rw [Nat.add_assoc,←e] at h3;rw [←e] at k3;rw [h3,←k3,hu]
 ·have e:j=j / 4 * 4+3:=by omega
  rw [Nat.add_assoc,←e] at h4;rw [←e] at k4;rw [h4,←k4,hu]
theorem HeldR.news {ad:Addr} {d:List Rg} (h:HeldR w (some ad) n d):∀j u,(Sm.cr d)[j]? =some u→w.cell? (ad.add j)=some u:=by
 intro j u hu
 by_cases hn:0 < n
 ·obtain ⟨b,o,e,_,hat⟩:=h.2.2 hn
  cases e
  exact hat.news j u hu
 ·have:d=[]:=List.eq_nil_of_length_eq_zero (by have:=h.1;omega)
  subst this
  simp [Sm.cr] at hu
theorem regionInfo:(Tryz.prog.info? 134).map (fun i=>(i.zero,i.size,i.bytes))=some (some (.agg #[.int .u16 0,.int .u16 0,.bool false,.int .i64 0]),4,16):=by kernel_rfl
theorem wpList_appR {ops:Array Oper} {rest:List Oper} {o:Oper} {a:Act} {Q:Exit→Act→World→Prop} (hgd:o.guard=none) (s x:Operand)
 (ho:o.op=.call {callee:=.builtin .append,args:=#[s,x],argTypes:=#[43,43]})
 (base:Nat) (v:Value) (d:List Rg) (hs:a.eval s=v) (hown:OwnsR w base v d) (ad:Option Addr) (m c:Nat) (e:List Rg) (hx:a.eval x=.slice ad m c) (hh:HeldR w ad m e) (hnone:ad=none→m=0∧c=0)
 (hsz:d.length+m≤33554432) (hbase:base≤w.heap.size)
 (h:∀v' w',OwnsR w' base v' (d++e)→w.grownBy w' v.ownBlock→wpList Tryz.prog ops Q rest (a.put o.dst v') w'):wpList Tryz.prog ops Q (o::rest) a w:=by
 obtain ⟨i0,hi,hz0,hz1,hz2⟩:=info_parts regionInfo
 cases ad with
 |none=>
  obtain ⟨rfl,rfl⟩:=hnone rfl
  have he:e=[]:=List.eq_nil_of_length_eq_zero hh.1
  subst he
  refine wpList_append_own_none hgd s x 43 ho base 134 i0 4 Tryz.underlying43 hi v d.length (Sm.cr d) hs hown hx ?_
  exact h v w (by rw [List.append_nil];exact hown) (World.grownBy.refl w _)
 |some ad=>
  refine wpList_append_own w hgd s x 43 ho base 134 i0 (.agg #[.int .u16 0,.int .u16 0,.bool false,.int .i64 0]) 4 16 Tryz.underlying43 hi hz0 hz1 hz2 rfl (by decide) v d.length (Sm.cr d) hs hown ad m c (Sm.cr e) hx (by rw [Sm.cr_len,hh.1]) hh.news (Sm.cr_one e) (by unfold maxLen;omega) (by omega) hbase ?_
  intro v' w' h1 h2 h3
  refine h v' w' ?_ h2
  unfold OwnsR
  rw [List.length_append,hh.1,Sm.cr_app]
  exact h1
theorem AtR.new (w:World) (t:TypeId) (r:Rg):AtR (w.alloc (.cells #[.int .u16 r.fr,.int .u16 r.tw,.bool r.ram,.int .i64 r.wt] t)) w.heap.size 0 [r]:=by
 intro j y h
 match j,h with
 |0,h=>simp at h;subst h;refine ⟨?_,?_,?_,?_⟩<;>simp [go_sem]
 |j+1,h=>simp at h
theorem HeldR.one (w:World) (t:TypeId) (r:Rg):HeldR (w.alloc (.cells #[.int .u16 r.fr,.int .u16 r.tw,.bool r.ram,.int .i64 r.wt] t)) (some ⟨w.heap.size,0,none⟩) 1 [r]:=
 ⟨rfl,by omega,fun _=>⟨w.heap.size,0,rfl,by simp,AtR.new w t r⟩⟩
theorem OwnsR.alloc {d:List Rg} (h:OwnsR w base v d) (o:Obj):OwnsR (w.alloc o) base v d:=World.ownsRow.alloc h o
theorem OwnsR.nil (w:World) (base:Nat):OwnsR w base (.slice none 0 0) []:=World.ownsRow_nil w base _ 4
theorem OwnsR.lit1 (w:World) (r:Rg):OwnsR (w.alloc (.cells #[.int .u16 r.fr,.int .u16 r.tw,.bool r.ram,.int .i64 r.wt] 134)) w.heap.size (.slice (some ⟨w.heap.size,0,none⟩) 1 1) [r]:=
 ⟨rfl,.inr ⟨w.heap.size,1,_,rfl,Nat.le_refl _,heap_alloc_new w _,by simp,by unfold maxLen;omega,rfl,rfl⟩⟩
theorem AddsR.grown {w0:World} {d:List Rg} (h:Adds w0 w) (hg:w.grownBy w' v.ownBlock) (ho:OwnsR w w0.heap.size v d):Adds w0 w':=
 Adds.of_below (h.below.grown hg h.size fun k hk=>(World.ownsRow.lt ho k hk).1)
theorem heldR_of (w:World) (x:Addr) (len:Nat) (h61:len≤2305843009213693952) (hc:∀i,i < len→∃r:Rg,w.cell? (x.add (i * 4))=some (.int .u16 r.fr)∧w.cell? (x.add (i * 4+1))=some (.int .u16 r.tw)∧w.cell? (x.add (i * 4+2))=some (.bool r.ram)∧w.cell? (x.add (i * 4+3))=some (.int .i64 r.wt)):∃l,HeldR w (some x) len l:=by
 rcases Nat.eq_zero_or_pos len with rfl|hp
 ·exact ⟨[],HeldR.nil _ _⟩
 obtain ⟨r0,hy0,_⟩:=hc 0 hp
 rw [show x.add (0 * 4)=x by simp [Addr.add]] at hy0
 obtain ⟨b,o,sp⟩:=x
 obtain rfl:sp=none:=cell_spot hy0
 have boolOf:∃f:Value→Bool,∀c,f (.bool c)=c:=⟨fun v=>match v with| .bool c=>c|_=>false,fun _=>rfl⟩
 obtain ⟨bf,hbf⟩:=boolOf
 refine ⟨(List.range len).map fun i=>⟨intOf ((w.cell? ⟨b,o+i * 4,none⟩).getD (.int .u16 0)),intOf ((w.cell? ⟨b,o+(i * 4+1),none⟩).getD (.int .u16 0)),bf ((w.cell? ⟨b,o+(i * 4+2),none⟩).getD (.int .u16 0)),intOf ((w.cell? ⟨b,o+(i * 4+3),none⟩).getD (.int .u16 0))⟩,by simp,h61,fun _=>⟨b,o,rfl,cell_lt hy0,?_⟩⟩
 intro j r hj
 have hjl:j < len:=by
  have:=(List.getElem?_eq_some_iff.1 hj).1
  simpa using this
 obtain ⟨r',h1,h2,h3,h4⟩:=hc j hjl
 rw [add_plain] at h1 h2 h3 h4
 rw [List.getElem?_map,List.getElem?_range hjl] at hj
 simp only [Option.map_some,h1,h2,h3,h4,Option.getD_some,intOf,hbf,Option.some.injEq] at hj
 subst hj
 exact ⟨h1,by rw [Nat.add_assoc];exact h2,by rw [Nat.add_assoc];exact h3,by rw [Nat.add_assoc];exact h4⟩
theorem addr_add_add (x:Addr) (i j:Nat):(x.add i).add j=x.add (i+j):=by
 unfold Addr.add
 by_cases hi:i=0<;>by_cases hj:j=0<;>simp [hi,hj,Nat.add_assoc]
theorem open_regions {H:Type} {enc:TypeId×Value→H} {spare:Nat→Bool} {held:Bool} {fuel:Nat} {cs:List Value} {x:DataW H×List MemPlace}
 (h:DataW.trod enc Tryz.prog w base spare held fuel 43 cs=some x):∃a len cap,cs=[.slice a len cap]∧(len≤2305843009213693952→∃l,HeldR w a len l):=by
 have hC:Tryz.prog.cellsOf 134=4:=by kernel_rfl
 rcases open_slice Tryz.underlying43 h with ⟨hcs,_⟩|⟨a,len,cap,m,n,D,Pl,hcs,hb,hl,hm,hmm,hx,hi⟩
 ·exact ⟨none,0,0,hcs,fun _=>⟨[],HeldR.nil _ _⟩⟩
 ·refine ⟨some a,len,cap,hcs,fun h61=>heldR_of w a len h61 (fun i hi'=>by
   obtain ⟨cs',hc,ht'⟩:=hi i (by rw [hmm];split<;>omega)
   rw [hC] at hc
   have hf:=flat_fits 9 134 [.int .u16,.int .u16,.bool,.int .i64] _ _ _ (by kernel_rfl) ht'
   obtain ⟨z0,l1,rfl,_,hf1⟩:=fits_int hf
   obtain ⟨z1,l2,rfl,_,hf2⟩:=fits_int hf1
   obtain ⟨z2,l3,rfl,hf3⟩:=fits_bool hf2
   obtain ⟨z3,l4,rfl,_,hf4⟩:=fits_int hf3
   obtain rfl:=fits_nil hf4
   obtain ⟨_,hcl,hat⟩:=World.cells?_some hc
   have g0:=hat 0 (by omega)
   have g1:=hat 1 (by omega)
   have g2:=hat 2 (by omega)
   have g3:=hat 3 (by omega)
   rw [addr_add_add] at g0 g1 g2 g3
   exact ⟨⟨z0,z1,z2,z3⟩,by simpa using g0,by simpa using g1,by simpa using g2,by simpa using g3⟩)⟩
end K12
namespace K12
theorem litR6 (y:Int) (h0:0≤y) (h:y < 6):∃(k:Nat) (o:Int),y=(k:Int)∧0≤o∧o < 65536∧(#[.int .i64 0,.int .i64 3,.int .i64 15,.int .i64 255,.int .i64 4095,.int .i64 65535]:Array Value)[k]? =some (.int .i64 o):=by
 obtain ⟨k,rfl⟩:∃k:Nat,y=(k:Int):=⟨y.toNat,by omega⟩
 match k,h with
 |0,_=>exact ⟨0,0,rfl,by omega,by omega,rfl⟩
 |1,_=>exact ⟨1,3,rfl,by omega,by omega,rfl⟩
 |2,_=>exact ⟨2,15,rfl,by omega,by omega,rfl⟩
 |3,_=>exact ⟨3,255,rfl,by omega,by omega,rfl⟩
 |4,_=>exact ⟨4,4095,rfl,by omega,by omega,rfl⟩
 |5,_=>exact ⟨5,65535,rfl,by omega,by omega,rfl⟩
 |k+6,h=>exact absurd h (by omega)
theorem litR5 (y:Int) (h0:0≤y) (h:y < 5):∃(k:Nat) (o:Int),y=(k:Int)∧0≤o∧o < 65536∧(#[.int .i64 0,.int .i64 0,.int .i64 1,.int .i64 2,.int .i64 5]:Array Value)[k]? =some (.int .i64 o):=by
 obtain ⟨k,rfl⟩:∃k:Nat,y=(k:Int):=⟨y.toNat,by omega⟩
 match k,h with
 |0,_=>exact ⟨0,0,rfl,by omega,by omega,rfl⟩
 |1,_=>exact ⟨1,0,rfl,by omega,by omega,rfl⟩
 |2,_=>exact ⟨2,1,rfl,by omega,by omega,rfl⟩
 |3,_=>exact ⟨3,2,rfl,by omega,by omega,rfl⟩
 |4,_=>exact ⟨4,5,rfl,by omega,by omega,rfl⟩
 |k+5,h=>exact absurd h (by omega)
theorem regs_mk (b len cap N:Nat) (a:Option Addr) (n:Nat) (hn:n≤1000) (hN:N≤1000000) (w:World) (h:Nb w b a len cap N):
 Calls Tryz.prog 54 #[.pointer (some ⟨b,0,none⟩),.int .i64 (n:Int)] w fun e w'=>∃r d N',e=.returned r∧OwnsR w' w.heap.size r d∧d.length≤n∧N'≤N+1+5 * n∧Nb w' b a len cap N'∧w.grownBy w' (some b):=by
 have H:Hid _:=Lib.hid h
 have hbw:b < w.heap.size:=h.lt
 clear h
 go_enter Tryz.func54,Tryz.ntmps54
 go_wp2_with (go_at_call 26;(with_reducible refine (nx_any b len cap N a _ (by omega) (by omega) (by omega) w H.out).mono ?_);rintro e w1 ⟨y0,M1,hy00,hy01,hM1,rfl,hU1⟩)
 obtain ⟨k0,rfl⟩:∃k:Nat,y0=(k:Int):=⟨y0.toNat,by omega⟩
 have hB1:=H.out.up hU1
 have hG1:=hU1.grown
 clear hU1 H
 go_loopw [5,6] (fun v5 v6 wr=>∃(k N':Nat) (d:List Rg),v6=.int .i64 (k:Int)∧d.length+k≤n∧N'≤N+1+5 * d.length∧Nb wr b a len cap N'∧OwnsR wr w.heap.size v5 d∧w.grownBy wr (some b)) (fun _ v6 _=>(intOf v6).toNat)
 case atStart=>exact ⟨k0,M1,[],rfl,by simp;omega,by simp;omega,hB1,OwnsR.nil _ _,hG1⟩
 case round=>
  obtain ⟨k,N',d,rfl,hdk,hN',hB,hO,hG⟩:=hrel
  have hsz:=hG.size
  by_cases hlt:0 < k
  ·obtain ⟨j,rfl⟩:∃j,k=j+1:=⟨k - 1,by omega⟩
   have hkz:(0:Int) < (j:Int)+1:=by omega
   have HG:=Lib.hid hG
   have HO:=Lib.hid hO
   have HB:=Lib.hid hB
   clear hO hG hB
   go_upto_region 7 with (first
    |(go_at_call 87;(with_reducible refine (wrd_any b len cap N' a (by omega) wr HB.out).mono ?_);rintro e w2 ⟨y1,N1,hy10,hy11,hN1,rfl,hU2⟩;have hB2:=HB.out.up hU2;have hG2:=hU2.grown;clear hU2)
    |(go_at_call 26;(with_reducible refine (nx_any b len cap N1 a 6 (by omega) (by omega) (by omega) (w2.alloc (.cells #[.int .i64 0,.int .i64 3,.int .i64 15,.int .i64 255,.int .i64 4095,.int .i64 65535] 3)) (hB2.alloc _)).mono ?_);rintro e w3 ⟨y2,N2,hy20,hy21,hN2,rfl,hU3⟩;obtain ⟨k2,o,rfl,ho0,ho1,ho2⟩:=litR6 y2 hy20 hy21;have hG3:=hU3.grown;have hc:w3.cell? ⟨w2.heap.size,k2,none⟩=some (.int .i64 o):=(hG3.cell (a:=⟨w2.heap.size,k2,none⟩) (by rw [cell_of_row _ _ _ _ _ (0,0) (heap_alloc_new w2 _)];exact ho2) (fun e=>by injection e with e;have e:w2.heap.size=b:=e;have:=hB2.lt;omega));have hB3:=(hB2.alloc _).up hU3;clear hU3))
   clear hc ho2 hy21 hkz
   obtain ⟨t,ht⟩:∃t,t=y1+o:=⟨_,rfl⟩
   have t1:y1+o=t:=ht.symm
   have t0:0≤t:=by omega
   have t2:t < 131072:=by omega
   clear ht ho0 ho1
   go_wp2_with (first
    |(go_at_call 26;(with_reducible refine (nx_any b len cap N2 a 3 (by omega) (by omega) (by omega) w3 hB3).mono ?_);rintro e w4 ⟨y3,N3,hy30,hy31,hN3,rfl,hU4⟩;have hB4:=hB3.up hU4;have hG4:=hU4.grown;clear hU4)
    |(go_at_call 26;(with_reducible refine (nx_any b len cap N3 a 5 (by omega) (by omega) (by omega) (w4.alloc (.cells #[.int .i64 0,.int .i64 0,.int .i64 1,.int .i64 2,.int .i64 5] 3)) (hB4.alloc _)).mono ?_);rintro e w5 ⟨y4,N4,hy40,hy41,hN4,rfl,hU5⟩;obtain ⟨k4,q,rfl,hq0,hq1,hq2⟩:=litR5 y4 hy40 hy41;have hG5:=hU5.grown;have hB5:=(hB4.alloc _).up hU5;have hcq:w5.cell? ⟨w4.heap.size,k4,none⟩=some (.int .i64 q):=(hG5.cell (a:=⟨w4.heap.size,k4,none⟩) (by rw [cell_of_row _ _ _ _ _ (0,0) (heap_alloc_new w4 _)];exact hq2) (fun e=>by injection e with e;have e:w4.heap.size=b:=e;have:=hB4.lt;omega));have HO5:=Lib.hid ((((((HO.out.kept hG2 (fun g e=>by injection e with e;omega)).alloc (.cells #[.int .i64 0,.int .i64 3,.int .i64 15,.int .i64 255,.int .i64 4095,.int .i64 65535] 3)).kept hG3 (fun g e=>by injection e with e;omega)).kept hG4 (fun g e=>by injection e with e;omega)).alloc (.cells #[.int .i64 0,.int .i64 0,.int .i64 1,.int .i64 2,.int .i64 5] 3)).kept hG5 (fun g e=>by injection e with e;omega));have HG5:=Lib.hid ((((HG.out.trans hG2).trans ((World.grownBy_alloc _ _ _).trans hG3)).trans hG4).trans ((World.grownBy_alloc _ _ _).trans hG5));have hs5:=HG5.out.size;clear hU5)
    |(at_builtin;refine wpList_appR rfl _ _ rfl w.heap.size u5 d rfl (HO5.out.alloc _) _ 1 1 _ rfl (HeldR.one w5 _ ⟨_,_,_,_⟩) (fun e=>by cases e) (by omega) (by simp;omega) ?_;intro v1 w6 hO6 hG6))
   all_goals
    have hO5':=HO5.out
    have hlow:∀g,u5.ownBlock=some g→w.heap.size≤g:=fun g e=>(World.ownsRow.lt hO5' g e).1
    go_roundw
    case rel=>exact ⟨j,N4,d++[⟨_,_,_,_⟩],by go_num,by simp;omega,by simp;omega,(hB5.alloc _).grown hG6 (fun g e=>by have:=hlow g e;omega),hO6,grown_trans2 (HG5.out.trans (World.grownBy_alloc _ _ _)) hG6 (fun g e=> .inr (hlow g e))⟩
    case measure=>simp [intOf]<;>omega
  ·obtain rfl:k=0:=by omega
   go_wp2_with fail
   go_ret
   exact ⟨_,d,N',rfl,hO,by omega,by omega,hB,hG⟩
theorem regs_mk2 (b len cap N:Nat) (a:Option Addr) (hN:N≤1000000) (w:World) (h:Nb w b a len cap N):
 Calls Tryz.prog 54 #[.pointer (some ⟨b,0,none⟩),.int .i64 2] w fun e w'=>∃r d N',e=.returned r∧OwnsR w' w.heap.size r d∧d.length≤2∧N'≤N+11∧Nb w' b a len cap N'∧w.grownBy w' (some b):=regs_mk b len cap N a 2 (by omega) hN w h
theorem map_mk (b len cap N:Nat) (a:Option Addr) (hN:N≤1000000) {w:World} (h:Nb w b a len cap N):
 Calls Tryz.prog 25 #[.pointer (some ⟨b,0,none⟩)] w fun e w'=>∃r d N',e=.returned r∧OwnsR w' w.heap.size r d∧d.length≤3∧N'≤N+12∧Nb w' b a len cap N'∧w.grownBy w' (some b):=by
 have H:Hid _:=Lib.hid h
 have hbw:b < w.heap.size:=h.lt
 clear h
 go_enter Tryz.func25,Tryz.ntmps25
 go_wp2_with (first
  |(go_at_call 54;(with_reducible refine (regs_mk2 b len cap N a (by omega) w H.out).mono ?_);rintro e w1 ⟨r,d,N1,rfl,hO1,hd1,hN1,hB1,hG1⟩;have hs1:=hG1.size;have HO1:=Lib.hid hO1;clear hO1)
  |(go_at_call 26;(with_reducible refine (nx_any b len cap N1 a 3 (by omega) (by omega) (by omega) w1 hB1).mono ?_);rintro e w2 ⟨y,N2,hy0,hy1,hN2,rfl,hU2⟩;have hB2:=hB1.up hU2;have hG2:=hU2.grown;have HO2:=Lib.hid (HO1.out.kept hG2 (fun g e=>by injection e with e;omega));have hs2:=hG2.size;clear hU2)
  |(at_builtin;refine wpList_appR rfl _ _ rfl w.heap.size r d rfl (HO2.out.alloc _) _ 1 1 _ rfl (HeldR.one w2 _ ⟨_,_,_,_⟩) (fun e=>by cases e) (by omega) (by simp;omega) ?_;intro v1 w6 hO6 hG6))
 have hO2':=HO2.out
 have hlow:∀g,r.ownBlock=some g→w.heap.size≤g:=fun g e=>(World.ownsRow.lt hO2' g e).1
 go_ret
 exact ⟨v1,d++[⟨_,_,_,_⟩],N2,rfl,hO6,by simp;omega,by omega,(hB2.alloc _).grown hG6 (fun g e=>by have:=hlow g e;omega),grown_trans2 ((hG1.trans hG2).trans (World.grownBy_alloc _ _ _)) hG6 (fun g e=> .inr (hlow g e))⟩
end K12
namespace K12
theorem rvalid_any (a:Option Addr) (len cap:Nat) (d:List Cl) (w:World) (h:Held w a len d):Calls Tryz.prog 55 #[.slice a len cap] w fun e w'=>e=.returned (.bool (Sm.valid d))∧Adds w w':=by
 obtain ⟨hl,hbig,hat⟩:=h
 go_enter Tryz.func55,Tryz.ntmps55
 go_wp2
 go_loopw [6] (fun i wr=>∃k:Nat,k≤len∧i=.int .i64 k∧Adds w wr∧Hid (∀i,i < k→Sm.okAt d i=true)) (fun i _=>len - (intOf i).toNat)
 case atStart=>exact ⟨0,Nat.zero_le _,rfl,Adds.refl _,fun i hi=>absurd hi (by omega)⟩
 case round=>
  obtain ⟨k,hk,rfl,⟨⟨n1,os1⟩,rfl⟩,HO⟩:=hrel
  by_cases hlt:k < len
  ·obtain ⟨b,o,rfl,hb,hat⟩:=hat (by omega)
   obtain ⟨x,v,hx⟩:=get_pair (d:=d) (k:=k) (by omega)
   obtain ⟨h1,h2⟩:=hat k x v hx
   have HK:Hid _:=Sm.okAt_iff d k (x,v) hx
   have HX:Hid _:=hx
   have HL:Hid _:=hl
   have hltz:(k:Int) < (len:Int):=by omega
   by_cases hv:v=0
   ·subst hv
    have HV:Hid (Sm.valid d=false):=Sm.valid_no d k (by omega) (by
     cases hq:Sm.okAt d k with
     |false=>rfl
     |true=>exact absurd rfl ((Sm.okAt_iff d k (x,0) hx).1 hq).1)
    clear hat hl hx
    go_wp2_with fail
    refine qt ?_
    repeat (go_big_quiet_step (fail))
    refine qn fun nq osq=> ?_
    go_wp2_with fail
    go_ret
    exact ⟨rt HV.out.symm,aD⟩
   ·have hvb:(v==0)=false:=by simpa using hv
    cases k with
    |zero=>
     have HN:Hid (∀i,i < 0+1→Sm.okAt d i=true):=fun i hi=>by
      obtain rfl:i=0:=by omega
      exact HK.out.2 ⟨hv,fun e j hj=>absurd hj (by omega)⟩
     simp only [Nat.zero_mul,Nat.add_zero] at h1 h2
     clear hat hl hx hv
     go_wp2_with fail
     refine qt ?_
     repeat (go_big_quiet_step (fail))
     refine qn fun nq osq=> ?_
     go_wp2_with fail
     go_roundw
     case rel=>exact ⟨0+1,by omega,by go_num,aD,HN⟩
     case measure=>simp [intOf];omega
    |succ j=>
     obtain ⟨y,u,hy⟩:=get_pair (d:=d) (k:=j) (by omega)
     obtain ⟨g1,g2⟩:=hat j y u hy
     have hw:IntKind.i64.wrap (j:Int)=(j:Int):=by rw [IntKind.wrap_i64];omega
     have hj1:(j:Int) < (len:Int):=by omega
     have hj2:((j:Int)+1) < (len:Int):=by omega
     have p0:(0:Int)≤(j:Int)+1:=by omega
     have p1:(0:Int) < (j:Int)+1:=by omega
     have e0:((j:Int)+1).toNat=j+1:=by omega
     by_cases hxy:y < x
     ·have HN:Hid (∀i,i < j+1+1→Sm.okAt d i=true):=fun i hi=>by
       by_cases hij:i=j+1
       ·subst hij
        exact HK.out.2 ⟨hv,fun e q hq he=>by
         obtain rfl:q=j:=by omega
         rw [hy] at he;cases he;exact hxy⟩
       ·exact HO.out i (by omega)
      have hd:decide (x≤y)=false:=decide_eq_false (by omega)
      clear hat hl hx hv hy
      go_wp2_with fail
      refine qt ?_
      repeat (go_big_quiet_step (fail))
      refine qn fun nq osq=> ?_
      go_wp2_with fail
      go_roundw
      case rel=>exact ⟨j+1+1,by omega,by go_num,aD,HN⟩
      case measure=>simp [intOf];omega
     ·have HV:Hid (Sm.valid d=false):=Sm.valid_no d (j+1) (by omega) (by
       cases hq:Sm.okAt d (j+1) with
       |false=>rfl
       |true=>exact absurd (((Sm.okAt_iff d (j+1) (x,v) hx).1 hq).2 (y,u) j rfl hy) hxy)
      have hd:decide (x≤y)=true:=decide_eq_true (by omega)
      clear hat hl hx hv hy
      go_wp2_with fail
      refine qt ?_
      repeat (go_big_quiet_step (fail))
      refine qn fun nq osq=> ?_
      go_wp2_with fail
      go_ret
      exact ⟨rt HV.out.symm,aD⟩
  ·have HV:Hid (Sm.valid d=true):=Sm.valid_yes d fun i hi=>HO.out i (by omega)
   have hltz:¬(k:Int) < (len:Int):=by omega
   clear hat
   go_wp2_with fail
   go_ret
   exact ⟨rt HV.out.symm,aD⟩
end K12
namespace K12
theorem rput_any (a:Option Addr) {len:Nat} (cap:Nat) {m:List Cl} (x v:Int) {w:World} (h:Held w a len m) (hb24:len≤16777216):Calls Tryz.prog 56 #[.slice a len cap,.agg #[.int .u16 x,.int .u8 v]] w fun e w'=>∃r,e=.returned r∧Owns w' w.heap.size r (Sm.put m (x,v))∧Adds w w':=by
 obtain ⟨hl,hbig,hat⟩:=h
 have HL:Hid (m.length=len):=hl
 go_enter Tryz.func56,Tryz.ntmps56
 go_wp2
 go_loopw [5,6,11] (fun v5 v6 i wr=>∃(k:Nat) (s1:List Cl) (s2:Bool),k≤len∧i=.int .i64 k∧v6=.bool s2∧Hid (Sm.putS (x,v) (m.take k)=(s1,s2))∧Owns wr (w.heap.size+1) v5 s1∧Adds (w.alloc (.cells #[.int .u16 x,.int .u8 v] 97)) wr) (fun _ _ i _=>len - (intOf i).toNat)
 case atStart=>exact ⟨0,[],false,Nat.zero_le _,rfl,rfl,rfl,Owns.nil _ _,Adds.refl _⟩
 case round=>
  obtain ⟨k,s1,s2,hk,rfl,rfl,HS,hO,hA⟩:=hrel
  have hsz:=hA.size
  have hsz':w.heap.size < wr.heap.size:=by simp at hsz;omega
  have hL:s1.length≤k+1:=by
   have h1:=Sm.putS_len (x,v) (m.take k)
   rw [HS.out] at h1
   have h2:(m.take k).length≤k:=List.length_take_le _ _
   simp at h1 h2;omega
  have c0:wr.cell? ⟨w.heap.size,0,none⟩=some (.int .u16 x):=(hA.cell (by simp)).trans (by simp [go_sem])
  have c1:wr.cell? ⟨w.heap.size,1,none⟩=some (.int .u8 v):=(hA.cell (by simp)).trans (by simp [go_sem])
  by_cases hlt:k < len
  ·obtain ⟨b,o,rfl,hb,hat⟩:=hat (by omega)
   obtain ⟨yx,yv,hy⟩:=get_pair (d:=m) (k:=k) (by omega)
   obtain ⟨h1,h2⟩:=hat k yx yv hy
   have g1:wr.cell? ⟨b,o+k * 2,none⟩=some (.int .u16 yx):=(hA.cell (by simp;omega)).trans ((World.cell?_alloc_past _ b _ hb).trans h1)
   have g2:wr.cell? ⟨b,o+k * 2+1,none⟩=some (.int .u8 yv):=(hA.cell (by simp;omega)).trans ((World.cell?_alloc_past _ b _ hb).trans h2)
   have hbr:b < wr.heap.size:=by omega
   have hltz:(k:Int) < (len:Int):=by omega
   have HP:=Sm.putS_succ hy HS.out
   have HP2:Hid _:=HP
   clear hat hy hl h1 h2 HP hsz
   have hin1:w.heap.size≠wr.heap.size:=by omega
   by_cases heq:yx=x
   ·subst heq
    cases s2 with
    |true=>
     have HN:Hid (Sm.putS (yx,v) (m.take (k+1))=(s1,true)):=by show _=_;rw [HP2.out];simp [Sm.putStep]
     go_wp2_with fail
     go_roundw
     case rel=>exact ⟨k+1,s1,_,by omega,by go_num,rfl,HN,(hO.alloc _),(hA.alloc _)⟩
     case measure=>simp [intOf]<;>omega
    |false=>
     by_cases hv:v=0
     ·subst hv
      have HN:Hid (Sm.putS (yx,0) (m.take (k+1))=(s1,true)):=by show _=_;rw [HP2.out];simp [Sm.putStep]
      go_wp2_with fail
      go_roundw
      case rel=>exact ⟨k+1,s1,_,by omega,by go_num,rfl,HN,(hO.alloc _),(hA.alloc _)⟩
      case measure=>simp [intOf]<;>omega
     ·have hvb:(v !=0)=true:=by simpa using hv
      have HN:Hid (Sm.putS (yx,v) (m.take (k+1))=(s1++[(yx,v)],true)):=by show _=_;rw [HP2.out];simp [Sm.putStep,hv]
      clear hv
      go_wp2_with (at_builtin;refine wpList_app1 rfl (.tmp 27) (.tmp 29) rfl (w.heap.size+1) u5 s1 yx v _ _ rfl rfl (by simp) (hO.alloc _) (by have:=hL;omega) (by simp;omega) ?_;intro v1 w1 hO1 hg1 _;have hA1:Adds (w.alloc (.cells #[.int .u16 yx,.int .u8 v] 97)) w1:=(hA.alloc _).grown hg1 (by simpa using hO.alloc _);have hs1:wr.heap.size < w1.heap.size:=(by have:=hg1.size;simp at this;omega);have hn1:some wr.heap.size≠u5.ownBlock:=Owns.ne hO (Nat.le_refl _);have f0:w1.cell? ⟨wr.heap.size,0,none⟩=some (.int .u16 yx):=hg1.cell (by simp [go_sem]) hn1;have f1:w1.cell? ⟨wr.heap.size,1,none⟩=some (.int .u8 yv):=hg1.cell (by simp [go_sem]) hn1;have c0:w1.cell? ⟨w.heap.size,0,none⟩=some (.int .u16 yx):=(hA1.cell (by simp)).trans (by simp [go_sem]);clear hg1 hn1)
      go_roundw
      case rel=>exact ⟨k+1,(s1++[(yx,v)]),_,by omega,by go_num,rfl,HN,hO1,hA1⟩
      case measure=>simp [intOf]<;>omega
   ·have hnb:(yx !=x)=true:=by simpa using heq
    by_cases hxy:x≤yx
    ·have hd:decide (x≤yx)=true:=decide_eq_true hxy
     cases s2 with
     |true=>
      have HN:Hid (Sm.putS (x,v) (m.take (k+1))=(s1++[(yx,yv)],true)):=by show _=_;rw [HP2.out];simp [Sm.putStep,heq]
      clear heq hxy
      go_wp2_with (at_builtin;refine wpList_app1 rfl (.tmp 36) (.tmp 38) rfl (w.heap.size+1) u5 s1 yx yv _ _ rfl rfl (by simp) (hO.alloc _) (by have:=hL;omega) (by simp;omega) ?_;intro v2 w2 hO2 hg2 _;have hA2:Adds (w.alloc (.cells #[.int .u16 x,.int .u8 v] 97)) w2:=(hA.alloc _).grown hg2 (by simpa using hO.alloc _);clear hg2)
      go_roundw
      case rel=>exact ⟨k+1,s1++[(yx,yv)],_,by omega,by go_num,rfl,HN,hO2,hA2⟩
      case measure=>simp [intOf]<;>omega
     |false=>
      by_cases hv:v=0
      ·subst hv
       have HN:Hid (Sm.putS (x,0) (m.take (k+1))=(s1++[(yx,yv)],true)):=by show _=_;rw [HP2.out];simp [Sm.putStep,heq,hxy]
       clear heq hxy
       go_wp2_with (at_builtin;refine wpList_app1 rfl (.tmp 36) (.tmp 38) rfl (w.heap.size+1) u5 s1 yx yv _ _ rfl rfl (by simp) (hO.alloc _) (by have:=hL;omega) (by simp;omega) ?_;intro v2 w2 hO2 hg2 _;have hA2:Adds (w.alloc (.cells #[.int .u16 x,.int .u8 0] 97)) w2:=(hA.alloc _).grown hg2 (by simpa using hO.alloc _);clear hg2)
       go_roundw
       case rel=>exact ⟨k+1,s1++[(yx,yv)],_,by omega,by go_num,rfl,HN,hO2,hA2⟩
       case measure=>simp [intOf]<;>omega
      ·have hvb:(v !=0)=true:=by simpa using hv
       have HN:Hid (Sm.putS (x,v) (m.take (k+1))=(s1++[(x,v)]++[(yx,yv)],true)):=by show _=_;rw [HP2.out];simp [Sm.putStep,heq,hxy,hv]
       clear heq hxy hv
       go_wp2_with (first|(at_builtin;refine wpList_app1 rfl (.tmp 27) (.tmp 29) rfl (w.heap.size+1) u5 s1 x v _ _ rfl rfl (by simp) (hO.alloc _) (by have:=hL;omega) (by simp;omega) ?_;intro v1 w1 hO1 hg1 _;have hA1:Adds (w.alloc (.cells #[.int .u16 x,.int .u8 v] 97)) w1:=(hA.alloc _).grown hg1 (by simpa using hO.alloc _);have hs1:wr.heap.size < w1.heap.size:=(by have:=hg1.size;simp at this;omega);have hn1:some wr.heap.size≠u5.ownBlock:=Owns.ne hO (Nat.le_refl _);have f0:w1.cell? ⟨wr.heap.size,0,none⟩=some (.int .u16 yx):=hg1.cell (by simp [go_sem]) hn1;have f1:w1.cell? ⟨wr.heap.size,1,none⟩=some (.int .u8 yv):=hg1.cell (by simp [go_sem]) hn1;have c0:w1.cell? ⟨w.heap.size,0,none⟩=some (.int .u16 x):=(hA1.cell (by simp)).trans (by simp [go_sem]);clear hg1 hn1)|(at_builtin;refine wpList_app1 rfl (.tmp 36) (.tmp 38) rfl (w.heap.size+1) v1 (s1++[(x,v)]) yx yv _ _ rfl rfl (by simp) hO1 (by simp;omega) (by omega) ?_;intro v2 w2 hO2 hg2 _;have hA2:Adds (w.alloc (.cells #[.int .u16 x,.int .u8 v] 97)) w2:=hA1.grown hg2 (by simpa using hO1);clear hg2))
       go_roundw
       case rel=>exact ⟨k+1,(s1++[(x,v)])++[(yx,yv)],_,by omega,by go_num,rfl,HN,hO2,hA2⟩
       case measure=>simp [intOf]<;>omega
    ·have hd:decide (x≤yx)=false:=decide_eq_false hxy
     have HN:Hid (Sm.putS (x,v) (m.take (k+1))=(s1++[(yx,yv)],s2)):=by show _=_;rw [HP2.out];simp [Sm.putStep,heq,hxy]
     clear heq hxy
     cases s2 with
     |true=>
      go_wp2_with (at_builtin;refine wpList_app1 rfl (.tmp 36) (.tmp 38) rfl (w.heap.size+1) u5 s1 yx yv _ _ rfl rfl (by simp) (hO.alloc _) (by have:=hL;omega) (by simp;omega) ?_;intro v2 w2 hO2 hg2 _;have hA2:Adds (w.alloc (.cells #[.int .u16 x,.int .u8 v] 97)) w2:=(hA.alloc _).grown hg2 (by simpa using hO.alloc _);clear hg2)
      go_roundw
      case rel=>exact ⟨k+1,s1++[(yx,yv)],_,by omega,by go_num,rfl,HN,hO2,hA2⟩
      case measure=>simp [intOf]<;>omega
     |false=>
      go_wp2_with (at_builtin;refine wpList_app1 rfl (.tmp 36) (.tmp 38) rfl (w.heap.size+1) u5 s1 yx yv _ _ rfl rfl (by simp) (hO.alloc _) (by have:=hL;omega) (by simp;omega) ?_;intro v2 w2 hO2 hg2 _;have hA2:Adds (w.alloc (.cells #[.int .u16 x,.int .u8 v] 97)) w2:=(hA.alloc _).grown hg2 (by simpa using hO.alloc _);clear hg2)
      go_roundw
      case rel=>exact ⟨k+1,s1++[(yx,yv)],_,by omega,by go_num,rfl,HN,hO2,hA2⟩
      case measure=>simp [intOf]<;>omega
  ·have hkl:k=len:=by omega
   have hltz:¬(k:Int) < (len:Int):=by omega
   have HE:Hid (Sm.putS (x,v) m=(s1,s2)):=by
    show _=_
    rw [←HS.out,List.take_of_length_le (by have:=HL.out;omega)]
   clear hat hl hkl hsz
   cases s2 with
   |true=>
    have HN:Hid (Sm.put m (x,v)=s1):=by show _=_;unfold Sm.put;rw [HE.out];simp
    go_wp2_with fail
    go_ret
    exact ⟨_,rfl,by rw [HN.out];exact Owns.mono hO (by omega),(Adds.alloc (Adds.refl _) _).trans hA⟩
   |false=>
    by_cases hv:v=0
    ·subst hv
     have HN:Hid (Sm.put m (x,0)=s1):=by show _=_;unfold Sm.put;rw [HE.out];simp
     go_wp2_with fail
     go_ret
     exact ⟨_,rfl,by rw [HN.out];exact Owns.mono hO (by omega),(Adds.alloc (Adds.refl _) _).trans hA⟩
    ·have hvb:(v !=0)=true:=by simpa using hv
     have HN:Hid (Sm.put m (x,v)=s1++[(x,v)]):=by show _=_;unfold Sm.put;rw [HE.out];simp [hv]
     clear hv
     go_wp2_with (at_builtin;refine wpList_app1 rfl (.tmp 48) (.tmp 50) rfl (w.heap.size+1) u5 s1 x v _ _ rfl rfl (by simp) hO (by omega) (by omega) ?_;intro v1 w1 hO1 hg1 _;have hA1:Adds (w.alloc (.cells #[.int .u16 x,.int .u8 v] 97)) w1:=hA.grown hg1 (by simpa using hO);clear hg1)
     go_ret
     exact ⟨_,rfl,by rw [HN.out];exact Owns.mono hO1 (by omega),(Adds.alloc (Adds.refl _) _).trans hA1⟩
end K12
namespace K12
theorem rnrm_any (a:Option Addr) (len cap:Nat) (l:List Cl) (w:World) (h:Held w a len l) (hb24:len≤16777216):Calls Tryz.prog 31 #[.slice a len cap] w fun e w'=>∃r,e=.returned r∧Owns w' w.heap.size r (Sm.nrm l)∧Adds w w':=by
 have HL:Hid (l.length=len):=h.1
 cases hv:Sm.valid l with
 |true=>
  have HN:Hid (Sm.nrm l=l):=Sm.nrm_valid hv
  cases a with
  |none=>
   have h0:len=0:=by
    rcases Nat.eq_zero_or_pos len with h0|h0
    ·exact h0
    ·obtain ⟨b,o,e,_⟩:=h.2.2 h0;cases e
   subst h0
   have HE:Hid (l=[]):=List.eq_nil_of_length_eq_zero HL.out
   go_enter Tryz.func31,Tryz.ntmps31
   go_wp2_with (go_at_call 55;refine (rvalid_any _ _ _ _ _ h).mono ?_;rintro e w' ⟨rfl,hA⟩)
   go_ret
   exact ⟨_,rfl,by rw [HN.out,HE.out];exact Owns.nil _ _,hA⟩
  |some ad=>
   go_enter Tryz.func31,Tryz.ntmps31
   go_wp2_with (first
    |(go_at_call 55;refine (rvalid_any _ _ _ _ _ h).mono ?_;rintro e w1 ⟨rfl,hA⟩)
    |(at_builtin;refine wpList_appA rfl _ _ rfl w.heap.size (.slice none 0 0) [] rfl (Owns.nil _ _) ad len cap l rfl HL.out (h.adds hA).news (by simp;omega) hA.size ?_;intro v1 w2 hO1 hg1 _;have hA1:Adds w w2:=hA.grown hg1 (Owns.nil _ _);clear hg1))
   go_ret
   exact ⟨_,rfl,by rw [HN.out];simpa using hO1,hA1⟩
 |false=>
  have HN:Hid (Sm.nrm l=l.foldl Sm.put []):=by show _=_;unfold Sm.nrm;rw [hv];rfl
  have hR:=fun w' (k:Adds w w')=>rvalid_any a len cap l w' (h.adds k)
  rw [hv] at hR
  have HR:Hid _:=hR
  have hat:=h.2.2
  clear hR hv h
  go_enter Tryz.func31,Tryz.ntmps31
  go_wp2_with (go_at_call 55;refine (HR.out _ (Adds.refl _)).mono ?_;rintro e w1 ⟨rfl,hA0⟩)
  go_loopw [3,12] (fun v3 i wr=>∃(k:Nat),k≤len∧i=.int .i64 k∧Owns wr w.heap.size v3 ((l.take k).foldl Sm.put [])∧Adds w wr) (fun _ i _=>len - (intOf i).toNat)
  case atStart=>exact ⟨0,Nat.zero_le _,rfl,Owns.nil _ _,hA0⟩
  case round=>
   obtain ⟨k,hk,rfl,hO,hA⟩:=hrel
   obtain ⟨a1,cap1,rfl,hc1,hc2,_⟩:=hO.form
   have hsz:=hA.size
   by_cases hlt:k < len
   ·obtain ⟨b,o,rfl,hb,hat⟩:=hat (by omega)
    obtain ⟨yx,yv,hy⟩:=get_pair (d:=l) (k:=k) (by have:=HL.out;omega)
    obtain ⟨h1,h2⟩:=hat k yx yv hy
    have g1:wr.cell? ⟨b,o+k * 2,none⟩=some (.int .u16 yx):=(hA.cell hb).trans h1
    have g2:wr.cell? ⟨b,o+k * 2+1,none⟩=some (.int .u8 yv):=(hA.cell hb).trans h2
    have hbr:b < wr.heap.size:=by omega
    have hltz:(k:Int) < (len:Int):=by omega
    have HP:Hid _:=Sm.fold_put_succ hy
    have hlen:Hid (((l.take k).foldl Sm.put []).length≤16777216):=by
     have q:=Sm.fold_put_len (l.take k) []
     have q2:(l.take k).length≤k:=List.length_take_le _ _
     show _≤_
     simp only [List.length_nil] at q;omega
    clear hat hy h1 h2
    go_wp2_with (go_at_call 56;refine (rput_any a1 cap1 yx yv ((hO.alloc _).held (by have:=hlen.out;omega)) hlen.out).mono ?_;rintro e w2 ⟨r,rfl,hO2,hA2⟩)
    go_roundw
    case rel=>exact ⟨k+1,by omega,by go_num,by rw [HP.out];exact hO2.mono (by simp;omega),(hA.alloc _).trans hA2⟩
    case measure=>simp [intOf]<;>omega
   ·have hltz:¬(k:Int) < (len:Int):=by omega
    have HE:Hid (l.take k=l):=List.take_of_length_le (by have:=HL.out;omega)
    clear hat
    go_wp2_with fail
    go_ret
    have e2:l.foldl Sm.put []=(l.take k).foldl Sm.put []:=by rw [HE.out]
    exact ⟨_,rfl,by rw [HN.out,e2];exact hO,hA⟩
theorem rPut_any (a:Option Addr) (len cap:Nat) (l:List Cl) (x v:Int) (w:World) (h:Held w a len l) (hb24:len≤16777216):Calls Tryz.prog 112 #[.slice a len cap,.int .u16 x,.int .u8 v] w fun e w'=>∃r,e=.returned r∧Owns w' w.heap.size r (Sm.put (Sm.nrm l) (x,v))∧Adds w w':=by
 have hlen:Hid ((Sm.nrm l).length≤16777216):=by have:=Sm.nrm_len l;have:=h.1;show _≤_;omega
 go_enter Tryz.func112,Tryz.ntmps112
 go_wp2_with (first
  |(go_at_call 31;refine (rnrm_any _ _ _ _ _ h hb24).mono ?_;rintro e w1 ⟨r1,rfl,hO1,hA1⟩;obtain ⟨a1,cap1,rfl,_,_,_⟩:=hO1.form)
  |(go_at_call 56;refine (rput_any a1 cap1 x v (hO1.held (by have:=hlen.out;omega)) hlen.out).mono ?_;rintro e w2 ⟨r,rfl,hO2,hA2⟩))
 go_ret
 exact ⟨_,rfl,hO2.mono hA1.size,hA1.trans hA2⟩
end K12
namespace K12
variable {w:World}
theorem Owns.form2 {base:Nat} {v:Value} {d:List Cl} (h:Owns w base v d):
 ∃a n cap,v=.slice a n cap∧Hid (d.length=n)∧n≤cap∧cap≤9223372036854775807∧(0 < cap→∃g,a=some ⟨g,0,none⟩∧base≤g∧g < w.heap.size):=by
 obtain ⟨a,cap,h1,h2,h3,h4⟩:=h.form
 exact ⟨a,d.length,cap,h1,rfl,h2,h3,h4⟩
def HeldB (w:World) (a:Option Addr) (n:Nat) (b:List Int):Prop:=b.length=n∧(0 < n→∃g o,a=some ⟨g,o,none⟩∧g < w.heap.size∧∀j v,b[j]? =some v→w.cell? ⟨g,o+j,none⟩=some (.int .u8 v))
theorem HeldB.adds {w':World} {a:Option Addr} {n:Nat} {b:List Int} (h:HeldB w a n b) (k:Adds w w'):HeldB w' a n b:=
 ⟨h.1,fun hn=>by
   obtain ⟨g,o,ha,hb,hat⟩:=h.2 hn
   exact ⟨g,o,ha,by have:=k.size;omega,fun j v hv=>(k.cell hb).trans (hat j v hv)⟩⟩
theorem Sm.lod_len (x:Int) (b:List Int):(Sm.lod x b).length=b.length:=by simp [Sm.lod]
theorem Sm.lod_take (x:Int) (b:List Int) {k:Nat} {v:Int} (h:b[k]? =some v):(Sm.lod x b).take (k+1)=(Sm.lod x b).take k++[((x+(k:Int)) % 65536,v)]:=by
 have hk:k < b.length:=(List.getElem?_eq_some_iff.1 h).1
 refine (List.take_add_one ..).trans ?_
 rw [show (Sm.lod x b)[k]? =some ((x+(k:Int)) % 65536,v) from ?_]; ·rfl
 simp only [Sm.lod,List.getElem?_map,List.getElem?_range hk,Option.map_some]
 rw [List.getD_eq_getElem?_getD,h];rfl
theorem rload_any (a:Option Addr) (len cap:Nat) (b:List Int) (z:Int) (h:HeldB w a len b) (hb16:len≤65536) (z0:0≤z) (z1:z < 65536):
 Calls Tryz.prog 28 #[.int .u16 z,.slice a len cap] w fun e w'=>∃r,e=.returned r∧Owns w' w.heap.size r (Sm.nrm (Sm.lod z b))∧Adds w w':=by
 have HL:Hid (b.length=len):=h.1
 have hat:=h.2
 clear h
 go_enter Tryz.func28,Tryz.ntmps28
 go_wp2
 go_loopw [5,9] (fun v5 i wr=>∃k:Nat,k≤len∧i=.int .i64 k∧Owns wr w.heap.size v5 ((Sm.lod z b).take k)∧Adds w wr) (fun _ i _=>len - (intOf i).toNat)
 case atStart=>exact ⟨0,Nat.zero_le _,rfl,Owns.nil _ _,Adds.refl _⟩
 case round=>
  obtain ⟨k,hk,rfl,hO,hA⟩:=hrel
  have hsz:=hA.size
  by_cases hlt:k < len
  ·obtain ⟨g,o,rfl,hg,hat⟩:=hat (by omega)
   obtain ⟨v,hv⟩:∃v,b[k]? =some v:=⟨b[k]'(by have:=HL.out;omega),List.getElem?_eq_getElem (by have:=HL.out;omega)⟩
   have g1:wr.cell? ⟨g,o+k,none⟩=some (.int .u8 v):=(hA.cell hg).trans (hat k v hv)
   have HT:Hid _:=Lib.hid (Sm.lod_take z b hv)
   have hol:((Sm.lod z b).take k).length≤k:=List.length_take_le _ _
   have HOL:Hid _:=Lib.hid hol
   have hltz:(k:Int) < (len:Int):=by omega
   have hgr:g < wr.heap.size:=by omega
   have hw0:IntKind.u16.wrap (k:Int)=(k:Int):=by simp [IntKind.wrap,IntKind.bits,IntKind.signed];omega
   clear hat hv hol
   go_wp2_with (at_builtin;refine wpList_app1 rfl _ _ rfl w.heap.size u5 ((Sm.lod z b).take k) ((z+(k:Int)) % 65536) v _ _ rfl rfl (by simp) hO (by have:=HOL.out;omega) (by omega) ?_;intro v1 w2 hO2 hg2 _;have hA2:Adds w w2:=hA.grown hg2 hO;clear hg2)
   go_roundw
   case rel=>exact ⟨k+1,by omega,by go_num,by rw [HT.out];exact hO2,hA2⟩
   case measure=>simp [intOf]<;>omega
  ·have hltz:¬(k:Int) < (len:Int):=by omega
   have e2:(Sm.lod z b).take k=Sm.lod z b:=List.take_of_length_le (by rw [Sm.lod_len];have:=HL.out;omega)
   rw [e2] at hO
   obtain ⟨a1,n1,cap1,rfl,hn1,hc1,hc2,_⟩:=hO.form2
   have hn2:n1≤65536:=by have q1:=hn1.out;rw [Sm.lod_len] at q1;have:=HL.out;omega
   have HH:Hid _:=Lib.hid (hO.held (by rw [Sm.lod_len];have:=HL.out;omega))
   clear e2 hat
   go_wp2_with (go_at_call 31;refine (rnrm_any _ _ _ _ _ HH.out (by omega)).mono ?_;rintro e w2 ⟨r,rfl,hO2,hA2⟩)
   go_ret
   exact ⟨_,rfl,hO2.mono hsz,hA.trans hA2⟩
end K12
section
variable {w:World}
theorem q2C18 {P:Prop} (h:P:=by
 go_enter Tryz.func132,Tryz.ntmps132
 go_wp2_with fail
 go_ret
 exact ⟨rfl,aD⟩):P:=h
theorem rst_byte (n:Int):Calls Tryz.prog 132 #[.int .i64 n] w fun e w'=>e=.returned (.int .u8 (S.stB n))∧Adds w w':=by
 by_cases h1:n=1
 ·subst h1
  exact q2C18
 by_cases h2:n=2
 ·subst h2
  exact q2C18
 by_cases h3:n=3
 ·subst h3
  exact q2C18
 by_cases h4:n=4
 ·subst h4
  exact q2C18
 by_cases h5:n=5
 ·subst h5
  exact q2C18
 by_cases h6:n=6
 ·subst h6
  exact q2C18
 by_cases h7:n=7
 ·subst h7
  exact q2C18
 by_cases h8:n=8
 ·subst h8
  exact q2C18
 by_cases h9:n=9
 ·subst h9
  exact q2C18
 by_cases h10:n=10
 ·subst h10
  exact q2C18
 by_cases h11:n=11
 ·subst h11
  exact q2C18
 by_cases h12:n=12
 ·subst h12
  exact q2C18
 ·rw [S.stB_no n h1 h2 h3 h4 h5 h6 h7 h8 h9 h10 h11 h12]
  go_enter Tryz.func132,Tryz.ntmps132
  go_wp2_with fail
  go_ret
  exact ⟨by simp [*],aD⟩
theorem q3C18 {P:Prop} (h:P:=by
 go_enter Tryz.func71,Tryz.ntmps71
 go_wp2_with fail
 go_ret
 exact ⟨rfl,aD⟩):P:=h
theorem rst_reads (n:Int) (w:World):Calls Tryz.prog 71 #[.int .i64 n] w fun e w'=>e=.returned (.bool (S.stR n))∧Adds w w':=by
 by_cases h1:n=1
 ·subst h1
  exact q3C18
 by_cases h2:n=2
 ·subst h2
  exact q3C18
 by_cases h3:n=3
 ·subst h3
  exact q3C18
 by_cases h4:n=4
 ·subst h4
  exact q3C18
 by_cases h5:n=5
 ·subst h5
  exact q3C18
 by_cases h6:n=6
 ·subst h6
  exact q3C18
 by_cases h7:n=7
 ·subst h7
  exact q3C18
 by_cases h8:n=8
 ·subst h8
  exact q3C18
 by_cases h9:n=9
 ·subst h9
  exact q3C18
 by_cases h10:n=10
 ·subst h10
  exact q3C18
 by_cases h11:n=11
 ·subst h11
  exact q3C18
 by_cases h12:n=12
 ·subst h12
  exact q3C18
 ·rw [S.stR_no n h1 h2 h3 h4 h5 h6 h7 h8 h9 h10 h11 h12]
  go_enter Tryz.func71,Tryz.ntmps71
  go_wp2_with fail
  go_ret
  exact ⟨by simp [*],aD⟩
theorem q4C18 {P:Prop} (h:P:=by
 go_enter Tryz.func67,Tryz.ntmps67
 go_wp2_with fail
 go_ret
 exact ⟨rfl,aD⟩):P:=h
theorem rst_writes (n:Int) (w:World):Calls Tryz.prog 67 #[.int .i64 n] w fun e w'=>e=.returned (.bool (S.stW n))∧Adds w w':=by
 by_cases h1:n=1
 ·subst h1
  exact q4C18
 by_cases h2:n=2
 ·subst h2
  exact q4C18
 by_cases h3:n=3
 ·subst h3
  exact q4C18
 by_cases h4:n=4
 ·subst h4
  exact q4C18
 by_cases h5:n=5
 ·subst h5
  exact q4C18
 by_cases h6:n=6
 ·subst h6
  exact q4C18
 by_cases h7:n=7
 ·subst h7
  exact q4C18
 by_cases h8:n=8
 ·subst h8
  exact q4C18
 by_cases h9:n=9
 ·subst h9
  exact q4C18
 by_cases h10:n=10
 ·subst h10
  exact q4C18
 by_cases h11:n=11
 ·subst h11
  exact q4C18
 by_cases h12:n=12
 ·subst h12
  exact q4C18
 ·rw [S.stW_no n h1 h2 h3 h4 h5 h6 h7 h8 h9 h10 h11 h12]
  go_enter Tryz.func67,Tryz.ntmps67
  go_wp2_with fail
  go_ret
  exact ⟨by simp [*],aD⟩
theorem q1C18 {P:Prop} (h:P:=by
 go_enter Tryz.func131,Tryz.ntmps131
 go_wp2_with fail
 exact bodyPost_ret (by simp [results,Tryz.results131,go_sem];exact ⟨rfl,rfl,rfl⟩) rfl ⟨rfl,aD⟩):P:=h
theorem rst_lines (n:Int):Calls Tryz.prog 131 #[.int .i64 n] w fun e w'=>e=.returned (.tuple #[.bool (S.stM n),.bool (S.st1 n),.bool (S.st0 n)])∧Adds w w':=by
 by_cases h1:n=1
 ·subst h1
  exact q1C18
 by_cases h2:n=2
 ·subst h2
  exact q1C18
 by_cases h3:n=3
 ·subst h3
  exact q1C18
 by_cases h4:n=4
 ·subst h4
  exact q1C18
 by_cases h5:n=5
 ·subst h5
  exact q1C18
 by_cases h6:n=6
 ·subst h6
  exact q1C18
 by_cases h7:n=7
 ·subst h7
  exact q1C18
 by_cases h8:n=8
 ·subst h8
  exact q1C18
 by_cases h9:n=9
 ·subst h9
  exact q1C18
 by_cases h10:n=10
 ·subst h10
  exact q1C18
 by_cases h11:n=11
 ·subst h11
  exact q1C18
 by_cases h12:n=12
 ·subst h12
  exact q1C18
 ·rw [S.stM_no n h1 h2 h3 h4 h5 h6 h7 h8 h9 h10 h11 h12,S.st1_no n h1 h2 h3 h4 h5 h6 h7 h8 h9 h10 h11 h12,S.st0_no n h1 h2 h3 h4 h5 h6 h7 h8 h9 h10 h11 h12]
  go_enter Tryz.func131,Tryz.ntmps131
  go_wp2_with fail
  exact bodyPost_ret (by simp [results,Tryz.results131,go_sem]) rfl ⟨rfl,aD⟩
end
namespace K8
def S.cnd (n:Int) (s z k p v c:Bool):Bool:=
 if n=0 then !z else if n=1 then z else if n=2 then !c else if n=3 then c else if n=4 then !p else if n=5 then p else
 if n=6 then !s else if n=7 then s else if n=8 then !k else if n=9 then k else if n=10 then v else decide (n=11)
def S.neg (n:Int):Bool:=decide (n=0)||decide (n=2)||decide (n=4)||decide (n=6)||decide (n=8)
theorem S.cnd_no (n:Int) (s z k p v c:Bool) (h0:¬n=0) (h1:¬n=1) (h2:¬n=2) (h3:¬n=3) (h4:¬n=4) (h5:¬n=5) (h6:¬n=6) (h7:¬n=7) (h8:¬n=8) (h9:¬n=9) (h10:¬n=10) (h11:¬n=11):S.cnd n s z k p v c=false:=by
 simp [S.cnd, *]
end K8
namespace K8
theorem q1C10 {P:Prop} (h:P:=by
 go_enter Tryz.func184,Tryz.ntmps184
 go_wp2_with fail
 go_ret
 exact ⟨rfl,aD⟩):P:=h
theorem rholds_0 (s z k ac p v c:Bool) (w:World):Calls Tryz.prog 184 #[.int .i64 0,.agg #[.bool s,.bool z,.bool k,.bool ac,.bool p,.bool v,.bool c]] w fun e w'=>e=.returned (.bool (S.cnd 0 s z k p v c))∧Adds w w':=by
 exact q1C10
theorem rholds_1 (s z k ac p v c:Bool) (w:World):Calls Tryz.prog 184 #[.int .i64 1,.agg #[.bool s,.bool z,.bool k,.bool ac,.bool p,.bool v,.bool c]] w fun e w'=>e=.returned (.bool (S.cnd 1 s z k p v c))∧Adds w w':=by
 exact q1C10
theorem rholds_2 (s z k ac p v c:Bool) (w:World):Calls Tryz.prog 184 #[.int .i64 2,.agg #[.bool s,.bool z,.bool k,.bool ac,.bool p,.bool v,.bool c]] w fun e w'=>e=.returned (.bool (S.cnd 2 s z k p v c))∧Adds w w':=by
 exact q1C10
theorem rholds_3 (s z k ac p v c:Bool) (w:World):Calls Tryz.prog 184 #[.int .i64 3,.agg #[.bool s,.bool z,.bool k,.bool ac,.bool p,.bool v,.bool c]] w fun e w'=>e=.returned (.bool (S.cnd 3 s z k p v c))∧Adds w w':=by
 exact q1C10
theorem rholds_4 (s z k ac p v c:Bool) (w:World):Calls Tryz.prog 184 #[.int .i64 4,.agg #[.bool s,.bool z,.bool k,.bool ac,.bool p,.bool v,.bool c]] w fun e w'=>e=.returned (.bool (S.cnd 4 s z k p v c))∧Adds w w':=by
 exact q1C10
theorem rholds_5 (s z k ac p v c:Bool) (w:World):Calls Tryz.prog 184 #[.int .i64 5,.agg #[.bool s,.bool z,.bool k,.bool ac,.bool p,.bool v,.bool c]] w fun e w'=>e=.returned (.bool (S.cnd 5 s z k p v c))∧Adds w w':=by
 exact q1C10
theorem rholds_6 (s z k ac p v c:Bool) (w:World):Calls Tryz.prog 184 #[.int .i64 6,.agg #[.bool s,.bool z,.bool k,.bool ac,.bool p,.bool v,.bool c]] w fun e w'=>e=.returned (.bool (S.cnd 6 s z k p v c))∧Adds w w':=by
 exact q1C10
theorem rholds_7 (s z k ac p v c:Bool) (w:World):Calls Tryz.prog 184 #[.int .i64 7,.agg #[.bool s,.bool z,.bool k,.bool ac,.bool p,.bool v,.bool c]] w fun e w'=>e=.returned (.bool (S.cnd 7 s z k p v c))∧Adds w w':=by
 exact q1C10
theorem rholds_8 (s z k ac p v c:Bool) (w:World):Calls Tryz.prog 184 #[.int .i64 8,.agg #[.bool s,.bool z,.bool k,.bool ac,.bool p,.bool v,.bool c]] w fun e w'=>e=.returned (.bool (S.cnd 8 s z k p v c))∧Adds w w':=by
 exact q1C10
theorem rholds_9 (s z k ac p v c:Bool) (w:World):Calls Tryz.prog 184 #[.int .i64 9,.agg #[.bool s,.bool z,.bool k,.bool ac,.bool p,.bool v,.bool c]] w fun e w'=>e=.returned (.bool (S.cnd 9 s z k p v c))∧Adds w w':=by
 exact q1C10
theorem rholds_10 (s z k ac p v c:Bool) (w:World):Calls Tryz.prog 184 #[.int .i64 10,.agg #[.bool s,.bool z,.bool k,.bool ac,.bool p,.bool v,.bool c]] w fun e w'=>e=.returned (.bool (S.cnd 10 s z k p v c))∧Adds w w':=by
 exact q1C10
theorem rholds_11 (s z k ac p v c:Bool) (w:World):Calls Tryz.prog 184 #[.int .i64 11,.agg #[.bool s,.bool z,.bool k,.bool ac,.bool p,.bool v,.bool c]] w fun e w'=>e=.returned (.bool (S.cnd 11 s z k p v c))∧Adds w w':=by
 exact q1C10
theorem rholds_any {n:Int} {s z k ac p v c:Bool} {w:World}:Calls Tryz.prog 184 #[.int .i64 n,.agg #[.bool s,.bool z,.bool k,.bool ac,.bool p,.bool v,.bool c]] w fun e w'=>e=.returned (.bool (S.cnd n s z k p v c))∧Adds w w':=by
 by_cases h0:n=0
 ·subst h0;exact rholds_0 s z k ac p v c w
 by_cases h1:n=1
 ·subst h1;exact rholds_1 s z k ac p v c w
 by_cases h2:n=2
 ·subst h2;exact rholds_2 s z k ac p v c w
 by_cases h3:n=3
 ·subst h3;exact rholds_3 s z k ac p v c w
 by_cases h4:n=4
 ·subst h4;exact rholds_4 s z k ac p v c w
 by_cases h5:n=5
 ·subst h5;exact rholds_5 s z k ac p v c w
 by_cases h6:n=6
 ·subst h6;exact rholds_6 s z k ac p v c w
 by_cases h7:n=7
 ·subst h7;exact rholds_7 s z k ac p v c w
 by_cases h8:n=8
 ·subst h8;exact rholds_8 s z k ac p v c w
 by_cases h9:n=9
 ·subst h9;exact rholds_9 s z k ac p v c w
 by_cases h10:n=10
 ·subst h10;exact rholds_10 s z k ac p v c w
 by_cases h11:n=11
 ·subst h11;exact rholds_11 s z k ac p v c w
 ·rw [S.cnd_no n s z k p v c h0 h1 h2 h3 h4 h5 h6 h7 h8 h9 h10 h11]
  go_enter Tryz.func184,Tryz.ntmps184
  go_wp2_with fail
  go_ret
  exact ⟨rb (beq_false_of_ne h11),aD⟩
end K8
section
structure S.Ins where
 k:Int
 l:Int
 d:Int:=0
 s:Int:=0
 p:Int:=0
 o:Int:=0
 c:Int:=0
 n:Int:=0
instance:Inhabited S.Ins:=⟨⟨0,0,0,0,0,0,0,0⟩⟩
def S.Ins.cs (i:S.Ins):Array Value:=#[.int .i64 i.k,.int .i64 i.l,.int .i64 i.d,.int .i64 i.s,.int .i64 i.p,.int .i64 i.o,.int .i64 i.c,.int .i64 i.n]
structure S.Ins.Ok (i:S.Ins):Prop where
 k:0≤i.k∧i.k≤47
 l:1≤i.l∧i.l≤3
 d:0≤i.d∧i.d≤7
 s:0≤i.s∧i.s≤7
 p:0≤i.p∧i.p≤3
 o:0≤i.o∧i.o≤7
 c:0≤i.c∧i.c≤11
 n:0≤i.n∧i.n≤7
def S.spI (op:Int):S.Ins:=
 if op=8 then {k:=40,l:=1} else if op=16 then {k:=41,l:=1} else if op=24 then {k:=42,l:=1} else if op=32 then {k:=38,l:=1} else
 if op=40 then {k:=43,l:=2} else if op=48 then {k:=39,l:=1} else if op=56 then {k:=44,l:=2} else if op=203 then {k:=45,l:=1,c:=10} else
 if op=217 then {k:=46,l:=1} else if op=221 then {k:=24,l:=3,c:=8} else if op=237 then {k:=47,l:=1} else if op=253 then {k:=24,l:=3,c:=9} else {k:=0,l:=0}
def S.spB (op:Int):Bool:=decide (op=8∨op=16∨op=24∨op=32∨op=40∨op=48∨op=56∨op=203∨op=217∨op=221∨op=237∨op=253)
def S.of8 (y a b c d e f g h:Int):Int:=if y=0 then a else if y=1 then b else if y=2 then c else if y=3 then d else if y=4 then e else if y=5 then f else if y=6 then g else h
def S.low (y z:Int):S.Ins:=
 if z=0 then {k:=1,l:=1} else
 if z=1 then {k:=S.of8 y 4 18 4 18 4 18 4 18,l:=S.of8 y 3 1 3 1 3 1 3 1,p:=y / 2} else
 if z=2 then {k:=S.of8 y 10 9 10 9 8 7 6 5,l:=S.of8 y 1 1 1 1 3 3 3 3,p:=S.of8 y 0 0 1 1 0 0 0 0} else
 if z=3 then {k:=S.of8 y 16 17 16 17 16 17 16 17,l:=1,p:=y / 2} else
 if z=4 then {k:=14,l:=1,d:=y} else
 if z=5 then {k:=15,l:=1,d:=y} else
 if z=6 then {k:=3,l:=2,d:=y} else {k:=S.of8 y 23 23 23 23 19 20 21 22,l:=1,o:=S.of8 y 0 1 2 3 0 0 0 0}
def S.high (y z:Int):S.Ins:=
 if z=0 then {k:=26,l:=1,c:=y} else
 if z=1 then {k:=S.of8 y 31 26 31 26 31 28 31 29,l:=1,p:=S.of8 y 0 0 1 0 2 0 3 0,c:=S.of8 y 0 11 0 11 0 0 0 0} else
 if z=2 then {k:=24,l:=3,c:=y} else
 if z=3 then {k:=S.of8 y 24 24 34 33 32 11 36 35,l:=S.of8 y 3 3 2 2 1 1 1 1,c:=S.of8 y 11 11 0 0 0 0 0 0} else
 if z=4 then {k:=25,l:=3,c:=y} else
 if z=5 then {k:=S.of8 y 30 25 30 25 30 25 30 25,l:=S.of8 y 1 3 1 3 1 3 1 3,p:=S.of8 y 0 0 1 0 2 0 3 0,c:=S.of8 y 0 11 0 11 0 11 0 11} else
 if z=6 then {k:=13,l:=2,o:=y} else {k:=27,l:=1,n:=y}
def S.ins (ch op:Int):S.Ins:=
 if ch=2∧S.spB op=true then S.spI op else
 if op < 64 then S.low (op / 8 % 8) (op % 8) else if op=118 then {k:=37,l:=1} else
 if op < 128 then {k:=2,l:=1,d:=op / 8 % 8,s:=op % 8} else if op < 192 then {k:=12,l:=1,o:=op / 8 % 8,s:=op % 8} else S.high (op / 8 % 8) (op % 8)
theorem S.ins_sp (ch op:Int) (hc:(ch==2)=true) (hb:S.spB op=true):S.ins ch op=S.spI op:=by
 unfold S.ins;rw [if_pos ⟨by simpa using hc,hb⟩]
theorem S.ins_no (ch op:Int) (h:(S.spB op && ch==2)=false):¬(ch=2∧S.spB op=true):=by
 rintro ⟨h1,h2⟩
 simp [h1,h2] at h
theorem S.ins_low (ch op:Int) (h:(S.spB op && ch==2)=false) (h0:(op / 64==0)=true):S.ins ch op=S.low (op / 8 % 8) (op % 8):=by
 have g:op / 64=0:=by simpa using h0
 unfold S.ins;rw [if_neg (S.ins_no ch op h),if_pos (by omega)]
theorem S.ins_hlt (ch op:Int) (h:(S.spB op && ch==2)=false) (h2:(op==118)=true):S.ins ch op={k:=37,l:=1}:=by
 have g:op=118:=by simpa using h2
 unfold S.ins;rw [if_neg (S.ins_no ch op h),if_neg (by omega),if_pos g]
theorem S.ins_mov (ch op:Int) (h:(S.spB op && ch==2)=false) (h1:(op / 64==1)=true) (h2:(op==118)=false):S.ins ch op={k:=2,l:=1,d:=op / 8 % 8,s:=op % 8}:=by
 have g:op / 64=1:=by simpa using h1
 have g2:¬op=118:=by simpa using h2
 unfold S.ins;rw [if_neg (S.ins_no ch op h),if_neg (by omega),if_neg g2,if_pos (by omega)]
theorem S.ins_alu (ch op:Int) (h:(S.spB op && ch==2)=false) (h1:(op / 64==2)=true):S.ins ch op={k:=12,l:=1,o:=op / 8 % 8,s:=op % 8}:=by
 have g:op / 64=2:=by simpa using h1
 unfold S.ins;rw [if_neg (S.ins_no ch op h),if_neg (by omega),if_neg (by omega),if_neg (by omega),if_pos (by omega)]
theorem S.ins_high (ch op:Int) (o0:0≤op) (o1:op≤255) (h:(S.spB op && ch==2)=false) (h0:(op / 64==0)=false) (h1:(op / 64==1)=false) (h2:(op / 64==2)=false):S.ins ch op=S.high (op / 8 % 8) (op % 8):=by
 have g0:¬op / 64=0:=by simpa using h0
 have g1:¬op / 64=1:=by simpa using h1
 have g2:¬op / 64=2:=by simpa using h2
 unfold S.ins;rw [if_neg (S.ins_no ch op h),if_neg (by omega),if_neg (by omega),if_neg (by omega),if_neg (by omega)]
def S.sho (k d s:Int):Bool:=if (k==2)=true then (if (d !=6)=true then s !=6 else false) else if (k==14)=true then d !=6 else if (k==15)=true then d !=6 else false
def S.lon (k c:Int):Bool:=if (k==16)=true then true else if (k==17)=true then true else if (k==28)=true then true else if (k==29)=true then true else if (k==25)=true then true else if (k==27)=true then true else if (k==30)=true then true else if (k==45)=true then true else if (k==26)=true then c !=11 else false
def S.fst (on:Bool) (k d s c:Int):Int:=if on=true then (if S.lon k c=true then 6 else if (k==37)=true then 5 else 4) else if S.lon k c=true then 5 else if S.sho k d s=true then 5 else 4
def S.first (ch op:Int):Int:=S.fst (ch==2) (S.ins ch op).k (S.ins ch op).d (S.ins ch op).s (S.ins ch op).c
theorem S.first_in (ch op:Int):4≤S.first ch op∧S.first ch op≤6:=by
 unfold S.first S.fst
 repeat' split
 all_goals omega
end
namespace K8.S
open Go.Proofs.YteggjjhjmhccjaaGreatDoor.S
variable {c:Int}
def has (b n:Int):Bool:=decide (b / 2 ^ n.toNat % 2=1)
def pl (f:Bool) (n:Int):Int:=if f then 2 ^ n.toNat else 0
def pk (s z ac p cy:Bool):Int:=128 * one s+64 * one z+16 * one ac+4 * one p+one cy
def pack (c:Int) (s z k ac p v cy:Bool):Int:=pk s z ac p cy+(if c=2 then 32 * one k+2 * one v else 2)
def uk (c b:Int):Bool:=decide (c=2) && has b 5
def uv (c b:Int):Bool:=decide (c=2) && has b 1
theorem uk85 (hc:c=2) (b:Int):uk c b=has b 5:=by simp [uk,hc]
theorem uv85 (hc:c=2) (b:Int):uv c b=has b 1:=by simp [uv,hc]
theorem uk80 (hc:¬c=2) (b:Int):uk c b=false:=by simp [uk,hc]
theorem uv80 (hc:¬c=2) (b:Int):uv c b=false:=by simp [uv,hc]
theorem pk_or:∀s z ac p cy:Bool,bits .or .u8 (bits .or .u8 (bits .or .u8 (bits .or .u8 (pl s 7) (pl z 6)) (pl ac 4)) (pl p 2)) (pl cy 0)=pk s z ac p cy:=by decide+kernel
theorem pack_or:∀s z k ac p v cy:Bool,bits .or .u8 (bits .or .u8 (pk s z ac p cy) (pl k 5)) (pl v 1)=pk s z ac p cy+(32 * one k+2 * one v):=by decide+kernel
theorem pack_or2:∀s z ac p cy:Bool,bits .or .u8 (pk s z ac p cy) 2=pk s z ac p cy+2:=by decide+kernel
theorem pack_85 (hc:c=2) (s z k ac p v cy:Bool):pack c s z k ac p v cy=pk s z ac p cy+(32 * one k+2 * one v):=by simp [pack,hc]
theorem pack_80 (hc:¬c=2) (s z k ac p v cy:Bool):pack c s z k ac p v cy=pk s z ac p cy+2:=by simp [pack,hc]
theorem pack_bd85:∀s z k ac p v cy:Bool,0≤pack 2 s z k ac p v cy∧pack 2 s z k ac p v cy < 256:=by decide+kernel
theorem pack_bd80:∀s z k ac p v cy:Bool,0≤pack 1 s z k ac p v cy∧pack 1 s z k ac p v cy < 256:=by decide+kernel
theorem pack_bd (c:Int) (s z k ac p v cy:Bool):0≤pack c s z k ac p v cy∧pack c s z k ac p v cy < 256:=by
 by_cases hc:c=2
 ·subst hc;exact pack_bd85 ..
 ·have:pack c s z k ac p v cy=pack 1 s z k ac p v cy:=by simp [pack,hc]
  rw [this];exact pack_bd80 ..
theorem mask_fin:∀n:Fin 256,(bits .and .u8 (n.val:Int) 128 !=0)=has (n.val:Int) 7∧(bits .and .u8 (n.val:Int) 64 !=0)=has (n.val:Int) 6∧(bits .and .u8 (n.val:Int) 32 !=0)=has (n.val:Int) 5∧(bits .and .u8 (n.val:Int) 16 !=0)=has (n.val:Int) 4∧(bits .and .u8 (n.val:Int) 4 !=0)=has (n.val:Int) 2∧(bits .and .u8 (n.val:Int) 2 !=0)=has (n.val:Int) 1∧(bits .and .u8 (n.val:Int) 1 !=0)=has (n.val:Int) 0:=by decide+kernel
theorem mask (a:Int) (a0:0≤a) (a1:a < 256):(bits .and .u8 a 128 !=0)=has a 7∧(bits .and .u8 a 64 !=0)=has a 6∧(bits .and .u8 a 32 !=0)=has a 5∧(bits .and .u8 a 16 !=0)=has a 4∧(bits .and .u8 a 4 !=0)=has a 2∧(bits .and .u8 a 2 !=0)=has a 1∧(bits .and .u8 a 1 !=0)=has a 0:=by
 have h:=mask_fin ⟨a.toNat,by omega⟩
 simpa [Int.toNat_of_nonneg a0] using h
theorem has7 (a:Int) (a0:0≤a) (a1:a < 256):has a 7=decide (128≤a):=by
 unfold has
 exact dec_iff (by simp;omega)
end K8.S
namespace K8
variable {c:Int} {w:World}
theorem rbit_any (f:Bool) (n:Int) (n0:0≤n) (n1:n < 8) (w:World):Calls Tryz.prog 192 #[.bool f,.int .i64 n] w fun e w'=>e=.returned (.int .u8 (S.pl f n))∧w=w':=by
 rcases (by omega:n=0∨n=1∨n=2∨n=3∨n=4∨n=5∨n=6∨n=7) with rfl|rfl|rfl|rfl|rfl|rfl|rfl|rfl
 all_goals
  cases f
  all_goals
   go_enter Tryz.func192,Tryz.ntmps192
   go_wp2
   go_ret
   exact ⟨rfl,rfl⟩
theorem ron_any:Calls Tryz.prog 114 #[.int .i64 c] w fun e w'=>e=.returned (.bool (decide (c=2)))∧w=w':=by
 go_enter Tryz.func114,Tryz.ntmps114
 go_wp2
 go_ret
 exact ⟨rfl,rfl⟩
theorem rpack_any {s z k ac p v cy:Bool}:Calls Tryz.prog 185 #[.int .i64 c,.agg #[.bool s,.bool z,.bool k,.bool ac,.bool p,.bool v,.bool cy]] w fun e w'=>e=.returned (.int .u8 (S.pack c s z k ac p v cy))∧Adds w w':=by
 have e5:=S.pk_or s z ac p cy
 by_cases hc:c=2
 ·have e7:=S.pack_or s z k ac p v cy
  have ep':=S.pack_85 hc s z k ac p v cy
  subst hc
  have ep:Hid _:=ep'
  clear ep'
  go_enter Tryz.func185,Tryz.ntmps185
  go_wp2_with fail
  refine qt ?_
  repeat (go_big_quiet_step (first|(go_at_call 192;exact calls_same (rbit_any _ _ (by decide) (by decide) _))))
  refine qn fun nq osq=> ?_
  go_wp2_with (first|(go_at_call 114;refine sm (ron_any) ?_))
  refine qt ?_
  repeat (go_big_quiet_step (first|(go_at_call 192;exact calls_same (rbit_any _ _ (by decide) (by decide) _))))
  refine qn fun nq osq=> ?_
  go_wp2_with fail
  go_ret
  exact ⟨ri ep.out.symm,aD⟩
 ·have e7:=S.pack_or2 s z ac p cy
  have ep':=S.pack_80 hc s z k ac p v cy
  have ep:Hid _:=ep'
  clear ep'
  go_enter Tryz.func185,Tryz.ntmps185
  go_wp2_with fail
  refine qt ?_
  repeat (go_big_quiet_step (first|(go_at_call 192;exact calls_same (rbit_any _ _ (by decide) (by decide) _))))
  refine qn fun nq osq=> ?_
  go_wp2_with (first|(go_at_call 114;refine sm (ron_any) ?_))
  go_ret
  exact ⟨ri ep.out.symm,aD⟩
theorem runpack_any {b:Int} (b0:0≤b) (b1:b < 256):Calls Tryz.prog 186 #[.int .i64 c,.int .u8 b] w fun e w'=>e=.returned (.agg #[.bool (S.has b 7),.bool (S.has b 6),.bool (S.uk c b),.bool (S.has b 4),.bool (S.has b 2),.bool (S.uv c b),.bool (S.has b 0)])∧Adds w w':=by
 have hm:=S.mask b b0 b1
 obtain ⟨m7,m6,m5,m4,m2,m1,m0⟩:=hm
 by_cases hc:c=2
 ·have u1:=S.uk85 hc b
  have u2:=S.uv85 hc b
  subst hc
  go_enter Tryz.func186,Tryz.ntmps186
  go_wp2_with (first|(go_at_call 114;refine sm (ron_any) ?_))
  exact bodyPost_ret (by simp [results,Tryz.results186,go_sem];try simp [u1,u2]) rfl ⟨rfl,aD⟩
 ·have u1:=S.uk80 hc b
  have u2:=S.uv80 hc b
  go_enter Tryz.func186,Tryz.ntmps186
  go_wp2_with (first|(go_at_call 114;refine sm (ron_any) ?_))
  exact bodyPost_ret (by simp [results,Tryz.results186,go_sem];try simp [u1,u2]) rfl ⟨rfl,aD⟩
theorem rof_any {r:Int} (r0:0≤r) (r1:r < 256):Calls Tryz.prog 189 #[.int .u8 r] w fun e w'=>e=.returned (.agg #[.bool (S.has r 7),.bool (r==0),.bool false,.bool false,.bool (S.par r),.bool false,.bool false])∧Adds w w':=by
 have h7:=S.has7 r r0 r1
 go_enter Tryz.func189,Tryz.ntmps189
 go_wp2_with (first|(go_at_call 193;refine sm (rparity_any r0 r1) ?_))
 exact bodyPost_ret (by simp [results,Tryz.results189,go_sem];try simp [h7]) rfl ⟨rfl,aD⟩
@[go_sem] theorem eq_Flags (a0 a1 a2 a3 a4 a5 a6 b0 b1 b2 b3 b4 b5 b6:Bool) (w:World):(Op.equalIn 10000 52 (.agg #[.bool a0,.bool a1,.bool a2,.bool a3,.bool a4,.bool a5,.bool a6]) (.agg #[.bool b0,.bool b1,.bool b2,.bool b3,.bool b4,.bool b5,.bool b6])).run Tryz.prog w=
 .ok (same [.bool a0,.bool a1,.bool a2,.bool a3,.bool a4,.bool a5,.bool a6] [.bool b0,.bool b1,.bool b2,.bool b3,.bool b4,.bool b5,.bool b6]) w:=
 eq_agg 4 [.bool,.bool,.bool,.bool,.bool,.bool,.bool] _ Tryz.underlying52 (by kernel_rfl) (by decide) _ _ w trivial trivial
end K8
namespace K8.S
open Go.Proofs.YteggjjhjmhccjaaGreatDoor.S
def aR (op a b:Int) (cy:Bool):Int:=
 if op % 8=0 then sumR a b false else if op % 8=1 then sumR a b cy else if op % 8=2 then difR a b false else if op % 8=3 then difR a b cy
 else if op % 8=4 then bits .and .u8 a b else if op % 8=5 then bits .xor .u8 a b else if op % 8=6 then bits .or .u8 a b else difR a b false
def aO (op a b:Int) (cy:Bool):Bool:=
 if op % 8=0 then sumO a b false else if op % 8=1 then sumO a b cy else if op % 8=2 then difO a b false else if op % 8=3 then difO a b cy
 else if op % 8=4 then false else if op % 8=5 then false else if op % 8=6 then false else difO a b false
def aH (c op a b:Int) (cy:Bool):Bool:=
 if op % 8=0 then sumH a b false else if op % 8=1 then sumH a b cy else if op % 8=2 then difH a b false else if op % 8=3 then difH a b cy
 else if op % 8=4 then (decide (c=2)||(bits .and .u8 (bits .or .u8 a b) 8 !=0)) else if op % 8=5 then false else if op % 8=6 then false else difH a b false
def aW (op a b:Int) (cy:Bool):Bool:=
 if op % 8=0 then sumV a b false else if op % 8=1 then sumV a b cy else if op % 8=2 then difV a b false else if op % 8=3 then difV a b cy
 else if op % 8=4 then false else if op % 8=5 then false else if op % 8=6 then false else difV a b false
def sub (op:Int):Bool:=decide (op % 8=2)||decide (op % 8=3)||decide (op % 8=7)
def big (a:Int):Bool:=decide (128≤a)
def aV (c op a b:Int) (cy:Bool):Bool:=decide (c=2) && aW op a b cy
def aK (c op a b:Int) (cy:Bool):Bool:=decide (c=2) && maj (big a) (big b !=sub op) (big (aR op a b cy))
def aX (op a b:Int) (cy:Bool):Int:=if op % 8=7 then a else aR op a b cy
theorem and7 (n:Int):bits .and .i64 n 7=n % 8:=by
 have h7:(BitVec.ofInt 64 7).toNat=2 ^ 3 - 1:=by decide
 have key:(BitVec.ofInt 64 n &&& BitVec.ofInt 64 7).toNat=(n % ((2 ^ 64:Nat):Int)).toNat % 2 ^ 3:=by
  rw [BitVec.toNat_and,BitVec.toNat_ofInt,h7,Nat.and_two_pow_sub_one_eq_mod]
 show IntKind.i64.wrap ((BitVec.ofInt 64 n &&& BitVec.ofInt 64 7).toNat:Nat)=n % 8
 rw [key,IntKind.wrap_i64]
 omega
theorem u8_bd {n:Int}:0≤IntKind.u8.wrap n∧IntKind.u8.wrap n < 256:=by simp [IntKind.wrap,IntKind.bits,IntKind.signed];omega
theorem and_bd (a b:Int):0≤bits .and .u8 a b∧bits .and .u8 a b < 256:=u8_bd
theorem or_bd (a b:Int):0≤bits .or .u8 a b∧bits .or .u8 a b < 256:=u8_bd
theorem xor_bd (a b:Int):0≤bits .xor .u8 a b∧bits .xor .u8 a b < 256:=u8_bd
section
variable {op:Int}
theorem al0 (h:op % 8=0) (c a b:Int) (cy:Bool):aR op a b cy=sumR a b false∧aO op a b cy=sumO a b false∧aH c op a b cy=sumH a b false∧aW op a b cy=sumV a b false∧sub op=false∧aX op a b cy=sumR a b false:=by simp [aR,aO,aH,aW,sub,aX,h]
theorem al1 (h:op % 8=1) (c a b:Int) (cy:Bool):aR op a b cy=sumR a b cy∧aO op a b cy=sumO a b cy∧aH c op a b cy=sumH a b cy∧aW op a b cy=sumV a b cy∧sub op=false∧aX op a b cy=sumR a b cy:=by simp [aR,aO,aH,aW,sub,aX,h]
theorem al2 (h:op % 8=2) (c a b:Int) (cy:Bool):aR op a b cy=difR a b false∧aO op a b cy=difO a b false∧aH c op a b cy=difH a b false∧aW op a b cy=difV a b false∧sub op=true∧aX op a b cy=difR a b false:=by simp [aR,aO,aH,aW,sub,aX,h]
theorem al3 (h:op % 8=3) (c a b:Int) (cy:Bool):aR op a b cy=difR a b cy∧aO op a b cy=difO a b cy∧aH c op a b cy=difH a b cy∧aW op a b cy=difV a b cy∧sub op=true∧aX op a b cy=difR a b cy:=by simp [aR,aO,aH,aW,sub,aX,h]
theorem al4 (h:op % 8=4) (c a b:Int) (cy:Bool):aR op a b cy=bits .and .u8 a b∧aO op a b cy=false∧aH c op a b cy=(decide (c=2)||(bits .and .u8 (bits .or .u8 a b) 8 !=0))∧aW op a b cy=false∧sub op=false∧aX op a b cy=bits .and .u8 a b:=by simp [aR,aO,aH,aW,sub,aX,h]
theorem al5 (h:op % 8=5) (c a b:Int) (cy:Bool):aR op a b cy=bits .xor .u8 a b∧aO op a b cy=false∧aH c op a b cy=false∧aW op a b cy=false∧sub op=false∧aX op a b cy=bits .xor .u8 a b:=by simp [aR,aO,aH,aW,sub,aX,h]
theorem al6 (h:op % 8=6) (c a b:Int) (cy:Bool):aR op a b cy=bits .or .u8 a b∧aO op a b cy=false∧aH c op a b cy=false∧aW op a b cy=false∧sub op=false∧aX op a b cy=bits .or .u8 a b:=by simp [aR,aO,aH,aW,sub,aX,h]
theorem al7 (h:op % 8=7) (c a b:Int) (cy:Bool):aR op a b cy=difR a b false∧aO op a b cy=difO a b false∧aH c op a b cy=difH a b false∧aW op a b cy=difV a b false∧sub op=true∧aX op a b cy=a:=by simp [aR,aO,aH,aW,sub,aX,h]
end
theorem aR_bd {op a b:Int} {cy:Bool}:0≤aR op a b cy∧aR op a b cy < 256:=by
 rcases (by omega:op % 8=0∨op % 8=1∨op % 8=2∨op % 8=3∨op % 8=4∨op % 8=5∨op % 8=6∨op % 8=7) with h|h|h|h|h|h|h|h
 ·rw [(al0 h 0 a b cy).1];exact sumR_bd ..
 ·rw [(al1 h 0 a b cy).1];exact sumR_bd ..
 ·rw [(al2 h 0 a b cy).1];exact difR_bd ..
 ·rw [(al3 h 0 a b cy).1];exact difR_bd ..
 ·rw [(al4 h 0 a b cy).1];exact and_bd ..
 ·rw [(al5 h 0 a b cy).1];exact xor_bd ..
 ·rw [(al6 h 0 a b cy).1];exact or_bd ..
 ·rw [(al7 h 0 a b cy).1];exact difR_bd ..
theorem aK85 (op a b:Int) (cy:Bool):aK 2 op a b cy=maj (big a) (big b !=sub op) (big (aR op a b cy)):=by simp [aK]
theorem aK80 {c:Int} (hc:¬c=2) (op a b:Int) (cy:Bool):aK c op a b cy=false:=by simp [aK,hc]
theorem aV85 (op a b:Int) (cy:Bool):aV 2 op a b cy=aW op a b cy:=by simp [aV]
theorem aV80 {c:Int} (hc:¬c=2) (op a b:Int) (cy:Bool):aV c op a b cy=false:=by simp [aV,hc]
end K8.S
namespace K8
variable {ac cy k p s v x y z:Bool} {w:World}
theorem ronly85:Calls Tryz.prog 190 #[.int .i64 2,.agg #[.bool s,.bool z,.bool k,.bool ac,.bool p,.bool v,.bool cy],.bool x,.bool y] w fun e w'=>e=.returned (.agg #[.bool s,.bool z,.bool x,.bool ac,.bool p,.bool y,.bool cy])∧Adds w w':=by
 go_enter Tryz.func190,Tryz.ntmps190
 go_wp2_with (first|(go_at_call 114;refine sm (ron_any) ?_))
 exact bodyPost_ret (by simp [results,Tryz.results190,go_sem]) rfl ⟨rfl,aD⟩
theorem ronly80 {c:Int} (hc:¬c=2):Calls Tryz.prog 190 #[.int .i64 c,.agg #[.bool s,.bool z,.bool k,.bool ac,.bool p,.bool v,.bool cy],.bool x,.bool y] w fun e w'=>e=.returned (.agg #[.bool s,.bool z,.bool false,.bool ac,.bool p,.bool false,.bool cy])∧Adds w w':=by
 go_enter Tryz.func190,Tryz.ntmps190
 go_wp2_with (first|(go_at_call 114;refine sm (ron_any) ?_))
 exact bodyPost_ret (by simp [results,Tryz.results190,go_sem]) rfl ⟨rfl,aD⟩
end K8
namespace K8.S
open Go.Proofs.YteggjjhjmhccjaaGreatDoor.S
variable {c v:Int}
def nK (c v:Int) (d:Bool) (r:Int):Bool:=decide (c=2) && maj (big v) d (big r)
def nV (c:Int) (o:Bool):Bool:=decide (c=2) && o
theorem nK85 (v:Int) (d:Bool) (r:Int):nK 2 v d r=maj (big v) d (big r):=by simp [nK]
theorem nK80 (hc:¬c=2) (v:Int) (d:Bool) (r:Int):nK c v d r=false:=by simp [nK,hc]
theorem nV85 (o:Bool):nV 2 o=o:=by simp [nV]
theorem nV80 (hc:¬c=2) (o:Bool):nV c o=false:=by simp [nV,hc]
def inc (v:Int):Int:=(v+1) % 65536
def dec (v:Int):Int:=(v - 1) % 65536
def wK (c:Int) (x k:Bool):Bool:=if c=2 then x else k
theorem wK85 (x k:Bool):wK 2 x k=x:=by simp [wK]
theorem wK80 (hc:¬c=2) (x k:Bool):wK c x k=k:=by simp [wK,hc]
theorem u16_wrap {n:Int}:IntKind.u16.wrap n=n % 65536:=by simp [IntKind.wrap,IntKind.bits,IntKind.signed]
theorem inc_wrap (v:Int):IntKind.u16.wrap (v+1)=inc v:=u16_wrap
theorem dec_wrap (v:Int):IntKind.u16.wrap (v - 1)=dec v:=u16_wrap
theorem inc_bd:0≤inc v∧inc v < 65536:=by unfold inc;omega
theorem dec_bd:0≤dec v∧dec v < 65536:=by unfold dec;omega
end K8.S
namespace K8.S
open Go.Proofs.YteggjjhjmhccjaaGreatDoor.S
variable {a op:Int} {c:Bool}
def b7 (a:Int):Bool:=decide (128≤a)
def b0 (a:Int):Bool:=decide (a % 2=1)
def b15 (v:Int):Bool:=decide (32768≤v)
def up (a:Int) (c:Bool):Int:=(2 * a+one c) % 256
def dn (a:Int) (c:Bool):Int:=(a / 2+128 * one c) % 256
def rotR (op a:Int) (c:Bool):Int:=if op % 4=0 then up a (b7 a) else if op % 4=1 then dn a (b0 a) else if op % 4=2 then up a c else dn a c
def rotO (op a:Int):Bool:=if op % 4=0 then b7 a else if op % 4=1 then b0 a else if op % 4=2 then b7 a else b0 a
theorem ro0 (h:op % 4=0) (a:Int) (c:Bool):rotR op a c=up a (b7 a)∧rotO op a=b7 a:=by simp [rotR,rotO,h]
theorem ro1 (h:op % 4=1) (a:Int) (c:Bool):rotR op a c=dn a (b0 a)∧rotO op a=b0 a:=by simp [rotR,rotO,h]
theorem ro2 (h:op % 4=2) (a:Int) (c:Bool):rotR op a c=up a c∧rotO op a=b7 a:=by simp [rotR,rotO,h]
theorem ro3 (h:op % 4=3) (a:Int) (c:Bool):rotR op a c=dn a c∧rotO op a=b0 a:=by simp [rotR,rotO,h]
def arR (v:Int):Int:=v / 2+32768 * one (b15 v)
def rdR (v:Int) (c:Bool):Int:=(2 * v+one c) % 65536
def rdV (v:Int):Bool:=b15 (rdR v false) !=b15 v
theorem and3 (n:Int):bits .and .i64 n 3=n % 4:=by
 have h3:(BitVec.ofInt 64 3).toNat=2 ^ 2 - 1:=by decide
 have key:(BitVec.ofInt 64 n &&& BitVec.ofInt 64 3).toNat=(n % ((2 ^ 64:Nat):Int)).toNat % 2 ^ 2:=by
  rw [BitVec.toNat_and,BitVec.toNat_ofInt,h3,Nat.and_two_pow_sub_one_eq_mod]
 show IntKind.i64.wrap ((BitVec.ofInt 64 n &&& BitVec.ofInt 64 3).toNat:Nat)=n % 4
 rw [key,IntKind.wrap_i64]
 omega
theorem up_bd:0≤up a c∧up a c < 256:=by unfold up;omega
theorem dn_bd:0≤dn a c∧dn a c < 256:=by unfold dn;omega
theorem rdR_bd (v:Int) (c:Bool):0≤rdR v c∧rdR v c < 65536:=by unfold rdR;omega
theorem arR_bd {v:Int} (v0:0≤v) (v1:v < 65536):0≤arR v∧arR v < 65536:=by
 unfold arR b15 one;split<;>(rename_i h;simp at h;omega)
theorem rotR_bd:0≤rotR op a c∧rotR op a c < 256:=by
 unfold rotR;(repeat' split)<;>first|exact up_bd|exact dn_bd
theorem bit7_fin:∀n:Fin 256,(bits .and .u8 (n.val:Int) 128 !=0)=b7 n.val∧(bits .and .u8 (n.val:Int) 1 !=0)=b0 n.val∧(bits .and .u8 (n.val:Int) 1==1)=b0 n.val:=by decide+kernel
theorem bit7_eq (a:Int) (a0:0≤a) (a1:a < 256):(bits .and .u8 a 128 !=0)=b7 a∧(bits .and .u8 a 1 !=0)=b0 a∧(bits .and .u8 a 1==1)=b0 a:=by
 have h:=bit7_fin ⟨a.toNat,by omega⟩
 simpa [Int.toNat_of_nonneg a0] using h
theorem ups_fin:∀n:Fin 256,bits .or .u8 (((n.val:Int) * 2 % 256)) 1=up n.val true∧bits .or .u8 ((n.val:Int) / 2) 128=dn n.val true∧
 (n.val:Int) * 2 % 256=up n.val false∧(n.val:Int) / 2=dn n.val false∧
 bits .or .u8 (((n.val:Int) * 2 % 256)) ((n.val:Int) / 128)=up n.val (b7 n.val)∧bits .or .u8 ((n.val:Int) / 2) (((n.val:Int) * 128 % 256))=dn n.val (b0 n.val)∧
 ∀c:Bool,bits .or .u8 (((n.val:Int) * 2 % 256)) (pl c 0)=up n.val c∧bits .or .u8 ((n.val:Int) / 2) (pl c 7)=dn n.val c:=by decide+kernel
theorem ups (a:Int) (a0:0≤a) (a1:a < 256):bits .or .u8 (a * 2 % 256) 1=up a true∧bits .or .u8 (a / 2) 128=dn a true∧
 a * 2 % 256=up a false∧a / 2=dn a false∧
 bits .or .u8 (a * 2 % 256) (a / 128)=up a (b7 a)∧bits .or .u8 (a / 2) (a * 128 % 256)=dn a (b0 a)∧
 ∀c:Bool,bits .or .u8 (a * 2 % 256) (pl c 0)=up a c∧bits .or .u8 (a / 2) (pl c 7)=dn a c:=by
 have h:=ups_fin ⟨a.toNat,by omega⟩
 simp only [Int.toNat_of_nonneg a0] at h
 exact h
theorem w_hi (v:Int) (v0:0≤v) (v1:v < 65536):bits .and .u16 v 32768=32768 * one (b15 v):=by
 rw [u16_and v 32768 v0 v1 (by decide) (by decide)]
 have e:v.toNat &&& (32768:Int).toNat=v.toNat / 2 ^ 15 % 2 * 2 ^ 15:=nat_bit 15 v.toNat
 rw [e];unfold b15 one
 split<;>(rename_i h;simp at h;omega)
theorem w_low (v:Int) (v0:0≤v) (v1:v < 65536):(bits .and .u16 v 1 !=0)=b0 v∧(bits .and .u16 v 1==1)=b0 v:=by
 rw [u16_and v 1 v0 v1 (by decide) (by decide)]
 have e:v.toNat &&& (1:Int).toNat=v.toNat % 2:=nat_mask1 v.toNat
 rw [e];unfold b0
 rcases (by omega:v % 2=0∨v % 2=1) with h|h
 ·rw [(by omega:((v.toNat % 2:Nat):Int)=0),h];decide
 ·rw [(by omega:((v.toNat % 2:Nat):Int)=1),h];decide
theorem w_ar (v:Int) (v0:0≤v) (v1:v < 65536):bits .or .u16 (v / 2) (bits .and .u16 v 32768)=arR v:=by
 rw [w_hi v v0 v1];unfold arR
 have hb:=one_bd (b15 v)
 rw [u16_or _ _ (by omega) (by omega) (by omega) (by omega)]
 cases h:b15 v
 ·simp [one];omega
 ·have e:(32768 * one true:Int).toNat=2 ^ 15 * 1:=by decide
  rw [e,Nat.or_comm,←Nat.two_pow_add_eq_or_of_lt (by omega)]
  have e2:one true=1:=rfl
  rw [e2];omega
theorem w_up (v:Int) (v0:0≤v) (v1:v < 65536) (c:Bool):bits .or .u16 (IntKind.u16.wrap (v * 2)) (one c)=rdR v c:=by
 have hw:IntKind.u16.wrap (v * 2)=(v * 2) % 65536:=by simp [IntKind.wrap,IntKind.bits,IntKind.signed]
 rw [hw]
 rw [u16_or _ _ (by omega) (by omega) (one_bd c).1 (by have:=one_bd c;omega)]
 have e:((v * 2) % 65536).toNat=2 ^ 1 * (v % 32768).toNat:=by omega
 rw [e,←Nat.two_pow_add_eq_or_of_lt (by have:=one_bd c;omega)]
 unfold rdR
 have:=one_bd c
 omega
theorem b15_rd (v:Int) (c:Bool):b15 (rdR v c)=b15 (rdR v false):=by
 unfold b15 rdR;cases c<;>simp [one];omega
theorem w_rdr (v:Int) (c:Bool) (v0:0≤v) (v1:v < 65536):(bits .and .u16 (rdR v c) 32768 !=bits .and .u16 v 32768)=rdV v:=by
 rw [w_hi v v0 v1,w_hi _ (rdR_bd v c).1 (rdR_bd v c).2,b15_rd]
 unfold rdV
 cases b15 (rdR v false)<;>cases b15 v<;>rfl
def rlcI (a:Int):Nat→Int
 |0=>a
 |k+1=>up (rlcI a k) (b7 (rlcI a k))
def rlcO (a:Int) (c:Bool):Nat→Bool
 |0=>c
 |k+1=>b7 (rlcI a k)
mutual
def ralI (a:Int) (c:Bool):Nat→Int
 |0=>a
 |k+1=>up (ralI a c k) (ralO a c k)
def ralO (a:Int) (c:Bool):Nat→Bool
 |0=>c
 |k+1=>b7 (ralI a c k)
end
def rd17 (n:Int) (k:Nat):Int:=n % 2 ^ (17 - k) * 2 ^ k+n / 2 ^ (17 - k)
def rdI (v:Int) (c:Bool) (k:Nat):Int:=rd17 (v+65536 * one c) k % 65536
def rdO (v:Int) (c:Bool) (k:Nat):Bool:=decide (65536≤rd17 (v+65536 * one c) k)
def sg16 (v:Int):Int:=if v < 32768 then v else v - 65536
theorem sg16_wrap (v:Int) (h0:0≤v) (h1:v < 65536):wrap64 (IntKind.i16.wrap v)=sg16 v:=by
 unfold sg16
 split<;>simp [wrap64,IntKind.wrap,IntKind.bits,IntKind.signed]<;>omega
theorem sg16_bd (v:Int) (h0:0≤v) (h1:v < 65536): -32768≤sg16 v∧sg16 v < 32768:=by unfold sg16;split<;>omega
end K8.S
namespace K8
variable {a b:Int} {c d:Bool}
@[go_sem] theorem store_fn (P:Program) (w:World) (a:Addr) (f:Fn) (x y:Array Value) (m:Mode):Sem.run P (store a (.func f x y) m) w=stored P w a (.func f x y) m:=run_store P w a _ m rfl
theorem rt2 {k:IntKind} (h:a=b) (g:c=d):Ending.returned (.tuple #[.int k a,.bool c])=.returned (.tuple #[.int k b,.bool d]):=by rw [h,g]
theorem rt3 {k:IntKind} {e f:Bool} (h:a=b) (g:c=d) (i:e=f):Ending.returned (.tuple #[.int k a,.bool c,.bool e])=.returned (.tuple #[.int k b,.bool d,.bool f]):=by rw [h,g,i]
theorem rbyte_0 (op a:Int) (c:Bool) (h4:op % 4=0) (a0:0≤a) (a1:a < 256) (w:World):Calls Tryz.prog 175 #[.int .i64 op,.int .u8 a,.bool c] w fun e w'=>e=.returned (.tuple #[.int .u8 (S.rotR op a c),.bool (S.rotO op a)])∧w=w':=by
 have h3:=S.and3 op
 rw [h4] at h3
 obtain ⟨e1,e2⟩:=S.ro0 h4 a c
 rw [e1,e2]
 clear e1 e2 h4
 obtain ⟨g1,g2,g3',g4,g5,g6,g7⟩:=S.ups a a0 a1
 have g3:Hid _:=(S.bit7_eq a a0 a1).2.2
 have h5:Hid _:=g5
 have h6:Hid _:=g6
 have h7:Hid _:=(g7 c).1
 have h8:Hid _:=(g7 c).2
 clear g1 g2 g3' g4 g5 g6 g7
 go_enter Tryz.func175,Tryz.ntmps175
 go_wp2_with (first|(go_at_call 192;refine sm (rbit_any _ _ (by decide) (by decide) _) ?_))
 have f5:=h5.out
 have f6:=h6.out
 have f7:=h7.out
 have f8:=h8.out
 exact bodyPost_ret (v:=.tuple #[.int .u8 (bits .or .u8 (a * 2 % 256) (a / 128)),.bool (decide (128≤a))]) (by simp [results,Tryz.results175,go_sem]) rfl ⟨rt2 f5 rfl,rfl⟩
theorem rbyte_1 (op a:Int) (c:Bool) (h4:op % 4=1) (a0:0≤a) (a1:a < 256) (w:World):Calls Tryz.prog 175 #[.int .i64 op,.int .u8 a,.bool c] w fun e w'=>e=.returned (.tuple #[.int .u8 (S.rotR op a c),.bool (S.rotO op a)])∧w=w':=by
 have h3:=S.and3 op
 rw [h4] at h3
 obtain ⟨e1,e2⟩:=S.ro1 h4 a c
 rw [e1,e2]
 clear e1 e2 h4
 obtain ⟨g1,g2,g3',g4,g5,g6,g7⟩:=S.ups a a0 a1
 have g3:Hid _:=(S.bit7_eq a a0 a1).2.2
 have h5:Hid _:=g5
 have h6:Hid _:=g6
 have h7:Hid _:=(g7 c).1
 have h8:Hid _:=(g7 c).2
 clear g1 g2 g3' g4 g5 g6 g7
 go_enter Tryz.func175,Tryz.ntmps175
 go_wp2_with (first|(go_at_call 192;refine sm (rbit_any _ _ (by decide) (by decide) _) ?_))
 have f5:=h5.out
 have f6:=h6.out
 have f7:=h7.out
 have f8:=h8.out
 exact bodyPost_ret (v:=.tuple #[.int .u8 (bits .or .u8 (a / 2) (a * 128 % 256)),.bool (bits .and .u8 a 1==1)]) (by simp [results,Tryz.results175,go_sem]) rfl ⟨rt2 f6 g3.out,rfl⟩
theorem rbyte_2 (op a:Int) (c:Bool) (h4:op % 4=2) (a0:0≤a) (a1:a < 256) (w:World):Calls Tryz.prog 175 #[.int .i64 op,.int .u8 a,.bool c] w fun e w'=>e=.returned (.tuple #[.int .u8 (S.rotR op a c),.bool (S.rotO op a)])∧w=w':=by
 have h3:=S.and3 op
 rw [h4] at h3
 obtain ⟨e1,e2⟩:=S.ro2 h4 a c
 rw [e1,e2]
 clear e1 e2 h4
 obtain ⟨g1,g2,g3',g4,g5,g6,g7⟩:=S.ups a a0 a1
 have g3:Hid _:=(S.bit7_eq a a0 a1).2.2
 have h5:Hid _:=g5
 have h6:Hid _:=g6
 have h7:Hid _:=(g7 c).1
 have h8:Hid _:=(g7 c).2
 clear g1 g2 g3' g4 g5 g6 g7
 go_enter Tryz.func175,Tryz.ntmps175
 go_wp2_with (first|(go_at_call 192;refine sm (rbit_any _ _ (by decide) (by decide) _) ?_))
 have f5:=h5.out
 have f6:=h6.out
 have f7:=h7.out
 have f8:=h8.out
 exact bodyPost_ret (v:=.tuple #[.int .u8 (bits .or .u8 (a * 2 % 256) (S.pl c 0)),.bool (decide (128≤a))]) (by simp [results,Tryz.results175,go_sem]) rfl ⟨rt2 f7 rfl,rfl⟩
theorem rbyte_3 (op a:Int) (c:Bool) (h4:op % 4=3) (a0:0≤a) (a1:a < 256) (w:World):Calls Tryz.prog 175 #[.int .i64 op,.int .u8 a,.bool c] w fun e w'=>e=.returned (.tuple #[.int .u8 (S.rotR op a c),.bool (S.rotO op a)])∧w=w':=by
 have h3:=S.and3 op
 rw [h4] at h3
 obtain ⟨e1,e2⟩:=S.ro3 h4 a c
 rw [e1,e2]
 clear e1 e2 h4
 obtain ⟨g1,g2,g3',g4,g5,g6,g7⟩:=S.ups a a0 a1
 have g3:Hid _:=(S.bit7_eq a a0 a1).2.2
 have h5:Hid _:=g5
 have h6:Hid _:=g6
 have h7:Hid _:=(g7 c).1
 have h8:Hid _:=(g7 c).2
 clear g1 g2 g3' g4 g5 g6 g7
 go_enter Tryz.func175,Tryz.ntmps175
 go_wp2_with (first|(go_at_call 192;refine sm (rbit_any _ _ (by decide) (by decide) _) ?_))
 have f5:=h5.out
 have f6:=h6.out
 have f7:=h7.out
 have f8:=h8.out
 exact bodyPost_ret (v:=.tuple #[.int .u8 (bits .or .u8 (a / 2) (S.pl c 7)),.bool (bits .and .u8 a 1==1)]) (by simp [results,Tryz.results175,go_sem]) rfl ⟨rt2 f8 g3.out,rfl⟩
theorem rbyte_any (op a:Int) (c:Bool) (a0:0≤a) (a1:a < 256) (w:World):Calls Tryz.prog 175 #[.int .i64 op,.int .u8 a,.bool c] w fun e w'=>e=.returned (.tuple #[.int .u8 (S.rotR op a c),.bool (S.rotO op a)])∧w=w':=by
 rcases (by omega:op % 4=0∨op % 4=1∨op % 4=2∨op % 4=3) with h|h|h|h
 ·exact rbyte_0 op a c h a0 a1 w
 ·exact rbyte_1 op a c h a0 a1 w
 ·exact rbyte_2 op a c h a0 a1 w
 ·exact rbyte_3 op a c h a0 a1 w
theorem rarhl_any (v:Int) (v0:0≤v) (v1:v < 65536) (w:World):Calls Tryz.prog 177 #[.int .u16 v] w fun e w'=>e=.returned (.tuple #[.int .u16 (S.arR v),.bool (S.b0 v)])∧w=w':=by
 have e1:Hid _:=S.w_ar v v0 v1
 have e2:Hid _:=(S.w_low v v0 v1).2
 go_enter Tryz.func177,Tryz.ntmps177
 go_wp2
 exact bodyPost_ret (v:=.tuple #[.int .u16 (bits .or .u16 (v / 2) (bits .and .u16 v 32768)),.bool (bits .and .u16 v 1==1)]) (by simp [results,Tryz.results177,go_sem]) rfl ⟨rt2 e1.out e2.out,rfl⟩
theorem rrdel_any (v:Int) (c:Bool) (v0:0≤v) (v1:v < 65536) (w:World):Calls Tryz.prog 178 #[.int .u16 v,.bool c] w fun e w'=>e=.returned (.tuple #[.int .u16 (S.rdR v c),.bool (S.b15 v),.bool (S.rdV v)])∧w=w':=by
 have hp:S.pl c 0=S.one c:=by cases c<;>rfl
 have e1:=S.w_up v v0 v1 c
 have e3:Hid _:=S.w_rdr v c v0 v1
 have hc:=S.one_bd c
 go_enter Tryz.func178,Tryz.ntmps178
 go_wp2_with (first|(go_at_call 192;refine sm (rbit_any _ _ (by decide) (by decide) _) ?_))
 exact bodyPost_ret (v:=.tuple #[.int .u16 (S.rdR v c),.bool (decide (32768≤v)),.bool (bits .and .u16 (S.rdR v c) 32768 !=bits .and .u16 v 32768)]) (by simp [results,Tryz.results178,go_sem]) rfl ⟨rt3 rfl rfl e3.out,rfl⟩
end K8
namespace K8.S
open Go.Proofs.YteggjjhjmhccjaaGreatDoor.S
variable {a:Int}
def ovf16 (s:Int):Bool:=decide (s < -32768)||decide (32767 < s)
def wsR (a b:Int):Int:=(a+b) % 65536
def wsO (a b:Int):Bool:=decide (65535 < a+b)
def wsV (c a b:Int) (v:Bool):Bool:=if c=2 then ovf16 (sg16 a+sg16 b) else v
theorem wsV85 (a b:Int) (v:Bool):wsV 2 a b v=ovf16 (sg16 a+sg16 b):=by simp [wsV]
theorem wsV80 {c:Int} (hc:¬c=2) (a b:Int) (v:Bool):wsV c a b v=v:=by simp [wsV,hc]
theorem ws_wrap (a b:Int):IntKind.u16.wrap (a+b)=wsR a b:=by simp [wsR,IntKind.wrap,IntKind.bits,IntKind.signed]
theorem wsR_bd (a b:Int):0≤wsR a b∧wsR a b < 65536:=by unfold wsR;omega
def wdB (a b:Int):Bool:=difO (a % 256) (b % 256) false
def wdL (a b:Int):Int:=difR (a % 256) (b % 256) false
def wdT (a b:Int):Int:=difR (a / 256) (b / 256) (wdB a b)
def wdH (a b:Int):Bool:=difH (a / 256) (b / 256) (wdB a b)
def wdV (a b:Int):Bool:=difV (a / 256) (b / 256) (wdB a b)
def wdC (a b:Int):Bool:=difO (a / 256) (b / 256) (wdB a b)
def wdR (a b:Int):Int:=joi (wdT a b) (wdL a b)
def wdK (a b:Int):Bool:=maj (b15 a) (!b15 b) (b15 (wdR a b))
theorem wdL_bd (a b:Int):0≤wdL a b∧wdL a b < 256:=difR_bd _ _ _
theorem wdT_bd (a b:Int):0≤wdT a b∧wdT a b < 256:=difR_bd _ _ _
theorem wdR_bd {b:Int}:0≤wdR a b∧wdR a b < 65536:=joi_bd (wdT_bd a b).1 (wdT_bd a b).2 (wdL_bd a b).1 (wdL_bd a b).2
theorem wdR_join (a b:Int):wdR a b=256 * wdT a b+wdL a b:=joi_eq _ _ (wdT_bd a b).1 (wdT_bd a b).2 (wdL_bd a b).1 (wdL_bd a b).2
theorem wdZ2 (a b:Int):(wdT a b==0 && wdL a b==0)=(wdR a b==0):=by
 have h1:(wdR a b==0)=decide (wdR a b=0):=rfl
 have h2:(wdT a b==0)=decide (wdT a b=0):=rfl
 have h3:(wdL a b==0)=decide (wdL a b=0):=rfl
 have h4:=wdT_bd a b
 have h5:=wdL_bd a b
 rw [h1,h2,h3,wdR_join,←Bool.decide_and]
 exact dec_iff (by omega)
theorem wdS2 (a b:Int):decide (128≤wdT a b)=b15 (wdR a b):=by
 have h4:=wdT_bd a b
 have h5:=wdL_bd a b
 unfold b15
 rw [wdR_join]
 exact dec_iff (by omega)
theorem lt15 (b:Int):decide (b < 32768)= !b15 b:=by
 unfold b15
 exact dec_not (by omega)
end K8.S
namespace K8
theorem q1C7r {P:Prop} (h:P:=by
 go_enter Tryz.func176,Tryz.ntmps176
 go_wp2_with (first|(go_at_call 188;refine sm (rdif_any (by omega) (by omega) (by omega) (by omega)) ?_)|(go_at_call 166;refine sm (rjoin_any (by omega) (by omega) (by omega) (by omega) _) ?_)|(go_at_call 191;refine sm (rmajority_any) ?_)|(go_at_call 193;refine sm (rparity_any (by omega) (by omega)) ?_))
 exact bodyPost_ret (by simp [results,Tryz.results176,go_sem]) rfl ⟨rfl,aD⟩):P:=h
theorem rdsub_any (a b:Int) (a0:0≤a) (a1:a < 65536) (b0:0≤b) (b1:b < 65536) (w:World):Calls Tryz.prog 176 #[.int .u16 a,.int .u16 b] w fun e w'=>e=.returned (.tuple #[.int .u16 (S.wdR a b),.agg #[.bool (S.b15 (S.wdR a b)),.bool (S.wdR a b==0),.bool (S.wdK a b),.bool (S.wdH a b),.bool (S.par (S.wdT a b)),.bool (S.wdV a b),.bool (S.wdC a b)]])∧Adds w w':=by
 have f1:S.difO (a % 256) (b % 256) false=S.wdB a b:=rfl
 have f2:S.difR (a % 256) (b % 256) false=S.wdL a b:=rfl
 have f3:S.difR (a / 256) (b / 256) (S.wdB a b)=S.wdT a b:=rfl
 have f4:S.difH (a / 256) (b / 256) (S.wdB a b)=S.wdH a b:=rfl
 have f5:S.difV (a / 256) (b / 256) (S.wdB a b)=S.wdV a b:=rfl
 have f6:S.difO (a / 256) (b / 256) (S.wdB a b)=S.wdC a b:=rfl
 have f7:S.joi (S.wdT a b) (S.wdL a b)=S.wdR a b:=rfl
 have f8:S.maj (S.b15 a) (!S.b15 b) (S.b15 (S.wdR a b))=S.wdK a b:=rfl
 have l0:=S.wdL_bd a b
 have t0:=S.wdT_bd a b
 have x1:decide (128≤S.wdT a b)=S.b15 (S.wdR a b):=S.wdS2 a b
 have x2:decide (32768≤a)=S.b15 a:=rfl
 have x3:decide (b < 32768)= !S.b15 b:=S.lt15 b
 have x4:=S.wdZ2 a b
 by_cases hz:S.wdT a b=0
 ·rw [hz] at f3 f7 x1 x4⊢
  have x5:S.b15 (S.wdR a b)=false:=by rw [←x1];decide
  have x6:(S.wdL a b==0)=(S.wdR a b==0):=by rw [←x4];simp
  rw [x5] at f8⊢
  clear x1 x4 t0
  exact q1C7r
 ·have hy:(S.wdT a b==0)=false:=by simpa using hz
  have x6:(S.wdR a b==0)=false:=by rw [←x4,hy];rfl
  rw [x6]
  clear x4
  exact q1C7r
end K8
namespace K8
theorem q1C7 {P:Prop} (h:P:=by
 go_enter Tryz.func173,Tryz.ntmps173
 go_wp2_with (first|(go_at_call 114;refine sm (ron_any) ?_))
 go_region
 all_goals go_wp2_with fail
 all_goals exact bodyPost_ret (by simp [results,Tryz.results173,go_sem]) rfl ⟨rfl,aD⟩):P:=h
theorem rdad_any (c a b:Int) (s z k ac p v cy:Bool) (a0:0≤a) (a1:a < 65536) (b0:0≤b) (b1:b < 65536) (w:World):Calls Tryz.prog 173 #[.int .i64 c,.int .u16 a,.int .u16 b,.agg #[.bool s,.bool z,.bool k,.bool ac,.bool p,.bool v,.bool cy]] w fun e w'=>e=.returned (.tuple #[.int .u16 (S.wsR a b),.agg #[.bool s,.bool z,.bool k,.bool ac,.bool p,.bool (S.wsV c a b v),.bool (S.wsO a b)]])∧Adds w w':=by
 have e1:=S.ws_wrap a b
 have e2:decide (65535 < a+b)=S.wsO a b:=rfl
 have sa:=S.sg16_bd a a0 a1
 have sb:=S.sg16_bd b b0 b1
 have g1:=S.sg16_wrap a a0 a1
 have g2:=S.sg16_wrap b b0 b1
 by_cases hc:c=2
 ·subst hc
  rw [S.wsV85]
  obtain ⟨t,ht⟩:∃t,S.sg16 a+S.sg16 b=t:=⟨_,rfl⟩
  rw [ht]
  have tb: -65536≤t∧t < 65536:=by omega
  rcases (by omega:t < -32768∨32767 < t∨(¬t < -32768∧¬32767 < t)) with hs|hs|hs
  ·have h4:S.ovf16 t=true:=by unfold S.ovf16;rw [decide_eq_true hs];rfl
   rw [h4]
   exact q1C7
  ·have h4:S.ovf16 t=true:=by unfold S.ovf16;rw [decide_eq_true hs,Bool.or_true]
   have hn:¬t < -32768:=by omega
   rw [h4]
   exact q1C7
  ·obtain ⟨hs1,hs2⟩:=hs
   have h4:S.ovf16 t=false:=by unfold S.ovf16;rw [decide_eq_false hs1,decide_eq_false hs2];rfl
   rw [h4]
   go_enter Tryz.func173,Tryz.ntmps173
   go_wp2_with (first|(go_at_call 114;refine sm (ron_any) ?_))
   go_region
   all_goals go_wp2_with fail
   all_goals exact bodyPost_ret (by simp [results,Tryz.results173,go_sem];try omega) rfl ⟨rfl,aD⟩
 ·rw [S.wsV80 hc]
  exact q1C7
end K8
namespace K8.S
open Go.Proofs.YteggjjhjmhccjaaGreatDoor.S
variable {i j n v x:Int}
theorem ones_and (n m:Int) (j:Nat) (hm:(BitVec.ofInt 64 m).toNat=2 ^ j - 1) (hj:j≤60):bits .and .i64 n m=n % ((2 ^ j:Nat):Int):=by
 have hp:(2 ^ j:Nat) ∣ 2 ^ 64:=Nat.pow_dvd_pow 2 (by omega)
 have hl:(2 ^ j:Nat)≤2 ^ 60:=Nat.pow_le_pow_right (by decide) hj
 have h0:0 < (2 ^ j:Nat):=Nat.pow_pos (by decide)
 have e:(BitVec.ofInt 64 n &&& BitVec.ofInt 64 m).toNat=(n % ((2 ^ 64:Nat):Int)).toNat % 2 ^ j:=by
  rw [BitVec.toNat_and,BitVec.toNat_ofInt,hm,Nat.and_two_pow_sub_one_eq_mod]
 have e2:(((n % ((2 ^ 64:Nat):Int)).toNat % 2 ^ j:Nat):Int)=n % ((2 ^ j:Nat):Int):=by
  rw [Int.natCast_emod,Int.toNat_of_nonneg (Int.emod_nonneg _ (by decide)),Int.emod_emod_of_dvd _ (Int.natCast_dvd_natCast.2 hp)]
 show IntKind.i64.wrap ((BitVec.ofInt 64 n &&& BitVec.ofInt 64 m).toNat:Nat)=_
 rw [e,e2]
 have l0:0≤n % ((2 ^ j:Nat):Int):=Int.emod_nonneg _ (by omega)
 have l1:n % ((2 ^ j:Nat):Int) < ((2 ^ j:Nat):Int):=Int.emod_lt_of_pos _ (by omega)
 exact IntWalk.i64_in _ (by omega)
theorem and7r (n:Int):bits .and .i64 n 7=n % 8:=ones_and n 7 3 (by decide) (by decide)
theorem and3r (n:Int):bits .and .i64 n 3=n % 4:=ones_and n 3 2 (by decide) (by decide)
def rg (n a b c d e h l:Int):Int:=
 if n % 8=0 then b else if n % 8=1 then c else if n % 8=2 then d else if n % 8=3 then e else if n % 8=4 then h else if n % 8=5 then l else if n % 8=6 then 0 else a
def st (i n v x:Int):Int:=if n % 8=i then v else x
def sq (i n v x:Int):Int:=if n % 4=i then v else x
def pr (n b c d e h l sp:Int):Int:=
 if n % 4=0 then joi b c else if n % 4=1 then joi d e else if n % 4=2 then joi h l else sp
theorem st_of (h:n % 8=j) (i v x:Int):st i n v x=if j=i then v else x:=by unfold st;rw [h]
theorem sq_of (h:n % 4=j) (i v x:Int):sq i n v x=if j=i then v else x:=by unfold sq;rw [h]
theorem rg_0 (k:n % 8=0) (a b c d e h l:Int):rg n a b c d e h l=b:=by
 unfold rg;rw [k];rfl
theorem rg_1 (k:n % 8=1) (a b c d e h l:Int):rg n a b c d e h l=c:=by
 unfold rg;rw [k];rfl
theorem rg_2 (k:n % 8=2) (a b c d e h l:Int):rg n a b c d e h l=d:=by
 unfold rg;rw [k];rfl
theorem rg_3 (k:n % 8=3) (a b c d e h l:Int):rg n a b c d e h l=e:=by
 unfold rg;rw [k];rfl
theorem rg_4 (k:n % 8=4) (a b c d e h l:Int):rg n a b c d e h l=h:=by
 unfold rg;rw [k];rfl
theorem rg_5 (k:n % 8=5) (a b c d e h l:Int):rg n a b c d e h l=l:=by
 unfold rg;rw [k];rfl
theorem rg_6 (k:n % 8=6) (a b c d e h l:Int):rg n a b c d e h l=0:=by
 unfold rg;rw [k];rfl
theorem rg_7 (k:n % 8=7) (a b c d e h l:Int):rg n a b c d e h l=a:=by
 unfold rg;rw [k];rfl
theorem pr_0 (k:n % 4=0) (b c d e h l sp:Int):pr n b c d e h l sp=joi b c:=by
 unfold pr;rw [k];rfl
theorem pr_1 (k:n % 4=1) (b c d e h l sp:Int):pr n b c d e h l sp=joi d e:=by
 unfold pr;rw [k];rfl
theorem pr_2 (k:n % 4=2) (b c d e h l sp:Int):pr n b c d e h l sp=joi h l:=by
 unfold pr;rw [k];rfl
theorem pr_3 (k:n % 4=3) (b c d e h l sp:Int):pr n b c d e h l sp=sp:=by
 unfold pr;rw [k];rfl
end K8.S
namespace K8
theorem q1C8g {P:Prop} (h:P:=by
 go_enter Tryz.func157,Tryz.ntmps157
 go_wp2_with fail
 go_ret
 exact ⟨rfl,aD⟩):P:=h
theorem rget_any (rA rB rC rD rE rH rL:Int) (rS rZ rK rAC rP rV rCY:Bool) (rSP rPC:Int) (n:Int) (w:World):Calls Tryz.prog 157 #[.agg #[.int .u8 rA,.int .u8 rB,.int .u8 rC,.int .u8 rD,.int .u8 rE,.int .u8 rH,.int .u8 rL,.bool rS,.bool rZ,.bool rK,.bool rAC,.bool rP,.bool rV,.bool rCY,.int .u16 rSP,.int .u16 rPC],.int .i64 n] w fun e w'=>e=.returned (.int .u8 (S.rg n rA rB rC rD rE rH rL))∧Adds w w':=by
 have m:=S.and7r n
 have i0:∀w:World,(Instr.index 266 (.agg #[.int .u8 rB,.int .u8 rC,.int .u8 rD,.int .u8 rE,.int .u8 rH,.int .u8 rL,.int .u8 0,.int .u8 rA]) (.int .i64 0)).run Tryz.prog w=.ok (.int .u8 rB) w:=fun _=>by kernel_rfl
 have i1:∀w:World,(Instr.index 266 (.agg #[.int .u8 rB,.int .u8 rC,.int .u8 rD,.int .u8 rE,.int .u8 rH,.int .u8 rL,.int .u8 0,.int .u8 rA]) (.int .i64 1)).run Tryz.prog w=.ok (.int .u8 rC) w:=fun _=>by kernel_rfl
 have i2:∀w:World,(Instr.index 266 (.agg #[.int .u8 rB,.int .u8 rC,.int .u8 rD,.int .u8 rE,.int .u8 rH,.int .u8 rL,.int .u8 0,.int .u8 rA]) (.int .i64 2)).run Tryz.prog w=.ok (.int .u8 rD) w:=fun _=>by kernel_rfl
 have i3:∀w:World,(Instr.index 266 (.agg #[.int .u8 rB,.int .u8 rC,.int .u8 rD,.int .u8 rE,.int .u8 rH,.int .u8 rL,.int .u8 0,.int .u8 rA]) (.int .i64 3)).run Tryz.prog w=.ok (.int .u8 rE) w:=fun _=>by kernel_rfl
 have i4:∀w:World,(Instr.index 266 (.agg #[.int .u8 rB,.int .u8 rC,.int .u8 rD,.int .u8 rE,.int .u8 rH,.int .u8 rL,.int .u8 0,.int .u8 rA]) (.int .i64 4)).run Tryz.prog w=.ok (.int .u8 rH) w:=fun _=>by kernel_rfl
 have i5:∀w:World,(Instr.index 266 (.agg #[.int .u8 rB,.int .u8 rC,.int .u8 rD,.int .u8 rE,.int .u8 rH,.int .u8 rL,.int .u8 0,.int .u8 rA]) (.int .i64 5)).run Tryz.prog w=.ok (.int .u8 rL) w:=fun _=>by kernel_rfl
 have i6:∀w:World,(Instr.index 266 (.agg #[.int .u8 rB,.int .u8 rC,.int .u8 rD,.int .u8 rE,.int .u8 rH,.int .u8 rL,.int .u8 0,.int .u8 rA]) (.int .i64 6)).run Tryz.prog w=.ok (.int .u8 0) w:=fun _=>by kernel_rfl
 have i7:∀w:World,(Instr.index 266 (.agg #[.int .u8 rB,.int .u8 rC,.int .u8 rD,.int .u8 rE,.int .u8 rH,.int .u8 rL,.int .u8 0,.int .u8 rA]) (.int .i64 7)).run Tryz.prog w=.ok (.int .u8 rA) w:=fun _=>by kernel_rfl
 rcases (by omega:n % 8=0∨n % 8=1∨n % 8=2∨n % 8=3∨n % 8=4∨n % 8=5∨n % 8=6∨n % 8=7) with h|h|h|h|h|h|h|h
 ·rw [S.rg_0 h]
  rw [h] at m
  clear h
  exact q1C8g
 ·rw [S.rg_1 h]
  rw [h] at m
  clear h
  exact q1C8g
 ·rw [S.rg_2 h]
  rw [h] at m
  clear h
  exact q1C8g
 ·rw [S.rg_3 h]
  rw [h] at m
  clear h
  exact q1C8g
 ·rw [S.rg_4 h]
  rw [h] at m
  clear h
  exact q1C8g
 ·rw [S.rg_5 h]
  rw [h] at m
  clear h
  exact q1C8g
 ·rw [S.rg_6 h]
  rw [h] at m
  clear h
  exact q1C8g
 ·rw [S.rg_7 h]
  rw [h] at m
  clear h
  exact q1C8g
end K8
namespace K8
variable {rA rB rC rD rE rH rL rPC rSP:Int} {rAC rCY rK rP rS rV rZ:Bool}
theorem q1C8r {P:Prop} (h:P:=by
 go_enter Tryz.func167,Tryz.ntmps167
 go_wp2_with fail
 exact bodyPost_ret (ret_Regs Tryz.results167 rfl (by simp [go_sem]) rfl) rfl ⟨rfl,aD⟩):P:=h
theorem rset_0 (n v:Int) (w:World) (h:n % 8=0):Calls Tryz.prog 167 #[.agg #[.int .u8 rA,.int .u8 rB,.int .u8 rC,.int .u8 rD,.int .u8 rE,.int .u8 rH,.int .u8 rL,.bool rS,.bool rZ,.bool rK,.bool rAC,.bool rP,.bool rV,.bool rCY,.int .u16 rSP,.int .u16 rPC],.int .i64 n,.int .u8 v] w fun e w'=>e=.returned (.agg #[.int .u8 rA,.int .u8 v,.int .u8 rC,.int .u8 rD,.int .u8 rE,.int .u8 rH,.int .u8 rL,.bool rS,.bool rZ,.bool rK,.bool rAC,.bool rP,.bool rV,.bool rCY,.int .u16 rSP,.int .u16 rPC])∧Adds w w':=by
 have m:=S.and7r n
 rw [h] at m
 clear h
 exact q1C8r
theorem rset_1 (n v:Int) (w:World) (h:n % 8=1):Calls Tryz.prog 167 #[.agg #[.int .u8 rA,.int .u8 rB,.int .u8 rC,.int .u8 rD,.int .u8 rE,.int .u8 rH,.int .u8 rL,.bool rS,.bool rZ,.bool rK,.bool rAC,.bool rP,.bool rV,.bool rCY,.int .u16 rSP,.int .u16 rPC],.int .i64 n,.int .u8 v] w fun e w'=>e=.returned (.agg #[.int .u8 rA,.int .u8 rB,.int .u8 v,.int .u8 rD,.int .u8 rE,.int .u8 rH,.int .u8 rL,.bool rS,.bool rZ,.bool rK,.bool rAC,.bool rP,.bool rV,.bool rCY,.int .u16 rSP,.int .u16 rPC])∧Adds w w':=by
 have m:=S.and7r n
 rw [h] at m
 clear h
 exact q1C8r
theorem rset_2 (n v:Int) (w:World) (h:n % 8=2):Calls Tryz.prog 167 #[.agg #[.int .u8 rA,.int .u8 rB,.int .u8 rC,.int .u8 rD,.int .u8 rE,.int .u8 rH,.int .u8 rL,.bool rS,.bool rZ,.bool rK,.bool rAC,.bool rP,.bool rV,.bool rCY,.int .u16 rSP,.int .u16 rPC],.int .i64 n,.int .u8 v] w fun e w'=>e=.returned (.agg #[.int .u8 rA,.int .u8 rB,.int .u8 rC,.int .u8 v,.int .u8 rE,.int .u8 rH,.int .u8 rL,.bool rS,.bool rZ,.bool rK,.bool rAC,.bool rP,.bool rV,.bool rCY,.int .u16 rSP,.int .u16 rPC])∧Adds w w':=by
 have m:=S.and7r n
 rw [h] at m
 clear h
 exact q1C8r
theorem rset_3 (n v:Int) (w:World) (h:n % 8=3):Calls Tryz.prog 167 #[.agg #[.int .u8 rA,.int .u8 rB,.int .u8 rC,.int .u8 rD,.int .u8 rE,.int .u8 rH,.int .u8 rL,.bool rS,.bool rZ,.bool rK,.bool rAC,.bool rP,.bool rV,.bool rCY,.int .u16 rSP,.int .u16 rPC],.int .i64 n,.int .u8 v] w fun e w'=>e=.returned (.agg #[.int .u8 rA,.int .u8 rB,.int .u8 rC,.int .u8 rD,.int .u8 v,.int .u8 rH,.int .u8 rL,.bool rS,.bool rZ,.bool rK,.bool rAC,.bool rP,.bool rV,.bool rCY,.int .u16 rSP,.int .u16 rPC])∧Adds w w':=by
 have m:=S.and7r n
 rw [h] at m
 clear h
 exact q1C8r
theorem rset_4 (n v:Int) (w:World) (h:n % 8=4):Calls Tryz.prog 167 #[.agg #[.int .u8 rA,.int .u8 rB,.int .u8 rC,.int .u8 rD,.int .u8 rE,.int .u8 rH,.int .u8 rL,.bool rS,.bool rZ,.bool rK,.bool rAC,.bool rP,.bool rV,.bool rCY,.int .u16 rSP,.int .u16 rPC],.int .i64 n,.int .u8 v] w fun e w'=>e=.returned (.agg #[.int .u8 rA,.int .u8 rB,.int .u8 rC,.int .u8 rD,.int .u8 rE,.int .u8 v,.int .u8 rL,.bool rS,.bool rZ,.bool rK,.bool rAC,.bool rP,.bool rV,.bool rCY,.int .u16 rSP,.int .u16 rPC])∧Adds w w':=by
 have m:=S.and7r n
 rw [h] at m
 clear h
 exact q1C8r
theorem rset_5 (n v:Int) (w:World) (h:n % 8=5):Calls Tryz.prog 167 #[.agg #[.int .u8 rA,.int .u8 rB,.int .u8 rC,.int .u8 rD,.int .u8 rE,.int .u8 rH,.int .u8 rL,.bool rS,.bool rZ,.bool rK,.bool rAC,.bool rP,.bool rV,.bool rCY,.int .u16 rSP,.int .u16 rPC],.int .i64 n,.int .u8 v] w fun e w'=>e=.returned (.agg #[.int .u8 rA,.int .u8 rB,.int .u8 rC,.int .u8 rD,.int .u8 rE,.int .u8 rH,.int .u8 v,.bool rS,.bool rZ,.bool rK,.bool rAC,.bool rP,.bool rV,.bool rCY,.int .u16 rSP,.int .u16 rPC])∧Adds w w':=by
 have m:=S.and7r n
 rw [h] at m
 clear h
 exact q1C8r
theorem rset_6 (n v:Int) (w:World) (h:n % 8=6):Calls Tryz.prog 167 #[.agg #[.int .u8 rA,.int .u8 rB,.int .u8 rC,.int .u8 rD,.int .u8 rE,.int .u8 rH,.int .u8 rL,.bool rS,.bool rZ,.bool rK,.bool rAC,.bool rP,.bool rV,.bool rCY,.int .u16 rSP,.int .u16 rPC],.int .i64 n,.int .u8 v] w fun e w'=>e=.returned (.agg #[.int .u8 rA,.int .u8 rB,.int .u8 rC,.int .u8 rD,.int .u8 rE,.int .u8 rH,.int .u8 rL,.bool rS,.bool rZ,.bool rK,.bool rAC,.bool rP,.bool rV,.bool rCY,.int .u16 rSP,.int .u16 rPC])∧Adds w w':=by
 have m:=S.and7r n
 rw [h] at m
 clear h
 exact q1C8r
theorem rset_7 (n v:Int) (w:World) (h:n % 8=7):Calls Tryz.prog 167 #[.agg #[.int .u8 rA,.int .u8 rB,.int .u8 rC,.int .u8 rD,.int .u8 rE,.int .u8 rH,.int .u8 rL,.bool rS,.bool rZ,.bool rK,.bool rAC,.bool rP,.bool rV,.bool rCY,.int .u16 rSP,.int .u16 rPC],.int .i64 n,.int .u8 v] w fun e w'=>e=.returned (.agg #[.int .u8 v,.int .u8 rB,.int .u8 rC,.int .u8 rD,.int .u8 rE,.int .u8 rH,.int .u8 rL,.bool rS,.bool rZ,.bool rK,.bool rAC,.bool rP,.bool rV,.bool rCY,.int .u16 rSP,.int .u16 rPC])∧Adds w w':=by
 have m:=S.and7r n
 rw [h] at m
 clear h
 exact q1C8r
theorem rset_any (rA rB rC rD rE rH rL:Int) (rS rZ rK rAC rP rV rCY:Bool) (rSP rPC:Int) (n v:Int) (w:World):Calls Tryz.prog 167 #[.agg #[.int .u8 rA,.int .u8 rB,.int .u8 rC,.int .u8 rD,.int .u8 rE,.int .u8 rH,.int .u8 rL,.bool rS,.bool rZ,.bool rK,.bool rAC,.bool rP,.bool rV,.bool rCY,.int .u16 rSP,.int .u16 rPC],.int .i64 n,.int .u8 v] w fun e w'=>e=.returned (.agg #[.int .u8 (S.st 7 n v rA),.int .u8 (S.st 0 n v rB),.int .u8 (S.st 1 n v rC),.int .u8 (S.st 2 n v rD),.int .u8 (S.st 3 n v rE),.int .u8 (S.st 4 n v rH),.int .u8 (S.st 5 n v rL),.bool rS,.bool rZ,.bool rK,.bool rAC,.bool rP,.bool rV,.bool rCY,.int .u16 rSP,.int .u16 rPC])∧Adds w w':=by
 rcases (by omega:n % 8=0∨n % 8=1∨n % 8=2∨n % 8=3∨n % 8=4∨n % 8=5∨n % 8=6∨n % 8=7) with h|h|h|h|h|h|h|h
 ·simp [S.st_of h]
  exact rset_0 n v w h
 ·simp [S.st_of h]
  exact rset_1 n v w h
 ·simp [S.st_of h]
  exact rset_2 n v w h
 ·simp [S.st_of h]
  exact rset_3 n v w h
 ·simp [S.st_of h]
  exact rset_4 n v w h
 ·simp [S.st_of h]
  exact rset_5 n v w h
 ·simp [S.st_of h]
  exact rset_6 n v w h
 ·simp [S.st_of h]
  exact rset_7 n v w h
end K8
namespace K8
variable {rA rB rC rD rE rH rL rPC rSP:Int} {rAC rCY rK rP rS rV rZ:Bool}
theorem rpair_any (rA rB rC rD rE rH rL:Int) (rS rZ rK rAC rP rV rCY:Bool) (rSP rPC:Int) (n:Int) (b0:0≤rB) (b1:rB < 256) (c0:0≤rC) (c1:rC < 256) (d0:0≤rD) (d1:rD < 256) (e0:0≤rE) (e1:rE < 256) (h0:0≤rH) (h1:rH < 256) (l0:0≤rL) (l1:rL < 256) (w:World):Calls Tryz.prog 148 #[.agg #[.int .u8 rA,.int .u8 rB,.int .u8 rC,.int .u8 rD,.int .u8 rE,.int .u8 rH,.int .u8 rL,.bool rS,.bool rZ,.bool rK,.bool rAC,.bool rP,.bool rV,.bool rCY,.int .u16 rSP,.int .u16 rPC],.int .i64 n] w fun e w'=>e=.returned (.int .u16 (S.pr n rB rC rD rE rH rL rSP))∧Adds w w':=by
 have m:=S.and3r n
 rcases (by omega:n % 4=0∨n % 4=1∨n % 4=2∨n % 4=3) with h|h|h|h
 ·have g1:S.rg 0 rA rB rC rD rE rH rL=rB:=S.rg_0 rfl ..
  have g2:S.rg 1 rA rB rC rD rE rH rL=rC:=S.rg_1 rfl ..
  rw [S.pr_0 h]
  rw [h] at m
  clear h
  go_enter Tryz.func148,Tryz.ntmps148
  go_wp2_with fail
  refine qt ?_
  repeat (go_big_quiet_step (first|(go_at_call 157;exact calls_adds (rget_any _ _ _ _ _ _ _ _ _ _ _ _ _ _ _ _ _ _))|(go_at_call 166;exact calls_same (rjoin_any b0 b1 c0 c1 _))))
  refine qn fun nq osq=> ?_
  go_wp2_with fail
  go_ret
  exact ⟨rfl,aD⟩
 ·have g1:S.rg 2 rA rB rC rD rE rH rL=rD:=S.rg_2 rfl ..
  have g2:S.rg 3 rA rB rC rD rE rH rL=rE:=S.rg_3 rfl ..
  rw [S.pr_1 h]
  rw [h] at m
  clear h
  go_enter Tryz.func148,Tryz.ntmps148
  go_wp2_with fail
  refine qt ?_
  repeat (go_big_quiet_step (first|(go_at_call 157;exact calls_adds (rget_any _ _ _ _ _ _ _ _ _ _ _ _ _ _ _ _ _ _))|(go_at_call 166;exact calls_same (rjoin_any d0 d1 e0 e1 _))))
  refine qn fun nq osq=> ?_
  go_wp2_with fail
  go_ret
  exact ⟨rfl,aD⟩
 ·have g1:S.rg 4 rA rB rC rD rE rH rL=rH:=S.rg_4 rfl ..
  have g2:S.rg 5 rA rB rC rD rE rH rL=rL:=S.rg_5 rfl ..
  rw [S.pr_2 h]
  rw [h] at m
  clear h
  go_enter Tryz.func148,Tryz.ntmps148
  go_wp2_with fail
  refine qt ?_
  repeat (go_big_quiet_step (first|(go_at_call 157;exact calls_adds (rget_any _ _ _ _ _ _ _ _ _ _ _ _ _ _ _ _ _ _))|(go_at_call 166;exact calls_same (rjoin_any h0 h1 l0 l1 _))))
  refine qn fun nq osq=> ?_
  go_wp2_with fail
  go_ret
  exact ⟨rfl,aD⟩
 ·rw [S.pr_3 h]
  rw [h] at m
  clear h
  go_enter Tryz.func148,Tryz.ntmps148
  go_wp2_with fail
  go_ret
  exact ⟨rfl,aD⟩
theorem rsetpair_0 (n v:Int) (v0:0≤v) (v1:v < 65536) (w:World) (h:n % 4=0):Calls Tryz.prog 168 #[.agg #[.int .u8 rA,.int .u8 rB,.int .u8 rC,.int .u8 rD,.int .u8 rE,.int .u8 rH,.int .u8 rL,.bool rS,.bool rZ,.bool rK,.bool rAC,.bool rP,.bool rV,.bool rCY,.int .u16 rSP,.int .u16 rPC],.int .i64 n,.int .u16 v] w fun e w'=>e=.returned (.agg #[.int .u8 rA,.int .u8 (v / 256),.int .u8 (v % 256),.int .u8 (rD),.int .u8 (rE),.int .u8 (rH),.int .u8 (rL),.bool rS,.bool rZ,.bool rK,.bool rAC,.bool rP,.bool rV,.bool rCY,.int .u16 rSP,.int .u16 rPC])∧Adds w w':=by
 have m:=S.and3r n
 rw [h] at m
 clear h
 go_enter Tryz.func168,Tryz.ntmps168
 go_wp2_with (first|(go_at_call 167;(first|(with_reducible refine (rset_0 _ _ _ rfl).mono ?_)|(with_reducible refine (rset_1 _ _ _ rfl).mono ?_));rintro e w' ⟨rfl,⟨⟨n1,os1⟩,rfl⟩⟩))
 exact bodyPost_ret (ret_Regs Tryz.results168 rfl (by simp [go_sem]) rfl) rfl ⟨rfl,aD⟩
theorem rsetpair_1 (n v:Int) (v0:0≤v) (v1:v < 65536) (w:World) (h:n % 4=1):Calls Tryz.prog 168 #[.agg #[.int .u8 rA,.int .u8 rB,.int .u8 rC,.int .u8 rD,.int .u8 rE,.int .u8 rH,.int .u8 rL,.bool rS,.bool rZ,.bool rK,.bool rAC,.bool rP,.bool rV,.bool rCY,.int .u16 rSP,.int .u16 rPC],.int .i64 n,.int .u16 v] w fun e w'=>e=.returned (.agg #[.int .u8 rA,.int .u8 (rB),.int .u8 (rC),.int .u8 (v / 256),.int .u8 (v % 256),.int .u8 (rH),.int .u8 (rL),.bool rS,.bool rZ,.bool rK,.bool rAC,.bool rP,.bool rV,.bool rCY,.int .u16 rSP,.int .u16 rPC])∧Adds w w':=by
 have m:=S.and3r n
 rw [h] at m
 clear h
 go_enter Tryz.func168,Tryz.ntmps168
 go_wp2_with (first|(go_at_call 167;(first|(with_reducible refine (rset_2 _ _ _ rfl).mono ?_)|(with_reducible refine (rset_3 _ _ _ rfl).mono ?_));rintro e w' ⟨rfl,⟨⟨n1,os1⟩,rfl⟩⟩))
 exact bodyPost_ret (ret_Regs Tryz.results168 rfl (by simp [go_sem]) rfl) rfl ⟨rfl,aD⟩
theorem rsetpair_2 (n v:Int) (v0:0≤v) (v1:v < 65536) (w:World) (h:n % 4=2):Calls Tryz.prog 168 #[.agg #[.int .u8 rA,.int .u8 rB,.int .u8 rC,.int .u8 rD,.int .u8 rE,.int .u8 rH,.int .u8 rL,.bool rS,.bool rZ,.bool rK,.bool rAC,.bool rP,.bool rV,.bool rCY,.int .u16 rSP,.int .u16 rPC],.int .i64 n,.int .u16 v] w fun e w'=>e=.returned (.agg #[.int .u8 rA,.int .u8 (rB),.int .u8 (rC),.int .u8 (rD),.int .u8 (rE),.int .u8 (v / 256),.int .u8 (v % 256),.bool rS,.bool rZ,.bool rK,.bool rAC,.bool rP,.bool rV,.bool rCY,.int .u16 rSP,.int .u16 rPC])∧Adds w w':=by
 have m:=S.and3r n
 rw [h] at m
 clear h
 go_enter Tryz.func168,Tryz.ntmps168
 go_wp2_with (first|(go_at_call 167;(first|(with_reducible refine (rset_4 _ _ _ rfl).mono ?_)|(with_reducible refine (rset_5 _ _ _ rfl).mono ?_));rintro e w' ⟨rfl,⟨⟨n1,os1⟩,rfl⟩⟩))
 exact bodyPost_ret (ret_Regs Tryz.results168 rfl (by simp [go_sem]) rfl) rfl ⟨rfl,aD⟩
theorem rsetpair_3 (n v:Int) (w:World) (h:n % 4=3):Calls Tryz.prog 168 #[.agg #[.int .u8 rA,.int .u8 rB,.int .u8 rC,.int .u8 rD,.int .u8 rE,.int .u8 rH,.int .u8 rL,.bool rS,.bool rZ,.bool rK,.bool rAC,.bool rP,.bool rV,.bool rCY,.int .u16 rSP,.int .u16 rPC],.int .i64 n,.int .u16 v] w fun e w'=>e=.returned (.agg #[.int .u8 rA,.int .u8 rB,.int .u8 rC,.int .u8 rD,.int .u8 rE,.int .u8 rH,.int .u8 rL,.bool rS,.bool rZ,.bool rK,.bool rAC,.bool rP,.bool rV,.bool rCY,.int .u16 v,.int .u16 rPC])∧Adds w w':=by
 have m:=S.and3r n
 rw [h] at m
 clear h
 go_enter Tryz.func168,Tryz.ntmps168
 go_wp2_with fail
 exact bodyPost_ret (ret_Regs Tryz.results168 rfl (by simp [go_sem]) rfl) rfl ⟨rfl,aD⟩
theorem rsetpair_any (rA rB rC rD rE rH rL:Int) (rS rZ rK rAC rP rV rCY:Bool) (rSP rPC:Int) (n v:Int) (v0:0≤v) (v1:v < 65536) (w:World):Calls Tryz.prog 168 #[.agg #[.int .u8 rA,.int .u8 rB,.int .u8 rC,.int .u8 rD,.int .u8 rE,.int .u8 rH,.int .u8 rL,.bool rS,.bool rZ,.bool rK,.bool rAC,.bool rP,.bool rV,.bool rCY,.int .u16 rSP,.int .u16 rPC],.int .i64 n,.int .u16 v] w fun e w'=>e=.returned (.agg #[.int .u8 rA,.int .u8 (S.sq 0 n (v / 256) rB),.int .u8 (S.sq 0 n (v % 256) rC),.int .u8 (S.sq 1 n (v / 256) rD),.int .u8 (S.sq 1 n (v % 256) rE),.int .u8 (S.sq 2 n (v / 256) rH),.int .u8 (S.sq 2 n (v % 256) rL),.bool rS,.bool rZ,.bool rK,.bool rAC,.bool rP,.bool rV,.bool rCY,.int .u16 (S.sq 3 n v rSP),.int .u16 rPC])∧Adds w w':=by
 rcases (by omega:n % 4=0∨n % 4=1∨n % 4=2∨n % 4=3) with h|h|h|h
 ·simp [S.sq_of h];exact rsetpair_0 n v v0 v1 w h
 ·simp [S.sq_of h];exact rsetpair_1 n v v0 v1 w h
 ·simp [S.sq_of h];exact rsetpair_2 n v v0 v1 w h
 ·simp [S.sq_of h];exact rsetpair_3 n v w h
theorem rpsw_any (c:Int) (rA rB rC rD rE rH rL:Int) (rS rZ rK rAC rP rV rCY:Bool) (rSP rPC:Int) (a0:0≤rA) (a1:rA < 256) (w:World):Calls Tryz.prog 165 #[.int .i64 c,.agg #[.int .u8 rA,.int .u8 rB,.int .u8 rC,.int .u8 rD,.int .u8 rE,.int .u8 rH,.int .u8 rL,.bool rS,.bool rZ,.bool rK,.bool rAC,.bool rP,.bool rV,.bool rCY,.int .u16 rSP,.int .u16 rPC]] w fun e w'=>e=.returned (.int .u16 (S.joi rA (S.pack c rS rZ rK rAC rP rV rCY)))∧Adds w w':=by
 obtain ⟨p0,p1⟩:=S.pack_bd c rS rZ rK rAC rP rV rCY
 go_enter Tryz.func165,Tryz.ntmps165
 go_wp2_with fail
 refine qt ?_
 repeat (go_big_quiet_step (first|(go_at_call 185;exact calls_adds (rpack_any))|(go_at_call 166;exact calls_same (rjoin_any a0 a1 p0 p1 _))))
 refine qn fun nq osq=> ?_
 go_wp2_with fail
 go_ret
 exact ⟨rfl,aD⟩
theorem rsetpsw_any (c:Int) (rA rB rC rD rE rH rL:Int) (rS rZ rK rAC rP rV rCY:Bool) (rSP rPC:Int) (v:Int) (v0:0≤v) (v1:v < 65536) (w:World):Calls Tryz.prog 169 #[.int .i64 c,.agg #[.int .u8 rA,.int .u8 rB,.int .u8 rC,.int .u8 rD,.int .u8 rE,.int .u8 rH,.int .u8 rL,.bool rS,.bool rZ,.bool rK,.bool rAC,.bool rP,.bool rV,.bool rCY,.int .u16 rSP,.int .u16 rPC],.int .u16 v] w fun e w'=>e=.returned (.agg #[.int .u8 (v / 256),.int .u8 rB,.int .u8 rC,.int .u8 rD,.int .u8 rE,.int .u8 rH,.int .u8 rL,.bool (S.has (v % 256) 7),.bool (S.has (v % 256) 6),.bool (S.uk c (v % 256)),.bool (S.has (v % 256) 4),.bool (S.has (v % 256) 2),.bool (S.uv c (v % 256)),.bool (S.has (v % 256) 0),.int .u16 rSP,.int .u16 rPC])∧Adds w w':=by
 go_enter Tryz.func169,Tryz.ntmps169
 go_wp2_with (first|(go_at_call 186;refine ad (runpack_any (by omega) (by omega)) fun n1 os1=> ?_))
 exact bodyPost_ret (ret_Regs Tryz.results169 rfl (by simp [go_sem]) rfl) rfl ⟨rfl,aD⟩
end K8
section
variable {cA cB cC cCh cD cE cH cL cMa cPC cSP:Int} {cDe cHa cIE cR7 cSI cSO cSa cTr cW7 cWT cfAC cfCY cfK cfP cfS cfV cfZ:Bool} {w:World}
theorem bit14_any {f:Bool} {n:Int} (n0:0≤n) (n1:n < 8):Calls Tryz.prog 179 #[.bool f,.int .i64 n] w fun e w'=>e=.returned (.int .u8 (S.bp f n))∧w=w':=by
 rcases (by omega:n=0∨n=1∨n=2∨n=3∨n=4∨n=5∨n=6∨n=7) with rfl|rfl|rfl|rfl|rfl|rfl|rfl|rfl
 all_goals
  cases f
  all_goals
   go_enter Tryz.func179,Tryz.ntmps179
   go_wp2_with (go_at_call 194;refine sm (one_any) ?_)
   go_ret
   exact ⟨ri (by decide+kernel),rfl⟩
theorem q2C14 {P:Prop} (h:P:=by
 go_enter Tryz.func149,Tryz.ntmps149
 go_wp2_with fail
 refine qt ?_
 repeat (go_big_quiet_step (first|(go_at_call 179;exact calls_same (bit14_any (by decide) (by decide)))))
 refine qn fun nq osq=> ?_
 go_wp2_with fail
 go_region
 all_goals go_wp2_with fail
 all_goals exact bodyPost_ret (ret2_CPU Tryz.results149 (congrArg (Value.int .u8) HR.out) rfl (by simp [go_sem]) rfl) rfl ⟨rfl,aD⟩):P:=h
theorem rrim_any {lRe lHo lRs lSi lTr lR7 lR6 lR5 lIn:Bool} (m0:0≤cMa) (m1:cMa < 256):Calls Tryz.prog 149 #[.agg #[.int .i64 cCh,.int .u8 cA,.int .u8 cB,.int .u8 cC,.int .u8 cD,.int .u8 cE,.int .u8 cH,.int .u8 cL,.bool cfS,.bool cfZ,.bool cfK,.bool cfAC,.bool cfP,.bool cfV,.bool cfCY,.int .u16 cSP,.int .u16 cPC,.bool cIE,.bool cDe,.bool cHa,.int .u8 cMa,.bool cTr,.bool cR7,.bool cWT,.bool cW7,.bool cSa,.bool cSI,.bool cSO],.agg #[.bool lRe,.bool lHo,.bool lRs,.bool lSi,.bool lTr,.bool lR7,.bool lR6,.bool lR5,.bool lIn]] w fun e w'=>e=.returned (.tuple #[.int .u8 (S.rim lSi cR7 lR6 lR5 (S.pick cSa cSI cIE) cMa),.agg #[.int .i64 cCh,.int .u8 cA,.int .u8 cB,.int .u8 cC,.int .u8 cD,.int .u8 cE,.int .u8 cH,.int .u8 cL,.bool cfS,.bool cfZ,.bool cfK,.bool cfAC,.bool cfP,.bool cfV,.bool cfCY,.int .u16 cSP,.int .u16 cPC,.bool cIE,.bool cDe,.bool cHa,.int .u8 cMa,.bool cTr,.bool cR7,.bool cWT,.bool cW7,.bool (false),.bool (false),.bool cSO]])∧Adds w w':=by
 have h3:=S.low3 cMa m0 m1
 have HR:=Lib.hid (S.rim_orp lSi cR7 lR6 lR5 (S.pick cSa cSI cIE) cMa)
 cases cSa
 all_goals exact q2C14
theorem q1C14 {P:Prop} (h:P:=by
 go_enter Tryz.func150,Tryz.ntmps150
 go_wp2_with fail
 exact bodyPost_ret (ret_CPU Tryz.results150 rfl (by simp [go_sem,S.pick,S.pickN]) rfl) rfl ⟨rfl,aD⟩):P:=h
theorem rsim_any {a:Int} (a0:0≤a) (a1:a < 256):Calls Tryz.prog 150 #[.agg #[.int .i64 cCh,.int .u8 cA,.int .u8 cB,.int .u8 cC,.int .u8 cD,.int .u8 cE,.int .u8 cH,.int .u8 cL,.bool cfS,.bool cfZ,.bool cfK,.bool cfAC,.bool cfP,.bool cfV,.bool cfCY,.int .u16 cSP,.int .u16 cPC,.bool cIE,.bool cDe,.bool cHa,.int .u8 cMa,.bool cTr,.bool cR7,.bool cWT,.bool cW7,.bool cSa,.bool cSI,.bool cSO],.int .u8 a] w fun e w'=>e=.returned (.agg #[.int .i64 cCh,.int .u8 cA,.int .u8 cB,.int .u8 cC,.int .u8 cD,.int .u8 cE,.int .u8 cH,.int .u8 cL,.bool cfS,.bool cfZ,.bool cfK,.bool cfAC,.bool cfP,.bool cfV,.bool cfCY,.int .u16 cSP,.int .u16 cPC,.bool cIE,.bool cDe,.bool cHa,.int .u8 (S.pickN (S.hs a 8) (a % 8) cMa),.bool cTr,.bool (S.pick (S.hs a 16) false cR7),.bool cWT,.bool cW7,.bool cSa,.bool cSI,.bool (S.pick (S.hs a 64) (S.hs a 128) cSO)])∧Adds w w':=by
 have h7:=S.low3 a a0 a1
 have g1:(bits .and .u8 a 64 !=0)=S.hs a 64:=rfl
 have g2:(bits .and .u8 a 128 !=0)=S.hs a 128:=rfl
 have g3:(bits .and .u8 a 16 !=0)=S.hs a 16:=rfl
 have g4:(bits .and .u8 a 8 !=0)=S.hs a 8:=rfl
 cases h6:S.hs a 64<;>cases h4:S.hs a 16<;>cases h3:S.hs a 8
 all_goals exact q1C14
end
namespace S
def latT (c:Int) (l cur was:Bool):Bool:=if c=2 then l && (cur|| !was) else cur
def lat7 (c:Int) (l cur was:Bool):Bool:=if c=2 then cur||l && !was else cur
def latW (c:Int) (l was:Bool):Bool:=if c=2 then l else was
def fr (m n:Int):Bool:=bits .and .u8 m n==0
def pik (c:Int) (ie de:Bool) (m:Int) (tr r7 r6 r5 i:Bool):Int:=
 if c=2∧tr=true then 1 else if ie=false∨de=true then 0 else if c=2∧r7=true∧fr m 4=true then 2 else if c=2∧r6=true∧fr m 2=true then 3 else if c=2∧r5=true∧fr m 1=true then 4 else if i=true then 5 else 0
def off (k:Int) (b:Bool):Bool:=if 1≤k∧k≤5 then false else b
def sw (k n:Int) (x y:Bool):Bool:=if k=n then x else y
def vec (k:Int):Int:=if k=1 then 36 else if k=2 then 60 else if k=3 then 52 else if k=4 then 44 else 0
def rsm (c:Int):Int:=if c=2 then 7 else 0
def ask (c:Int) (f r x:Bool):Bool:=decide (c=2) && (f && (r && x))
end S
end Go.Proofs.YteggjjhjmhccjaaGreatDoor
