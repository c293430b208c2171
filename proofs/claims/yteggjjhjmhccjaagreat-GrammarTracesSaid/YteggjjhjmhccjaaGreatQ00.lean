/- Texts that the proofs of GrammarTraces and GrammarCounts rest on, joined. Conditions stand in each theorem. -/
import GoSem.Claim
import GoSem.ClaimJoined
import Derived.WalkKit
import Derived.ProofKit
import Derived.OpenShut
import Derived.RowKit3
import Derived.Below
import Derived.Laws.StructEq
import Derived.ChangeKeysEq
import Derived.Deep.QuietTactic
import Derived.BigQuiet
import Derived.Deep.RegionHeld3
import Derived.KernelRfl
import Derived.Laws.BitsAllLaws
import Derived.Test.YteggjjhjmhccjaaGreatChecked
import Derived.Deep.Cut
import Derived.Laws.Rows
import Derived.Laws.Tables
import Derived.Laws.CopyRow
import Derived.Laws.OwnMore
import Derived.Laws.AppendOwnNone
import Derived.Maps.AppendAt
import Derived.OwnWalk
import Derived.Lib.Hide
import Derived.Deep.Slices
import Derived.ChangeSame
import Derived.Deep.RegionWith
set_option linter.unusedVariables false
set_option linter.unusedSimpArgs false
set_option maxRecDepth 100000
set_option maxHeartbeats 8000000
namespace Go.Proofs.YteggjjhjmhccjaaGreat
open Go.ChangeShapes Go.WideShapes Go.ChangeAt Go.RowKit
section
def More (w:World) (n:Nat) (os:Array Obj):World:={w with heap:=w.heap++os,drawn:=n}
structure By where
 n:Nat
 os:Array Obj
instance:Inhabited By:=⟨⟨0,#[]⟩⟩
def Adds (w w':World):Prop:=∃p:By,w'=More w p.n p.os
@[go_sem] theorem More_size (w:World) (n:Nat) (os:Array Obj):(More w n os).heap.size=w.heap.size+os.size:=by simp [More]
@[go_sem] theorem More_tape (w:World) (n:Nat) (os:Array Obj):(More w n os).tape=w.tape:=rfl
theorem More_heap (w:World) (n:Nat) (os:Array Obj) {k:Nat} (h:k < w.heap.size):(More w n os).heap[k]? =w.heap[k]? :=by simp [More,Array.getElem?_append,h]
def InB (b:Nat) (w:World):Prop:=b < w.heap.size
def Junk (b:Nat) (w:World) (os:Array Obj):Prop:=¬InB b w∧b < w.heap.size+os.size
@[go_sem] theorem InB_alloc (b:Nat) (w:World) (o:Obj):InB b (w.alloc o)=(b=w.heap.size∨InB b w):=by
 have e:(w.alloc o).heap.size=w.heap.size+1:=Array.size_push ..
 unfold InB;rw [e];exact propext (by omega)
@[go_sem] theorem InB_More (b:Nat) (w:World) (n:Nat) (os:Array Obj):InB b (More w n os)=(InB b w∨Junk b w os):=by
 unfold Junk InB;rw [More_size];exact propext (by omega)
@[go_sem] theorem InB_drew (b:Nat) (w:World):InB b w.drew=InB b w:=propext ⟨fun h=>h,fun h=>h⟩
@[go_sem] theorem InB_drewN (b:Nat) (w:World) (n:Nat):InB b (w.drewN n)=InB b w:=propext ⟨fun h=>h,fun h=>h⟩
@[go_sem] theorem InB_setCell (b:Nat) (w:World) (a:Addr) (v:Value):InB b (w.setCell a v)=InB b w:=by
 have e:(w.setCell a v).heap.size=w.heap.size:=Array.size_modify ..
 unfold InB;rw [e]
@[go_sem low] theorem InB_base (b:Nat) (w:World):InB b w=(b < w.heap.size):=propext ⟨fun h=>h,fun h=>h⟩
@[go_sem] theorem More_cell {w:World} {n:Nat} {os:Array Obj} {b i:Nat} {s:_} (h:InB b w):(More w n os).cell? ⟨b,i,s⟩=w.cell? ⟨b,i,s⟩:=by simp only [World.cell?,More_heap w n os h]
@[go_sem] theorem More_frozen (w:World) (n:Nat) (os:Array Obj) (b i:Nat) (s:_) (h:InB b w):(More w n os).frozen? ⟨b,i,s⟩=w.frozen? ⟨b,i,s⟩:=by simp only [World.frozen?,More_heap w n os h]
@[go_sem] theorem alloc_cell (w:World) (o:Obj) (b i:Nat) (h:InB b w):(w.alloc o).cell? ⟨b,i,none⟩=w.cell? ⟨b,i,none⟩:=World.cell?_alloc_past o b i h
@[go_sem] theorem alloc_frozen (w:World) (o:Obj) (b i:Nat) (h:InB b w):(w.alloc o).frozen? ⟨b,i,none⟩=w.frozen? ⟨b,i,none⟩:=World.frozen?_alloc_past o b i h
@[go_sem] theorem alloc_setCell (w:World) (o:Obj) (b i:Nat) (v:Value) (h:InB b w):(w.alloc o).setCell ⟨b,i,none⟩ v=(w.setCell ⟨b,i,none⟩ v).alloc o:=World.setCell_alloc_past o b i v h
@[go_sem] theorem More_drew (w:World) (n:Nat) (os:Array Obj):(More w n os).drew=More w (n+1) os:=rfl
@[go_sem] theorem More_of_drew (w:World) (n:Nat) (os:Array Obj):More w.drew n os=More w n os:=rfl
@[go_sem] theorem More_of_drewN (w:World) (m n:Nat) (os:Array Obj):More (w.drewN m) n os=More w n os:=rfl
theorem More_zero (w:World):More w w.drawn #[]=w:=by simp [More]
theorem More_more (w:World) (n m:Nat) (os os':Array Obj):More (More w n os) m os'=More w m (os++os'):=by
 simp [More,Array.append_assoc]
theorem Adds.refl (w:World):Adds w w:=⟨⟨w.drawn,#[]⟩,(More_zero w).symm⟩
theorem Adds.drew {w w':World} (h:Adds w w'):Adds w w'.drew:=by
 obtain ⟨⟨n,os⟩,rfl⟩:=h
 exact ⟨⟨n+1,os⟩,rfl⟩
theorem Adds.drewN {w w':World} (h:Adds w w') (m:Nat):Adds w (w'.drewN m):=by
 obtain ⟨⟨n,os⟩,rfl⟩:=h
 exact ⟨⟨n+m,os⟩,rfl⟩
theorem Adds.alloc {w w':World} (h:Adds w w') (o:Obj):Adds w (w'.alloc o):=by
 obtain ⟨⟨n,os⟩,rfl⟩:=h
 exact ⟨⟨n,os.push o⟩,by simp [More,World.alloc]⟩
theorem Adds.more {w w':World} (h:Adds w w') (m:Nat) (os':Array Obj):Adds w (More w' m os'):=by
 obtain ⟨⟨n,os⟩,rfl⟩:=h
 exact ⟨⟨m,os++os'⟩,More_more ..⟩
theorem Adds.trans {w w' w'':World} (h:Adds w w') (k:Adds w' w''):Adds w w'':=by
 obtain ⟨⟨n,os⟩,rfl⟩:=k
 exact h.more n os
theorem modify_right {a b:Array Obj} {i:Nat} {f:Obj→Obj} (h:a.size≤i):(a++b).modify i f=a++b.modify (i - a.size) f:=by
 apply Array.ext_getElem?
 intro k
 simp only [Array.getElem?_modify,Array.getElem?_append]
 by_cases hk:k < a.size
 ·have:i≠k:=by omega
  simp [hk,this]
 ·by_cases hik:i=k
  ·subst hik;simp [hk]
  ·have:i - a.size≠k - a.size:=by omega
   simp [hk,hik,this]
theorem modify_left {a b:Array Obj} {i:Nat} {f:Obj→Obj} (h:i < a.size):(a++b).modify i f=a.modify i f++b:=by
 apply Array.ext_getElem?
 intro k
 simp only [Array.getElem?_modify,Array.getElem?_append,Array.size_modify]
 by_cases hk:k < a.size
 ·simp [hk]
 ·have:i≠k:=by omega
  simp [hk,this]
@[go_sem] theorem More_setCell {w:World} {n:Nat} {os:Array Obj} {b i:Nat} {s:_} {v:Value} (h:InB b w):(More w n os).setCell ⟨b,i,s⟩ v=More (w.setCell ⟨b,i,s⟩ v) n os:=by
 unfold More World.setCell
 simp only []
 rw [modify_left h]
theorem Adds.setCell {w w':World} (h:Adds w w') {a:Addr} (ha:w.heap.size≤a.block) (v:Value):Adds w (w'.setCell a v):=by
 obtain ⟨⟨n,os⟩,rfl⟩:=h
 have e:(More w n os).setCell a v=(More w n os).setCell a v:=rfl
 conv at e=>rhs;simp only [World.setCell,More];rw [modify_right ha]
 exact ⟨⟨n,_⟩,e⟩
theorem Adds.below {w w':World} (h:Adds w w'):Below w.heap.size w w':=by
 obtain ⟨⟨n,os⟩,rfl⟩:=h
 exact ⟨rfl,rfl,rfl,by simp [More],fun k hk=>More_heap w n os hk⟩
theorem Adds.of_below {w w':World} (h:Below w.heap.size w w'):Adds w w':=by
 refine ⟨⟨w'.drawn,w'.heap.extract w.heap.size w'.heap.size⟩,?_⟩
 obtain ⟨hp,tp,dr,o,ou⟩:=w'
 obtain ⟨h1,h2,h3,h4,h5⟩:=h
 simp only at h1 h2 h3 h4 h5
 subst h1 h2 h3
 unfold More
 congr 1
 apply Array.ext_getElem?
 intro i
 rw [Array.getElem?_append]
 split
 ·rename_i hi;exact h5 i hi
 ·rename_i hi;rw [Array.getElem?_extract];split
  ·congr 1;omega
  ·rename_i hj;simp only [Nat.min_self] at hj;rw [Array.getElem?_eq_none];simp only [Nat.not_lt] at hi;show hp.size≤i;have:¬i - w.heap.size < hp.size - w.heap.size:=hj;have h4':w.heap.size≤hp.size:=h4;omega
theorem wp_region_adds {P:Program} {id:Nat} {Q:Exit→Act→World→Prop} {a:Act} {w:World} {l:List Oper} (hm:P.follows .mixedOrders=true) (hB:Region.lexB .any l.toArray=true)
 (h:wpQuiet P l.toArray (fun w'=>∃p:By,w'=More w p.n p.os) (fun a'=>∀w',(∃p:By,w'=More w p.n p.os)→Q .normal a' w') l a):(Code.region id l.toArray true).wp P Q a w:=
 wp_region_quiet (C:=fun w'=>∃p:By,w'=More w p.n p.os) hm hB ⟨⟨w.drawn+1,#[]⟩,by simp [More]⟩ (by simpa using h)
theorem calls_adds {P:Program} {f:FuncId} {args:Array Value} {w:World} {n:Nat} {os:Array Obj} {v:Value}
 (h:Calls P f args (More w n os) fun e w'=>e=.returned v∧Adds (More w n os) w'):Calls P f args (More w n os) fun e w''=>e=.returned v∧∃p:By,w''=More w p.n p.os:=
 h.mono fun _ _ ⟨he,⟨m,os'⟩,hq⟩=>⟨he,⟨m,os++os'⟩,by rw [hq,More_more]⟩
theorem calls_same {P:Program} {f:FuncId} {args:Array Value} {w:World} {n:Nat} {os:Array Obj} {v:Value}
 (h:Calls P f args (More w n os) fun e w'=>e=.returned v∧More w n os=w'):Calls P f args (More w n os) fun e w''=>e=.returned v∧∃p:By,w''=More w p.n p.os:=
 h.mono fun _ _ ⟨he,hq⟩=>⟨he,⟨n,os⟩,hq.symm⟩
inductive Leaf where
 |int (k:IntKind)
 |bool
def shaped:List Leaf→List Value→Prop
 | .int k::L,.int k' n::vs=>k=k'∧shaped L vs
 | .bool::L,.bool _::vs=>shaped L vs
 |[],[]=>True
 |_,_=>False
def fits:List Leaf→List Value→Prop
 | .int k::L,v::vs=>(∃n,v=.int k n∧(Lit.int k n).wf=true)∧fits L vs
 | .bool::L,v::vs=>(∃b,v=.bool b)∧fits L vs
 |[],[]=>True
 |_,_=>False
def flatFields (P:Program) (sub:TypeId→Option (List Leaf)):Nat→List Field→Nat→Option (List Leaf)
 |off,[],tot=>if off=tot then some [] else none
 |off,f::fs,tot=>if f.offset=off∧f.name≠ "_" then (sub f.type).bind fun l=>if l.length=P.cellsOf f.type then (flatFields P sub (off+l.length) fs tot).map (l++ ·) else none else none
def flat (P:Program):Nat→TypeId→Option (List Leaf)
 |0,_=>none
 |n+1,t=>match P.underlying t with
  |some .bool=>some [.bool]
  |some (.int k)=>some [.int k]
  |some (.struct fs)=>if P.stoodInHeld t=false then flatFields P (flat P n) 0 fs.toList (P.cellsOf t) else none
  |_=>none
theorem fits_append:∀(l L:List Leaf) (xs:List Value),fits l (xs.take l.length)→fits L (xs.drop l.length)→fits (l++L) xs
 |[],L,xs,_,h=>by simpa using h
 | .int k::l,L,[],h,_=>by simp [fits] at h
 | .bool::l,L,[],h,_=>by simp [fits] at h
 | .int k::l,L,x::xs,h,h'=>by
  simp only [List.length_cons,List.take_succ_cons,fits] at h
  exact ⟨h.1,fits_append l L xs h.2 (by simpa using h')⟩
 | .bool::l,L,x::xs,h,h'=>by
  simp only [List.length_cons,List.take_succ_cons,fits] at h
  exact ⟨h.1,fits_append l L xs h.2 (by simpa using h')⟩
theorem fits_fields {P:Program} {sub:TypeId→Option (List Leaf)} {cs:List Value}:∀(fs:List Field) (off tot:Nat) (L:List Leaf),flatFields P sub off fs tot=some L→cs.length=tot→
 (∀f∈fs,∀l,sub f.type=some l→fits l ((cs.drop f.offset).take (P.cellsOf f.type)))→fits L (cs.drop off)
 |[],off,tot,L,h,hl,_=>by
  simp only [flatFields] at h
  split at h
  ·obtain rfl:=Option.some.inj h
   rw [List.drop_eq_nil_of_le (by omega)]
   trivial
  ·cases h
 |f::fs,off,tot,L,h,hl,hr=>by
  simp only [flatFields] at h
  split at h
  ·rename_i ho
   obtain ⟨ho, -⟩:=ho
   simp only [Option.bind_eq_some_iff] at h
   obtain ⟨l,h1,h2⟩:=h
   split at h2
   ·rename_i hc
    simp only [Option.map_eq_some_iff] at h2
    obtain ⟨L',h3,rfl⟩:=h2
    have k1:=hr f (by simp) l h1
    rw [ho,←hc] at k1
    refine fits_append l L' _ k1 ?_
    rw [List.drop_drop]
    exact fits_fields fs (off+l.length) tot L' h3 hl (fun g hg=>hr g (by simp [hg]))
   ·cases h2
  ·cases h
section
variable {H:Type} {enc:TypeId×Value→H} {P:Program} {w:World} {base:Nat} {spare:Nat→Bool} {held:Bool}
theorem flat_fits:∀(n:Nat) (t:TypeId) (L:List Leaf) (fuel:Nat) (cs:List Value) (x:DataW H×List MemPlace),flat P n t=some L→DataW.trod enc P w base spare held fuel t cs=some x→fits L cs
 |0,t,L,fuel,cs,x,h,_=>by simp [flat] at h
 |n+1,t,L,fuel,cs,x,h,ht=>by
  cases hu:P.underlying t with
  |none=>simp [flat,hu] at h
  |some kd=>
   cases kd
   case bool=>
    simp [flat,hu] at h
    subst h
    obtain ⟨b,rfl,_⟩:=DataW.trod_bool hu ht
    exact ⟨⟨b,rfl⟩,trivial⟩
   case int k=>
    simp [flat,hu] at h
    subst h
    obtain ⟨m,rfl,_,hw⟩:=DataW.trod_int hu ht
    exact ⟨⟨m,rfl,hw⟩,trivial⟩
   case struct fs=>
    simp only [flat,hu] at h
    split at h
    ·obtain ⟨xs,m,_,_,hl,hlen,hg⟩:=DataW.trod_struct hu ht
     have:=fits_fields (cs:=cs) fs.toList 0 _ L h hl (fun f hf l hs=>by
      obtain ⟨j,hj⟩:=List.getElem?_of_mem hf
      have hj':fs[j]? =some f:=by simpa using hj
      have hjl:j < fs.size:=(Array.getElem?_eq_some_iff.1 hj').1
      have hx:xs[j]? =some (xs[j]'(by omega)):=List.getElem?_eq_getElem (by omega)
      have h1:=hg j f hj'
      rw [hx] at h1
      exact flat_fits n f.type l m _ _ hs h1)
     simpa using this
    ·cases h
   all_goals (simp [flat,hu] at h;done)
end
theorem fits_bool {L:List Leaf} {l:List Value} (h:fits (.bool::L) l):∃b l',l=.bool b::l'∧fits L l':=by
 cases l with
 |nil=>exact h.elim
 |cons v vs=>obtain ⟨⟨b,rfl⟩,h⟩:=h;exact ⟨b,vs,rfl,h⟩
theorem fits_int {k:IntKind} {L:List Leaf} {l:List Value} (h:fits (.int k::L) l):∃n l',l=.int k n::l'∧(Lit.int k n).wf=true∧fits L l':=by
 cases l with
 |nil=>exact h.elim
 |cons v vs=>obtain ⟨⟨b,rfl,hw⟩,h⟩:=h;exact ⟨b,vs,rfl,hw,h⟩
theorem fits_nil {l:List Value} (h:fits [] l):l=[]:=by
 cases l with
 |nil=>rfl
 |cons v vs=>exact h.elim
def same:List Value→List Value→Bool
 | .int _ a::xs,.int _ b::ys=>(a==b) && same xs ys
 | .bool a::xs,.bool b::ys=>(a==b) && same xs ys
 |[],[]=>true
 |_,_=>false
@[go_sem] theorem same_int (k k':IntKind) (a b:Int) (xs ys:List Value):same (.int k a::xs) (.int k' b::ys)=((a==b) && same xs ys):=rfl
@[go_sem] theorem same_bool (a b:Bool) (xs ys:List Value):same (.bool a::xs) (.bool b::ys)=((a==b) && same xs ys):=rfl
@[go_sem] theorem same_nil:same [] []=true:=rfl
theorem shaped_length:∀(L:List Leaf) (xs:List Value),shaped L xs→xs.length=L.length
 |[],[],_=>rfl
 | .int k::L,.int k' n::vs,h=>by simp [shaped_length L vs h.2]
 | .bool::L,.bool _::vs,h=>by simp [shaped_length L vs h]
 |[],_::_,h=>h.elim
 | .int _::_,[],h=>h.elim
 | .bool::_,[],h=>h.elim
 | .int _::_,.bool _::_,h=>h.elim
 | .bool::_,.int _ _::_,h=>h.elim
theorem shaped_split:∀(l L:List Leaf) (xs:List Value),shaped (l++L) xs→shaped l (xs.take l.length)∧shaped L (xs.drop l.length)
 |[],L,xs,h=>⟨trivial,by simpa using h⟩
 | .int k::l,L,.int k' n::xs,h=>by
  have:=shaped_split l L xs h.2
  exact ⟨⟨h.1,this.1⟩,by simpa using this.2⟩
 | .bool::l,L,.bool b::xs,h=>by
  have:=shaped_split l L xs h
  exact ⟨this.1,by simpa using this.2⟩
theorem same_append:∀(l L:List Leaf) (xs ys:List Value),shaped (l++L) xs→shaped (l++L) ys→same xs ys=(same (xs.take l.length) (ys.take l.length) && same (xs.drop l.length) (ys.drop l.length))
 |[],L,xs,ys,_,_=>by simp [same_nil]
 | .int k::l,L,.int k' n::xs,.int k'' m::ys,h,h'=>by
  simp [same_int,same_append l L xs ys h.2 h'.2,Bool.and_assoc]
 | .bool::l,L,.bool b::xs,.bool c::ys,h,h'=>by
  simp [same_bool,same_append l L xs ys h h',Bool.and_assoc]
def valAt (P:Program) (t:TypeId) (xs:List Value):Value:=match P.underlying t with
 |some (.struct _)=> .agg xs.toArray
 |_=>xs.headD undef
theorem part_flat {P:Program} {n:Nat} {t:TypeId} {l:List Leaf} (hf:flat P n t=some l) (hc:l.length=P.cellsOf t) (xs:Array Value) (off:Nat) (hs:shaped l ((xs.toList.drop off).take l.length)) (w:World):
 (part t xs off).run P w=.ok (valAt P t ((xs.toList.drop off).take l.length)) w:=by
 cases n with
 |zero=>simp [flat] at hf
 |succ n=>
  cases hu:P.underlying t with
  |none=>simp [flat,hu] at hf
  |some kd=>
   have one:∀lf,l=[lf]→∃v,xs[off]? =some v∧(xs.toList.drop off).take l.length=[v]:=by
    intro lf e
    have:=shaped_length _ _ hs
    rw [e] at this⊢
    match hm:xs.toList.drop off,this with
    |v::r,_=>
     have h0:(xs.toList.drop off)[0]? =some v:=by rw [hm];rfl
     exact ⟨v,by simpa using h0,by simp⟩
   cases kd
   case bool=>
    simp [flat,hu] at hf
    obtain ⟨v,e1,e2⟩:=one _ hf.symm
    simp [part,isAgg,run_underlying hu,e1,e2,valAt,hu]
   case int k=>
    simp [flat,hu] at hf
    obtain ⟨v,e1,e2⟩:=one _ hf.symm
    simp [part,isAgg,run_underlying hu,e1,e2,valAt,hu]
   case struct fs=>
    obtain ⟨i,hi⟩:=info_of_underlying hu
    have hl:(xs.extract off (off+P.cellsOf t))=((xs.toList.drop off).take l.length).toArray:=by
     apply Array.toList_inj.1
     rw [Array.toList_extract,hc]
     simp [List.extract]
    simp [part,isAgg,run_underlying hu,run_sizeOf w hi,valAt,hu,hl]
   all_goals (simp [flat,hu] at hf;done)
theorem eq_flat {P:Program}:∀(n d:Nat) (t:TypeId) (L:List Leaf) (xs ys:List Value) (w:World),flat P n t=some L→shaped L xs→shaped L ys→
 (Op.equalIn (d+n) t (valAt P t xs) (valAt P t ys)).run P w=.ok (same xs ys) w
 |0,d,t,L,xs,ys,w,hf,_,_=>by simp [flat] at hf
 |n+1,d,t,L,xs,ys,w,hf,hx,hy=>by
  cases hu:P.underlying t with
  |none=>simp [flat,hu] at hf
  |some kd=>
   cases kd
   case bool=>
    simp [flat,hu] at hf
    subst hf
    match xs,ys,hx,hy with
    |[.bool a],[.bool b],_,_=>simp only [valAt,hu,List.headD_cons,same_bool,same_nil,Bool.and_true];exact run_equalIn_bool w (d+n) t a b hu
   case int k=>
    simp [flat,hu] at hf
    subst hf
    match xs,ys,hx,hy with
    |[.int q a],[.int q' b],hx,hy=>
     obtain ⟨rfl,_⟩:=hx
     obtain ⟨rfl,_⟩:=hy
     simp only [valAt,hu,List.headD_cons,same_int,same_nil,Bool.and_true];exact run_equalIn_int w (d+n) t _ k a b hu
   case struct fs=>
    simp only [flat,hu] at hf
    split at hf
    ·rename_i hst
     have hfs:P.fieldsOf t=fs:=by simp [Program.fieldsOf,hu]
     simp only [valAt,hu]
     rw [show d+(n+1)=(d+n)+1 from rfl,run_equalIn_struct w (d+n) t _ _ (by rw [hfs];exact hu) hst,hfs]
     have key:∀(l:List Field) (off tot:Nat) (L:List Leaf),flatFields P (flat P n) off l tot=some L→shaped L (xs.drop off)→shaped L (ys.drop off)→
      (Op.eqFields (d+n) xs.toArray ys.toArray l).run P w=.ok (same (xs.drop off) (ys.drop off)) w:=by
      intro l
      induction l with
      |nil=>
       intro off tot L h h1 h2
       simp only [flatFields] at h
       split at h
       ·obtain rfl:=Option.some.inj h
        have e1:xs.drop off=[]:=by exact List.eq_nil_of_length_eq_zero (shaped_length _ _ h1)
        have e2:ys.drop off=[]:=by exact List.eq_nil_of_length_eq_zero (shaped_length _ _ h2)
        simp [Op.eqFields,e1,e2,same_nil]
       ·cases h
      |cons f fs ih=>
       intro off tot L h h1 h2
       simp only [flatFields] at h
       split at h
       ·rename_i ho
        obtain ⟨ho,hn⟩:=ho
        simp only [Option.bind_eq_some_iff] at h
        obtain ⟨l,hl,h⟩:=h
        split at h
        ·rename_i hc
         simp only [Option.map_eq_some_iff] at h
         obtain ⟨L',h3,rfl⟩:=h
         obtain ⟨s1,t1⟩:=shaped_split l L' _ h1
         obtain ⟨s2,t2⟩:=shaped_split l L' _ h2
         have p1:=part_flat hl hc xs.toArray f.offset (by simpa [ho] using s1) w
         have p2:=part_flat hl hc ys.toArray f.offset (by simpa [ho] using s2) w
         have ee:=eq_flat n d f.type l _ _ w hl (by simpa [ho] using s1:shaped l ((xs.toArray.toList.drop f.offset).take l.length)) (by simpa [ho] using s2:shaped l ((ys.toArray.toList.drop f.offset).take l.length))
         have rest:=ih (off+l.length) tot L' h3 (by simpa [List.drop_drop] using t1) (by simpa [List.drop_drop] using t2)
         simp only [Op.eqFields,hn,ne_eq,not_false_eq_true,if_true,Sem.run_bind,p1,p2,ee,Result.andThen_ok]
         rw [same_append l L' _ _ h1 h2]
         simp only [List.drop_drop,ho]
         cases hb:same (List.take l.length (List.drop off xs)) (List.take l.length (List.drop off ys))
         ·simp
         ·simp [rest]
        ·cases h
       ·cases h
     simpa using key fs.toList 0 _ L hf (by simpa using hx) (by simpa using hy)
    ·cases hf
   all_goals (simp [flat,hu] at hf;done)
theorem eq_agg {P:Program} (n:Nat) {t:TypeId} (L:List Leaf) {fs:Array Field} (hs:P.underlying t=some (.struct fs)) (hf:flat P n t=some L) (hn:n≤10000) {xs ys:Array Value} (w:World) (hx:shaped L xs.toList) (hy:shaped L ys.toList):
 (Op.equalIn 10000 t (.agg xs) (.agg ys)).run P w=.ok (same xs.toList ys.toList) w:=by
 have:=eq_flat n (10000 - n) t L xs.toList ys.toList w hf hx hy
 rw [show 10000 - n+n=10000 by omega] at this
 simpa [valAt,hs] using this
theorem aD {w w':World} (h:Adds w w':=by (repeat (first|with_reducible exact Adds.refl _|with_reducible apply Adds.drew|with_reducible apply Adds.drewN|with_reducible apply Adds.alloc|with_reducible apply Adds.more|(with_reducible refine Adds.setCell ?_ ?_ _)|(focus (simp [go_sem];done))|(focus (simp [go_sem];omega))))):Adds w w':=h
theorem ad {P:Program} {f:FuncId} {args:Array Value} {w:World} {v:Value} {Q:Ending→World→Prop} (h:Calls P f args w fun e w'=>e=.returned v∧Adds w w') (k:∀n os,Q (.returned v) (More w n os)):Calls P f args w Q:=
 h.mono fun _ _ ⟨he,⟨⟨n,os⟩,hw⟩⟩=>by subst he;subst hw;exact k n os
theorem sm {P:Program} {f:FuncId} {args:Array Value} {w:World} {v:Value} {Q:Ending→World→Prop} (h:Calls P f args w fun e w'=>e=.returned v∧w=w') (k:Q (.returned v) w):Calls P f args w Q:=
 h.mono fun _ _ ⟨he,hw⟩=>by subst he;subst hw;exact k
theorem qt {P:Program} {id:Nat} {Q:Exit→Act→World→Prop} {a:Act} {w:World} {l:List Oper} (h:wpQuiet P l.toArray (fun w'=>∃p:By,w'=More w p.n p.os) (fun a'=>∀w',(∃p:By,w'=More w p.n p.os)→Q .normal a' w') l a) (hm:P.follows .mixedOrders=true:=by kernel_rfl) (hB:Region.lexB .any l.toArray=true:=by kernel_rfl):(Code.region id l.toArray true).wp P Q a w:=wp_region_adds hm hB h
theorem qn {P:Program} {ops:Array Oper} {C:World→Prop} {R:Act→World→Prop} {a:Act} {w:World} (h:∀n os,R a (More w n os)):wpQuiet P ops C (fun a'=>∀w',(∃p:By,w'=More w p.n p.os)→R a' w') [] a:=wpQuiet_nil fun _ ⟨⟨n,os⟩,hw⟩=>by subst hw;exact h n os
end
section
variable {P:Program} {a a':Act} {fuel:Nat} {listed:Array Bool} {w:World}
theorem tk {md:Region.Mode} {ops:Array Oper} {Q:Exit→Act→World→Prop} {S:World→Prop} (i:Nat) {oi:Oper} {v:Value} (hi:ops[i]? =some oi)
 (h:wpAnyH P md ops Q S fuel (listed.setIfInBounds i true) a' w) (hs:Region.noSelect ops=true:=by kernel_rfl) (hf:Region.free md ops listed i=true:=by kernel_rfl) (hr:(Region.ready md ops listed).contains i=true:=by kernel_rfl)
 (hQ:∀c a w,Q (.panic c) (a.put oi.dst v) w→Q (.panic c) a w:=by exact fun _ _ _ h=>h) (hw:Region.wanted oi (yielded ops a.tmps)=true:=by kernel_rfl)
 (hy:∀w,S w→(execOp a.eval oi).run P w=.ok (.value v) w:=by (intro w hSw;(try dsimp only at hSw);go_simp;(try with_reducible rfl);done)) (hS:S w:=by assumption)
 (ha:a.put oi.dst v=a':=by ((try simp only [Act.put,List.setIfInBounds_toArray,List.set_cons_zero,List.set_cons_succ]);exact rfl)):wpAnyH P md ops Q S (fuel+1) listed a w:=by
 subst ha
 exact wpAnyH_take hi hs hf hr hQ (Or.inl ⟨hw,hy⟩) hS h
theorem tz {md:Region.Mode} {ops:Array Oper} {Q:Exit→Act→World→Prop} {S:World→Prop} (i:Nat) {oi:Oper} (hi:ops[i]? =some oi)
 (h:wpAnyH P md ops Q S fuel (listed.setIfInBounds i true) a' w) (hs:Region.noSelect ops=true:=by kernel_rfl) (hf:Region.free md ops listed i=true:=by kernel_rfl) (hr:(Region.ready md ops listed).contains i=true:=by kernel_rfl)
 (hQ:∀c a w,Q (.panic c) (a.put oi.dst undef) w→Q (.panic c) a w:=by exact fun _ _ _ h=>h) (hw:Region.wanted oi (yielded ops a.tmps)=false:=by kernel_rfl) (hS:S w:=by assumption)
 (ha:a.put oi.dst undef=a':=by ((try simp only [Act.put,List.setIfInBounds_toArray,List.set_cons_zero,List.set_cons_succ]);exact rfl)):wpAnyH P md ops Q S (fuel+1) listed a w:=by
 subst ha
 exact wpAnyH_take hi hs hf hr hQ (Or.inr ⟨hw,rfl⟩) hS h
end
namespace S
variable {p q:Prop}
def one (b:Bool):Int:=if b then 1 else 0
def sgn (a:Int):Int:=if a < 128 then a else a - 256
def ovf (s:Int):Bool:=decide (s < -128)||decide (127 < s)
def sumR (a b:Int) (c:Bool):Int:=(a+b+one c) % 256
def sumO (a b:Int) (c:Bool):Bool:=decide (255 < a+b+one c)
def sumH (a b:Int) (c:Bool):Bool:=decide (15 < a % 16+b % 16+one c)
def sumV (a b:Int) (c:Bool):Bool:=ovf (sgn a+sgn b+one c)
def difR (a b:Int) (c:Bool):Int:=(a - b - one c) % 256
def difO (a b:Int) (c:Bool):Bool:=decide (a - b - one c < 0)
def difH (a b:Int) (c:Bool):Bool:=decide (15 < a % 16+(15 - b % 16)+(1 - one c))
def difV (a b:Int) (c:Bool):Bool:=ovf (sgn a - sgn b - one c)
def maj (a b c:Bool):Bool:=(a && b)||(a && c)||(b && c)
def joi (h l:Int):Int:=bits .or .u16 (h * 256) l
def parN (a:Int):Nat→Bool
 |0=>true
 |k+1=>if a / 2 ^ k % 2=1 then !parN a k else parN a k
def par (a:Int):Bool:=parN a 8
theorem one_bd (b:Bool):0≤one b∧one b≤1:=by cases b<;>simp [one]
theorem sgn_bd (a:Int) (h0:0≤a) (h1:a < 256): -128≤sgn a∧sgn a≤127:=by unfold sgn;split<;>omega
theorem sgn_wrap (a:Int) (h0:0≤a) (h1:a < 256):wrap64 (IntKind.i8.wrap a)=sgn a:=by
 unfold sgn
 split<;>simp [wrap64,IntKind.wrap,IntKind.bits,IntKind.signed]<;>omega
theorem sumR_bd (a b:Int) (c:Bool):0≤sumR a b c∧sumR a b c < 256:=by unfold sumR;omega
theorem difR_bd (a b:Int) (c:Bool):0≤difR a b c∧difR a b c < 256:=by unfold difR;omega
theorem and1_fin:∀n:Fin 256,bits .and .u8 (n.val:Int) 1=(n.val:Int) % 2:=by decide+kernel
theorem and1 (a:Int) (a0:0≤a) (a1:a < 256):bits .and .u8 a 1=a % 2:=by
 have h:=and1_fin ⟨a.toNat,by omega⟩
 simpa [Int.toNat_of_nonneg a0] using h
theorem bit_test (a:Int) (a0:0≤a) (a1:a < 256) (d:Int) (d0:0 < d):(bits .and .u8 (a / d) 1==1)=decide (a / d % 2=1):=by
 have h0:0≤a / d:=Int.ediv_nonneg a0 (Int.le_of_lt d0)
 have h1:a / d≤a:=Int.ediv_le_self d a0
 rw [and1 (a / d) h0 (by omega)]
 rfl
theorem joi_eq (h l:Int) (h0:0≤h) (h1:h < 256) (l0:0≤l) (l1:l < 256):joi h l=256 * h+l:=by
 unfold joi
 rw [u16_or _ _ (by omega) (by omega) l0 (by omega)]
 have e:(h * 256).toNat=2 ^ 8 * h.toNat:=by omega
 rw [e,←Nat.two_pow_add_eq_or_of_lt (by omega)]
 omega
theorem joi_bd {h l:Int} (h0:0≤h) (h1:h < 256) (l0:0≤l) (l1:l < 256):0≤joi h l∧joi h l < 65536:=by
 rw [joi_eq h l h0 h1 l0 l1];omega
theorem dec_iff [Decidable p] [Decidable q] (h:p↔q):decide p=decide q:=by simp [h]
theorem dec_not [Decidable p] [Decidable q] (h:p↔¬q):decide p= !decide q:=by simp [h]
end S
section
variable {a b:Int} {c:Bool} {w:World}
theorem ri {k:IntKind} (h:a=b):Ending.returned (.int k a)=.returned (.int k b):=by rw [h]
theorem rb {a b:Bool} (h:a=b):Ending.returned (.bool a)=.returned (.bool b):=by rw [h]
theorem one_any {b:Bool}:Calls Tryz.prog 183 #[.bool b] w fun e w'=>e=.returned (.int .i64 (S.one b))∧w=w':=by
 cases b
 all_goals
  go_enter Tryz.func183,Tryz.ntmps183
  go_wp2
  go_ret
  exact ⟨rfl,rfl⟩
theorem rsigned_any (h0:0≤a) (h1:a < 256):Calls Tryz.prog 184 #[.int .u8 a] w fun e w'=>e=.returned (.int .i64 (S.sgn a))∧w=w':=by
 go_enter Tryz.func184,Tryz.ntmps184
 go_wp2
 go_ret
 exact ⟨ri (S.sgn_wrap a h0 h1),rfl⟩
theorem rsum_any (a0:0≤a) (a1:a < 256) (b0:0≤b) (b1:b < 256):
 Calls Tryz.prog 176 #[.int .u8 a,.int .u8 b,.bool c] w fun e w'=>e=.returned (.tuple #[.int .u8 (S.sumR a b c),.bool (S.sumO a b c),.bool (S.sumH a b c),.bool (S.sumV a b c)])∧w=w':=by
 have hc:=S.one_bd c
 have sa:=S.sgn_bd a a0 a1
 have sb:=S.sgn_bd b b0 b1
 go_enter Tryz.func176,Tryz.ntmps176
 go_wp2_with (first|(go_at_call 183;refine sm (one_any) ?_)|(go_at_call 184;refine sm (rsigned_any (by assumption) (by assumption)) ?_))
 all_goals exact bodyPost_ret (by simp [results,Tryz.results176,go_sem];simp [S.sumR,S.sumO,S.sumH,S.sumV,S.ovf, *]) rfl ⟨rfl,rfl⟩
theorem rdif_any (a0:0≤a) (a1:a < 256) (b0:0≤b) (b1:b < 256):
 Calls Tryz.prog 177 #[.int .u8 a,.int .u8 b,.bool c] w fun e w'=>e=.returned (.tuple #[.int .u8 (S.difR a b c),.bool (S.difO a b c),.bool (S.difH a b c),.bool (S.difV a b c)])∧w=w':=by
 have hc:=S.one_bd c
 have sa:=S.sgn_bd a a0 a1
 have sb:=S.sgn_bd b b0 b1
 go_enter Tryz.func177,Tryz.ntmps177
 go_wp2_with (first|(go_at_call 183;refine sm (one_any) ?_)|(go_at_call 184;refine sm (rsigned_any (by assumption) (by assumption)) ?_))
 all_goals exact bodyPost_ret (by simp [results,Tryz.results177,go_sem];simp [S.difR,S.difO,S.difH,S.difV,S.ovf, *];omega) rfl ⟨rfl,rfl⟩
theorem rparity_any (a0:0≤a) (a1:a < 256):Calls Tryz.prog 182 #[.int .u8 a] w fun e w'=>e=.returned (.bool (S.par a))∧w=w':=by
 go_enter Tryz.func182,Tryz.ntmps182
 go_wp2
 go_loop [3,4] (fun e i=>∃k:Nat,k≤8∧i=.int .i64 k∧e=.bool (S.parN a k)) (fun _ i=>8 - (intOf i).toNat)
 case atStart=>exact ⟨0,by omega,rfl,rfl⟩
 case round=>
  obtain ⟨k,hk,rfl,rfl⟩:=hrel
  by_cases hlt:k < 8
  ·have hs:S.parN a (k+1)=if a / 2 ^ k % 2=1 then !S.parN a k else S.parN a k:=rfl
   have ht:=S.bit_test a a0 a1 (2 ^ k) (by exact Int.pow_pos (by decide))
   by_cases hb:a / 2 ^ k % 2=1
   all_goals
    first|rw [if_pos hb] at hs|rw [if_neg hb] at hs
    first|rw [decide_eq_true hb] at ht|rw [decide_eq_false hb] at ht
    clear hb
    have hs':Hid _:=hs
    clear hs
    rcases (by omega:k=0∨k=1∨k=2∨k=3∨k=4∨k=5∨k=6∨k=7) with rfl|rfl|rfl|rfl|rfl|rfl|rfl|rfl
    all_goals
     simp only [Int.reducePow,Int.ediv_one] at ht
     go_wp2
     go_round
     case rel=>first|exact ⟨1,by omega,rfl,by rw [hs'.out]⟩|exact ⟨2,by omega,rfl,by rw [hs'.out]⟩|exact ⟨3,by omega,rfl,by rw [hs'.out]⟩|exact ⟨4,by omega,rfl,by rw [hs'.out]⟩|exact ⟨5,by omega,rfl,by rw [hs'.out]⟩|exact ⟨6,by omega,rfl,by rw [hs'.out]⟩|exact ⟨7,by omega,rfl,by rw [hs'.out]⟩|exact ⟨8,by omega,rfl,by rw [hs'.out]⟩
     case measure=>simp [intOf]
  ·have:k=8:=by omega
   subst this
   go_wp2
   go_ret
   exact ⟨rfl,rfl⟩
theorem rmajority_any {a b:Bool}:Calls Tryz.prog 180 #[.bool a,.bool b,.bool c] w fun e w'=>e=.returned (.bool (S.maj a b c))∧w=w':=by
 cases a<;>cases b<;>cases c
 all_goals
  go_enter Tryz.func180,Tryz.ntmps180
  go_wp2
  go_ret
  exact ⟨rfl,rfl⟩
theorem rjoin_any (a0:0≤a) (a1:a < 256) (b0:0≤b) (b1:b < 256) (w:World):Calls Tryz.prog 155 #[.int .u8 a,.int .u8 b] w fun e w'=>e=.returned (.int .u16 (S.joi a b))∧w=w':=by
 go_enter Tryz.func155,Tryz.ntmps155
 go_wp2
 go_ret
 exact ⟨rfl,rfl⟩
end
section
variable {a:Option Addr} {cap len:Nat} {v:Value} {w:World} {x:Addr} {zs:List Int}
def S.plc (z n:Int):Int:=z % 18446744073709551616 % n
theorem S.plc_bd (z n:Int) (n0:1≤n):0≤S.plc z n∧S.plc z n < n:=by
 unfold S.plc
 exact ⟨Int.emod_nonneg _ (by omega),Int.emod_lt_of_pos _ (by omega)⟩
theorem S.plc_eq (z n:Int) (n0:1≤n) (n1:n≤9223372036854775807):wrap64 ((IntKind.u64.wrap z).tmod n)=S.plc z n:=by
 have h0:IntKind.u64.wrap z=z % 18446744073709551616:=by simp [IntKind.wrap,IntKind.bits,IntKind.signed]
 obtain ⟨b0,b1⟩:=S.plc_bd z n n0
 rw [h0,Int.tmod_eq_emod_of_nonneg (by omega)]
 exact IntWalk.wrap64_in _ ⟨by unfold S.plc at b0;omega,by unfold S.plc at b1;omega⟩
theorem mplace_any {z n:Int} (n0:1≤n) (n1:n≤9223372036854775807):Calls Tryz.prog 43 #[.int .i64 z,.int .i64 n] w fun e w'=>e=.returned (.int .i64 (S.plc z n))∧w=w':=by
 go_enter Tryz.func43,Tryz.ntmps43
 go_wp2
 go_ret
 exact ⟨ri (S.plc_eq z n n0 n1),rfl⟩
theorem from_any (a:Option Addr) (len cap:Nat) (w:World):Calls Tryz.prog 14 #[.slice a len cap] w fun e w'=>e=.returned (.pointer (some ⟨w.heap.size,0,none⟩))∧w'=w.alloc (.cells #[.slice a len cap,.int .i64 0] 86):=by
 go_enter Tryz.func14,Tryz.ntmps14
 go_wp2
 go_ret
 exact ⟨rfl,rfl⟩
theorem next_none (b len cap N:Nat) (a:Option Addr) (n:Int) (hN:len≤N) (hM:N≤1000000000) (w:World) (hB:b < w.heap.size) (h0:w.cell? ⟨b,0,none⟩=some (.slice a len cap)) (h1:w.cell? ⟨b,1,none⟩=some (.int .i64 (N:Int))) (hf:w.frozen? ⟨b,1,none⟩=false):
 Calls Tryz.prog 18 #[.pointer (some ⟨b,0,none⟩),.int .i64 n] w fun e w'=>e=.returned (.int .i64 0)∧∃p:By,w'=More (w.setCell ⟨b,1,none⟩ (.int .i64 ((N:Int)+1))) p.n p.os:=by
 go_enter Tryz.func18,Tryz.ntmps18
 go_wp2_with fail
 refine qt ?_
 repeat (go_big_quiet_step (fail))
 refine qn fun nq osq=> ?_
 go_wp2_with fail
 go_ret
 exact ⟨rfl,⟨nq,osq⟩,rfl⟩
theorem next_some (b bx ox len cap N:Nat) (z n:Int) (n0:1≤n) (n1:n≤65536) (hN:N < len) (hM:N≤1000000000) (hL:len≤9223372036854775807) (hlc:len≤cap) (w:World) (hB:b < w.heap.size) (hb:bx < b) (h0:w.cell? ⟨b,0,none⟩=some (.slice (some ⟨bx,ox,none⟩) len cap)) (h1:w.cell? ⟨b,1,none⟩=some (.int .i64 (N:Int))) (hf:w.frozen? ⟨b,1,none⟩=false) (hz:w.cell? ⟨bx,ox+N,none⟩=some (.int .i64 z)):
 Calls Tryz.prog 18 #[.pointer (some ⟨b,0,none⟩),.int .i64 n] w fun e w'=>e=.returned (.int .i64 (S.plc z n))∧∃p:By,w'=More (w.setCell ⟨b,1,none⟩ (.int .i64 ((N:Int)+1))) p.n p.os:=by
 have hs:IntKind.i64.wrap ((N:Int)+1 - 1)=N:=by rw [show (N:Int)+1 - 1=N by omega];exact IntWalk.i64_in _ (by omega)
 have p0:(0:Int)≤N:=by omega
 have p1:(N:Int) < len:=by omega
 have hne:bx≠b:=by omega
 have hbx:bx < w.heap.size:=by omega
 go_enter Tryz.func18,Tryz.ntmps18
 go_wp2_with fail
 refine qt ?_
 repeat (go_big_quiet_step (fail))
 refine qn fun nq osq=> ?_
 go_wp2_with fail
 refine qt ?_
 repeat (go_big_quiet_step (first|(go_at_call 43;exact calls_same (mplace_any n0 (by omega)))))
 refine qn fun nq osq=> ?_
 go_wp2_with fail
 go_ret
 exact ⟨rfl,⟨_,_⟩,More_more ..⟩
def IsRow (k:IntKind) (w:World) (a:Option Addr) (len cap:Nat) (zs:List Int):Prop:=
 (a=none∧len=0∧cap=0∧zs=[])∨
 ∃x,a=some x∧len≤cap∧cap≤maxLen∧zs.length=cap∧(∀i,i < zs.length→w.cell? (x.add i)=some (.int k (zs.getD i 0)))∧∀n∈zs,(Lit.int k n).wf=true
theorem cell_lt (h:w.cell? x=some v):x.block < w.heap.size:=by
 unfold World.cell? at h
 rcases Nat.lt_or_ge x.block w.heap.size with h' |h'
 ·exact h'
 ·simp [Array.getElem?_eq_none h'] at h
theorem cell_spot (h:w.cell? x=some v):x.spot=none:=by
 unfold World.cell? at h
 split at h
 ·split at h
  ·cases h
  ·rename_i hs;simpa using hs
 ·cases h
theorem IsRow.alloc {k:IntKind} (h:IsRow k w a len cap zs) (o:Obj):IsRow k (w.alloc o) a len cap zs:=by
 rcases h with h|⟨x,h1,h2,h3,h4,h5,h6⟩
 ·exact .inl h
 ·exact .inr ⟨x,h1,h2,h3,h4,fun i hi=>by rw [World.cell?_alloc_lt w o _ (cell_lt (h5 i hi))];exact h5 i hi,h6⟩
theorem IsRow.drew {k:IntKind} (h:IsRow k w a len cap zs):IsRow k w.drew a len cap zs:=h
theorem IsRow.lt {k:IntKind} (h:IsRow k w a len cap zs) (hl:0 < len):∃x,a=some x∧x.block < w.heap.size:=by
 rcases h with ⟨_,h,_,_⟩|⟨x,rfl,h2,h3,h4,h5,h6⟩
 ·omega
 ·exact ⟨x,rfl,cell_lt (h5 0 (by omega))⟩
def S.chip (len:Nat) (zs:List Int):Int:=if 0 < len then 1+S.plc (zs.getD 0 0) 2 else 1
end
section
def rowOf (w:World) (b:Nat):Array Value:=match w.heap[b]? with
 |some (.cells c _ (0,0))=>c
 |_=>#[]
theorem rowOf_some {w:World} {b:Nat} (h:0 < (rowOf w b).size):∃t,w.heap[b]? =some (.cells (rowOf w b) t (0,0)):=by
 unfold rowOf at h⊢
 split at h
 ·rename_i c t hh
  rw [hh]
  exact ⟨t,rfl⟩
 ·simp at h
theorem rowOf_cell {w:World} {b:Nat} {cs:Array Value} (h:rowOf w b=cs) {i:Nat} {v:Value} (hv:cs[i]? =some v):w.cell? ⟨b,i,none⟩=some v:=by
 subst h
 have hpos:0 < (rowOf w b).size:=by have:=(Array.getElem?_eq_some_iff.1 hv).1;omega
 obtain ⟨t,ht⟩:=rowOf_some hpos
 rw [cell_of_row w b i _ t (0,0) ht];exact hv
theorem rowOf_eq {w w':World} {b b':Nat} (h:w.heap[b]? =w'.heap[b']?):rowOf w b=rowOf w' b':=by unfold rowOf;rw [h]
theorem heap_last (w:World) (o:Obj):(w.alloc o).heap[w.heap.size]? =some o:=by
 show (w.heap.push o)[w.heap.size]? =some o
 simp
theorem heap_past (w:World) (o:Obj) {b:Nat} (h:b < w.heap.size):(w.alloc o).heap[b]? =w.heap[b]? :=by
 show (w.heap.push o)[b]? =w.heap[b]?
 rw [Array.getElem?_push,if_neg (by omega)]
@[go_sem] theorem rowOf_last (w:World) (b:Nat) (cs:Array Value) (t:TypeId) (h:b=w.heap.size):rowOf (w.alloc (.cells cs t)) b=cs:=by
 subst h;unfold rowOf;rw [heap_last];rfl
@[go_sem] theorem rowOf_past (w:World) (b:Nat) (o:Obj) (h:InB b w):rowOf (w.alloc o) b=rowOf w b:=rowOf_eq (heap_past w o h)
@[go_sem] theorem rowOf_More {w:World} {n:Nat} {os:Array Obj} {b:Nat} (h:InB b w):rowOf (More w n os) b=rowOf w b:=rowOf_eq (More_heap w n os h)
@[go_sem] theorem rowOf_drew (w:World) (b:Nat):rowOf w.drew b=rowOf w b:=rowOf_eq rfl
@[go_sem] theorem rowOf_drewN (w:World) (n b:Nat):rowOf (w.drewN n) b=rowOf w b:=rowOf_eq rfl
@[go_sem] theorem setRow_last (w:World) (b:Nat) (cs old:Array Value) (t:TypeId) (h:b=w.heap.size):(w.alloc (.cells old t)).setRow b cs=w.alloc (.cells cs t):=by
 subst h
 simp only [World.setRow,World.alloc]
 congr 1
 apply Array.ext_getElem?
 intro i
 rw [Array.getElem?_modify]
 by_cases h:w.heap.size=i
 ·subst h;simp
 ·have h':¬i=w.heap.size:=fun e=>h e.symm
  simp [h,h',Array.getElem?_push]
@[go_sem] theorem setRow_past (w:World) (b:Nat) (cs:Array Value) (o:Obj) (h:InB b w):(w.alloc o).setRow b cs=(w.setRow b cs).alloc o:=by
 simp only [World.setRow,World.alloc]
 congr 1
 apply Array.ext_getElem?
 intro i
 have hb:b < w.heap.size:=h
 simp only [Array.getElem?_modify,Array.getElem?_push,Array.size_modify]
 by_cases h1:i=w.heap.size
 ·simp [h1];omega
 ·simp [h1]
@[go_sem] theorem setRow_More (w:World) (n:Nat) (os:Array Obj) (b:Nat) (cs:Array Value) (h:InB b w):(More w n os).setRow b cs=More (w.setRow b cs) n os:=by
 unfold More World.setRow
 simp only []
 rw [modify_left h]
@[go_sem] theorem setRow_drew (w:World) (b:Nat) (cs:Array Value):w.drew.setRow b cs=(w.setRow b cs).drew:=rfl
@[go_sem] theorem setRow_drewN (w:World) (n b:Nat) (cs:Array Value):(w.drewN n).setRow b cs=(w.setRow b cs).drewN n:=rfl
def wholeVar (t:TypeId) (a:Addr):Sem Value:=loadVar t a
def wholeSet (t:TypeId) (a:Addr) (v:Value):Sem Unit:=storeVar t a v
@[go_sem] def part8 (o n:Nat) (cs:Array Value):Array Value:=((cs.toList.drop o).take n).toArray
@[go_sem] def put8 (o:Nat) (new cs:Array Value):Array Value:=(cs.toList.take o++new.toList++cs.toList.drop (o+new.toList.length)).toArray
@[go_sem] def ones (vs:List Value):Bool:=vs.all (·.oneCell')
@[go_sem] theorem one_int (k:IntKind) (n:Int):(Value.int k n).oneCell'=true:=rfl
@[go_sem] theorem one_bool (b:Bool):(Value.bool b).oneCell'=true:=rfl
@[go_sem] theorem one_slice (a:Option Addr) (n c:Nat):(Value.slice a n c).oneCell'=true:=rfl
@[go_sem] theorem one_pointer (a:Option Addr):(Value.pointer a).oneCell'=true:=rfl
section
variable {P:Program}
theorem run_part {t:TypeId} {n:Nat} {fs:Array Field} (hu:P.underlying t=some (.struct fs)) (hi:(P.info? t).map (·.size)=some n) (hn:0 < n) (w:World) (b o:Nat) (h:o+n≤(rowOf w b).size):
 (wholeVar t ⟨b,o,none⟩).run P w=.ok (.agg (part8 o n (rowOf w b))) w:=by
 obtain ⟨t',hg⟩:=rowOf_some (w:=w) (b:=b) (by omega)
 have hl:(loadCells ⟨b,o,none⟩ (((rowOf w b).toList.drop o).take n).length).run P w=.ok (((rowOf w b).toList.drop o).take n).toArray w:=
  run_loadCells_list (P:=P) w ⟨b,o,none⟩ _ (fun j v hv=>by
   have hadd:(⟨b,o,none⟩:Addr).add j=⟨b,o+j,none⟩:=by unfold Addr.add;split<;>simp_all
   rw [hadd,cell_of_row w b (o+j) _ t' (0,0) hg]
   rw [List.getElem?_take] at hv
   split at hv
   ·simpa [List.getElem?_drop] using hv
   ·cases hv)
 have hlen:(((rowOf w b).toList.drop o).take n).length=n:=by simp;omega
 rw [hlen] at hl
 cases hq:P.info? t with
 |none=>simp [hq] at hi
 |some i=>
  have hs:i.size=n:=by simpa [hq] using hi
  have hagg:(isAgg t).run P w=.ok true w:=by
   unfold isAgg
   rw [Sem.run_bind,run_underlying hu w]
   rfl
  simp [wholeVar,part8,loadVar,Sem.run_bind,hagg,sizeOf,typeInfo,hq,hs,hl]
theorem run_all {t:TypeId} {n:Nat} {fs:Array Field} (hu:P.underlying t=some (.struct fs)) (hi:(P.info? t).map (·.size)=some n) (hn:0 < n) (w:World) (b:Nat) (h:(rowOf w b).size=n):
 (wholeVar t ⟨b,0,none⟩).run P w=.ok (.agg (rowOf w b)) w:=by
 rw [run_part hu hi hn w b 0 (by omega)]
 have:part8 0 n (rowOf w b)=rowOf w b:=by
  unfold part8
  rw [List.drop_zero,List.take_of_length_le (by simp;omega)]
 rw [this]
theorem set_part {t:TypeId} {n:Nat} (hi:(P.info? t).map (·.size)=some n) (w:World) (b o:Nat) (cs:Array Value) (hc:cs.size=n) (hn:0 < n) (h:o+n≤(rowOf w b).size) (h1:ones cs.toList=true):
 (wholeSet t ⟨b,o,none⟩ (.agg cs)).run P w=.ok () (w.setRow b (put8 o cs (rowOf w b))):=by
 obtain ⟨t',hg⟩:=rowOf_some (w:=w) (b:=b) (by omega)
 have:=run_storeCells_at P b o t' cs.toList 0 (rowOf w b) w hg (by simp;omega) (fun v hv=>(List.all_eq_true.1 h1) v hv)
 cases hq:P.info? t with
 |none=>simp [hq] at hi
 |some i=>
  have hs:cs.size=i.size:=by simp [hq] at hi;omega
  simp only [Nat.add_zero] at this
  simp [wholeSet,put8,storeVar,sizeOf,typeInfo,hq,Value.cells,hs,this]
theorem set_all {t:TypeId} {n:Nat} (hi:(P.info? t).map (·.size)=some n) (w:World) (b:Nat) (cs:Array Value) (hc:cs.size=n) (hn:0 < n) (h:(rowOf w b).size=n) (h1:ones cs.toList=true):
 (wholeSet t ⟨b,0,none⟩ (.agg cs)).run P w=.ok () (w.setRow b cs):=by
 rw [set_part hi w b 0 cs hc hn (by omega) h1]
 have:put8 0 cs (rowOf w b)=cs:=by
  unfold put8
  rw [List.take_zero,List.drop_of_length_le (by simp;omega)]
  simp
 rw [this]
theorem ret_all {fn:Func} {p:Tmp} {t:TypeId} {n:Nat} {fs:Array Field} (hf:fn.results=#[.cell p t]) (hu:P.underlying t=some (.struct fs)) (hi:(P.info? t).map (·.size)=some n) (hn:0 < n) (tmps:Array Value) (w:World) (b:Nat) (cs:Array Value)
 (hp:tmps.getD p undef=.pointer (some ⟨b,0,none⟩)) (hr:rowOf w b=cs) (hs:cs.size=n):(results fn tmps).run P w=.ok (.agg cs) w:=by
 subst hr
 obtain ⟨t',hg⟩:=rowOf_some (w:=w) (b:=b) (by omega)
 exact results_cell_row hf tmps w b t' _ (0,0) _ hp hg hu rfl (by rw [hi,hs])
theorem ret2_all {fn:Func} {p0 p:Tmp} {t:TypeId} {n:Nat} {fs:Array Field} (hf:fn.results=#[.tmp p0,.cell p t]) (hu:P.underlying t=some (.struct fs)) (hi:(P.info? t).map (·.size)=some n) (hn:0 < n) (tmps:Array Value) (w:World) (b:Nat) (cs:Array Value) (v0:Value)
 (h0:tmps.getD p0 undef=v0) (hp:tmps.getD p undef=.pointer (some ⟨b,0,none⟩)) (hr:rowOf w b=cs) (hs:cs.size=n):(results fn tmps).run P w=.ok (.tuple #[v0,.agg cs]) w:=by
 subst hr
 have hl:(loadVar t ⟨b,0,none⟩).run P w=.ok (.agg (rowOf w b)) w:=run_all hu hi hn w b hs
 have hp':tmps[p]?.getD undef=.pointer (some ⟨b,0,none⟩):=by simpa using hp
 have h0':tmps[p0]?.getD undef=v0:=by simpa using h0
 simp [results,hf,hp',h0',asAddr,hl]
theorem ret3_all {fn:Func} {p0 p:Tmp} {t:TypeId} {n:Nat} {fs:Array Field} (hf:fn.results=#[.cell p t,.tmp p0]) (hu:P.underlying t=some (.struct fs)) (hi:(P.info? t).map (·.size)=some n) (hn:0 < n) (tmps:Array Value) (w:World) (b:Nat) (cs:Array Value) (v0:Value)
 (h0:tmps.getD p0 undef=v0) (hp:tmps.getD p undef=.pointer (some ⟨b,0,none⟩)) (hr:rowOf w b=cs) (hs:cs.size=n):(results fn tmps).run P w=.ok (.tuple #[.agg cs,v0]) w:=by
 subst hr
 have hl:(loadVar t ⟨b,0,none⟩).run P w=.ok (.agg (rowOf w b)) w:=run_all hu hi hn w b hs
 have hp':tmps[p]?.getD undef=.pointer (some ⟨b,0,none⟩):=by simpa using hp
 have h0':tmps[p0]?.getD undef=v0:=by simpa using h0
 simp [results,hf,hp',h0',asAddr,hl]
end
@[go_sem ↓] theorem load_Flags (a:Addr):loadVar 33 a=wholeVar 33 a:=by unfold wholeVar;rfl
@[go_sem ↓] theorem store_Flags (a:Addr) (v:Value):storeVar 33 a v=wholeSet 33 a v:=by unfold wholeSet;rfl
@[go_sem] theorem run_load_Flags (w:World) (b o:Nat) (h:o+7≤(rowOf w b).size):(wholeVar 33 ⟨b,o,none⟩).run Tryz.prog w=.ok (.agg (part8 o 7 (rowOf w b))) w:=
 run_part Tryz.underlying33 (by kernel_rfl) (by decide) w b o h
@[go_sem] theorem run_store_Flags (w:World) (b o:Nat) (cs:Array Value) (hc:cs.size=7) (h:o+7≤(rowOf w b).size) (h1:ones cs.toList=true):(wholeSet 33 ⟨b,o,none⟩ (.agg cs)).run Tryz.prog w=.ok () (w.setRow b (put8 o cs (rowOf w b))):=
 set_part (by kernel_rfl) w b o cs hc (by decide) h h1
theorem ret_Regs {fn:Func} {p:Tmp} (hf:fn.results=#[.cell p 36]) {tmps:Array Value} {w:World} {b:Nat} {cs:Array Value} (hp:tmps.getD p undef=.pointer (some ⟨b,0,none⟩)) (hr:rowOf w b=cs) (hs:cs.size=16):(results fn tmps).run Tryz.prog w=.ok (.agg cs) w:=
 ret_all hf Tryz.underlying36 (by kernel_rfl) (by decide) tmps w b cs hp hr hs
@[go_sem ↓] theorem load_Regs (a:Addr):loadVar 36 a=wholeVar 36 a:=by unfold wholeVar;rfl
@[go_sem ↓] theorem store_Regs (a:Addr) (v:Value):storeVar 36 a v=wholeSet 36 a v:=by unfold wholeSet;rfl
@[go_sem] theorem run_load_Regs (w:World) (b:Nat) (h:(rowOf w b).size=16):(wholeVar 36 ⟨b,0,none⟩).run Tryz.prog w=.ok (.agg (rowOf w b)) w:=
 run_all Tryz.underlying36 (by kernel_rfl) (by decide) w b h
@[go_sem] theorem run_store_Regs (w:World) (b:Nat) (cs:Array Value) (hc:cs.size=16) (h:(rowOf w b).size=16) (h1:ones cs.toList=true):(wholeSet 36 ⟨b,0,none⟩ (.agg cs)).run Tryz.prog w=.ok () (w.setRow b cs):=
 set_all (by kernel_rfl) w b cs hc (by decide) h h1
@[go_sem] theorem eq_Regs (rA rB rC rD rE rH rL:Int) (rS rZ rK rAC rP rV rCY:Bool) (rSP rPC:Int) (qA qB qC qD qE qH qL:Int) (qS qZ qK qAC qP qV qCY:Bool) (qSP qPC:Int) (w:World):(Op.equalIn 10000 36 (.agg #[.int .u8 rA,.int .u8 rB,.int .u8 rC,.int .u8 rD,.int .u8 rE,.int .u8 rH,.int .u8 rL,.bool rS,.bool rZ,.bool rK,.bool rAC,.bool rP,.bool rV,.bool rCY,.int .u16 rSP,.int .u16 rPC]) (.agg #[.int .u8 qA,.int .u8 qB,.int .u8 qC,.int .u8 qD,.int .u8 qE,.int .u8 qH,.int .u8 qL,.bool qS,.bool qZ,.bool qK,.bool qAC,.bool qP,.bool qV,.bool qCY,.int .u16 qSP,.int .u16 qPC])).run Tryz.prog w=
 .ok (same [.int .u8 rA,.int .u8 rB,.int .u8 rC,.int .u8 rD,.int .u8 rE,.int .u8 rH,.int .u8 rL,.bool rS,.bool rZ,.bool rK,.bool rAC,.bool rP,.bool rV,.bool rCY,.int .u16 rSP,.int .u16 rPC] [.int .u8 qA,.int .u8 qB,.int .u8 qC,.int .u8 qD,.int .u8 qE,.int .u8 qH,.int .u8 qL,.bool qS,.bool qZ,.bool qK,.bool qAC,.bool qP,.bool qV,.bool qCY,.int .u16 qSP,.int .u16 qPC]) w:=
 eq_agg 6 [.int .u8,.int .u8,.int .u8,.int .u8,.int .u8,.int .u8,.int .u8,.bool,.bool,.bool,.bool,.bool,.bool,.bool,.int .u16,.int .u16] Tryz.underlying36 (by kernel_rfl) (by decide) w (by simp [shaped]) (by simp [shaped])
theorem ret_CPU {fn:Func} {p:Tmp} (hf:fn.results=#[.cell p 38]) {tmps:Array Value} {w:World} {b:Nat} {cs:Array Value} (hp:tmps.getD p undef=.pointer (some ⟨b,0,none⟩)) (hr:rowOf w b=cs) (hs:cs.size=28):(results fn tmps).run Tryz.prog w=.ok (.agg cs) w:=
 ret_all hf Tryz.underlying38 (by kernel_rfl) (by decide) tmps w b cs hp hr hs
theorem ret2_CPU {fn:Func} {p0 p:Tmp} (hf:fn.results=#[.tmp p0,.cell p 38]) {tmps:Array Value} {w:World} {b:Nat} {cs:Array Value} {v0:Value} (h0:tmps.getD p0 undef=v0) (hp:tmps.getD p undef=.pointer (some ⟨b,0,none⟩)) (hr:rowOf w b=cs) (hs:cs.size=28):(results fn tmps).run Tryz.prog w=.ok (.tuple #[v0,.agg cs]) w:=
 ret2_all hf Tryz.underlying38 (by kernel_rfl) (by decide) tmps w b cs v0 h0 hp hr hs
@[go_sem ↓] theorem load_CPU (a:Addr):loadVar 38 a=wholeVar 38 a:=by unfold wholeVar;rfl
@[go_sem ↓] theorem store_CPU (a:Addr) (v:Value):storeVar 38 a v=wholeSet 38 a v:=by unfold wholeSet;rfl
@[go_sem] theorem run_load_CPU (w:World) (b:Nat) (h:(rowOf w b).size=28):(wholeVar 38 ⟨b,0,none⟩).run Tryz.prog w=.ok (.agg (rowOf w b)) w:=
 run_all Tryz.underlying38 (by kernel_rfl) (by decide) w b h
@[go_sem] theorem run_store_CPU (w:World) (b:Nat) (cs:Array Value) (hc:cs.size=28) (h:(rowOf w b).size=28) (h1:ones cs.toList=true):(wholeSet 38 ⟨b,0,none⟩ (.agg cs)).run Tryz.prog w=.ok () (w.setRow b cs):=
 set_all (by kernel_rfl) w b cs hc (by decide) h h1
@[go_sem] theorem eq_CPU (rCh rA rB rC rD rE rH rL:Int) (rfS rfZ rfK rfAC rfP rfV rfCY:Bool) (rSP rPC:Int) (rIE rDe rHa:Bool) (rMa:Int) (rTr rR7 rWT rW7 rSa rSI rSO:Bool) (qCh qA qB qC qD qE qH qL:Int) (qfS qfZ qfK qfAC qfP qfV qfCY:Bool) (qSP qPC:Int) (qIE qDe qHa:Bool) (qMa:Int) (qTr qR7 qWT qW7 qSa qSI qSO:Bool) (w:World):(Op.equalIn 10000 38 (.agg #[.int .i64 rCh,.int .u8 rA,.int .u8 rB,.int .u8 rC,.int .u8 rD,.int .u8 rE,.int .u8 rH,.int .u8 rL,.bool rfS,.bool rfZ,.bool rfK,.bool rfAC,.bool rfP,.bool rfV,.bool rfCY,.int .u16 rSP,.int .u16 rPC,.bool rIE,.bool rDe,.bool rHa,.int .u8 rMa,.bool rTr,.bool rR7,.bool rWT,.bool rW7,.bool rSa,.bool rSI,.bool rSO]) (.agg #[.int .i64 qCh,.int .u8 qA,.int .u8 qB,.int .u8 qC,.int .u8 qD,.int .u8 qE,.int .u8 qH,.int .u8 qL,.bool qfS,.bool qfZ,.bool qfK,.bool qfAC,.bool qfP,.bool qfV,.bool qfCY,.int .u16 qSP,.int .u16 qPC,.bool qIE,.bool qDe,.bool qHa,.int .u8 qMa,.bool qTr,.bool qR7,.bool qWT,.bool qW7,.bool qSa,.bool qSI,.bool qSO])).run Tryz.prog w=.ok (same [.int .i64 rCh,.int .u8 rA,.int .u8 rB,.int .u8 rC,.int .u8 rD,.int .u8 rE,.int .u8 rH,.int .u8 rL,.bool rfS,.bool rfZ,.bool rfK,.bool rfAC,.bool rfP,.bool rfV,.bool rfCY,.int .u16 rSP,.int .u16 rPC,.bool rIE,.bool rDe,.bool rHa,.int .u8 rMa,.bool rTr,.bool rR7,.bool rWT,.bool rW7,.bool rSa,.bool rSI,.bool rSO] [.int .i64 qCh,.int .u8 qA,.int .u8 qB,.int .u8 qC,.int .u8 qD,.int .u8 qE,.int .u8 qH,.int .u8 qL,.bool qfS,.bool qfZ,.bool qfK,.bool qfAC,.bool qfP,.bool qfV,.bool qfCY,.int .u16 qSP,.int .u16 qPC,.bool qIE,.bool qDe,.bool qHa,.int .u8 qMa,.bool qTr,.bool qR7,.bool qWT,.bool qW7,.bool qSa,.bool qSI,.bool qSO]) w:=
 eq_agg 6 [.int .i64,.int .u8,.int .u8,.int .u8,.int .u8,.int .u8,.int .u8,.int .u8,.bool,.bool,.bool,.bool,.bool,.bool,.bool,.int .u16,.int .u16,.bool,.bool,.bool,.int .u8,.bool,.bool,.bool,.bool,.bool,.bool,.bool] Tryz.underlying38 (by kernel_rfl) (by decide) w (by simp [shaped]) (by simp [shaped])
@[go_sem] theorem run_load_Regs_in (w:World) (b:Nat) (h:(rowOf w b).size=28):(wholeVar 36 ⟨b,1,none⟩).run Tryz.prog w=.ok (.agg (part8 1 16 (rowOf w b))) w:=
 run_part Tryz.underlying36 (by kernel_rfl) (by decide) w b 1 (by omega)
@[go_sem] theorem run_store_Regs_in (w:World) (b:Nat) (cs:Array Value) (hc:cs.size=16) (h:(rowOf w b).size=28) (h1:ones cs.toList=true):(wholeSet 36 ⟨b,1,none⟩ (.agg cs)).run Tryz.prog w=.ok () (w.setRow b (put8 1 cs (rowOf w b))):=
 set_part (by kernel_rfl) w b 1 cs hc (by decide) (by omega) h1
theorem ret_Lines {fn:Func} {p:Tmp} (hf:fn.results=#[.cell p 98]) {tmps:Array Value} {w:World} {b:Nat} {cs:Array Value} (hp:tmps.getD p undef=.pointer (some ⟨b,0,none⟩)) (hr:rowOf w b=cs) (hs:cs.size=9):(results fn tmps).run Tryz.prog w=.ok (.agg cs) w:=
 ret_all hf Tryz.underlying98 (by kernel_rfl) (by decide) tmps w b cs hp hr hs
@[go_sem ↓] theorem load_Lines (a:Addr):loadVar 98 a=wholeVar 98 a:=by unfold wholeVar;rfl
@[go_sem ↓] theorem store_Lines (a:Addr) (v:Value):storeVar 98 a v=wholeSet 98 a v:=by unfold wholeSet;rfl
@[go_sem] theorem run_load_Lines (w:World) (b:Nat) (h:(rowOf w b).size=9):(wholeVar 98 ⟨b,0,none⟩).run Tryz.prog w=.ok (.agg (rowOf w b)) w:=
 run_all Tryz.underlying98 (by kernel_rfl) (by decide) w b h
@[go_sem] theorem run_store_Lines (w:World) (b:Nat) (cs:Array Value) (hc:cs.size=9) (h:(rowOf w b).size=9) (h1:ones cs.toList=true):(wholeSet 98 ⟨b,0,none⟩ (.agg cs)).run Tryz.prog w=.ok () (w.setRow b cs):=
 set_all (by kernel_rfl) w b cs hc (by decide) h h1
theorem ret_PIC {fn:Func} {p:Tmp} (hf:fn.results=#[.cell p 45]) {tmps:Array Value} {w:World} {b:Nat} {cs:Array Value} (hp:tmps.getD p undef=.pointer (some ⟨b,0,none⟩)) (hr:rowOf w b=cs) (hs:cs.size=20):(results fn tmps).run Tryz.prog w=.ok (.agg cs) w:=
 ret_all hf Tryz.underlying45 (by kernel_rfl) (by decide) tmps w b cs hp hr hs
theorem ret3_PIC {fn:Func} {p0 p:Tmp} (hf:fn.results=#[.cell p 45,.tmp p0]) {tmps:Array Value} {w:World} {b:Nat} {cs:Array Value} {v0:Value} (h0:tmps.getD p0 undef=v0) (hp:tmps.getD p undef=.pointer (some ⟨b,0,none⟩)) (hr:rowOf w b=cs) (hs:cs.size=20):(results fn tmps).run Tryz.prog w=.ok (.tuple #[.agg cs,v0]) w:=
 ret3_all hf Tryz.underlying45 (by kernel_rfl) (by decide) tmps w b cs v0 h0 hp hr hs
@[go_sem ↓] theorem load_PIC (a:Addr):loadVar 45 a=wholeVar 45 a:=by unfold wholeVar;rfl
@[go_sem ↓] theorem store_PIC (a:Addr) (v:Value):storeVar 45 a v=wholeSet 45 a v:=by unfold wholeSet;rfl
@[go_sem] theorem run_load_PIC (w:World) (b:Nat) (h:(rowOf w b).size=20):(wholeVar 45 ⟨b,0,none⟩).run Tryz.prog w=.ok (.agg (rowOf w b)) w:=
 run_all Tryz.underlying45 (by kernel_rfl) (by decide) w b h
@[go_sem] theorem run_store_PIC (w:World) (b:Nat) (cs:Array Value) (hc:cs.size=20) (h:(rowOf w b).size=20) (h1:ones cs.toList=true):(wholeSet 45 ⟨b,0,none⟩ (.agg cs)).run Tryz.prog w=.ok () (w.setRow b cs):=
 set_all (by kernel_rfl) w b cs hc (by decide) h h1
@[go_sem] theorem eq_PIC (rSt:Int) (rLe rFo rSi rFt:Bool) (rLw rHg:Int) (rAu rRo rSp rRI rPo:Bool) (rLi rEd rIS rIM rLo rSq rSv:Int) (rSu:Bool) (qSt:Int) (qLe qFo qSi qFt:Bool) (qLw qHg:Int) (qAu qRo qSp qRI qPo:Bool) (qLi qEd qIS qIM qLo qSq qSv:Int) (qSu:Bool) (w:World):(Op.equalIn 10000 45 (.agg #[.int .i64 rSt,.bool rLe,.bool rFo,.bool rSi,.bool rFt,.int .u8 rLw,.int .u8 rHg,.bool rAu,.bool rRo,.bool rSp,.bool rRI,.bool rPo,.int .u8 rLi,.int .u8 rEd,.int .u8 rIS,.int .u8 rIM,.int .i64 rLo,.int .i64 rSq,.int .i64 rSv,.bool rSu]) (.agg #[.int .i64 qSt,.bool qLe,.bool qFo,.bool qSi,.bool qFt,.int .u8 qLw,.int .u8 qHg,.bool qAu,.bool qRo,.bool qSp,.bool qRI,.bool qPo,.int .u8 qLi,.int .u8 qEd,.int .u8 qIS,.int .u8 qIM,.int .i64 qLo,.int .i64 qSq,.int .i64 qSv,.bool qSu])).run Tryz.prog w=.ok (same [.int .i64 rSt,.bool rLe,.bool rFo,.bool rSi,.bool rFt,.int .u8 rLw,.int .u8 rHg,.bool rAu,.bool rRo,.bool rSp,.bool rRI,.bool rPo,.int .u8 rLi,.int .u8 rEd,.int .u8 rIS,.int .u8 rIM,.int .i64 rLo,.int .i64 rSq,.int .i64 rSv,.bool rSu] [.int .i64 qSt,.bool qLe,.bool qFo,.bool qSi,.bool qFt,.int .u8 qLw,.int .u8 qHg,.bool qAu,.bool qRo,.bool qSp,.bool qRI,.bool qPo,.int .u8 qLi,.int .u8 qEd,.int .u8 qIS,.int .u8 qIM,.int .i64 qLo,.int .i64 qSq,.int .i64 qSv,.bool qSu]) w:=
 eq_agg 6 [.int .i64,.bool,.bool,.bool,.bool,.int .u8,.int .u8,.bool,.bool,.bool,.bool,.bool,.int .u8,.int .u8,.int .u8,.int .u8,.int .i64,.int .i64,.int .i64,.bool] Tryz.underlying45 (by kernel_rfl) (by decide) w (by simp [shaped]) (by simp [shaped])
theorem whole_cells {P:Program} {t:TypeId} {n:Nat} {d:TypeDesc} (hu:P.underlying t=some d) (hd:(match d with| .struct _| .array _ _=>true|_=>false)=true) (hi:(P.info? t).map (·.size)=some n) (w:World) (b o:Nat) (vs:Array Value) (hv:vs.size=n)
 (hc:∀j v,vs[j]? =some v→w.cell? ⟨b,o+j,none⟩=some v):(wholeVar t ⟨b,o,none⟩).run P w=.ok (.agg vs) w:=by
 have hl:(loadCells ⟨b,o,none⟩ vs.toList.length).run P w=.ok vs.toList.toArray w:=
  run_loadCells_list (P:=P) w ⟨b,o,none⟩ _ (fun j v h=>by
   have hadd:(⟨b,o,none⟩:Addr).add j=⟨b,o+j,none⟩:=by unfold Addr.add;split<;>simp_all
   rw [hadd]
   exact hc j v (by simpa using h))
 have hlen:vs.toList.length=n:=by simpa using hv
 rw [hlen] at hl
 cases hq:P.info? t with
 |none=>simp [hq] at hi
 |some i=>
  have hs:i.size=n:=by simpa [hq] using hi
  have hagg:(isAgg t).run P w=.ok true w:=by
   unfold isAgg
   rw [Sem.run_bind,run_underlying hu w]
   cases d<;>first|rfl|(simp at hd)
  simp [wholeVar,loadVar,Sem.run_bind,hagg,sizeOf,typeInfo,hq,hs,hl]
theorem ret_Input {fn:Func} {p:Tmp} (hf:fn.results=#[.cell p 96]) {tmps:Array Value} {w:World} {b:Nat} {cs:Array Value} (hp:tmps.getD p undef=.pointer (some ⟨b,0,none⟩)) (hr:rowOf w b=cs) (hs:cs.size=10):(results fn tmps).run Tryz.prog w=.ok (.agg cs) w:=
 ret_all hf Tryz.underlying96 (by kernel_rfl) (by decide) tmps w b cs hp hr hs
@[go_sem ↓] theorem load_Input (a:Addr):loadVar 96 a=wholeVar 96 a:=by unfold wholeVar;rfl
@[go_sem ↓] theorem store_Input (a:Addr) (v:Value):storeVar 96 a v=wholeSet 96 a v:=by unfold wholeSet;rfl
@[go_sem] theorem run_load_Input (w:World) (b:Nat) (h:(rowOf w b).size=10):(wholeVar 96 ⟨b,0,none⟩).run Tryz.prog w=.ok (.agg (rowOf w b)) w:=
 run_all Tryz.underlying96 (by kernel_rfl) (by decide) w b h
@[go_sem] theorem run_store_Input (w:World) (b:Nat) (cs:Array Value) (hc:cs.size=10) (h:(rowOf w b).size=10) (h1:ones cs.toList=true):(wholeSet 96 ⟨b,0,none⟩ (.agg cs)).run Tryz.prog w=.ok () (w.setRow b cs):=
 set_all (by kernel_rfl) w b cs hc (by decide) h h1
@[go_sem] theorem eq_Input (r1 r2 r3 r4 r5 r6 r7 r8:Bool) (r9 r10:Int) (q1 q2 q3 q4 q5 q6 q7 q8:Bool) (q9 q10:Int) (w:World):(Op.equalIn 10000 96 (.agg #[.bool r1,.bool r2,.bool r3,.bool r4,.bool r5,.bool r6,.bool r7,.bool r8,.int .u8 r9,.int .u8 r10]) (.agg #[.bool q1,.bool q2,.bool q3,.bool q4,.bool q5,.bool q6,.bool q7,.bool q8,.int .u8 q9,.int .u8 q10])).run Tryz.prog w=
 .ok (same [.bool r1,.bool r2,.bool r3,.bool r4,.bool r5,.bool r6,.bool r7,.bool r8,.int .u8 r9,.int .u8 r10] [.bool q1,.bool q2,.bool q3,.bool q4,.bool q5,.bool q6,.bool q7,.bool q8,.int .u8 q9,.int .u8 q10]) w:=
 eq_agg 6 [.bool,.bool,.bool,.bool,.bool,.bool,.bool,.bool,.int .u8,.int .u8] Tryz.underlying96 (by kernel_rfl) (by decide) w (by simp [shaped]) (by simp [shaped])
theorem ret_Pins {fn:Func} {p:Tmp} (hf:fn.results=#[.cell p 67]) {tmps:Array Value} {w:World} {b:Nat} {cs:Array Value} (hp:tmps.getD p undef=.pointer (some ⟨b,0,none⟩)) (hr:rowOf w b=cs) (hs:cs.size=17):(results fn tmps).run Tryz.prog w=.ok (.agg cs) w:=
 ret_all hf Tryz.underlying67 (by kernel_rfl) (by decide) tmps w b cs hp hr hs
@[go_sem ↓] theorem load_Pins (a:Addr):loadVar 67 a=wholeVar 67 a:=by unfold wholeVar;rfl
@[go_sem ↓] theorem store_Pins (a:Addr) (v:Value):storeVar 67 a v=wholeSet 67 a v:=by unfold wholeSet;rfl
@[go_sem] theorem run_load_Pins (w:World) (b:Nat) (h:(rowOf w b).size=17):(wholeVar 67 ⟨b,0,none⟩).run Tryz.prog w=.ok (.agg (rowOf w b)) w:=
 run_all Tryz.underlying67 (by kernel_rfl) (by decide) w b h
@[go_sem] theorem run_store_Pins (w:World) (b:Nat) (cs:Array Value) (hc:cs.size=17) (h:(rowOf w b).size=17) (h1:ones cs.toList=true):(wholeSet 67 ⟨b,0,none⟩ (.agg cs)).run Tryz.prog w=.ok () (w.setRow b cs):=
 set_all (by kernel_rfl) w b cs hc (by decide) h h1
@[go_sem ↓] theorem load_Item (a:Addr):loadVar 65 a=wholeVar 65 a:=by unfold wholeVar;rfl
@[go_sem ↓] theorem store_Item (a:Addr) (v:Value):storeVar 65 a v=wholeSet 65 a v:=by unfold wholeSet;rfl
@[go_sem] theorem run_load_Item (w:World) (b:Nat) (h:(rowOf w b).size=9):(wholeVar 65 ⟨b,0,none⟩).run Tryz.prog w=.ok (.agg (rowOf w b)) w:=
 run_all Tryz.underlying65 (by kernel_rfl) (by decide) w b h
@[go_sem] theorem run_store_Item (w:World) (b:Nat) (cs:Array Value) (hc:cs.size=9) (h:(rowOf w b).size=9) (h1:ones cs.toList=true):(wholeSet 65 ⟨b,0,none⟩ (.agg cs)).run Tryz.prog w=.ok () (w.setRow b cs):=
 set_all (by kernel_rfl) w b cs hc (by decide) h h1
@[go_sem] theorem eq_Pins (r1 q1 r2 q2 r3 q3:Int) (r4 r5 r6 r7 r8 r9 r10 r11 r12 r13 r14 r15 r16 r17 q4 q5 q6 q7 q8 q9 q10 q11 q12 q13 q14 q15 q16 q17:Bool) (w:World):(Op.equalIn 10000 67 (.agg #[.int .i64 r1,.int .u16 r2,.int .u8 r3,.bool r4,.bool r5,.bool r6,.bool r7,.bool r8,.bool r9,.bool r10,.bool r11,.bool r12,.bool r13,.bool r14,.bool r15,.bool r16,.bool r17]) (.agg #[.int .i64 q1,.int .u16 q2,.int .u8 q3,.bool q4,.bool q5,.bool q6,.bool q7,.bool q8,.bool q9,.bool q10,.bool q11,.bool q12,.bool q13,.bool q14,.bool q15,.bool q16,.bool q17])).run Tryz.prog w=
 .ok (same [.int .i64 r1,.int .u16 r2,.int .u8 r3,.bool r4,.bool r5,.bool r6,.bool r7,.bool r8,.bool r9,.bool r10,.bool r11,.bool r12,.bool r13,.bool r14,.bool r15,.bool r16,.bool r17] [.int .i64 q1,.int .u16 q2,.int .u8 q3,.bool q4,.bool q5,.bool q6,.bool q7,.bool q8,.bool q9,.bool q10,.bool q11,.bool q12,.bool q13,.bool q14,.bool q15,.bool q16,.bool q17]) w:=
 eq_agg 6 [.int .i64,.int .u16,.int .u8,.bool,.bool,.bool,.bool,.bool,.bool,.bool,.bool,.bool,.bool,.bool,.bool,.bool,.bool] Tryz.underlying67 (by kernel_rfl) (by decide) w (by simp [shaped]) (by simp [shaped])
@[go_sem ↓] theorem load_Cycle (a:Addr):loadVar 41 a=wholeVar 41 a:=by unfold wholeVar;rfl
@[go_sem ↓] theorem store_Cycle (a:Addr) (v:Value):storeVar 41 a v=wholeSet 41 a v:=by unfold wholeSet;rfl
@[go_sem] theorem run_load_Cycle (w:World) (b o:Nat) (h:o+4≤(rowOf w b).size):(wholeVar 41 ⟨b,o,none⟩).run Tryz.prog w=.ok (.agg (part8 o 4 (rowOf w b))) w:=
 run_part Tryz.underlying41 (by kernel_rfl) (by decide) w b o h
@[go_sem] theorem run_store_Cycle (w:World) (b o:Nat) (cs:Array Value) (hc:cs.size=4) (h:o+4≤(rowOf w b).size) (h1:ones cs.toList=true):(wholeSet 41 ⟨b,o,none⟩ (.agg cs)).run Tryz.prog w=.ok () (w.setRow b (put8 o cs (rowOf w b))):=
 set_part (by kernel_rfl) w b o cs hc (by decide) h h1
@[go_sem ↓] theorem load_span (a:Addr):loadVar 122 a=wholeVar 122 a:=by unfold wholeVar;rfl
@[go_sem ↓] theorem store_span (a:Addr) (v:Value):storeVar 122 a v=wholeSet 122 a v:=by unfold wholeSet;rfl
@[go_sem] theorem run_load_span (w:World) (b:Nat) (h:(rowOf w b).size=2):(wholeVar 122 ⟨b,0,none⟩).run Tryz.prog w=.ok (.agg (rowOf w b)) w:=
 run_all Tryz.underlying122 (by kernel_rfl) (by decide) w b h
@[go_sem] theorem run_store_span (w:World) (b:Nat) (cs:Array Value) (hc:cs.size=2) (h:(rowOf w b).size=2) (h1:ones cs.toList=true):(wholeSet 122 ⟨b,0,none⟩ (.agg cs)).run Tryz.prog w=.ok () (w.setRow b cs):=
 set_all (by kernel_rfl) w b cs hc (by decide) h h1
end
section
theorem Adds.size {w w':World} (h:Adds w w'):w.heap.size≤w'.heap.size:=h.below.size
theorem Adds.cell {w w':World} (h:Adds w w') {b i:Nat} (hb:b < w.heap.size):w'.cell? ⟨b,i,none⟩=w.cell? ⟨b,i,none⟩:=h.below.cell (p:=⟨b,i,none⟩) hb
theorem Adds.frozen {w w':World} (h:Adds w w') {b i:Nat} (hb:b < w.heap.size):w'.frozen? ⟨b,i,none⟩=w.frozen? ⟨b,i,none⟩:=h.below.frozen (p:=⟨b,i,none⟩) hb
theorem Adds.grownBy {w w':World} (h:Adds w w') (row:Option Nat):w.grownBy w' row:=by
 have hb:=h.below
 exact ⟨hb.os,hb.tape,hb.output,hb.size,fun k hk _=>hb.block k hk⟩
theorem Adds.of_grown {w0 w w':World} {g:Nat} (h:Adds w0 w) (hg:w.grownBy w' (some g)) (hb:w0.heap.size≤g):Adds w0 w':=
 Adds.of_below (h.below.grown hg h.size fun k hk=>by cases hk;exact hb)
theorem grown_trans2 {w0 w1 w2:World} {b:Nat} {row:Option Nat} (h:w0.grownBy w1 (some b)) (k:w1.grownBy w2 row) (hr:∀g,row=some g→g=b∨w0.heap.size≤g):w0.grownBy w2 (some b):=
 ⟨k.os.trans h.os,k.tape.trans h.tape,k.output.trans h.output,Nat.le_trans h.size k.size,fun i hi hne=>(k.block i (by have:=h.size;omega) (fun e=>by
   rcases hr i e.symm with q|q
   ·exact hne (by rw [q])
   ·omega)).trans (h.block i hi hne)⟩
theorem add_plain (b o j:Nat):(⟨b,o,none⟩:Addr).add j=⟨b,o+j,none⟩:=by unfold Addr.add;split<;>simp_all
theorem addr_add_add (x:Addr) (i j:Nat):(x.add i).add j=x.add (i+j):=by
 unfold Addr.add
 by_cases hi:i=0<;>by_cases hj:j=0<;>simp [hi,hj,Nat.add_assoc]
theorem grown_setRow (w:World) (g:Nat) (c:Array Value):w.grownBy (w.setRow g c) (some g):=
 ⟨rfl,rfl,rfl,by simp [World.setRow],fun k _ hk=>by
   have hk':¬g=k:=fun e=>hk (by rw [e])
   simp [World.setRow,Array.getElem?_modify,hk']⟩
def Fl {α:Type} (cs:α→List Value) (d:List α):List Value:=d.flatMap cs
section
variable {α:Type} {cs:α→List Value} {sz:Nat} {E:TypeId}
theorem Fl_app (a b:List α):Fl cs (a++b)=Fl cs a++Fl cs b:=by simp [Fl]
theorem Fl_cons (c:α) (d:List α):Fl cs (c::d)=cs c++Fl cs d:=rfl
theorem Fl_one (c:α):Fl cs [c]=cs c:=by simp [Fl]
theorem Fl_len (hs:∀a,(cs a).length=sz):∀d:List α,(Fl cs d).length=d.length * sz
 |[]=>by simp [Fl]
 |c::d=>by rw [Fl_cons,List.length_append,hs,Fl_len hs d,List.length_cons,Nat.succ_mul,Nat.add_comm]
theorem Fl_get (hs:∀a,(cs a).length=sz):∀(d:List α) (j:Nat) (a:α),d[j]? =some a→∀(k:Nat) (u:Value),(cs a)[k]? =some u→(Fl cs d)[j * sz+k]? =some u
 |[],j,a,h,k,u,hu=>by simp at h
 |c::d,0,a,h,k,u,hu=>by
  simp at h;subst h
  rw [Fl_cons,Nat.zero_mul,Nat.zero_add,List.getElem?_append_left (List.getElem?_eq_some_iff.1 hu).1];exact hu
 |c::d,j+1,a,h,k,u,hu=>by
  rw [Fl_cons,List.getElem?_append_right (by rw [hs,Nat.succ_mul];omega),hs,show (j+1) * sz+k - sz=j * sz+k by rw [Nat.succ_mul];omega]
  exact Fl_get hs d j a (by simpa using h) k u hu
theorem Fl_oneCell (h1:∀a,∀u∈cs a,u.oneCell'=true) (d:List α):∀u∈Fl cs d,u.oneCell'=true:=by
 intro u hu
 simp only [Fl,List.mem_flatMap] at hu
 obtain ⟨c,_,hc⟩:=hu
 exact h1 c u hc
theorem Fl_set (hs:∀a,(cs a).length=sz):∀(d:List α) (i:Nat) (a:α),i < d.length→(Fl cs d).take (i * sz)++cs a++(Fl cs d).drop (i * sz+sz)=Fl cs (d.set i a)
 |[],i,a,h=>by simp at h
 |c::d,0,a,h=>by
  rw [Fl_cons,Nat.zero_mul,List.take_zero,Nat.zero_add,List.nil_append,List.drop_append,hs,List.drop_of_length_le (by rw [hs];exact Nat.le_refl _)]
  simp [Fl]
 |c::d,i+1,a,h=>by
  have ih:=Fl_set hs d i a (by simpa using h)
  have e:(i+1) * sz=sz+i * sz:=by rw [Nat.succ_mul];omega
  rw [List.set_cons_succ,Fl_cons,Fl_cons,←ih,e,List.take_append,List.drop_append,hs,List.take_of_length_le (by rw [hs];omega),List.drop_of_length_le (by rw [hs];omega)]
  rw [show sz+i * sz - sz=i * sz by omega,show sz+i * sz+sz - sz=i * sz+sz by omega]
  simp [List.append_assoc]
def AtG (cs:α→List Value) (w:World) (b o:Nat) (d:List α):Prop:=∀j u,(Fl cs d)[j]? =some u→w.cell? ⟨b,o+j,none⟩=some u
def HeldG (cs:α→List Value) (w:World) (a:Option Addr) (n:Nat) (d:List α):Prop:=d.length=n∧n≤4611686018427387904∧(0 < n→∃b o,a=some ⟨b,o,none⟩∧b < w.heap.size∧AtG cs w b o d)
def OwnsG (cs:α→List Value) (sz:Nat) (E:TypeId) (w:World) (base:Nat) (v:Value) (d:List α):Prop:=w.ownsRow base E sz v d.length (Fl cs d)
theorem AtG.keep {w w':World} {b o:Nat} {d:List α} (h:AtG cs w b o d) (k:∀i,w'.cell? ⟨b,i,none⟩=w.cell? ⟨b,i,none⟩):AtG cs w' b o d:=fun j u hd=>by rw [k];exact h j u hd
theorem AtG.el {w:World} {b o:Nat} {d:List α} (h:AtG cs w b o d) (hs:∀a,(cs a).length=sz) {j:Nat} {a:α} (hj:d[j]? =some a) {k:Nat} {u:Value} (hu:(cs a)[k]? =some u):w.cell? ⟨b,o+j * sz+k,none⟩=some u:=by
 rw [Nat.add_assoc];exact h _ u (Fl_get hs d j a hj k u hu)
theorem HeldG.adds {w w':World} {a:Option Addr} {n:Nat} {d:List α} (h:HeldG cs w a n d) (k:Adds w w'):HeldG cs w' a n d:=
 ⟨h.1,h.2.1,fun hn=>by
   obtain ⟨b,o,ha,hb,hat⟩:=h.2.2 hn
   exact ⟨b,o,ha,by have:=k.size;omega,hat.keep fun i=>k.cell hb⟩⟩
theorem HeldG.grown {w w':World} {g:Nat} {a:Option Addr} {n:Nat} {d:List α} (h:HeldG cs w a n d) (hg:w.grownBy w' (some g)) (hne:0 < n→∀x,a=some x→x.block≠g):HeldG cs w' a n d:=
 ⟨h.1,h.2.1,fun hn=>by
   obtain ⟨b,o,ha,hb,hat⟩:=h.2.2 hn
   exact ⟨b,o,ha,by have:=hg.size;omega,fun j u hd=>hg.cell (hat j u hd) (fun e=>by injection e with e;exact hne hn _ ha e)⟩⟩
theorem HeldG.nil (w:World) (a:Option Addr):HeldG cs w a 0 []:=⟨rfl,by omega,fun h=>absurd h (by omega)⟩
theorem get_el {d:List α} {k:Nat} (h:k < d.length):∃x,d[k]? =some x:=⟨d[k],List.getElem?_eq_getElem h⟩
theorem OwnsG.kept {w w':World} {base:Nat} {v:Value} {d:List α} {row:Option Nat} (h:OwnsG cs sz E w base v d) (hg:w.grownBy w' row) (hne:∀g,row=some g→g < base):OwnsG cs sz E w' base v d:=by
 refine World.ownsRow.kept h hg ?_
 cases hq:v.ownBlock with
 |none=>exact .inl rfl
 |some g=>exact .inr fun e=>by have h1:=(World.ownsRow.lt h g hq).1;have h2:=hne g e.symm;omega
theorem OwnsG.kept2 {w w':World} {base:Nat} {v:Value} {d:List α} {row:Option Nat} (h:OwnsG cs sz E w base v d) (hg:w.grownBy w' row) (hne:v.ownBlock=none∨v.ownBlock≠row):OwnsG cs sz E w' base v d:=World.ownsRow.kept h hg hne
theorem OwnsG.adds {w w':World} {base:Nat} {v:Value} {d:List α} (h:OwnsG cs sz E w base v d) (k:Adds w w'):OwnsG cs sz E w' base v d:=h.kept (row:=none) (k.grownBy none) (fun g e=>by cases e)
theorem OwnsG.mono {w:World} {base base':Nat} {v:Value} {d:List α} (h:OwnsG cs sz E w base v d) (k:base'≤base):OwnsG cs sz E w base' v d:=by
 refine ⟨h.1,?_⟩
 rcases h.2 with hn|⟨g,cap,cur,h1,h2,h3⟩
 ·exact .inl hn
 ·exact .inr ⟨g,cap,cur,h1,by omega,h3⟩
theorem OwnsG.raise {w:World} {base base':Nat} {v:Value} {d:List α} (h:OwnsG cs sz E w base v d) (k:∀g,v.ownBlock=some g→base'≤g):OwnsG cs sz E w base' v d:=by
 refine ⟨h.1,?_⟩
 rcases h.2 with hn|⟨g,cap,cur,h1,h2,h3⟩
 ·exact .inl hn
 ·exact .inr ⟨g,cap,cur,h1,k g (by rw [h1];rfl),h3⟩
theorem OwnsG.alloc {w:World} {base:Nat} {v:Value} {d:List α} (h:OwnsG cs sz E w base v d) (o:Obj):OwnsG cs sz E (w.alloc o) base v d:=World.ownsRow.alloc h o
theorem OwnsG.nil (w:World) (base:Nat):OwnsG cs sz E w base (.slice none 0 0) []:=World.ownsRow_nil w base E sz
theorem OwnsG.lt {w:World} {base g n cap:Nat} {d:List α} (h:OwnsG cs sz E w base (.slice (some ⟨g,0,none⟩) n cap) d):base≤g∧g < w.heap.size:=World.ownsRow.lt h g rfl
theorem OwnsG.elim {w:World} {base g n cap:Nat} {d:List α} (h:OwnsG cs sz E w base (.slice (some ⟨g,0,none⟩) n cap) d):
 ∃cur,w.heap[g]? =some (.cells cur E (0,0))∧base≤g∧d.length=n∧n≤cap∧cap≤maxLen∧cur.size=cap * sz∧cur.toList.take (n * sz)=Fl cs d:=by
 rcases h.2 with ⟨h',_⟩|⟨g',cap',cur,h',hb,hg,h1,h2,h3,h4⟩
 ·simp at h'
 ·simp only [Value.slice.injEq,Option.some.injEq,Addr.mk.injEq,and_true] at h'
  obtain ⟨rfl,hn,rfl⟩:=h'
  subst hn
  exact ⟨cur,hg,hb,rfl,h1,h2,h3,h4⟩
theorem OwnsG.at_ {w:World} {base g n cap:Nat} {d:List α} (h:OwnsG cs sz E w base (.slice (some ⟨g,0,none⟩) n cap) d):AtG cs w g 0 d:=by
 obtain ⟨cur,hg,_,_,_,_,_,ht⟩:=h.elim
 intro j u hu
 rw [Nat.zero_add,cell_of_row w g j cur _ (0,0) hg]
 rw [←ht,List.getElem?_take] at hu
 split at hu
 ·simpa using hu
 ·cases hu
theorem OwnsG.form2 {w:World} {base:Nat} {v:Value} {d:List α} (h:OwnsG cs sz E w base v d):
 ∃a n cap,v=.slice a n cap∧Hid (d.length=n)∧n≤cap∧cap≤9223372036854775807∧(0 < cap→∃g,a=some ⟨g,0,none⟩∧base≤g∧g < w.heap.size)∧(a=none→n=0∧cap=0):=by
 rcases h.2 with ⟨h',h0⟩|⟨g,cap,cur,h',hb,hh,h1,h2,h3⟩
 ·exact ⟨none,0,0,h',h0,by omega,by omega,fun h=>absurd h (by omega),fun _=>⟨rfl,rfl⟩⟩
 ·refine ⟨_,d.length,cap,h',rfl,h1,?_,fun _=>⟨g,rfl,hb,(Array.getElem?_eq_some_iff.1 hh).1⟩,fun e=>by cases e⟩
  simpa [maxLen] using h2
theorem OwnsG.held {w:World} {base:Nat} {a:Option Addr} {n cap:Nat} {d:List α} (h:OwnsG cs sz E w base (.slice a n cap) d) (hd:d.length≤4611686018427387904):HeldG cs w a n d:=by
 obtain ⟨a',n',cap',h1,h0,h2,h3,h4,_⟩:=h.form2
 have h0:=h0.out
 simp only [Value.slice.injEq] at h1
 obtain ⟨rfl,rfl,rfl⟩:=h1
 refine ⟨h0,by omega,fun hn=> ?_⟩
 obtain ⟨g,rfl,_,hg⟩:=h4 (by omega)
 exact ⟨g,0,rfl,hg,h.at_⟩
theorem OwnsG.len {w:World} {base n cap:Nat} {a:Option Addr} {d:List α} (h:OwnsG cs sz E w base (.slice a n cap) d):d.length=n:=by
 obtain ⟨a',n',cap',h1,h0,_⟩:=h.form2
 simp only [Value.slice.injEq] at h1
 obtain ⟨_,rfl,_⟩:=h1
 exact h0.out
theorem OwnsG.head {w:World} {base n cap:Nat} {a:Option Addr} {d:List α} (h:OwnsG cs sz E w base (.slice a n cap) d) (hn:0 < n):∃g,a=some ⟨g,0,none⟩∧base≤g∧g < w.heap.size:=by
 obtain ⟨a',n',cap',h1,h0,h2,_,h4,_⟩:=h.form2
 simp only [Value.slice.injEq] at h1
 obtain ⟨rfl,rfl,rfl⟩:=h1
 exact h4 (by omega)
theorem OwnsG.frozen {w:World} {base g n cap:Nat} {d:List α} (h:OwnsG cs sz E w base (.slice (some ⟨g,0,none⟩) n cap) d) (j:Nat):w.frozen? ⟨g,j,none⟩=false:=by
 obtain ⟨cur,hg,_⟩:=h.elim
 exact frozen_of_row w g j cur _ hg
theorem AddsG.grown {w0 w w':World} {v:Value} {d:List α} (h:Adds w0 w) (hg:w.grownBy w' v.ownBlock) (ho:OwnsG cs sz E w w0.heap.size v d):Adds w0 w':=
 Adds.of_below (h.below.grown hg h.size fun k hk=>(World.ownsRow.lt ho k hk).1)
theorem OwnsG.far {w w':World} {base b i:Nat} {v:Value} {d:List α} (ho:OwnsG cs sz E w base v d) (hg:w.grownBy w' v.ownBlock) (hb:b < base) (hw:b < w.heap.size):w'.cell? ⟨b,i,none⟩=w.cell? ⟨b,i,none⟩:=
 World.cell?_of_block (hg.block b hw fun e=>by have:=(World.ownsRow.lt ho b e.symm).1;omega)
theorem at_new (w:World) (t:TypeId) (c:Array Value) (e:List α) (hc:c.toList=Fl cs e) (b:Nat) (hb:b=w.heap.size):∀j u,(Fl cs e)[j]? =some u→(w.alloc (.cells c t)).cell? ((⟨b,0,none⟩:Addr).add j)=some u:=by
 subst hb
 intro j u hu
 rw [add_plain,Nat.zero_add,cell_of_row _ _ _ _ _ (0,0) (heap_last w _)]
 rw [←hc] at hu
 simpa using hu
theorem take_mid (A B:List Value) (o z m:Nat) (hB:B.length=z) (h:o+z≤m) (hm:m≤A.length):(A.take o++B++A.drop (o+z)).take m=(A.take m).take o++B++(A.take m).drop (o+z):=by
 apply List.ext_getElem?
 intro i
 have l1:(A.take o).length=o:=by rw [List.length_take];omega
 have l2:((A.take m).take o).length=o:=by rw [List.length_take,List.length_take];omega
 simp only [List.getElem?_take,List.getElem?_append,l1,l2,hB,List.getElem?_drop,List.append_assoc]
 by_cases h1:i < o
 ·rw [if_pos h1,if_pos (show i < m by omega)]
  simp [h1];omega
 ·rw [if_neg h1]
  by_cases h2:i - o < z
  ·rw [if_pos h2,if_pos (show i < m by omega)];simp [h1,h2]
  ·rw [if_neg h2]
   by_cases h3:i < m
   ·rw [if_pos h3,if_neg h1,if_neg h2,if_pos (by omega)]
   ·rw [if_neg h3,if_neg h1,if_neg h2,if_neg (by omega)]
theorem OwnsG.store {P:Program} (hs:∀a,(cs a).length=sz) (h1:∀a,∀u∈cs a,u.oneCell'=true) {t:TypeId} (hi:(P.info? t).map (·.size)=some sz) (hz:0 < sz) {w:World} {base g n cap:Nat} {d:List α} (h:OwnsG cs sz E w base (.slice (some ⟨g,0,none⟩) n cap) d)
 (i:Nat) (hn:i < n) (a:α) (c:Array Value) (hc:c.toList=cs a):
 ∃w',(wholeSet t ⟨g,i * sz,none⟩ (.agg c)).run P w=.ok () w'∧OwnsG cs sz E w' base (.slice (some ⟨g,0,none⟩) n cap) (d.set i a)∧w.grownBy w' (some g):=by
 obtain ⟨cur,hg,hb,hdn,hnc,hcm,hcs,ht⟩:=h.elim
 have hrow:rowOf w g=cur:=by unfold rowOf;rw [hg];rfl
 have hle:i * sz+sz≤n * sz:=by
  have:=Nat.mul_le_mul_right sz (show i+1≤n by omega)
  rwa [Nat.succ_mul] at this
 have hle2:n * sz≤cap * sz:=Nat.mul_le_mul_right sz hnc
 have hcz:c.size=sz:=by rw [←Array.length_toList,hc,hs]
 have hl:cur.toList.length=cap * sz:=by simpa using hcs
 refine ⟨_,set_part hi w g (i * sz) c hcz hz (by rw [hrow,hcs];omega) (by rw [hc];exact List.all_eq_true.2 (fun u hu=>h1 a u hu)),?_,grown_setRow w g _⟩
 subst hdn
 refine ⟨by rw [List.length_set];exact Fl_len hs (d.set i a)▸by rw [List.length_set],.inr ⟨g,cap,put8 (i * sz) c cur,by rw [List.length_set],hb,?_,by rw [List.length_set];exact hnc,hcm,?_,?_⟩⟩
 ·rw [hrow];exact setRow_heap w g cur _ E _ hg
 ·simp only [put8,List.size_toArray,List.length_append,List.length_take,List.length_drop,hl,Array.length_toList,hcz];omega
 ·rw [List.length_set]
  simp only [put8,hc]
  rw [hs,take_mid cur.toList (cs a) (i * sz) sz (d.length * sz) (hs a) hle (by rw [hl];exact hle2),ht,Fl_set hs d i a hn]
theorem wpList_appG {P:Program} (hs:∀a,(cs a).length=sz) (h1:∀a,∀u∈cs a,u.oneCell'=true) {T:TypeId} (hT:P.underlying T=some (.slice E)) {z:Value} {bytes:Nat} (hinfo:(P.info? E).map (fun i=>(i.zero,i.size,i.bytes))=some (some z,sz,bytes)) (hzs:z.cells.size=sz) (hz:0 < sz)
 {w:World} {ops:Array Oper} {rest:List Oper} {o:Oper} {a:Act} {Q:Exit→Act→World→Prop} (hgd:o.guard=none) (s x:Operand)
 (ho:o.op=.call {callee:=.builtin .append,args:=#[s,x],argTypes:=#[T,T]})
 (base:Nat) (v:Value) (d:List α) (hv:a.eval s=v) (hown:OwnsG cs sz E w base v d) (ad:Addr) (m c:Nat) (e:List α) (hx:a.eval x=.slice (some ad) m c) (hm:e.length=m) (hat:∀j u,(Fl cs e)[j]? =some u→w.cell? (ad.add j)=some u)
 (h63:d.length+m≤maxLen) (hb:(d.length+m) * bytes≤140737488355328) (hbase:base≤w.heap.size)
 (h:∀v' w',OwnsG cs sz E w' base v' (d++e)→w.grownBy w' v.ownBlock→wpList P ops Q rest (a.put o.dst v') w'):wpList P ops Q (o::rest) a w:=by
 obtain ⟨i0,hi,hz0,hz1,hz2⟩:=info_parts hinfo
 refine wpList_append_own w hgd s x T ho base E i0 z sz bytes hT hi hz0 hz1 hz2 hzs hz v d.length (Fl cs d) hv hown ad m c (Fl cs e) hx (by rw [Fl_len hs,hm]) hat (Fl_oneCell h1 e) h63 hb hbase ?_
 intro v' w' k1 k2 k3
 refine h v' w' ?_ k2
 unfold OwnsG
 rw [List.length_append,hm,Fl_app]
 exact k1
end
end
section
def S.stB (n:Int):Int:=
 if n=1 then 162 else if n=2 then 130 else if n=4 then 134 else if n=5 then 4 else if n=6 then 66 else if n=7 then 16 else
 if n=8 then 35 else if n=9 then 3 else if n=10 then 138 else 0
def S.stM (n:Int):Bool:=decide (n=6)||decide (n=7)||decide (n=8)||decide (n=9)||decide (n=12)
def S.st1 (n:Int):Bool:=decide (n=1)||decide (n=2)||decide (n=4)||decide (n=6)||decide (n=8)||decide (n=9)||decide (n=11)||decide (n=12)
def S.st0 (n:Int):Bool:=decide (n=1)||decide (n=3)||decide (n=5)||decide (n=7)||decide (n=8)||decide (n=9)||decide (n=12)
def S.stR (n:Int):Bool:=decide (n=1)||decide (n=2)||decide (n=4)||decide (n=6)||decide (n=8)||decide (n=9)
def S.stW (n:Int):Bool:=decide (n=3)||decide (n=5)||decide (n=7)
theorem S.stR_not (n:Int) (h:S.stR n=true):S.stW n=false:=by
 simp only [S.stR,Bool.or_eq_true,decide_eq_true_eq] at h
 rcases h with ((((rfl|rfl)|rfl)|rfl)|rfl)|rfl<;>rfl
theorem S.stB_no (n:Int) (h1:¬n=1) (h2:¬n=2) (h3:¬n=3) (h4:¬n=4) (h5:¬n=5) (h6:¬n=6) (h7:¬n=7) (h8:¬n=8) (h9:¬n=9) (h10:¬n=10) (h11:¬n=11) (h12:¬n=12):S.stB n=0:=by
 simp [S.stB, *]
theorem S.stM_no (n:Int) (h1:¬n=1) (h2:¬n=2) (h3:¬n=3) (h4:¬n=4) (h5:¬n=5) (h6:¬n=6) (h7:¬n=7) (h8:¬n=8) (h9:¬n=9) (h10:¬n=10) (h11:¬n=11) (h12:¬n=12):S.stM n=false:=by
 simp [S.stM, *]
theorem S.st1_no (n:Int) (h1:¬n=1) (h2:¬n=2) (h3:¬n=3) (h4:¬n=4) (h5:¬n=5) (h6:¬n=6) (h7:¬n=7) (h8:¬n=8) (h9:¬n=9) (h10:¬n=10) (h11:¬n=11) (h12:¬n=12):S.st1 n=false:=by
 simp [S.st1, *]
theorem S.st0_no (n:Int) (h1:¬n=1) (h2:¬n=2) (h3:¬n=3) (h4:¬n=4) (h5:¬n=5) (h6:¬n=6) (h7:¬n=7) (h8:¬n=8) (h9:¬n=9) (h10:¬n=10) (h11:¬n=11) (h12:¬n=12):S.st0 n=false:=by
 simp [S.st0, *]
theorem S.stR_no (n:Int) (h1:¬n=1) (h2:¬n=2) (h3:¬n=3) (h4:¬n=4) (h5:¬n=5) (h6:¬n=6) (h7:¬n=7) (h8:¬n=8) (h9:¬n=9) (h10:¬n=10) (h11:¬n=11) (h12:¬n=12):S.stR n=false:=by
 simp [S.stR, *]
theorem S.stW_no (n:Int) (h1:¬n=1) (h2:¬n=2) (h3:¬n=3) (h4:¬n=4) (h5:¬n=5) (h6:¬n=6) (h7:¬n=7) (h8:¬n=8) (h9:¬n=9) (h10:¬n=10) (h11:¬n=11) (h12:¬n=12):S.stW n=false:=by
 simp [S.stW, *]
end
namespace S
variable {on:Bool}
structure It where
 k:Int
 c:Int
 a:Int
 d:Int
 s:Int
 w:Int
 n:Int
 e:Bool
 o:Bool
instance:Inhabited It:=⟨⟨0,0,0,0,0,0,0,false,false⟩⟩
def It.cs (x:It):Array Value:=#[.int .i64 x.k,.int .i64 x.c,.int .u16 x.a,.int .u8 x.d,.int .i64 x.s,.int .i64 x.w,.int .i64 x.n,.bool x.e,.bool x.o]
structure Pn where
 st:Int
 ad:Int
 da:Int
 sy:Bool
 db:Bool
 wa:Bool
 it:Bool
 al:Bool
 im:Bool
 s1:Bool
 s0:Bool
 rd:Bool
 ia:Bool
 so:Bool
 wr:Bool
 hl:Bool
 fl:Bool
instance:Inhabited Pn:=⟨⟨0,0,0,false,false,false,false,false,false,false,false,false,false,false,false,false,false⟩⟩
def Pn.cs (x:Pn):Array Value:=#[.int .i64 x.st,.int .u16 x.ad,.int .u8 x.da,.bool x.sy,.bool x.db,.bool x.wa,.bool x.it,.bool x.al,.bool x.im,.bool x.s1,.bool x.s0,.bool x.rd,.bool x.ia,.bool x.so,.bool x.wr,.bool x.hl,.bool x.fl]
def tr (c d s:Int):Int:=if s=2∨s=7 then (if stW c then d else 0) else if s=3 then (if stR c||stW c then d else 0) else 0
def ack (c:Int):Bool:=c==8||c==9
def pn (on:Bool) (x:It) (s:Int):Pn:=
 if s=8 then ⟨8,0,0,false,false,false, !on && x.e,false,false,false,false,false,false,on && x.o,false,true,true⟩
 else if s=9 then ⟨9,if on then 0 else x.a,0,false,false, !on, !on && x.e,false,false,false,false,false,false,on && x.o,false,false,on⟩
 else if s=10 then ⟨10,0,0,false,false,false, !on && x.e,false,false,false,false,false,false,on && x.o,false,false,on⟩
 else if on then ⟨s,x.a,if s=1 then x.a % 256 else tr x.c x.d s,false,false,false,false,s==1,stM x.c,st1 x.c,st0 x.c,(s==2||s==7||s==3) && (stR x.c && !ack x.c),(s==2||s==7||s==3) && ack x.c,x.o,(s==2||s==7||s==3) && stW x.c,false,false⟩
 else ⟨s,x.a,if s=1 then stB x.c else tr x.c x.d s,s==1 && (x.c !=11 && x.c !=12),(s==2||s==7||s==3) && stR x.c,s==7,x.e,false,false,false,false,false,false,false,(s==7||s==3) && stW x.c,false,false⟩
def fit (k s:Int):Prop:=(k=1∧1≤s∧s≤7)∨(k=2∧s=8)∨(k=3∧s=9)∨(k=4∧s=10)
def lim (n:Int):Int:=min (max n 0) 65536
theorem lim_bd (n:Int):0≤lim n∧lim n≤65536:=by unfold lim;omega
def cst (s:Int):Int:=min (max s 3) 6
def cnt (n s:Int):Int:=min (max n 1) (cst s)
theorem cst_bd (s:Int):3≤cst s∧cst s≤6:=by unfold cst;omega
theorem cnt_bd (n s:Int):1≤cnt n s∧cnt n s≤6:=by have:=cst_bd s;unfold cnt;omega
def all7 (w:Int):List (Int×Int):=[(1,1),(2,1),(7,w),(3,1),(4,1),(5,1),(6,1)]
def part7 (w:Int) (j:Nat):List (Int×Int):=(all7 w).take (if j < 2 then j else j+1)
def sps (x:It):List (Int×Int):=
 if x.k=1 then part7 (lim x.w) (cnt x.n x.s).toNat
 else if x.k=2 then [(8,lim x.n)] else if x.k=3 then [(9,lim x.n)] else if x.k=4 then [(10,lim x.n)] else []
def rep (p:Int×Int):List Int:=List.replicate p.2.toNat p.1
def reps (l:List (Int×Int)):List Int:=l.flatMap rep
def sts (x:It):List Int:=reps (sps x)
def ex1 (on:Bool) (x:It):List Pn:=(sts x).map (pn on x)
def ex (on:Bool) (l:List It):List Pn:=l.flatMap (ex1 on)
theorem ex_app (on:Bool) (l m:List It):ex on (l++m)=ex on l++ex on m:=List.flatMap_append
theorem part7_mem {w:Int} {j:Nat}:∀p∈part7 w j,p∈all7 w:=fun p h=>List.mem_of_mem_take h
theorem sps_fit (x:It):∀p∈sps x,fit x.k p.1∧0≤p.2∧p.2≤65536:=by
 intro p hp
 unfold sps at hp
 split at hp
 ·rename_i hk
  have:=part7_mem p hp
  have hw:=lim_bd x.w
  simp only [all7,List.mem_cons,List.not_mem_nil,or_false] at this
  rcases this with rfl|rfl|rfl|rfl|rfl|rfl|rfl
  all_goals (refine ⟨.inl ⟨hk,?_,?_⟩,?_,?_⟩<;>(simp only [];omega))
 ·have hn:=lim_bd x.n
  split at hp
  ·rename_i hk;simp at hp;subst hp;exact ⟨.inr (.inl ⟨hk,rfl⟩),hn.1,hn.2⟩
  ·split at hp
   ·rename_i hk;simp at hp;subst hp;exact ⟨.inr (.inr (.inl ⟨hk,rfl⟩)),hn.1,hn.2⟩
   ·split at hp
    ·rename_i hk;simp at hp;subst hp;exact ⟨.inr (.inr (.inr ⟨hk,rfl⟩)),hn.1,hn.2⟩
    ·simp at hp
theorem sps_len (x:It):(sps x).length≤7:=by
 unfold sps
 split
 ·have:=cnt_bd x.n x.s
  simp only [part7,all7,List.length_take];simp;omega
 ·split
  ·simp
  ·split
   ·simp
   ·split<;>simp
theorem reps_len:∀l:List (Int×Int),(∀p∈l,p.2≤65536)→(reps l).length≤l.length * 65536
 |[],_=>by simp [reps]
 |p::l,h=>by
  have h1:=reps_len l (fun q hq=>h q (by simp [hq]))
  have h2:=h p (by simp)
  unfold reps at h1⊢
  rw [List.flatMap_cons,List.length_append]
  simp only [rep,List.length_replicate,List.length_cons] at h1⊢
  omega
theorem sts_len (x:It):(sts x).length≤458752:=by
 have h1:=reps_len (sps x) (fun p hp=>(sps_fit x p hp).2.2)
 have h2:=sps_len x
 unfold sts;omega
theorem ex1_len (on:Bool) (x:It):(ex1 on x).length≤458752:=by unfold ex1;rw [List.length_map];exact sts_len x
theorem ex_len (on:Bool):∀l:List It,(ex on l).length≤l.length * 458752
 |[]=>by simp [ex]
 |x::l=>by
  have h1:=ex_len on l
  have h2:=ex1_len on x
  unfold ex at h1⊢
  rw [List.flatMap_cons,List.length_append,List.length_cons];omega
theorem flatMap_parts {α β:Type} (f:α→List β):∀(l:List α) (i:Nat) (x:α),l[i]? =some x→l.flatMap f=(l.take i).flatMap f++(f x++(l.drop (i+1)).flatMap f)
 |[],i,x,h=>by simp at h
 |y::l,0,x,h=>by simp at h;subst h;simp
 |y::l,i+1,x,h=>by
  have:=flatMap_parts f l i x (by simpa using h)
  rw [List.flatMap_cons,this];simp
theorem flatMap_step {α β:Type} (f:α→List β) (l:List α) (i:Nat) (x:α) (h:l[i]? =some x):(l.take (i+1)).flatMap f=(l.take i).flatMap f++f x:=by
 rw [List.take_add_one,h,List.flatMap_append];simp
def got (on:Bool) (l:List It) (i:Nat) (x:It) (j:Nat) (p:Int×Int) (m:Nat):List Pn:=
 ex on (l.take i)++((reps ((sps x).take j)).map (pn on x)++List.replicate m (pn on x p.1))
def gotj (on:Bool) (l:List It) (i:Nat) (x:It) (j:Nat):List Pn:=ex on (l.take i)++(reps ((sps x).take j)).map (pn on x)
theorem got_zero (on:Bool) (l:List It) (i:Nat) (x:It) (j:Nat) (p:Int×Int):got on l i x j p 0=gotj on l i x j:=by simp [got,gotj]
theorem got_step (on:Bool) (l:List It) (i:Nat) (x:It) (j:Nat) (p:Int×Int) (m:Nat):got on l i x j p (m+1)=got on l i x j p m++[pn on x p.1]:=by
 simp [got,List.replicate_succ',List.append_assoc]
theorem got_end (l:List It) (i:Nat) (x:It) (j:Nat) (p:Int×Int) (hj:(sps x)[j]? =some p):got on l i x j p p.2.toNat=gotj on l i x (j+1):=by
 unfold got gotj reps
 rw [flatMap_step rep _ j p hj,List.map_append]
 simp [rep]
theorem gotj_zero (on:Bool) (l:List It) (i:Nat) (x:It):gotj on l i x 0=ex on (l.take i):=by simp [gotj,reps]
theorem gotj_end (l:List It) (i:Nat) (x:It) (hi:l[i]? =some x):gotj on l i x (sps x).length=ex on (l.take (i+1)):=by
 unfold ex
 rw [flatMap_step (ex1 on) l i x hi]
 simp [gotj,ex,ex1,sts]
theorem got_lt (l:List It) (i:Nat) (x:It) (j:Nat) (p:Int×Int) (m:Nat) (hi:l[i]? =some x) (hj:(sps x)[j]? =some p) (hm:m < p.2.toNat):(got on l i x j p m).length < (ex on l).length:=by
 have h1:ex on l=ex on (l.take i)++(ex1 on x++ex on (l.drop (i+1))):=flatMap_parts (ex1 on) l i x hi
 have h2:sts x=reps ((sps x).take j)++(rep p++reps ((sps x).drop (j+1))):=flatMap_parts rep (sps x) j p hj
 rw [h1]
 unfold got ex1
 rw [h2]
 simp only [List.length_append,List.length_map,List.length_replicate,rep]
 omega
end S
section
open Go.ChangeShapes Go.WideShapes Go.ChangeAt Go.RowKit Go.Deep
variable {E:Prop} {a:Act} {b j o:Nat} {d:List S.It} {w:World} {x:S.It}
def csT (x:S.It):List Value:=x.cs.toList
theorem csT_len:∀x,(csT x).length=9:=fun _=>rfl
theorem csT_one:∀x,∀u∈csT x,u.oneCell'=true:=by
 intro x u hu
 simp only [csT,S.It.cs,List.mem_cons,List.not_mem_nil,or_false] at hu
 rcases hu with rfl|rfl|rfl|rfl|rfl|rfl|rfl|rfl|rfl<;>rfl
def S.It.zero:S.It:=⟨0,0,0,0,0,0,0,false,false⟩
theorem sizeT:(Tryz.prog.info? 65).map (·.size)=some 9:=by kernel_rfl
theorem infoT:(Tryz.prog.info? 65).map (fun i=>(i.zero,i.size,i.bytes))=some (some (.agg S.It.zero.cs),9,56):=by kernel_rfl
def csQ (x:S.Pn):List Value:=x.cs.toList
theorem csQ_len:∀x,(csQ x).length=17:=fun _=>rfl
theorem csQ_one:∀x,∀u∈csQ x,u.oneCell'=true:=by
 intro x u hu
 simp only [csQ,S.Pn.cs,List.mem_cons,List.not_mem_nil,or_false] at hu
 rcases hu with rfl|rfl|rfl|rfl|rfl|rfl|rfl|rfl|rfl|rfl|rfl|rfl|rfl|rfl|rfl|rfl|rfl<;>rfl
def S.Pn.zero:S.Pn:=⟨0,0,0,false,false,false,false,false,false,false,false,false,false,false,false,false,false⟩
theorem sizeQ:(Tryz.prog.info? 67).map (·.size)=some 17:=by kernel_rfl
theorem infoQ:(Tryz.prog.info? 67).map (fun i=>(i.zero,i.size,i.bytes))=some (some (.agg S.Pn.zero.cs),17,32):=by kernel_rfl
def csZ (z:Int):List Value:=[.int .i64 z]
theorem csZ_len:∀z,(csZ z).length=1:=fun _=>rfl
def csP (p:Int×Int):List Value:=[.int .i64 p.1,.int .i64 p.2]
theorem csP_len:∀z,(csP z).length=2:=fun _=>rfl
abbrev HeldP:=HeldG csP
theorem sizeP:(Tryz.prog.info? 122).map (·.size)=some 2:=by kernel_rfl
theorem AtP.load {d:List (Int×Int)} (h:AtG csP w b o d) {x:Int×Int} (hj:d[j]? =some x) (p:Nat) (hp:p=o+j * 2):(wholeVar 122 ⟨b,p,none⟩).run Tryz.prog w=.ok (.agg #[.int .i64 x.1,.int .i64 x.2]) w:=by
 subst hp
 exact whole_cells Tryz.underlying122 rfl sizeP w b _ _ rfl fun k u hu=>h.el csP_len hj (by simpa [csP] using hu)
abbrev HeldT:=HeldG csT
abbrev OwnsT:=OwnsG csT 9 65
theorem wpList_appT {ops:Array Oper} {rest:List Oper} {o:Oper} {Q:Exit→Act→World→Prop} (hgd:o.guard=none) (s x:Operand)
 (ho:o.op=.call {callee:=.builtin .append,args:=#[s,x],argTypes:=#[22,22]})
 (base:Nat) (v:Value) (d:List S.It) (hv:a.eval s=v) (hown:OwnsT w base v d) (ad:Addr) (m c:Nat) (e:List S.It) (hx:a.eval x=.slice (some ad) m c) (hm:e.length=m) (hat:∀j u,(Fl csT e)[j]? =some u→w.cell? (ad.add j)=some u)
 (hsz:d.length+m≤2000000000000) (hbase:base≤w.heap.size)
 (h:∀v' w',OwnsT w' base v' (d++e)→w.grownBy w' v.ownBlock→wpList Tryz.prog ops Q rest (a.put o.dst v') w'):wpList Tryz.prog ops Q (o::rest) a w:=
 wpList_appG csT_len csT_one Tryz.underlying22 infoT rfl (by decide) hgd s x ho base v d hv hown ad m c e hx hm hat (by unfold maxLen;omega) (by omega) hbase h
theorem wpList_appT1 {ops:Array Oper} {rest:List Oper} {o:Oper} {Q:Exit→Act→World→Prop} (hgd:o.guard=none) (s x:Operand)
 (ho:o.op=.call {callee:=.builtin .append,args:=#[s,x],argTypes:=#[22,22]})
 (base:Nat) (v:Value) (d:List S.It) (hv:a.eval s=v) (y:S.It) (c:Array Value) (t:TypeId) (b:Nat) (hx:a.eval x=.slice (some ⟨b,0,none⟩) 1 1) (hc:c.toList=csT y) (hb:b=w.heap.size) (hown:OwnsT w base v d)
 (hsz:d.length+1≤2000000000000) (hbase:base≤w.heap.size)
 (h:∀v' w',OwnsT w' base v' (d++[y])→w.grownBy w' v.ownBlock→wpList Tryz.prog ops Q rest (a.put o.dst v') w'):wpList Tryz.prog ops Q (o::rest) a (w.alloc (.cells c t)):=by
 subst hb
 refine wpList_appT hgd s x ho base v d hv (hown.alloc _) ⟨w.heap.size,0,none⟩ 1 1 [y] hx rfl (at_new w t c [y] (by rw [Fl_one];exact hc) _ rfl) hsz (by simp;omega) ?_
 intro v' w' h1 h2
 exact h v' w' h1 (World.grownBy.trans (World.grownBy_alloc w _ _) h2)
abbrev HeldQ:=HeldG csQ
abbrev OwnsQ:=OwnsG csQ 17 67
theorem wpList_appQ {ops:Array Oper} {rest:List Oper} {o:Oper} {Q:Exit→Act→World→Prop} (hgd:o.guard=none) (s x:Operand)
 (ho:o.op=.call {callee:=.builtin .append,args:=#[s,x],argTypes:=#[29,29]})
 (base:Nat) (v:Value) (d:List S.Pn) (hv:a.eval s=v) (hown:OwnsQ w base v d) (ad:Addr) (m c:Nat) (e:List S.Pn) (hx:a.eval x=.slice (some ad) m c) (hm:e.length=m) (hat:∀j u,(Fl csQ e)[j]? =some u→w.cell? (ad.add j)=some u)
 (hsz:d.length+m≤4000000000000) (hbase:base≤w.heap.size)
 (h:∀v' w',OwnsQ w' base v' (d++e)→w.grownBy w' v.ownBlock→wpList Tryz.prog ops Q rest (a.put o.dst v') w'):wpList Tryz.prog ops Q (o::rest) a w:=
 wpList_appG csQ_len csQ_one Tryz.underlying29 infoQ rfl (by decide) hgd s x ho base v d hv hown ad m c e hx hm hat (by unfold maxLen;omega) (by omega) hbase h
abbrev HeldZ:=HeldG csZ
abbrev OwnsZ:=OwnsG csZ 1 3
theorem AtT.load (h:AtG csT w b o d) (hj:d[j]? =some x) (p:Nat) (hp:p=o+j * 9):(wholeVar 65 ⟨b,p,none⟩).run Tryz.prog w=.ok (.agg x.cs) w:=by
 subst hp
 exact whole_cells Tryz.underlying65 rfl sizeT w b _ x.cs rfl fun k u hu=>h.el csT_len hj (by simpa [csT] using hu)
theorem AtT.loadM (h:AtG csT w b o d) (hb:b < w.heap.size) (hj:d[j]? =some x) (p:Nat) (hp:p=o+j * 9):∀n os,(wholeVar 65 ⟨b,p,none⟩).run Tryz.prog (More w n os)=.ok (.agg x.cs) (More w n os):=fun n os=>
 AtT.load (h.keep fun i=>(Adds.more (Adds.refl w) n os).cell hb) hj p hp
theorem AtQ.load {d:List S.Pn} (h:AtG csQ w b o d) {x:S.Pn} (hj:d[j]? =some x) (p:Nat) (hp:p=o+j * 17):(wholeVar 67 ⟨b,p,none⟩).run Tryz.prog w=.ok (.agg x.cs) w:=by
 subst hp
 exact whole_cells Tryz.underlying67 rfl sizeQ w b _ x.cs rfl fun k u hu=>h.el csQ_len hj (by simpa [csQ] using hu)
theorem AtQ.loadM {d:List S.Pn} (h:AtG csQ w b o d) (hb:b < w.heap.size) {x:S.Pn} (hj:d[j]? =some x) (p:Nat) (hp:p=o+j * 17):∀n os,(wholeVar 67 ⟨b,p,none⟩).run Tryz.prog (More w n os)=.ok (.agg x.cs) (More w n os):=fun n os=>
 AtQ.load (h.keep fun i=>(Adds.more (Adds.refl w) n os).cell hb) hj p hp
theorem AtZ.el {d:List Int} (h:AtG csZ w b o d) {z:Int} (hj:d[j]? =some z):w.cell? ⟨b,o+j,none⟩=some (.int .i64 z):=by
 have:=h.el csZ_len hj (k:=0) (u:=.int .i64 z) rfl
 rwa [Nat.mul_one,Nat.add_zero] at this
def ArgT (w:World) (a:Option Addr) (n:Nat) (d:List S.It):Prop:=d.length=n∧(0 < n→∃b o,a=some ⟨b,o,none⟩∧b < w.heap.size∧AtG csT w b o d)
theorem ArgT.held {a:Option Addr} {n:Nat} (h:ArgT w a n d) (hn:n≤4611686018427387904):HeldT w a n d:=⟨h.1,hn,h.2⟩
theorem argT_of (w:World) (x:Addr) (len:Nat) (hc:∀i,i < len→∃r:S.It,∀k u,(csT r)[k]? =some u→w.cell? (x.add (i * 9+k))=some u):∃l,ArgT w (some x) len l:=by
 rcases Nat.eq_zero_or_pos len with rfl|hp
 ·exact ⟨[],rfl,fun h=>absurd h (by omega)⟩
 obtain ⟨f,hf⟩:∃f:Nat→S.It,∀i,i < len→∀k u,(csT (f i))[k]? =some u→w.cell? (x.add (i * 9+k))=some u:=by
  refine ⟨fun i=>if h:i < len then (hc i h).choose else default,fun i hi=> ?_⟩
  simp only [hi,dif_pos]
  exact (hc i hi).choose_spec
 have h0:=(hf 0 hp) 0 _ rfl
 rw [show x.add (0 * 9+0)=x by simp [Addr.add]] at h0
 obtain ⟨b,o,sp⟩:=x
 obtain rfl:sp=none:=cell_spot h0
 refine ⟨(List.range len).map f,by simp,fun _=>⟨b,o,rfl,cell_lt h0,fun j u hu=> ?_⟩⟩
 have hlen:(Fl csT ((List.range len).map f)).length=len * 9:=by rw [Fl_len csT_len];simp
 have hj:j < len * 9:=by have:=(List.getElem?_eq_some_iff.1 hu).1;omega
 have hq:((List.range len).map f)[j / 9]? =some (f (j / 9)):=by rw [List.getElem?_map,List.getElem?_range (by omega)];rfl
 obtain ⟨v,hv⟩:∃v,(csT (f (j / 9)))[j % 9]? =some v:=⟨_,List.getElem?_eq_getElem (by rw [csT_len];omega)⟩
 have k1:=Fl_get csT_len _ _ _ hq _ _ hv
 rw [show j / 9 * 9+j % 9=j by omega,hu] at k1
 obtain rfl:=Option.some.inj k1
 have k2:=(hf (j / 9) (by omega)) _ _ hv
 rw [add_plain,show j / 9 * 9+j % 9=j by omega] at k2
 exact k2
theorem open_items {H:Type} {enc:TypeId×Value→H} {base:Nat} {spare:Nat→Bool} {held:Bool} {fuel:Nat} {cs:List Value} {x:DataW H×List MemPlace}
 (h:DataW.trod enc Tryz.prog w base spare held fuel 22 cs=some x):∃a len cap,cs=[.slice a len cap]∧(len≤cap∧cap≤9223372036854775807)∧∃l,ArgT w a len l:=by
 have hC:Tryz.prog.cellsOf 65=9:=by kernel_rfl
 rcases open_slice Tryz.underlying22 h with ⟨hcs,_⟩|⟨a,len,cap,m,n,D,Pl,hcs,hb,hl,hm,hmm,hx,hi⟩
 ·exact ⟨none,0,0,hcs,⟨by omega,by omega⟩,[],rfl,fun h=>absurd h (by omega)⟩
 ·refine ⟨some a,len,cap,hcs,⟨hl,by simpa [maxLen] using hm⟩,argT_of w a len (fun i hi'=> ?_)⟩
  obtain ⟨cs',hc,ht'⟩:=hi i (by rw [hmm];split<;>omega)
  rw [hC] at hc
  have hf:=flat_fits 9 65 [.int .i64,.int .i64,.int .u16,.int .u8,.int .i64,.int .i64,.int .i64,.bool,.bool] _ _ _ (by kernel_rfl) ht'
  obtain ⟨z0,l0,rfl,q0,hf0⟩:=fits_int hf
  obtain ⟨z1,l1,rfl,q1,hf1⟩:=fits_int hf0
  obtain ⟨z2,l2,rfl,q2,hf2⟩:=fits_int hf1
  obtain ⟨z3,l3,rfl,q3,hf3⟩:=fits_int hf2
  obtain ⟨z4,l4,rfl,q4,hf4⟩:=fits_int hf3
  obtain ⟨z5,l5,rfl,q5,hf5⟩:=fits_int hf4
  obtain ⟨z6,l6,rfl,q6,hf6⟩:=fits_int hf5
  obtain ⟨z7,l7,rfl,hf7⟩:=fits_bool hf6
  obtain ⟨z8,l8,rfl,hf8⟩:=fits_bool hf7
  obtain rfl:=fits_nil hf8
  obtain ⟨_,hcl,hat⟩:=World.cells?_some hc
  refine ⟨⟨z0,z1,z2,z3,z4,z5,z6,z7,z8⟩,fun k u hu=> ?_⟩
  have hk:k < 9:=by have:=(List.getElem?_eq_some_iff.1 hu).1;rwa [csT_len] at this
  have g:=hat k (by omega)
  rw [addr_add_add] at g
  rw [g]
  simpa [csT,S.It.cs] using hu
end
section
variable {w:World}
theorem spins_any (a a':Option Addr) (len cap cap':Nat) (l:List S.Pn) (h:HeldQ w a len l) (h':HeldQ w a' len l):
 Calls Tryz.prog 12 #[.slice a len cap,.slice a' len cap'] w fun e w'=>e=.returned (.bool true)∧Adds w w':=by
 obtain ⟨hl,hbig,hat⟩:=h
 obtain ⟨_,_,hat2⟩:=h'
 have HL:=Lib.hid hl
 have HAT:=Lib.hid hat
 have HAT2:=Lib.hid hat2
 clear hl hat hat2
 go_enter Tryz.func12,Tryz.ntmps12
 go_wp2_with fail
 go_loopw [13] (fun i wr=>∃k:Nat,k≤len∧i=.int .i64 (k:Int)∧Adds w wr) (fun i _=>len - (intOf i).toNat)
 case atStart=>exact ⟨0,Nat.zero_le _,rfl,Adds.refl _⟩
 case round=>
  obtain ⟨k,hk,rfl,hA⟩:=hrel
  have HA:=Lib.hid hA
  clear hA
  by_cases hlt:k < len
  ·obtain ⟨b,o,rfl,hb,hat⟩:=HAT.out (by omega)
   obtain ⟨b2,o2,rfl,hb2,hat2⟩:=HAT2.out (by omega)
   obtain ⟨x,hx⟩:=get_el (d:=l) (k:=k) (by have:=HL.out;omega)
   have hL:∀n os,(wholeVar 67 ⟨b,o+k * 17,none⟩).run Tryz.prog (More wr n os)=.ok (.agg #[.int .i64 x.st,.int .u16 x.ad,.int .u8 x.da,.bool x.sy,.bool x.db,.bool x.wa,.bool x.it,.bool x.al,.bool x.im,.bool x.s1,.bool x.s0,.bool x.rd,.bool x.ia,.bool x.so,.bool x.wr,.bool x.hl,.bool x.fl]) (More wr n os):=AtQ.loadM (AtG.keep (w':=wr) hat fun i=>HA.out.cell hb) (by have:=HA.out.size;omega) hx _ rfl
   have hL2:∀n os,(wholeVar 67 ⟨b2,o2+k * 17,none⟩).run Tryz.prog (More wr n os)=.ok (.agg #[.int .i64 x.st,.int .u16 x.ad,.int .u8 x.da,.bool x.sy,.bool x.db,.bool x.wa,.bool x.it,.bool x.al,.bool x.im,.bool x.s1,.bool x.s0,.bool x.rd,.bool x.ia,.bool x.so,.bool x.wr,.bool x.hl,.bool x.fl]) (More wr n os):=AtQ.loadM (AtG.keep (w':=wr) hat2 fun i=>HA.out.cell hb2) (by have:=HA.out.size;omega) hx _ rfl
   have q1:(k:Int) < (len:Int):=by omega
   clear hat hat2 hx HAT HAT2
   go_wp2_with fail
   refine qt ?_
   repeat (go_big_quiet_step (fail))
   refine qn fun nq osq=> ?_
   go_wp2_with fail
   go_roundw
   case rel=>exact ⟨k+1,by omega,by go_num,HA.out.trans aD⟩
   case measure=>simp [intOf];omega
  ·have q1:¬(k:Int) < (len:Int):=by omega
   clear HAT HAT2
   go_wp2_with fail
   go_ret
   exact ⟨rfl,HA.out⟩
theorem accepts_1:Calls Tryz.prog 76 #[.int .i64 1] w fun e w'=>e=.returned (.bool true)∧Adds w w':=by
 go_enter Tryz.func76,Tryz.ntmps76
 go_wp2_with fail
 go_ret
 exact ⟨rfl,aD⟩
theorem pwaits_ex:Calls Tryz.prog 44 #[.agg #[.int .i64 1,.int .i64 1,.int .u16 0,.int .u8 0,.int .i64 4,.int .i64 1,.int .i64 4,.bool false,.bool false]] w fun e w'=>e=.returned (.bool true)∧Adds w w':=by
 go_enter Tryz.func44,Tryz.ntmps44
 go_wp2_with (go_at_call 76;refine ad (accepts_1) fun n1 os1=> ?_)
 go_ret
 exact ⟨rfl,aD⟩
theorem possible_ex:Calls Tryz.prog 22 #[.agg #[.int .i64 1,.int .i64 1,.int .u16 0,.int .u8 0,.int .i64 4,.int .i64 1,.int .i64 4,.bool false,.bool false]] w fun e w'=>e=.returned (.bool true)∧Adds w w':=by
 go_enter Tryz.func22,Tryz.ntmps22
 go_wp2_with (go_at_call 44;refine ad (pwaits_ex) fun n1 os1=> ?_)
 go_ret
 exact ⟨rfl,aD⟩
end
section
variable {w:World}
theorem q3C18 {P:Prop} (h:P:=by
 go_enter Tryz.func114,Tryz.ntmps114
 go_wp2_with fail
 go_ret
 exact ⟨rfl,aD⟩):P:=h
theorem st_byte (n:Int):Calls Tryz.prog 114 #[.int .i64 n] w fun e w'=>e=.returned (.int .u8 (S.stB n))∧Adds w w':=by
 by_cases h1:n=1
 ·subst h1
  exact q3C18
 by_cases h2:n=2
 ·subst h2
  exact q3C18
 by_cases h3:n=3
 ·subst h3
  exact q3C18
 by_cases h4:n=4
 ·subst h4
  exact q3C18
 by_cases h5:n=5
 ·subst h5
  exact q3C18
 by_cases h6:n=6
 ·subst h6
  exact q3C18
 by_cases h7:n=7
 ·subst h7
  exact q3C18
 by_cases h8:n=8
 ·subst h8
  exact q3C18
 by_cases h9:n=9
 ·subst h9
  exact q3C18
 by_cases h10:n=10
 ·subst h10
  exact q3C18
 by_cases h11:n=11
 ·subst h11
  exact q3C18
 by_cases h12:n=12
 ·subst h12
  exact q3C18
 ·rw [S.stB_no n h1 h2 h3 h4 h5 h6 h7 h8 h9 h10 h11 h12]
  go_enter Tryz.func114,Tryz.ntmps114
  go_wp2_with fail
  go_ret
  exact ⟨by simp [*],aD⟩
theorem q4C18 {P:Prop} (h:P:=by
 go_enter Tryz.func123,Tryz.ntmps123
 go_wp2_with fail
 go_ret
 exact ⟨rfl,aD⟩):P:=h
theorem rst_byte (n:Int):Calls Tryz.prog 123 #[.int .i64 n] w fun e w'=>e=.returned (.int .u8 (S.stB n))∧Adds w w':=by
 by_cases h1:n=1
 ·subst h1
  exact q4C18
 by_cases h2:n=2
 ·subst h2
  exact q4C18
 by_cases h3:n=3
 ·subst h3
  exact q4C18
 by_cases h4:n=4
 ·subst h4
  exact q4C18
 by_cases h5:n=5
 ·subst h5
  exact q4C18
 by_cases h6:n=6
 ·subst h6
  exact q4C18
 by_cases h7:n=7
 ·subst h7
  exact q4C18
 by_cases h8:n=8
 ·subst h8
  exact q4C18
 by_cases h9:n=9
 ·subst h9
  exact q4C18
 by_cases h10:n=10
 ·subst h10
  exact q4C18
 by_cases h11:n=11
 ·subst h11
  exact q4C18
 by_cases h12:n=12
 ·subst h12
  exact q4C18
 ·rw [S.stB_no n h1 h2 h3 h4 h5 h6 h7 h8 h9 h10 h11 h12]
  go_enter Tryz.func123,Tryz.ntmps123
  go_wp2_with fail
  go_ret
  exact ⟨by simp [*],aD⟩
theorem q5C18 {P:Prop} (h:P:=by
 go_enter Tryz.func112,Tryz.ntmps112
 go_wp2_with fail
 go_ret
 exact ⟨rfl,aD⟩):P:=h
theorem st_reads (n:Int):Calls Tryz.prog 112 #[.int .i64 n] w fun e w'=>e=.returned (.bool (S.stR n))∧Adds w w':=by
 by_cases h1:n=1
 ·subst h1
  exact q5C18
 by_cases h2:n=2
 ·subst h2
  exact q5C18
 by_cases h3:n=3
 ·subst h3
  exact q5C18
 by_cases h4:n=4
 ·subst h4
  exact q5C18
 by_cases h5:n=5
 ·subst h5
  exact q5C18
 by_cases h6:n=6
 ·subst h6
  exact q5C18
 by_cases h7:n=7
 ·subst h7
  exact q5C18
 by_cases h8:n=8
 ·subst h8
  exact q5C18
 by_cases h9:n=9
 ·subst h9
  exact q5C18
 by_cases h10:n=10
 ·subst h10
  exact q5C18
 by_cases h11:n=11
 ·subst h11
  exact q5C18
 by_cases h12:n=12
 ·subst h12
  exact q5C18
 ·rw [S.stR_no n h1 h2 h3 h4 h5 h6 h7 h8 h9 h10 h11 h12]
  go_enter Tryz.func112,Tryz.ntmps112
  go_wp2_with fail
  go_ret
  exact ⟨by simp [*],aD⟩
theorem q7C18 {P:Prop} (h:P:=by
 go_enter Tryz.func66,Tryz.ntmps66
 go_wp2_with fail
 go_ret
 exact ⟨rfl,aD⟩):P:=h
theorem rst_reads (n:Int) (w:World):Calls Tryz.prog 66 #[.int .i64 n] w fun e w'=>e=.returned (.bool (S.stR n))∧Adds w w':=by
 by_cases h1:n=1
 ·subst h1
  exact q7C18
 by_cases h2:n=2
 ·subst h2
  exact q7C18
 by_cases h3:n=3
 ·subst h3
  exact q7C18
 by_cases h4:n=4
 ·subst h4
  exact q7C18
 by_cases h5:n=5
 ·subst h5
  exact q7C18
 by_cases h6:n=6
 ·subst h6
  exact q7C18
 by_cases h7:n=7
 ·subst h7
  exact q7C18
 by_cases h8:n=8
 ·subst h8
  exact q7C18
 by_cases h9:n=9
 ·subst h9
  exact q7C18
 by_cases h10:n=10
 ·subst h10
  exact q7C18
 by_cases h11:n=11
 ·subst h11
  exact q7C18
 by_cases h12:n=12
 ·subst h12
  exact q7C18
 ·rw [S.stR_no n h1 h2 h3 h4 h5 h6 h7 h8 h9 h10 h11 h12]
  go_enter Tryz.func66,Tryz.ntmps66
  go_wp2_with fail
  go_ret
  exact ⟨by simp [*],aD⟩
theorem q6C18 {P:Prop} (h:P:=by
 go_enter Tryz.func111,Tryz.ntmps111
 go_wp2_with fail
 go_ret
 exact ⟨rfl,aD⟩):P:=h
theorem st_writes (n:Int):Calls Tryz.prog 111 #[.int .i64 n] w fun e w'=>e=.returned (.bool (S.stW n))∧Adds w w':=by
 by_cases h1:n=1
 ·subst h1
  exact q6C18
 by_cases h2:n=2
 ·subst h2
  exact q6C18
 by_cases h3:n=3
 ·subst h3
  exact q6C18
 by_cases h4:n=4
 ·subst h4
  exact q6C18
 by_cases h5:n=5
 ·subst h5
  exact q6C18
 by_cases h6:n=6
 ·subst h6
  exact q6C18
 by_cases h7:n=7
 ·subst h7
  exact q6C18
 by_cases h8:n=8
 ·subst h8
  exact q6C18
 by_cases h9:n=9
 ·subst h9
  exact q6C18
 by_cases h10:n=10
 ·subst h10
  exact q6C18
 by_cases h11:n=11
 ·subst h11
  exact q6C18
 by_cases h12:n=12
 ·subst h12
  exact q6C18
 ·rw [S.stW_no n h1 h2 h3 h4 h5 h6 h7 h8 h9 h10 h11 h12]
  go_enter Tryz.func111,Tryz.ntmps111
  go_wp2_with fail
  go_ret
  exact ⟨by simp [*],aD⟩
theorem q8C18 {P:Prop} (h:P:=by
 go_enter Tryz.func62,Tryz.ntmps62
 go_wp2_with fail
 go_ret
 exact ⟨rfl,aD⟩):P:=h
theorem rst_writes (n:Int) (w:World):Calls Tryz.prog 62 #[.int .i64 n] w fun e w'=>e=.returned (.bool (S.stW n))∧Adds w w':=by
 by_cases h1:n=1
 ·subst h1
  exact q8C18
 by_cases h2:n=2
 ·subst h2
  exact q8C18
 by_cases h3:n=3
 ·subst h3
  exact q8C18
 by_cases h4:n=4
 ·subst h4
  exact q8C18
 by_cases h5:n=5
 ·subst h5
  exact q8C18
 by_cases h6:n=6
 ·subst h6
  exact q8C18
 by_cases h7:n=7
 ·subst h7
  exact q8C18
 by_cases h8:n=8
 ·subst h8
  exact q8C18
 by_cases h9:n=9
 ·subst h9
  exact q8C18
 by_cases h10:n=10
 ·subst h10
  exact q8C18
 by_cases h11:n=11
 ·subst h11
  exact q8C18
 by_cases h12:n=12
 ·subst h12
  exact q8C18
 ·rw [S.stW_no n h1 h2 h3 h4 h5 h6 h7 h8 h9 h10 h11 h12]
  go_enter Tryz.func62,Tryz.ntmps62
  go_wp2_with fail
  go_ret
  exact ⟨by simp [*],aD⟩
theorem q1C18 {P:Prop} (h:P:=by
 go_enter Tryz.func113,Tryz.ntmps113
 go_wp2_with fail
 exact bodyPost_ret (by simp [results,Tryz.results113,go_sem];exact ⟨rfl,rfl,rfl⟩) rfl ⟨rfl,aD⟩):P:=h
theorem st_lines (n:Int):Calls Tryz.prog 113 #[.int .i64 n] w fun e w'=>e=.returned (.tuple #[.bool (S.stM n),.bool (S.st1 n),.bool (S.st0 n)])∧Adds w w':=by
 by_cases h1:n=1
 ·subst h1
  exact q1C18
 by_cases h2:n=2
 ·subst h2
  exact q1C18
 by_cases h3:n=3
 ·subst h3
  exact q1C18
 by_cases h4:n=4
 ·subst h4
  exact q1C18
 by_cases h5:n=5
 ·subst h5
  exact q1C18
 by_cases h6:n=6
 ·subst h6
  exact q1C18
 by_cases h7:n=7
 ·subst h7
  exact q1C18
 by_cases h8:n=8
 ·subst h8
  exact q1C18
 by_cases h9:n=9
 ·subst h9
  exact q1C18
 by_cases h10:n=10
 ·subst h10
  exact q1C18
 by_cases h11:n=11
 ·subst h11
  exact q1C18
 by_cases h12:n=12
 ·subst h12
  exact q1C18
 ·rw [S.stM_no n h1 h2 h3 h4 h5 h6 h7 h8 h9 h10 h11 h12,S.st1_no n h1 h2 h3 h4 h5 h6 h7 h8 h9 h10 h11 h12,S.st0_no n h1 h2 h3 h4 h5 h6 h7 h8 h9 h10 h11 h12]
  go_enter Tryz.func113,Tryz.ntmps113
  go_wp2_with fail
  exact bodyPost_ret (by simp [results,Tryz.results113,go_sem]) rfl ⟨rfl,aD⟩
theorem q2C18 {P:Prop} (h:P:=by
 go_enter Tryz.func122,Tryz.ntmps122
 go_wp2_with fail
 exact bodyPost_ret (by simp [results,Tryz.results122,go_sem];exact ⟨rfl,rfl,rfl⟩) rfl ⟨rfl,aD⟩):P:=h
theorem rst_lines (n:Int):Calls Tryz.prog 122 #[.int .i64 n] w fun e w'=>e=.returned (.tuple #[.bool (S.stM n),.bool (S.st1 n),.bool (S.st0 n)])∧Adds w w':=by
 by_cases h1:n=1
 ·subst h1
  exact q2C18
 by_cases h2:n=2
 ·subst h2
  exact q2C18
 by_cases h3:n=3
 ·subst h3
  exact q2C18
 by_cases h4:n=4
 ·subst h4
  exact q2C18
 by_cases h5:n=5
 ·subst h5
  exact q2C18
 by_cases h6:n=6
 ·subst h6
  exact q2C18
 by_cases h7:n=7
 ·subst h7
  exact q2C18
 by_cases h8:n=8
 ·subst h8
  exact q2C18
 by_cases h9:n=9
 ·subst h9
  exact q2C18
 by_cases h10:n=10
 ·subst h10
  exact q2C18
 by_cases h11:n=11
 ·subst h11
  exact q2C18
 by_cases h12:n=12
 ·subst h12
  exact q2C18
 ·rw [S.stM_no n h1 h2 h3 h4 h5 h6 h7 h8 h9 h10 h11 h12,S.st1_no n h1 h2 h3 h4 h5 h6 h7 h8 h9 h10 h11 h12,S.st0_no n h1 h2 h3 h4 h5 h6 h7 h8 h9 h10 h11 h12]
  go_enter Tryz.func122,Tryz.ntmps122
  go_wp2_with fail
  exact bodyPost_ret (by simp [results,Tryz.results122,go_sem]) rfl ⟨rfl,aD⟩
end
section
variable {w:World}
theorem limited_any {n:Int}:Calls Tryz.prog 78 #[.int .i64 n] w fun e w'=>e=.returned (.int .i64 (S.lim n))∧w=w':=by
 go_enter Tryz.func78,Tryz.ntmps78
 go_wp2
 all_goals first|(go_ret;exact ⟨ri (by unfold S.lim;omega),rfl⟩)|skip
theorem transferred_1 (c a d s:Int):Calls Tryz.prog 79 #[.agg #[.int .i64 c,.int .u16 a,.int .u8 d,.int .i64 s],.int .i64 1] w fun e w'=>e=.returned (.int .u8 (S.tr c d 1))∧Adds w w':=by
 cases hR:S.stR c<;>cases hW:S.stW c
 all_goals
  go_enter Tryz.func79,Tryz.ntmps79
  go_wp2_with (first|(go_at_call 111;refine ad (st_writes c) fun n1 os1=> ?_;rw [hW])|(go_at_call 112;refine ad (st_reads c) fun n2 os2=> ?_;rw [hR]))
  go_ret
  exact ⟨ri (by simp [S.tr,hR,hW]),aD⟩
theorem transferred_2 (c a d s:Int):Calls Tryz.prog 79 #[.agg #[.int .i64 c,.int .u16 a,.int .u8 d,.int .i64 s],.int .i64 2] w fun e w'=>e=.returned (.int .u8 (S.tr c d 2))∧Adds w w':=by
 cases hR:S.stR c<;>cases hW:S.stW c
 all_goals
  go_enter Tryz.func79,Tryz.ntmps79
  go_wp2_with (first|(go_at_call 111;refine ad (st_writes c) fun n1 os1=> ?_;rw [hW])|(go_at_call 112;refine ad (st_reads c) fun n2 os2=> ?_;rw [hR]))
  go_ret
  exact ⟨ri (by simp [S.tr,hR,hW]),aD⟩
theorem transferred_3 (c a d s:Int):Calls Tryz.prog 79 #[.agg #[.int .i64 c,.int .u16 a,.int .u8 d,.int .i64 s],.int .i64 3] w fun e w'=>e=.returned (.int .u8 (S.tr c d 3))∧Adds w w':=by
 cases hR:S.stR c<;>cases hW:S.stW c
 all_goals
  go_enter Tryz.func79,Tryz.ntmps79
  go_wp2_with (first|(go_at_call 111;refine ad (st_writes c) fun n1 os1=> ?_;rw [hW])|(go_at_call 112;refine ad (st_reads c) fun n2 os2=> ?_;rw [hR]))
  go_ret
  exact ⟨ri (by simp [S.tr,hR,hW]),aD⟩
theorem transferred_4 (c a d s:Int):Calls Tryz.prog 79 #[.agg #[.int .i64 c,.int .u16 a,.int .u8 d,.int .i64 s],.int .i64 4] w fun e w'=>e=.returned (.int .u8 (S.tr c d 4))∧Adds w w':=by
 cases hR:S.stR c<;>cases hW:S.stW c
 all_goals
  go_enter Tryz.func79,Tryz.ntmps79
  go_wp2_with (first|(go_at_call 111;refine ad (st_writes c) fun n1 os1=> ?_;rw [hW])|(go_at_call 112;refine ad (st_reads c) fun n2 os2=> ?_;rw [hR]))
  go_ret
  exact ⟨ri (by simp [S.tr,hR,hW]),aD⟩
theorem transferred_5 (c a d s:Int):Calls Tryz.prog 79 #[.agg #[.int .i64 c,.int .u16 a,.int .u8 d,.int .i64 s],.int .i64 5] w fun e w'=>e=.returned (.int .u8 (S.tr c d 5))∧Adds w w':=by
 cases hR:S.stR c<;>cases hW:S.stW c
 all_goals
  go_enter Tryz.func79,Tryz.ntmps79
  go_wp2_with (first|(go_at_call 111;refine ad (st_writes c) fun n1 os1=> ?_;rw [hW])|(go_at_call 112;refine ad (st_reads c) fun n2 os2=> ?_;rw [hR]))
  go_ret
  exact ⟨ri (by simp [S.tr,hR,hW]),aD⟩
theorem transferred_6 (c a d s:Int):Calls Tryz.prog 79 #[.agg #[.int .i64 c,.int .u16 a,.int .u8 d,.int .i64 s],.int .i64 6] w fun e w'=>e=.returned (.int .u8 (S.tr c d 6))∧Adds w w':=by
 cases hR:S.stR c<;>cases hW:S.stW c
 all_goals
  go_enter Tryz.func79,Tryz.ntmps79
  go_wp2_with (first|(go_at_call 111;refine ad (st_writes c) fun n1 os1=> ?_;rw [hW])|(go_at_call 112;refine ad (st_reads c) fun n2 os2=> ?_;rw [hR]))
  go_ret
  exact ⟨ri (by simp [S.tr,hR,hW]),aD⟩
theorem transferred_7 (c a d s:Int):Calls Tryz.prog 79 #[.agg #[.int .i64 c,.int .u16 a,.int .u8 d,.int .i64 s],.int .i64 7] w fun e w'=>e=.returned (.int .u8 (S.tr c d 7))∧Adds w w':=by
 cases hR:S.stR c<;>cases hW:S.stW c
 all_goals
  go_enter Tryz.func79,Tryz.ntmps79
  go_wp2_with (first|(go_at_call 111;refine ad (st_writes c) fun n1 os1=> ?_;rw [hW])|(go_at_call 112;refine ad (st_reads c) fun n2 os2=> ?_;rw [hR]))
  go_ret
  exact ⟨ri (by simp [S.tr,hR,hW]),aD⟩
theorem transferred_8 (c a d s:Int):Calls Tryz.prog 79 #[.agg #[.int .i64 c,.int .u16 a,.int .u8 d,.int .i64 s],.int .i64 8] w fun e w'=>e=.returned (.int .u8 (S.tr c d 8))∧Adds w w':=by
 cases hR:S.stR c<;>cases hW:S.stW c
 all_goals
  go_enter Tryz.func79,Tryz.ntmps79
  go_wp2_with (first|(go_at_call 111;refine ad (st_writes c) fun n1 os1=> ?_;rw [hW])|(go_at_call 112;refine ad (st_reads c) fun n2 os2=> ?_;rw [hR]))
  go_ret
  exact ⟨ri (by simp [S.tr,hR,hW]),aD⟩
theorem transferred_9 (c a d s:Int):Calls Tryz.prog 79 #[.agg #[.int .i64 c,.int .u16 a,.int .u8 d,.int .i64 s],.int .i64 9] w fun e w'=>e=.returned (.int .u8 (S.tr c d 9))∧Adds w w':=by
 cases hR:S.stR c<;>cases hW:S.stW c
 all_goals
  go_enter Tryz.func79,Tryz.ntmps79
  go_wp2_with (first|(go_at_call 111;refine ad (st_writes c) fun n1 os1=> ?_;rw [hW])|(go_at_call 112;refine ad (st_reads c) fun n2 os2=> ?_;rw [hR]))
  go_ret
  exact ⟨ri (by simp [S.tr,hR,hW]),aD⟩
theorem transferred_10 (c a d s:Int):Calls Tryz.prog 79 #[.agg #[.int .i64 c,.int .u16 a,.int .u8 d,.int .i64 s],.int .i64 10] w fun e w'=>e=.returned (.int .u8 (S.tr c d 10))∧Adds w w':=by
 cases hR:S.stR c<;>cases hW:S.stW c
 all_goals
  go_enter Tryz.func79,Tryz.ntmps79
  go_wp2_with (first|(go_at_call 111;refine ad (st_writes c) fun n1 os1=> ?_;rw [hW])|(go_at_call 112;refine ad (st_reads c) fun n2 os2=> ?_;rw [hR]))
  go_ret
  exact ⟨ri (by simp [S.tr,hR,hW]),aD⟩
end
section
theorem q1C26c {P:Prop} (h:P:=by
 go_enter Tryz.func81,Tryz.ntmps81
 go_wp2_with (first|(go_at_call 111;refine ad (st_writes c) fun n1 os1=> ?_)|(go_at_call 112;refine ad (st_reads c) fun n2 os2=> ?_))
 exact bodyPost_ret (ret_Pins Tryz.results81 rfl (by simp [go_sem,S.pn,S.Pn.cs,S.tr]) rfl) rfl ⟨rfl,aD⟩):P:=h
theorem pins80_2 (x:S.It) (hk:x.k=1) (w:World):Calls Tryz.prog 81 #[.agg #[.int .i64 2,.int .u16 (x.a),.int .u8 ((S.tr x.c x.d 2)),.bool false,.bool false,.bool false,.bool false,.bool false,.bool false,.bool false,.bool false,.bool false,.bool false,.bool false,.bool false,.bool false,.bool false],.agg #[.int .i64 x.k,.int .i64 x.c,.int .u16 x.a,.int .u8 x.d,.int .i64 x.s,.int .i64 x.w,.int .i64 x.n,.bool x.e,.bool x.o]] w fun e w'=>e=.returned (.agg (S.pn false x 2).cs)∧Adds w w':=by
 obtain ⟨k,c,a,d,s,ww,n,e,o⟩:=x
 obtain rfl:k=1:=hk
 simp only []
 exact q1C26c
theorem pins80_3 (x:S.It) (hk:x.k=1) (w:World):Calls Tryz.prog 81 #[.agg #[.int .i64 3,.int .u16 (x.a),.int .u8 ((S.tr x.c x.d 3)),.bool false,.bool false,.bool false,.bool false,.bool false,.bool false,.bool false,.bool false,.bool false,.bool false,.bool false,.bool false,.bool false,.bool false],.agg #[.int .i64 x.k,.int .i64 x.c,.int .u16 x.a,.int .u8 x.d,.int .i64 x.s,.int .i64 x.w,.int .i64 x.n,.bool x.e,.bool x.o]] w fun e w'=>e=.returned (.agg (S.pn false x 3).cs)∧Adds w w':=by
 obtain ⟨k,c,a,d,s,ww,n,e,o⟩:=x
 obtain rfl:k=1:=hk
 simp only []
 exact q1C26c
theorem pins80_4 (x:S.It) (hk:x.k=1) (w:World):Calls Tryz.prog 81 #[.agg #[.int .i64 4,.int .u16 (x.a),.int .u8 ((S.tr x.c x.d 4)),.bool false,.bool false,.bool false,.bool false,.bool false,.bool false,.bool false,.bool false,.bool false,.bool false,.bool false,.bool false,.bool false,.bool false],.agg #[.int .i64 x.k,.int .i64 x.c,.int .u16 x.a,.int .u8 x.d,.int .i64 x.s,.int .i64 x.w,.int .i64 x.n,.bool x.e,.bool x.o]] w fun e w'=>e=.returned (.agg (S.pn false x 4).cs)∧Adds w w':=by
 obtain ⟨k,c,a,d,s,ww,n,e,o⟩:=x
 obtain rfl:k=1:=hk
 simp only []
 exact q1C26c
theorem pins80_5 (x:S.It) (hk:x.k=1) (w:World):Calls Tryz.prog 81 #[.agg #[.int .i64 5,.int .u16 (x.a),.int .u8 ((S.tr x.c x.d 5)),.bool false,.bool false,.bool false,.bool false,.bool false,.bool false,.bool false,.bool false,.bool false,.bool false,.bool false,.bool false,.bool false,.bool false],.agg #[.int .i64 x.k,.int .i64 x.c,.int .u16 x.a,.int .u8 x.d,.int .i64 x.s,.int .i64 x.w,.int .i64 x.n,.bool x.e,.bool x.o]] w fun e w'=>e=.returned (.agg (S.pn false x 5).cs)∧Adds w w':=by
 obtain ⟨k,c,a,d,s,ww,n,e,o⟩:=x
 obtain rfl:k=1:=hk
 simp only []
 exact q1C26c
theorem pins80_6 (x:S.It) (hk:x.k=1) (w:World):Calls Tryz.prog 81 #[.agg #[.int .i64 6,.int .u16 (x.a),.int .u8 ((S.tr x.c x.d 6)),.bool false,.bool false,.bool false,.bool false,.bool false,.bool false,.bool false,.bool false,.bool false,.bool false,.bool false,.bool false,.bool false,.bool false],.agg #[.int .i64 x.k,.int .i64 x.c,.int .u16 x.a,.int .u8 x.d,.int .i64 x.s,.int .i64 x.w,.int .i64 x.n,.bool x.e,.bool x.o]] w fun e w'=>e=.returned (.agg (S.pn false x 6).cs)∧Adds w w':=by
 obtain ⟨k,c,a,d,s,ww,n,e,o⟩:=x
 obtain rfl:k=1:=hk
 simp only []
 exact q1C26c
theorem pins80_7 (x:S.It) (hk:x.k=1) (w:World):Calls Tryz.prog 81 #[.agg #[.int .i64 7,.int .u16 (x.a),.int .u8 ((S.tr x.c x.d 7)),.bool false,.bool false,.bool false,.bool false,.bool false,.bool false,.bool false,.bool false,.bool false,.bool false,.bool false,.bool false,.bool false,.bool false],.agg #[.int .i64 x.k,.int .i64 x.c,.int .u16 x.a,.int .u8 x.d,.int .i64 x.s,.int .i64 x.w,.int .i64 x.n,.bool x.e,.bool x.o]] w fun e w'=>e=.returned (.agg (S.pn false x 7).cs)∧Adds w w':=by
 obtain ⟨k,c,a,d,s,ww,n,e,o⟩:=x
 obtain rfl:k=1:=hk
 simp only []
 exact q1C26c
theorem pins80_8 (x:S.It) (hk:x.k=2) (w:World):Calls Tryz.prog 81 #[.agg #[.int .i64 8,.int .u16 (0),.int .u8 (0),.bool false,.bool false,.bool false,.bool false,.bool false,.bool false,.bool false,.bool false,.bool false,.bool false,.bool false,.bool false,.bool true,.bool true],.agg #[.int .i64 x.k,.int .i64 x.c,.int .u16 x.a,.int .u8 x.d,.int .i64 x.s,.int .i64 x.w,.int .i64 x.n,.bool x.e,.bool x.o]] w fun e w'=>e=.returned (.agg (S.pn false x 8).cs)∧Adds w w':=by
 obtain ⟨k,c,a,d,s,ww,n,e,o⟩:=x
 obtain rfl:k=2:=hk
 simp only []
 exact q1C26c
theorem pins80_9 (x:S.It) (hk:x.k=3) (w:World):Calls Tryz.prog 81 #[.agg #[.int .i64 9,.int .u16 (0),.int .u8 (0),.bool false,.bool false,.bool false,.bool false,.bool false,.bool false,.bool false,.bool false,.bool false,.bool false,.bool false,.bool false,.bool false,.bool false],.agg #[.int .i64 x.k,.int .i64 x.c,.int .u16 x.a,.int .u8 x.d,.int .i64 x.s,.int .i64 x.w,.int .i64 x.n,.bool x.e,.bool x.o]] w fun e w'=>e=.returned (.agg (S.pn false x 9).cs)∧Adds w w':=by
 obtain ⟨k,c,a,d,s,ww,n,e,o⟩:=x
 obtain rfl:k=3:=hk
 simp only []
 exact q1C26c
theorem pins80_10 (x:S.It) (hk:x.k=4) (w:World):Calls Tryz.prog 81 #[.agg #[.int .i64 10,.int .u16 (0),.int .u8 (0),.bool false,.bool false,.bool false,.bool false,.bool false,.bool false,.bool false,.bool false,.bool false,.bool false,.bool false,.bool false,.bool false,.bool false],.agg #[.int .i64 x.k,.int .i64 x.c,.int .u16 x.a,.int .u8 x.d,.int .i64 x.s,.int .i64 x.w,.int .i64 x.n,.bool x.e,.bool x.o]] w fun e w'=>e=.returned (.agg (S.pn false x 10).cs)∧Adds w w':=by
 obtain ⟨k,c,a,d,s,ww,n,e,o⟩:=x
 obtain rfl:k=4:=hk
 simp only []
 exact q1C26c
theorem pins80_1 (x:S.It) (hk:x.k=1) (w:World):Calls Tryz.prog 81 #[.agg #[.int .i64 1,.int .u16 x.a,.int .u8 (S.tr x.c x.d 1),.bool false,.bool false,.bool false,.bool false,.bool false,.bool false,.bool false,.bool false,.bool false,.bool false,.bool false,.bool false,.bool false,.bool false],.agg #[.int .i64 x.k,.int .i64 x.c,.int .u16 x.a,.int .u8 x.d,.int .i64 x.s,.int .i64 x.w,.int .i64 x.n,.bool x.e,.bool x.o]] w fun e w'=>e=.returned (.agg (S.pn false x 1).cs)∧Adds w w':=by
 obtain ⟨k,c,a,d,s,ww,n,e,o⟩:=x
 obtain rfl:k=1:=hk
 simp only []
 by_cases h11:c=11
 ·subst h11
  go_enter Tryz.func81,Tryz.ntmps81
  go_wp2_with (first|(go_at_call 111;refine ad (st_writes 11) fun n1 os1=> ?_)|(go_at_call 112;refine ad (st_reads 11) fun n2 os2=> ?_)|(go_at_call 114;refine ad (st_byte 11) fun n2 os2=> ?_))
  exact bodyPost_ret (ret_Pins Tryz.results81 rfl (by simp [go_sem,S.pn,S.Pn.cs]) rfl) rfl ⟨rfl,aD⟩
 by_cases h12:c=12
 ·subst h12
  go_enter Tryz.func81,Tryz.ntmps81
  go_wp2_with (first|(go_at_call 111;refine ad (st_writes 12) fun n1 os1=> ?_)|(go_at_call 112;refine ad (st_reads 12) fun n2 os2=> ?_)|(go_at_call 114;refine ad (st_byte 12) fun n2 os2=> ?_))
  exact bodyPost_ret (ret_Pins Tryz.results81 rfl (by simp [go_sem,S.pn,S.Pn.cs]) rfl) rfl ⟨rfl,aD⟩
 ·have g11:(c !=11)=true:=by simpa using h11
  have g12:(c !=12)=true:=by simpa using h12
  clear h11 h12
  go_enter Tryz.func81,Tryz.ntmps81
  go_wp2_with (first|(go_at_call 111;refine ad (st_writes c) fun n1 os1=> ?_)|(go_at_call 112;refine ad (st_reads c) fun n2 os2=> ?_)|(go_at_call 114;refine ad (st_byte c) fun n2 os2=> ?_))
  exact bodyPost_ret (ret_Pins Tryz.results81 rfl (by simp [go_sem,S.pn,S.Pn.cs,g11,g12]) rfl) rfl ⟨rfl,aD⟩
end
namespace S
variable {a b c p r y:Int} {i k:Nat} {zs:List Int}
structure Inp where
 r:Bool
 h:Bool
 z:Bool
 s:Bool
 t:Bool
 a:Bool
 b:Bool
 c:Bool
 q:Int
 p:Int
instance:Inhabited Inp:=⟨⟨false,false,false,false,false,false,false,false,0,0⟩⟩
def Inp.cs (x:Inp):Array Value:=#[.bool x.r,.bool x.h,.bool x.z,.bool x.s,.bool x.t,.bool x.a,.bool x.b,.bool x.c,.int .u8 x.q,.int .u8 x.p]
def Inp.ok (x:Inp):Prop:=(0≤x.q∧x.q < 256)∧(0≤x.p∧x.p < 256)
def idle:Inp:=⟨true,false,false,false,false,false,false,false,0,0⟩
def btm (c m:Int):Bool:=bits .and .u8 c m !=0
def chk (c r p:Int):Int:=bits .xor .u8 (bits .xor .u8 (bits .xor .u8 c r) p) 165
def inp (c r p:Int):Inp:=⟨!btm c 1,btm c 2,btm c 4,btm c 8,btm c 16,btm c 32,btm c 64,btm c 128,r,p⟩
def ent (c r p k:Int):Inp:=if k=chk c r p then inp c r p else idle
def wh (b:Bool) (m:Int):Int:=if b then m else 0
def pw (k:Int):Int:=2 ^ k.toNat
def ctl (x:Inp):Int:=bits .or .u8 (bits .or .u8 (bits .or .u8 (bits .or .u8 (bits .or .u8 (bits .or .u8 (bits .or .u8 (wh (!x.r) 1) (wh x.h 2)) (wh x.z 4)) (wh x.s 8)) (wh x.t 16)) (wh x.a 32)) (wh x.b 64)) (wh x.c 128)
def byt (z:Int):Prop:=0≤z∧z < 256
theorem xor_byt (ha:byt a) (hb:byt b):byt (bits .xor .u8 a b):=by
 rw [u8_xor a b ha.1 ha.2 hb.1 hb.2]
 obtain ⟨a0,a1⟩:=ha
 obtain ⟨b0,b1⟩:=hb
 have:a.toNat ^^^ b.toNat < 2 ^ 8:=Nat.xor_lt_two_pow (by omega) (by omega)
 exact ⟨by omega,by omega⟩
theorem chk_byt (hc:byt c) (hr:byt r) (hp:byt p):byt (chk c r p):=xor_byt (xor_byt (xor_byt hc hr) hp) ⟨by decide,by decide⟩
theorem ctl_all:∀r h z s t a b c:Bool,(decide (0≤ctl ⟨r,h,z,s,t,a,b,c,0,0⟩) && decide (ctl ⟨r,h,z,s,t,a,b,c,0,0⟩ < 256) && ((!btm (ctl ⟨r,h,z,s,t,a,b,c,0,0⟩) 1)==r) && (btm (ctl ⟨r,h,z,s,t,a,b,c,0,0⟩) 2==h) && (btm (ctl ⟨r,h,z,s,t,a,b,c,0,0⟩) 4==z) && (btm (ctl ⟨r,h,z,s,t,a,b,c,0,0⟩) 8==s) &&
 (btm (ctl ⟨r,h,z,s,t,a,b,c,0,0⟩) 16==t) && (btm (ctl ⟨r,h,z,s,t,a,b,c,0,0⟩) 32==a) && (btm (ctl ⟨r,h,z,s,t,a,b,c,0,0⟩) 64==b) && (btm (ctl ⟨r,h,z,s,t,a,b,c,0,0⟩) 128==c))=true:=by
 intro r h z s t a b c
 cases r<;>cases h<;>cases z<;>cases s<;>cases t<;>cases a<;>cases b<;>cases c<;>decide+kernel
theorem ctl_facts (x:Inp):byt (ctl x)∧inp (ctl x) x.q x.p=x:=by
 obtain ⟨r,h,z,s,t,a,b,c,q,p⟩:=x
 have hk:=ctl_all r h z s t a b c
 have e:ctl ⟨r,h,z,s,t,a,b,c,q,p⟩=ctl ⟨r,h,z,s,t,a,b,c,0,0⟩:=rfl
 simp only [Bool.and_eq_true,decide_eq_true_eq,beq_iff_eq] at hk
 obtain ⟨⟨⟨⟨⟨⟨⟨⟨⟨h0,h1⟩,e1⟩,e2⟩,e3⟩,e4⟩,e5⟩,e6⟩,e7⟩,e8⟩:=hk
 rw [e]
 refine ⟨⟨h0,h1⟩,?_⟩
 unfold inp
 rw [e1,e2,e3,e4,e5,e6,e7,e8]
def el (zs:List Int) (i:Nat):Inp:=ent (zs.getD (i * 4) 0) (zs.getD (i * 4+1) 0) (zs.getD (i * 4+2) 0) (zs.getD (i * 4+3) 0)
def dec (zs:List Int):List Inp:=(List.range (min (zs.length / 4) 65536)).map (el zs)
def enc1 (x:Inp):List Int:=[ctl x,x.q,x.p,chk (ctl x) x.q x.p]
def encs (l:List Inp):List Int:=l.flatMap enc1
def enc (l:List Inp):List Int:=encs (l.take 65536)
def decK (z:Inp) (zs:List Int) (n k:Nat):List Inp:=(List.range n).map fun i=>if i < k then el zs i else z
theorem dec_len (zs:List Int):(dec zs).length=min (zs.length / 4) 65536:=by simp [dec]
theorem encs_len:∀l:List Inp,(encs l).length=l.length * 4
 |[]=>rfl
 |x::l=>by
  have e:encs (x::l)=enc1 x++encs l:=rfl
  rw [e,List.length_append,encs_len l,List.length_cons];show 4+_=_;omega
theorem enc_len (l:List Inp):(enc l).length=min l.length 65536 * 4:=by unfold enc;rw [encs_len,List.length_take];omega
theorem encs_app (l m:List Inp):encs (l++m)=encs l++encs m:=by simp [encs]
theorem encs_step {l:List Inp} {x:Inp} (h:l[k]? =some x):encs (l.take (k+1))=encs (l.take k)++enc1 x:=by
 have hk:=(List.getElem?_eq_some_iff.1 h).1
 rw [List.take_add_one,h,encs_app]
 simp [encs]
theorem encs_byt {l:List Inp} (h:∀x∈l,x.ok):∀z∈encs l,byt z:=by
 intro z hz
 simp only [encs,List.mem_flatMap] at hz
 obtain ⟨x,hx,hz⟩:=hz
 have hc:=(ctl_facts x).1
 have ho:=h x hx
 simp only [enc1,List.mem_cons,List.not_mem_nil,or_false] at hz
 rcases hz with rfl|rfl|rfl|rfl
 ·exact hc
 ·exact ho.1
 ·exact ho.2
 ·exact chk_byt hc ho.1 ho.2
theorem enc_byt {l:List Inp} (h:∀x∈l,x.ok):∀z∈enc l,byt z:=encs_byt fun x hx=>h x (List.mem_of_mem_take hx)
theorem getD_set_ne (zs:List Int) {j:Nat} (y:Int) (h:k≠j):(zs.set k y).getD j 0=zs.getD j 0:=by simp [List.getD,List.getElem?_set_ne h]
end S
section
open Go.ChangeShapes Go.WideShapes Go.ChangeAt Go.RowKit Go.Deep
variable {E:Prop} {a:Act} {b base cap g j len n o:Nat} {d:List S.Inp} {w:World} {x:S.Inp} {zs:List Int}
def csB (z:Int):List Value:=[.int .u8 z]
theorem csB_len:∀z,(csB z).length=1:=fun _=>rfl
theorem csB_one:∀z,∀u∈csB z,u.oneCell'=true:=by
 intro z u hu
 simp only [csB,List.mem_cons,List.not_mem_nil,or_false] at hu
 subst hu;rfl
abbrev HeldB:=HeldG csB
abbrev OwnsB:=OwnsG csB 1 5
theorem infoB:(Tryz.prog.info? 5).map (fun i=>(i.zero,i.size,i.bytes))=some (some (.int .u8 0),1,1):=by kernel_rfl
theorem FlB:∀zs:List Int,Fl csB zs=zs.map (Value.int .u8)
 |[]=>rfl
 |z::zs=>by rw [Fl_cons,FlB zs];rfl
theorem AtB.el (h:AtG csB w b o zs) (hj:j < zs.length):w.cell? ⟨b,o+j,none⟩=some (.int .u8 (zs.getD j 0)):=by
 have hx:zs[j]? =some (zs.getD j 0):=by simp [List.getD,List.getElem?_eq_getElem hj]
 have:=h.el csB_len hx (k:=0) (u:=.int .u8 (zs.getD j 0)) rfl
 rwa [Nat.mul_one,Nat.add_zero] at this
theorem wpList_appB {ops:Array Oper} {rest:List Oper} {o:Oper} {Q:Exit→Act→World→Prop} (hgd:o.guard=none) (s x:Operand)
 (ho:o.op=.call {callee:=.builtin .append,args:=#[s,x],argTypes:=#[39,39]})
 (base:Nat) (v:Value) (d:List Int) (hv:a.eval s=v) (hown:OwnsB w base v d) (ad:Addr) (m c:Nat) (e:List Int) (hx:a.eval x=.slice (some ad) m c) (hm:e.length=m) (hat:∀j u,(Fl csB e)[j]? =some u→w.cell? (ad.add j)=some u)
 (hsz:d.length+m≤140737488355328) (hbase:base≤w.heap.size)
 (h:∀v' w',OwnsB w' base v' (d++e)→w.grownBy w' v.ownBlock→wpList Tryz.prog ops Q rest (a.put o.dst v') w'):wpList Tryz.prog ops Q (o::rest) a w:=
 wpList_appG csB_len csB_one Tryz.underlying39 infoB rfl (by decide) hgd s x ho base v d hv hown ad m c e hx hm hat (by unfold maxLen;omega) (by omega) hbase h
theorem step_appB {ops:Array Oper} {o:Oper} {K:Act→World→Prop} {Q:Exit→Act→World→Prop} (hgd:o.guard=none) (s x:Operand)
 (ho:o.op=.call {callee:=.builtin .append,args:=#[s,x],argTypes:=#[39,39]})
 (base:Nat) (v:Value) (d:List Int) (hv:a.eval s=v) (e:List Int) (m:Nat) (c:Array Value) (t:TypeId) (b:Nat) (hx:a.eval x=.slice (some ⟨b,0,none⟩) m m) (hm:e.length=m) (hc:c.toList=Fl csB e) (hb:b=w.heap.size) (hown:OwnsB w base v d)
 (hsz:d.length+m≤140737488355328) (hbase:base≤w.heap.size)
 (h:∀v' w',OwnsB w' base v' (d++e)→w.grownBy w' v.ownBlock→K (a.put o.dst v') w'):if Region.wanted o (yielded ops a.tmps)=true then Oper.wp Tryz.prog o a (w.alloc (.cells c t)) K Q else E:=by
 have hw:Region.wanted o (yielded ops a.tmps)=true:=by simp [Region.wanted,hgd]
 rw [if_pos hw]
 subst hb
 obtain ⟨i0,hi,hz0,hz1,hz2⟩:=info_parts infoB
 refine wp_append_own _ s x 39 ho base 5 i0 (.int .u8 0) 1 1 Tryz.underlying39 hi hz0 hz1 hz2 rfl (by decide) v d.length (Fl csB d) hv (hown.alloc _) ⟨w.heap.size,0,none⟩ m m (Fl csB e) hx (by rw [Fl_len csB_len,hm]) (at_new w t c e hc _ rfl) (Fl_oneCell csB_one e) (by unfold maxLen;omega) (by omega) (by simp;omega) ?_
 intro v' w' k1 k2 k3
 refine h v' w' ?_ (World.grownBy.trans (World.grownBy_alloc w _ _) k2)
 unfold OwnsB OwnsG
 rw [List.length_append,hm,Fl_app]
 exact k1
theorem OwnsB.store {d:List Int} (h:OwnsB w base (.slice (some ⟨g,0,none⟩) n cap) d) (i:Nat) (y:Int):
 OwnsB (w.setCell ⟨g,i,none⟩ (.int .u8 y)) base (.slice (some ⟨g,0,none⟩) n cap) (d.set i y)∧w.grownBy (w.setCell ⟨g,i,none⟩ (.int .u8 y)) (some g):=by
 have hn:=h.len
 subst hn
 have k:=World.ownsRow.stored h i (.int .u8 y)
 refine ⟨?_,k.2⟩
 have k1:=k.1
 rw [FlB,←List.map_set] at k1
 show World.ownsRow _ _ _ _ _ _ _
 rw [List.length_set,FlB]
 exact k1
def csI (x:S.Inp):List Value:=x.cs.toList
theorem csI_len:∀x,(csI x).length=10:=fun _=>rfl
theorem csI_one:∀x,∀u∈csI x,u.oneCell'=true:=by
 intro x u hu
 simp only [csI,S.Inp.cs,List.mem_cons,List.not_mem_nil,or_false] at hu
 rcases hu with rfl|rfl|rfl|rfl|rfl|rfl|rfl|rfl|rfl|rfl<;>rfl
abbrev HeldI:=HeldG csI
abbrev OwnsI:=OwnsG csI 10 96
def S.zero:S.Inp:=⟨false,false,false,false,false,false,false,false,0,0⟩
theorem infoI:(Tryz.prog.info? 96).map (fun i=>(i.zero,i.size,i.bytes))=some (some (.agg S.zero.cs),10,10):=by kernel_rfl
theorem sizeI:(Tryz.prog.info? 96).map (·.size)=some 10:=by kernel_rfl
theorem wpList_appI {ops:Array Oper} {rest:List Oper} {o:Oper} {Q:Exit→Act→World→Prop} (hgd:o.guard=none) (s x:Operand)
 (ho:o.op=.call {callee:=.builtin .append,args:=#[s,x],argTypes:=#[93,93]})
 (base:Nat) (v:Value) (d:List S.Inp) (hv:a.eval s=v) (hown:OwnsI w base v d) (ad:Addr) (m c:Nat) (e:List S.Inp) (hx:a.eval x=.slice (some ad) m c) (hm:e.length=m) (hat:∀j u,(Fl csI e)[j]? =some u→w.cell? (ad.add j)=some u)
 (hsz:d.length+m≤14073748835532) (hbase:base≤w.heap.size)
 (h:∀v' w',OwnsI w' base v' (d++e)→w.grownBy w' v.ownBlock→wpList Tryz.prog ops Q rest (a.put o.dst v') w'):wpList Tryz.prog ops Q (o::rest) a w:=
 wpList_appG csI_len csI_one Tryz.underlying93 infoI rfl (by decide) hgd s x ho base v d hv hown ad m c e hx hm hat (by unfold maxLen;omega) (by omega) hbase h
theorem wpList_appI1 {ops:Array Oper} {rest:List Oper} {o:Oper} {Q:Exit→Act→World→Prop} (hgd:o.guard=none) (s x:Operand)
 (ho:o.op=.call {callee:=.builtin .append,args:=#[s,x],argTypes:=#[93,93]})
 (base:Nat) (v:Value) (d:List S.Inp) (hv:a.eval s=v) (y:S.Inp) (c:Array Value) (t:TypeId) (b:Nat) (hx:a.eval x=.slice (some ⟨b,0,none⟩) 1 1) (hc:c.toList=csI y) (hb:b=w.heap.size) (hown:OwnsI w base v d)
 (hsz:d.length≤14073748835531) (hbase:base≤w.heap.size)
 (h:∀v' w',OwnsI w' base v' (d++[y])→w.grownBy w' v.ownBlock→wpList Tryz.prog ops Q rest (a.put o.dst v') w'):wpList Tryz.prog ops Q (o::rest) a (w.alloc (.cells c t)):=by
 subst hb
 refine wpList_appI hgd s x ho base v d hv (hown.alloc _) ⟨w.heap.size,0,none⟩ 1 1 [y] hx rfl (at_new w t c [y] (by rw [Fl_one];exact hc) _ rfl) (by omega) (by simp;omega) ?_
 intro v' w' h1 h2
 exact h v' w' h1 (World.grownBy.trans (World.grownBy_alloc w _ _) h2)
theorem wpList_appI1_at {ops:Array Oper} {rest:List Oper} {o:Oper} {Q:Exit→Act→World→Prop} (hgd:o.guard=none) (s x:Operand)
 (ho:o.op=.call {callee:=.builtin .append,args:=#[s,x],argTypes:=#[93,93]})
 (base:Nat) (v:Value) (d:List S.Inp) (hv:a.eval s=v) (y:S.Inp) (c:Array Value) (t:TypeId) (b:Nat) (hx:a.eval x=.slice (some ⟨b,0,none⟩) 1 1) (hc:c.toList=csI y) (hb:b=w.heap.size) (hown:OwnsI w base v d)
 (hsz:d.length≤14073748835531) (hbase:base≤w.heap.size)
 (h:∀v' w',OwnsI w' base v' (d++[y])→w.grownBy w' v.ownBlock→(∀g,v'.ownBlock=some g→v.ownBlock=some g∨w.heap.size < g)→wpList Tryz.prog ops Q rest (a.put o.dst v') w'):wpList Tryz.prog ops Q (o::rest) a (w.alloc (.cells c t)):=by
 subst hb
 obtain ⟨i0,hi,hz0,hz1,hz2⟩:=info_parts infoI
 refine wpList_append_own_at _ hgd s x 93 ho base 96 i0 (.agg S.zero.cs) 10 10 Tryz.underlying93 hi hz0 hz1 hz2 rfl (by decide) v d.length (Fl csI d) hv (hown.alloc _) ⟨w.heap.size,0,none⟩ 1 1 (Fl csI [y]) hx (by rw [Fl_len csI_len];rfl) (at_new w t c [y] (by rw [Fl_one];exact hc) _ rfl) (Fl_oneCell csI_one [y]) (by unfold maxLen;omega) (by omega) (by simp;omega) ?_
 intro v' w' k1 k2 k3 k4
 refine h v' w' ?_ (World.grownBy.trans (World.grownBy_alloc w _ _) k2) (fun g hg=> ?_)
 ·unfold OwnsI OwnsG
  rw [List.length_append,Fl_app]
  exact k1
 ·rcases k4 with e|e
  ·exact .inl (e▸hg)
  ·rw [e] at hg
   injection hg with hg
   have:(w.alloc (.cells c t)).heap.size=w.heap.size+1:=Array.size_push ..
   exact .inr (by omega)
theorem step_appI1 {ops:Array Oper} {o:Oper} {K:Act→World→Prop} {Q:Exit→Act→World→Prop} (hgd:o.guard=none) (s x:Operand)
 (ho:o.op=.call {callee:=.builtin .append,args:=#[s,x],argTypes:=#[93,93]})
 (base:Nat) (v:Value) (d:List S.Inp) (hv:a.eval s=v) (y:S.Inp) (c:Array Value) (t:TypeId) (b:Nat) (hx:a.eval x=.slice (some ⟨b,0,none⟩) 1 1) (hc:c.toList=csI y) (hb:b=w.heap.size) (hown:OwnsI w base v d)
 (hsz:d.length≤14073748835531) (hbase:base≤w.heap.size)
 (h:∀v' w',OwnsI w' base v' (d++[y])→w.grownBy w' v.ownBlock→K (a.put o.dst v') w'):if Region.wanted o (yielded ops a.tmps)=true then Oper.wp Tryz.prog o a (w.alloc (.cells c t)) K Q else E:=by
 have hw:Region.wanted o (yielded ops a.tmps)=true:=by simp [Region.wanted,hgd]
 rw [if_pos hw]
 subst hb
 obtain ⟨i0,hi,hz0,hz1,hz2⟩:=info_parts infoI
 refine wp_append_own _ s x 93 ho base 96 i0 (.agg S.zero.cs) 10 10 Tryz.underlying93 hi hz0 hz1 hz2 rfl (by decide) v d.length (Fl csI d) hv (hown.alloc _) ⟨w.heap.size,0,none⟩ 1 1 (Fl csI [y]) hx (by rw [Fl_len csI_len];rfl) (at_new w t c [y] (by rw [Fl_one];exact hc) _ rfl) (Fl_oneCell csI_one [y]) (by unfold maxLen;omega) (by omega) (by simp;omega) ?_
 intro v' w' k1 k2 k3
 refine h v' w' ?_ (World.grownBy.trans (World.grownBy_alloc w _ _) k2)
 unfold OwnsI OwnsG
 rw [List.length_append,Fl_app]
 exact k1
theorem AtI.load (h:AtG csI w b o d) (hj:d[j]? =some x) (p:Nat) (hp:p=o+j * 10):(wholeVar 96 ⟨b,p,none⟩).run Tryz.prog w=.ok (.agg x.cs) w:=by
 subst hp
 exact whole_cells Tryz.underlying96 rfl sizeI w b _ x.cs rfl fun k u hu=>h.el csI_len hj (by simpa [csI] using hu)
theorem AtI.loadM (h:AtG csI w b o d) (hb:b < w.heap.size) (hj:d[j]? =some x) (p:Nat) (hp:p=o+j * 10):∀n os,(wholeVar 96 ⟨b,p,none⟩).run Tryz.prog (More w n os)=.ok (.agg x.cs) (More w n os):=fun n os=>
 AtI.load (h.keep fun i=>(Adds.more (Adds.refl w) n os).cell hb) hj p hp
theorem OwnsI.store (h:OwnsI w base (.slice (some ⟨g,0,none⟩) n cap) d) (i:Nat) (hn:i < n) (x:S.Inp):
 ∃w',(wholeSet 96 ⟨g,i * 10,none⟩ (.agg x.cs)).run Tryz.prog w=.ok () w'∧OwnsI w' base (.slice (some ⟨g,0,none⟩) n cap) (d.set i x)∧w.grownBy w' (some g):=
 OwnsG.store csI_len csI_one sizeI (by decide) h i hn x x.cs rfl
end
section
variable {b:Nat} {cs tmps:Array Value} {w:World}
theorem ret_Instr {fn:Func} {p:Tmp} (hf:fn.results=#[.cell p 186]) (hp:tmps.getD p undef=.pointer (some ⟨b,0,none⟩)) (hr:rowOf w b=cs) (hs:cs.size=8):(results fn tmps).run Tryz.prog w=.ok (.agg cs) w:=
 ret_all hf Tryz.underlying186 (by kernel_rfl) (by decide) tmps w b cs hp hr hs
theorem ret3_Instr {fn:Func} {p0 p:Tmp} (hf:fn.results=#[.cell p 186,.tmp p0]) {v0:Value} (h0:tmps.getD p0 undef=v0) (hp:tmps.getD p undef=.pointer (some ⟨b,0,none⟩)) (hr:rowOf w b=cs) (hs:cs.size=8):(results fn tmps).run Tryz.prog w=.ok (.tuple #[.agg cs,v0]) w:=
 ret3_all hf Tryz.underlying186 (by kernel_rfl) (by decide) tmps w b cs v0 h0 hp hr hs
@[go_sem ↓] theorem load_Instr (a:Addr):loadVar 186 a=wholeVar 186 a:=by unfold wholeVar;rfl
@[go_sem ↓] theorem store_Instr (a:Addr) (v:Value):storeVar 186 a v=wholeSet 186 a v:=by unfold wholeSet;rfl
@[go_sem] theorem run_load_Instr (w:World) (b:Nat) (h:(rowOf w b).size=8):(wholeVar 186 ⟨b,0,none⟩).run Tryz.prog w=.ok (.agg (rowOf w b)) w:=
 run_all Tryz.underlying186 (by kernel_rfl) (by decide) w b h
@[go_sem] theorem run_store_Instr (w:World) (b:Nat) (cs:Array Value) (hc:cs.size=8) (h:(rowOf w b).size=8) (h1:ones cs.toList=true):(wholeSet 186 ⟨b,0,none⟩ (.agg cs)).run Tryz.prog w=.ok () (w.setRow b cs):=
 set_all (by kernel_rfl) w b cs hc (by decide) h h1
@[go_sem] theorem run_load_CPU_big (w:World) (b o:Nat) (h:28 < (rowOf w b).size∧28 < (rowOf w b).size∧o+28≤(rowOf w b).size):(wholeVar 38 ⟨b,o,none⟩).run Tryz.prog w=.ok (.agg (part8 o 28 (rowOf w b))) w:=
 run_part Tryz.underlying38 (by kernel_rfl) (by decide) w b o h.2.2
@[go_sem] theorem run_store_CPU_big (w:World) (b o:Nat) (cs:Array Value) (hc:cs.size=28) (h:28 < (rowOf w b).size∧28 < (rowOf w b).size∧o+28≤(rowOf w b).size) (h1:ones cs.toList=true):(wholeSet 38 ⟨b,o,none⟩ (.agg cs)).run Tryz.prog w=.ok () (w.setRow b (put8 o cs (rowOf w b))):=
 set_part (by kernel_rfl) w b o cs hc (by decide) h.2.2 h1
@[go_sem] theorem run_load_Regs_big (w:World) (b o:Nat) (h:28 < (rowOf w b).size∧16 < (rowOf w b).size∧o+16≤(rowOf w b).size):(wholeVar 36 ⟨b,o,none⟩).run Tryz.prog w=.ok (.agg (part8 o 16 (rowOf w b))) w:=
 run_part Tryz.underlying36 (by kernel_rfl) (by decide) w b o h.2.2
@[go_sem] theorem run_store_Regs_big (w:World) (b o:Nat) (cs:Array Value) (hc:cs.size=16) (h:28 < (rowOf w b).size∧16 < (rowOf w b).size∧o+16≤(rowOf w b).size) (h1:ones cs.toList=true):(wholeSet 36 ⟨b,o,none⟩ (.agg cs)).run Tryz.prog w=.ok () (w.setRow b (put8 o cs (rowOf w b))):=
 set_part (by kernel_rfl) w b o cs hc (by decide) h.2.2 h1
@[go_sem] theorem run_load_PIC_big (w:World) (b o:Nat) (h:28 < (rowOf w b).size∧20 < (rowOf w b).size∧o+20≤(rowOf w b).size):(wholeVar 45 ⟨b,o,none⟩).run Tryz.prog w=.ok (.agg (part8 o 20 (rowOf w b))) w:=
 run_part Tryz.underlying45 (by kernel_rfl) (by decide) w b o h.2.2
@[go_sem] theorem run_store_PIC_big (w:World) (b o:Nat) (cs:Array Value) (hc:cs.size=20) (h:28 < (rowOf w b).size∧20 < (rowOf w b).size∧o+20≤(rowOf w b).size) (h1:ones cs.toList=true):(wholeSet 45 ⟨b,o,none⟩ (.agg cs)).run Tryz.prog w=.ok () (w.setRow b (put8 o cs (rowOf w b))):=
 set_part (by kernel_rfl) w b o cs hc (by decide) h.2.2 h1
@[go_sem] theorem run_load_Lines_big (w:World) (b o:Nat) (h:28 < (rowOf w b).size∧9 < (rowOf w b).size∧o+9≤(rowOf w b).size):(wholeVar 98 ⟨b,o,none⟩).run Tryz.prog w=.ok (.agg (part8 o 9 (rowOf w b))) w:=
 run_part Tryz.underlying98 (by kernel_rfl) (by decide) w b o h.2.2
@[go_sem] theorem run_store_Lines_big (w:World) (b o:Nat) (cs:Array Value) (hc:cs.size=9) (h:28 < (rowOf w b).size∧9 < (rowOf w b).size∧o+9≤(rowOf w b).size) (h1:ones cs.toList=true):(wholeSet 98 ⟨b,o,none⟩ (.agg cs)).run Tryz.prog w=.ok () (w.setRow b (put8 o cs (rowOf w b))):=
 set_part (by kernel_rfl) w b o cs hc (by decide) h.2.2 h1
@[go_sem] theorem run_load_Core_big (w:World) (b o:Nat) (h:28 < (rowOf w b).size∧36 < (rowOf w b).size∧o+36≤(rowOf w b).size):(wholeVar 43 ⟨b,o,none⟩).run Tryz.prog w=.ok (.agg (part8 o 36 (rowOf w b))) w:=
 run_part Tryz.underlying43 (by kernel_rfl) (by decide) w b o h.2.2
@[go_sem] theorem run_store_Core_big (w:World) (b o:Nat) (cs:Array Value) (hc:cs.size=36) (h:28 < (rowOf w b).size∧36 < (rowOf w b).size∧o+36≤(rowOf w b).size) (h1:ones cs.toList=true):(wholeSet 43 ⟨b,o,none⟩ (.agg cs)).run Tryz.prog w=.ok () (w.setRow b (put8 o cs (rowOf w b))):=
 set_part (by kernel_rfl) w b o cs hc (by decide) h.2.2 h1
theorem ret_Core {fn:Func} {p:Tmp} (hf:fn.results=#[.cell p 43]) (hp:tmps.getD p undef=.pointer (some ⟨b,0,none⟩)) (hr:rowOf w b=cs) (hs:cs.size=36):(results fn tmps).run Tryz.prog w=.ok (.agg cs) w:=
 ret_all hf Tryz.underlying43 (by kernel_rfl) (by decide) tmps w b cs hp hr hs
@[go_sem ↓] theorem load_Core (a:Addr):loadVar 43 a=wholeVar 43 a:=by unfold wholeVar;rfl
@[go_sem ↓] theorem store_Core (a:Addr) (v:Value):storeVar 43 a v=wholeSet 43 a v:=by unfold wholeSet;rfl
@[go_sem] theorem run_load_Core (w:World) (b:Nat) (h:(rowOf w b).size=36):(wholeVar 43 ⟨b,0,none⟩).run Tryz.prog w=.ok (.agg (rowOf w b)) w:=
 run_all Tryz.underlying43 (by kernel_rfl) (by decide) w b h
@[go_sem] theorem run_store_Core (w:World) (b:Nat) (cs:Array Value) (hc:cs.size=36) (h:(rowOf w b).size=36) (h1:ones cs.toList=true):(wholeSet 43 ⟨b,0,none⟩ (.agg cs)).run Tryz.prog w=.ok () (w.setRow b cs):=
 set_all (by kernel_rfl) w b cs hc (by decide) h h1
end
namespace S
structure Cp where
 (Ch A B C D E H L:Int) (fS fZ fK fAC fP fV fCY:Bool) (SP PC:Int) (IE De Ha:Bool) (Ma:Int) (Tr R7 WT W7 Sa SI SO:Bool)
def Cp.cs (c:Cp):Array Value:=#[.int .i64 c.Ch,.int .u8 c.A,.int .u8 c.B,.int .u8 c.C,.int .u8 c.D,.int .u8 c.E,.int .u8 c.H,.int .u8 c.L,.bool c.fS,.bool c.fZ,.bool c.fK,.bool c.fAC,.bool c.fP,.bool c.fV,.bool c.fCY,.int .u16 c.SP,.int .u16 c.PC,.bool c.IE,.bool c.De,.bool c.Ha,.int .u8 c.Ma,.bool c.Tr,.bool c.R7,.bool c.WT,.bool c.W7,.bool c.Sa,.bool c.SI,.bool c.SO]
def bt (b:Bool) (n:Int):Int:=if b then n else 0
def rim (sid r75 r65 r55 ie:Bool) (m:Int):Int:=128 * one sid+64 * one r75+32 * one r65+16 * one r55+8 * one ie+m % 8
def hs (a n:Int):Bool:=bits .and .u8 a n !=0
def pick (b x y:Bool):Bool:=if b then x else y
def pickN (b:Bool) (x y:Int):Int:=if b then x else y
theorem low3_fin:∀n:Fin 256,bits .and .u8 (n.val:Int) 7=(n.val:Int) % 8:=by decide+kernel
theorem low3 (a:Int) (a0:0≤a) (a1:a < 256):bits .and .u8 a 7=a % 8:=by
 have h:=low3_fin ⟨a.toNat,by omega⟩
 simpa [Int.toNat_of_nonneg a0] using h
theorem rim_or_fin:∀sid r75 r65 r55 ie:Bool,∀m:Fin 8,bits .or .u8 (bits .or .u8 (bits .or .u8 (bits .or .u8 (bits .or .u8 (bt sid 128) (bt r75 64)) (bt r65 32)) (bt r55 16)) (bt ie 8)) (m.val:Int)=rim sid r75 r65 r55 ie (m.val:Int):=by decide+kernel
theorem rim_or (sid r75 r65 r55 ie:Bool) (m:Int):bits .or .u8 (bits .or .u8 (bits .or .u8 (bits .or .u8 (bits .or .u8 (bt sid 128) (bt r75 64)) (bt r65 32)) (bt r55 16)) (bt ie 8)) (m % 8)=rim sid r75 r65 r55 ie m:=by
 have h:=rim_or_fin sid r75 r65 r55 ie ⟨(m % 8).toNat,by omega⟩
 have e:((m % 8).toNat:Int)=m % 8:=Int.toNat_of_nonneg (by omega)
 simp only [e] at h
 rw [h]
 unfold rim
 omega
def bp (b:Bool) (n:Int):Int:=if b then 2 ^ n.toNat else 0
theorem rim_orp (sid r75 r65 r55 ie:Bool) (m:Int):bits .or .u8 (bits .or .u8 (bits .or .u8 (bits .or .u8 (bits .or .u8 (bp sid 7) (bp r75 6)) (bp r65 5)) (bp r55 4)) (bp ie 3)) (m % 8)=rim sid r75 r65 r55 ie m:=by
 have e:∀b:Bool,bp b 7=bt b 128∧bp b 6=bt b 64∧bp b 5=bt b 32∧bp b 4=bt b 16∧bp b 3=bt b 8:=by decide
 rw [(e sid).1,(e r75).2.1,(e r65).2.2.1,(e r55).2.2.2.1,(e ie).2.2.2.2]
 exact rim_or ..
theorem rim_bd (sid r75 r65 r55 ie:Bool) (m:Int):0≤rim sid r75 r65 r55 ie m∧rim sid r75 r65 r55 ie m < 256:=by
 have h1:=one_bd sid;have h2:=one_bd r75;have h3:=one_bd r65;have h4:=one_bd r55;have h5:=one_bd ie
 unfold rim;omega
end S
section
open Go.ChangeShapes Go.WideShapes Go.ChangeAt Go.RowKit Go.Deep
variable {a:Act} {b j len n o:Nat} {pr:List Nat} {w w':World}
structure S.Cy where
 k:Int
 a:Int
 d:Int
 s:Int
instance:Inhabited S.Cy:=⟨⟨0,0,0,0⟩⟩
def S.Cy.cs (x:S.Cy):Array Value:=#[.int .i64 x.k,.int .u16 x.a,.int .u8 x.d,.int .i64 x.s]
structure S.Cy.Ok (x:S.Cy):Prop where
 k:1≤x.k∧x.k≤12
 a:0≤x.a∧x.a < 65536
 d:0≤x.d∧x.d < 256
 s:3≤x.s∧x.s≤6
structure S.Ou where
 p:Int
 v:Int
instance:Inhabited S.Ou:=⟨⟨0,0⟩⟩
def S.Ou.cs (x:S.Ou):Array Value:=#[.int .u8 x.p,.int .u8 x.v]
structure S.Ev where
 l:List Value
 hl:l.length=18
 h1:∀u∈l,u.oneCell'=true
def S.by (z:Int):Prop:=0≤z∧z < 256
def S.wd (z:Int):Prop:=0≤z∧z < 65536
structure S.OkR (A B C D E H L SP PC:Int):Prop where
 a:0≤A∧A < 256
 b:0≤B∧B < 256
 c:0≤C∧C < 256
 d:0≤D∧D < 256
 e:0≤E∧E < 256
 h:0≤H∧H < 256
 l:0≤L∧L < 256
 sp:0≤SP∧SP < 65536
 pc:0≤PC∧PC < 65536
def S.Cp.Ok (c:S.Cp):Prop:=S.OkR c.A c.B c.C c.D c.E c.H c.L c.SP c.PC∧0≤c.Ma∧c.Ma < 256
def csC (x:S.Cy):List Value:=x.cs.toList
theorem csC_len:∀x,(csC x).length=4:=fun _=>rfl
theorem csC_one:∀x,∀u∈csC x,u.oneCell'=true:=by
 intro x u hu
 simp only [csC,S.Cy.cs,List.mem_cons,List.not_mem_nil,or_false] at hu
 rcases hu with rfl|rfl|rfl|rfl<;>rfl
def S.Cy.zero:S.Cy:=⟨0,0,0,0⟩
def csU (x:S.Cp):List Value:=x.cs.toList
theorem csU_len:∀x,(csU x).length=28:=fun _=>rfl
theorem csU_one:∀x,∀u∈csU x,u.oneCell'=true:=by
 intro x u hu
 simp only [csU,S.Cp.cs,List.mem_cons,List.not_mem_nil,or_false] at hu
 rcases hu with rfl|rfl|rfl|rfl|rfl|rfl|rfl|rfl|rfl|rfl|rfl|rfl|rfl|rfl|rfl|rfl|rfl|rfl|rfl|rfl|rfl|rfl|rfl|rfl|rfl|rfl|rfl|rfl<;>rfl
def S.Cp.zero:S.Cp:=⟨0,0,0,0,0,0,0,0,false,false,false,false,false,false,false,0,0,false,false,false,0,false,false,false,false,false,false,false⟩
instance:Inhabited S.Cp:=⟨S.Cp.zero⟩
def csO (x:S.Ou):List Value:=x.cs.toList
theorem csO_len:∀x,(csO x).length=2:=fun _=>rfl
theorem csO_one:∀x,∀u∈csO x,u.oneCell'=true:=by
 intro x u hu
 simp only [csO,S.Ou.cs,List.mem_cons,List.not_mem_nil,or_false] at hu
 rcases hu with rfl|rfl<;>rfl
def S.Ou.zero:S.Ou:=⟨0,0⟩
def csV (x:S.Ev):List Value:=x.l
theorem csV_len:∀x,(csV x).length=18:=fun x=>x.hl
theorem csV_one:∀x,∀u∈csV x,u.oneCell'=true:=fun x=>x.h1
def S.Ev.zl:List Value:=[.int .i64 0,.int .i64 0,.slice none 0 0,.bool false,.bool false,.bool false,.bool false,.bool false,.bool false,.bool false,.bool false,.bool false,.bool false,.bool false,.bool false,.bool false,.int .u16 0,.int .u8 0]
theorem sizeC:(Tryz.prog.info? 41).map (·.size)=some 4:=by kernel_rfl
theorem infoC:(Tryz.prog.info? 41).map (fun i=>(i.zero,i.size,i.bytes))=some (some (.agg S.Cy.zero.cs),4,24):=by kernel_rfl
theorem sizeU:(Tryz.prog.info? 38).map (·.size)=some 28:=by kernel_rfl
theorem infoU:(Tryz.prog.info? 38).map (fun i=>(i.zero,i.size,i.bytes))=some (some (.agg S.Cp.zero.cs),28,40):=by kernel_rfl
theorem sizeO:(Tryz.prog.info? 180).map (·.size)=some 2:=by kernel_rfl
theorem infoO:(Tryz.prog.info? 180).map (fun i=>(i.zero,i.size,i.bytes))=some (some (.agg S.Ou.zero.cs),2,2):=by kernel_rfl
theorem infoV:(Tryz.prog.info? 112).map (fun i=>(i.zero,i.size,i.bytes))=some (some (.agg S.Ev.zl.toArray),18,64):=by kernel_rfl
abbrev HeldC:=HeldG csC
abbrev OwnsC:=OwnsG csC 4 41
theorem q1MK {P:Prop} (h:P:=by
 rcases k4 with e|e
 ·exact .inl (e▸hg)
 ·rw [e] at hg
  injection hg with hg
  have:(w.alloc (.cells c t)).heap.size=w.heap.size+1:=Array.size_push ..
  exact .inr (by omega)):P:=h
theorem wpList_appC1_at {ops:Array Oper} {rest:List Oper} {o:Oper} {Q:Exit→Act→World→Prop} (hgd:o.guard=none) (s x:Operand)
 (ho:o.op=.call {callee:=.builtin .append,args:=#[s,x],argTypes:=#[204,204]})
 (base:Nat) (v:Value) (d:List S.Cy) (hv:a.eval s=v) (y:S.Cy) (c:Array Value) (t:TypeId) (b:Nat) (hx:a.eval x=.slice (some ⟨b,0,none⟩) 1 1) (hc:c.toList=csC y) (hb:b=w.heap.size) (hown:OwnsC w base v d)
 (hsz:d.length+1≤4000000000000) (hbase:base≤w.heap.size)
 (h:∀v' w',OwnsC w' base v' (d++[y])→w.grownBy w' v.ownBlock→(∀g,v'.ownBlock=some g→v.ownBlock=some g∨w.heap.size < g)→wpList Tryz.prog ops Q rest (a.put o.dst v') w'):wpList Tryz.prog ops Q (o::rest) a (w.alloc (.cells c t)):=by
 subst hb
 obtain ⟨i0,hi,hz0,hz1,hz2⟩:=info_parts infoC
 refine wpList_append_own_at _ hgd s x 204 ho base 41 i0 _ 4 _ Tryz.underlying204 hi hz0 hz1 hz2 rfl (by decide) v d.length (Fl csC d) hv (hown.alloc _) ⟨w.heap.size,0,none⟩ 1 1 (Fl csC [y]) hx (by rw [Fl_len csC_len];rfl) (at_new w t c [y] (by rw [Fl_one];exact hc) _ rfl) (Fl_oneCell csC_one [y]) (by unfold maxLen;omega) (by omega) (by simp;omega) ?_
 intro v' w' k1 k2 k3 k4
 refine h v' w' ?_ (World.grownBy.trans (World.grownBy_alloc w _ _) k2) (fun g hg=> ?_)
 ·unfold OwnsC OwnsG
  rw [List.length_append,Fl_app]
  exact k1
 ·exact q1MK
abbrev HeldU:=HeldG csU
abbrev OwnsU:=OwnsG csU 28 38
abbrev HeldO:=HeldG csO
abbrev OwnsO:=OwnsG csO 2 180
abbrev HeldV:=HeldG csV
abbrev OwnsV:=OwnsG csV 18 112
theorem AtC.load {d:List S.Cy} (h:AtG csC w b o d) {x:S.Cy} (hj:d[j]? =some x) (p:Nat) (hp:p=o+j * 4):(wholeVar 41 ⟨b,p,none⟩).run Tryz.prog w=.ok (.agg x.cs) w:=by
 subst hp
 exact whole_cells Tryz.underlying41 rfl sizeC w b _ x.cs rfl fun k u hu=>h.el csC_len hj (by simpa [csC] using hu)
theorem AtU.load {d:List S.Cp} (h:AtG csU w b o d) {x:S.Cp} (hj:d[j]? =some x) (p:Nat) (hp:p=o+j * 28):(wholeVar 38 ⟨b,p,none⟩).run Tryz.prog w=.ok (.agg x.cs) w:=by
 subst hp
 exact whole_cells Tryz.underlying38 rfl sizeU w b _ x.cs rfl fun k u hu=>h.el csU_len hj (by simpa [csU] using hu)
theorem AtO.load {d:List S.Ou} (h:AtG csO w b o d) {x:S.Ou} (hj:d[j]? =some x) (p:Nat) (hp:p=o+j * 2):(wholeVar 180 ⟨b,p,none⟩).run Tryz.prog w=.ok (.agg x.cs) w:=by
 subst hp
 exact whole_cells Tryz.underlying180 rfl sizeO w b _ x.cs rfl fun k u hu=>h.el csO_len hj (by simpa [csO] using hu)
def Keeps (n:Nat) (pr:List Nat) (w w':World):Prop:=Below n w w'∧∀k∈pr,k < w.heap.size→w'.heap[k]? =w.heap[k]?
theorem Keeps.refl (n:Nat) (pr:List Nat) (w:World):Keeps n pr w w:=⟨⟨rfl,rfl,rfl,Nat.le_refl _,fun _ _=>rfl⟩,fun _ _ _=>rfl⟩
theorem Keeps.size (h:Keeps n pr w w'):w.heap.size≤w'.heap.size:=h.1.size
theorem Keeps.trans {w1 w2:World} (h:Keeps n pr w w1) (k:Keeps n pr w1 w2):Keeps n pr w w2:=
 ⟨⟨k.1.os.trans h.1.os,k.1.tape.trans h.1.tape,k.1.output.trans h.1.output,Nat.le_trans h.size k.size,fun i hi=>(k.1.block i hi).trans (h.1.block i hi)⟩,fun i hi hs=>(k.2 i hi (by have:=h.size;omega)).trans (h.2 i hi hs)⟩
theorem Keeps.of_adds (h:Adds w w') (hn:n≤w.heap.size):Keeps n pr w w':=by
 have hb:=h.below
 exact ⟨⟨hb.os,hb.tape,hb.output,hb.size,fun k hk=>hb.block k (by omega)⟩,fun k _ hk=>hb.block k hk⟩
theorem Keeps.of_grown {row:Option Nat} (h:w.grownBy w' row) (hn:n≤w.heap.size) (h1:∀g,row=some g→n≤g∧g∉pr):Keeps n pr w w':=
 ⟨⟨h.os,h.tape,h.output,h.size,fun k hk=>h.block k (by omega) (fun e=>by have:=(h1 k e.symm).1;omega)⟩,fun k hk hs=>h.block k hs (fun e=>(h1 k e.symm).2 hk)⟩
theorem Keeps.sub {m:Nat} {ps:List Nat} (h:Keeps n pr w w') (hm:m≤n) (hs:∀k∈ps,k∈pr∨k < n):Keeps m ps w w':=
 ⟨⟨h.1.os,h.1.tape,h.1.output,h.1.size,fun k hk=>h.1.block k (by omega)⟩,fun k hk hl=>by
   rcases hs k hk with q|q
   ·exact h.2 k q hl
   ·exact h.1.block k q⟩
theorem Keeps.row (h:Keeps n pr w w') {k:Nat} (hk:k∈pr) (hs:k < w.heap.size):rowOf w' k=rowOf w k:=rowOf_eq (h.2 k hk hs)
theorem Keeps.setCell (w:World) (b i:Nat) (v:Value) (hn:n≤b) (hp:b∉pr):Keeps n pr w (w.setCell ⟨b,i,none⟩ v):=
 ⟨⟨rfl,rfl,rfl,by simp,fun k hk=>heap_setCell_other w ⟨b,i,none⟩ k _ (by show k≠b;omega)⟩,fun k hk _=>heap_setCell_other w ⟨b,i,none⟩ k _ (fun e=>hp (by subst e;exact hk))⟩
def LowG {α:Type} (cs:α→List Value) (n:Nat) (w:World) (a:Option Addr) (len:Nat) (d:List α):Prop:=HeldG cs w a len d∧∀b o,a=some ⟨b,o,none⟩→0 < len→b < n
theorem LowG.below {α:Type} {cs:α→List Value} {a:Option Addr} {d:List α} (h:LowG cs n w a len d) (k:Below n w w'):LowG cs n w' a len d:=
 ⟨⟨h.1.1,h.1.2.1,fun hl=>by
   obtain ⟨b,o,ha,hb,hat⟩:=h.1.2.2 hl
   have hbn:=h.2 b o ha hl
   exact ⟨b,o,ha,by have:=k.size;omega,hat.keep fun i=>World.cell?_of_block (k.block b hbn)⟩⟩,h.2⟩
theorem LowG.keeps {α:Type} {cs:α→List Value} {a:Option Addr} {d:List α} (h:LowG cs n w a len d) (k:Keeps n pr w w'):LowG cs n w' a len d:=h.below k.1
theorem LowG.of {α:Type} {cs:α→List Value} {a:Option Addr} {d:List α} (h:HeldG cs w a len d):LowG cs w.heap.size w a len d:=
 ⟨h,fun b o ha hl=>by
   obtain ⟨b',o',ha',hb,_⟩:=h.2.2 hl
   rw [ha'] at ha
   injection ha with ha
   injection ha with h1
   omega⟩
end
section
variable {b n:Nat} {cs tmps:Array Value} {pr:List Nat} {w w':World}
theorem heap_setRow_same (h:0 < (rowOf w b).size) (cs:Array Value):∃t,(w.setRow b cs).heap[b]? =some (.cells cs t (0,0)):=by
 obtain ⟨t,ht⟩:=rowOf_some h
 exact ⟨t,setRow_heap w b _ _ t (0,0) ht⟩
theorem heap_setRow_other (w:World) (b k:Nat) (cs:Array Value) (h:k≠b):(w.setRow b cs).heap[k]? =w.heap[k]? :=by
 have h':¬b=k:=fun e=>h e.symm
 simp [World.setRow,Array.getElem?_modify,h']
theorem rowOf_setRow_same (w:World) (b:Nat) (cs:Array Value) (h:0 < (rowOf w b).size):rowOf (w.setRow b cs) b=cs:=by
 obtain ⟨t,ht⟩:=heap_setRow_same h cs
 unfold rowOf;rw [ht];rfl
theorem rowOf_setRow_other (w:World) (b k:Nat) (cs:Array Value) (h:k≠b):rowOf (w.setRow b cs) k=rowOf w k:=rowOf_eq (heap_setRow_other w b k cs h)
@[go_sem] theorem size_setRow (w:World) (b:Nat) (cs:Array Value):(w.setRow b cs).heap.size=w.heap.size:=by simp [World.setRow]
theorem Keeps.setRow (w:World) (b:Nat) (cs:Array Value) (hn:n≤b) (hp:b∉pr):Keeps n pr w (w.setRow b cs):=
 ⟨⟨rfl,rfl,rfl,by rw [size_setRow];exact Nat.le_refl _,fun k hk=>heap_setRow_other w b k cs (by omega)⟩,fun k hk _=>heap_setRow_other w b k cs (fun e=>hp (e▸hk))⟩
theorem Keeps.drewN (h:Keeps n pr w w'):Keeps n pr w w'.drew:=⟨⟨h.1.os,h.1.tape,h.1.output,h.1.size,h.1.block⟩,h.2⟩
theorem Keeps.adds (h:Keeps n [] w w') (hn:n=w.heap.size):Adds w w':=Adds.of_below (hn▸h.1)
theorem Keeps.nil (h:Keeps n pr w w'):Keeps n [] w w':=⟨h.1,fun k hk=>by cases hk⟩
theorem ret3_Cycle {fn:Func} {p0 p:Tmp} (hf:fn.results=#[.cell p 41,.tmp p0]) {v0:Value} (h0:tmps.getD p0 undef=v0) (hp:tmps.getD p undef=.pointer (some ⟨b,0,none⟩)) (hr:rowOf w b=cs) (hs:cs.size=4):(results fn tmps).run Tryz.prog w=.ok (.tuple #[.agg cs,v0]) w:=
 ret3_all hf Tryz.underlying41 (by kernel_rfl) (by decide) tmps w b cs v0 h0 hp hr hs
theorem ret_Cycle {fn:Func} {p:Tmp} (hf:fn.results=#[.cell p 41]) (hp:tmps.getD p undef=.pointer (some ⟨b,0,none⟩)) (hr:rowOf w b=cs) (hs:cs.size=4):(results fn tmps).run Tryz.prog w=.ok (.agg cs) w:=
 ret_all hf Tryz.underlying41 (by kernel_rfl) (by decide) tmps w b cs hp hr hs
end
namespace K8
def S.cnd (n:Int) (s z k p v c:Bool):Bool:=
 if n=0 then !z else if n=1 then z else if n=2 then !c else if n=3 then c else if n=4 then !p else if n=5 then p else
 if n=6 then !s else if n=7 then s else if n=8 then !k else if n=9 then k else if n=10 then v else decide (n=11)
def S.neg (n:Int):Bool:=decide (n=0)||decide (n=2)||decide (n=4)||decide (n=6)||decide (n=8)
theorem S.cnd_no (n:Int) (s z k p v c:Bool) (h0:¬n=0) (h1:¬n=1) (h2:¬n=2) (h3:¬n=3) (h4:¬n=4) (h5:¬n=5) (h6:¬n=6) (h7:¬n=7) (h8:¬n=8) (h9:¬n=9) (h10:¬n=10) (h11:¬n=11):S.cnd n s z k p v c=false:=by
 simp [S.cnd, *]
end K8
end Go.Proofs.YteggjjhjmhccjaaGreat
