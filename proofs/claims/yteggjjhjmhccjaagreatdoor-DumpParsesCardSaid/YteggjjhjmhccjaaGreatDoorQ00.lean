/- Texts that the proofs of the statements on dumps rest on, joined. Conditions stand in each theorem. -/
import GoSem.Claim
import GoSem.ClaimJoined
import Derived.WalkKit
import Derived.ProofKit
import Derived.OpenShut
import Derived.RowKit3
import Derived.Below
import Derived.Laws.StructEq
import Derived.ChangeKeysEq
import Derived.Deep.QuietTactic
import Derived.BigQuiet
import Derived.KernelRfl
import Derived.Laws.BitsAllLaws
import Derived.Test.YteggjjhjmhccjaaGreatDoorChecked
import Derived.Deep.Cut
import Derived.Laws.Rows
import Derived.Laws.Tables
import Derived.Laws.CopyRow
import Derived.Lib.Hide
import Derived.RegionTactic
import Derived.BigCall
import Derived.Laws.OwnMore
import Derived.Laws.AppendOwnNone
import Derived.Maps.AppendAt
import Derived.OwnWalk
import Derived.Deep.Slices
import Derived.ChangeSame
import Derived.Deep.RegionWith
import Derived.StillTailTactics
set_option linter.unusedVariables false
set_option linter.unusedSimpArgs false
set_option maxRecDepth 100000
set_option maxHeartbeats 8000000
namespace Go.Proofs.YteggjjhjmhccjaaGreatDoor
open Go.ChangeShapes Go.WideShapes Go.ChangeAt Go.RowKit
section
def More (w:World) (n:Nat) (os:Array Obj):World:={w with heap:=w.heap++os,drawn:=n}
structure By where
 n:Nat
 os:Array Obj
instance:Inhabited By:=⟨⟨0,#[]⟩⟩
def Adds (w w':World):Prop:=∃p:By,w'=More w p.n p.os
@[go_sem] theorem More_size (w:World) (n:Nat) (os:Array Obj):(More w n os).heap.size=w.heap.size+os.size:=by simp [More]
@[go_sem] theorem More_tape (w:World) (n:Nat) (os:Array Obj):(More w n os).tape=w.tape:=rfl
theorem More_heap (w:World) (n:Nat) (os:Array Obj) {k:Nat} (h:k < w.heap.size):(More w n os).heap[k]? =w.heap[k]? :=by simp [More,Array.getElem?_append,h]
def InB (b:Nat) (w:World):Prop:=b < w.heap.size
def Junk (b:Nat) (w:World) (os:Array Obj):Prop:=¬InB b w∧b < w.heap.size+os.size
@[go_sem] theorem InB_alloc (b:Nat) (w:World) (o:Obj):InB b (w.alloc o)=(b=w.heap.size∨InB b w):=by
 have e:(w.alloc o).heap.size=w.heap.size+1:=Array.size_push ..
 unfold InB;rw [e];exact propext (by omega)
@[go_sem] theorem InB_More (b:Nat) (w:World) (n:Nat) (os:Array Obj):InB b (More w n os)=(InB b w∨Junk b w os):=by
 unfold Junk InB;rw [More_size];exact propext (by omega)
@[go_sem] theorem InB_drew (b:Nat) (w:World):InB b w.drew=InB b w:=propext ⟨fun h=>h,fun h=>h⟩
@[go_sem] theorem InB_drewN (b:Nat) (w:World) (n:Nat):InB b (w.drewN n)=InB b w:=propext ⟨fun h=>h,fun h=>h⟩
@[go_sem] theorem InB_setCell (b:Nat) (w:World) (a:Addr) (v:Value):InB b (w.setCell a v)=InB b w:=by
 have e:(w.setCell a v).heap.size=w.heap.size:=Array.size_modify ..
 unfold InB;rw [e]
@[go_sem low] theorem InB_base (b:Nat) (w:World):InB b w=(b < w.heap.size):=propext ⟨fun h=>h,fun h=>h⟩
@[go_sem] theorem More_cell (w:World) (n:Nat) (os:Array Obj) (b i:Nat) (s:_) (h:InB b w):(More w n os).cell? ⟨b,i,s⟩=w.cell? ⟨b,i,s⟩:=by simp only [World.cell?,More_heap w n os h]
@[go_sem] theorem More_frozen (w:World) (n:Nat) (os:Array Obj) (b i:Nat) (s:_) (h:InB b w):(More w n os).frozen? ⟨b,i,s⟩=w.frozen? ⟨b,i,s⟩:=by simp only [World.frozen?,More_heap w n os h]
@[go_sem] theorem alloc_cell (w:World) (o:Obj) (b i:Nat) (h:InB b w):(w.alloc o).cell? ⟨b,i,none⟩=w.cell? ⟨b,i,none⟩:=World.cell?_alloc_past o b i h
@[go_sem] theorem alloc_frozen (w:World) (o:Obj) (b i:Nat) (h:InB b w):(w.alloc o).frozen? ⟨b,i,none⟩=w.frozen? ⟨b,i,none⟩:=World.frozen?_alloc_past o b i h
@[go_sem] theorem alloc_setCell (w:World) (o:Obj) (b i:Nat) (v:Value) (h:InB b w):(w.alloc o).setCell ⟨b,i,none⟩ v=(w.setCell ⟨b,i,none⟩ v).alloc o:=World.setCell_alloc_past o b i v h
@[go_sem] theorem More_drew (w:World) (n:Nat) (os:Array Obj):(More w n os).drew=More w (n+1) os:=rfl
@[go_sem] theorem More_of_drew (w:World) (n:Nat) (os:Array Obj):More w.drew n os=More w n os:=rfl
@[go_sem] theorem More_of_drewN (w:World) (m n:Nat) (os:Array Obj):More (w.drewN m) n os=More w n os:=rfl
theorem More_zero (w:World):More w w.drawn #[]=w:=by simp [More]
theorem More_more (w:World) (n m:Nat) (os os':Array Obj):More (More w n os) m os'=More w m (os++os'):=by
 simp [More,Array.append_assoc]
theorem Adds.refl (w:World):Adds w w:=⟨⟨w.drawn,#[]⟩,(More_zero w).symm⟩
theorem Adds.drew {w w':World} (h:Adds w w'):Adds w w'.drew:=by
 obtain ⟨⟨n,os⟩,rfl⟩:=h
 exact ⟨⟨n+1,os⟩,rfl⟩
theorem Adds.drewN {w w':World} (h:Adds w w') (m:Nat):Adds w (w'.drewN m):=by
 obtain ⟨⟨n,os⟩,rfl⟩:=h
 exact ⟨⟨n+m,os⟩,rfl⟩
theorem Adds.alloc {w w':World} (h:Adds w w') (o:Obj):Adds w (w'.alloc o):=by
 obtain ⟨⟨n,os⟩,rfl⟩:=h
 exact ⟨⟨n,os.push o⟩,by simp [More,World.alloc]⟩
theorem Adds.more {w w':World} (h:Adds w w') (m:Nat) (os':Array Obj):Adds w (More w' m os'):=by
 obtain ⟨⟨n,os⟩,rfl⟩:=h
 exact ⟨⟨m,os++os'⟩,More_more ..⟩
theorem Adds.trans {w w' w'':World} (h:Adds w w') (k:Adds w' w''):Adds w w'':=by
 obtain ⟨⟨n,os⟩,rfl⟩:=k
 exact h.more n os
theorem modify_right (a b:Array Obj) (i:Nat) (f:Obj→Obj) (h:a.size≤i):(a++b).modify i f=a++b.modify (i - a.size) f:=by
 apply Array.ext_getElem?
 intro k
 simp only [Array.getElem?_modify,Array.getElem?_append]
 by_cases hk:k < a.size
 ·have:i≠k:=by omega
  simp [hk,this]
 ·by_cases hik:i=k
  ·subst hik;simp [hk]
  ·have:i - a.size≠k - a.size:=by omega
   simp [hk,hik,this]
theorem modify_left (a b:Array Obj) (i:Nat) (f:Obj→Obj) (h:i < a.size):(a++b).modify i f=a.modify i f++b:=by
 apply Array.ext_getElem?
 intro k
 simp only [Array.getElem?_modify,Array.getElem?_append,Array.size_modify]
 by_cases hk:k < a.size
 ·simp [hk]
 ·have:i≠k:=by omega
  simp [hk,this]
@[go_sem] theorem More_setCell (w:World) (n:Nat) (os:Array Obj) (b i:Nat) (s:_) (v:Value) (h:InB b w):(More w n os).setCell ⟨b,i,s⟩ v=More (w.setCell ⟨b,i,s⟩ v) n os:=by
 unfold More World.setCell
 simp only []
 rw [modify_left _ _ _ _ h]
theorem Adds.setCell {w w':World} (h:Adds w w') {a:Addr} (ha:w.heap.size≤a.block) (v:Value):Adds w (w'.setCell a v):=by
 obtain ⟨⟨n,os⟩,rfl⟩:=h
 have e:(More w n os).setCell a v=(More w n os).setCell a v:=rfl
 conv at e=>rhs;simp only [World.setCell,More];rw [modify_right _ _ _ _ ha]
 exact ⟨⟨n,_⟩,e⟩
theorem Adds.below {w w':World} (h:Adds w w'):Below w.heap.size w w':=by
 obtain ⟨⟨n,os⟩,rfl⟩:=h
 exact ⟨rfl,rfl,rfl,by simp [More],fun k hk=>More_heap w n os hk⟩
theorem Adds.of_below {w w':World} (h:Below w.heap.size w w'):Adds w w':=by
 refine ⟨⟨w'.drawn,w'.heap.extract w.heap.size w'.heap.size⟩,?_⟩
 obtain ⟨hp,tp,dr,o,ou⟩:=w'
 obtain ⟨h1,h2,h3,h4,h5⟩:=h
 simp only at h1 h2 h3 h4 h5
 subst h1 h2 h3
 unfold More
 congr 1
 apply Array.ext_getElem?
 intro i
 rw [Array.getElem?_append]
 split
 ·rename_i hi;exact h5 i hi
 ·rename_i hi;rw [Array.getElem?_extract];split
  ·congr 1;omega
  ·rename_i hj;simp only [Nat.min_self] at hj;rw [Array.getElem?_eq_none];simp only [Nat.not_lt] at hi;show hp.size≤i;have:¬i - w.heap.size < hp.size - w.heap.size:=hj;have h4':w.heap.size≤hp.size:=h4;omega
theorem wp_region_adds {P:Program} {id:Nat} {Q:Exit→Act→World→Prop} {a:Act} {w:World} {l:List Oper} (hm:P.follows .mixedOrders=true) (hB:Region.lexB .any l.toArray=true)
 (h:wpQuiet P l.toArray (fun w'=>∃p:By,w'=More w p.n p.os) (fun a'=>∀w',(∃p:By,w'=More w p.n p.os)→Q .normal a' w') l a):(Code.region id l.toArray true).wp P Q a w:=
 wp_region_quiet (C:=fun w'=>∃p:By,w'=More w p.n p.os) hm hB ⟨⟨w.drawn+1,#[]⟩,by simp [More]⟩ (by simpa using h)
theorem calls_adds {P:Program} {f:FuncId} {args:Array Value} {w:World} {n:Nat} {os:Array Obj} {v:Value}
 (h:Calls P f args (More w n os) fun e w'=>e=.returned v∧Adds (More w n os) w'):Calls P f args (More w n os) fun e w''=>e=.returned v∧∃p:By,w''=More w p.n p.os:=
 h.mono fun _ _ ⟨he,⟨m,os'⟩,hq⟩=>⟨he,⟨m,os++os'⟩,by rw [hq,More_more]⟩
theorem calls_same {P:Program} {f:FuncId} {args:Array Value} {w:World} {n:Nat} {os:Array Obj} {v:Value}
 (h:Calls P f args (More w n os) fun e w'=>e=.returned v∧More w n os=w'):Calls P f args (More w n os) fun e w''=>e=.returned v∧∃p:By,w''=More w p.n p.os:=
 h.mono fun _ _ ⟨he,hq⟩=>⟨he,⟨n,os⟩,hq.symm⟩
inductive Leaf where
 |int (k:IntKind)
 |bool
def shaped:List Leaf→List Value→Prop
 | .int k::L,.int k' n::vs=>k=k'∧shaped L vs
 | .bool::L,.bool _::vs=>shaped L vs
 |[],[]=>True
 |_,_=>False
def fits:List Leaf→List Value→Prop
 | .int k::L,v::vs=>(∃n,v=.int k n∧(Lit.int k n).wf=true)∧fits L vs
 | .bool::L,v::vs=>(∃b,v=.bool b)∧fits L vs
 |[],[]=>True
 |_,_=>False
def flatFields (P:Program) (sub:TypeId→Option (List Leaf)):Nat→List Field→Nat→Option (List Leaf)
 |off,[],tot=>if off=tot then some [] else none
 |off,f::fs,tot=>if f.offset=off∧f.name≠ "_" then (sub f.type).bind fun l=>if l.length=P.cellsOf f.type then (flatFields P sub (off+l.length) fs tot).map (l++ ·) else none else none
def flat (P:Program):Nat→TypeId→Option (List Leaf)
 |0,_=>none
 |n+1,t=>match P.underlying t with
  |some .bool=>some [.bool]
  |some (.int k)=>some [.int k]
  |some (.struct fs)=>if P.stoodInHeld t=false then flatFields P (flat P n) 0 fs.toList (P.cellsOf t) else none
  |_=>none
theorem fits_append:∀(l L:List Leaf) (xs:List Value),fits l (xs.take l.length)→fits L (xs.drop l.length)→fits (l++L) xs
 |[],L,xs,_,h=>by simpa using h
 | .int k::l,L,[],h,_=>by simp [fits] at h
 | .bool::l,L,[],h,_=>by simp [fits] at h
 | .int k::l,L,x::xs,h,h'=>by
  simp only [List.length_cons,List.take_succ_cons,fits] at h
  exact ⟨h.1,fits_append l L xs h.2 (by simpa using h')⟩
 | .bool::l,L,x::xs,h,h'=>by
  simp only [List.length_cons,List.take_succ_cons,fits] at h
  exact ⟨h.1,fits_append l L xs h.2 (by simpa using h')⟩
theorem fits_fields {P:Program} {sub:TypeId→Option (List Leaf)} {cs:List Value}:∀(fs:List Field) (off tot:Nat) (L:List Leaf),flatFields P sub off fs tot=some L→cs.length=tot→
 (∀f∈fs,∀l,sub f.type=some l→fits l ((cs.drop f.offset).take (P.cellsOf f.type)))→fits L (cs.drop off)
 |[],off,tot,L,h,hl,_=>by
  simp only [flatFields] at h
  split at h
  ·obtain rfl:=Option.some.inj h
   rw [List.drop_eq_nil_of_le (by omega)]
   trivial
  ·cases h
 |f::fs,off,tot,L,h,hl,hr=>by
  simp only [flatFields] at h
  split at h
  ·rename_i ho
   obtain ⟨ho, -⟩:=ho
   simp only [Option.bind_eq_some_iff] at h
   obtain ⟨l,h1,h2⟩:=h
   split at h2
   ·rename_i hc
    simp only [Option.map_eq_some_iff] at h2
    obtain ⟨L',h3,rfl⟩:=h2
    have k1:=hr f (by simp) l h1
    rw [ho,←hc] at k1
    refine fits_append l L' _ k1 ?_
    rw [List.drop_drop]
    exact fits_fields fs (off+l.length) tot L' h3 hl (fun g hg=>hr g (by simp [hg]))
   ·cases h2
  ·cases h
section
variable {H:Type} {enc:TypeId×Value→H} {P:Program} {w:World} {base:Nat} {spare:Nat→Bool} {held:Bool}
theorem flat_fits:∀(n:Nat) (t:TypeId) (L:List Leaf) (fuel:Nat) (cs:List Value) (x:DataW H×List MemPlace),flat P n t=some L→DataW.trod enc P w base spare held fuel t cs=some x→fits L cs
 |0,t,L,fuel,cs,x,h,_=>by simp [flat] at h
 |n+1,t,L,fuel,cs,x,h,ht=>by
  cases hu:P.underlying t with
  |none=>simp [flat,hu] at h
  |some kd=>
   cases kd
   case bool=>
    simp [flat,hu] at h
    subst h
    obtain ⟨b,rfl,_⟩:=DataW.trod_bool hu ht
    exact ⟨⟨b,rfl⟩,trivial⟩
   case int k=>
    simp [flat,hu] at h
    subst h
    obtain ⟨m,rfl,_,hw⟩:=DataW.trod_int hu ht
    exact ⟨⟨m,rfl,hw⟩,trivial⟩
   case struct fs=>
    simp only [flat,hu] at h
    split at h
    ·obtain ⟨xs,m,_,_,hl,hlen,hg⟩:=DataW.trod_struct hu ht
     have:=fits_fields (cs:=cs) fs.toList 0 _ L h hl (fun f hf l hs=>by
      obtain ⟨j,hj⟩:=List.getElem?_of_mem hf
      have hj':fs[j]? =some f:=by simpa using hj
      have hjl:j < fs.size:=(Array.getElem?_eq_some_iff.1 hj').1
      have hx:xs[j]? =some (xs[j]'(by omega)):=List.getElem?_eq_getElem (by omega)
      have h1:=hg j f hj'
      rw [hx] at h1
      exact flat_fits n f.type l m _ _ hs h1)
     simpa using this
    ·cases h
   all_goals (simp [flat,hu] at h;done)
theorem open_flat {r:Reach} {b0:Nat} {t:TypeId} {v:Value} {d:DataW H} {p:List MemPlace} (n:Nat) (L:List Leaf) (fs:Array Field) (hs:P.underlying t=some (.struct fs)) (hf:flat P n t=some L)
 (hv:Value.okWide P w r b0 t v) (h:DataW.Trod enc P w base spare held t v d p):∃l:List Value,v=.agg l.toArray∧fits L l:=by
 obtain ⟨cs,rfl,_⟩:=okWide_struct hs hv
 obtain ⟨fuel,ht⟩:=h
 exact ⟨cs.toList,by simp,flat_fits n t L fuel _ _ hf (by simpa [Value.cells] using ht)⟩
end
theorem fits_bool {L:List Leaf} {l:List Value} (h:fits (.bool::L) l):∃b l',l=.bool b::l'∧fits L l':=by
 cases l with
 |nil=>exact h.elim
 |cons v vs=>obtain ⟨⟨b,rfl⟩,h⟩:=h;exact ⟨b,vs,rfl,h⟩
theorem fits_int {k:IntKind} {L:List Leaf} {l:List Value} (h:fits (.int k::L) l):∃n l',l=.int k n::l'∧(Lit.int k n).wf=true∧fits L l':=by
 cases l with
 |nil=>exact h.elim
 |cons v vs=>obtain ⟨⟨b,rfl,hw⟩,h⟩:=h;exact ⟨b,vs,rfl,hw,h⟩
theorem fits_nil {l:List Value} (h:fits [] l):l=[]:=by
 cases l with
 |nil=>rfl
 |cons v vs=>exact h.elim
def same:List Value→List Value→Bool
 | .int _ a::xs,.int _ b::ys=>(a==b) && same xs ys
 | .bool a::xs,.bool b::ys=>(a==b) && same xs ys
 |[],[]=>true
 |_,_=>false
@[go_sem] theorem same_int (k k':IntKind) (a b:Int) (xs ys:List Value):same (.int k a::xs) (.int k' b::ys)=((a==b) && same xs ys):=rfl
@[go_sem] theorem same_bool (a b:Bool) (xs ys:List Value):same (.bool a::xs) (.bool b::ys)=((a==b) && same xs ys):=rfl
@[go_sem] theorem same_nil:same [] []=true:=rfl
theorem shaped_length:∀(L:List Leaf) (xs:List Value),shaped L xs→xs.length=L.length
 |[],[],_=>rfl
 | .int k::L,.int k' n::vs,h=>by simp [shaped_length L vs h.2]
 | .bool::L,.bool _::vs,h=>by simp [shaped_length L vs h]
 |[],_::_,h=>h.elim
 | .int _::_,[],h=>h.elim
 | .bool::_,[],h=>h.elim
 | .int _::_,.bool _::_,h=>h.elim
 | .bool::_,.int _ _::_,h=>h.elim
theorem shaped_split:∀(l L:List Leaf) (xs:List Value),shaped (l++L) xs→shaped l (xs.take l.length)∧shaped L (xs.drop l.length)
 |[],L,xs,h=>⟨trivial,by simpa using h⟩
 | .int k::l,L,.int k' n::xs,h=>by
  have:=shaped_split l L xs h.2
  exact ⟨⟨h.1,this.1⟩,by simpa using this.2⟩
 | .bool::l,L,.bool b::xs,h=>by
  have:=shaped_split l L xs h
  exact ⟨this.1,by simpa using this.2⟩
theorem same_append:∀(l L:List Leaf) (xs ys:List Value),shaped (l++L) xs→shaped (l++L) ys→same xs ys=(same (xs.take l.length) (ys.take l.length) && same (xs.drop l.length) (ys.drop l.length))
 |[],L,xs,ys,_,_=>by simp [same_nil]
 | .int k::l,L,.int k' n::xs,.int k'' m::ys,h,h'=>by
  simp [same_int,same_append l L xs ys h.2 h'.2,Bool.and_assoc]
 | .bool::l,L,.bool b::xs,.bool c::ys,h,h'=>by
  simp [same_bool,same_append l L xs ys h h',Bool.and_assoc]
def valAt (P:Program) (t:TypeId) (xs:List Value):Value:=match P.underlying t with
 |some (.struct _)=> .agg xs.toArray
 |_=>xs.headD undef
theorem flat_len {P:Program} {sub:TypeId→Option (List Leaf)}:∀(fs:List Field) (off tot:Nat) (L:List Leaf),flatFields P sub off fs tot=some L→off+L.length=tot
 |[],off,tot,L,h=>by
  simp only [flatFields] at h
  split at h
  ·obtain rfl:=Option.some.inj h;simpa
  ·cases h
 |f::fs,off,tot,L,h=>by
  simp only [flatFields] at h
  split at h
  ·simp only [Option.bind_eq_some_iff] at h
   obtain ⟨l,h1,h2⟩:=h
   split at h2
   ·simp only [Option.map_eq_some_iff] at h2
    obtain ⟨L',h3,rfl⟩:=h2
    have:=flat_len fs _ tot L' h3
    simp;omega
   ·cases h2
  ·cases h
theorem part_flat {P:Program} {n:Nat} {t:TypeId} {l:List Leaf} (hf:flat P n t=some l) (hc:l.length=P.cellsOf t) (xs:Array Value) (off:Nat) (hs:shaped l ((xs.toList.drop off).take l.length)) (w:World):
 (part t xs off).run P w=.ok (valAt P t ((xs.toList.drop off).take l.length)) w:=by
 cases n with
 |zero=>simp [flat] at hf
 |succ n=>
  cases hu:P.underlying t with
  |none=>simp [flat,hu] at hf
  |some kd=>
   have one:∀lf,l=[lf]→∃v,xs[off]? =some v∧(xs.toList.drop off).take l.length=[v]:=by
    intro lf e
    have:=shaped_length _ _ hs
    rw [e] at this⊢
    match hm:xs.toList.drop off,this with
    |v::r,_=>
     have h0:(xs.toList.drop off)[0]? =some v:=by rw [hm];rfl
     exact ⟨v,by simpa using h0,by simp⟩
   cases kd
   case bool=>
    simp [flat,hu] at hf
    obtain ⟨v,e1,e2⟩:=one _ hf.symm
    simp [part,isAgg,run_underlying hu,e1,e2,valAt,hu]
   case int k=>
    simp [flat,hu] at hf
    obtain ⟨v,e1,e2⟩:=one _ hf.symm
    simp [part,isAgg,run_underlying hu,e1,e2,valAt,hu]
   case struct fs=>
    obtain ⟨i,hi⟩:=info_of_underlying hu
    have hl:(xs.extract off (off+P.cellsOf t))=((xs.toList.drop off).take l.length).toArray:=by
     apply Array.toList_inj.1
     rw [Array.toList_extract,hc]
     simp [List.extract]
    simp [part,isAgg,run_underlying hu,run_sizeOf w hi,valAt,hu,hl]
   all_goals (simp [flat,hu] at hf;done)
theorem eq_flat {P:Program}:∀(n d:Nat) (t:TypeId) (L:List Leaf) (xs ys:List Value) (w:World),flat P n t=some L→shaped L xs→shaped L ys→
 (Op.equalIn (d+n) t (valAt P t xs) (valAt P t ys)).run P w=.ok (same xs ys) w
 |0,d,t,L,xs,ys,w,hf,_,_=>by simp [flat] at hf
 |n+1,d,t,L,xs,ys,w,hf,hx,hy=>by
  cases hu:P.underlying t with
  |none=>simp [flat,hu] at hf
  |some kd=>
   cases kd
   case bool=>
    simp [flat,hu] at hf
    subst hf
    match xs,ys,hx,hy with
    |[.bool a],[.bool b],_,_=>simp only [valAt,hu,List.headD_cons,same_bool,same_nil,Bool.and_true];exact run_equalIn_bool w (d+n) t a b hu
   case int k=>
    simp [flat,hu] at hf
    subst hf
    match xs,ys,hx,hy with
    |[.int q a],[.int q' b],hx,hy=>
     obtain ⟨rfl,_⟩:=hx
     obtain ⟨rfl,_⟩:=hy
     simp only [valAt,hu,List.headD_cons,same_int,same_nil,Bool.and_true];exact run_equalIn_int w (d+n) t _ k a b hu
   case struct fs=>
    simp only [flat,hu] at hf
    split at hf
    ·rename_i hst
     have hfs:P.fieldsOf t=fs:=by simp [Program.fieldsOf,hu]
     simp only [valAt,hu]
     rw [show d+(n+1)=(d+n)+1 from rfl,run_equalIn_struct w (d+n) t _ _ (by rw [hfs];exact hu) hst,hfs]
     have key:∀(l:List Field) (off tot:Nat) (L:List Leaf),flatFields P (flat P n) off l tot=some L→shaped L (xs.drop off)→shaped L (ys.drop off)→
      (Op.eqFields (d+n) xs.toArray ys.toArray l).run P w=.ok (same (xs.drop off) (ys.drop off)) w:=by
      intro l
      induction l with
      |nil=>
       intro off tot L h h1 h2
       simp only [flatFields] at h
       split at h
       ·obtain rfl:=Option.some.inj h
        have e1:xs.drop off=[]:=by exact List.eq_nil_of_length_eq_zero (shaped_length _ _ h1)
        have e2:ys.drop off=[]:=by exact List.eq_nil_of_length_eq_zero (shaped_length _ _ h2)
        simp [Op.eqFields,e1,e2,same_nil]
       ·cases h
      |cons f fs ih=>
       intro off tot L h h1 h2
       simp only [flatFields] at h
       split at h
       ·rename_i ho
        obtain ⟨ho,hn⟩:=ho
        simp only [Option.bind_eq_some_iff] at h
        obtain ⟨l,hl,h⟩:=h
        split at h
        ·rename_i hc
         simp only [Option.map_eq_some_iff] at h
         obtain ⟨L',h3,rfl⟩:=h
         obtain ⟨s1,t1⟩:=shaped_split l L' _ h1
         obtain ⟨s2,t2⟩:=shaped_split l L' _ h2
         have p1:=part_flat hl hc xs.toArray f.offset (by simpa [ho] using s1) w
         have p2:=part_flat hl hc ys.toArray f.offset (by simpa [ho] using s2) w
         have ee:=eq_flat n d f.type l _ _ w hl (by simpa [ho] using s1:shaped l ((xs.toArray.toList.drop f.offset).take l.length)) (by simpa [ho] using s2:shaped l ((ys.toArray.toList.drop f.offset).take l.length))
         have rest:=ih (off+l.length) tot L' h3 (by simpa [List.drop_drop] using t1) (by simpa [List.drop_drop] using t2)
         simp only [Op.eqFields,hn,ne_eq,not_false_eq_true,if_true,Sem.run_bind,p1,p2,ee,Result.andThen_ok]
         rw [same_append l L' _ _ h1 h2]
         simp only [List.drop_drop,ho]
         cases hb:same (List.take l.length (List.drop off xs)) (List.take l.length (List.drop off ys))
         ·simp
         ·simp [rest]
        ·cases h
       ·cases h
     simpa using key fs.toList 0 _ L hf (by simpa using hx) (by simpa using hy)
    ·cases hf
   all_goals (simp [flat,hu] at hf;done)
theorem eq_agg {P:Program} (n:Nat) {t:TypeId} (L:List Leaf) (fs:Array Field) (hs:P.underlying t=some (.struct fs)) (hf:flat P n t=some L) (hn:n≤10000) (xs ys:Array Value) (w:World) (hx:shaped L xs.toList) (hy:shaped L ys.toList):
 (Op.equalIn 10000 t (.agg xs) (.agg ys)).run P w=.ok (same xs.toList ys.toList) w:=by
 have:=eq_flat n (10000 - n) t L xs.toList ys.toList w hf hx hy
 rw [show 10000 - n+n=10000 by omega] at this
 simpa [valAt,hs] using this
theorem aD {w w':World} (h:Adds w w':=by (repeat (first|with_reducible exact Adds.refl _|with_reducible apply Adds.drew|with_reducible apply Adds.drewN|with_reducible apply Adds.alloc|with_reducible apply Adds.more|(with_reducible refine Adds.setCell ?_ ?_ _)|(focus (simp [go_sem];done))|(focus (simp [go_sem];omega))))):Adds w w':=h
theorem ad {P:Program} {f:FuncId} {args:Array Value} {w:World} {v:Value} {Q:Ending→World→Prop} (h:Calls P f args w fun e w'=>e=.returned v∧Adds w w') (k:∀n os,Q (.returned v) (More w n os)):Calls P f args w Q:=
 h.mono fun _ _ ⟨he,⟨⟨n,os⟩,hw⟩⟩=>by subst he;subst hw;exact k n os
theorem ae {P:Program} {f:FuncId} {args:Array Value} {w W:World} {v:Value} {Q:Ending→World→Prop} (h:Calls P f args w fun e w'=>e=.returned v∧∃p:By,w'=More W p.n p.os) (k:∀n os,Q (.returned v) (More W n os)):Calls P f args w Q:=
 h.mono fun _ _ ⟨he,⟨⟨n,os⟩,hw⟩⟩=>by subst he;subst hw;exact k n os
theorem sm {P:Program} {f:FuncId} {args:Array Value} {w:World} {v:Value} {Q:Ending→World→Prop} (h:Calls P f args w fun e w'=>e=.returned v∧w=w') (k:Q (.returned v) w):Calls P f args w Q:=
 h.mono fun _ _ ⟨he,hw⟩=>by subst he;subst hw;exact k
theorem qt {P:Program} {id:Nat} {Q:Exit→Act→World→Prop} {a:Act} {w:World} {l:List Oper} (h:wpQuiet P l.toArray (fun w'=>∃p:By,w'=More w p.n p.os) (fun a'=>∀w',(∃p:By,w'=More w p.n p.os)→Q .normal a' w') l a) (hm:P.follows .mixedOrders=true:=by kernel_rfl) (hB:Region.lexB .any l.toArray=true:=by kernel_rfl):(Code.region id l.toArray true).wp P Q a w:=wp_region_adds hm hB h
theorem qn {P:Program} {ops:Array Oper} {C:World→Prop} {R:Act→World→Prop} {a:Act} {w:World} (h:∀n os,R a (More w n os)):wpQuiet P ops C (fun a'=>∀w',(∃p:By,w'=More w p.n p.os)→R a' w') [] a:=wpQuiet_nil fun _ ⟨⟨n,os⟩,hw⟩=>by subst hw;exact h n os
end
namespace S
variable {p q:Prop}
def one (b:Bool):Int:=if b then 1 else 0
def sgn (a:Int):Int:=if a < 128 then a else a - 256
def ovf (s:Int):Bool:=decide (s < -128)||decide (127 < s)
def sumR (a b:Int) (c:Bool):Int:=(a+b+one c) % 256
def sumO (a b:Int) (c:Bool):Bool:=decide (255 < a+b+one c)
def sumH (a b:Int) (c:Bool):Bool:=decide (15 < a % 16+b % 16+one c)
def sumV (a b:Int) (c:Bool):Bool:=ovf (sgn a+sgn b+one c)
def difR (a b:Int) (c:Bool):Int:=(a - b - one c) % 256
def difO (a b:Int) (c:Bool):Bool:=decide (a - b - one c < 0)
def difH (a b:Int) (c:Bool):Bool:=decide (15 < a % 16+(15 - b % 16)+(1 - one c))
def difV (a b:Int) (c:Bool):Bool:=ovf (sgn a - sgn b - one c)
def maj (a b c:Bool):Bool:=(a && b)||(a && c)||(b && c)
def joi (h l:Int):Int:=bits .or .u16 (h * 256) l
def parN (a:Int):Nat→Bool
 |0=>true
 |k+1=>if a / 2 ^ k % 2=1 then !parN a k else parN a k
def par (a:Int):Bool:=parN a 8
theorem one_bd (b:Bool):0≤one b∧one b≤1:=by cases b<;>simp [one]
theorem sgn_bd (a:Int) (h0:0≤a) (h1:a < 256): -128≤sgn a∧sgn a≤127:=by unfold sgn;split<;>omega
theorem sgn_wrap (a:Int) (h0:0≤a) (h1:a < 256):wrap64 (IntKind.i8.wrap a)=sgn a:=by
 unfold sgn
 split<;>simp [wrap64,IntKind.wrap,IntKind.bits,IntKind.signed]<;>omega
theorem sumR_bd (a b:Int) (c:Bool):0≤sumR a b c∧sumR a b c < 256:=by unfold sumR;omega
theorem difR_bd (a b:Int) (c:Bool):0≤difR a b c∧difR a b c < 256:=by unfold difR;omega
theorem and1_fin:∀n:Fin 256,bits .and .u8 (n.val:Int) 1=(n.val:Int) % 2:=by decide+kernel
theorem and1 (a:Int) (a0:0≤a) (a1:a < 256):bits .and .u8 a 1=a % 2:=by
 have h:=and1_fin ⟨a.toNat,by omega⟩
 simpa [Int.toNat_of_nonneg a0] using h
theorem bit_test (a:Int) (a0:0≤a) (a1:a < 256) (d:Int) (d0:0 < d):(bits .and .u8 (a / d) 1==1)=decide (a / d % 2=1):=by
 have h0:0≤a / d:=Int.ediv_nonneg a0 (Int.le_of_lt d0)
 have h1:a / d≤a:=Int.ediv_le_self d a0
 rw [and1 (a / d) h0 (by omega)]
 rfl
theorem joi_eq (h l:Int) (h0:0≤h) (h1:h < 256) (l0:0≤l) (l1:l < 256):joi h l=256 * h+l:=by
 unfold joi
 rw [u16_or _ _ (by omega) (by omega) l0 (by omega)]
 have e:(h * 256).toNat=2 ^ 8 * h.toNat:=by omega
 rw [e,←Nat.two_pow_add_eq_or_of_lt (by omega)]
 omega
theorem joi_bd {h l:Int} (h0:0≤h) (h1:h < 256) (l0:0≤l) (l1:l < 256):0≤joi h l∧joi h l < 65536:=by
 rw [joi_eq h l h0 h1 l0 l1];omega
theorem dec_iff [Decidable p] [Decidable q] (h:p↔q):decide p=decide q:=by simp [h]
theorem dec_not [Decidable p] [Decidable q] (h:p↔¬q):decide p= !decide q:=by simp [h]
end S
section
variable {a b:Int} {c:Bool} {w:World}
theorem ri {k:IntKind} (h:a=b):Ending.returned (.int k a)=.returned (.int k b):=by rw [h]
theorem rb {a b:Bool} (h:a=b):Ending.returned (.bool a)=.returned (.bool b):=by rw [h]
theorem one_any {b:Bool}:Calls Tryz.prog 194 #[.bool b] w fun e w'=>e=.returned (.int .i64 (S.one b))∧w=w':=by
 cases b
 all_goals
  go_enter Tryz.func194,Tryz.ntmps194
  go_wp2
  go_ret
  exact ⟨rfl,rfl⟩
theorem rsigned_any (h0:0≤a) (h1:a < 256):Calls Tryz.prog 195 #[.int .u8 a] w fun e w'=>e=.returned (.int .i64 (S.sgn a))∧w=w':=by
 go_enter Tryz.func195,Tryz.ntmps195
 go_wp2
 go_ret
 exact ⟨ri (S.sgn_wrap a h0 h1),rfl⟩
theorem rsum_any (a0:0≤a) (a1:a < 256) (b0:0≤b) (b1:b < 256):
 Calls Tryz.prog 187 #[.int .u8 a,.int .u8 b,.bool c] w fun e w'=>e=.returned (.tuple #[.int .u8 (S.sumR a b c),.bool (S.sumO a b c),.bool (S.sumH a b c),.bool (S.sumV a b c)])∧w=w':=by
 have hc:=S.one_bd c
 have sa:=S.sgn_bd a a0 a1
 have sb:=S.sgn_bd b b0 b1
 go_enter Tryz.func187,Tryz.ntmps187
 go_wp2_with (first|(go_at_call 194;refine sm (one_any) ?_)|(go_at_call 195;refine sm (rsigned_any (by assumption) (by assumption)) ?_))
 all_goals exact bodyPost_ret (by simp [results,Tryz.results187,go_sem];simp [S.sumR,S.sumO,S.sumH,S.sumV,S.ovf, *]) rfl ⟨rfl,rfl⟩
theorem rdif_any (a0:0≤a) (a1:a < 256) (b0:0≤b) (b1:b < 256):
 Calls Tryz.prog 188 #[.int .u8 a,.int .u8 b,.bool c] w fun e w'=>e=.returned (.tuple #[.int .u8 (S.difR a b c),.bool (S.difO a b c),.bool (S.difH a b c),.bool (S.difV a b c)])∧w=w':=by
 have hc:=S.one_bd c
 have sa:=S.sgn_bd a a0 a1
 have sb:=S.sgn_bd b b0 b1
 go_enter Tryz.func188,Tryz.ntmps188
 go_wp2_with (first|(go_at_call 194;refine sm (one_any) ?_)|(go_at_call 195;refine sm (rsigned_any (by assumption) (by assumption)) ?_))
 all_goals exact bodyPost_ret (by simp [results,Tryz.results188,go_sem];simp [S.difR,S.difO,S.difH,S.difV,S.ovf, *];omega) rfl ⟨rfl,rfl⟩
theorem rparity_any (a0:0≤a) (a1:a < 256):Calls Tryz.prog 193 #[.int .u8 a] w fun e w'=>e=.returned (.bool (S.par a))∧w=w':=by
 go_enter Tryz.func193,Tryz.ntmps193
 go_wp2
 go_loop [3,4] (fun e i=>∃k:Nat,k≤8∧i=.int .i64 k∧e=.bool (S.parN a k)) (fun _ i=>8 - (intOf i).toNat)
 case atStart=>exact ⟨0,by omega,rfl,rfl⟩
 case round=>
  obtain ⟨k,hk,rfl,rfl⟩:=hrel
  by_cases hlt:k < 8
  ·have hs:S.parN a (k+1)=if a / 2 ^ k % 2=1 then !S.parN a k else S.parN a k:=rfl
   have ht:=S.bit_test a a0 a1 (2 ^ k) (by exact Int.pow_pos (by decide))
   by_cases hb:a / 2 ^ k % 2=1
   all_goals
    first|rw [if_pos hb] at hs|rw [if_neg hb] at hs
    first|rw [decide_eq_true hb] at ht|rw [decide_eq_false hb] at ht
    clear hb
    have hs':Hid _:=hs
    clear hs
    rcases (by omega:k=0∨k=1∨k=2∨k=3∨k=4∨k=5∨k=6∨k=7) with rfl|rfl|rfl|rfl|rfl|rfl|rfl|rfl
    all_goals
     simp only [Int.reducePow,Int.ediv_one] at ht
     go_wp2
     go_round
     case rel=>first|exact ⟨1,by omega,rfl,by rw [hs'.out]⟩|exact ⟨2,by omega,rfl,by rw [hs'.out]⟩|exact ⟨3,by omega,rfl,by rw [hs'.out]⟩|exact ⟨4,by omega,rfl,by rw [hs'.out]⟩|exact ⟨5,by omega,rfl,by rw [hs'.out]⟩|exact ⟨6,by omega,rfl,by rw [hs'.out]⟩|exact ⟨7,by omega,rfl,by rw [hs'.out]⟩|exact ⟨8,by omega,rfl,by rw [hs'.out]⟩
     case measure=>simp [intOf]
  ·have:k=8:=by omega
   subst this
   go_wp2
   go_ret
   exact ⟨rfl,rfl⟩
theorem rmajority_any {a b:Bool}:Calls Tryz.prog 191 #[.bool a,.bool b,.bool c] w fun e w'=>e=.returned (.bool (S.maj a b c))∧w=w':=by
 cases a<;>cases b<;>cases c
 all_goals
  go_enter Tryz.func191,Tryz.ntmps191
  go_wp2
  go_ret
  exact ⟨rfl,rfl⟩
theorem rjoin_any (a0:0≤a) (a1:a < 256) (b0:0≤b) (b1:b < 256) (w:World):Calls Tryz.prog 166 #[.int .u8 a,.int .u8 b] w fun e w'=>e=.returned (.int .u16 (S.joi a b))∧w=w':=by
 go_enter Tryz.func166,Tryz.ntmps166
 go_wp2
 go_ret
 exact ⟨rfl,rfl⟩
end
section
variable {a:Option Addr} {cap len:Nat} {v:Value} {w:World} {x:Addr} {zs:List Int}
def S.plc (z n:Int):Int:=z % 18446744073709551616 % n
theorem S.plc_bd (z n:Int) (n0:1≤n):0≤S.plc z n∧S.plc z n < n:=by
 unfold S.plc
 exact ⟨Int.emod_nonneg _ (by omega),Int.emod_lt_of_pos _ (by omega)⟩
theorem S.plc_eq (z n:Int) (n0:1≤n) (n1:n≤9223372036854775807):wrap64 ((IntKind.u64.wrap z).tmod n)=S.plc z n:=by
 have h0:IntKind.u64.wrap z=z % 18446744073709551616:=by simp [IntKind.wrap,IntKind.bits,IntKind.signed]
 obtain ⟨b0,b1⟩:=S.plc_bd z n n0
 rw [h0,Int.tmod_eq_emod_of_nonneg (by omega)]
 exact IntWalk.wrap64_in _ ⟨by unfold S.plc at b0;omega,by unfold S.plc at b1;omega⟩
theorem mplace_any (z n:Int) (n0:1≤n) (n1:n≤9223372036854775807) (w:World):Calls Tryz.prog 11 #[.int .i64 z,.int .i64 n] w fun e w'=>e=.returned (.int .i64 (S.plc z n))∧w=w':=by
 go_enter Tryz.func11,Tryz.ntmps11
 go_wp2
 go_ret
 exact ⟨ri (S.plc_eq z n n0 n1),rfl⟩
theorem from_any (a:Option Addr) (len cap:Nat) (w:World):Calls Tryz.prog 15 #[.slice a len cap] w fun e w'=>e=.returned (.pointer (some ⟨w.heap.size,0,none⟩))∧w'=w.alloc (.cells #[.slice a len cap,.int .i64 0] 81):=by
 go_enter Tryz.func15,Tryz.ntmps15
 go_wp2
 go_ret
 exact ⟨rfl,rfl⟩
theorem next_none (b len cap N:Nat) (a:Option Addr) (n:Int) (hN:len≤N) (hM:N≤1000000000) (w:World) (hB:b < w.heap.size) (h0:w.cell? ⟨b,0,none⟩=some (.slice a len cap)) (h1:w.cell? ⟨b,1,none⟩=some (.int .i64 (N:Int))) (hf:w.frozen? ⟨b,1,none⟩=false):
 Calls Tryz.prog 26 #[.pointer (some ⟨b,0,none⟩),.int .i64 n] w fun e w'=>e=.returned (.int .i64 0)∧∃p:By,w'=More (w.setCell ⟨b,1,none⟩ (.int .i64 ((N:Int)+1))) p.n p.os:=by
 go_enter Tryz.func26,Tryz.ntmps26
 go_wp2_with fail
 refine qt ?_
 repeat (go_big_quiet_step (fail))
 refine qn fun nq osq=> ?_
 go_wp2_with fail
 go_ret
 exact ⟨rfl,⟨nq,osq⟩,rfl⟩
theorem next_some (b bx ox len cap N:Nat) (z n:Int) (n0:1≤n) (n1:n≤65536) (hN:N < len) (hM:N≤1000000000) (hL:len≤9223372036854775807) (hlc:len≤cap) (w:World) (hB:b < w.heap.size) (hb:bx < b) (h0:w.cell? ⟨b,0,none⟩=some (.slice (some ⟨bx,ox,none⟩) len cap)) (h1:w.cell? ⟨b,1,none⟩=some (.int .i64 (N:Int))) (hf:w.frozen? ⟨b,1,none⟩=false) (hz:w.cell? ⟨bx,ox+N,none⟩=some (.int .i64 z)):
 Calls Tryz.prog 26 #[.pointer (some ⟨b,0,none⟩),.int .i64 n] w fun e w'=>e=.returned (.int .i64 (S.plc z n))∧∃p:By,w'=More (w.setCell ⟨b,1,none⟩ (.int .i64 ((N:Int)+1))) p.n p.os:=by
 have hs:IntKind.i64.wrap ((N:Int)+1 - 1)=N:=by rw [show (N:Int)+1 - 1=N by omega];exact IntWalk.i64_in _ (by omega)
 have p0:(0:Int)≤N:=by omega
 have p1:(N:Int) < len:=by omega
 have hne:bx≠b:=by omega
 have hbx:bx < w.heap.size:=by omega
 go_enter Tryz.func26,Tryz.ntmps26
 go_wp2_with fail
 refine qt ?_
 repeat (go_big_quiet_step (fail))
 refine qn fun nq osq=> ?_
 go_wp2_with fail
 refine qt ?_
 repeat (go_big_quiet_step (first|(go_at_call 11;exact calls_same (mplace_any _ _ n0 (by omega) _))))
 refine qn fun nq osq=> ?_
 go_wp2_with fail
 go_ret
 exact ⟨rfl,⟨_,_⟩,More_more ..⟩
def IsRow (k:IntKind) (w:World) (a:Option Addr) (len cap:Nat) (zs:List Int):Prop:=
 (a=none∧len=0∧cap=0∧zs=[])∨
 ∃x,a=some x∧len≤cap∧cap≤maxLen∧zs.length=cap∧(∀i,i < zs.length→w.cell? (x.add i)=some (.int k (zs.getD i 0)))∧∀n∈zs,(Lit.int k n).wf=true
theorem cell_lt (h:w.cell? x=some v):x.block < w.heap.size:=by
 unfold World.cell? at h
 rcases Nat.lt_or_ge x.block w.heap.size with h' |h'
 ·exact h'
 ·simp [Array.getElem?_eq_none h'] at h
theorem cell_spot (h:w.cell? x=some v):x.spot=none:=by
 unfold World.cell? at h
 split at h
 ·split at h
  ·cases h
  ·rename_i hs;simpa using hs
 ·cases h
theorem IsRow.alloc {k:IntKind} (h:IsRow k w a len cap zs) (o:Obj):IsRow k (w.alloc o) a len cap zs:=by
 rcases h with h|⟨x,h1,h2,h3,h4,h5,h6⟩
 ·exact .inl h
 ·exact .inr ⟨x,h1,h2,h3,h4,fun i hi=>by rw [World.cell?_alloc_lt w o _ (cell_lt (h5 i hi))];exact h5 i hi,h6⟩
theorem IsRow.drew {k:IntKind} (h:IsRow k w a len cap zs):IsRow k w.drew a len cap zs:=h
theorem IsRow.lt {k:IntKind} (h:IsRow k w a len cap zs) (hl:0 < len):∃x,a=some x∧x.block < w.heap.size:=by
 rcases h with ⟨_,h,_,_⟩|⟨x,rfl,h2,h3,h4,h5,h6⟩
 ·omega
 ·exact ⟨x,rfl,cell_lt (h5 0 (by omega))⟩
theorem drew_alloc (w:World) (o:Obj):(w.alloc o).drew=w.drew.alloc o:=rfl
def S.chip (len:Nat) (zs:List Int):Int:=if 0 < len then 1+S.plc (zs.getD 0 0) 2 else 1
theorem chip_at (a:Option Addr) (len cap:Nat) (zs:List Int) (b:Nat) (w:World) (hB:b < w.heap.size) (h0:w.cell? ⟨b,0,none⟩=some (.slice a len cap)) (h1:w.cell? ⟨b,1,none⟩=some (.int .i64 0)) (hf:w.frozen? ⟨b,1,none⟩=false) (hx:0 < len→∃x,a=some x∧x.block < b) (hr:IsRow .i64 w a len cap zs):
 Calls Tryz.prog 24 #[.pointer (some ⟨b,0,none⟩)] w fun e w'=>e=.returned (.int .i64 (S.chip len zs))∧∃p:By,w'=More (w.setCell ⟨b,1,none⟩ (.int .i64 1)) p.n p.os:=by
 by_cases hl:0 < len
 ·have hc:S.chip len zs=1+S.plc (zs.getD 0 0) 2:=by simp [S.chip,hl]
  obtain ⟨x',hx1,hx2⟩:=hx hl
  rcases hr with ⟨_,h,_,_⟩|⟨x,rfl,h2,h3,h4,h5,h6⟩
  ·omega
  ·obtain rfl:=Option.some.inj hx1
   have h50:=h5 0 (by omega)
   simp only [Addr.add,if_pos] at h50
   obtain ⟨bx,ox,sp⟩:=x
   obtain rfl:sp=none:=cell_spot h50
   have hbd:=S.plc_bd (zs.getD 0 0) 2 (by omega)
   unfold maxLen at h3
   clear h5 h6 h4 hx hx1
   generalize zs.getD 0 0=z at hc h50 hbd
   go_enter Tryz.func24,Tryz.ntmps24
   go_wp2_with (go_at_call 26;refine ae (next_some b bx ox len cap 0 z 2 (by omega) (by omega) hl (by omega) (by omega) h2 _ hB hx2 h0 h1 hf h50) fun n1 os1=> ?_)
   go_ret
   exact ⟨ri hc.symm,⟨n1,os1⟩,rfl⟩
 ·have hc:S.chip len zs=1:=by simp [S.chip,hl]
  clear hx hr
  go_enter Tryz.func24,Tryz.ntmps24
  go_wp2_with (go_at_call 26;refine ae (next_none b len cap 0 a 2 (by omega) (by omega) _ hB h0 h1 hf) fun n1 os1=> ?_)
  go_ret
  exact ⟨ri hc.symm,⟨n1,os1⟩,rfl⟩
theorem chip_from (a:Option Addr) (len cap:Nat) (zs:List Int) (b:Nat) (w:World) (hb:b=w.heap.size) (hr:IsRow .i64 w a len cap zs):
 Calls Tryz.prog 24 #[.pointer (some ⟨b,0,none⟩)] (w.alloc (.cells #[.slice a len cap,.int .i64 0] 81)) fun e w'=>e=.returned (.int .i64 (S.chip len zs))∧Adds w w':=by
 subst hb
 by_cases hl:0 < len
 ·have hc:S.chip len zs=1+S.plc (zs.getD 0 0) 2:=by simp [S.chip,hl]
  rcases hr with ⟨_,h,_,_⟩|⟨x,rfl,h2,h3,h4,h5,h6⟩
  ·omega
  ·have h50:=h5 0 (by omega)
   simp only [Addr.add,if_pos] at h50
   obtain ⟨bx,ox,sp⟩:=x
   obtain rfl:sp=none:=cell_spot h50
   have hlt:bx < w.heap.size:=cell_lt h50
   have hbd:=S.plc_bd (zs.getD 0 0) 2 (by omega)
   unfold maxLen at h3
   clear h5 h6 h4
   generalize zs.getD 0 0=z at hc h50 hbd
   go_enter Tryz.func24,Tryz.ntmps24
   go_wp2_with (go_at_call 26;refine ae (next_some _ bx ox len cap 0 z 2 (by omega) (by omega) hl (by omega) (by omega) h2 _ (by simp [go_sem]) hlt (by simp [go_sem]) (by simp [go_sem]) (by simp [go_sem]) (by simpa [go_sem,hlt] using h50)) fun n1 os1=> ?_)
   go_ret
   exact ⟨ri hc.symm,aD⟩
 ·have hc:S.chip len zs=1:=by simp [S.chip,hl]
  go_enter Tryz.func24,Tryz.ntmps24
  go_wp2_with (go_at_call 26;refine ae (next_none _ len cap 0 a 2 (by omega) (by omega) _ (by simp [go_sem]) (by simp [go_sem]) (by simp [go_sem]) (by simp [go_sem])) fun n1 os1=> ?_)
  go_ret
  exact ⟨ri hc.symm,aD⟩
end
section
def rowOf (w:World) (b:Nat):Array Value:=match w.heap[b]? with
 |some (.cells c _ (0,0))=>c
 |_=>#[]
theorem rowOf_some {w:World} {b:Nat} (h:0 < (rowOf w b).size):∃t,w.heap[b]? =some (.cells (rowOf w b) t (0,0)):=by
 unfold rowOf at h⊢
 split at h
 ·rename_i c t hh
  rw [hh]
  exact ⟨t,rfl⟩
 ·simp at h
theorem rowOf_cell {w:World} {b:Nat} {cs:Array Value} (h:rowOf w b=cs) {i:Nat} {v:Value} (hv:cs[i]? =some v):w.cell? ⟨b,i,none⟩=some v:=by
 subst h
 have hpos:0 < (rowOf w b).size:=by have:=(Array.getElem?_eq_some_iff.1 hv).1;omega
 obtain ⟨t,ht⟩:=rowOf_some hpos
 rw [cell_of_row w b i _ t (0,0) ht];exact hv
theorem rowOf_eq {w w':World} {b b':Nat} (h:w.heap[b]? =w'.heap[b']?):rowOf w b=rowOf w' b':=by unfold rowOf;rw [h]
theorem heap_last (w:World) (o:Obj):(w.alloc o).heap[w.heap.size]? =some o:=by
 show (w.heap.push o)[w.heap.size]? =some o
 simp
theorem heap_past (w:World) (o:Obj) {b:Nat} (h:b < w.heap.size):(w.alloc o).heap[b]? =w.heap[b]? :=by
 show (w.heap.push o)[b]? =w.heap[b]?
 rw [Array.getElem?_push,if_neg (by omega)]
@[go_sem] theorem rowOf_last (w:World) (b:Nat) (cs:Array Value) (t:TypeId) (h:b=w.heap.size):rowOf (w.alloc (.cells cs t)) b=cs:=by
 subst h;unfold rowOf;rw [heap_last];rfl
@[go_sem] theorem rowOf_past (w:World) (b:Nat) (o:Obj) (h:InB b w):rowOf (w.alloc o) b=rowOf w b:=rowOf_eq (heap_past w o h)
@[go_sem] theorem rowOf_More (w:World) (n:Nat) (os:Array Obj) (b:Nat) (h:InB b w):rowOf (More w n os) b=rowOf w b:=rowOf_eq (More_heap w n os h)
@[go_sem] theorem rowOf_drew (w:World) (b:Nat):rowOf w.drew b=rowOf w b:=rowOf_eq rfl
@[go_sem] theorem rowOf_drewN (w:World) (n b:Nat):rowOf (w.drewN n) b=rowOf w b:=rowOf_eq rfl
@[go_sem] theorem setRow_last (w:World) (b:Nat) (cs old:Array Value) (t:TypeId) (h:b=w.heap.size):(w.alloc (.cells old t)).setRow b cs=w.alloc (.cells cs t):=by
 subst h
 simp only [World.setRow,World.alloc]
 congr 1
 apply Array.ext_getElem?
 intro i
 rw [Array.getElem?_modify]
 by_cases h:w.heap.size=i
 ·subst h;simp
 ·have h':¬i=w.heap.size:=fun e=>h e.symm
  simp [h,h',Array.getElem?_push]
@[go_sem] theorem setRow_past (w:World) (b:Nat) (cs:Array Value) (o:Obj) (h:InB b w):(w.alloc o).setRow b cs=(w.setRow b cs).alloc o:=by
 simp only [World.setRow,World.alloc]
 congr 1
 apply Array.ext_getElem?
 intro i
 have hb:b < w.heap.size:=h
 simp only [Array.getElem?_modify,Array.getElem?_push,Array.size_modify]
 by_cases h1:i=w.heap.size
 ·simp [h1];omega
 ·simp [h1]
@[go_sem] theorem setRow_More (w:World) (n:Nat) (os:Array Obj) (b:Nat) (cs:Array Value) (h:InB b w):(More w n os).setRow b cs=More (w.setRow b cs) n os:=by
 unfold More World.setRow
 simp only []
 rw [modify_left _ _ _ _ h]
@[go_sem] theorem setRow_drew (w:World) (b:Nat) (cs:Array Value):w.drew.setRow b cs=(w.setRow b cs).drew:=rfl
@[go_sem] theorem setRow_drewN (w:World) (n b:Nat) (cs:Array Value):(w.drewN n).setRow b cs=(w.setRow b cs).drewN n:=rfl
def wholeVar (t:TypeId) (a:Addr):Sem Value:=loadVar t a
def wholeSet (t:TypeId) (a:Addr) (v:Value):Sem Unit:=storeVar t a v
@[go_sem] def part8 (o n:Nat) (cs:Array Value):Array Value:=((cs.toList.drop o).take n).toArray
@[go_sem] def put8 (o:Nat) (new cs:Array Value):Array Value:=(cs.toList.take o++new.toList++cs.toList.drop (o+new.toList.length)).toArray
@[go_sem] def ones (vs:List Value):Bool:=vs.all (·.oneCell')
@[go_sem] theorem one_int (k:IntKind) (n:Int):(Value.int k n).oneCell'=true:=rfl
@[go_sem] theorem one_bool (b:Bool):(Value.bool b).oneCell'=true:=rfl
@[go_sem] theorem one_slice (a:Option Addr) (n c:Nat):(Value.slice a n c).oneCell'=true:=rfl
@[go_sem] theorem one_pointer (a:Option Addr):(Value.pointer a).oneCell'=true:=rfl
section
variable {P:Program}
theorem run_part {t:TypeId} {n:Nat} {fs:Array Field} (hu:P.underlying t=some (.struct fs)) (hi:(P.info? t).map (·.size)=some n) (hn:0 < n) (w:World) (b o:Nat) (h:o+n≤(rowOf w b).size):
 (wholeVar t ⟨b,o,none⟩).run P w=.ok (.agg (part8 o n (rowOf w b))) w:=by
 obtain ⟨t',hg⟩:=rowOf_some (w:=w) (b:=b) (by omega)
 have hl:(loadCells ⟨b,o,none⟩ (((rowOf w b).toList.drop o).take n).length).run P w=.ok (((rowOf w b).toList.drop o).take n).toArray w:=
  run_loadCells_list (P:=P) w ⟨b,o,none⟩ _ (fun j v hv=>by
   have hadd:(⟨b,o,none⟩:Addr).add j=⟨b,o+j,none⟩:=by unfold Addr.add;split<;>simp_all
   rw [hadd,cell_of_row w b (o+j) _ t' (0,0) hg]
   rw [List.getElem?_take] at hv
   split at hv
   ·simpa [List.getElem?_drop] using hv
   ·cases hv)
 have hlen:(((rowOf w b).toList.drop o).take n).length=n:=by simp;omega
 rw [hlen] at hl
 cases hq:P.info? t with
 |none=>simp [hq] at hi
 |some i=>
  have hs:i.size=n:=by simpa [hq] using hi
  have hagg:(isAgg t).run P w=.ok true w:=by
   unfold isAgg
   rw [Sem.run_bind,run_underlying hu w]
   rfl
  simp [wholeVar,part8,loadVar,Sem.run_bind,hagg,sizeOf,typeInfo,hq,hs,hl]
theorem run_all {t:TypeId} {n:Nat} {fs:Array Field} (hu:P.underlying t=some (.struct fs)) (hi:(P.info? t).map (·.size)=some n) (hn:0 < n) (w:World) (b:Nat) (h:(rowOf w b).size=n):
 (wholeVar t ⟨b,0,none⟩).run P w=.ok (.agg (rowOf w b)) w:=by
 rw [run_part hu hi hn w b 0 (by omega)]
 have:part8 0 n (rowOf w b)=rowOf w b:=by
  unfold part8
  rw [List.drop_zero,List.take_of_length_le (by simp;omega)]
 rw [this]
theorem set_part {t:TypeId} {n:Nat} (hi:(P.info? t).map (·.size)=some n) (w:World) (b o:Nat) (cs:Array Value) (hc:cs.size=n) (hn:0 < n) (h:o+n≤(rowOf w b).size) (h1:ones cs.toList=true):
 (wholeSet t ⟨b,o,none⟩ (.agg cs)).run P w=.ok () (w.setRow b (put8 o cs (rowOf w b))):=by
 obtain ⟨t',hg⟩:=rowOf_some (w:=w) (b:=b) (by omega)
 have:=run_storeCells_at P b o t' cs.toList 0 (rowOf w b) w hg (by simp;omega) (fun v hv=>(List.all_eq_true.1 h1) v hv)
 cases hq:P.info? t with
 |none=>simp [hq] at hi
 |some i=>
  have hs:cs.size=i.size:=by simp [hq] at hi;omega
  simp only [Nat.add_zero] at this
  simp [wholeSet,put8,storeVar,sizeOf,typeInfo,hq,Value.cells,hs,this]
theorem set_all {t:TypeId} {n:Nat} (hi:(P.info? t).map (·.size)=some n) (w:World) (b:Nat) (cs:Array Value) (hc:cs.size=n) (hn:0 < n) (h:(rowOf w b).size=n) (h1:ones cs.toList=true):
 (wholeSet t ⟨b,0,none⟩ (.agg cs)).run P w=.ok () (w.setRow b cs):=by
 rw [set_part hi w b 0 cs hc hn (by omega) h1]
 have:put8 0 cs (rowOf w b)=cs:=by
  unfold put8
  rw [List.take_zero,List.drop_of_length_le (by simp;omega)]
  simp
 rw [this]
theorem ret_all {fn:Func} {p:Tmp} {t:TypeId} {n:Nat} {fs:Array Field} (hf:fn.results=#[.cell p t]) (hu:P.underlying t=some (.struct fs)) (hi:(P.info? t).map (·.size)=some n) (hn:0 < n) (tmps:Array Value) (w:World) (b:Nat) (cs:Array Value)
 (hp:tmps.getD p undef=.pointer (some ⟨b,0,none⟩)) (hr:rowOf w b=cs) (hs:cs.size=n):(results fn tmps).run P w=.ok (.agg cs) w:=by
 subst hr
 obtain ⟨t',hg⟩:=rowOf_some (w:=w) (b:=b) (by omega)
 exact results_cell_row hf tmps w b t' _ (0,0) _ hp hg hu rfl (by rw [hi,hs])
theorem ret2_all {fn:Func} {p0 p:Tmp} {t:TypeId} {n:Nat} {fs:Array Field} (hf:fn.results=#[.tmp p0,.cell p t]) (hu:P.underlying t=some (.struct fs)) (hi:(P.info? t).map (·.size)=some n) (hn:0 < n) (tmps:Array Value) (w:World) (b:Nat) (cs:Array Value) (v0:Value)
 (h0:tmps.getD p0 undef=v0) (hp:tmps.getD p undef=.pointer (some ⟨b,0,none⟩)) (hr:rowOf w b=cs) (hs:cs.size=n):(results fn tmps).run P w=.ok (.tuple #[v0,.agg cs]) w:=by
 subst hr
 have hl:(loadVar t ⟨b,0,none⟩).run P w=.ok (.agg (rowOf w b)) w:=run_all hu hi hn w b hs
 have hp':tmps[p]?.getD undef=.pointer (some ⟨b,0,none⟩):=by simpa using hp
 have h0':tmps[p0]?.getD undef=v0:=by simpa using h0
 simp [results,hf,hp',h0',asAddr,hl]
theorem ret3_all {fn:Func} {p0 p:Tmp} {t:TypeId} {n:Nat} {fs:Array Field} (hf:fn.results=#[.cell p t,.tmp p0]) (hu:P.underlying t=some (.struct fs)) (hi:(P.info? t).map (·.size)=some n) (hn:0 < n) (tmps:Array Value) (w:World) (b:Nat) (cs:Array Value) (v0:Value)
 (h0:tmps.getD p0 undef=v0) (hp:tmps.getD p undef=.pointer (some ⟨b,0,none⟩)) (hr:rowOf w b=cs) (hs:cs.size=n):(results fn tmps).run P w=.ok (.tuple #[.agg cs,v0]) w:=by
 subst hr
 have hl:(loadVar t ⟨b,0,none⟩).run P w=.ok (.agg (rowOf w b)) w:=run_all hu hi hn w b hs
 have hp':tmps[p]?.getD undef=.pointer (some ⟨b,0,none⟩):=by simpa using hp
 have h0':tmps[p0]?.getD undef=v0:=by simpa using h0
 simp [results,hf,hp',h0',asAddr,hl]
end
theorem ret_Flags {fn:Func} {p:Tmp} (hf:fn.results=#[.cell p 52]) {tmps:Array Value} {w:World} {b:Nat} {cs:Array Value} (hp:tmps.getD p undef=.pointer (some ⟨b,0,none⟩)) (hr:rowOf w b=cs) (hs:cs.size=7):(results fn tmps).run Tryz.prog w=.ok (.agg cs) w:=
 ret_all hf Tryz.underlying52 (by kernel_rfl) (by decide) tmps w b cs hp hr hs
@[go_sem ↓] theorem load_Flags (a:Addr):loadVar 52 a=wholeVar 52 a:=by unfold wholeVar;rfl
@[go_sem ↓] theorem store_Flags (a:Addr) (v:Value):storeVar 52 a v=wholeSet 52 a v:=by unfold wholeSet;rfl
@[go_sem] theorem run_load_Flags (w:World) (b o:Nat) (h:o+7≤(rowOf w b).size):(wholeVar 52 ⟨b,o,none⟩).run Tryz.prog w=.ok (.agg (part8 o 7 (rowOf w b))) w:=
 run_part Tryz.underlying52 (by kernel_rfl) (by decide) w b o h
@[go_sem] theorem run_store_Flags (w:World) (b o:Nat) (cs:Array Value) (hc:cs.size=7) (h:o+7≤(rowOf w b).size) (h1:ones cs.toList=true):(wholeSet 52 ⟨b,o,none⟩ (.agg cs)).run Tryz.prog w=.ok () (w.setRow b (put8 o cs (rowOf w b))):=
 set_part (by kernel_rfl) w b o cs hc (by decide) h h1
theorem ret_Regs {fn:Func} {p:Tmp} (hf:fn.results=#[.cell p 54]) {tmps:Array Value} {w:World} {b:Nat} {cs:Array Value} (hp:tmps.getD p undef=.pointer (some ⟨b,0,none⟩)) (hr:rowOf w b=cs) (hs:cs.size=16):(results fn tmps).run Tryz.prog w=.ok (.agg cs) w:=
 ret_all hf Tryz.underlying54 (by kernel_rfl) (by decide) tmps w b cs hp hr hs
@[go_sem ↓] theorem load_Regs (a:Addr):loadVar 54 a=wholeVar 54 a:=by unfold wholeVar;rfl
@[go_sem ↓] theorem store_Regs (a:Addr) (v:Value):storeVar 54 a v=wholeSet 54 a v:=by unfold wholeSet;rfl
@[go_sem] theorem run_load_Regs (w:World) (b:Nat) (h:(rowOf w b).size=16):(wholeVar 54 ⟨b,0,none⟩).run Tryz.prog w=.ok (.agg (rowOf w b)) w:=
 run_all Tryz.underlying54 (by kernel_rfl) (by decide) w b h
@[go_sem] theorem run_store_Regs (w:World) (b:Nat) (cs:Array Value) (hc:cs.size=16) (h:(rowOf w b).size=16) (h1:ones cs.toList=true):(wholeSet 54 ⟨b,0,none⟩ (.agg cs)).run Tryz.prog w=.ok () (w.setRow b cs):=
 set_all (by kernel_rfl) w b cs hc (by decide) h h1
@[go_sem] theorem eq_Regs (rA rB rC rD rE rH rL:Int) (rS rZ rK rAC rP rV rCY:Bool) (rSP rPC:Int) (qA qB qC qD qE qH qL:Int) (qS qZ qK qAC qP qV qCY:Bool) (qSP qPC:Int) (w:World):(Op.equalIn 10000 54 (.agg #[.int .u8 rA,.int .u8 rB,.int .u8 rC,.int .u8 rD,.int .u8 rE,.int .u8 rH,.int .u8 rL,.bool rS,.bool rZ,.bool rK,.bool rAC,.bool rP,.bool rV,.bool rCY,.int .u16 rSP,.int .u16 rPC]) (.agg #[.int .u8 qA,.int .u8 qB,.int .u8 qC,.int .u8 qD,.int .u8 qE,.int .u8 qH,.int .u8 qL,.bool qS,.bool qZ,.bool qK,.bool qAC,.bool qP,.bool qV,.bool qCY,.int .u16 qSP,.int .u16 qPC])).run Tryz.prog w=
 .ok (same [.int .u8 rA,.int .u8 rB,.int .u8 rC,.int .u8 rD,.int .u8 rE,.int .u8 rH,.int .u8 rL,.bool rS,.bool rZ,.bool rK,.bool rAC,.bool rP,.bool rV,.bool rCY,.int .u16 rSP,.int .u16 rPC] [.int .u8 qA,.int .u8 qB,.int .u8 qC,.int .u8 qD,.int .u8 qE,.int .u8 qH,.int .u8 qL,.bool qS,.bool qZ,.bool qK,.bool qAC,.bool qP,.bool qV,.bool qCY,.int .u16 qSP,.int .u16 qPC]) w:=
 eq_agg 6 [.int .u8,.int .u8,.int .u8,.int .u8,.int .u8,.int .u8,.int .u8,.bool,.bool,.bool,.bool,.bool,.bool,.bool,.int .u16,.int .u16] _ Tryz.underlying54 (by kernel_rfl) (by decide) _ _ w (by simp [shaped]) (by simp [shaped])
theorem ret_CPU {fn:Func} {p:Tmp} (hf:fn.results=#[.cell p 56]) {tmps:Array Value} {w:World} {b:Nat} {cs:Array Value} (hp:tmps.getD p undef=.pointer (some ⟨b,0,none⟩)) (hr:rowOf w b=cs) (hs:cs.size=28):(results fn tmps).run Tryz.prog w=.ok (.agg cs) w:=
 ret_all hf Tryz.underlying56 (by kernel_rfl) (by decide) tmps w b cs hp hr hs
theorem ret2_CPU {fn:Func} {p0 p:Tmp} (hf:fn.results=#[.tmp p0,.cell p 56]) {tmps:Array Value} {w:World} {b:Nat} {cs:Array Value} {v0:Value} (h0:tmps.getD p0 undef=v0) (hp:tmps.getD p undef=.pointer (some ⟨b,0,none⟩)) (hr:rowOf w b=cs) (hs:cs.size=28):(results fn tmps).run Tryz.prog w=.ok (.tuple #[v0,.agg cs]) w:=
 ret2_all hf Tryz.underlying56 (by kernel_rfl) (by decide) tmps w b cs v0 h0 hp hr hs
@[go_sem ↓] theorem load_CPU (a:Addr):loadVar 56 a=wholeVar 56 a:=by unfold wholeVar;rfl
@[go_sem ↓] theorem store_CPU (a:Addr) (v:Value):storeVar 56 a v=wholeSet 56 a v:=by unfold wholeSet;rfl
@[go_sem] theorem run_load_CPU (w:World) (b:Nat) (h:(rowOf w b).size=28):(wholeVar 56 ⟨b,0,none⟩).run Tryz.prog w=.ok (.agg (rowOf w b)) w:=
 run_all Tryz.underlying56 (by kernel_rfl) (by decide) w b h
@[go_sem] theorem run_store_CPU (w:World) (b:Nat) (cs:Array Value) (hc:cs.size=28) (h:(rowOf w b).size=28) (h1:ones cs.toList=true):(wholeSet 56 ⟨b,0,none⟩ (.agg cs)).run Tryz.prog w=.ok () (w.setRow b cs):=
 set_all (by kernel_rfl) w b cs hc (by decide) h h1
@[go_sem] theorem eq_CPU (rCh rA rB rC rD rE rH rL:Int) (rfS rfZ rfK rfAC rfP rfV rfCY:Bool) (rSP rPC:Int) (rIE rDe rHa:Bool) (rMa:Int) (rTr rR7 rWT rW7 rSa rSI rSO:Bool) (qCh qA qB qC qD qE qH qL:Int) (qfS qfZ qfK qfAC qfP qfV qfCY:Bool) (qSP qPC:Int) (qIE qDe qHa:Bool) (qMa:Int) (qTr qR7 qWT qW7 qSa qSI qSO:Bool) (w:World):(Op.equalIn 10000 56 (.agg #[.int .i64 rCh,.int .u8 rA,.int .u8 rB,.int .u8 rC,.int .u8 rD,.int .u8 rE,.int .u8 rH,.int .u8 rL,.bool rfS,.bool rfZ,.bool rfK,.bool rfAC,.bool rfP,.bool rfV,.bool rfCY,.int .u16 rSP,.int .u16 rPC,.bool rIE,.bool rDe,.bool rHa,.int .u8 rMa,.bool rTr,.bool rR7,.bool rWT,.bool rW7,.bool rSa,.bool rSI,.bool rSO]) (.agg #[.int .i64 qCh,.int .u8 qA,.int .u8 qB,.int .u8 qC,.int .u8 qD,.int .u8 qE,.int .u8 qH,.int .u8 qL,.bool qfS,.bool qfZ,.bool qfK,.bool qfAC,.bool qfP,.bool qfV,.bool qfCY,.int .u16 qSP,.int .u16 qPC,.bool qIE,.bool qDe,.bool qHa,.int .u8 qMa,.bool qTr,.bool qR7,.bool qWT,.bool qW7,.bool qSa,.bool qSI,.bool qSO])).run Tryz.prog w=.ok (same [.int .i64 rCh,.int .u8 rA,.int .u8 rB,.int .u8 rC,.int .u8 rD,.int .u8 rE,.int .u8 rH,.int .u8 rL,.bool rfS,.bool rfZ,.bool rfK,.bool rfAC,.bool rfP,.bool rfV,.bool rfCY,.int .u16 rSP,.int .u16 rPC,.bool rIE,.bool rDe,.bool rHa,.int .u8 rMa,.bool rTr,.bool rR7,.bool rWT,.bool rW7,.bool rSa,.bool rSI,.bool rSO] [.int .i64 qCh,.int .u8 qA,.int .u8 qB,.int .u8 qC,.int .u8 qD,.int .u8 qE,.int .u8 qH,.int .u8 qL,.bool qfS,.bool qfZ,.bool qfK,.bool qfAC,.bool qfP,.bool qfV,.bool qfCY,.int .u16 qSP,.int .u16 qPC,.bool qIE,.bool qDe,.bool qHa,.int .u8 qMa,.bool qTr,.bool qR7,.bool qWT,.bool qW7,.bool qSa,.bool qSI,.bool qSO]) w:=
 eq_agg 6 [.int .i64,.int .u8,.int .u8,.int .u8,.int .u8,.int .u8,.int .u8,.int .u8,.bool,.bool,.bool,.bool,.bool,.bool,.bool,.int .u16,.int .u16,.bool,.bool,.bool,.int .u8,.bool,.bool,.bool,.bool,.bool,.bool,.bool] _ Tryz.underlying56 (by kernel_rfl) (by decide) _ _ w (by simp [shaped]) (by simp [shaped])
@[go_sem] theorem run_load_Regs_in (w:World) (b:Nat) (h:(rowOf w b).size=28):(wholeVar 54 ⟨b,1,none⟩).run Tryz.prog w=.ok (.agg (part8 1 16 (rowOf w b))) w:=
 run_part Tryz.underlying54 (by kernel_rfl) (by decide) w b 1 (by omega)
@[go_sem] theorem run_store_Regs_in (w:World) (b:Nat) (cs:Array Value) (hc:cs.size=16) (h:(rowOf w b).size=28) (h1:ones cs.toList=true):(wholeSet 54 ⟨b,1,none⟩ (.agg cs)).run Tryz.prog w=.ok () (w.setRow b (put8 1 cs (rowOf w b))):=
 set_part (by kernel_rfl) w b 1 cs hc (by decide) (by omega) h1
theorem ret_Lines {fn:Func} {p:Tmp} (hf:fn.results=#[.cell p 95]) {tmps:Array Value} {w:World} {b:Nat} {cs:Array Value} (hp:tmps.getD p undef=.pointer (some ⟨b,0,none⟩)) (hr:rowOf w b=cs) (hs:cs.size=9):(results fn tmps).run Tryz.prog w=.ok (.agg cs) w:=
 ret_all hf Tryz.underlying95 (by kernel_rfl) (by decide) tmps w b cs hp hr hs
@[go_sem ↓] theorem load_Lines (a:Addr):loadVar 95 a=wholeVar 95 a:=by unfold wholeVar;rfl
@[go_sem ↓] theorem store_Lines (a:Addr) (v:Value):storeVar 95 a v=wholeSet 95 a v:=by unfold wholeSet;rfl
@[go_sem] theorem run_load_Lines (w:World) (b:Nat) (h:(rowOf w b).size=9):(wholeVar 95 ⟨b,0,none⟩).run Tryz.prog w=.ok (.agg (rowOf w b)) w:=
 run_all Tryz.underlying95 (by kernel_rfl) (by decide) w b h
@[go_sem] theorem run_store_Lines (w:World) (b:Nat) (cs:Array Value) (hc:cs.size=9) (h:(rowOf w b).size=9) (h1:ones cs.toList=true):(wholeSet 95 ⟨b,0,none⟩ (.agg cs)).run Tryz.prog w=.ok () (w.setRow b cs):=
 set_all (by kernel_rfl) w b cs hc (by decide) h h1
theorem ret_PIC {fn:Func} {p:Tmp} (hf:fn.results=#[.cell p 62]) {tmps:Array Value} {w:World} {b:Nat} {cs:Array Value} (hp:tmps.getD p undef=.pointer (some ⟨b,0,none⟩)) (hr:rowOf w b=cs) (hs:cs.size=20):(results fn tmps).run Tryz.prog w=.ok (.agg cs) w:=
 ret_all hf Tryz.underlying62 (by kernel_rfl) (by decide) tmps w b cs hp hr hs
theorem ret3_PIC {fn:Func} {p0 p:Tmp} (hf:fn.results=#[.cell p 62,.tmp p0]) {tmps:Array Value} {w:World} {b:Nat} {cs:Array Value} {v0:Value} (h0:tmps.getD p0 undef=v0) (hp:tmps.getD p undef=.pointer (some ⟨b,0,none⟩)) (hr:rowOf w b=cs) (hs:cs.size=20):(results fn tmps).run Tryz.prog w=.ok (.tuple #[.agg cs,v0]) w:=
 ret3_all hf Tryz.underlying62 (by kernel_rfl) (by decide) tmps w b cs v0 h0 hp hr hs
@[go_sem ↓] theorem load_PIC (a:Addr):loadVar 62 a=wholeVar 62 a:=by unfold wholeVar;rfl
@[go_sem ↓] theorem store_PIC (a:Addr) (v:Value):storeVar 62 a v=wholeSet 62 a v:=by unfold wholeSet;rfl
@[go_sem] theorem run_load_PIC (w:World) (b:Nat) (h:(rowOf w b).size=20):(wholeVar 62 ⟨b,0,none⟩).run Tryz.prog w=.ok (.agg (rowOf w b)) w:=
 run_all Tryz.underlying62 (by kernel_rfl) (by decide) w b h
@[go_sem] theorem run_store_PIC (w:World) (b:Nat) (cs:Array Value) (hc:cs.size=20) (h:(rowOf w b).size=20) (h1:ones cs.toList=true):(wholeSet 62 ⟨b,0,none⟩ (.agg cs)).run Tryz.prog w=.ok () (w.setRow b cs):=
 set_all (by kernel_rfl) w b cs hc (by decide) h h1
@[go_sem] theorem eq_PIC (rSt:Int) (rLe rFo rSi rFt:Bool) (rLw rHg:Int) (rAu rRo rSp rRI rPo:Bool) (rLi rEd rIS rIM rLo rSq rSv:Int) (rSu:Bool) (qSt:Int) (qLe qFo qSi qFt:Bool) (qLw qHg:Int) (qAu qRo qSp qRI qPo:Bool) (qLi qEd qIS qIM qLo qSq qSv:Int) (qSu:Bool) (w:World):(Op.equalIn 10000 62 (.agg #[.int .i64 rSt,.bool rLe,.bool rFo,.bool rSi,.bool rFt,.int .u8 rLw,.int .u8 rHg,.bool rAu,.bool rRo,.bool rSp,.bool rRI,.bool rPo,.int .u8 rLi,.int .u8 rEd,.int .u8 rIS,.int .u8 rIM,.int .i64 rLo,.int .i64 rSq,.int .i64 rSv,.bool rSu]) (.agg #[.int .i64 qSt,.bool qLe,.bool qFo,.bool qSi,.bool qFt,.int .u8 qLw,.int .u8 qHg,.bool qAu,.bool qRo,.bool qSp,.bool qRI,.bool qPo,.int .u8 qLi,.int .u8 qEd,.int .u8 qIS,.int .u8 qIM,.int .i64 qLo,.int .i64 qSq,.int .i64 qSv,.bool qSu])).run Tryz.prog w=.ok (same [.int .i64 rSt,.bool rLe,.bool rFo,.bool rSi,.bool rFt,.int .u8 rLw,.int .u8 rHg,.bool rAu,.bool rRo,.bool rSp,.bool rRI,.bool rPo,.int .u8 rLi,.int .u8 rEd,.int .u8 rIS,.int .u8 rIM,.int .i64 rLo,.int .i64 rSq,.int .i64 rSv,.bool rSu] [.int .i64 qSt,.bool qLe,.bool qFo,.bool qSi,.bool qFt,.int .u8 qLw,.int .u8 qHg,.bool qAu,.bool qRo,.bool qSp,.bool qRI,.bool qPo,.int .u8 qLi,.int .u8 qEd,.int .u8 qIS,.int .u8 qIM,.int .i64 qLo,.int .i64 qSq,.int .i64 qSv,.bool qSu]) w:=
 eq_agg 6 [.int .i64,.bool,.bool,.bool,.bool,.int .u8,.int .u8,.bool,.bool,.bool,.bool,.bool,.int .u8,.int .u8,.int .u8,.int .u8,.int .i64,.int .i64,.int .i64,.bool] _ Tryz.underlying62 (by kernel_rfl) (by decide) _ _ w (by simp [shaped]) (by simp [shaped])
theorem whole_cells {P:Program} {t:TypeId} {n:Nat} {d:TypeDesc} (hu:P.underlying t=some d) (hd:(match d with| .struct _| .array _ _=>true|_=>false)=true) (hi:(P.info? t).map (·.size)=some n) (w:World) (b o:Nat) (vs:Array Value) (hv:vs.size=n)
 (hc:∀j v,vs[j]? =some v→w.cell? ⟨b,o+j,none⟩=some v):(wholeVar t ⟨b,o,none⟩).run P w=.ok (.agg vs) w:=by
 have hl:(loadCells ⟨b,o,none⟩ vs.toList.length).run P w=.ok vs.toList.toArray w:=
  run_loadCells_list (P:=P) w ⟨b,o,none⟩ _ (fun j v h=>by
   have hadd:(⟨b,o,none⟩:Addr).add j=⟨b,o+j,none⟩:=by unfold Addr.add;split<;>simp_all
   rw [hadd]
   exact hc j v (by simpa using h))
 have hlen:vs.toList.length=n:=by simpa using hv
 rw [hlen] at hl
 cases hq:P.info? t with
 |none=>simp [hq] at hi
 |some i=>
  have hs:i.size=n:=by simpa [hq] using hi
  have hagg:(isAgg t).run P w=.ok true w:=by
   unfold isAgg
   rw [Sem.run_bind,run_underlying hu w]
   cases d<;>first|rfl|(simp at hd)
  simp [wholeVar,loadVar,Sem.run_bind,hagg,sizeOf,typeInfo,hq,hs,hl]
theorem run_arr {P:Program} {t e:TypeId} {n k:Nat} (hu:P.underlying t=some (.array k e)) (hi:(P.info? t).map (·.size)=some n) (hn:0 < n) (w:World) (b:Nat) (h:(rowOf w b).size=n):(wholeVar t ⟨b,0,none⟩).run P w=.ok (.agg (rowOf w b)) w:=by
 obtain ⟨t',hg⟩:=rowOf_some (w:=w) (b:=b) (by omega)
 exact whole_cells hu rfl hi w b 0 _ h fun j v hj=>by rw [Nat.zero_add,cell_of_row w b j _ t' (0,0) hg];exact hj
theorem ret_arr {P:Program} {fn:Func} {p:Tmp} {t e:TypeId} {n k:Nat} (hf:fn.results=#[.cell p t]) (hu:P.underlying t=some (.array k e)) (hi:(P.info? t).map (·.size)=some n) (hn:0 < n) (tmps:Array Value) (w:World) (b:Nat) (cs:Array Value)
 (hp:tmps.getD p undef=.pointer (some ⟨b,0,none⟩)) (hr:rowOf w b=cs) (hs:cs.size=n):(results fn tmps).run P w=.ok (.agg cs) w:=by
 subst hr
 obtain ⟨t',hg⟩:=rowOf_some (w:=w) (b:=b) (by omega)
 exact results_cell_row hf tmps w b t' _ (0,0) _ hp hg hu rfl (by rw [hi,hs])
theorem ret_Input {fn:Func} {p:Tmp} (hf:fn.results=#[.cell p 93]) {tmps:Array Value} {w:World} {b:Nat} {cs:Array Value} (hp:tmps.getD p undef=.pointer (some ⟨b,0,none⟩)) (hr:rowOf w b=cs) (hs:cs.size=10):(results fn tmps).run Tryz.prog w=.ok (.agg cs) w:=
 ret_all hf Tryz.underlying93 (by kernel_rfl) (by decide) tmps w b cs hp hr hs
@[go_sem ↓] theorem load_Input (a:Addr):loadVar 93 a=wholeVar 93 a:=by unfold wholeVar;rfl
@[go_sem ↓] theorem store_Input (a:Addr) (v:Value):storeVar 93 a v=wholeSet 93 a v:=by unfold wholeSet;rfl
@[go_sem] theorem run_load_Input (w:World) (b:Nat) (h:(rowOf w b).size=10):(wholeVar 93 ⟨b,0,none⟩).run Tryz.prog w=.ok (.agg (rowOf w b)) w:=
 run_all Tryz.underlying93 (by kernel_rfl) (by decide) w b h
@[go_sem] theorem run_store_Input (w:World) (b:Nat) (cs:Array Value) (hc:cs.size=10) (h:(rowOf w b).size=10) (h1:ones cs.toList=true):(wholeSet 93 ⟨b,0,none⟩ (.agg cs)).run Tryz.prog w=.ok () (w.setRow b cs):=
 set_all (by kernel_rfl) w b cs hc (by decide) h h1
@[go_sem] theorem eq_Input (r1 r2 r3 r4 r5 r6 r7 r8:Bool) (r9 r10:Int) (q1 q2 q3 q4 q5 q6 q7 q8:Bool) (q9 q10:Int) (w:World):(Op.equalIn 10000 93 (.agg #[.bool r1,.bool r2,.bool r3,.bool r4,.bool r5,.bool r6,.bool r7,.bool r8,.int .u8 r9,.int .u8 r10]) (.agg #[.bool q1,.bool q2,.bool q3,.bool q4,.bool q5,.bool q6,.bool q7,.bool q8,.int .u8 q9,.int .u8 q10])).run Tryz.prog w=
 .ok (same [.bool r1,.bool r2,.bool r3,.bool r4,.bool r5,.bool r6,.bool r7,.bool r8,.int .u8 r9,.int .u8 r10] [.bool q1,.bool q2,.bool q3,.bool q4,.bool q5,.bool q6,.bool q7,.bool q8,.int .u8 q9,.int .u8 q10]) w:=
 eq_agg 6 [.bool,.bool,.bool,.bool,.bool,.bool,.bool,.bool,.int .u8,.int .u8] _ Tryz.underlying93 (by kernel_rfl) (by decide) _ _ w (by simp [shaped]) (by simp [shaped])
theorem ret_Pins {fn:Func} {p:Tmp} (hf:fn.results=#[.cell p 34]) {tmps:Array Value} {w:World} {b:Nat} {cs:Array Value} (hp:tmps.getD p undef=.pointer (some ⟨b,0,none⟩)) (hr:rowOf w b=cs) (hs:cs.size=17):(results fn tmps).run Tryz.prog w=.ok (.agg cs) w:=
 ret_all hf Tryz.underlying34 (by kernel_rfl) (by decide) tmps w b cs hp hr hs
@[go_sem ↓] theorem load_Pins (a:Addr):loadVar 34 a=wholeVar 34 a:=by unfold wholeVar;rfl
@[go_sem ↓] theorem store_Pins (a:Addr) (v:Value):storeVar 34 a v=wholeSet 34 a v:=by unfold wholeSet;rfl
@[go_sem] theorem run_load_Pins (w:World) (b:Nat) (h:(rowOf w b).size=17):(wholeVar 34 ⟨b,0,none⟩).run Tryz.prog w=.ok (.agg (rowOf w b)) w:=
 run_all Tryz.underlying34 (by kernel_rfl) (by decide) w b h
@[go_sem] theorem run_store_Pins (w:World) (b:Nat) (cs:Array Value) (hc:cs.size=17) (h:(rowOf w b).size=17) (h1:ones cs.toList=true):(wholeSet 34 ⟨b,0,none⟩ (.agg cs)).run Tryz.prog w=.ok () (w.setRow b cs):=
 set_all (by kernel_rfl) w b cs hc (by decide) h h1
@[go_sem ↓] theorem load_Item (a:Addr):loadVar 155 a=wholeVar 155 a:=by unfold wholeVar;rfl
@[go_sem ↓] theorem store_Item (a:Addr) (v:Value):storeVar 155 a v=wholeSet 155 a v:=by unfold wholeSet;rfl
@[go_sem] theorem run_load_Item (w:World) (b:Nat) (h:(rowOf w b).size=9):(wholeVar 155 ⟨b,0,none⟩).run Tryz.prog w=.ok (.agg (rowOf w b)) w:=
 run_all Tryz.underlying155 (by kernel_rfl) (by decide) w b h
@[go_sem] theorem run_store_Item (w:World) (b:Nat) (cs:Array Value) (hc:cs.size=9) (h:(rowOf w b).size=9) (h1:ones cs.toList=true):(wholeSet 155 ⟨b,0,none⟩ (.agg cs)).run Tryz.prog w=.ok () (w.setRow b cs):=
 set_all (by kernel_rfl) w b cs hc (by decide) h h1
@[go_sem] theorem eq_Pins (r1 q1 r2 q2 r3 q3:Int) (r4 r5 r6 r7 r8 r9 r10 r11 r12 r13 r14 r15 r16 r17 q4 q5 q6 q7 q8 q9 q10 q11 q12 q13 q14 q15 q16 q17:Bool) (w:World):(Op.equalIn 10000 34 (.agg #[.int .i64 r1,.int .u16 r2,.int .u8 r3,.bool r4,.bool r5,.bool r6,.bool r7,.bool r8,.bool r9,.bool r10,.bool r11,.bool r12,.bool r13,.bool r14,.bool r15,.bool r16,.bool r17]) (.agg #[.int .i64 q1,.int .u16 q2,.int .u8 q3,.bool q4,.bool q5,.bool q6,.bool q7,.bool q8,.bool q9,.bool q10,.bool q11,.bool q12,.bool q13,.bool q14,.bool q15,.bool q16,.bool q17])).run Tryz.prog w=
 .ok (same [.int .i64 r1,.int .u16 r2,.int .u8 r3,.bool r4,.bool r5,.bool r6,.bool r7,.bool r8,.bool r9,.bool r10,.bool r11,.bool r12,.bool r13,.bool r14,.bool r15,.bool r16,.bool r17] [.int .i64 q1,.int .u16 q2,.int .u8 q3,.bool q4,.bool q5,.bool q6,.bool q7,.bool q8,.bool q9,.bool q10,.bool q11,.bool q12,.bool q13,.bool q14,.bool q15,.bool q16,.bool q17]) w:=
 eq_agg 6 [.int .i64,.int .u16,.int .u8,.bool,.bool,.bool,.bool,.bool,.bool,.bool,.bool,.bool,.bool,.bool,.bool,.bool,.bool] _ Tryz.underlying34 (by kernel_rfl) (by decide) _ _ w (by simp [shaped]) (by simp [shaped])
@[go_sem ↓] theorem load_Cycle (a:Addr):loadVar 58 a=wholeVar 58 a:=by unfold wholeVar;rfl
@[go_sem ↓] theorem store_Cycle (a:Addr) (v:Value):storeVar 58 a v=wholeSet 58 a v:=by unfold wholeSet;rfl
@[go_sem] theorem run_load_Cycle (w:World) (b o:Nat) (h:o+4≤(rowOf w b).size):(wholeVar 58 ⟨b,o,none⟩).run Tryz.prog w=.ok (.agg (part8 o 4 (rowOf w b))) w:=
 run_part Tryz.underlying58 (by kernel_rfl) (by decide) w b o h
@[go_sem] theorem run_store_Cycle (w:World) (b o:Nat) (cs:Array Value) (hc:cs.size=4) (h:o+4≤(rowOf w b).size) (h1:ones cs.toList=true):(wholeSet 58 ⟨b,o,none⟩ (.agg cs)).run Tryz.prog w=.ok () (w.setRow b (put8 o cs (rowOf w b))):=
 set_part (by kernel_rfl) w b o cs hc (by decide) h h1
end
namespace S
structure Cp where
 (Ch A B C D E H L:Int) (fS fZ fK fAC fP fV fCY:Bool) (SP PC:Int) (IE De Ha:Bool) (Ma:Int) (Tr R7 WT W7 Sa SI SO:Bool)
def Cp.cs (c:Cp):Array Value:=#[.int .i64 c.Ch,.int .u8 c.A,.int .u8 c.B,.int .u8 c.C,.int .u8 c.D,.int .u8 c.E,.int .u8 c.H,.int .u8 c.L,.bool c.fS,.bool c.fZ,.bool c.fK,.bool c.fAC,.bool c.fP,.bool c.fV,.bool c.fCY,.int .u16 c.SP,.int .u16 c.PC,.bool c.IE,.bool c.De,.bool c.Ha,.int .u8 c.Ma,.bool c.Tr,.bool c.R7,.bool c.WT,.bool c.W7,.bool c.Sa,.bool c.SI,.bool c.SO]
def bt (b:Bool) (n:Int):Int:=if b then n else 0
def rim (sid r75 r65 r55 ie:Bool) (m:Int):Int:=128 * one sid+64 * one r75+32 * one r65+16 * one r55+8 * one ie+m % 8
def hs (a n:Int):Bool:=bits .and .u8 a n !=0
def pick (b x y:Bool):Bool:=if b then x else y
def pickN (b:Bool) (x y:Int):Int:=if b then x else y
theorem low3_fin:∀n:Fin 256,bits .and .u8 (n.val:Int) 7=(n.val:Int) % 8:=by decide+kernel
theorem low3 (a:Int) (a0:0≤a) (a1:a < 256):bits .and .u8 a 7=a % 8:=by
 have h:=low3_fin ⟨a.toNat,by omega⟩
 simpa [Int.toNat_of_nonneg a0] using h
theorem rim_or_fin:∀sid r75 r65 r55 ie:Bool,∀m:Fin 8,bits .or .u8 (bits .or .u8 (bits .or .u8 (bits .or .u8 (bits .or .u8 (bt sid 128) (bt r75 64)) (bt r65 32)) (bt r55 16)) (bt ie 8)) (m.val:Int)=rim sid r75 r65 r55 ie (m.val:Int):=by decide+kernel
theorem rim_or (sid r75 r65 r55 ie:Bool) (m:Int):bits .or .u8 (bits .or .u8 (bits .or .u8 (bits .or .u8 (bits .or .u8 (bt sid 128) (bt r75 64)) (bt r65 32)) (bt r55 16)) (bt ie 8)) (m % 8)=rim sid r75 r65 r55 ie m:=by
 have h:=rim_or_fin sid r75 r65 r55 ie ⟨(m % 8).toNat,by omega⟩
 have e:((m % 8).toNat:Int)=m % 8:=Int.toNat_of_nonneg (by omega)
 simp only [e] at h
 rw [h]
 unfold rim
 omega
def bp (b:Bool) (n:Int):Int:=if b then 2 ^ n.toNat else 0
theorem rim_orp (sid r75 r65 r55 ie:Bool) (m:Int):bits .or .u8 (bits .or .u8 (bits .or .u8 (bits .or .u8 (bits .or .u8 (bp sid 7) (bp r75 6)) (bp r65 5)) (bp r55 4)) (bp ie 3)) (m % 8)=rim sid r75 r65 r55 ie m:=by
 have e:∀b:Bool,bp b 7=bt b 128∧bp b 6=bt b 64∧bp b 5=bt b 32∧bp b 4=bt b 16∧bp b 3=bt b 8:=by decide
 rw [(e sid).1,(e r75).2.1,(e r65).2.2.1,(e r55).2.2.2.1,(e ie).2.2.2.2]
 exact rim_or ..
theorem rim_bd (sid r75 r65 r55 ie:Bool) (m:Int):0≤rim sid r75 r65 r55 ie m∧rim sid r75 r65 r55 ie m < 256:=by
 have h1:=one_bd sid;have h2:=one_bd r75;have h3:=one_bd r65;have h4:=one_bd r55;have h5:=one_bd ie
 unfold rim;omega
theorem without_fin:∀n:Fin 256,hs (bits .andNot .u8 (n.val:Int) 88) 64=false∧hs (bits .andNot .u8 (n.val:Int) 88) 16=false∧hs (bits .andNot .u8 (n.val:Int) 88) 8=false∧0≤bits .andNot .u8 (n.val:Int) 88∧bits .andNot .u8 (n.val:Int) 88 < 256:=by decide+kernel
theorem without (a:Int) (a0:0≤a) (a1:a < 256):hs (bits .andNot .u8 a 88) 64=false∧hs (bits .andNot .u8 a 88) 16=false∧hs (bits .andNot .u8 a 88) 8=false∧0≤bits .andNot .u8 a 88∧bits .andNot .u8 a 88 < 256:=by
 have h:=without_fin ⟨a.toNat,by omega⟩
 simpa [Int.toNat_of_nonneg a0] using h
end S
section
variable {M N b cap len:Nat} {a:Option Addr} {w w' w1:World} {zs:List Int}
def Nb (w:World) (b:Nat) (a:Option Addr) (len cap:Nat) (N:Nat):Prop:=
 w.heap[b]? =some (.cells #[.slice a len cap,.int .i64 (N:Int)] 81 (0,0))∧len≤cap∧len≤4611686018427387904∧∀i,i < len→∃bx ox z,a=some ⟨bx,ox,none⟩∧bx < b∧w.cell? ⟨bx,ox+i,none⟩=some (.int .i64 z)
def Up (w:World) (b N:Nat) (w':World):Prop:=Adds (w.setCell ⟨b,1,none⟩ (.int .i64 (N:Int))) w'
theorem Up.of (h:Adds (w.setCell ⟨b,1,none⟩ (.int .i64 (N:Int))) w'):Up w b N w':=h
theorem Nb.lt (h:Nb w b a len cap N):b < w.heap.size:=(Array.getElem?_eq_some_iff.1 h.1).1
theorem Nb.of_heap (h:Nb w b a len cap N) (hk:∀k,k≤b→w'.heap[k]? =w.heap[k]?):Nb w' b a len cap N:=by
 refine ⟨(hk b (Nat.le_refl _)).trans h.1,h.2.1,h.2.2.1,fun i hi=> ?_⟩
 obtain ⟨bx,ox,z,h1,h2,h3⟩:=h.2.2.2 i hi
 exact ⟨bx,ox,z,h1,h2,by rw [←h3];simp only [World.cell?,hk bx (by omega)]⟩
theorem Nb.more (h:Nb w b a len cap N) (n:Nat) (os:Array Obj):Nb (More w n os) b a len cap N:=
 h.of_heap fun k hk=>More_heap w n os (by have:=h.lt;omega)
theorem Nb.alloc (h:Nb w b a len cap N) (o:Obj):Nb (w.alloc o) b a len cap N:=
 h.of_heap fun k hk=>heap_past w o (by have:=h.lt;omega)
theorem Nb.drew (h:Nb w b a len cap N):Nb w.drew b a len cap N:=h
theorem Nb.bump (h:Nb w b a len cap N) (M:Nat):Nb (w.setCell ⟨b,1,none⟩ (.int .i64 (M:Int))) b a len cap M:=by
 refine ⟨heap_setCell_same w b 1 _ _ _ h.1,h.2.1,h.2.2.1,fun i hi=> ?_⟩
 obtain ⟨bx,ox,z,h1,h2,h3⟩:=h.2.2.2 i hi
 refine ⟨bx,ox,z,h1,h2,?_⟩
 rw [←h3]
 simp only [World.cell?,heap_setCell_other w ⟨b,1,none⟩ bx _ (show bx≠b by omega)]
theorem Nb.up (h:Nb w b a len cap N) (u:Up w b M w'):Nb w' b a len cap M:=by
 obtain ⟨⟨n,os⟩,rfl⟩:=u
 exact (h.bump M).more n os
theorem setCell_twice (w:World) (b i:Nat) (v v':Value):(w.setCell ⟨b,i,none⟩ v).setCell ⟨b,i,none⟩ v'=w.setCell ⟨b,i,none⟩ v':=by
 simp only [World.setCell]
 congr 1
 apply Array.ext_getElem?
 intro k
 simp only [Array.getElem?_modify]
 by_cases hk:b=k
 ·simp only [hk,if_true,Option.map_map]
  cases w.heap[k]? with
  |none=>rfl
  |some o=>cases o<;>simp [Function.comp]
 ·simp [hk]
@[go_sem] theorem setCell_box (w:World) (b i:Nat) (v v':Value):(w.setCell ⟨b,i,none⟩ v).setCell ⟨b,i,none⟩ v'=w.setCell ⟨b,i,none⟩ v':=setCell_twice ..
theorem Up.then {w2:World} (h:Up w b N w1) (hb:b < w.heap.size) (k:Up w1 b M w2):Up w b M w2:=by
 obtain ⟨⟨n,os⟩,rfl⟩:=h
 unfold Up at k⊢
 rw [More_setCell _ _ _ _ _ _ _ (by rw [InB_setCell];exact hb),setCell_twice] at k
 exact ((Adds.refl _).more n os).trans k
theorem Up.alloc (h:Up w b N w1) (o:Obj):Up w b N (w1.alloc o):=Adds.alloc h o
theorem Up.pre {o:Obj} (h:Up (w.alloc o) b N w1) (hb:b < w.heap.size):Up w b N w1:=by
 unfold Up at h⊢
 rw [World.setCell_alloc_past o b 1 _ hb] at h
 exact ((Adds.refl _).alloc o).trans h
theorem Up.adds (h:Up w b N w1) {w0:World} (hb:w0.heap.size≤b) (k:Adds w0 w):Adds w0 w1:=(k.setCell hb _).trans h
theorem Nb.of_row (h:IsRow .i64 w a len cap zs) (hl:len≤1000):Nb (w.alloc (.cells #[.slice a len cap,.int .i64 0] 81)) w.heap.size a len cap 0:=by
 have hc:∀i,i < len→∃bx ox z,a=some ⟨bx,ox,none⟩∧bx < w.heap.size∧w.cell? ⟨bx,ox+i,none⟩=some (.int .i64 z):=by
  intro i hi
  rcases h with ⟨_,h0,_,_⟩|⟨x,rfl,h2,h3,h4,h5,h6⟩
  ·omega
  ·have hx:=h5 i (by omega)
   obtain ⟨bx,ox,sp⟩:=x
   have hx0:=h5 0 (by omega)
   rw [show (⟨bx,ox,sp⟩:Addr).add 0=⟨bx,ox,sp⟩ by simp [Addr.add]] at hx0
   obtain rfl:sp=none:=cell_spot hx0
   have hadd:(⟨bx,ox,none⟩:Addr).add i=⟨bx,ox+i,none⟩:=by unfold Addr.add;split<;>simp_all
   rw [hadd] at hx
   exact ⟨bx,ox,_,rfl,cell_lt hx,hx⟩
 have hlc:len≤cap:=by
  rcases h with ⟨_,h0,_,_⟩|⟨x,rfl,h2,_⟩
  ·omega
  ·exact h2
 refine ⟨heap_last w _,hlc,by omega,fun i hi=> ?_⟩
 obtain ⟨bx,ox,z,h1,h2,h3⟩:=hc i hi
 exact ⟨bx,ox,z,h1,h2,by rw [World.cell?_alloc_lt w _ _ h2];exact h3⟩
theorem Nb.from (hb:b=w.heap.size) (h:IsRow .i64 w a len cap zs) (hl:len≤1000):Nb (w.alloc (.cells #[.slice a len cap,.int .i64 0] 81)) b a len cap 0:=by
 subst hb;exact Nb.of_row h hl
theorem Nb.at (hb:b=w.heap.size) (h:IsRow .i64 w a len cap zs) (hl:len≤1000):Nb (w.alloc (.cells #[.slice a len cap,.int .i64 (N:Int)] 81)) b a len cap N:=by
 have k:=Nb.from hb h hl
 refine ⟨?_,k.2.1,k.2.2.1,fun i hi=> ?_⟩
 ·subst hb;exact heap_last w _
 ·obtain ⟨bx,ox,z,h1,h2,h3⟩:=k.2.2.2 i hi
  refine ⟨bx,ox,z,h1,h2,?_⟩
  rw [World.cell?_alloc_lt w _ _ (show bx < w.heap.size by omega)] at h3⊢
  exact h3
theorem nx_one (b len cap N:Nat) (a:Option Addr) (n:Int) (n0:1≤n) (n1:n≤65536) (hM:N≤100000000) (w:World) (h:Nb w b a len cap N):
 Calls Tryz.prog 26 #[.pointer (some ⟨b,0,none⟩),.int .i64 n] w fun e w'=>∃(y:Int) (M:Nat),0≤y∧y < n∧(N < M∧M≤N+1)∧e=.returned (.int .i64 y)∧Up w b M w':=by
 have hB:=h.lt
 obtain ⟨hh,hlc,hl62,hx⟩:=h
 have h0:w.cell? ⟨b,0,none⟩=some (.slice a len cap):=by rw [cell_of_row w b 0 _ _ _ hh];rfl
 have h1:w.cell? ⟨b,1,none⟩=some (.int .i64 (N:Int)):=by rw [cell_of_row w b 1 _ _ _ hh];rfl
 have hf:w.frozen? ⟨b,1,none⟩=false:=frozen_of_row w b 1 _ _ hh
 by_cases hN:N < len
 ·obtain ⟨bx,ox,z,rfl,hb,hz⟩:=hx N hN
  refine (next_some b bx ox len cap N z n n0 n1 hN (by omega) (by omega) hlc w hB hb h0 h1 hf hz).mono ?_
  rintro e w' ⟨rfl,p,rfl⟩
  obtain ⟨q0,q1⟩:=S.plc_bd z n n0
  exact ⟨S.plc z n,N+1,q0,q1,⟨by omega,by omega⟩,rfl,p,rfl⟩
 ·refine (next_none b len cap N a n (by omega) (by omega) w hB h0 h1 hf).mono ?_
  rintro e w' ⟨rfl,p,rfl⟩
  exact ⟨0,N+1,by omega,by omega,⟨by omega,by omega⟩,rfl,p,rfl⟩
theorem nx_any (b len cap N:Nat) (a:Option Addr) (n:Int) (n0:1≤n) (n1:n≤65536) (hM:N≤100000000) (w:World) (h:Nb w b a len cap N):
 Calls Tryz.prog 26 #[.pointer (some ⟨b,0,none⟩),.int .i64 n] w fun e w'=>∃(y:Int) (M:Nat),0≤y∧y < n∧M≤N+1∧e=.returned (.int .i64 y)∧Up w b M w':=
 (nx_one b len cap N a n n0 n1 hM w h).mono fun e w' ⟨y,M,h0,h1,hm,he,hu⟩=>⟨y,M,h0,h1,hm.2,he,hu⟩
theorem flg_any (b len cap N:Nat) (a:Option Addr) (hM:N≤99999000) (w:World) (h:Nb w b a len cap N):
 Calls Tryz.prog 118 #[.pointer (some ⟨b,0,none⟩)] w fun e w'=>∃(f:Bool) (M:Nat),M≤N+1∧e=.returned (.bool f)∧Up w b M w':=by
 have H:Hid _:=Lib.hid h
 clear h
 go_enter Tryz.func118,Tryz.ntmps118
 go_wp2_with (go_at_call 26;(with_reducible refine (nx_any b len cap N a 2 (by omega) (by omega) (by omega) w H.out).mono ?_);rintro e w1 ⟨y,M,hy0,hy1,hM1,rfl,hU⟩)
 go_ret
 exact ⟨_,M,hM1,rfl,hU⟩
theorem chp_any (b len cap N:Nat) (a:Option Addr) (hM:N≤99999000) (w:World) (h:Nb w b a len cap N):
 Calls Tryz.prog 24 #[.pointer (some ⟨b,0,none⟩)] w fun e w'=>∃(c:Int) (M:Nat),1≤c∧c≤2∧M≤N+1∧e=.returned (.int .i64 c)∧Up w b M w':=by
 have H:Hid _:=Lib.hid h
 clear h
 go_enter Tryz.func24,Tryz.ntmps24
 go_wp2_with (go_at_call 26;(with_reducible refine (nx_any b len cap N a 2 (by omega) (by omega) (by omega) w H.out).mono ?_);rintro e w1 ⟨y,M,hy0,hy1,hM1,rfl,hU⟩)
 go_ret
 exact ⟨1+y,M,by omega,by omega,hM1,rfl,hU⟩
theorem lt8 (y:Int) (h0:0≤y) (h:y < 8):∃(k:Nat) (o:Int),y=(k:Int)∧0≤o∧o < 65536∧(#[.int .u16 0,.int .u16 1,.int .u16 65535,.int .u16 65534,.int .u16 32767,.int .u16 32768,.int .u16 255,.int .u16 256]:Array Value)[k]? =some (.int .u16 o):=by
 rcases (by omega:y=0∨y=1∨y=2∨y=3∨y=4∨y=5∨y=6∨y=7) with rfl|rfl|rfl|rfl|rfl|rfl|rfl|rfl
 ·exact ⟨0,0,rfl,by omega,by omega,rfl⟩
 ·exact ⟨1,1,rfl,by omega,by omega,rfl⟩
 ·exact ⟨2,65535,rfl,by omega,by omega,rfl⟩
 ·exact ⟨3,65534,rfl,by omega,by omega,rfl⟩
 ·exact ⟨4,32767,rfl,by omega,by omega,rfl⟩
 ·exact ⟨5,32768,rfl,by omega,by omega,rfl⟩
 ·exact ⟨6,255,rfl,by omega,by omega,rfl⟩
 ·exact ⟨7,256,rfl,by omega,by omega,rfl⟩
theorem wrd_any (b len cap N:Nat) (a:Option Addr) (hM:N≤99999000) (w:World) (h:Nb w b a len cap N):
 Calls Tryz.prog 87 #[.pointer (some ⟨b,0,none⟩)] w fun e w'=>∃(y:Int) (M:Nat),0≤y∧y < 65536∧M≤N+2∧e=.returned (.int .u16 y)∧Up w b M w':=by
 have hbw:=h.lt
 have H:Hid _:=Lib.hid h
 clear h
 go_enter Tryz.func87,Tryz.ntmps87
 go_wp2_with (first
  |(go_at_call 26;(with_reducible refine (nx_any b len cap M1 a 8 (by omega) (by omega) (by omega) (w1.alloc (.cells #[.int .u16 0,.int .u16 1,.int .u16 65535,.int .u16 65534,.int .u16 32767,.int .u16 32768,.int .u16 255,.int .u16 256] 32)) ((H.out.up hU1.out).alloc _)).mono ?_);rintro e w2 ⟨y2,M2,hy20,hy21,hM2,rfl,hU2'⟩;obtain ⟨k,o,rfl,ho0,ho1,ho2⟩:=lt8 y2 hy20 hy21;have hb1:=(H.out.up hU1.out).lt;have hU2:=hU2';obtain ⟨⟨n2,os2⟩,hw2⟩:=hU2';have hc:w2.cell? ⟨w1.heap.size,k,none⟩=some (.int .u16 o):=(by rw [hw2,More_cell _ _ _ _ _ _ (by rw [InB_setCell,InB_alloc];exact .inl rfl),World.setCell_alloc_past _ _ _ _ hb1,cell_of_row _ _ _ _ _ (0,0) (by have:=heap_last (w1.setCell ⟨b,1,none⟩ (.int .i64 (M2:Int))) (.cells #[.int .u16 0,.int .u16 1,.int .u16 65535,.int .u16 65534,.int .u16 32767,.int .u16 32768,.int .u16 255,.int .u16 256] 32);simpa using this)];exact ho2);clear hw2 ho2;have hk8:(k:Int) < 8:=hy21)
  |(go_at_call 26;(with_reducible refine (nx_any b len cap M1 a 65536 (by omega) (by omega) (by omega) w1 (H.out.up hU1.out)).mono ?_);rintro e w2 ⟨y2,M2,hy20,hy21,hM2,rfl,hU2⟩;have hwr:IntKind.u16.wrap y2=y2:=(by simp [IntKind.wrap,IntKind.bits,IntKind.signed];omega);have hwr2:y2 % 65536=y2:=(by omega))
  |(go_at_call 26;(with_reducible refine (nx_any b len cap M1 a 64 (by omega) (by omega) (by omega) w1 (H.out.up hU1.out)).mono ?_);rintro e w2 ⟨y2,M2,hy20,hy21,hM2,rfl,hU2⟩;have hwr:IntKind.u16.wrap y2=y2:=(by simp [IntKind.wrap,IntKind.bits,IntKind.signed];omega);have hwr2:y2 % 65536=y2:=(by omega))
  |(go_at_call 26;(with_reducible refine (nx_any b len cap N a 5 (by omega) (by omega) (by omega) w H.out).mono ?_);rintro e w1 ⟨y1,M1,hy10,hy11,hM1,rfl,hU1'⟩;have hU1:=Lib.hid hU1';clear hU1'))
 ·go_ret
  exact ⟨o,M2,ho0,ho1,by omega,rfl,hU1.out.then hbw (hU2.pre hb1)⟩
 ·go_ret
  exact ⟨y2,M2,hy20,hy21,by omega,rfl,hU1.out.then hbw hU2⟩
 ·go_ret
  exact ⟨y2,M2,hy20,by omega,by omega,rfl,hU1.out.then hbw hU2⟩
theorem lt16 (y:Nat) (h:y < 16):∃o:Nat,o < 256∧(#[.int .u8 0,.int .u8 1,.int .u8 127,.int .u8 128,.int .u8 255,.int .u8 15,.int .u8 16,.int .u8 153,.int .u8 154,.int .u8 9,.int .u8 102,.int .u8 254,.int .u8 129,.int .u8 85,.int .u8 170,.int .u8 64]:Array Value)[y]? =some (.int .u8 (o:Int)):=by
 match y,h with
 |0,_=>exact ⟨0,by omega,rfl⟩
 |1,_=>exact ⟨1,by omega,rfl⟩
 |2,_=>exact ⟨127,by omega,rfl⟩
 |3,_=>exact ⟨128,by omega,rfl⟩
 |4,_=>exact ⟨255,by omega,rfl⟩
 |5,_=>exact ⟨15,by omega,rfl⟩
 |6,_=>exact ⟨16,by omega,rfl⟩
 |7,_=>exact ⟨153,by omega,rfl⟩
 |8,_=>exact ⟨154,by omega,rfl⟩
 |9,_=>exact ⟨9,by omega,rfl⟩
 |10,_=>exact ⟨102,by omega,rfl⟩
 |11,_=>exact ⟨254,by omega,rfl⟩
 |12,_=>exact ⟨129,by omega,rfl⟩
 |13,_=>exact ⟨85,by omega,rfl⟩
 |14,_=>exact ⟨170,by omega,rfl⟩
 |15,_=>exact ⟨64,by omega,rfl⟩
 |y+16,h=>exact absurd h (by omega)
theorem byt_any (b len cap N:Nat) (a:Option Addr) (hM:N≤99999000) (w:World) (h:Nb w b a len cap N):
 Calls Tryz.prog 27 #[.pointer (some ⟨b,0,none⟩)] w fun e w'=>∃(y:Int) (M:Nat),0≤y∧y < 256∧M≤N+2∧e=.returned (.int .u8 y)∧Up w b M w':=by
 have H:Hid _:=Lib.hid h
 clear h
 go_enter Tryz.func27,Tryz.ntmps27
 go_wp2_with (go_at_call 26;(with_reducible refine (nx_any b len cap N a 512 (by omega) (by omega) (by omega) w H.out).mono ?_);rintro e w1 ⟨z1,M1,hz10,hz11,hM1,rfl,hU1⟩;obtain ⟨y1,rfl⟩:∃k:Nat,z1=(k:Int):=⟨z1.toNat,by omega⟩;obtain ⟨q,hq⟩:∃q,q=y1 % 16:=⟨_,rfl⟩;obtain ⟨o,ho1,ho2⟩:=lt16 q (by omega);have hmod:(y1:Int) % 16=(q:Int):=(by omega);have hmod2:(y1:Int).tmod 16=(q:Int):=(by rw [Int.tmod_eq_emod_of_nonneg (by omega)];omega);have hq16:(q:Int) < 16:=(by omega);have hc:(w1.alloc (.cells #[.int .u8 0,.int .u8 1,.int .u8 127,.int .u8 128,.int .u8 255,.int .u8 15,.int .u8 16,.int .u8 153,.int .u8 154,.int .u8 9,.int .u8 102,.int .u8 254,.int .u8 129,.int .u8 85,.int .u8 170,.int .u8 64] 5)).cell? ⟨w1.heap.size,q,none⟩=some (.int .u8 (o:Int)):=(by rw [cell_of_row _ _ _ _ _ (0,0) (heap_last w1 _)];exact ho2);have HQ:=Lib.hid hq;clear hq)
 ·go_ret
  exact ⟨o,M1,by omega,by omega,by omega,rfl,hU1.alloc _⟩
 ·go_ret
  exact ⟨y1 % 256,M1,by omega,by omega,by omega,ri (by omega),hU1⟩
end
section
section
variable {P:Program} {ops:Array Oper} {Q:Exit→Act→World→Prop} {md:Region.Mode}
theorem count_set:∀(L:List Bool) (i:Nat),L[i]? =some false→(L.set i true).countP (fun b=> !b)+1=L.countP (fun b=> !b)
 |[],i,h=>by simp at h
 |x::xs,0,h=>by
  simp at h
  subst h
  simp
 |x::xs,i+1,h=>by
  have k:=count_set xs i (by simpa using h)
  simp only [List.set_cons_succ,List.countP_cons]
  omega
theorem unlisted {L:Array Bool} {i:Nat} (h:L.getD i true=false):L[i]? =some false:=by
 rw [Array.getD_eq_getD_getElem?] at h
 cases hx:L[i]? with
 |none=>simp [hx] at h
 |some x=>simp [hx] at h;rw [h]
theorem listed_set (L:Array Bool) (i j:Nat) (h:(L.setIfInBounds i true).getD j false=true):j=i∨L.getD j false=true:=by
 by_cases e:i=j
 ·exact .inl e.symm
 ·rw [Array.getD_eq_getD_getElem?,Array.getElem?_setIfInBounds_ne e] at h
  exact .inr (by rw [Array.getD_eq_getD_getElem?];exact h)
theorem listed_set_ne (L:Array Bool) (i j:Nat) (h:i≠j):(L.setIfInBounds i true).getD j false=L.getD j false:=by
 rw [Array.getD_eq_getD_getElem?,Array.getElem?_setIfInBounds_ne h,Array.getD_eq_getD_getElem?]
theorem listed_set_same (L:Array Bool) (i:Nat) (h:i < L.size):(L.setIfInBounds i true).getD i false=true:=by
 rw [Array.getD_eq_getD_getElem?,Array.getElem?_setIfInBounds_self]
 simp [h]
theorem wpAny_inv (Inv:Nat→Array Bool→Act→World→Prop)
 (hs:∀n L a w i,n < ops.size→L.size=ops.size→Inv n L a w→i∈Region.ready md ops L→wpOp P ops Q i (fun a' w'=>Inv (n+1) (L.setIfInBounds i true) a' w') a w)
 (he:∀n L a w,n≤ops.size→L.size=ops.size→Inv n L a w→Region.ready md ops L=[]→Q .normal a w):
 ∀(fuel n:Nat) (L:Array Bool) (a:Act) (w:World),n+fuel=ops.size→L.size=ops.size→L.toList.countP (fun b=> !b)≤fuel→Inv n L a w→wpAny P md ops Q fuel L a w
 |0,n,L,a,w,hf,hz,hc,hI=>by
  have hr:Region.ready md ops L=[]:=by
   cases hr:Region.ready md ops L with
   |nil=>rfl
   |cons i is=>
    have hi:i∈Region.ready md ops L:=by rw [hr];exact List.mem_cons_self
    have k:=count_set L.toList i (by simpa using unlisted (mem_ready.1 hi).1)
    omega
  exact ⟨hr,he n L a w (by omega) hz hI hr⟩
 |fuel+1,n,L,a,w,hf,hz,hc,hI=>by
  refine ⟨fun hr=>he n L a w (by omega) hz hI hr,fun i hi=>wpOp_mono (fun a' w' h'=> ?_) (hs n L a w i (by omega) hz hI hi)⟩
  have k:=count_set L.toList i (by simpa using unlisted (mem_ready.1 hi).1)
  exact wpAny_inv Inv hs he fuel (n+1) _ a' w' (by omega) (by simpa using hz) (by rw [Array.toList_setIfInBounds];omega) h'
theorem ready_dep {L:Array Bool} {i j:Nat} (h:i∈Region.ready md ops L) (hj:((ops[i]?).map fun o=>o.after.any fun e=>Region.binds md e && e.on==j)=some true):L.getD j false=true:=by
 obtain ⟨_,o,ho,hall⟩:=mem_ready.1 h
 rw [ho] at hj
 simp only [Option.map_some,Option.some.injEq,Array.any_eq_true'] at hj
 obtain ⟨e,he,hb⟩:=hj
 simp only [Bool.and_eq_true,beq_iff_eq] at hb
 rw [←hb.2]
 exact hall e he hb.1
theorem all_listed {L:Array Bool} (hac:((List.range ops.size).all fun i=>((ops[i]?).map fun o=>o.after.all fun e=>decide (e.on < i)).getD true)=true) (hz:L.size=ops.size) (hr:Region.ready md ops L=[]):∀i,i < ops.size→L.getD i false=true:=by
 intro i
 induction i using Nat.strongRecOn with
 |_ i ih=>
  intro hi
  cases hl:L.getD i false with
  |true=>rfl
  |false=>
   have hm:i∈Region.ready md ops L:=mem_ready.2 ⟨by
    rw [Array.getD_eq_getD_getElem?] at hl⊢
    have:L[i]? =some L[i]:=Array.getElem?_eq_getElem (by omega)
    rw [this] at hl⊢
    exact hl,ops[i],Array.getElem?_eq_getElem hi,fun e he _=>by
     have h1:=List.all_eq_true.1 hac i (List.mem_range.2 hi)
     rw [Array.getElem?_eq_getElem hi] at h1
     simp only [Option.map_some,Option.getD_some,Array.all_eq_true'] at h1
     have h2:e.on < i:=by simpa using h1 e he
     exact ih e.on h2 (by omega)⟩
   rw [hr] at hm
   cases hm
variable {i t s:Nat} {K:Act→World→Prop} {a:Act} {w w':World} {v x y:Value}
@[noinline] def secondOps (f:Func):Array Oper:=match f.body with
 |some (.seq _ (.seq (.region _ ops _) _))=>ops
 |_=>#[]
theorem replicate_getD (n i:Nat):(Array.replicate n false).getD i false=false:=by
 rw [Array.getD_eq_getD_getElem?,Array.getElem?_replicate]
 split<;>rfl
theorem region_as {id:Nat} {ops':Array Oper} (h:ops=ops') (hw:(Code.region id ops' true).wp P Q a w):(Code.region id ops true).wp P Q a w:=h▸hw
theorem st_val {o:Oper} (ho:ops[i]? =some o) (hg:o.guard=none) (hd:o.dst=some t) (hr:(execOp a.eval o).run P w=.ok (.value v) w') (h:K (a.put (some t) v) w'):wpOp P ops Q i K a w:=by
 unfold wpOp
 simp only [ho,Region.wanted,hg,if_true]
 refine .inl ?_
 unfold Oper.wp
 rw [hr]
 simp only [Oper.upon,hd]
 exact h
theorem st_skip {o:Oper} (ho:ops[i]? =some o) (hg:o.guard=none) (hd:o.dst=none) (hr:(execOp a.eval o).run P w=.ok .skip w') (h:K a w'):wpOp P ops Q i K a w:=by
 unfold wpOp
 simp only [ho,Region.wanted,hg,if_true]
 refine .inl ?_
 unfold Oper.wp
 rw [hr]
 simp only [Oper.upon,hd]
 exact h
theorem st_enter {o:Oper} {f:FuncId} {args:Array Value} (ho:ops[i]? =some o) (hg:o.guard=none) (hd:o.dst=some t) (hr:(execOp a.eval o).run P w=.ok (.enter f args) w')
 (hc:Calls P f args w' fun e w''=>∃v,e=.returned v∧K (a.put (some t) v) w''):wpOp P ops Q i K a w:=by
 unfold wpOp
 simp only [ho,Region.wanted,hg,if_true]
 refine .inl ?_
 unfold Oper.wp
 rw [hr]
 simp only [Oper.upon,hd]
 refine hc.mono ?_
 rintro e w'' ⟨v,rfl,hk⟩
 exact hk
theorem op_of {d:Option Tmp} {op:Op} (h:(ops[i]?).map (fun o=>(o.dst,o.op,o.guard))=some (d,op,none)):∃ty pos aft,ops[i]? =some {dst:=d,op:=op,type:=ty,pos:=pos,after:=aft,guard:=none}:=by
 cases ho:ops[i]? with
 |none=>rw [ho] at h;cases h
 |some o=>
  rw [ho] at h
  obtain ⟨d',op',ty,pos,aft,g⟩:=o
  simp only [Option.map_some,Option.some.injEq,Prod.mk.injEq] at h
  obtain ⟨rfl,rfl,rfl⟩:=h
  exact ⟨ty,pos,aft,rfl⟩
theorem st_move (ho:(ops[i]?).map (fun o=>(o.dst,o.op,o.guard))=some (some t,.move (.tmp s),none)) (hx:a.tmps.getD s undef=v) (h:K (a.put (some t) v) w):wpOp P ops Q i K a w:=
 let ⟨ty,pos,aft,ho⟩:=op_of ho;st_val ho rfl rfl (by show Result.ok (Next.value (a.tmps.getD s undef)) w=_;rw [hx]) h
theorem st_call1 {f:FuncId} {ats:Array TypeId} (ho:(ops[i]?).map (fun o=>(o.dst,o.op,o.guard))=some (some t,.call {callee:=.value (.func f),args:=#[.tmp s],argTypes:=ats},none)) (hx:a.tmps.getD s undef=x)
 (hf:(callFunc f #[x]).run P w=.ok (.enter f #[x]) w) (hc:Calls P f #[x] w fun e w''=>∃v,e=.returned v∧K (a.put (some t) v) w''):wpOp P ops Q i K a w:=
 let ⟨ty,pos,aft,ho⟩:=op_of ho;st_enter ho rfl rfl (by show (callFunc f (#[]++(#[Operand.tmp s]:Array Operand).map a.eval++#[])).run P w=_;have e:(#[]++(#[Operand.tmp s]:Array Operand).map a.eval++#[])=#[x]:=(by rw [←hx];simp [Act.eval]);rw [e];exact hf) hc
theorem st_call2 {f:FuncId} {ats:Array TypeId} {c:Value} (ho:(ops[i]?).map (fun o=>(o.dst,o.op,o.guard))=some (some t,.call {callee:=.value (.func f),args:=#[.tmp s,.const c],argTypes:=ats},none)) (hx:a.tmps.getD s undef=x)
 (hf:(callFunc f #[x,c]).run P w=.ok (.enter f #[x,c]) w) (hc:Calls P f #[x,c] w fun e w''=>∃v,e=.returned v∧K (a.put (some t) v) w''):wpOp P ops Q i K a w:=
 let ⟨ty,pos,aft,ho⟩:=op_of ho;st_enter ho rfl rfl (by show (callFunc f (#[]++(#[Operand.tmp s,Operand.const c]:Array Operand).map a.eval++#[])).run P w=_;have e:(#[]++(#[Operand.tmp s,Operand.const c]:Array Operand).map a.eval++#[])=#[x,c]:=(by rw [←hx];simp [Act.eval]);rw [e];exact hf) hc
theorem st_binc {op:BinOp} {xt yt:TypeId} {c:Value} (ho:(ops[i]?).map (fun o=>(o.dst,o.op,o.guard))=some (some t,.binOp op xt (.tmp s) (.const c) yt,none)) (hx:a.tmps.getD s undef=x)
 (hr:(do eqGuard op xt (.tmp s) (.const c) x c;binOp op xt x c:Sem Value).run P w=.ok v w) (h:K (a.put (some t) v) w):wpOp P ops Q i K a w:=
 let ⟨ty,pos,aft,ho⟩:=op_of ho;st_val ho rfl rfl (by
  subst hx
  show (do let z←(do eqGuard op xt (.tmp s) (.const c) (a.tmps.getD s undef) c;binOp op xt (a.tmps.getD s undef) c:Sem Value);pure (Next.value z):Sem Next).run P w=_
  rw [Sem.run_bind,hr];rfl) h
theorem st_conv {xt yt:TypeId} (ho:(ops[i]?).map (fun o=>(o.dst,o.op,o.guard))=some (some t,.convert xt yt (.tmp s),none)) (hx:a.tmps.getD s undef=x)
 (hr:(convert xt yt x).run P w=.ok v w) (h:K (a.put (some t) v) w):wpOp P ops Q i K a w:=
 let ⟨ty,pos,aft,ho⟩:=op_of ho;st_val ho rfl rfl (by
  subst hx
  show (do let z←convert xt yt (a.tmps.getD s undef);pure (Next.value z):Sem Next).run P w=_
  rw [Sem.run_bind,hr];rfl) h
theorem st_indexAddr {xt:TypeId} {s':Nat} (ho:(ops[i]?).map (fun o=>(o.dst,o.op,o.guard))=some (some t,.indexAddr xt (.tmp s) (.tmp s'),none)) (hx:a.tmps.getD s undef=x) (hy:a.tmps.getD s' undef=y)
 (hr:(Instr.indexAt xt x y).run P w=.ok v w) (h:K (a.put (some t) v) w):wpOp P ops Q i K a w:=
 let ⟨ty,pos,aft,ho⟩:=op_of ho;st_val ho rfl rfl (by
  subst hx hy
  show (do let z←Instr.indexAt xt (a.tmps.getD s undef) (a.tmps.getD s' undef);pure (Next.value z):Sem Next).run P w=_
  rw [Sem.run_bind,hr];rfl) h
theorem st_load {xt:TypeId} (ho:(ops[i]?).map (fun o=>(o.dst,o.op,o.guard))=some (some t,.load xt (.tmp s),none)) (hx:a.tmps.getD s undef=x)
 (hr:(Instr.loadAt xt x).run P w=.ok v w) (h:K (a.put (some t) v) w):wpOp P ops Q i K a w:=
 let ⟨ty,pos,aft,ho⟩:=op_of ho;st_val ho rfl rfl (by
  subst hx
  show (do let z←Instr.loadAt xt (a.tmps.getD s undef);pure (Next.value z):Sem Next).run P w=_
  rw [Sem.run_bind,hr];rfl) h
theorem st_store {xt:TypeId} {s':Nat} (ho:(ops[i]?).map (fun o=>(o.dst,o.op,o.guard))=some (none,.store xt (.tmp s) (.tmp s'),none)) (hx:a.tmps.getD s undef=x) (hy:a.tmps.getD s' undef=y)
 (hr:(Instr.storeAt xt x y).run P w=.ok () w') (h:K a w'):wpOp P ops Q i K a w:=
 let ⟨ty,pos,aft,ho⟩:=op_of ho;st_skip ho rfl rfl (by
  subst hx hy
  show (do Instr.storeAt xt (a.tmps.getD s undef) (a.tmps.getD s' undef);pure Next.skip:Sem Next).run P w=_
  rw [Sem.run_bind,hr];rfl) h
theorem st_build {xt:TypeId} {parts:Array (Nat×Operand)} {vs:Array (Nat×Value)} (ho:(ops[i]?).map (fun o=>(o.dst,o.op,o.guard))=some (some t,.build xt parts,none)) (hp:(parts.map fun (i,x)=>(i,a.eval x))=vs)
 (hr:(Instr.build xt vs).run P w=.ok v w') (h:K (a.put (some t) v) w'):wpOp P ops Q i K a w:=
 let ⟨ty,pos,aft,ho⟩:=op_of ho;st_val ho rfl rfl (by
  subst hp
  show (do let z←Instr.build xt (parts.map fun (i,x)=>(i,a.eval x));pure (Next.value z):Sem Next).run P w=_
  rw [Sem.run_bind,hr];rfl) h
theorem st_buildSlice {xt:TypeId} {len:Nat} {parts:Array (Nat×Operand)} {vs:Array (Nat×Value)} (ho:(ops[i]?).map (fun o=>(o.dst,o.op,o.guard))=some (some t,.buildSlice xt len parts,none)) (hp:(parts.map fun (i,x)=>(i,a.eval x))=vs)
 (hr:(Instr.buildSlice xt len vs).run P w=.ok v w') (h:K (a.put (some t) v) w'):wpOp P ops Q i K a w:=
 let ⟨ty,pos,aft,ho⟩:=op_of ho;st_val ho rfl rfl (by
  subst hp
  show (do let z←Instr.buildSlice xt len (parts.map fun (i,x)=>(i,a.eval x));pure (Next.value z):Sem Next).run P w=_
  rw [Sem.run_bind,hr];rfl) h
end
def KeepsJ (b:Nat) (w w':World):Prop:=∀c,c≠b→c < w.heap.size→w'.heap[c]? =w.heap[c]?
theorem Up.keepsJ {w w':World} {b N:Nat} (h:Up w b N w'):KeepsJ b w w':=by
 obtain ⟨⟨n,os⟩,rfl⟩:=h
 intro c hc hl
 have e:(w.setCell ⟨b,1,none⟩ (.int .i64 (N:Int))).heap.size=w.heap.size:=Array.size_modify ..
 rw [More_heap _ _ _ (by rw [e];exact hl),heap_setCell_other w ⟨b,1,none⟩ c _ hc]
theorem Up.size {w w':World} {b N:Nat} (h:Up w b N w'):w.heap.size≤w'.heap.size:=by
 have:=Adds.below h
 have e:(w.setCell ⟨b,1,none⟩ (.int .i64 (N:Int))).heap.size=w.heap.size:=Array.size_modify ..
 have:=this.size
 omega
theorem Up.reflJ {w:World} {b len cap N:Nat} {a:Option Addr} (h:Nb w b a len cap N):Up w b N w:=by
 have e:w.setCell ⟨b,1,none⟩ (.int .i64 (N:Int))=w:=by
  have hs:=heap_setCell_same w b 1 _ _ (.int .i64 (N:Int)) h.1
  have hw:(w.setCell ⟨b,1,none⟩ (.int .i64 (N:Int))).heap=w.heap:=by
   apply Array.ext_getElem?
   intro k
   by_cases hk:k=b
   ·subst hk;rw [hs,h.1];rfl
   ·exact heap_setCell_other w ⟨b,1,none⟩ k _ hk
  show ({w with heap:=(w.setCell ⟨b,1,none⟩ (.int .i64 (N:Int))).heap}:World)=w
  rw [hw]
 unfold Up
 rw [e]
 exact Adds.refl w
def regOps:Code→Nat→Option (Array Oper)
 | .region i ops _,k=>if i=k then some ops else none
 | .seq c d,k=>(regOps c k).orElse fun _=>regOps d k
 | .block _ c,k=>regOps c k
 | .loop c,k=>regOps c k
 | .cond _ c d,k=>(regOps c k).orElse fun _=>regOps d k
 |_,_=>none
end
section
theorem Adds.size {w w':World} (h:Adds w w'):w.heap.size≤w'.heap.size:=h.below.size
theorem Adds.cell {w w':World} (h:Adds w w') {b i:Nat} (hb:b < w.heap.size):w'.cell? ⟨b,i,none⟩=w.cell? ⟨b,i,none⟩:=h.below.cell (p:=⟨b,i,none⟩) hb
theorem Adds.frozen {w w':World} (h:Adds w w') {b i:Nat} (hb:b < w.heap.size):w'.frozen? ⟨b,i,none⟩=w.frozen? ⟨b,i,none⟩:=h.below.frozen (p:=⟨b,i,none⟩) hb
theorem Adds.grownBy {w w':World} (h:Adds w w') (row:Option Nat):w.grownBy w' row:=by
 have hb:=h.below
 exact ⟨hb.os,hb.tape,hb.output,hb.size,fun k hk _=>hb.block k hk⟩
theorem grown_refl (w:World) (row:Option Nat):w.grownBy w row:=(Adds.refl w).grownBy row
theorem Adds.of_grown {w0 w w':World} {g:Nat} (h:Adds w0 w) (hg:w.grownBy w' (some g)) (hb:w0.heap.size≤g):Adds w0 w':=
 Adds.of_below (h.below.grown hg h.size fun k hk=>by cases hk;exact hb)
theorem grown_frozen {w w':World} {row:Option Nat} (hg:w.grownBy w' row) {a:Addr} (hl:a.block < w.heap.size) (hne:some a.block≠row):w'.frozen? a=w.frozen? a:=
 World.frozen?_of_block (hg.block a.block hl hne)
theorem grown_trans2 {w0 w1 w2:World} {b:Nat} {row:Option Nat} (h:w0.grownBy w1 (some b)) (k:w1.grownBy w2 row) (hr:∀g,row=some g→g=b∨w0.heap.size≤g):w0.grownBy w2 (some b):=
 ⟨k.os.trans h.os,k.tape.trans h.tape,k.output.trans h.output,Nat.le_trans h.size k.size,fun i hi hne=>(k.block i (by have:=h.size;omega) (fun e=>by
   rcases hr i e.symm with q|q
   ·exact hne (by rw [q])
   ·omega)).trans (h.block i hi hne)⟩
theorem add_plain (b o j:Nat):(⟨b,o,none⟩:Addr).add j=⟨b,o+j,none⟩:=by unfold Addr.add;split<;>simp_all
theorem addr_add_add (x:Addr) (i j:Nat):(x.add i).add j=x.add (i+j):=by
 unfold Addr.add
 by_cases hi:i=0<;>by_cases hj:j=0<;>simp [hi,hj,Nat.add_assoc]
theorem grown_setRow (w:World) (g:Nat) (c:Array Value):w.grownBy (w.setRow g c) (some g):=
 ⟨rfl,rfl,rfl,by simp [World.setRow],fun k _ hk=>by
   have hk':¬g=k:=fun e=>hk (by rw [e])
   simp [World.setRow,Array.getElem?_modify,hk']⟩
def Fl {α:Type} (cs:α→List Value) (d:List α):List Value:=d.flatMap cs
section
variable {α:Type} {cs:α→List Value} {sz:Nat} {E:TypeId}
theorem Fl_app (a b:List α):Fl cs (a++b)=Fl cs a++Fl cs b:=by simp [Fl]
theorem Fl_cons (c:α) (d:List α):Fl cs (c::d)=cs c++Fl cs d:=rfl
theorem Fl_one (c:α):Fl cs [c]=cs c:=by simp [Fl]
theorem Fl_len (hs:∀a,(cs a).length=sz):∀d:List α,(Fl cs d).length=d.length * sz
 |[]=>by simp [Fl]
 |c::d=>by rw [Fl_cons,List.length_append,hs,Fl_len hs d,List.length_cons,Nat.succ_mul,Nat.add_comm]
theorem Fl_get (hs:∀a,(cs a).length=sz):∀(d:List α) (j:Nat) (a:α),d[j]? =some a→∀(k:Nat) (u:Value),(cs a)[k]? =some u→(Fl cs d)[j * sz+k]? =some u
 |[],j,a,h,k,u,hu=>by simp at h
 |c::d,0,a,h,k,u,hu=>by
  simp at h;subst h
  rw [Fl_cons,Nat.zero_mul,Nat.zero_add,List.getElem?_append_left (List.getElem?_eq_some_iff.1 hu).1];exact hu
 |c::d,j+1,a,h,k,u,hu=>by
  rw [Fl_cons,List.getElem?_append_right (by rw [hs,Nat.succ_mul];omega),hs,show (j+1) * sz+k - sz=j * sz+k by rw [Nat.succ_mul];omega]
  exact Fl_get hs d j a (by simpa using h) k u hu
theorem Fl_oneCell (h1:∀a,∀u∈cs a,u.oneCell'=true) (d:List α):∀u∈Fl cs d,u.oneCell'=true:=by
 intro u hu
 simp only [Fl,List.mem_flatMap] at hu
 obtain ⟨c,_,hc⟩:=hu
 exact h1 c u hc
theorem Fl_set (hs:∀a,(cs a).length=sz):∀(d:List α) (i:Nat) (a:α),i < d.length→(Fl cs d).take (i * sz)++cs a++(Fl cs d).drop (i * sz+sz)=Fl cs (d.set i a)
 |[],i,a,h=>by simp at h
 |c::d,0,a,h=>by
  rw [Fl_cons,Nat.zero_mul,List.take_zero,Nat.zero_add,List.nil_append,List.drop_append,hs,List.drop_of_length_le (by rw [hs];exact Nat.le_refl _)]
  simp [Fl]
 |c::d,i+1,a,h=>by
  have ih:=Fl_set hs d i a (by simpa using h)
  have e:(i+1) * sz=sz+i * sz:=by rw [Nat.succ_mul];omega
  rw [List.set_cons_succ,Fl_cons,Fl_cons,←ih,e,List.take_append,List.drop_append,hs,List.take_of_length_le (by rw [hs];omega),List.drop_of_length_le (by rw [hs];omega)]
  rw [show sz+i * sz - sz=i * sz by omega,show sz+i * sz+sz - sz=i * sz+sz by omega]
  simp [List.append_assoc]
def AtG (cs:α→List Value) (w:World) (b o:Nat) (d:List α):Prop:=∀j u,(Fl cs d)[j]? =some u→w.cell? ⟨b,o+j,none⟩=some u
def HeldG (cs:α→List Value) (w:World) (a:Option Addr) (n:Nat) (d:List α):Prop:=d.length=n∧n≤4611686018427387904∧(0 < n→∃b o,a=some ⟨b,o,none⟩∧b < w.heap.size∧AtG cs w b o d)
def OwnsG (cs:α→List Value) (sz:Nat) (E:TypeId) (w:World) (base:Nat) (v:Value) (d:List α):Prop:=w.ownsRow base E sz v d.length (Fl cs d)
theorem AtG.keep {w w':World} {b o:Nat} {d:List α} (h:AtG cs w b o d) (k:∀i,w'.cell? ⟨b,i,none⟩=w.cell? ⟨b,i,none⟩):AtG cs w' b o d:=fun j u hd=>by rw [k];exact h j u hd
theorem AtG.el {w:World} {b o:Nat} {d:List α} (h:AtG cs w b o d) (hs:∀a,(cs a).length=sz) {j:Nat} {a:α} (hj:d[j]? =some a) {k:Nat} {u:Value} (hu:(cs a)[k]? =some u):w.cell? ⟨b,o+j * sz+k,none⟩=some u:=by
 rw [Nat.add_assoc];exact h _ u (Fl_get hs d j a hj k u hu)
theorem HeldG.adds {w w':World} {a:Option Addr} {n:Nat} {d:List α} (h:HeldG cs w a n d) (k:Adds w w'):HeldG cs w' a n d:=
 ⟨h.1,h.2.1,fun hn=>by
   obtain ⟨b,o,ha,hb,hat⟩:=h.2.2 hn
   exact ⟨b,o,ha,by have:=k.size;omega,hat.keep fun i=>k.cell hb⟩⟩
theorem HeldG.grown {w w':World} {g:Nat} {a:Option Addr} {n:Nat} {d:List α} (h:HeldG cs w a n d) (hg:w.grownBy w' (some g)) (hne:0 < n→∀x,a=some x→x.block≠g):HeldG cs w' a n d:=
 ⟨h.1,h.2.1,fun hn=>by
   obtain ⟨b,o,ha,hb,hat⟩:=h.2.2 hn
   exact ⟨b,o,ha,by have:=hg.size;omega,fun j u hd=>hg.cell (hat j u hd) (fun e=>by injection e with e;exact hne hn _ ha e)⟩⟩
theorem HeldG.nil (w:World) (a:Option Addr):HeldG cs w a 0 []:=⟨rfl,by omega,fun h=>absurd h (by omega)⟩
theorem get_el {d:List α} {k:Nat} (h:k < d.length):∃x,d[k]? =some x:=⟨d[k],List.getElem?_eq_getElem h⟩
theorem OwnsG.kept {w w':World} {base:Nat} {v:Value} {d:List α} {row:Option Nat} (h:OwnsG cs sz E w base v d) (hg:w.grownBy w' row) (hne:∀g,row=some g→g < base):OwnsG cs sz E w' base v d:=by
 refine World.ownsRow.kept h hg ?_
 cases hq:v.ownBlock with
 |none=>exact .inl rfl
 |some g=>exact .inr fun e=>by have h1:=(World.ownsRow.lt h g hq).1;have h2:=hne g e.symm;omega
theorem OwnsG.kept2 {w w':World} {base:Nat} {v:Value} {d:List α} {row:Option Nat} (h:OwnsG cs sz E w base v d) (hg:w.grownBy w' row) (hne:v.ownBlock=none∨v.ownBlock≠row):OwnsG cs sz E w' base v d:=World.ownsRow.kept h hg hne
theorem OwnsG.adds {w w':World} {base:Nat} {v:Value} {d:List α} (h:OwnsG cs sz E w base v d) (k:Adds w w'):OwnsG cs sz E w' base v d:=h.kept (row:=none) (k.grownBy none) (fun g e=>by cases e)
theorem OwnsG.mono {w:World} {base base':Nat} {v:Value} {d:List α} (h:OwnsG cs sz E w base v d) (k:base'≤base):OwnsG cs sz E w base' v d:=by
 refine ⟨h.1,?_⟩
 rcases h.2 with hn|⟨g,cap,cur,h1,h2,h3⟩
 ·exact .inl hn
 ·exact .inr ⟨g,cap,cur,h1,by omega,h3⟩
theorem OwnsG.raise {w:World} {base base':Nat} {v:Value} {d:List α} (h:OwnsG cs sz E w base v d) (k:∀g,v.ownBlock=some g→base'≤g):OwnsG cs sz E w base' v d:=by
 refine ⟨h.1,?_⟩
 rcases h.2 with hn|⟨g,cap,cur,h1,h2,h3⟩
 ·exact .inl hn
 ·exact .inr ⟨g,cap,cur,h1,k g (by rw [h1];rfl),h3⟩
theorem OwnsG.alloc {w:World} {base:Nat} {v:Value} {d:List α} (h:OwnsG cs sz E w base v d) (o:Obj):OwnsG cs sz E (w.alloc o) base v d:=World.ownsRow.alloc h o
theorem OwnsG.nil (w:World) (base:Nat):OwnsG cs sz E w base (.slice none 0 0) []:=World.ownsRow_nil w base E sz
theorem OwnsG.lt {w:World} {base g n cap:Nat} {d:List α} (h:OwnsG cs sz E w base (.slice (some ⟨g,0,none⟩) n cap) d):base≤g∧g < w.heap.size:=World.ownsRow.lt h g rfl
theorem OwnsG.elim {w:World} {base g n cap:Nat} {d:List α} (h:OwnsG cs sz E w base (.slice (some ⟨g,0,none⟩) n cap) d):
 ∃cur,w.heap[g]? =some (.cells cur E (0,0))∧base≤g∧d.length=n∧n≤cap∧cap≤maxLen∧cur.size=cap * sz∧cur.toList.take (n * sz)=Fl cs d:=by
 rcases h.2 with ⟨h',_⟩|⟨g',cap',cur,h',hb,hg,h1,h2,h3,h4⟩
 ·simp at h'
 ·simp only [Value.slice.injEq,Option.some.injEq,Addr.mk.injEq,and_true] at h'
  obtain ⟨rfl,hn,rfl⟩:=h'
  subst hn
  exact ⟨cur,hg,hb,rfl,h1,h2,h3,h4⟩
theorem OwnsG.at_ {w:World} {base g n cap:Nat} {d:List α} (h:OwnsG cs sz E w base (.slice (some ⟨g,0,none⟩) n cap) d):AtG cs w g 0 d:=by
 obtain ⟨cur,hg,_,_,_,_,_,ht⟩:=h.elim
 intro j u hu
 rw [Nat.zero_add,cell_of_row w g j cur _ (0,0) hg]
 rw [←ht,List.getElem?_take] at hu
 split at hu
 ·simpa using hu
 ·cases hu
theorem OwnsG.form2 {w:World} {base:Nat} {v:Value} {d:List α} (h:OwnsG cs sz E w base v d):
 ∃a n cap,v=.slice a n cap∧Hid (d.length=n)∧n≤cap∧cap≤9223372036854775807∧(0 < cap→∃g,a=some ⟨g,0,none⟩∧base≤g∧g < w.heap.size)∧(a=none→n=0∧cap=0):=by
 rcases h.2 with ⟨h',h0⟩|⟨g,cap,cur,h',hb,hh,h1,h2,h3⟩
 ·exact ⟨none,0,0,h',h0,by omega,by omega,fun h=>absurd h (by omega),fun _=>⟨rfl,rfl⟩⟩
 ·refine ⟨_,d.length,cap,h',rfl,h1,?_,fun _=>⟨g,rfl,hb,(Array.getElem?_eq_some_iff.1 hh).1⟩,fun e=>by cases e⟩
  simpa [maxLen] using h2
theorem OwnsG.held {w:World} {base:Nat} {a:Option Addr} {n cap:Nat} {d:List α} (h:OwnsG cs sz E w base (.slice a n cap) d) (hd:d.length≤4611686018427387904):HeldG cs w a n d:=by
 obtain ⟨a',n',cap',h1,h0,h2,h3,h4,_⟩:=h.form2
 have h0:=h0.out
 simp only [Value.slice.injEq] at h1
 obtain ⟨rfl,rfl,rfl⟩:=h1
 refine ⟨h0,by omega,fun hn=> ?_⟩
 obtain ⟨g,rfl,_,hg⟩:=h4 (by omega)
 exact ⟨g,0,rfl,hg,h.at_⟩
theorem OwnsG.len {w:World} {base n cap:Nat} {a:Option Addr} {d:List α} (h:OwnsG cs sz E w base (.slice a n cap) d):d.length=n:=by
 obtain ⟨a',n',cap',h1,h0,_⟩:=h.form2
 simp only [Value.slice.injEq] at h1
 obtain ⟨_,rfl,_⟩:=h1
 exact h0.out
theorem OwnsG.head {w:World} {base n cap:Nat} {a:Option Addr} {d:List α} (h:OwnsG cs sz E w base (.slice a n cap) d) (hn:0 < n):∃g,a=some ⟨g,0,none⟩∧base≤g∧g < w.heap.size:=by
 obtain ⟨a',n',cap',h1,h0,h2,_,h4,_⟩:=h.form2
 simp only [Value.slice.injEq] at h1
 obtain ⟨rfl,rfl,rfl⟩:=h1
 exact h4 (by omega)
theorem OwnsG.frozen {w:World} {base g n cap:Nat} {d:List α} (h:OwnsG cs sz E w base (.slice (some ⟨g,0,none⟩) n cap) d) (j:Nat):w.frozen? ⟨g,j,none⟩=false:=by
 obtain ⟨cur,hg,_⟩:=h.elim
 exact frozen_of_row w g j cur _ hg
theorem AddsG.grown {w0 w w':World} {v:Value} {d:List α} (h:Adds w0 w) (hg:w.grownBy w' v.ownBlock) (ho:OwnsG cs sz E w w0.heap.size v d):Adds w0 w':=
 Adds.of_below (h.below.grown hg h.size fun k hk=>(World.ownsRow.lt ho k hk).1)
theorem OwnsG.far {w w':World} {base b i:Nat} {v:Value} {d:List α} (ho:OwnsG cs sz E w base v d) (hg:w.grownBy w' v.ownBlock) (hb:b < base) (hw:b < w.heap.size):w'.cell? ⟨b,i,none⟩=w.cell? ⟨b,i,none⟩:=
 World.cell?_of_block (hg.block b hw fun e=>by have:=(World.ownsRow.lt ho b e.symm).1;omega)
theorem at_new (w:World) (t:TypeId) (c:Array Value) (e:List α) (hc:c.toList=Fl cs e) (b:Nat) (hb:b=w.heap.size):∀j u,(Fl cs e)[j]? =some u→(w.alloc (.cells c t)).cell? ((⟨b,0,none⟩:Addr).add j)=some u:=by
 subst hb
 intro j u hu
 rw [add_plain,Nat.zero_add,cell_of_row _ _ _ _ _ (0,0) (heap_last w _)]
 rw [←hc] at hu
 simpa using hu
theorem take_mid (A B:List Value) (o z m:Nat) (hB:B.length=z) (h:o+z≤m) (hm:m≤A.length):(A.take o++B++A.drop (o+z)).take m=(A.take m).take o++B++(A.take m).drop (o+z):=by
 apply List.ext_getElem?
 intro i
 have l1:(A.take o).length=o:=by rw [List.length_take];omega
 have l2:((A.take m).take o).length=o:=by rw [List.length_take,List.length_take];omega
 simp only [List.getElem?_take,List.getElem?_append,l1,l2,hB,List.getElem?_drop,List.append_assoc]
 by_cases h1:i < o
 ·rw [if_pos h1,if_pos (show i < m by omega)]
  simp [h1];omega
 ·rw [if_neg h1]
  by_cases h2:i - o < z
  ·rw [if_pos h2,if_pos (show i < m by omega)];simp [h1,h2]
  ·rw [if_neg h2]
   by_cases h3:i < m
   ·rw [if_pos h3,if_neg h1,if_neg h2,if_pos (by omega)]
   ·rw [if_neg h3,if_neg h1,if_neg h2,if_neg (by omega)]
theorem OwnsG.store {P:Program} (hs:∀a,(cs a).length=sz) (h1:∀a,∀u∈cs a,u.oneCell'=true) {t:TypeId} (hi:(P.info? t).map (·.size)=some sz) (hz:0 < sz) {w:World} {base g n cap:Nat} {d:List α} (h:OwnsG cs sz E w base (.slice (some ⟨g,0,none⟩) n cap) d)
 (i:Nat) (hn:i < n) (a:α) (c:Array Value) (hc:c.toList=cs a):
 ∃w',(wholeSet t ⟨g,i * sz,none⟩ (.agg c)).run P w=.ok () w'∧OwnsG cs sz E w' base (.slice (some ⟨g,0,none⟩) n cap) (d.set i a)∧w.grownBy w' (some g):=by
 obtain ⟨cur,hg,hb,hdn,hnc,hcm,hcs,ht⟩:=h.elim
 have hrow:rowOf w g=cur:=by unfold rowOf;rw [hg];rfl
 have hle:i * sz+sz≤n * sz:=by
  have:=Nat.mul_le_mul_right sz (show i+1≤n by omega)
  rwa [Nat.succ_mul] at this
 have hle2:n * sz≤cap * sz:=Nat.mul_le_mul_right sz hnc
 have hcz:c.size=sz:=by rw [←Array.length_toList,hc,hs]
 have hl:cur.toList.length=cap * sz:=by simpa using hcs
 refine ⟨_,set_part hi w g (i * sz) c hcz hz (by rw [hrow,hcs];omega) (by rw [hc];exact List.all_eq_true.2 (fun u hu=>h1 a u hu)),?_,grown_setRow w g _⟩
 subst hdn
 refine ⟨by rw [List.length_set];exact Fl_len hs (d.set i a)▸by rw [List.length_set],.inr ⟨g,cap,put8 (i * sz) c cur,by rw [List.length_set],hb,?_,by rw [List.length_set];exact hnc,hcm,?_,?_⟩⟩
 ·rw [hrow];exact setRow_heap w g cur _ E _ hg
 ·simp only [put8,List.size_toArray,List.length_append,List.length_take,List.length_drop,hl,Array.length_toList,hcz];omega
 ·rw [List.length_set]
  simp only [put8,hc]
  rw [hs,take_mid cur.toList (cs a) (i * sz) sz (d.length * sz) (hs a) hle (by rw [hl];exact hle2),ht,Fl_set hs d i a hn]
theorem wpList_appG {P:Program} (hs:∀a,(cs a).length=sz) (h1:∀a,∀u∈cs a,u.oneCell'=true) {T:TypeId} (hT:P.underlying T=some (.slice E)) {z:Value} {bytes:Nat} (hinfo:(P.info? E).map (fun i=>(i.zero,i.size,i.bytes))=some (some z,sz,bytes)) (hzs:z.cells.size=sz) (hz:0 < sz)
 {w:World} {ops:Array Oper} {rest:List Oper} {o:Oper} {a:Act} {Q:Exit→Act→World→Prop} (hgd:o.guard=none) (s x:Operand)
 (ho:o.op=.call {callee:=.builtin .append,args:=#[s,x],argTypes:=#[T,T]})
 (base:Nat) (v:Value) (d:List α) (hv:a.eval s=v) (hown:OwnsG cs sz E w base v d) (ad:Addr) (m c:Nat) (e:List α) (hx:a.eval x=.slice (some ad) m c) (hm:e.length=m) (hat:∀j u,(Fl cs e)[j]? =some u→w.cell? (ad.add j)=some u)
 (h63:d.length+m≤maxLen) (hb:(d.length+m) * bytes≤140737488355328) (hbase:base≤w.heap.size)
 (h:∀v' w',OwnsG cs sz E w' base v' (d++e)→w.grownBy w' v.ownBlock→wpList P ops Q rest (a.put o.dst v') w'):wpList P ops Q (o::rest) a w:=by
 obtain ⟨i0,hi,hz0,hz1,hz2⟩:=info_parts hinfo
 refine wpList_append_own w hgd s x T ho base E i0 z sz bytes hT hi hz0 hz1 hz2 hzs hz v d.length (Fl cs d) hv hown ad m c (Fl cs e) hx (by rw [Fl_len hs,hm]) hat (Fl_oneCell h1 e) h63 hb hbase ?_
 intro v' w' k1 k2 k3
 refine h v' w' ?_ k2
 unfold OwnsG
 rw [List.length_append,hm,Fl_app]
 exact k1
theorem made_cells (c:Array Value) (hz:c.size=sz) (h0:0 < sz) (a:α) (hc:c.toList=cs a):∀n,(madeCells c (n * sz)).toList=Fl cs (List.replicate n a):=by
 have hs:(cs a).length=sz:=by rw [←hc];simpa using hz
 intro n
 apply List.ext_getElem?
 intro j
 have hl:(Fl cs (List.replicate n a)).length=n * sz:=by
  induction n with
  |zero=>simp [Fl]
  |succ n ih=>rw [List.replicate_succ,Fl_cons,List.length_append,ih,hs,Nat.succ_mul,Nat.add_comm]
 by_cases hj:j < n * sz
 ·have hq:j / sz < n:=Nat.div_lt_of_lt_mul (by rw [Nat.mul_comm];exact hj)
  have hr:j % sz < sz:=Nat.mod_lt _ h0
  have hd:sz * (j / sz)+j % sz=j:=Nat.div_add_mod j sz
  have hu:(cs a)[j % sz]? =some ((cs a)[j % sz]'(by omega)):=List.getElem?_eq_getElem _
  have key:∀(n q:Nat),q < n→∀k u,(cs a)[k]? =some u→(Fl cs (List.replicate n a))[q * sz+k]? =some u:=by
   intro n
   induction n with
   |zero=>intro q hq;omega
   |succ n ih=>
    intro q hq k u hu
    have hk:k < sz:=by have:=(List.getElem?_eq_some_iff.1 hu).1;omega
    rw [List.replicate_succ,Fl_cons]
    cases q with
    |zero=>rw [Nat.zero_mul,Nat.zero_add,List.getElem?_append_left (by omega)];exact hu
    |succ q=>rw [List.getElem?_append_right (by rw [hs,Nat.succ_mul];omega),hs,show (q+1) * sz+k - sz=q * sz+k by rw [Nat.succ_mul];omega];exact ih q (by omega) k u hu
  have k1:=key n (j / sz) hq (j % sz) _ hu
  rw [Nat.mul_comm,hd] at k1
  rw [k1]
  subst hz
  have hjc:j % c.size < c.size:=hr
  simp [madeCells,hj,←hc,hjc]
 ·rw [List.getElem?_eq_none (by simp [madeCells];omega),List.getElem?_eq_none (by omega)]
end
end
namespace S
variable {a b c p r y:Int} {i k:Nat} {zs:List Int}
structure Inp where
 r:Bool
 h:Bool
 z:Bool
 s:Bool
 t:Bool
 a:Bool
 b:Bool
 c:Bool
 q:Int
 p:Int
instance:Inhabited Inp:=⟨⟨false,false,false,false,false,false,false,false,0,0⟩⟩
def Inp.cs (x:Inp):Array Value:=#[.bool x.r,.bool x.h,.bool x.z,.bool x.s,.bool x.t,.bool x.a,.bool x.b,.bool x.c,.int .u8 x.q,.int .u8 x.p]
def Inp.ok (x:Inp):Prop:=(0≤x.q∧x.q < 256)∧(0≤x.p∧x.p < 256)
def idle:Inp:=⟨true,false,false,false,false,false,false,false,0,0⟩
def btm (c m:Int):Bool:=bits .and .u8 c m !=0
def chk (c r p:Int):Int:=bits .xor .u8 (bits .xor .u8 (bits .xor .u8 c r) p) 165
def inp (c r p:Int):Inp:=⟨!btm c 1,btm c 2,btm c 4,btm c 8,btm c 16,btm c 32,btm c 64,btm c 128,r,p⟩
def ent (c r p k:Int):Inp:=if k=chk c r p then inp c r p else idle
def wh (b:Bool) (m:Int):Int:=if b then m else 0
def pw (k:Int):Int:=2 ^ k.toNat
def ctl (x:Inp):Int:=bits .or .u8 (bits .or .u8 (bits .or .u8 (bits .or .u8 (bits .or .u8 (bits .or .u8 (bits .or .u8 (wh (!x.r) 1) (wh x.h 2)) (wh x.z 4)) (wh x.s 8)) (wh x.t 16)) (wh x.a 32)) (wh x.b 64)) (wh x.c 128)
def byt (z:Int):Prop:=0≤z∧z < 256
theorem xor_byt (ha:byt a) (hb:byt b):byt (bits .xor .u8 a b):=by
 rw [u8_xor a b ha.1 ha.2 hb.1 hb.2]
 obtain ⟨a0,a1⟩:=ha
 obtain ⟨b0,b1⟩:=hb
 have:a.toNat ^^^ b.toNat < 2 ^ 8:=Nat.xor_lt_two_pow (by omega) (by omega)
 exact ⟨by omega,by omega⟩
theorem chk_byt (hc:byt c) (hr:byt r) (hp:byt p):byt (chk c r p):=xor_byt (xor_byt (xor_byt hc hr) hp) ⟨by decide,by decide⟩
theorem ctl_all:∀r h z s t a b c:Bool,(decide (0≤ctl ⟨r,h,z,s,t,a,b,c,0,0⟩) && decide (ctl ⟨r,h,z,s,t,a,b,c,0,0⟩ < 256) && ((!btm (ctl ⟨r,h,z,s,t,a,b,c,0,0⟩) 1)==r) && (btm (ctl ⟨r,h,z,s,t,a,b,c,0,0⟩) 2==h) && (btm (ctl ⟨r,h,z,s,t,a,b,c,0,0⟩) 4==z) && (btm (ctl ⟨r,h,z,s,t,a,b,c,0,0⟩) 8==s) &&
 (btm (ctl ⟨r,h,z,s,t,a,b,c,0,0⟩) 16==t) && (btm (ctl ⟨r,h,z,s,t,a,b,c,0,0⟩) 32==a) && (btm (ctl ⟨r,h,z,s,t,a,b,c,0,0⟩) 64==b) && (btm (ctl ⟨r,h,z,s,t,a,b,c,0,0⟩) 128==c))=true:=by
 intro r h z s t a b c
 cases r<;>cases h<;>cases z<;>cases s<;>cases t<;>cases a<;>cases b<;>cases c<;>decide+kernel
theorem ctl_facts (x:Inp):byt (ctl x)∧inp (ctl x) x.q x.p=x:=by
 obtain ⟨r,h,z,s,t,a,b,c,q,p⟩:=x
 have hk:=ctl_all r h z s t a b c
 have e:ctl ⟨r,h,z,s,t,a,b,c,q,p⟩=ctl ⟨r,h,z,s,t,a,b,c,0,0⟩:=rfl
 simp only [Bool.and_eq_true,decide_eq_true_eq,beq_iff_eq] at hk
 obtain ⟨⟨⟨⟨⟨⟨⟨⟨⟨h0,h1⟩,e1⟩,e2⟩,e3⟩,e4⟩,e5⟩,e6⟩,e7⟩,e8⟩:=hk
 rw [e]
 refine ⟨⟨h0,h1⟩,?_⟩
 unfold inp
 rw [e1,e2,e3,e4,e5,e6,e7,e8]
def el (zs:List Int) (i:Nat):Inp:=ent (zs.getD (i * 4) 0) (zs.getD (i * 4+1) 0) (zs.getD (i * 4+2) 0) (zs.getD (i * 4+3) 0)
def dec (zs:List Int):List Inp:=(List.range (min (zs.length / 4) 65536)).map (el zs)
def enc1 (x:Inp):List Int:=[ctl x,x.q,x.p,chk (ctl x) x.q x.p]
def encs (l:List Inp):List Int:=l.flatMap enc1
def enc (l:List Inp):List Int:=encs (l.take 65536)
def decK (z:Inp) (zs:List Int) (n k:Nat):List Inp:=(List.range n).map fun i=>if i < k then el zs i else z
theorem dec_len (zs:List Int):(dec zs).length=min (zs.length / 4) 65536:=by simp [dec]
theorem encs_len:∀l:List Inp,(encs l).length=l.length * 4
 |[]=>rfl
 |x::l=>by
  have e:encs (x::l)=enc1 x++encs l:=rfl
  rw [e,List.length_append,encs_len l,List.length_cons];show 4+_=_;omega
theorem enc_len (l:List Inp):(enc l).length=min l.length 65536 * 4:=by unfold enc;rw [encs_len,List.length_take];omega
theorem encs_app (l m:List Inp):encs (l++m)=encs l++encs m:=by simp [encs]
theorem encs_step {l:List Inp} {x:Inp} (h:l[k]? =some x):encs (l.take (k+1))=encs (l.take k)++enc1 x:=by
 have hk:=(List.getElem?_eq_some_iff.1 h).1
 rw [List.take_add_one,h,encs_app]
 simp [encs]
theorem encs_byt {l:List Inp} (h:∀x∈l,x.ok):∀z∈encs l,byt z:=by
 intro z hz
 simp only [encs,List.mem_flatMap] at hz
 obtain ⟨x,hx,hz⟩:=hz
 have hc:=(ctl_facts x).1
 have ho:=h x hx
 simp only [enc1,List.mem_cons,List.not_mem_nil,or_false] at hz
 rcases hz with rfl|rfl|rfl|rfl
 ·exact hc
 ·exact ho.1
 ·exact ho.2
 ·exact chk_byt hc ho.1 ho.2
theorem enc_byt {l:List Inp} (h:∀x∈l,x.ok):∀z∈enc l,byt z:=encs_byt fun x hx=>h x (List.mem_of_mem_take hx)
theorem getD_set_ne (zs:List Int) {j:Nat} (y:Int) (h:k≠j):(zs.set k y).getD j 0=zs.getD j 0:=by simp [List.getD,List.getElem?_set_ne h]
end S
section
open Go.ChangeShapes Go.WideShapes Go.ChangeAt Go.RowKit Go.Deep
variable {E:Prop} {a:Act} {b base cap g j len n o:Nat} {d:List S.Inp} {w:World} {x:S.Inp} {zs:List Int}
def csB (z:Int):List Value:=[.int .u8 z]
theorem csB_len:∀z,(csB z).length=1:=fun _=>rfl
theorem csB_one:∀z,∀u∈csB z,u.oneCell'=true:=by
 intro z u hu
 simp only [csB,List.mem_cons,List.not_mem_nil,or_false] at hu
 subst hu;rfl
abbrev HeldB:=HeldG csB
abbrev OwnsB:=OwnsG csB 1 5
theorem infoB:(Tryz.prog.info? 5).map (fun i=>(i.zero,i.size,i.bytes))=some (some (.int .u8 0),1,1):=by kernel_rfl
theorem FlB:∀zs:List Int,Fl csB zs=zs.map (Value.int .u8)
 |[]=>rfl
 |z::zs=>by rw [Fl_cons,FlB zs];rfl
theorem AtB.el (h:AtG csB w b o zs) (hj:j < zs.length):w.cell? ⟨b,o+j,none⟩=some (.int .u8 (zs.getD j 0)):=by
 have hx:zs[j]? =some (zs.getD j 0):=by simp [List.getD,List.getElem?_eq_getElem hj]
 have:=h.el csB_len hx (k:=0) (u:=.int .u8 (zs.getD j 0)) rfl
 rwa [Nat.mul_one,Nat.add_zero] at this
theorem heldB_of {a:Option Addr} (h:IsRow .u8 w a len cap zs) (hl:len≤4611686018427387904):∃d,HeldB w a len d∧∀z∈d,S.byt z:=by
 rcases h with ⟨rfl,rfl,_,rfl⟩|⟨x,rfl,h2,h3,h4,h5,h6⟩
 ·exact ⟨[],HeldG.nil _ _,fun z hz=>by cases hz⟩
 ·refine ⟨zs.take len,⟨by rw [List.length_take];omega,hl,fun hn=> ?_⟩,fun z hz=> ?_⟩
  ·have h0:=h5 0 (by omega)
   rw [show x.add 0=x by simp [Addr.add]] at h0
   obtain ⟨b,o,sp⟩:=x
   obtain rfl:sp=none:=cell_spot h0
   refine ⟨b,o,rfl,cell_lt h0,fun j u hu=> ?_⟩
   rw [FlB,List.getElem?_map,List.getElem?_take] at hu
   split at hu
   ·rename_i hj
    have:=h5 j (by omega)
    rw [add_plain] at this
    have hx:zs[j]? =some (zs.getD j 0):=by simp [List.getD,List.getElem?_eq_getElem (show j < zs.length by omega)]
    rw [hx] at hu
    rw [this];simpa using hu
   ·simp at hu
  ·have hw:=h6 z (List.mem_of_mem_take hz)
   exact ⟨(bounds_u8 hw).1,Int.lt_add_one_of_le (bounds_u8 hw).2⟩
theorem rowB_cap {k:IntKind} {a:Option Addr} (h:IsRow k w a len cap zs):len≤cap∧cap≤9223372036854775807:=by
 rcases h with ⟨rfl,rfl,rfl,rfl⟩|⟨x,rfl,h2,h3,_⟩
 ·exact ⟨by omega,by omega⟩
 ·exact ⟨h2,by simpa [maxLen] using h3⟩
theorem wpList_appB {ops:Array Oper} {rest:List Oper} {o:Oper} {Q:Exit→Act→World→Prop} (hgd:o.guard=none) (s x:Operand)
 (ho:o.op=.call {callee:=.builtin .append,args:=#[s,x],argTypes:=#[30,30]})
 (base:Nat) (v:Value) (d:List Int) (hv:a.eval s=v) (hown:OwnsB w base v d) (ad:Addr) (m c:Nat) (e:List Int) (hx:a.eval x=.slice (some ad) m c) (hm:e.length=m) (hat:∀j u,(Fl csB e)[j]? =some u→w.cell? (ad.add j)=some u)
 (hsz:d.length+m≤140737488355328) (hbase:base≤w.heap.size)
 (h:∀v' w',OwnsB w' base v' (d++e)→w.grownBy w' v.ownBlock→wpList Tryz.prog ops Q rest (a.put o.dst v') w'):wpList Tryz.prog ops Q (o::rest) a w:=
 wpList_appG csB_len csB_one Tryz.underlying30 infoB rfl (by decide) hgd s x ho base v d hv hown ad m c e hx hm hat (by unfold maxLen;omega) (by omega) hbase h
theorem step_appB {ops:Array Oper} {o:Oper} {K:Act→World→Prop} {Q:Exit→Act→World→Prop} (hgd:o.guard=none) (s x:Operand)
 (ho:o.op=.call {callee:=.builtin .append,args:=#[s,x],argTypes:=#[30,30]})
 (base:Nat) (v:Value) (d:List Int) (hv:a.eval s=v) (e:List Int) (m:Nat) (c:Array Value) (t:TypeId) (b:Nat) (hx:a.eval x=.slice (some ⟨b,0,none⟩) m m) (hm:e.length=m) (hc:c.toList=Fl csB e) (hb:b=w.heap.size) (hown:OwnsB w base v d)
 (hsz:d.length+m≤140737488355328) (hbase:base≤w.heap.size)
 (h:∀v' w',OwnsB w' base v' (d++e)→w.grownBy w' v.ownBlock→K (a.put o.dst v') w'):if Region.wanted o (yielded ops a.tmps)=true then Oper.wp Tryz.prog o a (w.alloc (.cells c t)) K Q else E:=by
 have hw:Region.wanted o (yielded ops a.tmps)=true:=by simp [Region.wanted,hgd]
 rw [if_pos hw]
 subst hb
 obtain ⟨i0,hi,hz0,hz1,hz2⟩:=info_parts infoB
 refine wp_append_own _ s x 30 ho base 5 i0 (.int .u8 0) 1 1 Tryz.underlying30 hi hz0 hz1 hz2 rfl (by decide) v d.length (Fl csB d) hv (hown.alloc _) ⟨w.heap.size,0,none⟩ m m (Fl csB e) hx (by rw [Fl_len csB_len,hm]) (at_new w t c e hc _ rfl) (Fl_oneCell csB_one e) (by unfold maxLen;omega) (by omega) (by simp;omega) ?_
 intro v' w' k1 k2 k3
 refine h v' w' ?_ (World.grownBy.trans (World.grownBy_alloc w _ _) k2)
 unfold OwnsB OwnsG
 rw [List.length_append,hm,Fl_app]
 exact k1
theorem OwnsB.store {d:List Int} (h:OwnsB w base (.slice (some ⟨g,0,none⟩) n cap) d) (i:Nat) (y:Int):
 OwnsB (w.setCell ⟨g,i,none⟩ (.int .u8 y)) base (.slice (some ⟨g,0,none⟩) n cap) (d.set i y)∧w.grownBy (w.setCell ⟨g,i,none⟩ (.int .u8 y)) (some g):=by
 have hn:=h.len
 subst hn
 have k:=World.ownsRow.stored h i (.int .u8 y)
 refine ⟨?_,k.2⟩
 have k1:=k.1
 rw [FlB,←List.map_set] at k1
 show World.ownsRow _ _ _ _ _ _ _
 rw [List.length_set,FlB]
 exact k1
theorem wpList_makeB0 {ops:Array Oper} {rest:List Oper} {o:Oper} {Q:Exit→Act→World→Prop} (hgd:o.guard=none) (l c:Operand) (ho:o.op=Op.makeSlice 30 l c)
 (kl kc:IntKind) (C:Int) (n:Nat) (hl:a.eval l=.int kl 0) (hc:a.eval c=.int kc C) (hC:C=(n:Int)) (hn:n≤1000000000) (b:Nat) (hb:b=w.heap.size)
 (h:∀w',OwnsB w' b (.slice (some ⟨b,0,none⟩) 0 n) []→w.grownBy w' none→wpList Tryz.prog ops Q rest (a.put o.dst (.slice (some ⟨b,0,none⟩) 0 n)) w'):wpList Tryz.prog ops Q (o::rest) a w:=by
 subst hb
 obtain ⟨i0,hi,hz0,hz1,hz2⟩:=info_parts infoB
 exact wpList_make_own w hgd l c 30 ho w.heap.size 5 i0 (.int .u8 0) 1 Tryz.underlying30 hi hz0 hz1 kl kc C n hl hc hC (by rw [hz2];omega) (by unfold maxLen;omega) (Nat.le_refl _) h
theorem wpList_makeB {ops:Array Oper} {rest:List Oper} {o:Oper} {Q:Exit→Act→World→Prop} (hgd:o.guard=none) (l c:Operand) (ho:o.op=Op.makeSlice 30 l c)
 (kl kc:IntKind) (L C:Int) (n:Nat) (hl:a.eval l=.int kl L) (hc:a.eval c=.int kc C) (hL:L=(n:Int)) (hC:C=(n:Int)) (hn:n≤1000000000) (b:Nat) (hb:b=w.heap.size)
 (h:∀w',OwnsB w' b (.slice (some ⟨b,0,none⟩) n n) (List.replicate n 0)→w.grownBy w' none→wpList Tryz.prog ops Q rest (a.put o.dst (.slice (some ⟨b,0,none⟩) n n)) w'):wpList Tryz.prog ops Q (o::rest) a w:=by
 subst hb
 obtain ⟨i0,hi,hz0,hz1,hz2⟩:=info_parts infoB
 refine wpList_make_full w hgd l c 30 ho w.heap.size 5 i0 (.int .u8 0) 1 Tryz.underlying30 hi hz0 hz1 kl kc L C n hl hc hL hC (by rw [hz2];omega) (by unfold maxLen;omega) (Nat.le_refl _) ?_
 intro w' h1 h2
 refine h w' ?_ h2
 have e:=made_cells (cs:=csB) (sz:=1) #[.int .u8 0] rfl (by decide) 0 rfl n
 unfold OwnsB OwnsG
 rw [List.length_replicate,←e]
 exact h1
theorem OwnsB.made (w:World) (n:Nat) (hn:n≤1000000000):OwnsB (w.alloc (.cells (madeCells #[.int .u8 0] n) 5)) w.heap.size (.slice (some ⟨w.heap.size,0,none⟩) n n) (List.replicate n 0):=by
 have e:=made_cells (cs:=csB) (sz:=1) #[.int .u8 0] rfl (by decide) 0 rfl n
 rw [Nat.mul_one] at e
 exact ⟨by rw [FlB];simp,.inr ⟨w.heap.size,n,_,by simp,Nat.le_refl _,heap_alloc_new w _,by simp,by unfold maxLen;omega,by rw [size_madeCells,Nat.mul_one],by rw [←e,List.take_of_length_le (by simp [madeCells])]⟩⟩
def csI (x:S.Inp):List Value:=x.cs.toList
theorem csI_len:∀x,(csI x).length=10:=fun _=>rfl
theorem csI_one:∀x,∀u∈csI x,u.oneCell'=true:=by
 intro x u hu
 simp only [csI,S.Inp.cs,List.mem_cons,List.not_mem_nil,or_false] at hu
 rcases hu with rfl|rfl|rfl|rfl|rfl|rfl|rfl|rfl|rfl|rfl<;>rfl
abbrev HeldI:=HeldG csI
abbrev OwnsI:=OwnsG csI 10 93
def S.zero:S.Inp:=⟨false,false,false,false,false,false,false,false,0,0⟩
theorem infoI:(Tryz.prog.info? 93).map (fun i=>(i.zero,i.size,i.bytes))=some (some (.agg S.zero.cs),10,10):=by kernel_rfl
theorem sizeI:(Tryz.prog.info? 93).map (·.size)=some 10:=by kernel_rfl
theorem wpList_appI {ops:Array Oper} {rest:List Oper} {o:Oper} {Q:Exit→Act→World→Prop} (hgd:o.guard=none) (s x:Operand)
 (ho:o.op=.call {callee:=.builtin .append,args:=#[s,x],argTypes:=#[90,90]})
 (base:Nat) (v:Value) (d:List S.Inp) (hv:a.eval s=v) (hown:OwnsI w base v d) (ad:Addr) (m c:Nat) (e:List S.Inp) (hx:a.eval x=.slice (some ad) m c) (hm:e.length=m) (hat:∀j u,(Fl csI e)[j]? =some u→w.cell? (ad.add j)=some u)
 (hsz:d.length+m≤14073748835532) (hbase:base≤w.heap.size)
 (h:∀v' w',OwnsI w' base v' (d++e)→w.grownBy w' v.ownBlock→wpList Tryz.prog ops Q rest (a.put o.dst v') w'):wpList Tryz.prog ops Q (o::rest) a w:=
 wpList_appG csI_len csI_one Tryz.underlying90 infoI rfl (by decide) hgd s x ho base v d hv hown ad m c e hx hm hat (by unfold maxLen;omega) (by omega) hbase h
theorem wpList_appI1 {ops:Array Oper} {rest:List Oper} {o:Oper} {Q:Exit→Act→World→Prop} (hgd:o.guard=none) (s x:Operand)
 (ho:o.op=.call {callee:=.builtin .append,args:=#[s,x],argTypes:=#[90,90]})
 (base:Nat) (v:Value) (d:List S.Inp) (hv:a.eval s=v) (y:S.Inp) (c:Array Value) (t:TypeId) (b:Nat) (hx:a.eval x=.slice (some ⟨b,0,none⟩) 1 1) (hc:c.toList=csI y) (hb:b=w.heap.size) (hown:OwnsI w base v d)
 (hsz:d.length≤14073748835531) (hbase:base≤w.heap.size)
 (h:∀v' w',OwnsI w' base v' (d++[y])→w.grownBy w' v.ownBlock→wpList Tryz.prog ops Q rest (a.put o.dst v') w'):wpList Tryz.prog ops Q (o::rest) a (w.alloc (.cells c t)):=by
 subst hb
 refine wpList_appI hgd s x ho base v d hv (hown.alloc _) ⟨w.heap.size,0,none⟩ 1 1 [y] hx rfl (at_new w t c [y] (by rw [Fl_one];exact hc) _ rfl) (by omega) (by simp;omega) ?_
 intro v' w' h1 h2
 exact h v' w' h1 (World.grownBy.trans (World.grownBy_alloc w _ _) h2)
theorem wpList_appI1_at {ops:Array Oper} {rest:List Oper} {o:Oper} {Q:Exit→Act→World→Prop} (hgd:o.guard=none) (s x:Operand)
 (ho:o.op=.call {callee:=.builtin .append,args:=#[s,x],argTypes:=#[90,90]})
 (base:Nat) (v:Value) (d:List S.Inp) (hv:a.eval s=v) (y:S.Inp) (c:Array Value) (t:TypeId) (b:Nat) (hx:a.eval x=.slice (some ⟨b,0,none⟩) 1 1) (hc:c.toList=csI y) (hb:b=w.heap.size) (hown:OwnsI w base v d)
 (hsz:d.length≤14073748835531) (hbase:base≤w.heap.size)
 (h:∀v' w',OwnsI w' base v' (d++[y])→w.grownBy w' v.ownBlock→(∀g,v'.ownBlock=some g→v.ownBlock=some g∨w.heap.size < g)→wpList Tryz.prog ops Q rest (a.put o.dst v') w'):wpList Tryz.prog ops Q (o::rest) a (w.alloc (.cells c t)):=by
 subst hb
 obtain ⟨i0,hi,hz0,hz1,hz2⟩:=info_parts infoI
 refine wpList_append_own_at _ hgd s x 90 ho base 93 i0 (.agg S.zero.cs) 10 10 Tryz.underlying90 hi hz0 hz1 hz2 rfl (by decide) v d.length (Fl csI d) hv (hown.alloc _) ⟨w.heap.size,0,none⟩ 1 1 (Fl csI [y]) hx (by rw [Fl_len csI_len];rfl) (at_new w t c [y] (by rw [Fl_one];exact hc) _ rfl) (Fl_oneCell csI_one [y]) (by unfold maxLen;omega) (by omega) (by simp;omega) ?_
 intro v' w' k1 k2 k3 k4
 refine h v' w' ?_ (World.grownBy.trans (World.grownBy_alloc w _ _) k2) (fun g hg=> ?_)
 ·unfold OwnsI OwnsG
  rw [List.length_append,Fl_app]
  exact k1
 ·rcases k4 with e|e
  ·exact .inl (e▸hg)
  ·rw [e] at hg
   injection hg with hg
   have:(w.alloc (.cells c t)).heap.size=w.heap.size+1:=Array.size_push ..
   exact .inr (by omega)
theorem step_appI1 {ops:Array Oper} {o:Oper} {K:Act→World→Prop} {Q:Exit→Act→World→Prop} (hgd:o.guard=none) (s x:Operand)
 (ho:o.op=.call {callee:=.builtin .append,args:=#[s,x],argTypes:=#[90,90]})
 (base:Nat) (v:Value) (d:List S.Inp) (hv:a.eval s=v) (y:S.Inp) (c:Array Value) (t:TypeId) (b:Nat) (hx:a.eval x=.slice (some ⟨b,0,none⟩) 1 1) (hc:c.toList=csI y) (hb:b=w.heap.size) (hown:OwnsI w base v d)
 (hsz:d.length≤14073748835531) (hbase:base≤w.heap.size)
 (h:∀v' w',OwnsI w' base v' (d++[y])→w.grownBy w' v.ownBlock→K (a.put o.dst v') w'):if Region.wanted o (yielded ops a.tmps)=true then Oper.wp Tryz.prog o a (w.alloc (.cells c t)) K Q else E:=by
 have hw:Region.wanted o (yielded ops a.tmps)=true:=by simp [Region.wanted,hgd]
 rw [if_pos hw]
 subst hb
 obtain ⟨i0,hi,hz0,hz1,hz2⟩:=info_parts infoI
 refine wp_append_own _ s x 90 ho base 93 i0 (.agg S.zero.cs) 10 10 Tryz.underlying90 hi hz0 hz1 hz2 rfl (by decide) v d.length (Fl csI d) hv (hown.alloc _) ⟨w.heap.size,0,none⟩ 1 1 (Fl csI [y]) hx (by rw [Fl_len csI_len];rfl) (at_new w t c [y] (by rw [Fl_one];exact hc) _ rfl) (Fl_oneCell csI_one [y]) (by unfold maxLen;omega) (by omega) (by simp;omega) ?_
 intro v' w' k1 k2 k3
 refine h v' w' ?_ (World.grownBy.trans (World.grownBy_alloc w _ _) k2)
 unfold OwnsI OwnsG
 rw [List.length_append,Fl_app]
 exact k1
theorem AtI.load (h:AtG csI w b o d) (hj:d[j]? =some x) (p:Nat) (hp:p=o+j * 10):(wholeVar 93 ⟨b,p,none⟩).run Tryz.prog w=.ok (.agg x.cs) w:=by
 subst hp
 exact whole_cells Tryz.underlying93 rfl sizeI w b _ x.cs rfl fun k u hu=>h.el csI_len hj (by simpa [csI] using hu)
theorem AtI.loadM (h:AtG csI w b o d) (hb:b < w.heap.size) (hj:d[j]? =some x) (p:Nat) (hp:p=o+j * 10):∀n os,(wholeVar 93 ⟨b,p,none⟩).run Tryz.prog (More w n os)=.ok (.agg x.cs) (More w n os):=fun n os=>
 AtI.load (h.keep fun i=>(Adds.more (Adds.refl w) n os).cell hb) hj p hp
theorem OwnsI.store (h:OwnsI w base (.slice (some ⟨g,0,none⟩) n cap) d) (i:Nat) (hn:i < n) (x:S.Inp):
 ∃w',(wholeSet 93 ⟨g,i * 10,none⟩ (.agg x.cs)).run Tryz.prog w=.ok () w'∧OwnsI w' base (.slice (some ⟨g,0,none⟩) n cap) (d.set i x)∧w.grownBy w' (some g):=
 OwnsG.store csI_len csI_one sizeI (by decide) h i hn x x.cs rfl
theorem OwnsI.made (w:World) (n:Nat) (hn:n≤1000000000):OwnsI (w.alloc (.cells (madeCells S.zero.cs (n * 10)) 93)) w.heap.size (.slice (some ⟨w.heap.size,0,none⟩) n n) (List.replicate n S.zero):=by
 have e:=made_cells (cs:=csI) (sz:=10) S.zero.cs rfl (by decide) S.zero rfl n
 exact ⟨by rw [Fl_len csI_len],.inr ⟨w.heap.size,n,_,by simp,Nat.le_refl _,heap_alloc_new w _,by simp,by unfold maxLen;omega,by rw [size_madeCells],by rw [←e,List.take_of_length_le (by simp [madeCells])]⟩⟩
theorem wpList_makeI {ops:Array Oper} {rest:List Oper} {o:Oper} {Q:Exit→Act→World→Prop} (hgd:o.guard=none) (l c:Operand) (ho:o.op=Op.makeSlice 90 l c)
 (kl kc:IntKind) (L C:Int) (n:Nat) (hl:a.eval l=.int kl L) (hc:a.eval c=.int kc C) (hL:L=(n:Int)) (hC:C=(n:Int)) (hn:n≤1000000000) (b:Nat) (hb:b=w.heap.size)
 (h:∀w',OwnsI w' b (.slice (some ⟨b,0,none⟩) n n) (List.replicate n S.zero)→w.grownBy w' none→wpList Tryz.prog ops Q rest (a.put o.dst (.slice (some ⟨b,0,none⟩) n n)) w'):wpList Tryz.prog ops Q (o::rest) a w:=by
 subst hb
 obtain ⟨i0,hi,hz0,hz1,hz2⟩:=info_parts infoI
 refine wpList_make_full w hgd l c 90 ho w.heap.size 93 i0 (.agg S.zero.cs) 10 Tryz.underlying90 hi hz0 hz1 kl kc L C n hl hc hL hC (by rw [hz2];omega) (by unfold maxLen;omega) (Nat.le_refl _) ?_
 intro w' h1 h2
 refine h w' ?_ h2
 have e:=made_cells (cs:=csI) (sz:=10) S.zero.cs rfl (by decide) S.zero rfl n
 unfold OwnsI OwnsG
 rw [List.length_replicate,←e]
 exact h1
theorem heldI_of (w:World) (x:Addr) (len:Nat) (h61:len≤4611686018427387904) (hc:∀i,i < len→∃r:S.Inp,r.ok∧∀k u,(csI r)[k]? =some u→w.cell? (x.add (i * 10+k))=some u):∃l,HeldI w (some x) len l∧∀r∈l,r.ok:=by
 rcases Nat.eq_zero_or_pos len with rfl|hp
 ·exact ⟨[],HeldG.nil _ _,fun r hr=>by cases hr⟩
 obtain ⟨f,hf⟩:∃f:Nat→S.Inp,∀i,i < len→(f i).ok∧∀k u,(csI (f i))[k]? =some u→w.cell? (x.add (i * 10+k))=some u:=by
  refine ⟨fun i=>if h:i < len then (hc i h).choose else default,fun i hi=> ?_⟩
  simp only [hi,dif_pos]
  exact (hc i hi).choose_spec
 have h0:=(hf 0 hp).2 0 _ rfl
 rw [show x.add (0 * 10+0)=x by simp [Addr.add]] at h0
 obtain ⟨b,o,sp⟩:=x
 obtain rfl:sp=none:=cell_spot h0
 refine ⟨(List.range len).map f,⟨by simp,h61,fun _=>⟨b,o,rfl,cell_lt h0,fun j u hu=> ?_⟩⟩,fun r hr=> ?_⟩
 ·have hlen:(Fl csI ((List.range len).map f)).length=len * 10:=by rw [Fl_len csI_len];simp
  have hj:j < len * 10:=by have:=(List.getElem?_eq_some_iff.1 hu).1;omega
  have hq:((List.range len).map f)[j / 10]? =some (f (j / 10)):=by rw [List.getElem?_map,List.getElem?_range (by omega)];rfl
  obtain ⟨v,hv⟩:∃v,(csI (f (j / 10)))[j % 10]? =some v:=⟨_,List.getElem?_eq_getElem (by rw [csI_len];omega)⟩
  have k1:=Fl_get csI_len _ _ _ hq _ _ hv
  rw [show j / 10 * 10+j % 10=j by omega,hu] at k1
  obtain rfl:=Option.some.inj k1
  have k2:=(hf (j / 10) (by omega)).2 _ _ hv
  rw [add_plain,show j / 10 * 10+j % 10=j by omega] at k2
  exact k2
 ·simp only [List.mem_map,List.mem_range] at hr
  obtain ⟨i,hi,rfl⟩:=hr
  exact (hf i hi).1
theorem open_inputs {H:Type} {enc:TypeId×Value→H} {spare:Nat→Bool} {held:Bool} {fuel:Nat} {cs:List Value} {x:DataW H×List MemPlace}
 (h:DataW.trod enc Tryz.prog w base spare held fuel 90 cs=some x):∃a len cap,cs=[.slice a len cap]∧(len≤cap∧cap≤9223372036854775807)∧(len≤4611686018427387904→∃l,HeldI w a len l∧∀r∈l,r.ok):=by
 have hC:Tryz.prog.cellsOf 93=10:=by kernel_rfl
 rcases open_slice Tryz.underlying90 h with ⟨hcs,_⟩|⟨a,len,cap,m,n,D,Pl,hcs,hb,hl,hm,hmm,hx,hi⟩
 ·exact ⟨none,0,0,hcs,⟨by omega,by omega⟩,fun _=>⟨[],HeldG.nil _ _,fun r hr=>by cases hr⟩⟩
 ·refine ⟨some a,len,cap,hcs,⟨hl,by simpa [maxLen] using hm⟩,fun h61=>heldI_of w a len h61 (fun i hi'=> ?_)⟩
  obtain ⟨cs',hc,ht'⟩:=hi i (by rw [hmm];split<;>omega)
  rw [hC] at hc
  have hf:=flat_fits 9 93 [.bool,.bool,.bool,.bool,.bool,.bool,.bool,.bool,.int .u8,.int .u8] _ _ _ (by kernel_rfl) ht'
  obtain ⟨z0,l0,rfl,hf0⟩:=fits_bool hf
  obtain ⟨z1,l1,rfl,hf1⟩:=fits_bool hf0
  obtain ⟨z2,l2,rfl,hf2⟩:=fits_bool hf1
  obtain ⟨z3,l3,rfl,hf3⟩:=fits_bool hf2
  obtain ⟨z4,l4,rfl,hf4⟩:=fits_bool hf3
  obtain ⟨z5,l5,rfl,hf5⟩:=fits_bool hf4
  obtain ⟨z6,l6,rfl,hf6⟩:=fits_bool hf5
  obtain ⟨z7,l7,rfl,hf7⟩:=fits_bool hf6
  obtain ⟨z8,l8,rfl,q8,hf8⟩:=fits_int hf7
  obtain ⟨z9,l9,rfl,q9,hf9⟩:=fits_int hf8
  obtain rfl:=fits_nil hf9
  obtain ⟨_,hcl,hat⟩:=World.cells?_some hc
  have b8:=bounds_u8 q8
  have b9:=bounds_u8 q9
  refine ⟨⟨z0,z1,z2,z3,z4,z5,z6,z7,z8,z9⟩,⟨⟨b8.1,Int.lt_add_one_of_le b8.2⟩,⟨b9.1,Int.lt_add_one_of_le b9.2⟩⟩,fun k u hu=> ?_⟩
  have hk:k < 10:=by have:=(List.getElem?_eq_some_iff.1 hu).1;rwa [csI_len] at this
  have g:=hat k (by omega)
  rw [addr_add_add] at g
  rw [g]
  simpa [csI,S.Inp.cs] using hu
end
section
variable {w:World}
theorem rchk_any {c r p:Int}:Calls Tryz.prog 60 #[.int .u8 c,.int .u8 r,.int .u8 p] w fun e w'=>e=.returned (.int .u8 (S.chk c r p))∧w=w':=by
 go_enter Tryz.func60,Tryz.ntmps60
 go_wp2
 go_ret
 exact ⟨rfl,rfl⟩
theorem ridle_any:Calls Tryz.prog 61 #[] w fun e w'=>e=.returned (.agg S.idle.cs)∧Adds w w':=by
 go_enter Tryz.func61,Tryz.ntmps61
 go_wp2
 exact bodyPost_ret (ret_Input Tryz.results61 rfl (by simp [go_sem];rfl) rfl) rfl ⟨rfl,aD⟩
theorem rbit_0 (c:Bool) (w:World):Calls Tryz.prog 79 #[.bool c,.int .i64 0] w fun e w'=>e=.returned (.int .u8 (S.wh c 1))∧w=w':=by
 have hs:∀w:World,Sem.run Tryz.prog (Op.shift BinOp.shl IntKind.u8 1 IntKind.i64 0) w=.ok (.int .u8 1) w:=fun _=>by kernel_rfl
 cases c
 all_goals
  go_enter Tryz.func79,Tryz.ntmps79
  go_wp2
  go_ret
  exact ⟨rfl,rfl⟩
theorem rbit_1 (c:Bool) (w:World):Calls Tryz.prog 79 #[.bool c,.int .i64 1] w fun e w'=>e=.returned (.int .u8 (S.wh c 2))∧w=w':=by
 have hs:∀w:World,Sem.run Tryz.prog (Op.shift BinOp.shl IntKind.u8 1 IntKind.i64 1) w=.ok (.int .u8 2) w:=fun _=>by kernel_rfl
 cases c
 all_goals
  go_enter Tryz.func79,Tryz.ntmps79
  go_wp2
  go_ret
  exact ⟨rfl,rfl⟩
theorem rbit_2 (c:Bool) (w:World):Calls Tryz.prog 79 #[.bool c,.int .i64 2] w fun e w'=>e=.returned (.int .u8 (S.wh c 4))∧w=w':=by
 have hs:∀w:World,Sem.run Tryz.prog (Op.shift BinOp.shl IntKind.u8 1 IntKind.i64 2) w=.ok (.int .u8 4) w:=fun _=>by kernel_rfl
 cases c
 all_goals
  go_enter Tryz.func79,Tryz.ntmps79
  go_wp2
  go_ret
  exact ⟨rfl,rfl⟩
theorem rbit_3 (c:Bool) (w:World):Calls Tryz.prog 79 #[.bool c,.int .i64 3] w fun e w'=>e=.returned (.int .u8 (S.wh c 8))∧w=w':=by
 have hs:∀w:World,Sem.run Tryz.prog (Op.shift BinOp.shl IntKind.u8 1 IntKind.i64 3) w=.ok (.int .u8 8) w:=fun _=>by kernel_rfl
 cases c
 all_goals
  go_enter Tryz.func79,Tryz.ntmps79
  go_wp2
  go_ret
  exact ⟨rfl,rfl⟩
theorem rbit_4 (c:Bool) (w:World):Calls Tryz.prog 79 #[.bool c,.int .i64 4] w fun e w'=>e=.returned (.int .u8 (S.wh c 16))∧w=w':=by
 have hs:∀w:World,Sem.run Tryz.prog (Op.shift BinOp.shl IntKind.u8 1 IntKind.i64 4) w=.ok (.int .u8 16) w:=fun _=>by kernel_rfl
 cases c
 all_goals
  go_enter Tryz.func79,Tryz.ntmps79
  go_wp2
  go_ret
  exact ⟨rfl,rfl⟩
theorem rbit_5 (c:Bool) (w:World):Calls Tryz.prog 79 #[.bool c,.int .i64 5] w fun e w'=>e=.returned (.int .u8 (S.wh c 32))∧w=w':=by
 have hs:∀w:World,Sem.run Tryz.prog (Op.shift BinOp.shl IntKind.u8 1 IntKind.i64 5) w=.ok (.int .u8 32) w:=fun _=>by kernel_rfl
 cases c
 all_goals
  go_enter Tryz.func79,Tryz.ntmps79
  go_wp2
  go_ret
  exact ⟨rfl,rfl⟩
theorem rbit_6 (c:Bool) (w:World):Calls Tryz.prog 79 #[.bool c,.int .i64 6] w fun e w'=>e=.returned (.int .u8 (S.wh c 64))∧w=w':=by
 have hs:∀w:World,Sem.run Tryz.prog (Op.shift BinOp.shl IntKind.u8 1 IntKind.i64 6) w=.ok (.int .u8 64) w:=fun _=>by kernel_rfl
 cases c
 all_goals
  go_enter Tryz.func79,Tryz.ntmps79
  go_wp2
  go_ret
  exact ⟨rfl,rfl⟩
theorem rbit_7 (c:Bool) (w:World):Calls Tryz.prog 79 #[.bool c,.int .i64 7] w fun e w'=>e=.returned (.int .u8 (S.wh c 128))∧w=w':=by
 have hs:∀w:World,Sem.run Tryz.prog (Op.shift BinOp.shl IntKind.u8 1 IntKind.i64 7) w=.ok (.int .u8 128) w:=fun _=>by kernel_rfl
 cases c
 all_goals
  go_enter Tryz.func79,Tryz.ntmps79
  go_wp2
  go_ret
  exact ⟨rfl,rfl⟩
theorem rbit_any (c:Bool) (k:Int) (k0:0≤k) (k8:k < 8) (w:World):Calls Tryz.prog 79 #[.bool c,.int .i64 k] w fun e w'=>e=.returned (.int .u8 (S.wh c (S.pw k)))∧w=w':=by
 rcases (by omega:k=0∨k=1∨k=2∨k=3∨k=4∨k=5∨k=6∨k=7) with rfl|rfl|rfl|rfl|rfl|rfl|rfl|rfl
 ·exact rbit_0 c w
 ·exact rbit_1 c w
 ·exact rbit_2 c w
 ·exact rbit_3 c w
 ·exact rbit_4 c w
 ·exact rbit_5 c w
 ·exact rbit_6 c w
 ·exact rbit_7 c w
end
section
theorem lt18 (y:Int) (h0:0≤y) (h:y < 18):∃(k:Nat) (o:Int),y=(k:Int)∧0≤o∧o < 256∧(#[.int .u8 251,.int .u8 243,.int .u8 118,.int .u8 205,.int .u8 201,.int .u8 197,.int .u8 227,.int .u8 211,.int .u8 219,.int .u8 54,.int .u8 52,.int .u8 32,.int .u8 48,.int .u8 194,.int .u8 202,.int .u8 255,.int .u8 62,.int .u8 49]:Array Value)[k]? =some (.int .u8 o):=by
 obtain ⟨k,rfl⟩:∃k:Nat,y=(k:Int):=⟨y.toNat,by omega⟩
 match k,h with
 |0,_=>exact ⟨0,251,rfl,by omega,by omega,rfl⟩
 |1,_=>exact ⟨1,243,rfl,by omega,by omega,rfl⟩
 |2,_=>exact ⟨2,118,rfl,by omega,by omega,rfl⟩
 |3,_=>exact ⟨3,205,rfl,by omega,by omega,rfl⟩
 |4,_=>exact ⟨4,201,rfl,by omega,by omega,rfl⟩
 |5,_=>exact ⟨5,197,rfl,by omega,by omega,rfl⟩
 |6,_=>exact ⟨6,227,rfl,by omega,by omega,rfl⟩
 |7,_=>exact ⟨7,211,rfl,by omega,by omega,rfl⟩
 |8,_=>exact ⟨8,219,rfl,by omega,by omega,rfl⟩
 |9,_=>exact ⟨9,54,rfl,by omega,by omega,rfl⟩
 |10,_=>exact ⟨10,52,rfl,by omega,by omega,rfl⟩
 |11,_=>exact ⟨11,32,rfl,by omega,by omega,rfl⟩
 |12,_=>exact ⟨12,48,rfl,by omega,by omega,rfl⟩
 |13,_=>exact ⟨13,194,rfl,by omega,by omega,rfl⟩
 |14,_=>exact ⟨14,202,rfl,by omega,by omega,rfl⟩
 |15,_=>exact ⟨15,255,rfl,by omega,by omega,rfl⟩
 |16,_=>exact ⟨16,62,rfl,by omega,by omega,rfl⟩
 |17,_=>exact ⟨17,49,rfl,by omega,by omega,rfl⟩
 |k+18,h=>exact absurd h (by omega)
theorem opc_any (b len cap N:Nat) (a:Option Addr) (hM:N≤99999000) {w:World} (h:Nb w b a len cap N):
 Calls Tryz.prog 30 #[.pointer (some ⟨b,0,none⟩)] w fun e w'=>∃(y:Int) (M:Nat),0≤y∧y < 256∧M≤N+2∧e=.returned (.int .u8 y)∧Up w b M w':=by
 have hbw:=h.lt
 have H:Hid _:=Lib.hid h
 clear h
 go_enter Tryz.func30,Tryz.ntmps30
 go_wp2_with (first
  |(go_at_call 26;(with_reducible refine (nx_any b len cap M1 a 18 (by omega) (by omega) (by omega) (w1.alloc (.cells #[.int .u8 251,.int .u8 243,.int .u8 118,.int .u8 205,.int .u8 201,.int .u8 197,.int .u8 227,.int .u8 211,.int .u8 219,.int .u8 54,.int .u8 52,.int .u8 32,.int .u8 48,.int .u8 194,.int .u8 202,.int .u8 255,.int .u8 62,.int .u8 49] 5)) ((H.out.up hU1.out).alloc _)).mono ?_);rintro e w2 ⟨y2,M2,hy20,hy21,hM2,rfl,hU2'⟩;obtain ⟨k,o,rfl,ho0,ho1,ho2⟩:=lt18 y2 hy20 hy21;have hb1:=(H.out.up hU1.out).lt;have hU2:=hU2';obtain ⟨⟨n2,os2⟩,hw2⟩:=hU2';have hc:w2.cell? ⟨w1.heap.size,k,none⟩=some (.int .u8 o):=(by rw [hw2,More_cell _ _ _ _ _ _ (by rw [InB_setCell,InB_alloc];exact .inl rfl),World.setCell_alloc_past _ _ _ _ hb1,cell_of_row _ _ _ _ _ (0,0) (by have:=heap_last (w1.setCell ⟨b,1,none⟩ (.int .i64 (M2:Int))) (.cells #[.int .u8 251,.int .u8 243,.int .u8 118,.int .u8 205,.int .u8 201,.int .u8 197,.int .u8 227,.int .u8 211,.int .u8 219,.int .u8 54,.int .u8 52,.int .u8 32,.int .u8 48,.int .u8 194,.int .u8 202,.int .u8 255,.int .u8 62,.int .u8 49] 5);simpa using this)];exact ho2);clear hw2 ho2;have hk18:(k:Int) < 18:=hy21)
  |(go_at_call 26;(with_reducible refine (nx_any b len cap M1 a 256 (by omega) (by omega) (by omega) w1 (H.out.up hU1.out)).mono ?_);rintro e w2 ⟨y2,M2,hy20,hy21,hM2,rfl,hU2⟩;have hwr:IntKind.u8.wrap y2=y2:=(by simp [IntKind.wrap,IntKind.bits,IntKind.signed];omega);have hwr2:y2 % 256=y2:=(by omega))
  |(go_at_call 26;(with_reducible refine (nx_any b len cap N a 3 (by omega) (by omega) (by omega) w H.out).mono ?_);rintro e w1 ⟨y1,M1,hy10,hy11,hM1,rfl,hU1'⟩;have hU1:=Lib.hid hU1';clear hU1'))
 ·go_ret
  exact ⟨y2,M2,hy20,hy21,by omega,rfl,hU1.out.then hbw hU2⟩
 ·go_ret
  exact ⟨o,M2,ho0,ho1,by omega,rfl,hU1.out.then hbw (hU2.pre hb1)⟩
theorem inp_mk (b len cap N:Nat) (a:Option Addr) (hM:N≤99990000) (w:World) (h:Nb w b a len cap N):
 Calls Tryz.prog 80 #[.pointer (some ⟨b,0,none⟩)] w fun e w'=>∃(x:S.Inp) (M:Nat),x.ok∧M≤N+10∧e=.returned (.agg x.cs)∧Up w b M w':=by
 have hbw:=h.lt
 have H:Hid _:=Lib.hid h
 clear h
 go_enter Tryz.func80,Tryz.ntmps80
 go_wp2_with (first
  |(go_at_call 26;(with_reducible refine (nx_any b len cap M7 a 256 (by omega) (by omega) (by omega) _ (by (repeat (first|with_reducible exact H.out|with_reducible refine Nb.more ?_ _ _|with_reducible refine Nb.alloc ?_ _|with_reducible refine Nb.drew ?_|apply Nb.bump)))).mono ?_);rintro e w' ⟨y8,M8,ha8,hb8,hM8,rfl,⟨n8,os8⟩,rfl⟩;have hv1:IntKind.u8.wrap y8=y8:=(by simp [IntKind.wrap,IntKind.bits,IntKind.signed];omega);have hv2:y8 % 256=y8:=(by omega))
  |(go_at_call 26;(with_reducible refine (nx_any b len cap M6 a 256 (by omega) (by omega) (by omega) _ (by (repeat (first|with_reducible exact H.out|with_reducible refine Nb.more ?_ _ _|with_reducible refine Nb.alloc ?_ _|with_reducible refine Nb.drew ?_|apply Nb.bump)))).mono ?_);rintro e w' ⟨y7,M7,ha7,hb7,hM7,rfl,⟨n7,os7⟩,rfl⟩;have hu1:IntKind.u8.wrap y7=y7:=(by simp [IntKind.wrap,IntKind.bits,IntKind.signed];omega);have hu2:y7 % 256=y7:=(by omega))
  |(go_at_call 118;(with_reducible refine (flg_any b len cap M5 a (by omega) _ (by (repeat (first|with_reducible exact H.out|with_reducible refine Nb.more ?_ _ _|with_reducible refine Nb.alloc ?_ _|with_reducible refine Nb.drew ?_|apply Nb.bump)))).mono ?_);rintro e w' ⟨f6,M6,hM6,rfl,⟨n6,os6⟩,rfl⟩)
  |(go_at_call 118;(with_reducible refine (flg_any b len cap M4 a (by omega) _ (by (repeat (first|with_reducible exact H.out|with_reducible refine Nb.more ?_ _ _|with_reducible refine Nb.alloc ?_ _|with_reducible refine Nb.drew ?_|apply Nb.bump)))).mono ?_);rintro e w' ⟨f5,M5,hM5,rfl,⟨n5,os5⟩,rfl⟩)
  |(go_at_call 118;(with_reducible refine (flg_any b len cap M3 a (by omega) _ (by (repeat (first|with_reducible exact H.out|with_reducible refine Nb.more ?_ _ _|with_reducible refine Nb.alloc ?_ _|with_reducible refine Nb.drew ?_|apply Nb.bump)))).mono ?_);rintro e w' ⟨f4,M4,hM4,rfl,⟨n4,os4⟩,rfl⟩)
  |(go_at_call 118;(with_reducible refine (flg_any b len cap M2 a (by omega) _ (by (repeat (first|with_reducible exact H.out|with_reducible refine Nb.more ?_ _ _|with_reducible refine Nb.alloc ?_ _|with_reducible refine Nb.drew ?_|apply Nb.bump)))).mono ?_);rintro e w' ⟨f3,M3,hM3,rfl,⟨n3,os3⟩,rfl⟩)
  |(go_at_call 118;(with_reducible refine (flg_any b len cap M1 a (by omega) _ (by (repeat (first|with_reducible exact H.out|with_reducible refine Nb.more ?_ _ _|with_reducible refine Nb.alloc ?_ _|with_reducible refine Nb.drew ?_|apply Nb.bump)))).mono ?_);rintro e w' ⟨f2,M2,hM2,rfl,⟨n2,os2⟩,rfl⟩)
  |(go_at_call 26;(with_reducible refine (nx_any b len cap M1 a 256 (by omega) (by omega) (by omega) _ (by (repeat (first|with_reducible exact H.out|with_reducible refine Nb.more ?_ _ _|with_reducible refine Nb.alloc ?_ _|with_reducible refine Nb.drew ?_|apply Nb.bump)))).mono ?_);rintro e w' ⟨y2,M2,ha2,hb2,hM2,rfl,⟨n2,os2⟩,rfl⟩;have ht1:IntKind.u8.wrap y2=y2:=(by simp [IntKind.wrap,IntKind.bits,IntKind.signed];omega);have ht2:y2 % 256=y2:=(by omega))
  |(go_at_call 30;(with_reducible refine (opc_any b len cap M1 a (by omega) (by (repeat (first|with_reducible exact H.out|with_reducible refine Nb.more ?_ _ _|with_reducible refine Nb.alloc ?_ _|with_reducible refine Nb.drew ?_|apply Nb.bump)))).mono ?_);rintro e w' ⟨y2,M2,ha2,hb2,hM2,rfl,⟨n2,os2⟩,rfl⟩)
  |(go_at_call 26;(with_reducible refine (nx_any b len cap N a 64 (by omega) (by omega) (by omega) _ (by (repeat (first|with_reducible exact H.out|with_reducible refine Nb.more ?_ _ _|with_reducible refine Nb.alloc ?_ _|with_reducible refine Nb.drew ?_|apply Nb.bump)))).mono ?_);rintro e w' ⟨y,M1,hy0,hy1,hM1,rfl,⟨n1,os1⟩,rfl⟩;have hw1:IntKind.u8.wrap y=y:=(by simp [IntKind.wrap,IntKind.bits,IntKind.signed];omega);have hw2:y % 256=y:=(by omega))
  |(go_at_call 61;with_reducible refine ad (ridle_any) fun n0 os0=> ?_;simp only [S.Inp.cs,S.idle]))
 ·exact bodyPost_ret (v:=.agg #[.bool true,.bool false,.bool false,.bool false,.bool false,.bool false,.bool false,.bool false,.int .u8 0,.int .u8 y]) (ret_Input Tryz.results80 rfl (by simp [go_sem]) rfl) rfl ⟨⟨true,false,false,false,false,false,false,false,0,y⟩,M1,⟨(show (0:Int)≤0∧(0:Int) < 256 by decide),⟨hy0,Int.lt_trans hy1 (by decide)⟩⟩,by omega,rfl,Up.of aD⟩
 ·exact bodyPost_ret (v:=.agg #[.bool false,.bool false,.bool false,.bool false,.bool false,.bool false,.bool false,.bool false,.int .u8 0,.int .u8 0]) (ret_Input Tryz.results80 rfl (by simp [go_sem]) rfl) rfl ⟨⟨false,false,false,false,false,false,false,false,0,0⟩,M1,⟨(show (0:Int)≤0∧(0:Int) < 256 by decide),(show (0:Int)≤0∧(0:Int) < 256 by decide)⟩,by omega,rfl,Up.of aD⟩
 ·exact bodyPost_ret (v:=.agg #[.bool true,.bool true,.bool false,.bool false,.bool false,.bool false,.bool false,.bool false,.int .u8 0,.int .u8 0]) (ret_Input Tryz.results80 rfl (by simp [go_sem]) rfl) rfl ⟨⟨true,true,false,false,false,false,false,false,0,0⟩,M1,⟨(show (0:Int)≤0∧(0:Int) < 256 by decide),(show (0:Int)≤0∧(0:Int) < 256 by decide)⟩,by omega,rfl,Up.of aD⟩
 ·exact bodyPost_ret (v:=.agg #[.bool true,.bool false,.bool false,.bool false,.bool false,.bool false,.bool false,.bool false,.int .u8 y2,.int .u8 0]) (ret_Input Tryz.results80 rfl (by simp [go_sem]) rfl) rfl ⟨⟨true,false,false,false,false,false,false,false,y2,0⟩,M2,⟨⟨ha2,hb2⟩,(show (0:Int)≤0∧(0:Int) < 256 by decide)⟩,by omega,rfl,Up.of aD⟩
 ·exact bodyPost_ret (v:=.agg #[.bool true,.bool false,.bool false,.bool false,.bool false,.bool (y % 2==0),.bool (y % 2==1),.bool false,.int .u8 0,.int .u8 0]) (ret_Input Tryz.results80 rfl (by simp [go_sem]) rfl) rfl ⟨⟨true,false,false,false,false,(y % 2==0),(y % 2==1),false,0,0⟩,M1,⟨(show (0:Int)≤0∧(0:Int) < 256 by decide),(show (0:Int)≤0∧(0:Int) < 256 by decide)⟩,by omega,rfl,Up.of aD⟩
 ·exact bodyPost_ret (v:=.agg #[.bool true,.bool false,.bool false,.bool (y==51),.bool false,.bool false,.bool false,.bool true,.int .u8 0,.int .u8 0]) (ret_Input Tryz.results80 rfl (by simp [go_sem]) rfl) rfl ⟨⟨true,false,false,(y==51),false,false,false,true,0,0⟩,M1,⟨(show (0:Int)≤0∧(0:Int) < 256 by decide),(show (0:Int)≤0∧(0:Int) < 256 by decide)⟩,by omega,rfl,Up.of aD⟩
 ·exact bodyPost_ret (v:=.agg #[.bool true,.bool false,.bool false,.bool false,.bool true,.bool false,.bool false,.bool false,.int .u8 0,.int .u8 0]) (ret_Input Tryz.results80 rfl (by simp [go_sem]) rfl) rfl ⟨⟨true,false,false,false,true,false,false,false,0,0⟩,M1,⟨(show (0:Int)≤0∧(0:Int) < 256 by decide),(show (0:Int)≤0∧(0:Int) < 256 by decide)⟩,by omega,rfl,Up.of aD⟩
 ·exact bodyPost_ret (v:=.agg #[.bool true,.bool false,.bool true,.bool false,.bool false,.bool false,.bool false,.bool false,.int .u8 0,.int .u8 0]) (ret_Input Tryz.results80 rfl (by simp [go_sem]) rfl) rfl ⟨⟨true,false,true,false,false,false,false,false,0,0⟩,M1,⟨(show (0:Int)≤0∧(0:Int) < 256 by decide),(show (0:Int)≤0∧(0:Int) < 256 by decide)⟩,by omega,rfl,Up.of aD⟩
 ·exact bodyPost_ret (v:=.agg #[.bool true,.bool false,.bool false,.bool false,.bool false,.bool false,.bool false,.bool false,.int .u8 1,.int .u8 y2]) (ret_Input Tryz.results80 rfl (by simp [go_sem]) rfl) rfl ⟨⟨true,false,false,false,false,false,false,false,1,y2⟩,M2,⟨(show (0:Int)≤1∧(1:Int) < 256 by decide),⟨ha2,hb2⟩⟩,by omega,rfl,Up.of aD⟩
 ·exact bodyPost_ret (v:=.agg #[.bool f2,.bool f3,.bool false,.bool f4,.bool false,.bool f5,.bool f6,.bool false,.int .u8 y7,.int .u8 y8]) (ret_Input Tryz.results80 rfl (by simp [go_sem]) rfl) rfl ⟨⟨f2,f3,false,f4,false,f5,f6,false,y7,y8⟩,M8,⟨⟨ha7,hb7⟩,⟨ha8,hb8⟩⟩,by omega,rfl,Up.of aD⟩
end
end Go.Proofs.YteggjjhjmhccjaaGreatDoor
