/- Texts that the proofs of the statements on dumps rest on, joined. Conditions stand in each theorem. -/
import Derived.Test.YteggjjhjmhccjaaGreatDoorQ01
import Derived.Test.YteggjjhjmhccjaaGreatDoorQ00
import Derived.Test.YteggjjhjmhccjaaGreatDoorQ03
import Derived.Laws.Concat
import Derived.Lib.AppendStr
import Derived.Maps.AppendAt
import Derived.Shelf.Small.Strs
import Derived.Shelf.Small.Wraps
import Derived.Shelf.Strings.Search2
import Derived.Test.YteggjjhjmhccjaaGreatDoorProg
import Derived.BigRegion
set_option linter.unusedVariables false
set_option linter.unusedSimpArgs false
set_option maxRecDepth 100000
set_option maxHeartbeats 8000000
namespace Go.Proofs.YteggjjhjmhccjaaGreatDoor
open Go.ChangeShapes Go.WideShapes Go.ChangeAt Go.RowKit
namespace S
variable {d k n:Nat} {p:Pn}
abbrev Bs:=List UInt8
def stn:List Bs:=[[116,49],[116,50],[116,51],[116,52],[116,53],[116,54],[116,119],[116,104],[116,104,97,108,116],[116,114,101,115,101,116]]
def nmS (n:Int):Bs:=if n < 1∨10 < n then [63] else stn.getD (n - 1).toNat []
def pnn:List Bs:=[[115,121,110,99],[100,98,105,110],[119,97,105,116],[105,110,116,101],[97,108,101],[105,111,109],[115,49],[115,48],[114,100],[105,110,116,97],[115,111,100],[119,114],[104,108,100,97],[102,108,111,97,116]]
def pvl (p:Pn):List Bool:=[p.sy,p.db,p.wa,p.it,p.al,p.im,p.s1,p.s0,p.rd,p.ia,p.so,p.wr,p.hl,p.fl]
def hxd:List UInt8:=[48,49,50,51,52,53,54,55,56,57,97,98,99,100,101,102]
def hxv (n:Nat):UInt8:=hxd.getD (n % 16) 0
def hxs (n:Nat):Nat→Bs
 |0=>[]
 |k+1=>hxs (n / 16) k++[hxv n]
def fgs:List Bs→List Bool→Bs
 |n::ns,b::bs=>(if b then 32::n else [])++fgs ns bs
 |_,_=>[]
def rec28 (p:Pn):Bs:=nmS p.st++(32::hxs p.ad.toNat 4)++(32::hxs p.da.toNat 2)++fgs pnn (pvl p)
def fmt28:List Pn→Bs
 |[]=>[]
 |p::l=>rec28 p++10::fmt28 l
def upt28 (c:UInt8):Bs→Bs
 |[]=>[]
 |x::l=>if x=c then [] else x::upt28 c l
def dgv (c:UInt8):Option Nat:=hxd.findIdx? (·==c)
def dgs:Nat→Nat→Bs→Option (Nat×Bs)
 |0,v,l=>some (v,l)
 |_+1,_,[]=>none
 |k+1,v,c::l=>match dgv c with
  |some d=>dgs k (v * 16+d) l
  |none=>none
def num28 (k:Nat):Bs→Option (Nat×Bs)
 |c::l=>if c=32 then dgs k 0 l else none
 |[]=>none
def cuts:List Bs→Bs→List Bool×Bs
 |[],l=>([],l)
 |n::ns,l=>if (32::n).isPrefixOf l then let r:=cuts ns (l.drop (n.length+1));(true::r.1,r.2) else let r:=cuts ns l;(false::r.1,r.2)
def mkPn (st:Int) (ad da:Nat) (v:List Bool):Pn:=⟨st,ad,da,v.getD 0 false,v.getD 1 false,v.getD 2 false,v.getD 3 false,v.getD 4 false,v.getD 5 false,v.getD 6 false,v.getD 7 false,v.getD 8 false,v.getD 9 false,v.getD 10 false,v.getD 11 false,v.getD 12 false,v.getD 13 false⟩
def prs28 (l:Bs):Option Pn:=
 match stn.findIdx? (·==upt28 32 l),num28 4 (l.drop (upt28 32 l).length) with
 |some i,some (a,r)=>match num28 2 r with
  |some (d,r')=>if (cuts pnn r').2=[] then some (mkPn (i+1) a d (cuts pnn r').1) else none
  |none=>none
 |_,_=>none
theorem hxv_dg (n:Nat):dgv (hxv n)=some (n % 16):=by
 have h:∀k,k < 16→dgv (hxd.getD k 0)=some k:=by decide
 exact h _ (Nat.mod_lt _ (by decide))
theorem dgv_inv {c:UInt8} (h:dgv c=some d):d < 16∧hxd.getD d 0=c:=by
 unfold dgv at h
 obtain ⟨h1,h2,_⟩:=List.findIdx?_eq_some_iff_getElem.1 h
 refine ⟨h1,?_⟩
 rw [List.getD_eq_getElem?_getD,List.getElem?_eq_getElem h1]
 simpa using h2
theorem hxs4 (n:Nat):hxs n 4=[hxv (n / 16 / 16 / 16),hxv (n / 16 / 16),hxv (n / 16),hxv n]:=rfl
theorem hxs2 (n:Nat):hxs n 2=[hxv (n / 16),hxv n]:=rfl
theorem num_hxs4 (n:Nat) (h:n < 65536) (l:Bs):num28 4 ((32::hxs n 4)++l)=some (n,l):=by
 rw [hxs4]
 simp only [num28,List.cons_append,List.nil_append,if_true,dgs,hxv_dg]
 congr 2
 omega
theorem num_hxs2 (n:Nat) (h:n < 256) (l:Bs):num28 2 ((32::hxs n 2)++l)=some (n,l):=by
 rw [hxs2]
 simp only [num28,List.cons_append,List.nil_append,if_true,dgs,hxv_dg]
 congr 2
 omega
theorem dgs_step {v:Nat} {l r:Bs} (h:dgs (k+1) v l=some (n,r)):∃c d t,l=c::t∧(d < 16∧hxd.getD d 0=c)∧dgs k (v * 16+d) t=some (n,r):=by
 rcases l with _|⟨c,t⟩
 ·simp [dgs] at h
 ·unfold dgs at h
  split at h
  ·rename_i d hd
   exact ⟨c,d,t,rfl,dgv_inv hd,h⟩
  ·cases h
theorem num_open {l r:Bs} (h:num28 k l=some (n,r)):∃t,l=32::t∧dgs k 0 t=some (n,r):=by
 rcases l with _|⟨c,t⟩
 ·simp [num28] at h
 ·simp only [num28] at h
  by_cases e:c=32
  ·rw [if_pos e] at h
   exact ⟨t,by rw [e],h⟩
  ·rw [if_neg e] at h
   cases h
theorem hxv_is {m:Nat} {c:UInt8} (h:d < 16∧hxd.getD d 0=c) (e:m % 16=d):hxv m=c:=by
 unfold hxv
 rw [e]
 exact h.2
theorem num_inv4 {l r:Bs} (h:num28 4 l=some (n,r)):l=(32::hxs n 4)++r∧n < 65536:=by
 obtain ⟨t,rfl,h⟩:=num_open h
 obtain ⟨c1,d1,t,rfl,h1,h⟩:=dgs_step h
 obtain ⟨c2,d2,t,rfl,h2,h⟩:=dgs_step h
 obtain ⟨c3,d3,t,rfl,h3,h⟩:=dgs_step h
 obtain ⟨c4,d4,t,rfl,h4,h⟩:=dgs_step h
 simp only [dgs,Option.some.injEq,Prod.mk.injEq] at h
 obtain ⟨rfl,rfl⟩:=h
 have b1:=h1.1
 have b2:=h2.1
 have b3:=h3.1
 have b4:=h4.1
 refine ⟨?_,by omega⟩
 rw [hxs4,hxv_is h1 (by omega),hxv_is h2 (by omega),hxv_is h3 (by omega),hxv_is h4 (by omega)]
 rfl
theorem num_inv2 {l r:Bs} (h:num28 2 l=some (n,r)):l=(32::hxs n 2)++r∧n < 256:=by
 obtain ⟨t,rfl,h⟩:=num_open h
 obtain ⟨c1,d1,t,rfl,h1,h⟩:=dgs_step h
 obtain ⟨c2,d2,t,rfl,h2,h⟩:=dgs_step h
 simp only [dgs,Option.some.injEq,Prod.mk.injEq] at h
 obtain ⟨rfl,rfl⟩:=h
 have b1:=h1.1
 have b2:=h2.1
 refine ⟨?_,by omega⟩
 rw [hxs2,hxv_is h1 (by omega),hxv_is h2 (by omega)]
 rfl
theorem upt28_app (c:UInt8):∀(a l:Bs),c∉a→upt28 c (a++c::l)=a
 |[],l,_=>by simp [upt28]
 |x::a,l,h=>by
  simp only [List.mem_cons,not_or] at h
  simp only [List.cons_append,upt28,if_neg (Ne.symm h.1),upt28_app c a l h.2]
theorem upt28_pre (c:UInt8):∀l:Bs,upt28 c l++l.drop (upt28 c l).length=l
 |[]=>rfl
 |x::l=>by
  by_cases h:x=c
  ·simp [upt28,h]
  ·simp [upt28,h,upt28_pre c l]
theorem upt28_not (c:UInt8):∀l:Bs,c∉upt28 c l
 |[]=>by simp [upt28]
 |x::l=>by
  by_cases h:x=c
  ·simp [upt28,h]
  ·simp [upt28,h,upt28_not c l,Ne.symm h]
theorem cuts_len:∀(ns:List Bs) (l:Bs),(cuts ns l).1.length=ns.length
 |[],_=>rfl
 |n::ns,l=>by
  unfold cuts
  split<;>simp [cuts_len ns]
theorem fgs_cuts:∀(ns:List Bs) (l:Bs),(cuts ns l).2=[]→fgs ns (cuts ns l).1=l
 |[],l,h=>by simp [cuts] at h;simp [fgs,h]
 |n::ns,l,h=>by
  unfold cuts at h⊢
  split at h
  ·rename_i hp
   rw [if_pos hp]
   simp only [fgs,if_true]
   rw [fgs_cuts ns _ h]
   obtain ⟨t,ht⟩:=List.isPrefixOf_iff_prefix.1 hp
   rw [←ht]
   simp
  ·rename_i hp
   rw [if_neg hp]
   simp only [fgs]
   simpa using fgs_cuts ns _ h
theorem fgs_head:∀(ns:List Bs) (bs:List Bool),fgs ns bs=[]∨∃m∈ns,∃t,fgs ns bs=32::(m++t)∧(t=[]∨∃u,t=32::u)
 |[],_=> .inl (by simp [fgs])
 |_::_,[]=> .inl (by simp [fgs])
 |n::ns,b::bs=>by
  cases b
  ·rcases fgs_head ns bs with h|⟨m,hm,t,h,k⟩
   ·exact .inl (by simp [fgs,h])
   ·exact .inr ⟨m,List.mem_cons_of_mem _ hm,t,by simp [fgs,h],k⟩
  ·refine .inr ⟨n,List.mem_cons_self,fgs ns bs,by simp [fgs],?_⟩
   rcases fgs_head ns bs with h|⟨m,hm,t,h,k⟩
   ·exact .inl h
   ·exact .inr ⟨m++t,h⟩
theorem pre_not {n m t:Bs} (h:¬n <+:m) (h32:(32:UInt8)∉n) (ht:t=[]∨∃u,t=32::u):¬n <+:m++t:=by
 intro k
 rcases List.prefix_or_prefix_of_prefix k (List.prefix_append m t) with q|⟨s,hs⟩
 ·exact h q
 ·rcases s with _|⟨c,s⟩
  ·exact h (by rw [←hs];simp)
  ·rw [←hs] at k h32
   have k':=(List.prefix_append_right_inj m).1 k
   rcases ht with rfl|⟨u,rfl⟩
   ·simp at k'
   ·obtain ⟨rfl,_⟩:=List.cons_prefix_cons.1 k'
    exact h32 (by simp)
theorem cuts_fgs:∀(ns:List Bs) (bs:List Bool),ns.Pairwise (fun n m=>¬n <+:m)→(∀n∈ns,(32:UInt8)∉n)→ns.length=bs.length→cuts ns (fgs ns bs)=(bs,[])
 |[],[],_,_,_=>rfl
 |n::ns,b::bs,hp,h32,hl=>by
  have ih:=cuts_fgs ns bs (List.pairwise_cons.1 hp).2 (fun m hm=>h32 m (List.mem_cons_of_mem _ hm)) (by simpa using hl)
  cases b
  ·have hn:¬(32::n).isPrefixOf (fgs ns bs)=true:=by
    rw [List.isPrefixOf_iff_prefix]
    rcases fgs_head ns bs with h|⟨m,hm,t,h,k⟩
    ·rw [h];simp
    ·rw [h,List.cons_prefix_cons]
     exact fun q=>pre_not ((List.pairwise_cons.1 hp).1 m hm) (h32 n List.mem_cons_self) k q.2
   simp only [fgs,Bool.false_eq_true,if_false,List.nil_append]
   unfold cuts
   rw [if_neg hn,ih]
  ·have hn:(32::n).isPrefixOf ((32::n)++fgs ns bs)=true:=by
    rw [List.isPrefixOf_iff_prefix]
    exact List.prefix_append _ _
   simp only [fgs,if_true]
   unfold cuts
   rw [if_pos hn]
   have hd:((32::n)++fgs ns bs).drop (n.length+1)=fgs ns bs:=by simp
   rw [hd,ih]
theorem pnn_ok:pnn.Pairwise (fun n m=>¬n <+:m)∧(∀n∈pnn,(32:UInt8)∉n):=by decide
theorem pvl_mk {st:Int} {ad da:Nat} {v:List Bool} (h:v.length=14):pvl (mkPn st ad da v)=v:=by
 rcases v with _|⟨a,_|⟨b,_|⟨c,_|⟨d,_|⟨e,_|⟨f,_|⟨g,_|⟨i,_|⟨j,_|⟨k,_|⟨l,_|⟨m,_|⟨n,_|⟨o,_|⟨p,q⟩⟩⟩⟩⟩⟩⟩⟩⟩⟩⟩⟩⟩⟩⟩<;>simp at h
 rfl
theorem mk_pvl (p:Pn) (h0:0≤p.ad) (h1:0≤p.da):mkPn p.st p.ad.toNat p.da.toNat (pvl p)=p:=by
 obtain ⟨st,ad,da,_⟩:=p
 simp only [mkPn,pvl,List.getD_cons_zero,List.getD_cons_succ] at h0 h1⊢
 congr<;>omega
def Pn.okl (p:Pn):Prop:=(1≤p.st∧p.st≤10)∧(0≤p.ad∧p.ad < 65536)∧0≤p.da∧p.da < 256
theorem stn_i:∀i,i < 10→stn.findIdx? (·==stn.getD i [])=some i:=by decide
theorem stn_32:∀i,i < 10→(32:UInt8)∉stn.getD i []:=by decide
theorem nmS_in {n:Int} (h:1≤n∧n≤10):nmS n=stn.getD (n - 1).toNat []:=by
 unfold nmS
 rw [if_neg (by omega)]
theorem prs_rec (h:p.okl):prs28 (rec28 p)=some p:=by
 obtain ⟨⟨s0,s1⟩,⟨a0,a1⟩,d0,d1⟩:=h
 have hi:(p.st - 1).toNat < 10:=by omega
 have e:rec28 p=stn.getD (p.st - 1).toNat []++32::(hxs p.ad.toNat 4++((32::hxs p.da.toNat 2)++fgs pnn (pvl p))):=by
  unfold rec28
  rw [nmS_in ⟨s0,s1⟩]
  simp only [List.append_assoc,List.cons_append]
 have hu:=upt28_app 32 _ (hxs p.ad.toNat 4++((32::hxs p.da.toNat 2)++fgs pnn (pvl p))) (stn_32 _ hi)
 unfold prs28
 rw [e,hu,stn_i _ hi,List.drop_left]
 have e4:=num_hxs4 p.ad.toNat (by omega) ((32::hxs p.da.toNat 2)++fgs pnn (pvl p))
 rw [List.cons_append] at e4
 rw [e4]
 simp only []
 rw [num_hxs2 p.da.toNat (by omega) (fgs pnn (pvl p))]
 simp only []
 rw [cuts_fgs pnn (pvl p) pnn_ok.1 pnn_ok.2 rfl]
 simp only [if_true]
 rw [show (((p.st - 1).toNat:Nat):Int)+1=p.st by omega,mk_pvl p a0 d0]
theorem prs_inv {l:Bs} (h:prs28 l=some p):rec28 p=l∧p.okl:=by
 unfold prs28 at h
 split at h
 ·rename_i i a r hi ha
  split at h
  ·rename_i d r' hd
   split at h
   ·rename_i hc
    obtain rfl:=Option.some.inj h
    obtain ⟨h1,h2,_⟩:=List.findIdx?_eq_some_iff_getElem.1 hi
    have h1':i < 10:=h1
    obtain ⟨e4,n4⟩:=num_inv4 ha
    obtain ⟨e2,n2⟩:=num_inv2 hd
    have hv:=pvl_mk (st:=i+1) (ad:=a) (da:=d) (cuts_len pnn r')
    have hst:stn.getD i []=upt28 32 l:=by
     rw [List.getD_eq_getElem?_getD,List.getElem?_eq_getElem h1]
     simpa using h2
    refine ⟨?_,⟨by show (1:Int)≤i+1;omega,by show (i:Int)+1≤10;omega⟩,⟨by show (0:Int)≤a;omega,by show (a:Int) < 65536;omega⟩,by show (0:Int)≤d;omega,by show (d:Int) < 256;omega⟩
    unfold rec28
    rw [hv,fgs_cuts pnn r' hc]
    show nmS (i+1)++(32::hxs a 4)++(32::hxs d 2)++r'=l
    rw [nmS_in ⟨by omega,by omega⟩,show ((i:Int)+1 - 1).toNat=i by omega,hst,List.append_assoc,List.append_assoc,←e2,←e4]
    exact upt28_pre 32 l
   ·cases h
  ·cases h
 ·cases h
def spl (c:UInt8):Bs→List Bs
 |[]=>[[]]
 |x::l=>if x=c then []::spl c l else match spl c l with
  |w::ws=>(x::w)::ws
  |[]=>[[x]]
theorem spl_ne (c:UInt8):∀l,spl c l≠[]
 |[]=>by simp [spl]
 |x::l=>by
  unfold spl
  split
  ·simp
  ·split<;>simp
theorem spl_app (c:UInt8):∀(a l:Bs),c∉a→spl c (a++c::l)=a::spl c l
 |[],l,_=>by simp [spl]
 |x::a,l,h=>by
  simp only [List.mem_cons,not_or] at h
  simp only [List.cons_append,spl,if_neg (Ne.symm h.1),spl_app c a l h.2]
theorem spl_one (c:UInt8):∀(a:Bs),c∉a→spl c a=[a]
 |[],_=>rfl
 |x::a,h=>by
  simp only [List.mem_cons,not_or] at h
  simp only [spl,if_neg (Ne.symm h.1),spl_one c a h.2]
def ons:List Bs→List Bool→List Bs
 |n::ns,b::bs=>if b then n::ons ns bs else ons ns bs
 |_,_=>[]
theorem spl_fgs:∀(ns:List Bs) (bs:List Bool) (a:Bs),(32:UInt8)∉a→(∀n∈ns,(32:UInt8)∉n)→spl 32 (a++fgs ns bs)=a::ons ns bs
 |[],_,a,h,_=>by simp [fgs,ons,spl_one 32 a h]
 |_::_,[],a,h,_=>by simp [fgs,ons,spl_one 32 a h]
 |n::ns,b::bs,a,h,hn=>by
  cases b
  ·simpa [fgs,ons] using spl_fgs ns bs a h (fun m hm=>hn m (List.mem_cons_of_mem _ hm))
  ·simp only [fgs,if_true,List.cons_append,ons]
   rw [spl_app 32 a _ h,spl_fgs ns bs n (hn n List.mem_cons_self) (fun m hm=>hn m (List.mem_cons_of_mem _ hm))]
def numR (l:Bs):Nat:=l.foldl (fun n c=>match dgv c with
 |some d=>n % 4096 * 16+d
 |none=>n) 0
theorem numR_bd (l:Bs):numR l < 65536:=by
 have h:∀(l:Bs) (n:Nat),n < 65536→l.foldl (fun n c=>match dgv c with
  |some d=>n % 4096 * 16+d
  |none=>n) n < 65536:=by
  intro l
  induction l with
  |nil=>exact fun n h=>h
  |cons c l ih=>
   intro n h
   refine ih _ ?_
   show (match dgv c with
    |some d=>n % 4096 * 16+d
    |none=>n) < 65536
   split
   ·rename_i d hd
    have h16:=(dgv_inv hd).1
    have h40:n % 4096 < 4096:=Nat.mod_lt _ (by decide)
    generalize n % 4096=m at h40⊢
    exact Nat.lt_of_lt_of_le (Nat.add_lt_add_left h16 (m * 16)) (by omega)
   ·exact h
 exact h l 0 (by decide)
theorem numR4 (n:Nat) (h:n < 65536):numR (hxs n 4)=n:=by
 rw [hxs4]
 simp only [numR,List.foldl_cons,List.foldl_nil,hxv_dg]
 omega
theorem numR2 (n:Nat) (h:n < 256):numR (hxs n 2)=n:=by
 rw [hxs2]
 simp only [numR,List.foldl_cons,List.foldl_nil,hxv_dg]
 omega
def Pn.zero28:Pn:=⟨0,0,0,false,false,false,false,false,false,false,false,false,false,false,false,false,false⟩
def stR28 (w:Bs):Int:=match stn.findIdx? (·==w) with
 |some i=>i+1
 |none=>0
def rd28 (l:Bs):Pn:=match spl 32 l with
 |w::a::d::ws=>mkPn (stR28 w) (numR a) (numR d % 256) (pnn.map fun n=>decide (n∈ws))
 |_=>Pn.zero28
theorem hxv_32 (n:Nat):(32:UInt8)≠hxv n:=by
 have h:∀k,k < 16→(32:UInt8)≠hxd.getD k 0:=by decide
 exact h _ (Nat.mod_lt _ (by decide))
theorem ons_map:∀(ns:List Bs) (bs:List Bool),ns.Nodup→ns.length=bs.length→(ns.map fun n=>decide (n∈ons ns bs))=bs
 |[],[],_,_=>rfl
 |n::ns,b::bs,hd,hl=>by
  obtain ⟨h1,h2⟩:=List.nodup_cons.1 hd
  have ih:=ons_map ns bs h2 (by simpa using hl)
  have hsub:∀(ns:List Bs) (bs:List Bool) (x:Bs),x∈ons ns bs→x∈ns:=by
   intro ns
   induction ns with
   |nil=>intro bs x hx;simp [ons] at hx
   |cons m ns ih=>
    intro bs x hx
    rcases bs with _|⟨b,bs⟩
    ·simp [ons] at hx
    ·cases b
     ·exact List.mem_cons_of_mem _ (ih bs x (by simpa [ons] using hx))
     ·simp only [ons,if_true,List.mem_cons] at hx
      rcases hx with rfl|hx
      ·exact List.mem_cons_self
      ·exact List.mem_cons_of_mem _ (ih bs x hx)
  cases b
  ·simp only [ons,Bool.false_eq_true,if_false,List.map_cons]
   rw [ih,decide_eq_false (fun h=>h1 (hsub _ _ _ h))]
  ·simp only [ons,if_true,List.map_cons]
   rw [decide_eq_true List.mem_cons_self]
   congr 1
   refine Eq.trans ?_ ih
   refine List.map_congr_left fun m hm=> ?_
   have hne:m≠n:=fun e=>h1 (e▸hm)
   simp [hne]
theorem pnn_nodup:pnn.Nodup:=by decide
theorem rd_rec (h:p.okl):rd28 (rec28 p)=p:=by
 obtain ⟨⟨s0,s1⟩,⟨a0,a1⟩,d0,d1⟩:=h
 have hi:(p.st - 1).toNat < 10:=by omega
 have e:rec28 p=stn.getD (p.st - 1).toNat []++32::(hxs p.ad.toNat 4++32::(hxs p.da.toNat 2++fgs pnn (pvl p))):=by
  unfold rec28
  rw [nmS_in ⟨s0,s1⟩]
  simp only [List.append_assoc,List.cons_append]
 have e3:spl 32 (rec28 p)=stn.getD (p.st - 1).toNat []::hxs p.ad.toNat 4::hxs p.da.toNat 2::ons pnn (pvl p):=by
  rw [e,spl_app 32 _ _ (stn_32 _ hi),spl_app 32 _ _ (by rw [hxs4];simp [hxv_32]),spl_fgs _ _ _ (by rw [hxs2];simp [hxv_32]) pnn_ok.2]
 unfold rd28
 rw [e3]
 simp only []
 rw [numR4 _ (by omega),numR2 _ (by omega),ons_map pnn (pvl p) pnn_nodup rfl,show stR28 (stn.getD (p.st - 1).toNat [])=p.st by
  unfold stR28;rw [stn_i _ hi];show (((p.st - 1).toNat:Nat):Int)+1=p.st;omega,show p.da.toNat % 256=p.da.toNat by omega]
 exact mk_pvl p a0 d0
theorem rd_ok (l:Bs) (h:(rd28 l).st≠0):(rd28 l).okl:=by
 unfold rd28 at h⊢
 split at h
 ·rename_i w a d ws _
  have hs:stR28 w≠0:=h
  have h1:1≤stR28 w∧stR28 w≤10:=by
   unfold stR28 at hs⊢
   split at hs
   ·rename_i i hi
    have:=(List.findIdx?_eq_some_iff_getElem.1 hi).1
    have h10:i < 10:=this
    omega
   ·exact absurd rfl hs
  have ha:=numR_bd a
  refine ⟨h1,⟨?_,?_⟩,?_,?_⟩
  ·show (0:Int)≤(numR a:Nat);omega
  ·show ((numR a:Nat):Int) < 65536;omega
  ·show (0:Int)≤((numR d % 256:Nat):Int);omega
  ·show ((numR d % 256:Nat):Int) < 256;omega
 ·exact absurd rfl h
theorem prs_rd (l:Bs):prs28 l=if (rd28 l).st=0∨rec28 (rd28 l)≠l then none else some (rd28 l):=by
 by_cases h:(rd28 l).st=0∨rec28 (rd28 l)≠l
 ·rw [if_pos h]
  cases hp:prs28 l with
  |none=>rfl
  |some p=>
   obtain ⟨e,ho⟩:=prs_inv hp
   have e2:=rd_rec ho
   rw [e] at e2
   rw [e2] at h
   rcases h with h|h
   ·have:=ho.1.1;omega
   ·exact absurd e h
 ·rw [if_neg h]
  have h1:=fun e=>h (.inl e)
  have h2:rec28 (rd28 l)=l:=Classical.byContradiction fun e=>h (.inr e)
  have:=prs_rec (rd_ok l h1)
  rwa [h2] at this
def lns (n:Nat) (acc:List Pn):List Bs→List Pn×Nat×Bool
 |[]=>(acc,0,true)
 |[x]=>if x=[] then (acc,0,true) else ([],n,false)
 |x::y::r=>match prs28 x with
  |some p=>lns (n+1) (acc++[p]) (y::r)
  |none=>([],n,false)
def par28 (s:Bs):List Pn×Nat×Bool:=lns 1 [] (spl 10 s)
theorem stn_10:∀i,i < 10→(10:UInt8)∉stn.getD i []:=by decide
theorem pnn_10:∀n∈pnn,(10:UInt8)∉n:=by decide
theorem hxv_10 (n:Nat):(10:UInt8)≠hxv n:=by
 have h:∀k,k < 16→(10:UInt8)≠hxd.getD k 0:=by decide
 exact h _ (Nat.mod_lt _ (by decide))
theorem fgs_10:∀(ns:List Bs) (bs:List Bool),(∀n∈ns,(10:UInt8)∉n)→(10:UInt8)∉fgs ns bs
 |[],_,_=>by simp [fgs]
 |_::_,[],_=>by simp [fgs]
 |n::ns,b::bs,h=>by
  have ih:=fgs_10 ns bs (fun m hm=>h m (List.mem_cons_of_mem _ hm))
  have h1:=h n List.mem_cons_self
  cases b<;>simp [fgs,ih,h1]
theorem nmS_10 (n:Int):(10:UInt8)∉nmS n:=by
 by_cases h:n < 1∨10 < n
 ·unfold nmS;rw [if_pos h];decide
 ·rw [nmS_in (by omega)];exact stn_10 _ (by omega)
theorem rec_10 (p:Pn):(10:UInt8)∉rec28 p:=by
 unfold rec28
 rw [hxs4,hxs2]
 simp [nmS_10,hxv_10,fgs_10 pnn (pvl p) pnn_10]
theorem lns_fmt:∀(l:List Pn) (n:Nat) (acc:List Pn),(∀p∈l,p.okl)→lns n acc (spl 10 (fmt28 l))=(acc++l,0,true)
 |[],n,acc,_=>by simp [fmt28,spl,lns]
 |p::l,n,acc,h=>by
  have ih:=lns_fmt l (n+1) (acc++[p]) (fun q hq=>h q (List.mem_cons_of_mem _ hq))
  show lns n acc (spl 10 (rec28 p++10::fmt28 l))=_
  rw [spl_app 10 _ _ (rec_10 p)]
  cases hs:spl 10 (fmt28 l) with
  |nil=>exact absurd hs (spl_ne _ _)
  |cons y r=>
   rw [hs] at ih
   simp only [lns,prs_rec (h p List.mem_cons_self)]
   rw [ih]
   simp
theorem par_fmt (l:List Pn) (h:∀p∈l,p.okl):par28 (fmt28 l)=(l,0,true):=by
 have:=lns_fmt l 1 [] h
 rwa [List.nil_append] at this
def joi28:List Bs→Bs
 |[]=>[]
 |[x]=>x
 |x::y::r=>x++10::joi28 (y::r)
theorem joi_spl:∀l:Bs,joi28 (spl 10 l)=l
 |[]=>rfl
 |x::l=>by
  have ih:=joi_spl l
  unfold spl
  split
  ·rename_i e
   cases hs:spl 10 l with
   |nil=>exact absurd hs (spl_ne _ _)
   |cons y r=>rw [hs] at ih;simp only [joi28,List.nil_append,ih,e]
  ·cases hs:spl 10 l with
   |nil=>exact absurd hs (spl_ne _ _)
   |cons y r=>
    rw [hs] at ih
    cases r with
    |nil=>simp only [joi28] at ih⊢;rw [ih]
    |cons z r=>simp only [joi28,List.cons_append] at ih⊢;rw [ih]
theorem lns_inv:∀(ls:List Bs) (n:Nat) (acc o:List Pn) (k:Nat),lns n acc ls=(o,k,true)→∃l,o=acc++l∧fmt28 l=joi28 ls
 |[],n,acc,o,k,h=>by
  simp only [lns,Prod.mk.injEq] at h
  exact ⟨[],by simp [h.1],rfl⟩
 |[x],n,acc,o,k,h=>by
  unfold lns at h
  split at h
  ·rename_i e
   simp only [Prod.mk.injEq] at h
   exact ⟨[],by simp [h.1],by rw [e];rfl⟩
  ·simp at h
 |x::y::r,n,acc,o,k,h=>by
  unfold lns at h
  split at h
  ·rename_i p hp
   obtain ⟨l,e1,e2⟩:=lns_inv (y::r) (n+1) _ o k h
   exact ⟨p::l,by rw [e1];simp,by
    show rec28 p++10::fmt28 l=x++10::joi28 (y::r)
    rw [e2,(prs_inv hp).1]⟩
  ·simp at h
theorem fmt_par {s:Bs} {o:List Pn} (h:par28 s=(o,k,true)):fmt28 o=s:=by
 obtain ⟨l,e1,e2⟩:=lns_inv _ _ _ _ _ h
 rw [e1,List.nil_append,e2,joi_spl]
end S
section
variable {w:World}
def Tab28 (w:World):Prop:=∀i,i < 10→w.cell? ⟨0,i,none⟩=some (.string ⟨(S.stn.getD i []).toArray⟩)
theorem cell_in {a:Addr} {v:Value} (h:w.cell? a=some v):a.block < w.heap.size:=World.block_lt_of_cell? w a h
theorem Tab28.adds {w':World} (h:Tab28 w) (k:Adds w w'):Tab28 w':=fun i hi=>(k.cell (cell_in (h i hi))).trans (h i hi)
theorem add28 (x y:List UInt8) (w:World) (hx:x.length+y.length≤9223372036854775807):(Op.stringOp .add ⟨x.toArray⟩ ⟨y.toArray⟩).run Tryz.prog w=.ok (.string ⟨(x++y).toArray⟩) w:=by
 rw [run_string_add_sum w _ _ (by simp [ByteArray.size];omega),ByteArray.mk_append_mk]
theorem nm_in {P:Prop} (hP:P:=by
 go_enter Tryz.func45,Tryz.ntmps45
 go_wp2_with fail
 go_ret
 exact ⟨rfl,aD⟩):P:=hP
theorem state28 (n:Int) (w:World):Calls Tryz.prog 45 #[.int .i64 n] w fun e w'=>e=.returned (.string ⟨(S.nmS n).toArray⟩)∧Adds w w':=by
 by_cases h1:n < 1
 ·have e:S.nmS n=[63]:=by unfold S.nmS;rw [if_pos (.inl h1)]
  rw [e]
  exact nm_in
 ·by_cases h2:10 < n
  ·have e:S.nmS n=[63]:=by unfold S.nmS;rw [if_pos (.inr h2)]
   rw [e]
   exact nm_in
  ·rcases (by omega:n=1∨n=2∨n=3∨n=4∨n=5∨n=6∨n=7∨n=8∨n=9∨n=10) with rfl|rfl|rfl|rfl|rfl|rfl|rfl|rfl|rfl|rfl
   all_goals exact nm_in
theorem nm_of {P:Prop} (hP:P:=by
 go_enter Tryz.func42,Tryz.ntmps42
 go_wp2_with fail
 go_ret
 exact ⟨rfl,aD⟩):P:=hP
theorem name28 (n:Int) (w:World) (h:Tab28 w):Calls Tryz.prog 42 #[.int .i64 n] w fun e w'=>e=.returned (.string ⟨(S.nmS n).toArray⟩)∧Adds w w':=by
 by_cases h1:n < 1
 ·have e:S.nmS n=[63]:=by unfold S.nmS;rw [if_pos (.inl h1)]
  rw [e]
  exact nm_of
 ·by_cases h2:10 < n
  ·have e:S.nmS n=[63]:=by unfold S.nmS;rw [if_pos (.inr h2)]
   rw [e]
   exact nm_of
  ·rcases (by omega:n=1∨n=2∨n=3∨n=4∨n=5∨n=6∨n=7∨n=8∨n=9∨n=10) with rfl|rfl|rfl|rfl|rfl|rfl|rfl|rfl|rfl|rfl
   ·have hc:=h 0 (by decide)
    exact nm_of
   ·have hc:=h 1 (by decide)
    exact nm_of
   ·have hc:=h 2 (by decide)
    exact nm_of
   ·have hc:=h 3 (by decide)
    exact nm_of
   ·have hc:=h 4 (by decide)
    exact nm_of
   ·have hc:=h 5 (by decide)
    exact nm_of
   ·have hc:=h 6 (by decide)
    exact nm_of
   ·have hc:=h 7 (by decide)
    exact nm_of
   ·have hc:=h 8 (by decide)
    exact nm_of
   ·have hc:=h 9 (by decide)
    exact nm_of
theorem and15_64 (n:Int):bits .and .i64 n 15=n % 16:=S.ones_and23 _ 15 4 (by decide) (by decide)
attribute [local go_sem] and15_64
theorem dig_at (n:Nat) (v:Int) (hv:v=(n % 16:Nat)):((⟨#[48,49,50,51,52,53,54,55,56,57,97,98,99,100,101,102]⟩:ByteArray).extract v.toNat (v+1).toNat)=⟨[S.hxv n].toArray⟩:=by
 subst hv
 have h:∀k,k < 16→((⟨#[48,49,50,51,52,53,54,55,56,57,97,98,99,100,101,102]⟩:ByteArray).extract k (k+1))=⟨[S.hxd.getD k 0].toArray⟩:=by decide
 exact h _ (Nat.mod_lt _ (by decide))
theorem dslice (m:Nat) (v:Int) (hv:v=(m % 16:Nat)) (w:World):(Instr.slice 9 (.string ⟨#[48,49,50,51,52,53,54,55,56,57,97,98,99,100,101,102]⟩) (some (.int .i64 v)) (some (.int .i64 (v+1))) none).run Tryz.prog w=.ok (.string ⟨[S.hxv m].toArray⟩) w:=by
 have h16:m % 16 < 16:=Nat.mod_lt _ (by decide)
 rw [run_slice_string w 9 _ .i64 .i64 v (v+1) Tryz.underlying9 (by omega) (by omega) (by show v+1≤16;omega),dig_at m v hv]
theorem addB (B:ByteArray) (x:List UInt8) (w:World) (hB:B.size≤4000000000000000000) (hx:x.length≤4000000000000000000):(Op.stringOp .add B ⟨x.toArray⟩).run Tryz.prog w=.ok (.string (B++⟨x.toArray⟩)) w:=
 run_string_add_sum w _ _ (Nat.le_trans (Nat.add_le_add hB (show x.toArray.size≤4000000000000000000 by rw [List.size_toArray];exact hx)) (by decide))
theorem q1C28a {P:Prop} (h:P:=by
 have hS:=fun w=>dslice (n / 16) ((n:Int) / 16 % 16) (by omega) w
 have hA:=fun w=>addB B [S.hxv (n / 16)] w (by omega) (by simp)
 go_wp2_with fail
 go_region
 go_wp2_with fail
 go_roundw
 case rel=>exact ⟨1 - 1,_,by omega,rfl,rfl,by rw [HB.out,ByteArray.mk_append_mk];rfl,HA.trans aD⟩
 case measure=>simp [intOf]):P:=h
theorem q2C28a {P:Prop} (h:P:=by
 have hS:=fun w=>dslice (n) ((n:Int) % 16) (by omega) w
 have hA:=fun w=>addB B [S.hxv (n)] w (by omega) (by simp)
 go_wp2_with fail
 go_region
 go_wp2_with fail
 go_roundw
 case rel=>exact ⟨0 - 1,_,by omega,rfl,rfl,by rw [HB.out,ByteArray.mk_append_mk];rfl,HA.trans aD⟩
 case measure=>simp [intOf]):P:=h
theorem hex4 (n:Nat) (hn:n < 65536) (w:World):Calls Tryz.prog 46 #[.int .i64 n,.int .i64 4] w fun e w'=>e=.returned (.string ⟨(S.hxs n 4).toArray⟩)∧Adds w w':=by
 go_enter Tryz.func46,Tryz.ntmps46
 go_wp2_with fail
 go_loopw [5,6] (fun s i wr=>∃(j:Int) (B:ByteArray),(-1≤j∧j≤3)∧i=.int .i64 j∧s=.string B∧Hid (B=⟨((S.hxs n 4).take (3 - j).toNat).toArray⟩)∧Adds w wr) (fun _ i _=>(intOf i+1).toNat)
 case atStart=>exact ⟨3,_,by omega,rfl,rfl,rfl,aD⟩
 case round=>
  obtain ⟨j,B,hj,rfl,rfl,HB,HA⟩:=hrel
  have hs:B.size≤4:=by rw [HB.out,ByteArray.size_mk',List.size_toArray,List.length_take,S.hxs4];simp;omega
  rcases (by omega:j=3∨j=2∨j=1∨j=0∨j= -1) with rfl|rfl|rfl|rfl|rfl
  ·have hS:=fun w=>dslice (n / 16 / 16 / 16) ((n:Int) / 4096 % 16) (by omega) w
   have hA:=fun w=>addB B [S.hxv (n / 16 / 16 / 16)] w (by omega) (by simp)
   go_wp2_with fail
   go_region
   go_wp2_with fail
   go_roundw
   case rel=>exact ⟨3 - 1,_,by omega,rfl,rfl,by rw [HB.out,ByteArray.mk_append_mk];rfl,HA.trans aD⟩
   case measure=>simp [intOf]
  ·have hS:=fun w=>dslice (n / 16 / 16) ((n:Int) / 256 % 16) (by omega) w
   have hA:=fun w=>addB B [S.hxv (n / 16 / 16)] w (by omega) (by simp)
   go_wp2_with fail
   go_region
   go_wp2_with fail
   go_roundw
   case rel=>exact ⟨2 - 1,_,by omega,rfl,rfl,by rw [HB.out,ByteArray.mk_append_mk];rfl,HA.trans aD⟩
   case measure=>simp [intOf]
  ·exact q1C28a
  ·exact q2C28a
  ·go_wp2_with fail
   go_ret
   exact ⟨by rw [HB.out];rfl,HA⟩
theorem hex2 (n:Nat) (hn:n < 65536) (w:World):Calls Tryz.prog 46 #[.int .i64 n,.int .i64 2] w fun e w'=>e=.returned (.string ⟨(S.hxs n 2).toArray⟩)∧Adds w w':=by
 go_enter Tryz.func46,Tryz.ntmps46
 go_wp2_with fail
 go_loopw [5,6] (fun s i wr=>∃(j:Int) (B:ByteArray),(-1≤j∧j≤1)∧i=.int .i64 j∧s=.string B∧Hid (B=⟨((S.hxs n 2).take (1 - j).toNat).toArray⟩)∧Adds w wr) (fun _ i _=>(intOf i+1).toNat)
 case atStart=>exact ⟨1,_,by omega,rfl,rfl,rfl,aD⟩
 case round=>
  obtain ⟨j,B,hj,rfl,rfl,HB,HA⟩:=hrel
  have hs:B.size≤4:=by rw [HB.out,ByteArray.size_mk',List.size_toArray,List.length_take,S.hxs2];simp;omega
  rcases (by omega:j=1∨j=0∨j= -1) with rfl|rfl|rfl
  ·exact q1C28a
  ·exact q2C28a
  ·go_wp2_with fail
   go_ret
   exact ⟨by rw [HB.out];rfl,HA⟩
end
section
variable {a:Act} {base:Nat} {d1:List Int} {v v1:Value} {w w1 w2:World}
def S.bi (l:List UInt8):List Int:=l.map fun b=>(b.toNat:Int)
theorem S.bi_app (a b:List UInt8):S.bi (a++b)=S.bi a++S.bi b:=List.map_append
theorem S.bi_len (l:List UInt8):(S.bi l).length=l.length:=List.length_map _
theorem strCells_bi (l:List UInt8):Lib.strCells ⟨l.toArray⟩=Fl csB (S.bi l):=by
 rw [FlB]
 simp [Lib.strCells,S.bi]
def At28 (w:World) (v v':Value):Prop:=v'.ownBlock=v.ownBlock∨∃g,v'.ownBlock=some g∧w.heap.size≤g
theorem appS_at (w:World) (base:Nat) (t u ty e:TypeId) (i:TypeInfo) (ht:Tryz.prog.underlying t=some (.slice e)) (hu:Tryz.prog.underlying u=some .string) (hi:Tryz.prog.info? e=some i) (hz:i.zero=some (.int .u8 0)) (hs1:i.size=1) (hby:i.bytes=1)
 (v:Value) (n:Nat) (xs:List Value) (hown:w.ownsRow base e 1 v n xs) (s:ByteArray) (h63:n+s.size≤maxLen) (hb:n+s.size≤140737488355328) {v':Value} {w':World}
 (hr:(Builtin.append_ #[t,u] ty #[v,.string s]).run Tryz.prog w=.ok v' w') (hnil:v'=.slice none 0 0↔v=.slice none 0 0∧s.size=0):At28 w v v':=by
 have hxl:xs.length=n:=by simpa using hown.1
 simp only [maxLen] at h63
 rcases hown.2 with ⟨rfl,rfl⟩|⟨g,cap,cur,rfl,hbg,hg,hnc,hcm,hcs,htake⟩
 ·by_cases hm:s.size=0
  ·rw [hnil.2 ⟨rfl,hm⟩]
   exact .inl rfl
  ·have:=(run_append_nil_string (P:=Tryz.prog) w t u ty e i (.int .u8 0) ht hu hi hz s (by omega) (by omega) (by rw [hby];omega)).symm.trans hr
   injection this with e1 e2
   rw [←e1]
   exact .inr ⟨w.heap.size,rfl,Nat.le_refl _⟩
 ·by_cases hroom:n+s.size≤cap
  ·have hcs':cur.size=cap:=by simpa using hcs
   have:=(Lib.run_append_room_string (P:=Tryz.prog) w t u ty e i ht hu hi hs1 g n cap cur hg s hroom (by omega)).symm.trans hr
   injection this with e1 e2
   rw [←e1]
   exact .inl rfl
  ·have holds:∀j u,xs[j]? =some u→w.cell? ((⟨g,0,none⟩:Addr).add j)=some u:=hown.cells (g:=g) rfl
   have:=(Lib.run_append_grow_string (P:=Tryz.prog) w t u ty e i (.int .u8 0) ht hu hi hz ⟨g,0,none⟩ n cap xs (by rw [hs1];simpa using hxl) holds s (by omega) (by omega) (by rw [hby];exact growslice_fits (by omega) (by omega))).symm.trans hr
   injection this with e1 e2
   rw [←e1]
   exact .inr ⟨w.heap.size,rfl,Nat.le_refl _⟩
theorem wpList_appS {ops:Array Oper} {rest:List Oper} {o:Oper} {Q:Exit→Act→World→Prop} (hgd:o.guard=none) (s x:Operand)
 (ho:o.op=.call {callee:=.builtin .append,args:=#[s,x],argTypes:=#[30,9]})
 (base:Nat) (v:Value) (d:List Int) (l:List UInt8) (hv:a.eval s=v) (hx:a.eval x=.string ⟨l.toArray⟩) (hown:OwnsB w base v d) (hsz:d.length+l.length≤1000000000) (hbase:base≤w.heap.size)
 (h:∀v' w',OwnsB w' base v' (d++S.bi l)→w.grownBy w' v.ownBlock→At28 w v v'→wpList Tryz.prog ops Q rest (a.put o.dst v') w'):wpList Tryz.prog ops Q (o::rest) a w:=by
 refine wpList_plain hgd fun K hK=> ?_
 obtain ⟨i0,hi,hz0,hz1,hz2⟩:=info_parts infoB
 have hls:(⟨l.toArray⟩:ByteArray).size=l.length:=List.size_toArray
 have h63:d.length+(⟨l.toArray⟩:ByteArray).size≤maxLen:=by rw [hls];unfold maxLen;omega
 have hb:d.length+(⟨l.toArray⟩:ByteArray).size≤140737488355328:=by rw [hls];omega
 obtain ⟨v',w',hr,h2,h3,h4⟩:=Lib.run_append_own_string (P:=Tryz.prog) w base 30 9 o.type 5 i0 Tryz.underlying30 Tryz.underlying9 hi hz0 hz1 hz2 v d.length (Fl csB d) hown ⟨l.toArray⟩ h63 hb hbase
 have h5:=appS_at w base 30 9 o.type 5 i0 Tryz.underlying30 Tryz.underlying9 hi hz0 hz1 hz2 v d.length (Fl csB d) hown ⟨l.toArray⟩ h63 hb hr h4
 unfold Oper.wp execOp
 simp only [ho,resolve,invoke,builtin,Sem.run_bind,Sem.run_pure,Result.andThen_ok,List.map_toArray,List.map_cons,List.map_nil,hv,hx,hr]
 refine hK _ _ (h v' w' ?_ h3 h5)
 unfold OwnsB OwnsG
 rw [List.length_append,S.bi_len,Fl_app,←strCells_bi,←hls]
 exact h2
theorem wpList_app8 {ops:Array Oper} {rest:List Oper} {o:Oper} {Q:Exit→Act→World→Prop} (hgd:o.guard=none) (s x:Operand)
 (ho:o.op=.call {callee:=.builtin .append,args:=#[s,x],argTypes:=#[30,30]})
 (base:Nat) (v:Value) (d:List Int) (b:UInt8) (hv:a.eval s=v) (ad:Addr) (c:Nat) (hx:a.eval x=.slice (some ad) 1 c) (hat:w.cell? ad=some (.int .u8 b.toNat)) (hown:OwnsB w base v d) (hsz:d.length≤1000000000) (hbase:base≤w.heap.size)
 (h:∀v' w',OwnsB w' base v' (d++S.bi [b])→w.grownBy w' v.ownBlock→At28 w v v'→wpList Tryz.prog ops Q rest (a.put o.dst v') w'):wpList Tryz.prog ops Q (o::rest) a w:=by
 obtain ⟨i0,hi,hz0,hz1,hz2⟩:=info_parts infoB
 refine wpList_append_own_at _ hgd s x 30 ho base 5 i0 (.int .u8 0) 1 1 Tryz.underlying30 hi hz0 hz1 hz2 rfl (by decide) v d.length (Fl csB d) hv hown ad 1 c [.int .u8 b.toNat] hx rfl ?_ ?_ (by unfold maxLen;omega) (by omega) hbase ?_
 ·intro j u hj
  rcases j with _|j
  ·obtain rfl:=Option.some.inj hj
   have e:ad.add 0=ad:=by simp [Addr.add]
   rw [e];exact hat
  ·simp at hj
 ·intro u hu
  simp only [List.mem_singleton] at hu
  subst hu;rfl
 ·intro v' w' h1 h2 h3 h4
  refine h v' w' ?_ h2 (h4.imp id fun e=>⟨_,e,Nat.le_refl _⟩)
  unfold OwnsB OwnsG
  rw [List.length_append,Fl_app]
  exact h1
structure Tx28 (base:Nat) (v:Value) (w:World) (v':Value) (d':List Int) (w':World):Prop where
 o:OwnsB w' base v' d'
 g:w.grownBy w' v.ownBlock
 a:At28 w v v'
theorem grown_trans {a b c:World} {r r':Option Nat} (h:a.grownBy b r) (k:b.grownBy c r') (hr:r'=r∨∃g,r'=some g∧a.heap.size≤g):a.grownBy c r:=by
 obtain ⟨h1,h2,h3,h4,h5⟩:=h
 obtain ⟨k1,k2,k3,k4,k5⟩:=k
 refine ⟨k1.trans h1,k2.trans h2,k3.trans h3,Nat.le_trans h4 k4,fun j hj hne=>(k5 j (by omega) ?_).trans (h5 j hj hne)⟩
 rcases hr with rfl|⟨g,rfl,hg⟩
 ·exact hne
 ·intro e;injection e with e;omega
theorem Tx28.refl {d:List Int} {w':World} (h:OwnsB w base v d) (k:Adds w w'):Tx28 base v w v d w':=⟨h.adds k,k.grownBy _,.inl rfl⟩
theorem Tx28.step {v2:Value} {d2:List Int} {w3:World} (h:Tx28 base v w v1 d1 w1) (k:Adds w1 w2) (ho:OwnsB w3 base v2 d2) (hg:w2.grownBy w3 v1.ownBlock) (ha:At28 w2 v1 v2):Tx28 base v w v2 d2 w3:=by
 have hs:w.heap.size≤w2.heap.size:=Nat.le_trans h.g.4 k.size
 refine ⟨ho,grown_trans h.g (grown_trans (k.grownBy _) hg (.inl rfl)) h.a,?_⟩
 rcases ha with e|⟨g,e,hg'⟩
 ·rcases h.a with q|⟨g,q,hg'⟩
  ·exact .inl (e.trans q)
  ·exact .inr ⟨g,e.trans q,hg'⟩
 ·exact .inr ⟨g,e,by omega⟩
theorem Tx28.adds (h:Tx28 base v w v1 d1 w1) (k:Adds w1 w2):Tx28 base v w v1 d1 w2:=⟨h.o.adds k,grown_trans h.g (k.grownBy v.ownBlock) (.inl rfl),h.a⟩
attribute [local go_sem] and15_64
theorem dindex (m:Nat) (v:Int) (hv:v=(m % 16:Nat)) (w:World):(Instr.index 9 (.string ⟨#[48,49,50,51,52,53,54,55,56,57,97,98,99,100,101,102]⟩) (.int .i64 v)).run Tryz.prog w=.ok (.int .u8 (S.hxv m).toNat) w:=by
 subst hv
 have h16:m % 16 < 16:=Nat.mod_lt _ (by decide)
 rw [run_index_string w 9 _ .i64 _ Tryz.underlying9]
 have h:∀k,(hk:k < 16)→((⟨#[48,49,50,51,52,53,54,55,56,57,97,98,99,100,101,102]⟩:ByteArray)[k]'hk)=S.hxd.getD k 0:=by decide
 rw [dif_pos ⟨by omega,by show ((m % 16:Nat):Int) < 16;omega⟩]
 simp only [Int.toNat_natCast]
 rw [h _ h16]
 rfl
theorem q1C28b {P:Prop} (h:P:=by
 have hS:=fun w=>dindex (n / 16) ((n:Int) / 16 % 16) (by omega) w
 go_wp2_with (at_builtin;refine wpList_app8 rfl _ _ rfl base (.slice a1 n1 c1) d1 (S.hxv (n / 16)) rfl ⟨wr.heap.size,0,none⟩ 1 rfl (by simp [go_sem]) (HX.out.o.adds aD) (by have:=HD.out;have:=HL.out;omega) (Nat.le_trans hb (Nat.le_trans HX.out.g.4 (Adds.size aD))) ?_;intro v2 w2 hO hG hA;have HT2:=Lib.hid (Tx28.step HX.out aD hO hG hA);clear hO hG hA)
 go_roundw
 case rel=>exact ⟨1 - 1,_,by omega,rfl,by rw [HB.out,List.append_assoc,←S.bi_app];rfl,HT2⟩
 case measure=>simp [intOf]):P:=h
theorem q2C28b {P:Prop} (h:P:=by
 have hS:=fun w=>dindex (n) ((n:Int) % 16) (by omega) w
 go_wp2_with (at_builtin;refine wpList_app8 rfl _ _ rfl base (.slice a1 n1 c1) d1 (S.hxv (n)) rfl ⟨wr.heap.size,0,none⟩ 1 rfl (by simp [go_sem]) (HX.out.o.adds aD) (by have:=HD.out;have:=HL.out;omega) (Nat.le_trans hb (Nat.le_trans HX.out.g.4 (Adds.size aD))) ?_;intro v2 w2 hO hG hA;have HT2:=Lib.hid (Tx28.step HX.out aD hO hG hA);clear hO hG hA)
 go_roundw
 case rel=>exact ⟨0 - 1,_,by omega,rfl,by rw [HB.out,List.append_assoc,←S.bi_app];rfl,HT2⟩
 case measure=>simp [intOf]):P:=h
theorem num4 (n:Nat) (hn:n < 65536) (base:Nat) (v:Value) (ad:Option Addr) (nn cc:Nat) (hv:v=.slice ad nn cc) (d:List Int) (w:World) (h:OwnsB w base v d) (hb:base≤w.heap.size) (hd:d.length≤900000000):Calls Tryz.prog 43 #[v,.int .i64 n,.int .i64 4] w fun e w'=>∃v',e=.returned v'∧Tx28 base v w v' (d++S.bi (32::S.hxs n 4)) w':=by
 have H:=Lib.hid h
 have HD:=Lib.hid hd
 clear h hd
 subst hv
 go_enter Tryz.func43,Tryz.ntmps43
 go_wp2_with (at_builtin;refine wpList_appS rfl _ _ rfl base (.slice ad nn cc) d [32] rfl rfl (H.out.adds aD) (by have:=HD.out;simp;omega) (Nat.le_trans hb (Adds.size aD)) ?_;intro v1 w1 hO hG hA;have HT:=Lib.hid (Tx28.step (Tx28.refl H.out (Adds.refl _)) aD hO hG hA);clear hO hG hA)
 go_loopw [0,7] (fun t i wr=>∃(j:Int) (d1:List Int),(-1≤j∧j≤3)∧i=.int .i64 (4 * j)∧Hid (d1=d++S.bi (32::(S.hxs n 4).take (3 - j).toNat))∧Hid (Tx28 base (.slice ad nn cc) w t d1 wr)) (fun _ i _=>(intOf i+4).toNat)
 case atStart=>exact ⟨3,_,by omega,rfl,rfl,HT⟩
 case round=>
  obtain ⟨j,d1,hj,rfl,HB,HX⟩:=hrel
  have hl:d1.length≤d.length+5:=by rw [HB.out,List.length_append,S.bi_len,List.length_cons,List.length_take,S.hxs4];simp;omega
  have HL:=Lib.hid hl
  clear hl
  obtain ⟨a1,n1,c1,rfl, -, -, -, -, -⟩:=HX.out.o.form2
  rcases (by omega:j=3∨j=2∨j=1∨j=0∨j= -1) with rfl|rfl|rfl|rfl|rfl
  ·have hS:=fun w=>dindex (n / 16 / 16 / 16) ((n:Int) / 4096 % 16) (by omega) w
   go_wp2_with (at_builtin;refine wpList_app8 rfl _ _ rfl base (.slice a1 n1 c1) d1 (S.hxv (n / 16 / 16 / 16)) rfl ⟨wr.heap.size,0,none⟩ 1 rfl (by simp [go_sem]) (HX.out.o.adds aD) (by have:=HD.out;have:=HL.out;omega) (Nat.le_trans hb (Nat.le_trans HX.out.g.4 (Adds.size aD))) ?_;intro v2 w2 hO hG hA;have HT2:=Lib.hid (Tx28.step HX.out aD hO hG hA);clear hO hG hA)
   go_roundw
   case rel=>exact ⟨3 - 1,_,by omega,rfl,by rw [HB.out,List.append_assoc,←S.bi_app];rfl,HT2⟩
   case measure=>simp [intOf]
  ·have hS:=fun w=>dindex (n / 16 / 16) ((n:Int) / 256 % 16) (by omega) w
   go_wp2_with (at_builtin;refine wpList_app8 rfl _ _ rfl base (.slice a1 n1 c1) d1 (S.hxv (n / 16 / 16)) rfl ⟨wr.heap.size,0,none⟩ 1 rfl (by simp [go_sem]) (HX.out.o.adds aD) (by have:=HD.out;have:=HL.out;omega) (Nat.le_trans hb (Nat.le_trans HX.out.g.4 (Adds.size aD))) ?_;intro v2 w2 hO hG hA;have HT2:=Lib.hid (Tx28.step HX.out aD hO hG hA);clear hO hG hA)
   go_roundw
   case rel=>exact ⟨2 - 1,_,by omega,rfl,by rw [HB.out,List.append_assoc,←S.bi_app];rfl,HT2⟩
   case measure=>simp [intOf]
  ·exact q1C28b
  ·exact q2C28b
  ·go_wp2_with fail
   go_ret
   exact ⟨_,rfl,by rw [HB.out] at HX;exact HX.out⟩
theorem num2 (n:Nat) (hn:n < 65536) (base:Nat) (v:Value) (ad:Option Addr) (nn cc:Nat) (hv:v=.slice ad nn cc) (d:List Int) (w:World) (h:OwnsB w base v d) (hb:base≤w.heap.size) (hd:d.length≤900000000):Calls Tryz.prog 43 #[v,.int .i64 n,.int .i64 2] w fun e w'=>∃v',e=.returned v'∧Tx28 base v w v' (d++S.bi (32::S.hxs n 2)) w':=by
 have H:=Lib.hid h
 have HD:=Lib.hid hd
 clear h hd
 subst hv
 go_enter Tryz.func43,Tryz.ntmps43
 go_wp2_with (at_builtin;refine wpList_appS rfl _ _ rfl base (.slice ad nn cc) d [32] rfl rfl (H.out.adds aD) (by have:=HD.out;simp;omega) (Nat.le_trans hb (Adds.size aD)) ?_;intro v1 w1 hO hG hA;have HT:=Lib.hid (Tx28.step (Tx28.refl H.out (Adds.refl _)) aD hO hG hA);clear hO hG hA)
 go_loopw [0,7] (fun t i wr=>∃(j:Int) (d1:List Int),(-1≤j∧j≤1)∧i=.int .i64 (4 * j)∧Hid (d1=d++S.bi (32::(S.hxs n 2).take (1 - j).toNat))∧Hid (Tx28 base (.slice ad nn cc) w t d1 wr)) (fun _ i _=>(intOf i+4).toNat)
 case atStart=>exact ⟨1,_,by omega,rfl,rfl,HT⟩
 case round=>
  obtain ⟨j,d1,hj,rfl,HB,HX⟩:=hrel
  have hl:d1.length≤d.length+5:=by rw [HB.out,List.length_append,S.bi_len,List.length_cons,List.length_take,S.hxs2];simp;omega
  have HL:=Lib.hid hl
  clear hl
  obtain ⟨a1,n1,c1,rfl, -, -, -, -, -⟩:=HX.out.o.form2
  rcases (by omega:j=1∨j=0∨j= -1) with rfl|rfl|rfl
  ·exact q1C28b
  ·exact q2C28b
  ·go_wp2_with fail
   go_ret
   exact ⟨_,rfl,by rw [HB.out] at HX;exact HX.out⟩
end
section
open Go.Shelf
def Tryz.lays137_ren:Go.Shelf.Ren:=⟨fun|137=>85|217=>119|266=>151|n=>n,fun|9=>9|5=>5|3=>3|n=>n,fun|n=>n⟩
theorem Tryz.lays137:Go.Proofs.Lays.n137 Tryz.prog Tryz.lays137_ren:={
 mixed:=by kernel_rfl
 f137:=Tryz.func85.trans (congrArg some (by kernel_rfl))
 f217:=Tryz.func119.trans (congrArg some (by kernel_rfl))
 f266:=Tryz.func151.trans (congrArg some (by kernel_rfl))
 t3:=Tryz.underlying3
 a3:=Tryz.isAgg3
 z3:=Tryz.sizeOf3
 v3:=Tryz.zeroValue3
 t5:=Tryz.underlying5
 a5:=Tryz.isAgg5
 z5:=Tryz.sizeOf5
 v5:=Tryz.zeroValue5
 t9:=Tryz.underlying9
 a9:=Tryz.isAgg9
 z9:=Tryz.sizeOf9
 v9:=Tryz.zeroValue9}
open Go.RowKit in
theorem Tryz.strings_IndexByte (s:ByteArray) (c:Int) (w:World):
 Calls Tryz.prog 85 #[.string s,.int .u8 c] w fun e w'=>e=.returned (.int .i64 (Lib.indexByte s.data.toList c.toNat.toUInt8))∧w'=w:=Any.strings_IndexByte Tryz.lays137 s c w
def Tryz.lays103_ren:Go.Shelf.Ren:=⟨fun|103=>53|210=>86|206=>123|n=>n,fun|9=>9|4=>4|24=>130|3=>3|n=>n,fun|n=>n⟩
theorem Tryz.lays103:Go.Proofs.Lays.n103 Tryz.prog Tryz.lays103_ren:={
 mixed:=by kernel_rfl
 f103:=Tryz.func53.trans (congrArg some (by kernel_rfl))
 f206:=Tryz.func123.trans (congrArg some (by kernel_rfl))
 f210:=Tryz.func86.trans (congrArg some (by kernel_rfl))
 t3:=Tryz.underlying3
 a3:=Tryz.isAgg3
 z3:=Tryz.sizeOf3
 v3:=Tryz.zeroValue3
 t4:=Tryz.underlying4
 a4:=Tryz.isAgg4
 z4:=Tryz.sizeOf4
 v4:=Tryz.zeroValue4
 t9:=Tryz.underlying9
 a9:=Tryz.isAgg9
 z9:=Tryz.sizeOf9
 v9:=Tryz.zeroValue9
 t24:=Tryz.underlying130
 a24:=Tryz.isAgg130
 z24:=Tryz.sizeOf130
 v24:=Tryz.zeroValue130}
open Go.RowKit in
theorem Tryz.strings_CutPrefix (s p:ByteArray) (w:World):
 Calls Tryz.prog 53 #[.string s,.string p] w fun e w'=>e=.returned (.tuple #[.string ⟨(Lib.trimPrefix s.data.toList p.data.toList).toArray⟩,.bool (Lib.hasPrefix s.data.toList p.data.toList)])∧w'=w:=Any.strings_CutPrefix Tryz.lays103 s p w
def Tryz.lays219_ren:Go.Shelf.Ren:=⟨fun|219=>84|217=>119|225=>120|224=>121|267=>122|266=>151|314=>152|n=>n,fun|9=>9|3=>3|4=>4|5=>5|46=>75|146=>235|51=>234|n=>n,fun|1=>1|n=>n⟩
theorem Tryz.lays219:Go.Proofs.Lays.n219 Tryz.prog Tryz.lays219_ren:={
 mixed:=by kernel_rfl
 f217:=Tryz.func119.trans (congrArg some (by kernel_rfl))
 f219:=Tryz.func84.trans (congrArg some (by kernel_rfl))
 f224:=Tryz.func121.trans (congrArg some (by kernel_rfl))
 f225:=Tryz.func120.trans (congrArg some (by kernel_rfl))
 f266:=Tryz.func151.trans (congrArg some (by kernel_rfl))
 f267:=Tryz.func122.trans (congrArg some (by kernel_rfl))
 f314:=Tryz.func152.trans (congrArg some (by kernel_rfl))
 t3:=Tryz.underlying3
 a3:=Tryz.isAgg3
 z3:=Tryz.sizeOf3
 v3:=Tryz.zeroValue3
 t4:=Tryz.underlying4
 a4:=Tryz.isAgg4
 z4:=Tryz.sizeOf4
 v4:=Tryz.zeroValue4
 t5:=Tryz.underlying5
 a5:=Tryz.isAgg5
 z5:=Tryz.sizeOf5
 v5:=Tryz.zeroValue5
 t9:=Tryz.underlying9
 a9:=Tryz.isAgg9
 z9:=Tryz.sizeOf9
 v9:=Tryz.zeroValue9
 t46:=Tryz.underlying75
 a46:=Tryz.isAgg75
 z46:=Tryz.sizeOf75
 v46:=Tryz.zeroValue75
 t51:=Tryz.underlying234
 a51:=Tryz.isAgg234
 z51:=Tryz.sizeOf234
 v51:=Tryz.zeroValue234
 t146:=Tryz.underlying235
 a146:=Tryz.isAgg235
 z146:=Tryz.sizeOf235
 v146:=Tryz.zeroValue235
 g1:=by kernel_rfl}
open Go.RowKit Go.Lib in
theorem Tryz.stringslite_Index_one (s:ByteArray) (c:UInt8) (w:World):
 Calls Tryz.prog 84 #[.string s,.string ⟨#[c]⟩] w fun e w'=>e=.returned (.int .i64 (Lib.indexByte s.data.toList c))∧w'=w:=Any.stringslite_Index_one Tryz.lays219 s c w
end
section
def S.cutR (c:UInt8) (l:S.Bs):S.Bs:=l.drop ((S.upt28 c l).length+1)
theorem S.upt_le (c:UInt8):∀l:S.Bs,(S.upt28 c l).length≤l.length
 |[]=>Nat.le_refl _
 |x::l=>by
  have:=S.upt_le c l
  unfold S.upt28
  split<;>simp<;>omega
theorem S.upt_in (c:UInt8):∀l:S.Bs,c∈l→(S.upt28 c l).length < l.length∧Lib.indexByte l c=((S.upt28 c l).length:Int)
 |x::l,h=>by
  unfold S.upt28 Lib.indexByte
  by_cases e:x=c
  ·simp [e]
  ·have hl:c∈l:=by
    rcases List.mem_cons.1 h with q|q
    ·exact absurd q.symm e
    ·exact q
   obtain ⟨h1,h2⟩:=S.upt_in c l hl
   have e':(x==c)=false:=by simpa using e
   rw [if_neg e,e',if_neg (by simp),h2]
   refine ⟨by simp;omega,?_⟩
   rw [if_neg (by first|(simp;done)|(simp;omega))]
   simp
theorem S.upt_out (c:UInt8):∀l:S.Bs,c∉l→S.upt28 c l=l∧Lib.indexByte l c= -1
 |[],_=>⟨rfl,rfl⟩
 |x::l,h=>by
  simp only [List.mem_cons,not_or] at h
  obtain ⟨h1,h2⟩:=S.upt_out c l h.2
  unfold S.upt28 Lib.indexByte
  have e':(x==c)=false:=by simpa using Ne.symm h.1
  rw [if_neg (Ne.symm h.1),e',if_neg (by simp),h1,h2]
  exact ⟨rfl,rfl⟩
theorem S.upt_take (c:UInt8) (l:S.Bs):l.take (S.upt28 c l).length=S.upt28 c l:=by
 have:=S.upt28_pre c l
 calc l.take (S.upt28 c l).length=(S.upt28 c l++l.drop (S.upt28 c l).length).take (S.upt28 c l).length:=by rw [this]
  _=S.upt28 c l:=by simp
theorem sl_to (l:List UInt8) (k:Nat) (hk:k≤l.length) (w:World):(Instr.slice 9 (.string ⟨l.toArray⟩) none (some (.int .i64 k)) none).run Tryz.prog w=.ok (.string ⟨(l.take k).toArray⟩) w:=by
 rw [run_slice_string_h (P:=Tryz.prog) w 9 ⟨l.toArray⟩ Tryz.underlying9 .i64 k (by omega) (by show (k:Int)≤(l.toArray.size:Nat);rw [List.size_toArray];omega)]
 congr 2
 rw [Int.toNat_natCast,ByteArray.extract_mk]
 simp
theorem sl_from (l:List UInt8) (k:Nat) (i:Int) (hi:i=k) (hk:k≤l.length) (w:World):(Instr.slice 9 (.string ⟨l.toArray⟩) (some (.int .i64 i)) none none).run Tryz.prog w=.ok (.string ⟨(l.drop k).toArray⟩) w:=by
 subst hi
 rw [run_slice_string_l (P:=Tryz.prog) w 9 ⟨l.toArray⟩ Tryz.underlying9 .i64 k (by omega) (by show (k:Int)≤(l.toArray.size:Nat);rw [List.size_toArray];omega)]
 congr 2
 rw [Int.toNat_natCast,ByteArray.extract_mk]
 rw [List.take_of_length_le]
 show _≤l.toArray.size - k
 simp
theorem lcut28 (l:List UInt8) (c:UInt8) (hl:l.length≤1000000000) (w:World):Calls Tryz.prog 50 #[.string ⟨l.toArray⟩,.string ⟨#[c]⟩] w fun e w'=>e=.returned (.tuple #[.string ⟨(S.upt28 c l).toArray⟩,.string ⟨(S.cutR c l).toArray⟩,.bool (decide (c∈l))])∧Adds w w':=by
 have hi:∀w,Calls Tryz.prog 84 #[.string ⟨l.toArray⟩,.string ⟨#[c]⟩] w fun e w'=>e=.returned (.int .i64 (Lib.indexByte l c))∧w'=w:=fun w=>Tryz.stringslite_Index_one ⟨l.toArray⟩ c w
 have HI:=Lib.hid hi
 clear hi
 by_cases hc:c∈l
 ·obtain ⟨h1,h2⟩:=S.upt_in c l hc
  have s1:=fun w=>sl_to l (S.upt28 c l).length (by omega) w
  have s2:=fun w=>sl_from l ((S.upt28 c l).length+1) (((S.upt28 c l).length:Int)+1) (by omega) (by omega) w
  rw [S.upt_take] at s1
  have HC:=Lib.hid (show decide (c∈l)=true by simp [hc])
  have HS:=Lib.hid (show l.drop ((S.upt28 c l).length+1)=S.cutR c l from rfl)
  have HU:=Lib.hid h2
  rw [HS.out] at s2
  generalize (S.upt28 c l).length=k at *
  generalize S.cutR c l=r at *
  clear h2 hc
  have q1:0≤(k:Int):=by omega
  go_enter Tryz.func50,Tryz.ntmps50
  go_wp2_with (go_at_call 84;refine (HI.out _).mono ?_;rintro e w' ⟨rfl,rfl⟩;rw [HU.out])
  go_region
  all_goals go_wp2_with fail
  all_goals refine bodyPost_ret (v:=.tuple #[_,_,_]) (by simp [results,Tryz.results50,go_sem];exact ⟨rfl,rfl,rfl⟩) rfl ⟨by rw [HC.out],aD⟩
 ·obtain ⟨h1,h2⟩:=S.upt_out c l hc
  have HU:=Lib.hid h2
  have HC:=Lib.hid (show decide (c∈l)=false by simp [hc])
  have HS:=Lib.hid (show S.cutR c l=[] by unfold S.cutR;rw [h1];simp)
  rw [h1,HC.out,HS.out]
  clear h1 h2 hc
  go_enter Tryz.func50,Tryz.ntmps50
  go_wp2_with (go_at_call 84;refine (HI.out _).mono ?_;rintro e w' ⟨rfl,rfl⟩;rw [HU.out])
  exact bodyPost_ret (by simp [results,Tryz.results50,go_sem]) rfl ⟨rfl,aD⟩
theorem cut28 (l:List UInt8) (c:UInt8) (hl:l.length≤1000000000) (w:World):Calls Tryz.prog 22 #[.string ⟨l.toArray⟩,.string ⟨#[c]⟩] w fun e w'=>e=.returned (.tuple #[.string ⟨(S.upt28 c l).toArray⟩,.string ⟨(S.cutR c l).toArray⟩,.bool (decide (c∈l))])∧Adds w w':=by
 have HI:=Lib.hid (fun w=>lcut28 l c hl w)
 generalize decide (c∈l)=t at *
 go_enter Tryz.func22,Tryz.ntmps22
 go_wp2_with (go_at_call 50;refine ad (HI.out _) fun n1 os1=> ?_)
 exact bodyPost_ret (by simp [results,Tryz.results22,go_sem]) rfl ⟨rfl,aD⟩
end
section
variable {l:S.Bs}
def S.stA:Array Value:=#[.string ⟨#[116,49]⟩,.string ⟨#[116,50]⟩,.string ⟨#[116,51]⟩,.string ⟨#[116,52]⟩,.string ⟨#[116,53]⟩,.string ⟨#[116,54]⟩,.string ⟨#[116,119]⟩,.string ⟨#[116,104]⟩,.string ⟨#[116,104,97,108,116]⟩,.string ⟨#[116,114,101,115,101,116]⟩]
@[go_sem ↓] theorem load_stA (a:Addr):loadVar 165 a=wholeVar 165 a:=by unfold wholeVar;rfl
theorem whole_stA {w:World} (h:Tab28 w):(wholeVar 165 ⟨0,0,none⟩).run Tryz.prog w=.ok (.agg S.stA) w:=
 whole_cells Tryz.underlying165 rfl (n:=10) (by kernel_rfl) w 0 0 S.stA rfl fun j v hj=>by
  have hj':j < 10:=by
   have:=(Array.getElem?_eq_some_iff.1 hj).1
   exact this
  rw [Nat.zero_add,h j hj']
  rcases (by omega:j=0∨j=1∨j=2∨j=3∨j=4∨j=5∨j=6∨j=7∨j=8∨j=9) with rfl|rfl|rfl|rfl|rfl|rfl|rfl|rfl|rfl|rfl
  all_goals (cases hj;rfl)
theorem S.stA_at (k:Nat) (hk:k < 10) (w:World):(Instr.index 165 (.agg S.stA) (.int .i64 k)).run Tryz.prog w=.ok (.string ⟨(S.stn.getD k []).toArray⟩) w:=by
 rcases (by omega:k=0∨k=1∨k=2∨k=3∨k=4∨k=5∨k=6∨k=7∨k=8∨k=9) with rfl|rfl|rfl|rfl|rfl|rfl|rfl|rfl|rfl|rfl
 all_goals kernel_rfl
theorem S.stR_some {k:Nat} (hk:k < 10) (h:S.stn.getD k []=l) (hn:∀i,i < k→S.stn.getD i []≠l):S.stR28 l=k+1:=by
 unfold S.stR28
 have e:S.stn.findIdx? (·==l)=some k:=by
  subst h
  exact S.stn_i k hk
 rw [e]
theorem S.stR_none (hn:∀i,i < 10→S.stn.getD i []≠l):S.stR28 l=0:=by
 unfold S.stR28
 have e:S.stn.findIdx? (·==l)=none:=by
  rw [List.findIdx?_eq_none_iff]
  intro x hx
  obtain ⟨i,hi,rfl⟩:=List.mem_iff_getElem.1 hx
  have:=hn i hi
  rw [List.getD_eq_getElem?_getD,List.getElem?_eq_getElem hi] at this
  simpa using this
 rw [e]
theorem stateOf28 (l:List UInt8) (w:World) (hT:Tab28 w):Calls Tryz.prog 51 #[.string ⟨l.toArray⟩] w fun e w'=>e=.returned (.tuple #[.int .i64 (S.stR28 l),.bool (decide (S.stR28 l≠0))])∧Adds w w':=by
 have hW:=whole_stA hT
 go_enter Tryz.func51,Tryz.ntmps51
 go_wp2_with fail
 go_loopw [7] (fun i wr=>∃k:Nat,k≤10∧i=.int .i64 (k:Int)∧Hid (∀i,i < k→S.stn.getD i []≠l)∧Adds w wr) (fun i _=>10 - (intOf i).toNat)
 case atStart=>exact ⟨0,by omega,rfl,fun _ h=>absurd h (Nat.not_lt_zero _),Adds.refl _⟩
 case round=>
  obtain ⟨k,hk,rfl,HN,HA⟩:=hrel
  by_cases hlt:k < 10
  ·have q1:(k:Int) < 10:=by omega
   have hi:=fun w=>S.stA_at k hlt w
   by_cases he:S.stn.getD k []=l
   ·have he':(S.stn.getD k []==l)=true:=by simpa using he
    have HR:=Lib.hid (S.stR_some hlt he HN.out)
    generalize S.stn.getD k []=n at *
    clear he
    go_wp2_with fail
    exact bodyPost_ret (by rw [HR.out,decide_eq_true (show (k:Int)+1≠0 by omega)];simp [results,Tryz.results51,go_sem];try omega) rfl ⟨rfl,HA.trans aD⟩
   ·have he':(S.stn.getD k []==l)=false:=by simpa using he
    have HN':=Lib.hid (show ∀i,i < k+1→S.stn.getD i []≠l from fun i hi=>by
     rcases Nat.lt_or_ge i k with q|q
     ·exact HN.out i q
     ·obtain rfl:i=k:=by omega
      exact he)
    generalize S.stn.getD k []=n at *
    clear he
    go_wp2_with fail
    go_roundw
    case rel=>exact ⟨k+1,by omega,by go_num,HN',HA.trans aD⟩
    case measure=>simp [intOf];omega
  ·obtain rfl:k=10:=by omega
   go_wp2_with fail
   exact bodyPost_ret (by rw [S.stR_none HN.out];simp [results,Tryz.results51,go_sem]) rfl ⟨rfl,HA.trans aD⟩
end
section
theorem or16_28 (v d:Nat) (hv:v≤1000000000) (hd:d < 16):bits .or .i64 ((v:Int) * 16) (d:Int)=((v * 16+d:Nat):Int):=by
 have e:(v * 16|||d)=v * 16+d:=by
  have:=Nat.two_pow_add_eq_or_of_lt (i:=4) (b:=d) (by omega) v
  rw [Nat.mul_comm (2 ^ 4) v] at this
  exact this.symm
 show IntKind.i64.wrap ((BitVec.ofInt 64 ((v:Int) * 16)|||BitVec.ofInt 64 (d:Int)).toNat:Nat)=_
 have e1:(BitVec.ofInt 64 ((v:Int) * 16)).toNat=v * 16:=by rw [BitVec.toNat_ofInt];omega
 have e2:(BitVec.ofInt 64 (d:Int)).toNat=d:=by rw [BitVec.toNat_ofInt];omega
 rw [BitVec.toNat_or,e1,e2,e]
 exact IntWalk.i64_in _ (by omega)
theorem idx_dgv (c:UInt8):Lib.indexByte S.hxd c=match S.dgv c with
 |some d=>(d:Int)
 |none=> -1:=by
 have h:∀(l:S.Bs),Lib.indexByte l c=match l.findIdx? (·==c) with
  |some d=>(d:Int)
  |none=> -1:=by
  intro l
  induction l with
  |nil=>rfl
  |cons x l ih=>
   unfold Lib.indexByte
   rw [List.findIdx?_cons]
   by_cases e:(x==c)=true
   ·rw [if_pos e]
    simp [e]
   ·have e':(x==c)=false:=by simpa using e
    rw [e',if_neg (by simp),ih]
    cases l.findIdx? (·==c) with
    |none=>simp
    |some d=>
     simp only [Option.map_some,Bool.false_eq_true,if_false]
     rw [if_neg (by first|(simp;done)|(simp;omega))]
     simp
 exact h S.hxd
theorem at28 (l:List UInt8) (k:Nat) (c:UInt8) (h:l[k]? =some c) (w:World):(Instr.index 9 (.string ⟨l.toArray⟩) (.int .i64 k)).run Tryz.prog w=.ok (.int .u8 c.toNat) w:=by
 obtain ⟨hk,hc⟩:=List.getElem?_eq_some_iff.1 h
 rw [run_index_string w 9 _ .i64 _ Tryz.underlying9]
 have hs:(⟨l.toArray⟩:ByteArray).size=l.length:=List.size_toArray
 rw [dif_pos ⟨by omega,by rw [hs];omega⟩]
 subst hc
 rfl
def S.cnR (k:Nat) (l:S.Bs):Int×S.Bs×Bool:=match S.num28 k l with
 |some (n,r)=>(n,r,true)
 |none=>(0,[],false)
theorem dgs_none {k v:Nat} {l:S.Bs} (h:l.length < k):S.dgs k v l=none:=by
 induction k generalizing v l with
 |zero=>omega
 |succ k ih=>
  rcases l with _|⟨c,t⟩
  ·rfl
  ·unfold S.dgs
   cases S.dgv c with
   |none=>rfl
   |some d=>exact ih (by simpa using h)
theorem cutNum28 (K:Nat) (hK:K=2∨K=4) (l:List UInt8) (hl:l.length≤1000000000) (w:World):Calls Tryz.prog 52 #[.string ⟨l.toArray⟩,.int .i64 K] w fun e w'=>e=.returned (.tuple #[.int .i64 (S.cnR K l).1,.string ⟨(S.cnR K l).2.1.toArray⟩,.bool (S.cnR K l).2.2])∧Adds w w':=by
 have hcp:∀w,Calls Tryz.prog 53 #[.string ⟨l.toArray⟩,.string ⟨#[32]⟩] w fun e w'=>e=.returned (.tuple #[.string ⟨(Lib.trimPrefix l [32]).toArray⟩,.bool (Lib.hasPrefix l [32])])∧w'=w:=fun w=>Tryz.strings_CutPrefix ⟨l.toArray⟩ ⟨#[32]⟩ w
 have HCP:=Lib.hid hcp
 clear hcp
 by_cases hp:Lib.hasPrefix l [32]=true
 ·obtain ⟨t,rfl⟩:∃t,l=32::t:=by
   rcases l with _|⟨c,t⟩
   ·cases hp
   ·simp [Lib.hasPrefix,List.isPrefixOf] at hp
    exact ⟨t,by rw [hp]⟩
  have e1:Lib.trimPrefix (32::t) [32]=t:=by simp [Lib.trimPrefix,Lib.hasPrefix,List.isPrefixOf]
  have HE1:=Lib.hid e1
  have HP:=Lib.hid hp
  have e2:S.cnR K (32::t)=match S.dgs K 0 t with
   |some (n,r)=>((n:Int),r,true)
   |none=>(0,[],false):=by simp [S.cnR,S.num28]
  clear hp e1
  generalize hR:S.cnR K (32::t)=R at *
  have HR:=Lib.hid e2
  clear e2
  by_cases hlen:t.length < K
  ·have hr:R=(0,[],false):=by rw [HR.out,dgs_none hlen]
   have HRn:=Lib.hid hr
   clear hr
   have q1:(t.length:Int) < (K:Int):=by omega
   go_enter Tryz.func52,Tryz.ntmps52
   go_wp2_with (go_at_call 53;refine (HCP.out _).mono ?_;rintro e w' ⟨rfl,rfl⟩;rw [HE1.out,HP.out])
   exact bodyPost_ret (by rw [HRn.out];simp [results,Tryz.results52,go_sem]) rfl ⟨rfl,aD⟩
  ·have q1:¬(t.length:Int) < (K:Int):=by omega
   have HIB:=Lib.hid (fun (c:UInt8) w=>show Calls Tryz.prog 85 #[.string ⟨#[48,49,50,51,52,53,54,55,56,57,97,98,99,100,101,102]⟩,.int .u8 c.toNat] w fun e w'=>e=.returned (.int .i64 (Lib.indexByte S.hxd c))∧w'=w by
    have:=Tryz.strings_IndexByte ⟨#[48,49,50,51,52,53,54,55,56,57,97,98,99,100,101,102]⟩ c.toNat w
    have e:((c.toNat:Int).toNat).toUInt8=c:=by simp
    rw [e] at this
    exact this)
   go_enter Tryz.func52,Tryz.ntmps52
   go_wp2_with (go_at_call 53;refine (HCP.out _).mono ?_;rintro e w' ⟨rfl,rfl⟩;rw [HE1.out,HP.out])
   rename World=>w
   go_loopw [4,23] (fun x i wr=>∃(k v:Nat),k≤K∧i=.int .i64 (k:Int)∧x=.int .i64 (v:Int)∧Hid (S.dgs K 0 t=S.dgs (K - k) v (t.drop k))∧Hid (v < 16 ^ k)∧Adds w wr) (fun _ i _=>K - (intOf i).toNat)
   case atStart=>exact ⟨0,0,by omega,rfl,rfl,rfl,by simp [Hid],aD⟩
   case round=>
    obtain ⟨k,v,hk,rfl,rfl,HD,HV,HA⟩:=hrel
    by_cases hlt:k < K
    ·have q2:(k:Int) < (K:Int):=by omega
     obtain ⟨c,hc⟩:∃c,t[k]? =some c:=⟨t[k]'(by omega),List.getElem?_eq_getElem _⟩
     have hv:v≤4096:=by
      have h3:=HV.out
      have:16 ^ k≤16 ^ 3:=Nat.pow_le_pow_right (by decide) (by omega)
      omega
     have ha:=fun w=>at28 t k c hc w
     have hd:t.drop k=c::t.drop (k+1):=by
      obtain ⟨h1,h2⟩:=List.getElem?_eq_some_iff.1 hc
      rw [List.drop_eq_getElem_cons h1,h2]
     have hi:=idx_dgv c
     have HK:=Lib.hid (show K - k=(K - (k+1))+1 by omega)
     cases hg:S.dgv c with
     |none=>
      rw [hg] at hi
      have HI:=Lib.hid hi
      have HN:=Lib.hid (show R=(0,[],false) by rw [HR.out,HD.out,hd,HK.out];simp [S.dgs,hg])
      clear hi hg hd hc
      go_wp2_with (go_at_call 85;refine (HIB.out c _).mono ?_;rintro e w' ⟨rfl,rfl⟩;rw [HI.out])
      exact bodyPost_ret (by rw [HN.out];simp [results,Tryz.results52,go_sem]) rfl ⟨rfl,HA.trans aD⟩
     |some d=>
      rw [hg] at hi
      have HI:=Lib.hid hi
      have hd16:=(S.dgv_inv hg).1
      have ho:=or16_28 v d (by omega) hd16
      have HN:=Lib.hid (show S.dgs K 0 t=S.dgs (K - (k+1)) (v * 16+d) (t.drop (k+1)) by rw [HD.out,hd,HK.out];simp [S.dgs,hg])
      have HV':=Lib.hid (show v * 16+d < 16 ^ (k+1) by have:=HV.out;rw [Nat.pow_succ];omega)
      clear hi hg hd hc
      go_wp2_with (go_at_call 85;refine (HIB.out c _).mono ?_;rintro e w' ⟨rfl,rfl⟩;rw [HI.out])
      go_roundw
      case rel=>exact ⟨k+1,v * 16+d,by omega,by go_num,rfl,HN,HV',HA.trans aD⟩
      case measure=>simp [intOf];omega
    ·obtain rfl:k=K:=by omega
     have hs:=fun w=>sl_from t k (k:Int) rfl (by omega) w
     have HN:=Lib.hid (show R=((v:Int),t.drop k,true) by rw [HR.out,HD.out,Nat.sub_self];rfl)
     generalize t.drop k=r at *
     go_wp2_with fail
     go_region
     all_goals go_wp2_with fail
     all_goals exact bodyPost_ret (by rw [HN.out];simp [results,Tryz.results52,go_sem]) rfl ⟨rfl,HA.trans aD⟩
 ·have hp':Lib.hasPrefix l [32]=false:=by simpa using hp
  have HP:=Lib.hid hp'
  have HN:=Lib.hid (show S.cnR K l=(0,[],false) by
   unfold S.cnR S.num28
   rcases l with _|⟨c,t⟩
   ·rfl
   ·have:c≠32:=by
     intro e
     subst e
     simp [Lib.hasPrefix,List.isPrefixOf] at hp
    simp only [if_neg this])
  have HT:=Lib.hid (show Lib.trimPrefix l [32]=l by unfold Lib.trimPrefix;rw [hp'];rfl)
  clear hp hp'
  rw [HN.out]
  go_enter Tryz.func52,Tryz.ntmps52
  go_wp2_with (go_at_call 53;refine (HCP.out _).mono ?_;rintro e w' ⟨rfl,rfl⟩;rw [HT.out,HP.out])
  exact bodyPost_ret (by simp [results,Tryz.results52,go_sem]) rfl ⟨rfl,aD⟩
end
section
theorem S.fgs_take:∀(ns:List S.Bs) (bs:List Bool) (k:Nat) (n:S.Bs) (b:Bool),ns[k]? =some n→bs[k]? =some b→S.fgs (ns.take (k+1)) (bs.take (k+1))=S.fgs (ns.take k) (bs.take k)++(if b then 32::n else [])
 |n::ns,b::bs,0,n',b',hn,hb=>by
  obtain rfl:=Option.some.inj hn
  obtain rfl:=Option.some.inj hb
  simp [S.fgs]
 |n::ns,b::bs,k+1,n',b',hn,hb=>by
  have:=S.fgs_take ns bs k n' b' hn hb
  simp only [List.take_succ_cons,S.fgs]
  rw [this,List.append_assoc]
 |[],_,_,_,_,hn,_=>by simp at hn
 |_::_,[],_,_,_,_,hb=>by simp at hb
theorem names28 (w:World):Calls Tryz.prog 48 #[] w fun e w'=>∃b,e=.returned (.slice (some ⟨b,0,none⟩) 14 14)∧(∀k n,S.pnn[k]? =some n→w'.cell? ⟨b,k,none⟩=some (.string ⟨n.toArray⟩))∧Adds w w':=by
 go_enter Tryz.func48,Tryz.ntmps48
 go_wp2_with fail
 go_ret
 refine ⟨w.heap.size,rfl,fun k n hk=> ?_,aD⟩
 rcases k with _|_|_|_|_|_|_|_|_|_|_|_|_|_|k
 all_goals first|(cases hk;simp [go_sem];done)|(simp [S.pnn] at hk)
theorem values28 (p:S.Pn) (w:World):Calls Tryz.prog 47 #[.agg #[.int .i64 p.st,.int .u16 p.ad,.int .u8 p.da,.bool p.sy,.bool p.db,.bool p.wa,.bool p.it,.bool p.al,.bool p.im,.bool p.s1,.bool p.s0,.bool p.rd,.bool p.ia,.bool p.so,.bool p.wr,.bool p.hl,.bool p.fl]] w fun e w'=>∃b,e=.returned (.slice (some ⟨b,0,none⟩) 14 14)∧(∀k v,(S.pvl p)[k]? =some v→w'.cell? ⟨b,k,none⟩=some (.bool v))∧Adds w w':=by
 go_enter Tryz.func47,Tryz.ntmps47
 go_wp2_with fail
 go_ret
 refine ⟨w.heap.size+1,rfl,fun k n hk=> ?_,aD⟩
 rcases k with _|_|_|_|_|_|_|_|_|_|_|_|_|_|k
 all_goals first|(cases hk;simp [go_sem];done)|(simp [S.pvl] at hk)
theorem S.nm_len (n:Int):(S.nmS n).length≤6:=by
 by_cases h:n < 1∨10 < n
 ·unfold S.nmS;rw [if_pos h];decide
 ·have e:S.nmS n=S.stn.getD (n - 1).toNat []:=S.nmS_in (by omega)
  rw [e]
  have:∀i,i < 10→(S.stn.getD i []).length≤6:=by decide
  exact this _ (by omega)
theorem S.pnn_len:∀(k:Nat) (n:S.Bs),S.pnn[k]? =some n→n.length≤5:=by
 intro k n h
 have:∀n∈S.pnn,n.length≤5:=by decide
 exact this n (List.mem_of_getElem? h)
theorem record28 (p:S.Pn) (ha:0≤p.ad∧p.ad < 65536) (hd:0≤p.da∧p.da < 256) (w:World):Calls Tryz.prog 20 #[.agg #[.int .i64 p.st,.int .u16 p.ad,.int .u8 p.da,.bool p.sy,.bool p.db,.bool p.wa,.bool p.it,.bool p.al,.bool p.im,.bool p.s1,.bool p.s0,.bool p.rd,.bool p.ia,.bool p.so,.bool p.wr,.bool p.hl,.bool p.fl]] w fun e w'=>e=.returned (.string ⟨(S.rec28 p).toArray⟩)∧Adds w w':=by
 obtain ⟨st,ad,da,f1,f2,f3,f4,f5,f6,f7,f8,f9,f10,f11,f12,f13,f14⟩:=p
 simp only [] at ha hd
 obtain ⟨na,rfl⟩:∃n:Nat,ad=n:=⟨ad.toNat,by omega⟩
 obtain ⟨nd,rfl⟩:∃n:Nat,da=n:=⟨da.toNat,by omega⟩
 have H4:=Lib.hid (fun W=>hex4 na (by omega) W)
 have H2:=Lib.hid (fun W=>hex2 nd (by omega) W)
 have l1:=S.nm_len st
 have l4:(S.hxs na 4).length=4:=by rw [S.hxs4];rfl
 have l2:(S.hxs nd 2).length=2:=by rw [S.hxs2];rfl
 have a1:=fun w=>add28 (S.nmS st) [32] w (by simp;omega)
 have a2:=fun w=>add28 (S.nmS st++[32]) (S.hxs na 4) w (by simp;omega)
 have a3:=fun w=>add28 (S.nmS st++32::S.hxs na 4) [32] w (by simp;omega)
 have a4:=fun w=>add28 (S.nmS st++32::(S.hxs na 4++[32])) (S.hxs nd 2) w (by simp;omega)
 have LB:=Lib.hid (show (S.nmS st++32::(S.hxs na 4++32::S.hxs nd 2)).length≤20 by simp;omega)
 have HX:=Lib.hid (show (S.nmS st++32::(S.hxs na 4++32::S.hxs nd 2))++S.fgs S.pnn (S.pvl ⟨st,na,nd,f1,f2,f3,f4,f5,f6,f7,f8,f9,f10,f11,f12,f13,f14⟩)=S.rec28 ⟨st,na,nd,f1,f2,f3,f4,f5,f6,f7,f8,f9,f10,f11,f12,f13,f14⟩ by simp [S.rec28])
 generalize hn:S.nmS st=nm at *
 generalize h4:S.hxs na 4=x4 at *
 generalize h2:S.hxs nd 2=x2 at *
 have HN:=Lib.hid hn
 clear hn h4 h2 l1 l4 l2
 go_enter Tryz.func20,Tryz.ntmps20
 go_wp2_with fail
 refine qt ?_
 repeat (go_big_quiet_step (first|(go_at_call 45;exact calls_adds (HN.out▸state28 _ _))|(go_at_call 46;first|with_reducible exact calls_adds (H4.out _)|with_reducible exact calls_adds (H2.out _))))
 refine qn fun nq osq=> ?_
 go_wp2_with (go_at_call 47;refine (values28 ⟨st,na,nd,f1,f2,f3,f4,f5,f6,f7,f8,f9,f10,f11,f12,f13,f14⟩ _).mono ?_;rintro e w1 ⟨b,rfl,hV,⟨⟨n1,os1⟩,rfl⟩⟩;have HV:=Lib.hid hV;clear hV)
 refine wp_forget (fun W=>Adds w W∧∀k v,(S.pvl ⟨st,na,nd,f1,f2,f3,f4,f5,f6,f7,f8,f9,f10,f11,f12,f13,f14⟩)[k]? =some v→W.cell? ⟨b,k,none⟩=some (.bool v)) ⟨aD,HV.out⟩ ?_
 clear HV
 rintro W1 ⟨hA1,hV⟩
 have HA1:=Lib.hid hA1
 have HV:=Lib.hid hV
 clear hA1 hV a1 a2 a3 a4
 have hlv:(S.pvl ⟨st,na,nd,f1,f2,f3,f4,f5,f6,f7,f8,f9,f10,f11,f12,f13,f14⟩).length=14:=rfl
 generalize S.pvl ⟨st,na,nd,f1,f2,f3,f4,f5,f6,f7,f8,f9,f10,f11,f12,f13,f14⟩=vs at *
 generalize hrc:S.rec28 ⟨st,na,nd,f1,f2,f3,f4,f5,f6,f7,f8,f9,f10,f11,f12,f13,f14⟩=rc at *
 have HRC:=Lib.hid hrc
 clear hrc
 have HLV:=Lib.hid hlv
 clear hlv
 go_loopw [3,24] (fun t i wr=>∃(k:Nat) (l:List UInt8),k≤14∧i=.int .i64 (k:Int)∧t=.string ⟨l.toArray⟩∧Hid (l=nm++32::(x4++32::x2)++S.fgs (S.pnn.take k) (vs.take k))∧Hid (l.length≤20+6 * k)∧Adds W1 wr) (fun _ i _=>14 - (intOf i).toNat)
 case atStart=>exact ⟨0,_,by omega,rfl,rfl,by simp [Hid,S.fgs],LB.out,Adds.refl _⟩
 case round=>
  obtain ⟨k,l,hk,rfl,rfl,HLq,HLn,HA⟩:=hrel
  by_cases h14:k < 14
  ·have q1:(k:Int) < 14:=by omega
   obtain ⟨v,hv⟩:∃v,vs[k]? =some v:=⟨vs[k]'(by rw [HLV.out];exact h14),List.getElem?_eq_getElem _⟩
   obtain ⟨n,hn⟩:∃n,S.pnn[k]? =some n:=⟨S.pnn[k]'h14,List.getElem?_eq_getElem _⟩
   have hc:wr.cell? ⟨b,k,none⟩=some (.bool v):=(HA.cell (cell_in (HV.out k v hv))).trans (HV.out k v hv)
   have HS:=Lib.hid (S.fgs_take S.pnn vs k n v hn hv)
   have hnl:=S.pnn_len k n hn
   have HN5:=Lib.hid hn
   clear hv hn
   cases v
   ·go_wp2_with fail
    go_roundw
    case rel=>exact ⟨k+1,l,by omega,by go_num,rfl,by rw [HLq.out,HS.out];simp [Hid],by have:=HLn.out;show _≤_;omega,HA.trans aD⟩
    case measure=>simp [intOf];omega
   ·have b1:=fun w=>add28 [32] n w (by simp;omega)
    have b2:=fun w=>add28 l (32::n) w (by have:=HLn.out;simp;omega)
    go_wp2_with (go_at_call 48;refine (names28 _).mono ?_;rintro e w1 ⟨b3,rfl,hM,⟨⟨n1,os1⟩,rfl⟩⟩;have hm:=hM k n HN5.out;clear hM)
    go_roundw
    case rel=>exact ⟨k+1,_,by omega,by go_num,rfl,by rw [HLq.out,HS.out];simp [Hid],by have:=HLn.out;show _≤_;simp;omega,HA.trans aD⟩
    case measure=>simp [intOf];omega
  ·obtain rfl:k=14:=by omega
   go_wp2_with fail
   go_ret
   refine ⟨?_,HA1.out.trans (HA.trans aD)⟩
   rw [HLq.out,List.take_of_length_le (show S.pnn.length≤14 by decide),List.take_of_length_le (by rw [HLV.out];decide),HX.out,←HRC.out]
   rfl
theorem S.rec_len (p:S.Pn):(S.rec28 p).length≤100:=by
 have h:∀(ns:List S.Bs) (bs:List Bool),(S.fgs ns bs).length≤(ns.map fun n=>n.length+1).sum:=by
  intro ns
  induction ns with
  |nil=>intro bs;simp [S.fgs]
  |cons n ns ih=>
   intro bs
   rcases bs with _|⟨b,bs⟩
   ·simp [S.fgs]
   ·have:=ih bs
    cases b<;>simp [S.fgs]<;>omega
 have h1:=h S.pnn (S.pvl p)
 have h2:(S.pnn.map fun n=>n.length+1).sum=60:=by decide
 have h3:=S.nm_len p.st
 unfold S.rec28
 rw [S.hxs4,S.hxs2]
 simp only [List.length_append,List.length_cons,List.length_nil]
 omega
theorem S.fmt_len:∀l:List S.Pn,(S.fmt28 l).length≤101 * l.length
 |[]=>by simp [S.fmt28]
 |p::l=>by
  have:=S.fmt_len l
  have:=S.rec_len p
  simp only [S.fmt28,List.length_append,List.length_cons]
  omega
theorem S.fmt_take:∀(l:List S.Pn) (k:Nat) (p:S.Pn),l[k]? =some p→S.fmt28 (l.take (k+1))=S.fmt28 (l.take k)++(S.rec28 p++[10])
 |q::l,0,p,h=>by
  obtain rfl:=Option.some.inj h
  simp [S.fmt28]
 |q::l,k+1,p,h=>by
  have:=S.fmt_take l k p (by simpa using h)
  simp only [List.take_succ_cons,S.fmt28]
  rw [this]
  simp
 |[],_,_,h=>by simp at h
def S.Pn.bd (p:S.Pn):Prop:=(0≤p.ad∧p.ad < 65536)∧0≤p.da∧p.da < 256
theorem rformat28 (a:Option Addr) (len cap:Nat) (d:List S.Pn) (hb:∀p∈d,p.bd) (hl:len≤1000000) (w:World) (h:HeldQ w a len d):Calls Tryz.prog 10 #[.slice a len cap] w fun e w'=>e=.returned (.string ⟨(S.fmt28 d).toArray⟩)∧Adds w w':=by
 have HH:=Lib.hid h
 have HB:=Lib.hid hb
 have HL:=Lib.hid h.1
 have H6:=Lib.hid hl
 clear h hb hl
 go_enter Tryz.func10,Tryz.ntmps10
 go_wp2_with fail
 go_loopw [3,8] (fun t i wr=>∃(k:Nat) (l:List UInt8),k≤len∧i=.int .i64 (k:Int)∧t=.string ⟨l.toArray⟩∧Hid (l=S.fmt28 (d.take k))∧Adds w wr) (fun _ i _=>len - (intOf i).toNat)
 case atStart=>exact ⟨0,[],by omega,rfl,rfl,by simp [Hid,S.fmt28],Adds.refl _⟩
 case round=>
  obtain ⟨k,l,hk,rfl,rfl,HLq,HA⟩:=hrel
  have hln:l.length≤101000000:=by
   rw [HLq.out]
   refine Nat.le_trans (S.fmt_len _) ?_
   have:=H6.out
   rw [List.length_take]
   omega
  have HLn:=Lib.hid hln
  clear hln
  by_cases hlt:k < len
  ·have q1:(k:Int) < (len:Int):=by omega
   have h6:k≤1000000:=by have:=H6.out;omega
   obtain ⟨b,o,rfl,hb,hat⟩:=(HH.out.adds HA).2.2 (by omega)
   obtain ⟨p,hp⟩:=get_el (d:=d) (k:=k) (by have:=HL.out;omega)
   have hL:(wholeVar 34 ⟨b,o+k * 17,none⟩).run Tryz.prog wr=.ok (.agg #[.int .i64 p.st,.int .u16 p.ad,.int .u8 p.da,.bool p.sy,.bool p.db,.bool p.wa,.bool p.it,.bool p.al,.bool p.im,.bool p.s1,.bool p.s0,.bool p.rd,.bool p.ia,.bool p.so,.bool p.wr,.bool p.hl,.bool p.fl]) wr:=AtQ.load hat hp _ rfl
   have HP:=Lib.hid hp
   have hbd:=HB.out p (List.mem_of_getElem? hp)
   have HS:=Lib.hid (S.fmt_take d k p hp)
   have HR:=Lib.hid (fun W=>record28 p hbd.1 hbd.2 W)
   have hrl:=S.rec_len p
   have b1:=fun w=>add28 (S.rec28 p) [10] w (by simp;omega)
   have b2:=fun w=>add28 l (S.rec28 p++[10]) w (by have:=HLn.out;simp;omega)
   clear hat hp hbd
   go_wp2_with (go_at_call 20;refine ad (HR.out _) fun n1 os1=> ?_)
   go_roundw
   case rel=>exact ⟨k+1,_,by omega,by go_num,rfl,by rw [HLq.out,HS.out];simp [Hid],HA.trans aD⟩
   case measure=>simp [intOf];omega
  ·obtain rfl:k=len:=by omega
   go_wp2_with fail
   go_ret
   refine ⟨?_,HA.trans aD⟩
   rw [HLq.out,List.take_of_length_le (by rw [HL.out];exact Nat.le_refl _)]
   rfl
end
section
variable {T b base:Nat} {cs:Array Value} {d:List Int} {v:Value} {w w':World}
def S.pca (b:Nat):Array Value:=#[.string ⟨#[115,121,110,99]⟩,.pointer (some ⟨b,3,none⟩),.string ⟨#[100,98,105,110]⟩,.pointer (some ⟨b,4,none⟩),.string ⟨#[119,97,105,116]⟩,.pointer (some ⟨b,5,none⟩),.string ⟨#[105,110,116,101]⟩,.pointer (some ⟨b,6,none⟩),.string ⟨#[97,108,101]⟩,.pointer (some ⟨b,7,none⟩),.string ⟨#[105,111,109]⟩,.pointer (some ⟨b,8,none⟩),.string ⟨#[115,49]⟩,.pointer (some ⟨b,9,none⟩),.string ⟨#[115,48]⟩,.pointer (some ⟨b,10,none⟩),.string ⟨#[114,100]⟩,.pointer (some ⟨b,11,none⟩),.string ⟨#[105,110,116,97]⟩,.pointer (some ⟨b,12,none⟩),.string ⟨#[115,111,100]⟩,.pointer (some ⟨b,13,none⟩),.string ⟨#[119,114]⟩,.pointer (some ⟨b,14,none⟩),.string ⟨#[104,108,100,97]⟩,.pointer (some ⟨b,15,none⟩),.string ⟨#[102,108,111,97,116]⟩,.pointer (some ⟨b,16,none⟩)]
@[go_sem] theorem one_string (s:ByteArray):(Value.string s).oneCell'=true:=rfl
@[go_sem ↓] theorem load_pinA (a:Addr):loadVar 117 a=wholeVar 117 a:=by unfold wholeVar;rfl
@[go_sem ↓] theorem store_pinA (a:Addr) (v:Value):storeVar 117 a v=wholeSet 117 a v:=by unfold wholeSet;rfl
@[go_sem] theorem run_store_pinA (w:World) (b:Nat) (cs:Array Value) (hc:cs.size=28) (h:(rowOf w b).size=28) (h1:ones cs.toList=true):(wholeSet 117 ⟨b,0,none⟩ (.agg cs)).run Tryz.prog w=.ok () (w.setRow b cs):=
 set_all (by kernel_rfl) w b cs hc (by decide) h h1
theorem ret_pinA {fn:Func} {p:Tmp} (hf:fn.results=#[.cell p 117]) {tmps:Array Value} (hp:tmps.getD p undef=.pointer (some ⟨b,0,none⟩)) (hr:rowOf w b=cs) (hs:cs.size=28):(results fn tmps).run Tryz.prog w=.ok (.agg cs) w:=
 ret_arr hf Tryz.underlying117 (by kernel_rfl) (by decide) tmps w b cs hp hr hs
theorem pins28 (b:Nat) (w:World):Calls Tryz.prog 44 #[.pointer (some ⟨b,0,none⟩)] w fun e w'=>e=.returned (.agg (S.pca b))∧Adds w w':=by
 go_enter Tryz.func44,Tryz.ntmps44
 go_wp2_with fail
 go_region
 all_goals go_wp2_with fail
 all_goals exact bodyPost_ret (ret_pinA Tryz.results44 rfl (by simp [go_sem,S.pca]) rfl) rfl ⟨rfl,aD⟩
def Bx28 (w:World) (b:Nat) (T:TypeId) (cs:Array Value):Prop:=w.heap[b]? =some (.cells cs T (0,0))
theorem Bx28.lt (h:Bx28 w b T cs):b < w.heap.size:=by
 have:=(Array.getElem?_eq_some_iff.1 h).1
 exact this
theorem Bx28.row (h:Bx28 w b T cs):rowOf w b=cs:=by
 have h':w.heap[b]? =some (.cells cs T (0,0)):=h
 simp [rowOf,h']
theorem Bx28.new (w:World) (T:TypeId) (cs:Array Value):Bx28 (w.alloc (.cells cs T)) w.heap.size T cs:=heap_alloc_new w _
theorem Bx28.adds (h:Bx28 w b T cs) (k:Adds w w'):Bx28 w' b T cs:=(k.below.block b h.lt).trans h
theorem Bx28.grown (h:Bx28 w b T cs) (hT:T≠5) (hg:w.grownBy w' v.ownBlock) (ho:OwnsB w base v d):Bx28 w' b T cs:=by
 refine (hg.block b h.lt fun e=> ?_).trans h
 rcases ho.2 with ⟨rfl,_⟩|⟨g,cap,cur,rfl,_,hh,_⟩
 ·cases e
 ·injection e with e
  subst e
  have:=h.symm.trans hh
  injection this with this
  injection this with _ this
  exact hT this
theorem Tab28.grown (h:Tab28 w) (hb:0 < base) (hg:w.grownBy w' v.ownBlock) (ho:OwnsB w base v d):Tab28 w':=fun i hi=>by
 have hc:=h i hi
 rw [World.cell?_of_block (a:=⟨0,i,none⟩) (hg.block 0 (cell_in hc) fun e=> ?_)]
 ·exact hc
 ·have:=(OwnsG.lt2 ho e.symm).1
  omega
theorem Tx28.join {v1 v2:Value} {d1 d2:List Int} {w1 w2 w3:World} (h:Tx28 base v w v1 d1 w1) (k:Adds w1 w2) (h2:Tx28 base v1 w2 v2 d2 w3):Tx28 base v w v2 d2 w3:=h.step k h2.o h2.g h2.a
theorem S.pca_at (b k:Nat) (n:S.Bs) (hn:S.pnn[k]? =some n) (w:World):(Instr.index 117 (.agg (S.pca b)) (.int .i64 k)).run Tryz.prog w=.ok (.agg #[.string ⟨n.toArray⟩,.pointer (some ⟨b,3+k,none⟩)]) w:=by
 rcases k with _|_|_|_|_|_|_|_|_|_|_|_|_|_|k
 all_goals first|(cases hn;kernel_rfl)|(simp [S.pnn] at hn)
theorem S.pvl_row (p:S.Pn) (k:Nat) (v:Bool) (h:(S.pvl p)[k]? =some v):(#[.int .i64 p.st,.int .u16 p.ad,.int .u8 p.da,.bool p.sy,.bool p.db,.bool p.wa,.bool p.it,.bool p.al,.bool p.im,.bool p.s1,.bool p.s0,.bool p.rd,.bool p.ia,.bool p.so,.bool p.wr,.bool p.hl,.bool p.fl]:Array Value)[3+k]? =some (.bool v):=by
 rcases k with _|_|_|_|_|_|_|_|_|_|_|_|_|_|k
 all_goals first|(cases h;rfl)|(simp [S.pvl] at h)
theorem apprec28 (p:S.Pn) (hp:p.bd) (base:Nat) (hb0:0 < base) (v:Value) (va:Option Addr) (nn cc:Nat) (hv:v=.slice va nn cc) (d:List Int) (w:World) (h:OwnsB w base v d) (hb:base≤w.heap.size) (hd:d.length≤800000000) (hT:Tab28 w):
 Calls Tryz.prog 19 #[v,.agg #[.int .i64 p.st,.int .u16 p.ad,.int .u8 p.da,.bool p.sy,.bool p.db,.bool p.wa,.bool p.it,.bool p.al,.bool p.im,.bool p.s1,.bool p.s0,.bool p.rd,.bool p.ia,.bool p.so,.bool p.wr,.bool p.hl,.bool p.fl]] w fun e w'=>∃v',e=.returned v'∧Tx28 base v w v' (d++S.bi (S.rec28 p)) w':=by
 obtain ⟨ha,hd1⟩:=hp
 obtain ⟨st,adr,da,f1,f2,f3,f4,f5,f6,f7,f8,f9,f10,f11,f12,f13,f14⟩:=p
 simp only [] at ha hd1
 obtain ⟨na,rfl⟩:∃n:Nat,adr=n:=⟨adr.toNat,by omega⟩
 obtain ⟨nd,rfl⟩:∃n:Nat,da=n:=⟨da.toNat,by omega⟩
 subst hv
 have H:=Lib.hid h
 have HD:=Lib.hid hd
 have HTab:=Lib.hid hT
 have hnl:=S.nm_len st
 have HNL:=Lib.hid hnl
 have HX:=Lib.hid (show S.bi (S.nmS st)++(S.bi (32::S.hxs na 4)++(S.bi (32::S.hxs nd 2)++S.bi (S.fgs S.pnn (S.pvl ⟨st,na,nd,f1,f2,f3,f4,f5,f6,f7,f8,f9,f10,f11,f12,f13,f14⟩))))=S.bi (S.rec28 ⟨st,na,nd,f1,f2,f3,f4,f5,f6,f7,f8,f9,f10,f11,f12,f13,f14⟩) by
  show _=S.bi (S.nmS st++(32::S.hxs na 4)++(32::S.hxs nd 2)++S.fgs S.pnn (S.pvl ⟨st,na,nd,f1,f2,f3,f4,f5,f6,f7,f8,f9,f10,f11,f12,f13,f14⟩))
  rw [S.bi_app,S.bi_app,S.bi_app]
  simp only [List.append_assoc])
 have HN:=Lib.hid (fun W h=>name28 st W h)
 have HL4:=Lib.hid (show (S.bi (32::S.hxs na 4)).length=5 by rw [S.bi_len,S.hxs4];rfl)
 have HL2:=Lib.hid (show (S.bi (32::S.hxs nd 2)).length=3 by rw [S.bi_len,S.hxs2];rfl)
 have HC4:=Lib.hid (fun v a m c hv d w h hb hd=>num4 na (by omega) base v a m c hv d w h hb hd)
 have HC2:=Lib.hid (fun v a m c hv d w h hb hd=>num2 nd (by omega) base v a m c hv d w h hb hd)
 generalize S.nmS st=nm at *
 generalize S.bi (32::S.hxs na 4)=x4 at *
 generalize S.bi (32::S.hxs nd 2)=x2 at *
 clear h hd hT hnl
 go_enter Tryz.func19,Tryz.ntmps19
 go_wp2_with (first
  |(go_at_call 42;refine ad (HN.out _ (HTab.out.adds aD)) fun n1 os1=> ?_)
  |(at_builtin;refine wpList_appS rfl _ _ rfl base (.slice va nn cc) d nm rfl rfl (H.out.adds aD) (by have:=HD.out;have:=HNL.out;omega) (Nat.le_trans hb (Adds.size aD)) ?_;intro v1 w1 hO hG hA;have HX1:=Lib.hid (Tx28.step (Tx28.refl H.out (Adds.refl _)) aD hO hG hA);have B1:=Lib.hid (((Bx28.new w 34 #[.int .i64 st,.int .u16 na,.int .u8 nd,.bool f1,.bool f2,.bool f3,.bool f4,.bool f5,.bool f6,.bool f7,.bool f8,.bool f9,.bool f10,.bool f11,.bool f12,.bool f13,.bool f14]).adds aD).grown (by decide) hG (H.out.adds aD));obtain ⟨a1,m1,c1,rfl, -, -, -, -, -⟩:=hO.form2;have r1:=B1.out.row;have z1:=B1.out.lt;have k1:=rowOf_cell (i:=1) (v:=.int .u16 na) r1 rfl;clear hO hG hA)
  |(go_at_call 43;first
     |(with_reducible refine (HC4.out (.slice a1 m1 c1) a1 m1 c1 rfl (d++S.bi nm) _ HX1.out.o (Nat.le_trans hb HX1.out.g.4) (by have:=HD.out;have:=HNL.out;rw [List.length_append,S.bi_len];omega)).mono ?_;rintro e w2 ⟨v2,rfl,hT2⟩;have HX2:=Lib.hid (Tx28.join HX1.out (Adds.refl _) hT2);have B2:=Lib.hid (B1.out.grown (by decide) hT2.g HX1.out.o);obtain ⟨a2,m2,c2,rfl, -, -, -, -, -⟩:=hT2.o.form2;have r2:=B2.out.row;have z2:=B2.out.lt;have k2:=rowOf_cell (i:=2) (v:=.int .u8 nd) r2 rfl;clear hT2)
     |(with_reducible refine (HC2.out (.slice a2 m2 c2) a2 m2 c2 rfl (d++S.bi nm++x4) _ HX2.out.o (Nat.le_trans hb HX2.out.g.4) (by have:=HD.out;have:=HNL.out;have:=HL4.out;rw [List.length_append,List.length_append,S.bi_len];omega)).mono ?_;rintro e w3 ⟨v3,rfl,hT3⟩;have HX3:=Lib.hid (Tx28.join HX2.out (Adds.refl _) hT3);have B3:=Lib.hid (B2.out.grown (by decide) hT3.g HX2.out.o);obtain ⟨a3,m3,c3,rfl, -, -, -, -, -⟩:=hT3.o.form2;have r3:=B3.out.row;have z3:=B3.out.lt;clear hT3))
  |(go_at_call 44;refine ad (pins28 _ _) fun n4 os4=> ?_)
  |fail)
 have HTb:=Lib.hid (HTab.out.grown hb0 HX3.out.g H.out)
 have HL3:=Lib.hid (show (d++S.bi nm++x4++x2).length≤d.length+20 by have:=HNL.out;have:=HL4.out;have:=HL2.out;simp only [List.length_append,S.bi_len];omega)
 generalize hd3:d++S.bi nm++x4++x2=d3 at *
 have HD3:=Lib.hid hd3
 clear hd3
 have HQ:=Lib.hid (fun k v h=>S.pvl_row ⟨st,na,nd,f1,f2,f3,f4,f5,f6,f7,f8,f9,f10,f11,f12,f13,f14⟩ k v h)
 have HLV:=Lib.hid (show (S.pvl ⟨st,na,nd,f1,f2,f3,f4,f5,f6,f7,f8,f9,f10,f11,f12,f13,f14⟩).length=14 from rfl)
 generalize S.pvl ⟨st,na,nd,f1,f2,f3,f4,f5,f6,f7,f8,f9,f10,f11,f12,f13,f14⟩=vs at *
 go_loopw [0,23] (fun t i wr=>∃(k:Nat) (d1:List Int),k≤14∧i=.int .i64 (k:Int)∧Hid (d1=d3++S.bi (S.fgs (S.pnn.take k) (vs.take k)))∧Hid (d1.length≤d.length+20+6 * k)∧Hid (Tx28 base (.slice va nn cc) w t d1 wr)∧Hid (Bx28 wr w.heap.size 34 #[.int .i64 st,.int .u16 na,.int .u8 nd,.bool f1,.bool f2,.bool f3,.bool f4,.bool f5,.bool f6,.bool f7,.bool f8,.bool f9,.bool f10,.bool f11,.bool f12,.bool f13,.bool f14])) (fun _ i _=>14 - (intOf i).toNat)
 case atStart=>exact ⟨0,d3,by omega,rfl,by simp [Hid,S.fgs,S.bi],HL3.out,HX3.out.adds aD,B3.out.adds aD⟩
 case round=>
  obtain ⟨k,d1,hk,rfl,HE,HLn,HXr,HBr⟩:=hrel
  obtain ⟨ar,mr,cr,rfl, -, -, -, -, -⟩:=HXr.out.o.form2
  by_cases h14:k < 14
  ·have q1:(k:Int) < 14:=by omega
   obtain ⟨v,hv⟩:∃v,vs[k]? =some v:=⟨vs[k]'(by rw [HLV.out];exact h14),List.getElem?_eq_getElem _⟩
   obtain ⟨n,hn⟩:∃n,S.pnn[k]? =some n:=⟨S.pnn[k]'h14,List.getElem?_eq_getElem _⟩
   have hc:wr.cell? ⟨w.heap.size,3+k,none⟩=some (.bool v):=rowOf_cell HBr.out.row (HQ.out k v hv)
   have hi:=fun w=>S.pca_at w.heap.size k n hn w
   have hpi:=fun W=>S.pca_at w.heap.size k n hn W
   have HS:=Lib.hid (S.fgs_take S.pnn vs k n v hn hv)
   have hnl:=S.pnn_len k n hn
   have zb:=HBr.out.lt
   clear hv hn hi
   cases v
   ·go_wp2_with fail
    go_roundw
    case rel=>exact ⟨k+1,d1,by omega,by go_num,by rw [HE.out,HS.out];simp [Hid],by have:=HLn.out;show _≤_;omega,HXr.out.adds aD,HBr.out.adds aD⟩
    case measure=>simp [intOf];omega
   ·go_wp2_with (at_builtin;first
     |(refine wpList_appS rfl _ _ rfl base (.slice ar mr cr) d1 [32] rfl rfl (HXr.out.o.adds aD) (by have:=HD.out;have:=HLn.out;simp;omega) (Nat.le_trans hb (Nat.le_trans HXr.out.g.4 (Adds.size aD))) ?_;intro v4 w4 hO hG hA;have HX4:=Lib.hid (Tx28.step HXr.out aD hO hG hA);have B4:=Lib.hid ((HBr.out.adds aD).grown (by decide) hG (HXr.out.o.adds aD));have C4:=Lib.hid ((Bx28.new wr 116 #[.string ⟨n.toArray⟩,.pointer (some ⟨w.heap.size,3+k,none⟩)]).grown (by decide) hG (HXr.out.o.adds aD));obtain ⟨a4,m4,c4,rfl, -, -, -, -, -⟩:=hO.form2;have z4:=C4.out.lt;have k4:=rowOf_cell (i:=0) (v:=.string ⟨n.toArray⟩) C4.out.row rfl;clear hO hG hA)
     |(refine wpList_appS rfl _ _ rfl base (.slice a4 m4 c4) (d1++S.bi [32]) n rfl rfl (HX4.out.o.adds aD) (by have:=HD.out;have:=HLn.out;rw [List.length_append,S.bi_len];simp;omega) (Nat.le_trans hb (Nat.le_trans HX4.out.g.4 (Adds.size aD))) ?_;intro v5 w5 hO hG hA;have HX5:=Lib.hid (Tx28.step HX4.out aD hO hG hA);have B5:=Lib.hid ((B4.out.adds aD).grown (by decide) hG (HX4.out.o.adds aD));obtain ⟨a5,m5,c5,rfl, -, -, -, -, -⟩:=hO.form2;clear hO hG hA))
    go_roundw
    case rel=>exact ⟨k+1,_,by omega,by go_num,by show _=_;rw [HE.out,HS.out,S.bi_app,if_pos rfl,show S.bi (32::n)=S.bi [32]++S.bi n from S.bi_app [32] n];simp only [List.append_assoc],by have:=HLn.out;show _≤_;simp only [List.length_append,S.bi_len,List.length_singleton];omega,HX5,B5⟩
    case measure=>simp [intOf];omega
  ·obtain rfl:k=14:=by omega
   go_wp2_with fail
   go_ret
   refine ⟨_,rfl,?_⟩
   have e:d1=d++S.bi (S.rec28 ⟨st,na,nd,f1,f2,f3,f4,f5,f6,f7,f8,f9,f10,f11,f12,f13,f14⟩):=by
    rw [HE.out,List.take_of_length_le (show S.pnn.length≤14 by decide),List.take_of_length_le (by rw [HLV.out];decide),←HX.out,←HD3.out]
    simp only [List.append_assoc]
   rw [e] at HXr
   exact HXr.out
end
section
namespace S
theorem cuts_snoc (n:Bs):∀(ns:List Bs) (l:Bs),cuts (ns++[n]) l=((cuts ns l).1++[(32::n).isPrefixOf (cuts ns l).2],Lib.trimPrefix (cuts ns l).2 (32::n))
 |[],l=>by
  by_cases h:(32::n).isPrefixOf l=true
  ·have e:Lib.trimPrefix l (32::n)=l.drop (n.length+1):=if_pos h
   show cuts [n] l=([]++[(32::n).isPrefixOf l],Lib.trimPrefix l (32::n))
   rw [e,h]
   exact if_pos h
  ·have e:Lib.trimPrefix l (32::n)=l:=if_neg h
   show cuts [n] l=([]++[(32::n).isPrefixOf l],Lib.trimPrefix l (32::n))
   rw [e,show (32::n).isPrefixOf l=false by simpa only [Bool.not_eq_true] using h]
   exact if_neg h
 |m::ns,l=>by
  simp only [cuts,List.cons_append]
  by_cases h:(32::m).isPrefixOf l=true
  ·rw [if_pos h,if_pos h]
   simp only [cuts_snoc n ns,List.cons_append]
  ·rw [if_neg h,if_neg h]
   simp only [cuts_snoc n ns,List.cons_append]
theorem cuts_take (k:Nat) (n:Bs) (l:Bs) (hn:pnn[k]? =some n):cuts (pnn.take (k+1)) l=((cuts (pnn.take k) l).1++[(32::n).isPrefixOf (cuts (pnn.take k) l).2],Lib.trimPrefix (cuts (pnn.take k) l).2 (32::n)):=by
 have e:pnn.take (k+1)=pnn.take k++[n]:=by
  rw [List.take_add_one,hn]
  rfl
 rw [e,cuts_snoc]
def Pn.st28 (p:Pn) (k:Nat) (v:Bool):Pn:=
 let f:=(pvl p).set k v
 ⟨p.st,p.ad,p.da,f.getD 0 false,f.getD 1 false,f.getD 2 false,f.getD 3 false,f.getD 4 false,f.getD 5 false,f.getD 6 false,f.getD 7 false,f.getD 8 false,f.getD 9 false,f.getD 10 false,f.getD 11 false,f.getD 12 false,f.getD 13 false⟩
theorem Pn.st28_pvl (p:Pn) (k:Nat) (v:Bool) (hk:k < 14):pvl (p.st28 k v)=(pvl p).set k v:=by
 rcases k with _|_|_|_|_|_|_|_|_|_|_|_|_|_|k
 all_goals first|rfl|omega
theorem set_take (vs:List Bool) (k:Nat) (v:Bool) (hv:vs.length=k) (hk:k < 14):(vs++List.replicate (14 - k) false).set k v=(vs++[v])++List.replicate (14 - (k+1)) false:=by
 obtain ⟨m,e⟩:∃m,14 - k=m+1:=⟨14 - k - 1,by omega⟩
 rw [show 14 - (k+1)=m by omega,e,List.set_append_right _ _ (by omega),hv,Nat.sub_self,List.replicate_succ]
 simp
def pr28 (l:Bs):Pn×Bool:=
 let s:=stR28 (upt28 32 l)
 let a:=cnR 4 (l.drop (upt28 32 l).length)
 let d:=cnR 2 a.2.1
 let c:=cuts pnn d.2.1
 if s≠0∧a.2.2=true∧d.2.2=true∧c.2=[] then (mkPn s a.1.toNat d.1.toNat c.1,true) else (Pn.zero28,false)
theorem pr28_is (l:Bs):pr28 l=match prs28 l with
 |some p=>(p,true)
 |none=>(Pn.zero28,false):=by
 unfold pr28 prs28 stR28
 simp only []
 cases hs:stn.findIdx? (·==upt28 32 l) with
 |none=>simp
 |some i=>
  have hi:((i:Int)+1≠0):=by omega
  cases ha:num28 4 (l.drop (upt28 32 l).length) with
  |none=>simp [cnR,ha]
  |some x=>
   obtain ⟨a,r⟩:=x
   cases hd:num28 2 r with
   |none=>simp [cnR,ha,hd]
   |some y=>
    obtain ⟨d,r2⟩:=y
    by_cases hc:(cuts pnn r2).2=[]
    ·simp [cnR,ha,hd,hc,hi]
    ·simp [cnR,ha,hd,hc]
theorem cnR_bd4 (l:Bs):0≤(cnR 4 l).1∧(cnR 4 l).1 < 65536:=by
 unfold cnR
 cases h:num28 4 l with
 |none=>simp
 |some x=>
  have:=(num_inv4 (n:=x.1) (r:=x.2) h).2
  simp
  omega
theorem cnR_bd2 (l:Bs):0≤(cnR 2 l).1∧(cnR 2 l).1 < 256:=by
 unfold cnR
 cases h:num28 2 l with
 |none=>simp
 |some x=>
  have:=(num_inv2 (n:=x.1) (r:=x.2) h).2
  simp
  omega
theorem dgs_short {k v n:Nat} {l r:Bs} (h:dgs k v l=some (n,r)):r.length≤l.length:=by
 induction k generalizing v l with
 |zero=>
  cases h
  exact Nat.le_refl _
 |succ k ih=>
  obtain ⟨c,d,t,rfl, -,h2⟩:=dgs_step h
  have:=ih h2
  simp
  omega
theorem cnR_short (k:Nat) (l:Bs):(cnR k l).2.1.length≤l.length:=by
 unfold cnR
 cases h:num28 k l with
 |none=>simp
 |some x=>
  obtain ⟨t,rfl,h2⟩:=num_open (n:=x.1) (r:=x.2) h
  have:=dgs_short h2
  simp
  omega
end S
theorem S.Pn.st28_row (p:S.Pn) (k:Nat) (v:Bool) (hk:k < 14):(#[.int .i64 p.st,.int .u16 p.ad,.int .u8 p.da,.bool p.sy,.bool p.db,.bool p.wa,.bool p.it,.bool p.al,.bool p.im,.bool p.s1,.bool p.s0,.bool p.rd,.bool p.ia,.bool p.so,.bool p.wr,.bool p.hl,.bool p.fl]:Array Value).setIfInBounds (3+k) (.bool v)=#[.int .i64 (p.st28 k v).st,.int .u16 (p.st28 k v).ad,.int .u8 (p.st28 k v).da,.bool (p.st28 k v).sy,.bool (p.st28 k v).db,.bool (p.st28 k v).wa,.bool (p.st28 k v).it,.bool (p.st28 k v).al,.bool (p.st28 k v).im,.bool (p.st28 k v).s1,.bool (p.st28 k v).s0,.bool (p.st28 k v).rd,.bool (p.st28 k v).ia,.bool (p.st28 k v).so,.bool (p.st28 k v).wr,.bool (p.st28 k v).hl,.bool (p.st28 k v).fl]:=by
 rcases k with _|_|_|_|_|_|_|_|_|_|_|_|_|_|k
 all_goals first|rfl|omega
end
end Go.Proofs.YteggjjhjmhccjaaGreatDoor
