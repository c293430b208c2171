/- Texts that the proofs of GrammarTraces and GrammarCounts rest on, joined. Conditions stand in each theorem. -/
import Derived.Test.YteggjjhjmhccjaaGreatQ01
import Derived.Deep.RegionWith
import Derived.Test.YteggjjhjmhccjaaGreatQ00
import Derived.Deep.Cut
import Derived.Test.YteggjjhjmhccjaaGreatChecked
import Derived.Laws.OwnMore
import Derived.Laws.CopyOwn
import Derived.Deep.AppendLies
import Derived.Maps.AppendAt
import Derived.OwnWalk
import Derived.Laws.AppendOwnNone
import Derived.Deep.Slices
import Derived.ChangeSame
import Derived.Lib.SliceRun
import Derived.Lib.Hide
import Derived.Laws.Bits128
import Derived.Lib.BitFns
import Derived.RegionTactic
set_option linter.unusedVariables false
set_option linter.unusedSimpArgs false
set_option maxRecDepth 100000
set_option maxHeartbeats 8000000
namespace Go.Proofs.YteggjjhjmhccjaaGreat
open Go.ChangeShapes Go.WideShapes Go.ChangeAt Go.RowKit
section
theorem S.getD_byt {zs:List Int} (h:∀z∈zs,S.byt z) (k:Nat):S.byt (zs.getD k 0):=by
 rw [List.getD_eq_getElem?_getD]
 cases e:zs[k]? with
 |none=>exact ⟨Int.le_refl 0,by show (0:Int) < 256;omega⟩
 |some v=>exact h v (List.mem_of_getElem? e)
theorem S.wrap_byt {x:Int}:S.byt (IntKind.u8.wrap x):=by
 have h:IntKind.u8.wrap x=x % 256:=rfl
 unfold S.byt
 rw [h]
 omega
theorem grown_of_drew {w w':World} {r:Option Nat} (h:w.drew.grownBy w' r):w.grownBy w' r:=⟨h.os,h.tape,h.output,h.size,h.block⟩
def ScrPost (b n:Nat) (w:World) (e:Ending) (w':World):Prop:=
 ∃r zs,e=.returned r∧OwnsB w' w.heap.size r zs∧zs.length≤4 * n∧w.grownBy w' (some b)
def ScrPostB (b n:Nat) (w:World) (e:Ending) (w':World):Prop:=
 ∃r zs,e=.returned r∧OwnsB w' w.heap.size r zs∧zs.length≤4 * n∧(∀z∈zs,S.byt z)∧w.grownBy w' (some b)
theorem scr_mkB (b len cap N:Nat) (a:Option Addr) (n:Nat) (hn:n≤1000) (hN:N≤1000000) (w:World) (h:Nb w b a len cap N):
 Calls Tryz.prog 17 #[.pointer (some ⟨b,0,none⟩),.int .i64 (n:Int)] w (ScrPostB b n w):=by
 have hbw:=h.lt
 have H:Hid _:=Lib.hid h
 clear h
 go_enter Tryz.func17,Tryz.ntmps17
 go_upto_region 2 with (first
  |(go_at_call 42;(with_reducible refine (inps_mk b len cap N a n hn hN w H.out).mono ?_);rintro e w2 ⟨r,d,N2,rfl,hO2,hd2,hK2,hN2,hB2,hG2⟩;obtain ⟨ad,m,c,rfl,hm,h1,h2, -, -⟩:=hO2.form2;have HO2:=Lib.hid hO2;have HB2:=Lib.hid hB2;have HG2:=Lib.hid hG2;have HBY:=Lib.hid (S.enc_byt hK2);have hm':m≤n:=(by have:=hm.out;omega);clear hO2 hK2 hB2 hG2 hd2)
  |(go_at_call 41;(with_reducible refine (renc_any ad m c d w2 (OwnsG.held HO2.out (by have:=hm.out;omega)) h1 h2 (by omega)).mono ?_);rintro e w3 ⟨r3,rfl,hO3,hA3⟩;obtain ⟨ad3,m3,c3,rfl,hm3,h31,h32,h33,h34⟩:=hO3.form2;have hm3':m3≤4 * n:=(by have:=hm3.out;rw [S.enc_len] at this;have:=hm.out;omega);have HO3:=Lib.hid hO3;have HA3:=Lib.hid hA3;clear hO3 hA3))
 have hw2:=HG2.out.size
 have HB3:=Lib.hid (HB2.out.grown (HA3.out.grownBy none) (fun g e=>by cases e))
 have HG3:=Lib.hid (HG2.out.trans (HA3.out.grownBy (some b)))
 obtain ⟨zs,hzs⟩:∃zs,S.enc d=zs:=⟨_,rfl⟩
 rw [hzs] at HO3 hm3 HBY
 have HO3':=Lib.hid (OwnsG.mono HO3.out hw2)
 clear HB2 HG2 HO2 HA3 HO3 hzs
 by_cases hp:0 < m3
 ·have hpz:(0:Int) < (m3:Int):=by omega
  obtain ⟨g,rfl,hg1,hg2⟩:=h33 (by omega)
  clear h33 h34
  go_wp2_with (go_at_call 18;(with_reducible refine (nx_any b len cap N2 a 4 (by omega) (by omega) (by omega) w3 HB3.out).mono ?_);rintro e w4 ⟨z,M4,hz0,hz1,hM4,rfl,hU4⟩;have HB4:=Lib.hid (HB3.out.up hU4);have HG4:=Lib.hid (HG3.out.trans hU4.grown);have HO4:=Lib.hid (HO3'.out.kept hU4.grown (fun g e=>by injection e with e;omega));clear hU4)
  ·go_region_with (first
    |(go_at_call 18;(with_reducible refine (nx_any b len cap M5 a 8 (by omega) (by omega) (by omega) w5 HB5.out).mono ?_);rintro e w6 ⟨t,M6,ht0,ht1,hM6,rfl,hU6⟩;have HG6:=Lib.hid (HG5.out.trans hU6.grown);have HO6:=Lib.hid (HO5.out.kept hU6.grown (fun g e=>by injection e with e;omega));have c6:w6.cell? ⟨g,k,none⟩=some (.int .u8 zk):=(by have:=AtB.el (OwnsG.at_ HO6.out) (j:=k) (by have:=hm3.out;omega);rwa [Nat.zero_add,hzk.out] at this);have f6:=OwnsG.frozen HO6.out k;clear hU6)
    |(go_at_call 18;(with_reducible refine (nx_any b len cap M4 a (m3:Int) (by omega) (by omega) (by omega) _ HB4.out.drew).mono ?_);rintro e w5 ⟨y,M5,hy0,hy1,hM5,rfl,hU5⟩;obtain ⟨k,rfl⟩:∃k:Nat,y=(k:Int):=⟨y.toNat,by omega⟩;have HB5:=Lib.hid (HB4.out.drew.up hU5);have HG5:=Lib.hid (HG4.out.trans (grown_of_drew hU5.grown));have HO5:=Lib.hid (HO4.out.kept (grown_of_drew hU5.grown) (fun g e=>by injection e with e;omega));obtain ⟨zk,hzk'⟩:∃zk,zs.getD k 0=zk:=⟨_,rfl⟩;have hzk:=Lib.hid hzk';clear hzk';have c5:w5.cell? ⟨g,k,none⟩=some (.int .u8 zk):=(by have:=AtB.el (OwnsG.at_ HO5.out) (j:=k) (by have:=hm3.out;omega);rwa [Nat.zero_add,hzk.out] at this);clear hU5))
   all_goals
    have HS:=Lib.hid (OwnsB.store HO6.out k (bits .xor .u8 zk (IntKind.u8.wrap (2 ^ t.toNat))))
    go_wp2_with fail
    go_ret
    exact ⟨_,_,rfl,HS.out.1,by rw [List.length_set];have:=hm3.out;omega,(fun y hy=>by
     rcases List.mem_or_eq_of_mem_set hy with q|rfl
     ·exact HBY.out y q
     ·exact S.xor_byt (hzk.out▸S.getD_byt HBY.out k) (S.wrap_byt)),grown_trans2 HG6.out HS.out.2 (fun g' e=>by injection e with e;have:=(OwnsG.lt HO6.out).1;omega)⟩
  ·go_wp2_with fail
   go_ret
   exact ⟨_,zs,rfl,HO4.out,by have:=hm3.out;omega,HBY.out,HG4.out⟩
 ·have hpz:¬(0:Int) < (m3:Int):=by omega
  clear h33 h34
  go_wp2_with fail
  go_ret
  exact ⟨_,zs,rfl,HO3'.out,by have:=hm3.out;omega,HBY.out,HG3.out⟩
end
section
variable {a:Int} {b n:Nat} {l:List Int} {w w':World}
theorem gb_drew {r:Option Nat} (h:w.grownBy w' r):w.grownBy w'.drew r:=⟨h.os,h.tape,h.output,h.size,h.block⟩
theorem gb_drewN {r:Option Nat} (h:w.grownBy w' r):w.grownBy (w'.drewN n) r:=⟨h.os,h.tape,h.output,h.size,h.block⟩
theorem gb_alloc {r:Option Nat} (h:w.grownBy w' r) {o:Obj}:w.grownBy (w'.alloc o) r:=h.trans (World.grownBy_alloc _ _ _)
theorem gb_more {r:Option Nat} (h:w.grownBy w' r) {os:Array Obj}:w.grownBy (More w' n os) r:=h.trans (Adds.grownBy (Adds.more (Adds.refl _) n os) r)
theorem gb_cell (h:w.grownBy w' (some b)) {i:Nat} {v:Value}:w.grownBy (w'.setCell ⟨b,i,none⟩ v) (some b):=
 h.trans ⟨rfl,rfl,rfl,by simp,fun k _ hk=>heap_setCell_other w' ⟨b,i,none⟩ k _ (fun e=>hk (by simp [e]))⟩
theorem gbx {r:Option Nat} (h:w.grownBy w' r:=by (repeat (first|with_reducible exact World.grownBy.refl _ _|with_reducible refine gb_drew ?_|with_reducible refine gb_drewN ?_|with_reducible refine gb_alloc ?_|with_reducible refine gb_more ?_|with_reducible refine gb_cell ?_))):w.grownBy w' r:=h
theorem nbx {P:Prop} (h:P:=by (repeat (first|with_reducible exact H.out|with_reducible refine Nb.more ?_ _ _|with_reducible refine Nb.alloc ?_ _|with_reducible refine Nb.drew ?_|apply Nb.bump))):P:=h
theorem at_rowB {c:Array Value} {e:List Int} (hr:rowOf w b=c) (hc:c.toList=Fl csB e):∀j u,(Fl csB e)[j]? =some u→w.cell? ((⟨b,0,none⟩:Addr).add j)=some u:=by
 intro j u hu
 rw [add_plain,Nat.zero_add]
 rw [←hc] at hu
 exact rowOf_cell hr (by simpa using hu)
theorem byt_app {zs:List Int} (h:∀z∈zs,S.byt z) (k:∀z∈l,S.byt z):∀z∈zs++l,S.byt z:=fun z hz=>(List.mem_append.1 hz).elim (h z) (k z)
theorem byt_1 (ha:0≤a∧a < 256):∀z∈[a],S.byt z:=fun z hz=>by rw [List.mem_singleton.1 hz];exact ha
theorem byt_cons (ha:0≤a∧a < 256) (h:∀z∈l,S.byt z):∀z∈a::l,S.byt z:=fun z hz=>(List.mem_cons.1 hz).elim (fun e=>e▸ha) (h z)
theorem byt_nil:∀z∈([]:List Int),S.byt z:=fun z hz=>by cases hz
theorem wrap8 {y:Int} (h0:0≤y) (h1:y < 256):IntKind.u8.wrap y=y∧y % 256=y:=⟨by simp [IntKind.wrap,IntKind.bits,IntKind.signed];omega,by omega⟩
theorem lt4b (y:Int) (h0:0≤y) (h:y < 4):∃(k:Nat) (o:Int),y=(k:Int)∧0≤o∧o < 256∧(k:Int) < 4∧(#[.int .u8 0,.int .u8 0,.int .u8 1,.int .u8 255]:Array Value)[k]? =some (.int .u8 o):=by
 obtain ⟨k,rfl⟩:∃k:Nat,y=(k:Int):=⟨y.toNat,by omega⟩
 match k,h with
 |0,h=>exact ⟨0,0,rfl,by omega,by omega,h,rfl⟩
 |1,h=>exact ⟨1,0,rfl,by omega,by omega,h,rfl⟩
 |2,h=>exact ⟨2,1,rfl,by omega,by omega,h,rfl⟩
 |3,h=>exact ⟨3,255,rfl,by omega,by omega,h,rfl⟩
 |k+4,h=>exact absurd h (by omega)
end
section
section
variable {P:Program} {ops:Array Oper} {Q:Exit→Act→World→Prop} {md:Region.Mode}
def pre (K m:Nat):Array Bool:=(List.replicate K true++List.replicate (m - K) false).toArray
theorem pre_of {L:Array Bool} {K m:Nat} (hz:L.size=m) (hK:K≤m) (h1:∀j,j < K→L.getD j false=true) (h2:∀j,K≤j→L.getD j false=false):L=pre K m:=by
 apply Array.ext
 ·simp [pre];omega
 ·intro i hi _
  have e:L[i]=L.getD i false:=by simp [Array.getD,hi]
  rw [e]
  by_cases h:i < K
  ·rw [h1 i h];simp [pre,h,List.getElem_append]
  ·rw [h2 i (by omega)];simp [pre,h,List.getElem_append]
theorem pre_get {K m i:Nat} (hi:i < K) (hm:K≤m):(pre K m).getD i false=true:=by
 have:i < (pre K m).size:=by simp [pre];omega
 simp only [Array.getD,this,dif_pos]
 simp [pre,List.getElem_append,hi]
def dep (md:Region.Mode) (ops:Array Oper) (i k:Nat):Bool:=((ops[i]?).map fun o=>o.after.any fun e=>Region.binds md e && e.on==k)==some true
def reach (md:Region.Mode) (ops:Array Oper):Nat→Nat→Nat→Bool
 |0,_,_=>false
 |f+1,i,j=>dep md ops i j||(List.range i).any fun k=>dep md ops i k && reach md ops f k j
theorem reach_listed {L:Array Bool} (hc:∀j,L.getD j false=true→∀k,dep md ops j k=true→L.getD k false=true):∀(f i j:Nat),reach md ops f i j=true→(∀k,dep md ops i k=true→L.getD k false=true)→L.getD j false=true
 |0,_,_,h,_=>by cases h
 |f+1,i,j,h,hi=>by
  unfold reach at h
  rcases Bool.or_eq_true _ _|>.mp h with h|h
  ·exact hi j h
  ·obtain ⟨k,_,hk⟩:=List.any_eq_true.1 h
   obtain ⟨h1,h2⟩:=Bool.and_eq_true _ _|>.mp hk
   exact reach_listed hc f k j h2 (hc k (hi k h1))
theorem dep_of {L:Array Bool} {i k:Nat} (h:i∈Region.ready md ops L) (hd:dep md ops i k=true):L.getD k false=true:=ready_dep h (by simpa [dep] using hd)
theorem wpAny_pre (K:Nat) (Inv:Nat→Array Bool→Act→World→Prop) (hK:K < ops.size)
 (hac:((List.range ops.size).all fun i=>((ops[i]?).map fun o=>o.after.all fun e=>decide (e.on < i)).getD true)=true)
 (hg:∀n L a w,Inv n L a w→∀j,K≤j→L.getD j false=false)
 (hdep:∀i,K≤i→i < ops.size→((List.range K).all fun j=>reach md ops ops.size i j)=true)
 (hs:∀n L a w i,n < ops.size→L.size=ops.size→Inv n L a w→i < K→i∈Region.ready md ops L→wpOp P ops Q i (fun a' w'=>Inv (n+1) (L.setIfInBounds i true) a' w') a w)
 (he:∀a w,Inv K (pre K ops.size) a w→wpAny P md ops Q (ops.size - K) (pre K ops.size) a w):
 ∀(fuel n:Nat) (L:Array Bool) (a:Act) (w:World),n+fuel=ops.size→L.size=ops.size→L.toList.countP (fun b=> !b)=fuel→(∀j,L.getD j false=true→∀k,dep md ops j k=true→L.getD k false=true)→Inv n L a w→wpAny P md ops Q fuel L a w
 |0,n,L,a,w,hf,hz,hc,hcl,hI=>by
  have h1:=hg n L a w hI K (Nat.le_refl _)
  have h2:L.toList.countP (fun b=> !b)=0:=hc
  rw [List.countP_eq_zero] at h2
  have h3:L.getD K false=L[K]:=by simp [Array.getD,hz,hK]
  have h4:=h2 L[K] (by simp)
  rw [h3] at h1
  rw [h1] at h4
  exact absurd rfl h4
 |fuel+1,n,L,a,w,hf,hz,hc,hcl,hI=>by
  refine ⟨fun hr=> ?_,fun i hi=> ?_⟩
  ·have:=all_listed hac hz hr K hK
   rw [hg n L a w hI K (Nat.le_refl _)] at this
   cases this
  ·by_cases h:i < K
   ·refine wpOp_mono (fun a' w' h'=> ?_) (hs n L a w i (by omega) hz hI h hi)
    have k:=count_set L.toList i (by simpa using unlisted (mem_ready.1 hi).1)
    refine wpAny_pre K Inv hK hac hg hdep hs he fuel (n+1) _ a' w' (by omega) (by simpa using hz) (by rw [Array.toList_setIfInBounds];omega) (fun j hj m hm=> ?_) h'
    rcases listed_set L i j hj with e|hj'
    ·subst e
     by_cases e2:m=j
     ·subst e2;exact hj
     ·rw [listed_set_ne L j m (Ne.symm e2)];exact dep_of hi hm
    ·by_cases e2:m=i
     ·subst e2;rw [listed_set_same L m (by have:=(Array.getElem?_eq_some_iff.1 (unlisted (mem_ready.1 hi).1)).1;omega)]
     ·rw [listed_set_ne L i m (Ne.symm e2)];exact hcl j hj' m hm
   ·have hil:i < ops.size:=by
     have h2:=(Array.getElem?_eq_some_iff.1 (unlisted (mem_ready.1 hi).1)).1
     omega
    have hd:=hdep i (by omega) hil
    have hall:∀j,j < K→L.getD j false=true:=fun j hj=>
     reach_listed hcl ops.size i j (List.all_eq_true.1 hd j (List.mem_range.2 hj)) (fun k hk=>dep_of hi hk)
    have hL:=pre_of hz (by omega) hall (hg n L a w hI)
    have hn:n=K:=by
     have e:L.toList.countP (fun b=> !b)=ops.size - K:=by
      rw [hL]
      simp [pre,List.countP_append,List.countP_replicate]
     omega
    subst hn
    have hf':ops.size - n=fuel+1:=by omega
    subst hL
    have:=he a w hI
    rw [hf'] at this
    exact this.2 i hi
theorem wpAny_1 {fuel:Nat} {L:Array Bool} {i:Nat} {a:Act} {w:World} (hr:Region.ready md ops L=[i]) (h:wpOp P ops Q i (fun a' w'=>wpAny P md ops Q fuel (L.setIfInBounds i true) a' w') a w):wpAny P md ops Q (fuel+1) L a w:=
 ⟨fun e=>(by rw [hr] at e;cases e),fun j hj=>(by rw [hr] at hj;obtain rfl:=List.mem_singleton.1 hj;exact h)⟩
theorem st_assign {i t s:Nat} {K:Act→World→Prop} {a:Act} {w:World} {v:Value} (ho:(ops[i]?).map (fun o=>(o.dst,o.op,o.guard))=some (some t,.assign (.tmp s),none)) (hx:a.tmps.getD s undef=v) (h:K (a.put (some t) v) w):wpOp P ops Q i K a w:=
 let ⟨ty,pos,aft,ho⟩:=op_of ho;st_val ho rfl rfl (by show Result.ok (Next.value (a.tmps.getD s undef)) w=_;rw [hx]) h
theorem put_same (a:Act) (t:Nat) (v:Value) (h:t < a.tmps.size):(a.put (some t) v).tmps.getD t undef=v:=by simp [Act.put,h]
theorem put_other {a:Act} {t j:Nat} {v:Value} (h:j≠t):(a.put (some t) v).tmps.getD j undef=a.tmps.getD j undef:=by simp [Act.put,Array.getElem?_setIfInBounds_ne (Ne.symm h)]
theorem put_size (a:Act) (t:Nat) (v:Value):(a.put (some t) v).tmps.size=a.tmps.size:=by simp [Act.put]
end
inductive Kd where
 |box
 |nx (n:Int)
 |by8
 |own (v:Value)
 |sl (n:Nat) (c:Array Value)
 |ix (n:Nat) (c:Array Value)
 |bl (n:Nat)
def Kd.ok (b:Nat) (w:World) (v:Value):Kd→Prop
 | .box=>v=.pointer (some ⟨b,0,none⟩)
 | .nx n=>∃y:Int,(0≤y∧y < n)∧v=.int .i64 y
 | .by8=>∃y:Int,S.byt y∧v=.int .u8 y
 | .own u=>v=u
 | .sl n c=>∃bs,v=.slice (some ⟨bs,0,none⟩) n n∧bs≠b∧w.heap[bs]? =some (.cells c 5 (0,0))
 | .ix n c=>∃bs k,v=.pointer (some ⟨bs,k,none⟩)∧k < n∧bs≠b∧w.heap[bs]? =some (.cells c 5 (0,0))
 | .bl n=>∃(bs:Nat) (l:List Int) (c:Array Value),v=.slice (some ⟨bs,0,none⟩) n n∧bs≠b∧l.length=n∧(∀z∈l,S.byt z)∧c.toList=Fl csB l∧w.heap[bs]? =some (.cells c 5 (0,0))
theorem Kd.keep {b:Nat} {w w':World} {v:Value} (h:KeepsJ b w w'):∀{k:Kd},k.ok b w v→k.ok b w' v
 | .box,hk=>hk
 | .nx _,hk=>hk
 | .by8,hk=>hk
 | .own _,hk=>hk
 | .sl _ _,⟨bs,h1,h2,h3⟩=>⟨bs,h1,h2,(h bs h2 (Array.getElem?_eq_some_iff.1 h3).1).trans h3⟩
 | .ix _ _,⟨bs,k,h1,h0,h2,h3⟩=>⟨bs,k,h1,h0,h2,(h bs h2 (Array.getElem?_eq_some_iff.1 h3).1).trans h3⟩
 | .bl _,⟨bs,l,c,h1,h2,h4,h5,h6,h3⟩=>⟨bs,l,c,h1,h2,h4,h5,h6,(h bs h2 (Array.getElem?_eq_some_iff.1 h3).1).trans h3⟩
structure Mv (js:List Kd) (s0 b N:Nat) (w0:World) (a0:Act) (n:Nat) (L:Array Bool) (a:Act) (w:World):Prop where
 d:a.defers=a0.defers
 z:a.tmps.size=a0.tmps.size
 o:∀j,(j < s0∨s0+js.length≤j)→a.tmps.getD j undef=a0.tmps.getD j undef
 u:∃M,M≤N+2 * n∧Up w0 b M w
 g:∀j,js.length≤j→L.getD j false=false
 m:∀i k,js[i]? =some k→L.getD i false=true→k.ok b w (a.tmps.getD (s0+i) undef)
section
variable {js:List Kd} {s0 b N:Nat} {w0:World} {a0:Act} {n:Nat} {L:Array Bool} {a:Act} {w w':World} {ops:Array Oper} {md:Region.Mode} {i:Nat}
theorem Mv.put (h:Mv js s0 b N w0 a0 n L a w) (hs:s0+js.length≤a0.tmps.size) {k:Kd} (hk:js[i]? =some k) {v:Value} (hv:k.ok b w' v) (hw:KeepsJ b w w') {M:Nat} (hM:M≤N+2 * (n+1)) (hU:Up w0 b M w'):
 Mv js s0 b N w0 a0 (n+1) (L.setIfInBounds i true) (a.put (some (s0+i)) v) w':=by
 have hi:i < js.length:=(List.getElem?_eq_some_iff.1 hk).1
 refine ⟨h.d,(put_size ..).trans h.z,fun j hj=> ?_,⟨M,hM,hU⟩,fun j hj=> ?_,fun j k' hk' hl=> ?_⟩
 ·rw [put_other (by omega)];exact h.o j hj
 ·rw [listed_set_ne L i j (by omega)];exact h.g j hj
 ·by_cases e:j=i
  ·subst e
   rw [hk] at hk'
   cases hk'
   rw [put_same _ _ _ (by rw [h.z];omega)]
   exact hv
  ·rcases listed_set L i j hl with e' |hl'
   ·exact absurd e' e
   ·rw [put_other (by omega)]
    exact Kd.keep hw (h.m j k' hk' hl')
theorem Mv.same (h:Mv js s0 b N w0 a0 n L a w) (hs:s0+js.length≤a0.tmps.size) {k:Kd} (hk:js[i]? =some k) {v:Value} (hv:k.ok b w v):
 Mv js s0 b N w0 a0 (n+1) (L.setIfInBounds i true) (a.put (some (s0+i)) v) w:=by
 obtain ⟨M,hM,hU⟩:=h.u
 exact h.put hs hk hv (fun _ _ _=>rfl) (by omega) hU
theorem Mv.get (h:Mv js s0 b N w0 a0 n L a w) (hr:i∈Region.ready md ops L) {j:Nat} {k:Kd} (hk:js[j]? =some k) (hj:((ops[i]?).map fun o=>o.after.any fun e=>Region.binds md e && e.on==j)=some true):k.ok b w (a.tmps.getD (s0+j) undef):=h.m j k hk (ready_dep hr hj)
abbrev MStep (ops:Array Oper) (js:List Kd) (s0 b N:Nat) (w0:World) (a0:Act) (Q:Exit→Act→World→Prop) (n:Nat) (L:Array Bool) (a:Act) (w:World) (i:Nat):Prop:=
 wpOp Tryz.prog ops Q i (fun a' w'=>Mv js s0 b N w0 a0 (n+1) (L.setIfInBounds i true) a' w') a w
variable {Q:Exit→Act→World→Prop} {len cap:Nat} {aa:Option Addr}
theorem mp_move (h:Mv js s0 b N w0 a0 n L a w) (hs:s0+js.length≤a0.tmps.size) {s:Nat} {k:Kd} (hk:js[i]? =some k) (hl:s < s0) {v:Value} (hx:a0.tmps.getD s undef=v) (hv:k.ok b w v)
 (ho:(ops[i]?).map (fun o=>(o.dst,o.op,o.guard))=some (some (s0+i),.move (.tmp s),none)):MStep ops js s0 b N w0 a0 Q n L a w i:=
 st_move ho ((h.o s (.inl hl)).trans hx) (h.same hs hk hv)
theorem mp_next {c:Int} (c0:1≤c∧c≤65536) (h:Mv js s0 b N w0 a0 n L a w) (hs:s0+js.length≤a0.tmps.size) (hr:i∈Region.ready .any ops L) {j:Nat} (hk:js[i]? =some (.nx c))
 (ho:(ops[i]?).map (fun o=>(o.dst,o.op,o.guard))=some (some (s0+i),.call {callee:=.value (.func 18),args:=#[.tmp (s0+j),.const (.int .i64 c)],argTypes:=#[68,3]},none)) (hj:js[j]? =some .box) (hd:((ops[i]?).map fun o=>o.after.any fun e=>Region.binds .any e && e.on==j)=some true)
 (hb0:Nb w0 b aa len cap N) (hM:N≤90000000) (hn:n < 100):MStep ops js s0 b N w0 a0 Q n L a w i:=by
 obtain ⟨M,hM1,hU⟩:=h.u
 refine st_call2 ho (h.get hr hj hd) (by simp [go_sem]) ?_
 refine (nx_any b len cap M aa c c0.1 c0.2 (by omega) _ (hb0.up hU)).mono ?_
 rintro e w2 ⟨y,M2,hy0,hy1,hM2,rfl,hU2⟩
 exact ⟨_,rfl,h.put hs hk ⟨y,⟨hy0,hy1⟩,rfl⟩ hU2.keepsJ (M:=M2) (by omega) (hU.then hb0.lt hU2)⟩
theorem mp_slice {m:Nat} {c:Array Value} {parts:Array (Nat×Operand)} (h:Mv js s0 b N w0 a0 n L a w) (hs:s0+js.length≤a0.tmps.size) (hk:js[i]? =some (.sl m c))
 (ho:(ops[i]?).map (fun o=>(o.dst,o.op,o.guard))=some (some (s0+i),.buildSlice 39 m parts,none)) {vs:Array (Nat×Value)} (hp:(parts.map fun (i,x)=>(i,a.eval x))=vs) (hr:(Instr.buildSlice 39 m vs).run Tryz.prog w=.ok (.slice (some ⟨w.heap.size,0,none⟩) m m) (w.alloc (.cells c 5)))
 (hb0:Nb w0 b aa len cap N):MStep ops js s0 b N w0 a0 Q n L a w i:=by
 obtain ⟨M,hM1,hU⟩:=h.u
 have hbw:b < w.heap.size:=(hb0.up hU).lt
 exact st_buildSlice ho hp hr (h.put hs hk ⟨w.heap.size,rfl,by omega,heap_last w _⟩ (fun c _ hc=>heap_past w _ hc) (M:=M) (by omega) (hU.alloc _))
theorem mp_ix {m:Nat} {c:Array Value} {j1 j2:Nat} (h:Mv js s0 b N w0 a0 n L a w) (hs:s0+js.length≤a0.tmps.size) (hr:i∈Region.ready .any ops L) (hk:js[i]? =some (.ix m c))
 (ho:(ops[i]?).map (fun o=>(o.dst,o.op,o.guard))=some (some (s0+i),.indexAddr 39 (.tmp (s0+j1)) (.tmp (s0+j2)),none)) (h1:js[j1]? =some (.sl m c)) (d1:((ops[i]?).map fun o=>o.after.any fun e=>Region.binds .any e && e.on==j1)=some true) (h2:js[j2]? =some (.nx m)) (d2:((ops[i]?).map fun o=>o.after.any fun e=>Region.binds .any e && e.on==j2)=some true):MStep ops js s0 b N w0 a0 Q n L a w i:=by
 obtain ⟨bs,e,hne,hh⟩:=h.get hr h1 d1
 obtain ⟨y,hy,e'⟩:=h.get hr h2 d2
 obtain ⟨k,rfl⟩:∃k:Nat,y=(k:Int):=⟨y.toNat,by omega⟩
 have hk':k < m:=by omega
 refine st_indexAddr (v:=.pointer (some ⟨bs,k,none⟩)) ho e e' ?_ (h.same hs hk ⟨bs,k,rfl,hk',hne,hh⟩)
 have h6:(k:Int) < m:=hy.2
 simp [go_sem,h6]
theorem mp_load {m:Nat} {c:Array Value} {j:Nat} (h:Mv js s0 b N w0 a0 n L a w) (hs:s0+js.length≤a0.tmps.size) (hr:i∈Region.ready .any ops L) (hk:js[i]? =some .by8)
 (ho:(ops[i]?).map (fun o=>(o.dst,o.op,o.guard))=some (some (s0+i),.load 5 (.tmp (s0+j)),none)) (h1:js[j]? =some (.ix m c)) (d1:((ops[i]?).map fun o=>o.after.any fun e=>Region.binds .any e && e.on==j)=some true) (hc:∀k,k < m→∃z:Int,S.byt z∧c[k]? =some (.int .u8 z)):MStep ops js s0 b N w0 a0 Q n L a w i:=by
 obtain ⟨bs,k,e,hk',hne,hh⟩:=h.get hr h1 d1
 obtain ⟨z,hz,hc⟩:=hc k hk'
 have hq:w.cell? ⟨bs,k,none⟩=some (.int .u8 z):=by rw [cell_of_row w bs k _ _ _ hh];exact hc
 refine st_load (v:=.int .u8 z) ho e ?_ (h.same hs hk ⟨z,hz,rfl⟩)
 simp [go_sem,hq]
theorem mp_conv {c:Int} (hc:c≤256) {j:Nat} (h:Mv js s0 b N w0 a0 n L a w) (hs:s0+js.length≤a0.tmps.size) (hr:i∈Region.ready .any ops L) (hk:js[i]? =some .by8)
 (ho:(ops[i]?).map (fun o=>(o.dst,o.op,o.guard))=some (some (s0+i),.convert 3 5 (.tmp (s0+j)),none)) (h1:js[j]? =some (.nx c)) (d1:((ops[i]?).map fun o=>o.after.any fun e=>Region.binds .any e && e.on==j)=some true):MStep ops js s0 b N w0 a0 Q n L a w i:=by
 obtain ⟨y,hy,e⟩:=h.get hr h1 d1
 obtain ⟨hw1,hw2⟩:=wrap8 (y:=y) (by omega) (by omega)
 refine st_conv (v:=.int .u8 y) ho e ?_ (h.same hs hk ⟨y,⟨hy.1,by omega⟩,rfl⟩)
 simp [go_sem,hw1,hw2]
theorem mp_bytes3 {j1 j2 j3:Nat} (h:Mv js s0 b N w0 a0 n L a w) (hs:s0+js.length≤a0.tmps.size) (hr:i∈Region.ready .any ops L) (hk:js[i]? =some (.bl 3))
 (ho:(ops[i]?).map (fun o=>(o.dst,o.op,o.guard))=some (some (s0+i),.buildSlice 39 3 #[(0,.tmp (s0+j1)),(1,.tmp (s0+j2)),(2,.tmp (s0+j3))],none)) (h1:js[j1]? =some .by8) (d1:((ops[i]?).map fun o=>o.after.any fun e=>Region.binds .any e && e.on==j1)=some true) (h2:js[j2]? =some .by8) (d2:((ops[i]?).map fun o=>o.after.any fun e=>Region.binds .any e && e.on==j2)=some true) (h3:js[j3]? =some .by8) (d3:((ops[i]?).map fun o=>o.after.any fun e=>Region.binds .any e && e.on==j3)=some true)
 (hb0:Nb w0 b aa len cap N):MStep ops js s0 b N w0 a0 Q n L a w i:=by
 obtain ⟨y1,hy1,e1⟩:=h.get hr h1 d1
 obtain ⟨y2,hy2,e2⟩:=h.get hr h2 d2
 obtain ⟨y3,hy3,e3⟩:=h.get hr h3 d3
 obtain ⟨M,hM1,hU⟩:=h.u
 have hbw:b < w.heap.size:=(hb0.up hU).lt
 refine st_buildSlice (vs:=#[(0,.int .u8 y1),(1,.int .u8 y2),(2,.int .u8 y3)]) (v:=.slice (some ⟨w.heap.size,0,none⟩) 3 3) (w':=w.alloc (.cells #[.int .u8 y1,.int .u8 y2,.int .u8 y3] 5)) ho ?_ (by simp [go_sem]) (h.put hs hk ⟨w.heap.size,[y1,y2,y3],_,rfl,by omega,rfl,byt_cons hy1 (byt_cons hy2 (byt_1 hy3)),rfl,heap_last w _⟩ (fun c _ hc=>heap_past w _ hc) (M:=M) (by omega) (hU.alloc _))
 have q:∀t,a.eval (.tmp t)=a.tmps.getD t undef:=fun _=>rfl
 simp only [List.map_toArray,List.map_cons,List.map_nil,q,e1,e2,e3]
end
end
section
def ProgPost (b len cap N:Nat) (a:Option Addr) (n:Nat) (w:World) (e:Ending) (w':World):Prop:=
 ∃r zs N',e=.returned r∧OwnsB w' w.heap.size r zs∧zs.length≤12 * n∧(∀z∈zs,S.byt z)∧N'≤N+1+40 * n∧Nb w' b a len cap N'∧w.grownBy w' (some b)
def PgI (b len cap N:Nat) (a:Option Addr) (n:Nat) (w:World) (k N':Nat) (zs:List Int) (v:Value) (wr:World):Prop:=
 zs.length+12 * k≤12 * n∧N'+40 * k≤N+1+40 * n∧(∀z∈zs,S.byt z)∧OwnsB wr w.heap.size v zs∧w.grownBy wr (some b)∧Nb wr b a len cap N'
theorem PgI.step {b len cap N:Nat} {a:Option Addr} {n:Nat} {w:World} {k N':Nat} {zs:List Int} {v:Value} {wr:World} (h:PgI b len cap N a n w (k+1) N' zs v wr) {M:Nat} {l:List Int} {v':Value} {W W':World} (hM:M≤N'+40) (hl:l.length≤12) (hb:∀z∈l,S.byt z) (ho:OwnsB W' w.heap.size v' (zs++l)) (hg:wr.grownBy W (some b)) (hn:Nb W b a len cap M) (hG:W.grownBy W' v.ownBlock) (hw:b < w.heap.size):PgI b len cap N a n w k M (zs++l) v' W':=by
 obtain ⟨h1,h2,h3,h4,h5,h6⟩:=h
 have low:∀g,v.ownBlock=some g→w.heap.size≤g:=fun g e=>(World.ownsRow.lt h4 g e).1
 exact ⟨by rw [List.length_append];omega,by omega,byt_app h3 hb,ho,grown_trans2 (h5.trans hg) hG (fun g e=> .inr (low g e)),hn.grown hG (fun g e=>by have:=low g e;omega)⟩
theorem PgI.own {b len cap N:Nat} {a:Option Addr} {n:Nat} {w:World} {k N':Nat} {zs:List Int} {v:Value} {wr W:World} (h:PgI b len cap N a n w k N' zs v wr) (hw:b < w.heap.size) (hg:wr.grownBy W (some b)):OwnsB W w.heap.size v zs∧w.heap.size≤W.heap.size:=⟨h.2.2.2.1.kept hg (fun g e=>by injection e with e;omega),Nat.le_trans h.2.2.2.2.1.size hg.size⟩
@[noinline] def regOf (k:Nat) (f:Func):Array Oper:=match f.body with
 |some c=>(regOps c k).getD #[]
 |_=>#[]
noncomputable abbrev pgOps:Array Oper:=regOf 8 Tryz.f30
def pgA:Array Value:=#[.int .u8 33,.int .u8 49,.int .u8 1,.int .u8 17]
def pgB:Array Value:=#[.int .u8 0,.int .u8 0,.int .u8 1,.int .u8 255]
def pgJ (v:Value):List Kd:=[.own v,.sl 4 pgA,.box,.nx 4,.ix 4 pgA,.by8,.box,.nx 256,.by8,.sl 4 pgB,.box,.nx 4,.ix 4 pgB,.by8,.bl 3]
theorem pgA_el:∀k,k < 4→∃z:Int,S.byt z∧pgA[k]? =some (.int .u8 z):=fun k h=>by
 match k,h with
 |0,_=>exact ⟨_,⟨by decide,by decide⟩,rfl⟩
 |1,_=>exact ⟨_,⟨by decide,by decide⟩,rfl⟩
 |2,_=>exact ⟨_,⟨by decide,by decide⟩,rfl⟩
 |3,_=>exact ⟨_,⟨by decide,by decide⟩,rfl⟩
 |k+4,h=>exact absurd h (by omega)
theorem pgB_el:∀k,k < 4→∃z:Int,S.byt z∧pgB[k]? =some (.int .u8 z):=fun k h=>by
 match k,h with
 |0,_=>exact ⟨_,⟨by decide,by decide⟩,rfl⟩
 |1,_=>exact ⟨_,⟨by decide,by decide⟩,rfl⟩
 |2,_=>exact ⟨_,⟨by decide,by decide⟩,rfl⟩
 |3,_=>exact ⟨_,⟨by decide,by decide⟩,rfl⟩
 |k+4,h=>exact absurd h (by omega)
section
variable {b N:Nat} {w0:World} {a0:Act} {n:Nat} {L:Array Bool} {a:Act} {w:World} {i:Nat} {len cap:Nat} {aa:Option Addr} {Q:Exit→Act→World→Prop} {v5:Value}
theorem pg_all (hb0:Nb w0 b aa len cap N) (hM:N≤80000000) (hn:n < 17) (hz:a0.tmps.size=75) (h0:a0.tmps.getD 0 undef=.pointer (some ⟨b,0,none⟩)) (h5:a0.tmps.getD 5 undef=v5):
 ∀i,Mv (pgJ v5) 32 b N w0 a0 n L a w→i < 15→i∈Region.ready .any pgOps L→MStep pgOps (pgJ v5) 32 b N w0 a0 Q n L a w i:=by
 have hs:32+(pgJ v5).length≤a0.tmps.size:=by rw [hz];exact Nat.le_of_ble_eq_true rfl
 intro i h hi hr
 match i,h,hi,hr with
 |0,h,_,hr=>exact mp_move (s:=5) h hs rfl (by omega) h5 rfl (by kernel_rfl)
 |1,h,_,hr=>exact mp_slice (parts:=#[(0,.const (.int .u8 33)),(1,.const (.int .u8 49)),(2,.const (.int .u8 1)),(3,.const (.int .u8 17))]) h hs rfl (by kernel_rfl) rfl (by simp [go_sem,pgA,Act.eval]) hb0
 |2,h,_,hr=>exact mp_move (s:=0) h hs rfl (by omega) h0 rfl (by kernel_rfl)
 |3,h,_,hr=>exact mp_next (c:=4) (j:=2) (by omega) h hs hr rfl (by kernel_rfl) rfl (by kernel_rfl) hb0 (by omega) (by omega)
 |4,h,_,hr=>exact mp_ix (m:=4) (c:=pgA) (j1:=1) (j2:=3) h hs hr rfl (by kernel_rfl) rfl (by kernel_rfl) rfl (by kernel_rfl)
 |5,h,_,hr=>exact mp_load (m:=4) (c:=pgA) (j:=4) h hs hr rfl (by kernel_rfl) rfl (by kernel_rfl) pgA_el
 |6,h,_,hr=>exact mp_move (s:=0) h hs rfl (by omega) h0 rfl (by kernel_rfl)
 |7,h,_,hr=>exact mp_next (c:=256) (j:=6) (by omega) h hs hr rfl (by kernel_rfl) rfl (by kernel_rfl) hb0 (by omega) (by omega)
 |8,h,_,hr=>exact mp_conv (c:=256) (j:=7) (by omega) h hs hr rfl (by kernel_rfl) rfl (by kernel_rfl)
 |9,h,_,hr=>exact mp_slice (parts:=#[(0,.const (.int .u8 0)),(1,.const (.int .u8 0)),(2,.const (.int .u8 1)),(3,.const (.int .u8 255))]) h hs rfl (by kernel_rfl) rfl (by simp [go_sem,pgB,Act.eval]) hb0
 |10,h,_,hr=>exact mp_move (s:=0) h hs rfl (by omega) h0 rfl (by kernel_rfl)
 |11,h,_,hr=>exact mp_next (c:=4) (j:=10) (by omega) h hs hr rfl (by kernel_rfl) rfl (by kernel_rfl) hb0 (by omega) (by omega)
 |12,h,_,hr=>exact mp_ix (m:=4) (c:=pgB) (j1:=9) (j2:=11) h hs hr rfl (by kernel_rfl) rfl (by kernel_rfl) rfl (by kernel_rfl)
 |13,h,_,hr=>exact mp_load (m:=4) (c:=pgB) (j:=12) h hs hr rfl (by kernel_rfl) rfl (by kernel_rfl) pgB_el
 |14,h,_,hr=>exact mp_bytes3 (j1:=5) (j2:=8) (j3:=13) h hs hr rfl (by kernel_rfl) rfl (by kernel_rfl) rfl (by kernel_rfl) rfl (by kernel_rfl) hb0
 |i+15,_,hi,_=>exact absurd hi (by omega)
theorem st_appB {ops:Array Oper} {s x t:Nat} {K:Act→World→Prop} (ho:(ops[i]?).map (fun o=>(o.dst,o.op,o.guard))=some (some t,.call {callee:=.builtin .append,args:=#[.tmp s,.tmp x],argTypes:=#[39,39]},none)) (base:Nat) (v:Value) (d:List Int) (hv:a.tmps.getD s undef=v) (hown:OwnsB w base v d) (ax:Option Addr) (m c:Nat) (e:List Int) (hx:a.tmps.getD x undef=.slice ax m c) (hh:HeldB w ax m e) (hmc:m≤c) (hnn:ax=none→c=0) (hsz:d.length+m≤10000000000000) (hbase:base≤w.heap.size)
 (h:∀v' w',OwnsB w' base v' (d++e)→w.grownBy w' v.ownBlock→K (a.put (some t) v') w'):wpOp Tryz.prog ops Q i K a w:=by
 obtain ⟨ty,pos,aft,ho⟩:=op_of ho
 unfold wpOp
 simp only [ho,Region.wanted,if_true]
 exact .inl (wp_appB (.tmp s) (.tmp x) rfl base v d hv hown ax m c e hx hh hmc hnn hsz hbase (fun v' w' k1 k2 _=>h v' w' k1 k2))
theorem pg_region {base:Nat} {zs:List Int} (hb0:Nb w0.drew b aa len cap N) (hM:N≤80000000) (hz:a0.tmps.size=75) (h0:a0.tmps.getD 0 undef=.pointer (some ⟨b,0,none⟩)) (h5:a0.tmps.getD 5 undef=v5) (ho:OwnsB w0 base v5 zs) (hl:zs.length≤1000000) (hb:b < base) (hbase:base≤w0.heap.size)
 (hK:∀(a:Act) (w W:World) (M:Nat) (l:List Int) (v':Value),a.defers=a0.defers→a.tmps.size=a0.tmps.size→(∀j,j≠5→(j < 32∨48≤j)→a.tmps.getD j undef=a0.tmps.getD j undef)→a.tmps.getD 5 undef=v'→M≤N+30→l.length=3→(∀z∈l,S.byt z)→Up w0 b M W→OwnsB w base v' (zs++l)→W.grownBy w v5.ownBlock→Q .normal a w):
 (Code.region 8 pgOps true).wp Tryz.prog Q a0 w0:=by
 have hs:32+(pgJ v5).length≤a0.tmps.size:=by rw [hz];exact Nat.le_of_ble_eq_true rfl
 have sz:pgOps.size=17:=by kernel_rfl
 refine wp_region_any (by kernel_rfl) ?_
 refine wpAny_pre 15 (Mv (pgJ v5) 32 b N w0.drew a0) (by rw [sz];omega) (by kernel_rfl) (fun n L a w h j hj=>h.g j hj) ?_ (fun n L a' w' i hn hz' h hi hr=>pg_all hb0 hM (by rw [sz] at hn;exact hn) hz h0 h5 i h hi hr) ?_ _ 0 (Array.replicate pgOps.size false) _ _ (by rw [Nat.zero_add]) (by simp) (by simp [List.countP_replicate]) ?_ ?_
 ·intro i h1 h2
  rw [sz] at h2
  rcases (by omega:i=15∨i=16) with rfl|rfl
  ·kernel_rfl
  ·kernel_rfl
 ·intro a w h
  obtain ⟨M,hM1,hU⟩:=h.u
  have all:∀i,i < 15→(pre 15 pgOps.size).getD i false=true:=fun i hi=>pre_get hi (by rw [sz];omega)
  obtain ⟨bs,l,c,e14,hne,hll,hlb,hc,hh⟩:=h.m 14 (.bl 3) rfl (all 14 (by omega))
  have e0:a.tmps.getD 32 undef=v5:=h.m 0 (.own v5) rfl (all 0 (by omega))
  have hgr:w0.grownBy w (some b):=(gb_drew (World.grownBy.refl w0 _)).trans hU.grown
  have hO:OwnsB w base v5 zs:=ho.kept hgr (fun g e=>by injection e with e;omega)
  have hbw:bs < w.heap.size:=(Array.getElem?_eq_some_iff.1 hh).1
  rw [sz]
  refine wpAny_1 (i:=15) (by kernel_rfl) ?_
  refine st_appB (s:=32) (x:=46) (t:=47) (by kernel_rfl) base v5 zs e0 hO (some ⟨bs,0,none⟩) 3 3 l e14 ⟨hll,by omega,fun _=>⟨bs,0,rfl,hbw,fun j u hu=> ?_⟩⟩ (Nat.le_refl _) (fun e=>by cases e) (by omega) (Nat.le_trans hbase hgr.size) (fun v' w' hO' hG'=> ?_)
  ·rw [Nat.zero_add,cell_of_row w bs j _ _ _ hh]
   rw [←hc] at hu
   simpa using hu
  refine wpAny_1 (i:=16) (by kernel_rfl) ?_
  have hz2:a.tmps.size=75:=h.z.trans hz
  refine st_assign (s:=47) (t:=5) (v:=v') (by kernel_rfl) (put_same _ _ _ (by omega)) ?_
  refine ⟨by kernel_rfl,?_⟩
  refine hK _ _ w M l v' h.d (by rw [put_size,put_size];exact h.z) (fun j hj hj2=> ?_) (put_same _ _ _ (by rw [put_size];omega)) hM1 hll hlb hU hO' hG'
  rw [put_other hj,put_other (by omega)]
  exact h.o j (by simp [pgJ];omega)
 ·exact fun j hj=>(by rw [replicate_getD] at hj;cases hj)
 ·exact ⟨rfl,rfl,fun _ _=>rfl,⟨N,by omega,Up.reflJ hb0⟩,fun j _=>replicate_getD _ j,fun i k _ hl=>by rw [replicate_getD] at hl;cases hl⟩
end
theorem act_set (a:Act) {a0:Act} (js:List Nat) (hd:a.defers=a0.defers) (hz:a.tmps.size=a0.tmps.size) (ho:∀j,j∉js→a.tmps.getD j undef=a0.tmps.getD j undef):a=⟨js.foldl (fun t j=>t.setIfInBounds j (a.tmps.getD j undef)) a0.tmps,a0.defers⟩:=by
 have key:∀(js:List Nat) (t:Array Value),t.size=a.tmps.size→(∀j,j∉js→a.tmps.getD j undef=t.getD j undef)→js.foldl (fun t j=>t.setIfInBounds j (a.tmps.getD j undef)) t=a.tmps:=by
  intro js
  induction js with
  |nil=>
   intro t ht h
   apply Array.ext ht
   intro i h1 h2
   have:=h i (by simp)
   simp [Array.getD,h1,h2] at this
   exact this.symm
  |cons x js ih=>
   intro t ht h
   rw [List.foldl_cons]
   refine ih _ (by simpa using ht) (fun j hj=> ?_)
   by_cases e:j=x
   ·subst e
    by_cases hl:j < a.tmps.size
    ·simp [Array.getD,hl,ht]
    ·simp [Array.getD,hl,ht]
   ·rw [h j (by simp [e,hj])]
    simp [Array.getD_eq_getD_getElem?,Array.getElem?_setIfInBounds_ne (Ne.symm e)]
 obtain ⟨t,d⟩:=a
 simp only at hd
 subst hd
 rw [key js a0.tmps hz.symm ho]
theorem prog_mk (b len cap N:Nat) (a:Option Addr) (n:Nat) (hn:n≤100) (hN:N≤1000000) (w:World) (h:Nb w b a len cap N):
 Calls Tryz.prog 30 #[.pointer (some ⟨b,0,none⟩),.int .i64 (n:Int)] w (ProgPost b len cap N a n w):=by
 have hbw:=h.lt
 have H0:Hid _:=Lib.hid h
 clear h
 go_enter Tryz.func30,Tryz.ntmps30
 go_wp2_with (go_at_call 18;(with_reducible refine (nx_any b len cap N a _ (by omega) (by omega) (by omega) w H0.out).mono ?_);rintro e w1 ⟨y0,M1,hy00,hy01,hM1,rfl,hU1⟩)
 obtain ⟨k0,rfl⟩:∃k:Nat,y0=(k:Int):=⟨y0.toNat,by omega⟩
 have HI0:=Lib.hid (show PgI b len cap N a n w k0 M1 [] (.slice none 0 0) w1 from ⟨by simp;omega,by omega,byt_nil,OwnsG.nil _ _,hU1.grown,H0.out.up hU1⟩)
 clear hU1 H0
 go_loopw [5,6] (fun v5 v6 wr=>∃(k N':Nat) (zs:List Int),v6=.int .i64 (k:Int)∧Hid (PgI b len cap N a n w k N' zs v5 wr)) (fun _ v6 _=>(intOf v6).toNat)
 case atStart=>exact ⟨k0,M1,[],rfl,HI0⟩
 case round=>
  obtain ⟨k,N',zs,rfl,HI⟩:=hrel
  have H:=Lib.hid HI.out.2.2.2.2.2
  have HL:=Lib.hid (And.intro HI.out.1 HI.out.2.1)
  have hbr:=HI.out.2.2.2.2.2.lt
  have hNN:N'≤1005000:=by have:=HL.out.2;omega
  by_cases hlt:0 < k
  ·obtain ⟨j,rfl⟩:∃j,k=j+1:=⟨k - 1,by omega⟩
   have hkz:(0:Int) < (j:Int)+1:=by omega
   have hjb:j≤100:=by have:=HL.out.1;omega
   go_upto_if 30 with (go_at_call 18;(with_reducible refine (nx_any b len cap N' a 8 (by omega) (by omega) (by omega) _ nbx).mono ?_);rintro e w' ⟨y,M1,hy0,hy1,hM1,rfl,⟨⟨n1,os1⟩,rfl⟩⟩)
   rcases (by omega:y=0∨y=1∨y=2∨y=3∨4≤y) with rfl|rfl|rfl|rfl|h4
   ·have g0:((0:Int)==0)=true:=by decide
    simp only [g0]
    go_wp2_with fail
    refine region_as (ops':=pgOps) (by kernel_rfl) ?_
    refine pg_region (b:=b) (N:=M1) (len:=len) (cap:=cap) (aa:=a) (v5:=u5) (base:=w.heap.size) (zs:=zs) (Nb.drew nbx) (by omega) rfl rfl rfl (HI.out.own hbw gbx).1 (by have:=HL.out.1;omega) hbw (HI.out.own hbw gbx).2 (fun a' w' W M l v' hd hsz ho h5 hM hll hlb hU hO hG=> ?_)
    have key:=act_set a' [5,32,33,34,35,36,37,38,39,40,41,42,43,44,45,46,47] hd hsz (fun j hj=>ho j (fun e=>hj (by simp [e])) (by simp at hj;omega))
    simp only [List.foldl_cons,List.foldl_nil,List.setIfInBounds_toArray,List.set_cons_zero,List.set_cons_succ,h5] at key
    have HI4:=HI.out.step (M:=M) (l:=l) (by omega) (by omega) hlb hO (World.grownBy.trans gbx hU.grown) (Nb.up (N:=M1) nbx hU) hG hbw
    have HI4:=Lib.hid HI4
    clear hd hsz ho h5 hU hO hG
    generalize a'.tmps.getD 32 undef=x32 at key
    generalize a'.tmps.getD 33 undef=x33 at key
    generalize a'.tmps.getD 34 undef=x34 at key
    generalize a'.tmps.getD 35 undef=x35 at key
    generalize a'.tmps.getD 36 undef=x36 at key
    generalize a'.tmps.getD 37 undef=x37 at key
    generalize a'.tmps.getD 38 undef=x38 at key
    generalize a'.tmps.getD 39 undef=x39 at key
    generalize a'.tmps.getD 40 undef=x40 at key
    generalize a'.tmps.getD 41 undef=x41 at key
    generalize a'.tmps.getD 42 undef=x42 at key
    generalize a'.tmps.getD 43 undef=x43 at key
    generalize a'.tmps.getD 44 undef=x44 at key
    generalize a'.tmps.getD 45 undef=x45 at key
    generalize a'.tmps.getD 46 undef=x46 at key
    generalize a'.tmps.getD 47 undef=x47 at key
    subst key
    go_wp2_with fail
    go_roundw
    case rel=>exact ⟨j,M,_,by go_num,HI4⟩
    case measure=>simp [intOf]<;>omega
   ·have g0:((1:Int)==0)=false:=by decide
    simp only [g0]
    go_wp2_with (first
     |(go_at_call 21;(with_reducible refine (byt_any b len cap M1 a (by omega) _ nbx).mono ?_);rintro e w' ⟨y2,M2,hy20,hy21,hM2,rfl,⟨⟨n2,os2⟩,rfl⟩⟩)
     |(go_at_call 18;(with_reducible refine (nx_any b len cap M2 a 8 (by omega) (by omega) (by omega) _ nbx).mono ?_);rintro e w' ⟨y3,M3,hy30,hy31,hM3,rfl,⟨⟨n3,os3⟩,rfl⟩⟩;obtain ⟨hwr,hwr2⟩:=wrap8 (y:=y3) (by omega) (by omega))
     |(at_builtin;refine wpList_appB rfl _ _ rfl w.heap.size u5 zs rfl (HI.out.own hbw gbx).1 ⟨_,0,none⟩ 4 4 [62,y2,211,y3] rfl rfl (at_rowB (c:=#[.int .u8 62,.int .u8 y2,.int .u8 211,.int .u8 y3]) (by simp [go_sem]) rfl) (by have:=HL.out.1;omega) (HI.out.own hbw gbx).2 ?_;intro v5 w5 hO5 hG5))
    go_roundw
    case rel=>exact ⟨j,M3,_,by go_num,HI.out.step (by omega) (by simp) (byt_cons ⟨by omega,by omega⟩ (byt_cons ⟨hy20,hy21⟩ (byt_cons ⟨by omega,by omega⟩ (byt_1 ⟨by omega,by omega⟩)))) hO5 gbx nbx hG5 hbw⟩
    case measure=>simp [intOf]<;>omega
   ·have g0:((2:Int)==0)=false:=by decide
    simp only [g0]
    go_wp2_with (at_builtin;refine wpList_appB rfl _ _ rfl w.heap.size u5 zs rfl (HI.out.own hbw gbx).1 ⟨_,0,none⟩ 1 1 [251] rfl rfl (at_rowB (c:=#[.int .u8 251]) (by simp [go_sem]) rfl) (by have:=HL.out.1;omega) (HI.out.own hbw gbx).2 ?_;intro v5 w5 hO5 hG5)
    go_roundw
    case rel=>exact ⟨j,M1,_,by go_num,HI.out.step (by omega) (by simp) (byt_1 ⟨by omega,by omega⟩) hO5 gbx nbx hG5 hbw⟩
    case measure=>simp [intOf]<;>omega
   ·have g0:((3:Int)==0)=false:=by decide
    simp only [g0]
    go_wp2_with (first
     |(go_at_call 21;(with_reducible refine (byt_any b len cap M2 a (by omega) _ nbx).mono ?_);rintro e w' ⟨y3,M3,hy30,hy31,hM3,rfl,⟨⟨n3,os3⟩,rfl⟩⟩)
     |(go_at_call 18;(with_reducible refine (nx_any b len cap M1 a 16 (by omega) (by omega) (by omega) _ nbx).mono ?_);rintro e w' ⟨y2,M2,hy20,hy21,hM2,rfl,⟨⟨n2,os2⟩,rfl⟩⟩;obtain ⟨hwr,hwr2⟩:=wrap8 (y:=16+y2) (by omega) (by omega))
     |(at_builtin;refine wpList_appB rfl _ _ rfl w.heap.size u5 zs rfl (HI.out.own hbw gbx).1 ⟨_,0,none⟩ 12 12 [62,16+y2,211,0,62,y3,211,1,62,0,211,1] rfl rfl (at_rowB (c:=#[.int .u8 62,.int .u8 (16+y2),.int .u8 211,.int .u8 0,.int .u8 62,.int .u8 y3,.int .u8 211,.int .u8 1,.int .u8 62,.int .u8 0,.int .u8 211,.int .u8 1]) (by simp [go_sem]) rfl) (by have:=HL.out.1;omega) (HI.out.own hbw gbx).2 ?_;intro v5 w5 hO5 hG5))
    go_roundw
    case rel=>
     exact ⟨j,M3,_,by go_num,HI.out.step (by omega) (by simp) (byt_cons ⟨by omega,by omega⟩ (byt_cons ⟨by omega,by omega⟩ (byt_cons ⟨by omega,by omega⟩ (byt_cons ⟨by omega,by omega⟩ (byt_cons ⟨by omega,by omega⟩ (byt_cons ⟨hy30,hy31⟩ (byt_cons ⟨by omega,by omega⟩ (byt_cons ⟨by omega,by omega⟩ (byt_cons ⟨by omega,by omega⟩ (byt_cons ⟨by omega,by omega⟩ (byt_cons ⟨by omega,by omega⟩ (byt_1 ⟨by omega,by omega⟩)))))))))))) hO5 gbx nbx hG5 hbw⟩
    case measure=>simp [intOf]<;>omega
   ·have g0:(y==0)=false:=by simp;omega
    simp only [g0]
    have g1:(y==1)=false:=by simp;omega
    have g2:(y==2)=false:=by simp;omega
    have g3:(y==3)=false:=by simp;omega
    go_wp2_with (first
     |(go_at_call 31;(with_reducible refine (opc_any b len cap M1 a (by omega) nbx).mono ?_);rintro e w' ⟨y2,M2,hy20,hy21,hM2,rfl,⟨⟨n2,os2⟩,rfl⟩⟩)
     |(go_at_call 18;(with_reducible refine (nx_any b len cap M3 a 4 (by omega) (by omega) (by omega) _ nbx).mono ?_);rintro e w' ⟨y4,M4,hy40,hy41,hM4,rfl,⟨⟨n4,os4⟩,rfl⟩⟩;obtain ⟨k4,o4,rfl,ho40,ho41,hk4,hc4⟩:=lt4b y4 hy40 hy41)
     |(go_at_call 18;(with_reducible refine (nx_any b len cap M2 a 64 (by omega) (by omega) (by omega) _ nbx).mono ?_);rintro e w' ⟨y3,M3,hy30,hy31,hM3,rfl,⟨⟨n3,os3⟩,rfl⟩⟩;obtain ⟨hwr,hwr2⟩:=wrap8 (y:=y3) (by omega) (by omega))
     |(at_builtin;refine wpList_appB rfl _ _ rfl w.heap.size u5 zs rfl (HI.out.own hbw gbx).1 ⟨_,0,none⟩ 3 3 [y2,y3,o4] rfl rfl (at_rowB (c:=#[.int .u8 y2,.int .u8 y3,.int .u8 o4]) (by simp [go_sem]) rfl) (by have:=HL.out.1;omega) (HI.out.own hbw gbx).2 ?_;intro v5 w5 hO5 hG5))
    all_goals
     go_roundw
     case rel=>exact ⟨j,M4,_,by go_num,HI.out.step (by omega) (by simp) (byt_cons ⟨hy20,hy21⟩ (byt_cons ⟨by omega,by omega⟩ (byt_1 ⟨ho40,ho41⟩))) hO5 gbx nbx hG5 hbw⟩
     case measure=>simp [intOf]<;>omega
  ·obtain rfl:k=0:=by omega
   go_wp2_with fail
   go_ret
   exact ⟨_,zs,N',rfl,HI.out.2.2.2.1,by have:=HL.out.1;omega,HI.out.2.2.1,by have:=HL.out.2;omega,HI.out.2.2.2.2.2,HI.out.2.2.2.2.1⟩
end
namespace K12
abbrev Cl:=Int×Int
namespace Sm
def V (d:List Cl):Prop:=d.Pairwise (fun a b=>a.1 < b.1)∧∀c∈d,c.2≠0
def okAt (d:List Cl) (i:Nat):Bool:=((d.getD i (0,0)).2 !=0) && (i==0||decide ((d.getD (i - 1) (0,0)).1 < (d.getD i (0,0)).1))
def valid (d:List Cl):Bool:=(List.range d.length).all (okAt d)
def pickd (x:Int) (d:List Cl):List Cl:=d.filter fun c=>c.1==x
def get (d:List Cl) (x:Int):Int:=((pickd x d).getLast?.map (·.2)).getD 0
def putStep (c:Cl) (s:List Cl×Bool) (y:Cl):List Cl×Bool:=
 if y.1 !=c.1 then ((if !s.2 && decide (c.1≤y.1) then (if c.2 !=0 then s.1++[c] else s.1) else s.1)++[y],s.2||decide (c.1≤y.1))
 else ((if !s.2 && decide (c.1≤y.1) then (if c.2 !=0 then s.1++[c] else s.1) else s.1),s.2||decide (c.1≤y.1))
def putS (c:Cl) (m:List Cl):List Cl×Bool:=m.foldl (putStep c) ([],false)
def put (m:List Cl) (c:Cl):List Cl:=if !(putS c m).2 && c.2 !=0 then (putS c m).1++[c] else (putS c m).1
def nrm (l:List Cl):List Cl:=if valid l then l else l.foldl put []
theorem all_range (n:Nat) (p:Nat→Bool):(List.range n).all p=true↔∀i,i < n→p i=true:=by simp
theorem okAt_iff (d:List Cl) (i:Nat) (c:Cl) (h:d[i]? =some c):okAt d i=true↔c.2≠0∧(∀e j,j+1=i→d[j]? =some e→e.1 < c.1):=by
 have hi:i < d.length:=(List.getElem?_eq_some_iff.1 h).1
 unfold okAt
 rw [List.getD_eq_getElem?_getD,List.getD_eq_getElem?_getD,h]
 cases i with
 |zero=>simp
 |succ j=>
  have hj:d[j]? =some d[j]:=List.getElem?_eq_getElem (by omega)
  simp [hj]
theorem valid_iff (d:List Cl):valid d=true↔V d:=by
 unfold valid
 rw [all_range]
 constructor
 ·intro h
  have hk:∀(i:Nat) (c:Cl),d[i]? =some c→c.2≠0∧(∀e j,j+1=i→d[j]? =some e→e.1 < c.1):=fun i c hc=>(okAt_iff d i c hc).1 (h i (List.getElem?_eq_some_iff.1 hc).1)
  have hlt:∀(n i:Nat) (c e:Cl),d[i]? =some c→d[i+n+1]? =some e→c.1 < e.1:=by
   intro n
   induction n with
   |zero=>intro i c e hc he;exact (hk _ _ he).2 _ _ rfl hc
   |succ n ih=>
    intro i c e hc he
    have hm:i+n+1 < d.length:=by have:=(List.getElem?_eq_some_iff.1 he).1;omega
    have h1:=ih i c _ hc (List.getElem?_eq_getElem hm)
    have h2:=(hk _ _ he).2 _ _ rfl (List.getElem?_eq_getElem (by omega:i+(n+1) < d.length))
    have h3:d[i+n+1]=d[i+(n+1)]:=rfl
    rw [h3] at h1;omega
  refine ⟨List.pairwise_iff_getElem.2 fun i j hi hj hij=> ?_,fun c hc=> ?_⟩
  ·exact hlt (j - i - 1) i _ _ (List.getElem?_eq_getElem hi) (by rw [show i+(j - i - 1)+1=j by omega];exact List.getElem?_eq_getElem hj)
  ·obtain ⟨i,hi⟩:=List.getElem?_of_mem hc
   exact (hk _ _ hi).1
 ·rintro ⟨h1,h2⟩ i hi
  have hc:=List.getElem?_eq_getElem hi
  refine (okAt_iff d i _ hc).2 ⟨h2 _ (List.getElem_mem hi),fun e j hj he=> ?_⟩
  obtain ⟨hj',rfl⟩:=List.getElem?_eq_some_iff.1 he
  exact List.pairwise_iff_getElem.1 h1 j i hj' hi (by omega)
theorem valid_no (d:List Cl) (k:Nat) (hk:k < d.length) (h:okAt d k=false):valid d=false:=by
 cases hv:valid d with
 |false=>rfl
 |true=>rw [valid,all_range] at hv;rw [hv k hk] at h;cases h
theorem valid_yes (d:List Cl) (h:∀i,i < d.length→okAt d i=true):valid d=true:=by rw [valid,all_range];exact h
theorem pickd_app (x:Int) (a b:List Cl):pickd x (a++b)=pickd x a++pickd x b:=by simp [pickd]
theorem pickd_cons (x:Int) (c:Cl) (r:List Cl):pickd x (c::r)=if c.1=x then c::pickd x r else pickd x r:=by
 by_cases h:c.1=x<;>simp [pickd,h]
theorem pickd_none {x:Int} {d:List Cl} (h:∀c∈d,c.1≠x):pickd x d=[]:=List.filter_eq_nil_iff.2 fun c hc=>by simpa using h c hc
theorem pickd_nil (x:Int):pickd x []=[]:=rfl
theorem get_of_pickd {d d':List Cl} {x:Int} (h:pickd x d=pickd x d'):get d x=get d' x:=by simp [get,h]
theorem get_nil (x:Int):get [] x=0:=rfl
theorem get_hit (p q:List Cl) (x v:Int) (h:∀c∈q,c.1≠x):get (p++(x,v)::q) x=v:=by
 unfold get
 rw [pickd_app,pickd_cons,if_pos rfl,pickd_none h]
 simp
theorem get_miss (d:List Cl) (x:Int) (h:∀c∈d,c.1≠x):get d x=0:=by unfold get;rw [pickd_none h];rfl
theorem get_snoc (d:List Cl) (c:Cl) (x:Int):get (d++[c]) x=if c.1=x then c.2 else get d x:=by
 unfold get
 rw [pickd_app,pickd_cons,pickd_nil]
 by_cases h:c.1=x<;>simp [h]
theorem V.tail {d:List Cl} {c:Cl} (h:V (c::d)):V d:=⟨(List.pairwise_cons.1 h.1).2,fun e he=>h.2 e (by simp [he])⟩
theorem V_nil:V []:=⟨List.Pairwise.nil,by simp⟩
theorem V_app {a b:List Cl} (ha:V a) (hb:V b) (h:∀x∈a,∀y∈b,x.1 < y.1):V (a++b):=
 ⟨List.pairwise_append.2 ⟨ha.1,hb.1,h⟩,fun c hc=>(List.mem_append.1 hc).elim (ha.2 c) (hb.2 c)⟩
theorem V.left {a b:List Cl} (h:V (a++b)):V a:=⟨(List.pairwise_append.1 h.1).1,fun c hc=>h.2 c (by simp [hc])⟩
theorem V.right {a b:List Cl} (h:V (a++b)):V b:=⟨(List.pairwise_append.1 h.1).2.1,fun c hc=>h.2 c (by simp [hc])⟩
theorem V_one {c:Cl} (h:c.2≠0):V [c]:=⟨List.pairwise_singleton _ _,by simp [h]⟩
theorem get_app_right {a b:List Cl} {x:Int} (h:∀c∈a,c.1≠x):get (a++b) x=get b x:=get_of_pickd (by rw [pickd_app,pickd_none h];rfl)
theorem get_app_left {a b:List Cl} {x:Int} (h:∀c∈b,c.1≠x):get (a++b) x=get a x:=get_of_pickd (by rw [pickd_app,pickd_none h,List.append_nil])
def one (c:Cl):List Cl:=if c.2 !=0 then [c] else []
theorem putS_low (c:Cl):∀(l:List Cl) (s:List Cl),(∀y∈l,y.1 < c.1)→l.foldl (putStep c) (s,false)=(s++l,false)
 |[],s,_=>by simp
 |y::l,s,h=>by
  have hy:=h y (by simp)
  have e:putStep c (s,false) y=(s++[y],false):=by
   unfold putStep
   have h1:(y.1 !=c.1)=true:=by simp;omega
   have h2:decide (c.1≤y.1)=false:=decide_eq_false (by omega)
   simp [h1,h2]
  rw [List.foldl_cons,e,putS_low c l _ (fun z hz=>h z (by simp [hz]))]
  simp
theorem putS_done (c:Cl):∀(l:List Cl) (s:List Cl),l.foldl (putStep c) (s,true)=(s++l.filter (fun y=>y.1 !=c.1),true)
 |[],s=>by simp
 |y::l,s=>by
  rw [List.foldl_cons]
  by_cases h1:(y.1 !=c.1)=true
  ·have e:putStep c (s,true) y=(s++[y],true):=by unfold putStep;simp [h1]
   rw [e,putS_done c l,List.filter_cons,if_pos h1]
   simp
  ·have e:putStep c (s,true) y=(s,true):=by unfold putStep;simp [h1]
   rw [e,putS_done c l,List.filter_cons,if_neg h1]
theorem put_form (c:Cl) (l r:List Cl) (hl:∀y∈l,y.1 < c.1) (hr:∀y∈r,c.1≤y.1):put (l++r) c=l++one c++r.filter (fun y=>y.1 !=c.1):=by
 have e:putS c (l++r)=if r=[] then (l,false) else (l++one c++r.filter (fun y=>y.1 !=c.1),true):=by
  unfold putS
  rw [List.foldl_append,putS_low c l [] hl]
  cases r with
  |nil=>simp
  |cons y r=>
   have hy:=hr y (by simp)
   rw [List.foldl_cons,if_neg (by simp)]
   have h2:decide (c.1≤y.1)=true:=decide_eq_true hy
   by_cases h1:(y.1 !=c.1)=true
   ·have e:putStep c ([]++l,false) y=(l++one c++[y],true):=by
     unfold putStep one
     simp only [h1,h2]
     by_cases h3:(c.2 !=0)=true<;>simp [h3]
    rw [e,putS_done,List.filter_cons,if_pos h1]
    simp
   ·have e:putStep c ([]++l,false) y=(l++one c,true):=by
     unfold putStep one
     simp only [h1,h2]
     by_cases h3:(c.2 !=0)=true<;>simp [h3]
    rw [e,putS_done,List.filter_cons,if_neg h1]
 unfold put
 rw [e]
 cases r with
 |nil=>by_cases h3:(c.2 !=0)=true<;>simp [one,h3]
 |cons y r=>simp
theorem split_at (m:List Cl) (h:V m) (x:Int):∃l r,m=l++r∧(∀y∈l,y.1 < x)∧∀y∈r,x≤y.1:=by
 refine ⟨m.filter (fun y=>decide (y.1 < x)),m.filter (fun y=> !decide (y.1 < x)),?_,by simp,by simp⟩
 induction m with
 |nil=>rfl
 |cons c m ih=>
  have ih:=ih h.tail
  have hc:=(List.pairwise_cons.1 h.1).1
  by_cases hx:c.1 < x
  ·simp only [List.filter_cons,decide_eq_true hx,if_true,Bool.not_true,Bool.false_eq_true,if_false,List.cons_append]
   rw [←ih]
  ·have:m.filter (fun y=>decide (y.1 < x))=[]:=by simp;intro a b hab;have:=hc _ hab;simp at this;omega
   have h2:m.filter (fun y=> !decide (y.1 < x))=m:=by simp [List.filter_eq_self];intro a b hab;have:=hc _ hab;simp at this;omega
   simp [hx,this]
   exact h2.symm
theorem filter_ne_V {r:List Cl} (hr:V r) (x:Int):V (r.filter (fun y=>y.1 !=x)):=⟨hr.1.filter _,fun c hc=>hr.2 c (List.mem_filter.1 hc).1⟩
theorem V_put {m:List Cl} (h:V m) (c:Cl):V (put m c):=by
 obtain ⟨l,r,rfl,hl,hr⟩:=split_at m h c.1
 rw [put_form c l r hl hr,List.append_assoc]
 have hr2:∀y∈r.filter (fun y=>y.1 !=c.1),c.1 < y.1:=fun y hy=>by
  obtain ⟨h1,h2⟩:=List.mem_filter.1 hy
  have:=hr y h1
  simp at h2;omega
 have hV:=filter_ne_V h.right c.1
 by_cases h3:c.2=0
 ·simp only [one,h3,bne_self_eq_false,Bool.false_eq_true,if_false,List.nil_append]
  exact V_app h.left hV fun x hx y hy=>by have:=hl x hx;have:=hr2 y hy;omega
 ·have:one c=[c]:=by simp [one,h3]
  rw [this]
  refine V_app h.left (V_app (V_one h3) hV (by simpa using hr2)) fun x hx y hy=> ?_
  have:=hl x hx
  rcases List.mem_append.1 hy with hy|hy
  ·simp at hy;subst hy;exact this
  ·have:=hr2 y hy;omega
theorem get_put {m:List Cl} (h:V m) (c:Cl) (x:Int):get (put m c) x=if c.1=x then c.2 else get m x:=by
 obtain ⟨l,r,rfl,hl,hr⟩:=split_at m h c.1
 rw [put_form c l r hl hr]
 have hr2:∀y∈r.filter (fun y=>y.1 !=c.1),c.1 < y.1:=fun y hy=>by
  obtain ⟨h1,h2⟩:=List.mem_filter.1 hy
  have:=hr y h1
  simp at h2;omega
 by_cases hx:c.1=x
 ·rw [if_pos hx,get_app_left (fun y hy=>by have:=hr2 y hy;omega),get_app_right (fun y hy=>by have:=hl y hy;omega)]
  by_cases h3:c.2=0
  ·simp [one,h3,get_nil]
  ·have:one c=[]++[c]:=by simp [one,h3]
   rw [this,get_snoc,if_pos hx]
 ·rw [if_neg hx]
  have h1:get (l++one c++r.filter (fun y=>y.1 !=c.1)) x=get (l++r.filter (fun y=>y.1 !=c.1)) x:=by
   refine get_of_pickd ?_
   rw [pickd_app,pickd_app,pickd_app,pickd_none (d:=one c) (by intro e he;unfold one at he;split at he;(simp at he;subst he;exact hx);cases he)]
   simp
  rw [h1]
  refine get_of_pickd ?_
  rw [pickd_app,pickd_app]
  congr 1
  simp only [pickd,List.filter_filter]
  congr 1;funext e
  by_cases he:e.1=x
  ·simp [he];omega
  ·simp [he]
theorem V_fold:∀(l m:List Cl),V m→V (l.foldl put m)
 |[],_,h=>h
 |c::l,m,h=>V_fold l _ (V_put h c)
theorem get_fold:∀(l m:List Cl) (x:Int),V m→get (l.foldl put m) x=get (m++l) x
 |[],m,x,_=>by simp
 |c::l,m,x,h=>by
  rw [List.foldl_cons,get_fold l _ x (V_put h c)]
  have e:m++c::l=(m++[c])++l:=by simp
  rw [e]
  by_cases hl:pickd x l=[]
  ·have h1:∀y:List Cl,get (y++l) x=get y x:=fun y=>get_of_pickd (by rw [pickd_app,hl,List.append_nil])
   rw [h1,h1,get_put h,get_snoc]
  ·unfold get
   rw [pickd_app,pickd_app,List.getLast?_append,List.getLast?_append]
   obtain ⟨z,hz⟩:∃z,(pickd x l).getLast? =some z:=by
    cases hq:(pickd x l).getLast? with
    |none=>exact absurd (List.getLast?_eq_none_iff.1 hq) hl
    |some z=>exact ⟨z,rfl⟩
   rw [hz];simp
theorem V_nrm (l:List Cl):V (nrm l):=by
 unfold nrm
 by_cases h:valid l=true
 ·rw [if_pos h];exact (valid_iff l).1 h
 ·rw [if_neg h];exact V_fold l [] V_nil
theorem get_nrm (l:List Cl) (x:Int):get (nrm l) x=get l x:=by
 unfold nrm
 by_cases h:valid l=true
 ·rw [if_pos h]
 ·rw [if_neg h,get_fold l [] x V_nil];rfl
theorem nrm_valid {l:List Cl} (h:valid l=true):nrm l=l:=by unfold nrm;rw [if_pos h]
def Srt (d:List Cl):Prop:=d.Pairwise fun a b=>a.1≤b.1
def Stb (d s:List Cl):Prop:=∀x,pickd x s=pickd x d
theorem Stb.refl (d:List Cl):Stb d d:=fun _=>rfl
theorem Stb.symm {a b:List Cl} (h:Stb a b):Stb b a:=fun x=>(h x).symm
theorem Stb.trans {a b c:List Cl} (h:Stb a b) (k:Stb b c):Stb a c:=fun x=>(k x).trans (h x)
theorem Stb.app {a b c d:List Cl} (h:Stb a b) (k:Stb c d):Stb (a++c) (b++d):=fun x=>by rw [pickd_app,pickd_app,h x,k x]
theorem mem_pickd {x:Int} {c:Cl} {d:List Cl}:c∈pickd x d↔c∈d∧c.1=x:=by simp [pickd]
theorem Stb.mem {a b:List Cl} (h:Stb a b) (c:Cl):c∈b↔c∈a:=by
 have h1:= @mem_pickd c.1 c a
 have h2:= @mem_pickd c.1 c b
 rw [h c.1] at h2
 simp only [and_true] at h1 h2
 rw [←h1,←h2]
theorem Stb.comm {a b:List Cl} (h:∀x∈a,∀y∈b,x.1≠y.1):Stb (a++b) (b++a):=fun z=>by
 rw [pickd_app,pickd_app]
 by_cases ha:pickd z a=[]
 ·simp [ha]
 ·have hb:pickd z b=[]:=by
   refine pickd_none fun c hc e=> ?_
   obtain ⟨u,hu⟩:=List.exists_mem_of_ne_nil _ ha
   obtain ⟨hu1,hu2⟩:=mem_pickd.1 hu
   exact h u hu1 c hc (by omega)
  simp [hb]
theorem srt_uniq:∀(a b:List Cl),Srt a→Srt b→Stb a b→a=b
 |[],[],_,_,_=>rfl
 |[],e::b,_,_,h=>by have:=(h.mem e).1 (by simp);cases this
 |c::a,[],_,_,h=>by have:=(h.mem c).2 (by simp);cases this
 |c::a,e::b,ha,hb,h=>by
  have ha1:=(List.pairwise_cons.1 ha).1
  have hb1:=(List.pairwise_cons.1 hb).1
  have hk:c.1=e.1:=by
   have h1:=(h.mem e).1 (by simp)
   have h2:=(h.mem c).2 (by simp)
   have k1:c.1≤e.1:=by rcases List.mem_cons.1 h1 with rfl|h1;exact Int.le_refl _;exact ha1 e h1
   have k2:e.1≤c.1:=by rcases List.mem_cons.1 h2 with rfl|h2;exact Int.le_refl _;exact hb1 c h2
   omega
  have hx:=h c.1
  rw [pickd_cons,pickd_cons,if_pos hk.symm,if_pos rfl] at hx
  obtain ⟨rfl,ht⟩:=List.cons.inj hx
  congr 1
  refine srt_uniq a b (List.pairwise_cons.1 ha).2 (List.pairwise_cons.1 hb).2 fun x=> ?_
  have:=h x
  rw [pickd_cons,pickd_cons] at this
  by_cases hq:e.1=x
  ·rw [if_pos hq,if_pos hq] at this;exact (List.cons.inj this).2
  ·rwa [if_neg hq,if_neg hq] at this
def insr (s:List Cl) (c:Cl):List Cl:=s.filter (fun y=>decide (y.1≤c.1))++c::s.filter (fun y=> !decide (y.1≤c.1))
def st (d:List Cl):List Cl:=d.foldl insr []
theorem split_le:∀(s:List Cl),Srt s→∀x:Int,s=s.filter (fun y=>decide (y.1≤x))++s.filter (fun y=> !decide (y.1≤x))
 |[],_,_=>rfl
 |c::m,h,x=>by
  have ih:=split_le m (List.pairwise_cons.1 h).2 x
  have hc:=(List.pairwise_cons.1 h).1
  by_cases hx:c.1≤x
  ·simp only [List.filter_cons,decide_eq_true hx,if_true,Bool.not_true,Bool.false_eq_true,if_false,List.cons_append]
   rw [←ih]
  ·have:m.filter (fun y=>decide (y.1≤x))=[]:=by simp;intro a b hab;have:=hc _ hab;simp at this;omega
   have h2:m.filter (fun y=> !decide (y.1≤x))=m:=by simp [List.filter_eq_self];intro a b hab;have:=hc _ hab;simp at this;omega
   simp [hx,this]
   exact h2.symm
theorem srt_insr {s:List Cl} (h:Srt s) (c:Cl):Srt (insr s c):=by
 unfold insr Srt
 refine List.pairwise_append.2 ⟨List.Pairwise.filter _ h,List.pairwise_cons.2 ⟨fun y hy=> ?_,List.Pairwise.filter _ h⟩,fun x hx y hy=> ?_⟩
 ·have:=(List.mem_filter.1 hy).2;simp at this;omega
 ·have h1:=(List.mem_filter.1 hx).2;simp at h1
  rcases List.mem_cons.1 hy with rfl|hy
  ·exact h1
  ·have:=(List.mem_filter.1 hy).2;simp at this;omega
theorem stb_insr {s:List Cl} (h:Srt s) (c:Cl):Stb (s++[c]) (insr s c):=by
 have e:=split_le s h c.1
 unfold insr
 conv=>lhs;rw [e]
 rw [List.append_assoc]
 refine (Stb.refl _).app ?_
 exact Stb.comm (a:=s.filter (fun y=> !decide (y.1≤c.1))) (b:=[c]) fun x hx y hy=>by
  have:=(List.mem_filter.1 hx).2;simp at this hy;subst hy;omega
theorem len_insr (s:List Cl) (c:Cl):(insr s c).length=s.length+1:=by
 unfold insr
 have h:(s.filter (fun y=>decide (y.1≤c.1))).length+(s.filter (fun y=> !decide (y.1≤c.1))).length=s.length:=by
  induction s with
  |nil=>rfl
  |cons a s ih=>
   rw [List.filter_cons,List.filter_cons]
   by_cases h:a.1≤c.1
   ·rw [if_pos (decide_eq_true h),if_neg (by simp [h]),List.length_cons,List.length_cons];omega
   ·rw [if_neg (by simp [h]),if_pos (by simp [h]),List.length_cons,List.length_cons];omega
 rw [List.length_append,List.length_cons];omega
theorem fold_insr:∀(d s:List Cl),Srt s→Srt (d.foldl insr s)∧Stb (s++d) (d.foldl insr s)∧(d.foldl insr s).length=s.length+d.length
 |[],s,h=>⟨h,by simpa using Stb.refl s,rfl⟩
 |c::d,s,h=>by
  obtain ⟨h1,h2,h3⟩:=fold_insr d (insr s c) (srt_insr h c)
  refine ⟨h1,?_,by rw [List.foldl_cons,h3,len_insr,List.length_cons];omega⟩
  have e:s++c::d=(s++[c])++d:=by simp
  rw [e,List.foldl_cons]
  exact ((stb_insr h c).app (Stb.refl d)).trans h2
theorem srt_st (d:List Cl):Srt (st d):=(fold_insr d [] List.Pairwise.nil).1
theorem stb_st (d:List Cl):Stb d (st d):=(fold_insr d [] List.Pairwise.nil).2.1
theorem st_of {d s:List Cl} (h:Srt s) (k:Stb d s):s=st d:=srt_uniq _ _ h (srt_st d) (k.symm.trans (stb_st d))
def pk:List Cl→List Cl
 |[]=>[]
 |[c]=>if c.2 !=0 then [c] else []
 |c::e::r=>if (e.1 !=c.1) && (c.2 !=0) then c::pk (e::r) else pk (e::r)
theorem get_at {d:List Cl} {j:Nat} {x v:Int} (h:d[j]? =some (x,v)) (hn:∀c∈d.drop (j+1),c.1≠x):get d x=v:=by
 obtain ⟨hj,he⟩:=List.getElem?_eq_some_iff.1 h
 have e:d=d.take j++(x,v)::d.drop (j+1):=by
  conv=>lhs;rw [←List.take_append_drop j d]
  rw [List.drop_eq_getElem_cons hj,he]
 rw [e]
 exact get_hit _ _ x v hn
theorem no_drop {d:List Cl} {j:Nat} {x v z:Int} (h:d[j]? =some (x,v)) (hx:x≠z) (hn:∀c∈d.drop (j+1),c.1≠z):∀c∈d.drop j,c.1≠z:=by
 obtain ⟨hj,he⟩:=List.getElem?_eq_some_iff.1 h
 rw [List.drop_eq_getElem_cons hj,he]
 intro c hc
 rcases List.mem_cons.1 hc with rfl|hc
 ·exact hx
 ·exact hn c hc
theorem putS_succ {c:Cl} {m:List Cl} {k:Nat} {y:Cl} {s:List Cl×Bool} (h:m[k]? =some y) (hs:putS c (m.take k)=s):putS c (m.take (k+1))=putStep c s y:=by
 have e:m.take (k+1)=m.take k++[y]:=by rw [List.take_add_one,h];rfl
 unfold putS at hs⊢
 rw [e,List.foldl_append,hs];rfl
theorem putStep_len (c:Cl) (s:List Cl×Bool) (y:Cl):(putStep c s y).1.length+(if s.2 then 1 else 0)≤s.1.length+1+(if (putStep c s y).2 then 1 else 0):=by
 unfold putStep
 cases s.2<;>by_cases h1:(y.1 !=c.1)=true<;>by_cases h2:c.1≤y.1<;>by_cases h3:(c.2 !=0)=true<;>simp [h1,h2,h3]<;>omega
theorem fold_len (c:Cl):∀(m:List Cl) (s:List Cl×Bool),(m.foldl (putStep c) s).1.length+(if s.2 then 1 else 0)≤s.1.length+m.length+(if (m.foldl (putStep c) s).2 then 1 else 0)
 |[],s=>by cases h:s.2<;>simp [h]
 |y::m,s=>by
  have h1:=putStep_len c s y
  have h2:=fold_len c m (putStep c s y)
  rw [List.foldl_cons,List.length_cons];omega
theorem putS_len (c:Cl) (m:List Cl):(putS c m).1.length≤m.length+1:=by
 have:=fold_len c m ([],false)
 unfold putS;simp at this
 split at this<;>omega
theorem put_len (m:List Cl) (c:Cl):(put m c).length≤m.length+1:=by
 have h:=fold_len c m ([],false)
 unfold put
 have e:putS c m=m.foldl (putStep c) ([],false):=rfl
 rw [←e] at h
 cases hq:(putS c m).2
 ·simp only [hq,List.length_nil,Bool.false_eq_true,if_false] at h
  by_cases h3:(c.2 !=0)=true
  ·rw [if_pos (by simp [h3]),List.length_append,List.length_singleton];omega
  ·rw [if_neg (by simp [h3])];omega
 ·simp only [hq,List.length_nil,Bool.false_eq_true,if_false,if_true] at h
  rw [if_neg (by simp)];omega
theorem fold_put_len:∀(l m:List Cl),(l.foldl put m).length≤m.length+l.length
 |[],m=>by simp
 |c::l,m=>by have:=fold_put_len l (put m c);have:=put_len m c;rw [List.foldl_cons,List.length_cons];omega
theorem nrm_len (l:List Cl):(nrm l).length≤l.length:=by
 unfold nrm
 split
 ·omega
 ·have:=fold_put_len l [];simpa using this
theorem fold_put_succ {l:List Cl} {k:Nat} {y:Cl} (h:l[k]? =some y):(l.take (k+1)).foldl put []=put ((l.take k).foldl put []) y:=by
 have e:l.take (k+1)=l.take k++[y]:=by rw [List.take_add_one,h];rfl
 rw [e,List.foldl_append];rfl
def same (d e:List Cl):Bool:=decide (d=e)
def cmp (x y:Int):Int:=if x < y then -1 else if y < x then 1 else 0
def lod (x:Int) (b:List Int):List Cl:=(List.range b.length).map fun i:Nat=>((x+(i:Int)) % 65536,b.getD i 0)
end Sm
end K12
namespace K12
variable {a:Option Addr} {b base cap i n o:Nat} {v:Value} {w w':World}
theorem rt {a b:Bool} (h:a=b):Ending.returned (.bool a)=.returned (.bool b):=by rw [h]
theorem rn {k:IntKind} {a b:Int} (h:a=b):Ending.returned (.int k a)=.returned (.int k b):=by rw [h]
def At (w:World) (b o:Nat) (d:List Cl):Prop:=∀j x v,d[j]? =some (x,v)→w.cell? ⟨b,o+j * 2,none⟩=some (.int .u16 x)∧w.cell? ⟨b,o+j * 2+1,none⟩=some (.int .u8 v)
def Held (w:World) (a:Option Addr) (n:Nat) (d:List Cl):Prop:=d.length=n∧n≤4611686018427387904∧(0 < n→∃b o,a=some ⟨b,o,none⟩∧b < w.heap.size∧At w b o d)
theorem Adds.size (h:Adds w w'):w.heap.size≤w'.heap.size:=h.below.size
theorem Adds.cell (h:Adds w w') (hb:b < w.heap.size):w'.cell? ⟨b,i,none⟩=w.cell? ⟨b,i,none⟩:=h.below.cell (p:=⟨b,i,none⟩) hb
theorem Adds.frozen (h:Adds w w') (hb:b < w.heap.size):w'.frozen? ⟨b,i,none⟩=w.frozen? ⟨b,i,none⟩:=h.below.frozen (p:=⟨b,i,none⟩) hb
theorem At.keep {d:List Cl} (h:At w b o d) (k:∀i,w'.cell? ⟨b,i,none⟩=w.cell? ⟨b,i,none⟩):At w' b o d:=fun j x v hd=>by rw [k,k];exact h j x v hd
theorem Held.adds {d:List Cl} (h:Held w a n d) (k:Adds w w'):Held w' a n d:=
 ⟨h.1,h.2.1,fun hn=>by
   obtain ⟨b,o,ha,hb,hat⟩:=h.2.2 hn
   exact ⟨b,o,ha,by have:=k.size;omega,hat.keep fun i=>k.cell hb⟩⟩
theorem Held.nil (w:World) (a:Option Addr):Held w a 0 []:=⟨rfl,by omega,fun h=>absurd h (by omega)⟩
theorem get_pair {d:List Cl} {k:Nat} (h:k < d.length):∃x v,d[k]? =some (x,v):=⟨d[k].1,d[k].2,List.getElem?_eq_getElem h⟩
def Sm.cv (d:List Cl):List Value:=d.flatMap fun c=>[.int .u16 c.1,.int .u8 c.2]
theorem Sm.cv_app (a b:List Cl):Sm.cv (a++b)=Sm.cv a++Sm.cv b:=by simp [Sm.cv]
theorem Sm.cv_cons (c:Cl) (d:List Cl):Sm.cv (c::d)=.int .u16 c.1:: .int .u8 c.2::Sm.cv d:=rfl
theorem Sm.cv_len:∀(d:List Cl),(Sm.cv d).length=d.length * 2
 |[]=>rfl
 |c::d=>by rw [Sm.cv_cons,List.length_cons,List.length_cons,Sm.cv_len d,List.length_cons];omega
theorem Sm.cv_get:∀(d:List Cl) (j:Nat) (x v:Int),d[j]? =some (x,v)→(Sm.cv d)[j * 2]? =some (.int .u16 x)∧(Sm.cv d)[j * 2+1]? =some (.int .u8 v)
 |[],j,x,v,h=>by simp at h
 |c::d,0,x,v,h=>by simp at h;subst h;exact ⟨rfl,rfl⟩
 |c::d,j+1,x,v,h=>by
  have:=Sm.cv_get d j x v (by simpa using h)
  rw [Sm.cv_cons,show (j+1) * 2=j * 2+1+1 by omega]
  simpa using this
theorem Sm.cv_one (d:List Cl):∀u∈Sm.cv d,u.oneCell'=true:=by
 intro u hu
 simp only [Sm.cv,List.mem_flatMap] at hu
 obtain ⟨c,_,hc⟩:=hu
 rcases List.mem_cons.1 hc with rfl|hc
 ·rfl
 ·rcases List.mem_cons.1 hc with rfl|hc
  ·rfl
  ·cases hc
def Owns (w:World) (base:Nat) (v:Value) (d:List Cl):Prop:=w.ownsRow base 100 2 v d.length (Sm.cv d)
theorem Owns.adds {d:List Cl} (h:Owns w base v d) (k:Adds w w'):Owns w' base v d:=by
 have hb:=k.below
 refine World.ownsRow.kept (row:=none) h ⟨hb.os,hb.tape,hb.output,hb.size,fun i hi _=>hb.block i hi⟩ ?_
 cases hq:v.ownBlock with
 |none=>exact .inl rfl
 |some b=>exact .inr (by simp)
theorem Owns.mono {base':Nat} {d:List Cl} (h:Owns w base v d) (k:base'≤base):Owns w base' v d:=by
 refine ⟨h.1,?_⟩
 rcases h.2 with hn|⟨g,cap,cur,h1,h2,h3⟩
 ·exact .inl hn
 ·exact .inr ⟨g,cap,cur,h1,by omega,h3⟩
theorem Owns.at_ {g:Nat} {d:List Cl} (h:Owns w base (.slice (some ⟨g,0,none⟩) n cap) d):At w g 0 d:=by
 have hn:n=d.length:=by
  rcases h.2 with ⟨h',_⟩|⟨g',cap',cur,h',_⟩
  ·simp at h'
  ·simp only [Value.slice.injEq] at h';exact h'.2.1
 subst hn
 intro j x v hd
 have hj:j < d.length:=(List.getElem?_eq_some_iff.1 hd).1
 obtain ⟨h1,h2⟩:=Sm.cv_get d j x v hd
 rw [Nat.zero_add]
 have a1:=World.ownsRow.cellAt h (j * 2) (by omega)
 have a2:=World.ownsRow.cellAt h (j * 2+1) (by omega)
 exact ⟨a1.trans h1,a2.trans h2⟩
theorem Owns.form {d:List Cl} (h:Owns w base v d):
 ∃a cap,v=.slice a d.length cap∧d.length≤cap∧cap≤9223372036854775807∧(0 < cap→∃g,a=some ⟨g,0,none⟩∧base≤g∧g < w.heap.size):=by
 rcases h.2 with ⟨h',h0⟩|⟨g,cap,cur,h',hb,hh,h1,h2,h3⟩
 ·exact ⟨none,0,by rw [h',h0],by omega,by omega,fun h=>absurd h (by omega)⟩
 ·refine ⟨_,cap,h',h1,?_,fun _=>⟨g,rfl,hb,(Array.getElem?_eq_some_iff.1 hh).1⟩⟩
  simpa [maxLen] using h2
theorem Owns.held {d:List Cl} (h:Owns w base (.slice a n cap) d) (hd:d.length≤4611686018427387904):Held w a n d:=by
 obtain ⟨a',cap',h1,h2,h3,h4⟩:=h.form
 simp only [Value.slice.injEq] at h1
 obtain ⟨rfl,rfl,rfl⟩:=h1
 refine ⟨rfl,by omega,fun hn=> ?_⟩
 obtain ⟨g,rfl,_,hg⟩:=h4 (by omega)
 exact ⟨g,0,rfl,hg,h.at_⟩
theorem add_plain (b o j:Nat):(⟨b,o,none⟩:Addr).add j=⟨b,o+j,none⟩:=by unfold Addr.add;split<;>simp_all
theorem At.news {d:List Cl} (h:At w b o d):∀j u,(Sm.cv d)[j]? =some u→w.cell? ((⟨b,o,none⟩:Addr).add j)=some u:=by
 intro j u hu
 rw [add_plain]
 have hj:j < d.length * 2:=by have:=(List.getElem?_eq_some_iff.1 hu).1;rwa [Sm.cv_len] at this
 obtain ⟨x,v,hx⟩:=get_pair (d:=d) (k:=j / 2) (by omega)
 obtain ⟨h1,h2⟩:=h _ x v hx
 obtain ⟨k1,k2⟩:=Sm.cv_get d _ x v hx
 rcases Nat.mod_two_eq_zero_or_one j with h0|h0
 ·have e:j=j / 2 * 2:=by omega
  rw [←e] at h1 k1;rw [h1,←k1,hu]
 ·have e:j=j / 2 * 2+1:=by omega
  rw [Nat.add_assoc,←e] at h2;rw [←e] at k2;rw [h2,←k2,hu]
theorem cellInfo:(Tryz.prog.info? 100).map (fun i=>(i.zero,i.size,i.bytes))=some (some (.agg #[.int .u16 0,.int .u8 0]),2,4):=by kernel_rfl
theorem At.new (w:World) (t:TypeId) (x v:Int):At (w.alloc (.cells #[.int .u16 x,.int .u8 v] t)) w.heap.size 0 [(x,v)]:=by
 intro j y u h
 match j,h with
 |0,h=>simp at h;obtain ⟨rfl,rfl⟩:=h;constructor<;>simp [go_sem]
 |j+1,h=>simp at h
theorem wpList_appA {ops:Array Oper} {rest:List Oper} {o:Oper} {a:Act} {Q:Exit→Act→World→Prop} (hgd:o.guard=none) (s x:Operand)
 (ho:o.op=.call {callee:=.builtin .append,args:=#[s,x],argTypes:=#[26,26]})
 (base:Nat) (v:Value) (d:List Cl) (hs:a.eval s=v) (hown:Owns w base v d) (ad:Addr) (m c:Nat) (e:List Cl) (hx:a.eval x=.slice (some ad) m c) (hm:e.length=m) (hat:∀j u,(Sm.cv e)[j]? =some u→w.cell? (ad.add j)=some u)
 (hsz:d.length+m≤33554432) (hbase:base≤w.heap.size)
 (h:∀v' w',Owns w' base v' (d++e)→w.grownBy w' v.ownBlock→(v'=.slice none 0 0↔v=.slice none 0 0∧m=0)→wpList Tryz.prog ops Q rest (a.put o.dst v') w'):wpList Tryz.prog ops Q (o::rest) a w:=by
 obtain ⟨i0,hi,hz0,hz1,hz2⟩:=info_parts cellInfo
 refine wpList_append_own w hgd s x 26 ho base 100 i0 (.agg #[.int .u16 0,.int .u8 0]) 2 4 Tryz.underlying26 hi hz0 hz1 hz2 rfl (by decide) v d.length (Sm.cv d) hs hown ad m c (Sm.cv e) hx (by rw [Sm.cv_len,hm]) hat (Sm.cv_one e) (by unfold maxLen;omega) (by omega) hbase ?_
 intro v' w' h1 h2 h3
 refine h v' w' ?_ h2 h3
 unfold Owns
 rw [List.length_append,hm,Sm.cv_app]
 exact h1
theorem wpList_app1 {ops:Array Oper} {rest:List Oper} {o:Oper} {a:Act} {Q:Exit→Act→World→Prop} (hgd:o.guard=none) (s x:Operand)
 (ho:o.op=.call {callee:=.builtin .append,args:=#[s,x],argTypes:=#[26,26]})
 (base:Nat) (v:Value) (d:List Cl) (y u:Int) (t:TypeId) (b:Nat) (hs:a.eval s=v) (hx:a.eval x=.slice (some ⟨b,0,none⟩) 1 1) (hb:b=w.heap.size) (hown:Owns w base v d)
 (hsz:d.length+1≤33554432) (hbase:base≤w.heap.size)
 (h:∀v' w',Owns w' base v' (d++[(y,u)])→w.grownBy w' v.ownBlock→v'≠ .slice none 0 0→wpList Tryz.prog ops Q rest (a.put o.dst v') w'):wpList Tryz.prog ops Q (o::rest) a (w.alloc (.cells #[.int .u16 y,.int .u8 u] t)):=by
 subst hb
 refine wpList_appA hgd s x ho base v d hs (World.ownsRow.alloc hown _) ⟨w.heap.size,0,none⟩ 1 1 [(y,u)] hx rfl (At.new w t y u).news hsz (by have:=Below.heap_alloc;show base≤(w.heap.push _).size;simp;omega) ?_
 intro v' w' h1 h2 h3
 refine h v' w' h1 ?_ (fun e=>by have:=(h3.1 e).2;omega)
 exact World.grownBy.trans (World.grownBy_alloc w _ _) h2
theorem Owns.alloc {d:List Cl} (h:Owns w base v d) (o:Obj):Owns (w.alloc o) base v d:=World.ownsRow.alloc h o
theorem Owns.ne {d:List Cl} (h:Owns w base v d) (hb:w.heap.size≤b):some b≠v.ownBlock:=fun e=>by
 have:=(World.ownsRow.lt h b e.symm).2;omega
theorem Held.news {ad:Addr} {d:List Cl} (h:Held w (some ad) n d):∀j u,(Sm.cv d)[j]? =some u→w.cell? (ad.add j)=some u:=by
 intro j u hu
 by_cases hn:0 < n
 ·obtain ⟨b,o,e,_,hat⟩:=h.2.2 hn
  cases e
  exact hat.news j u hu
 ·have:d=[]:=List.eq_nil_of_length_eq_zero (by have:=h.1;omega)
  subst this
  simp [Sm.cv] at hu
theorem _root_.Go.Proofs.YteggjjhjmhccjaaGreat.Adds.grown {w0:World} {d:List Cl} (h:Adds w0 w) (hg:w.grownBy w' v.ownBlock) (ho:Owns w w0.heap.size v d):Adds w0 w':=
 Adds.of_below (h.below.grown hg h.size fun k hk=>(World.ownsRow.lt ho k hk).1)
theorem Owns.nil (w:World) (base:Nat):Owns w base (.slice none 0 0) []:=World.ownsRow_nil w base _ 2
@[go_sem] theorem eq_Cell (x v y u:Int) (w:World):(Op.equalIn 10000 100 (.agg #[.int .u16 x,.int .u8 v]) (.agg #[.int .u16 y,.int .u8 u])).run Tryz.prog w=.ok (same [.int .u16 x,.int .u8 v] [.int .u16 y,.int .u8 u]) w:=
 eq_agg 2 [.int .u16,.int .u8] Tryz.underlying100 (by kernel_rfl) (by decide) w (by simp [shaped]) (by simp [shaped])
end K12
namespace K12
theorem rget_any (a:Option Addr) (len cap:Nat) (d:List Cl) (z:Int) (w:World) (h:Held w a len d):Calls Tryz.prog 118 #[.slice a len cap,.int .u16 z] w fun e w'=>e=.returned (.int .u8 (Sm.get d z))∧w=w':=by
 obtain ⟨hl,hbig,hat⟩:=h
 go_enter Tryz.func118,Tryz.ntmps118
 go_wp2
 go_loop [5] (fun i=>∃(k:Nat) (y:Int),k≤len∧i=.int .i64 y∧y=(k:Int) - 1∧Hid (∀c∈d.drop k,c.1≠z)) (fun i=>(intOf i+1).toNat)
 case atStart=>exact ⟨len,_,Nat.le_refl _,rfl,rfl,fun c hc=>by rw [List.drop_of_length_le (by omega)] at hc;cases hc⟩
 case round=>
  obtain ⟨k,y,hk,rfl,hy,HO⟩:=hrel
  cases k with
  |zero=>
   obtain rfl:y= -1:=by omega
   have HV:Hid (Sm.get d z=0):=Sm.get_miss d z HO.out
   clear hat hy
   go_wp2_with fail
   go_ret
   exact ⟨ri HV.out.symm,rfl⟩
  |succ j=>
   obtain rfl:y=(j:Int):=by omega
   obtain ⟨b,o,rfl,hb,hat⟩:=hat (by omega)
   obtain ⟨x,v,hx⟩:=get_pair (d:=d) (k:=j) (by omega)
   obtain ⟨h1,h2⟩:=hat j x v hx
   have p0:(0:Int)≤(j:Int):=by omega
   have p1:(j:Int) < (len:Int):=by omega
   by_cases hxz:x=z
   ·subst hxz
    have HV:Hid (Sm.get d x=v):=Sm.get_at hx HO.out
    clear hat hx hl hy
    go_wp2_with fail
    go_ret
    exact ⟨ri HV.out.symm,rfl⟩
   ·have HN:Hid (∀c∈d.drop j,c.1≠z):=Sm.no_drop hx hxz HO.out
    have hq:(x==z)=false:=by simpa using hxz
    clear hat hx hl hy hxz
    go_wp2_with fail
    go_round
    case rel=>exact ⟨j,_,by omega,rfl,by omega,HN⟩
    case measure=>simp [intOf]<;>omega
end K12
namespace K12
open Go.ChangeShapes Go.WideShapes Go.ChangeAt Go.RowKit Go.Deep
variable {a:Option Addr} {b base cap n o:Nat} {v:Value} {w w':World}
structure Rg where
 fr:Int
 tw:Int
 ram:Bool
 wt:Int
instance:Inhabited Rg:=⟨⟨0,0,false,0⟩⟩
def Sm.rc (r:Rg):List Value:=[.int .u16 r.fr,.int .u16 r.tw,.bool r.ram,.int .i64 r.wt]
def AtR (w:World) (b o:Nat) (d:List Rg):Prop:=∀j r,d[j]? =some r→w.cell? ⟨b,o+j * 4,none⟩=some (.int .u16 r.fr)∧w.cell? ⟨b,o+j * 4+1,none⟩=some (.int .u16 r.tw)∧w.cell? ⟨b,o+j * 4+2,none⟩=some (.bool r.ram)∧w.cell? ⟨b,o+j * 4+3,none⟩=some (.int .i64 r.wt)
def HeldR (w:World) (a:Option Addr) (n:Nat) (d:List Rg):Prop:=d.length=n∧n≤2305843009213693952∧(0 < n→∃b o,a=some ⟨b,o,none⟩∧b < w.heap.size∧AtR w b o d)
theorem AtR.keep {d:List Rg} (h:AtR w b o d) (k:∀i,w'.cell? ⟨b,i,none⟩=w.cell? ⟨b,i,none⟩):AtR w' b o d:=fun j r hd=>by rw [k,k,k,k];exact h j r hd
theorem HeldR.adds {d:List Rg} (h:HeldR w a n d) (k:Adds w w'):HeldR w' a n d:=
 ⟨h.1,h.2.1,fun hn=>by
   obtain ⟨b,o,ha,hb,hat⟩:=h.2.2 hn
   exact ⟨b,o,ha,by have:=k.size;omega,hat.keep fun i=>k.cell hb⟩⟩
theorem HeldR.nil (w:World) (a:Option Addr):HeldR w a 0 []:=⟨rfl,by omega,fun h=>absurd h (by omega)⟩
def Sm.cr (d:List Rg):List Value:=d.flatMap Sm.rc
theorem Sm.cr_app (a b:List Rg):Sm.cr (a++b)=Sm.cr a++Sm.cr b:=by simp [Sm.cr]
theorem Sm.cr_cons (c:Rg) (d:List Rg):Sm.cr (c::d)=.int .u16 c.fr:: .int .u16 c.tw:: .bool c.ram:: .int .i64 c.wt::Sm.cr d:=rfl
theorem Sm.cr_len:∀(d:List Rg),(Sm.cr d).length=d.length * 4
 |[]=>rfl
 |c::d=>by rw [Sm.cr_cons];simp only [List.length_cons];rw [Sm.cr_len d];omega
theorem Sm.cr_get:∀(d:List Rg) (j:Nat) (r:Rg),d[j]? =some r→(Sm.cr d)[j * 4]? =some (.int .u16 r.fr)∧(Sm.cr d)[j * 4+1]? =some (.int .u16 r.tw)∧(Sm.cr d)[j * 4+2]? =some (.bool r.ram)∧(Sm.cr d)[j * 4+3]? =some (.int .i64 r.wt)
 |[],j,r,h=>by simp at h
 |c::d,0,r,h=>by simp at h;subst h;exact ⟨rfl,rfl,rfl,rfl⟩
 |c::d,j+1,r,h=>by
  have:=Sm.cr_get d j r (by simpa using h)
  rw [Sm.cr_cons,show (j+1) * 4=j * 4+1+1+1+1 by omega]
  simpa using this
theorem Sm.cr_one (d:List Rg):∀u∈Sm.cr d,u.oneCell'=true:=by
 intro u hu
 simp only [Sm.cr,List.mem_flatMap] at hu
 obtain ⟨c,_,hc⟩:=hu
 simp only [Sm.rc,List.mem_cons,List.not_mem_nil,or_false] at hc
 rcases hc with rfl|rfl|rfl|rfl<;>rfl
def OwnsR (w:World) (base:Nat) (v:Value) (d:List Rg):Prop:=w.ownsRow base 126 4 v d.length (Sm.cr d)
theorem OwnsR.kept {d:List Rg} {row:Option Nat} (h:OwnsR w base v d) (hg:w.grownBy w' row) (hne:∀g,row=some g→g < base):OwnsR w' base v d:=by
 refine World.ownsRow.kept h hg ?_
 cases hq:v.ownBlock with
 |none=>exact .inl rfl
 |some g=>exact .inr fun e=>by have h1:=(World.ownsRow.lt h g hq).1;have h2:=hne g e.symm;omega
theorem OwnsR.adds {d:List Rg} (h:OwnsR w base v d) (k:Adds w w'):OwnsR w' base v d:=h.kept (row:=none) ⟨k.below.os,k.below.tape,k.below.output,k.below.size,fun i hi _=>k.below.block i hi⟩ (fun g e=>by cases e)
theorem OwnsR.mono {base':Nat} {d:List Rg} (h:OwnsR w base v d) (k:base'≤base):OwnsR w base' v d:=by
 refine ⟨h.1,?_⟩
 rcases h.2 with hn|⟨g,cap,cur,h1,h2,h3⟩
 ·exact .inl hn
 ·exact .inr ⟨g,cap,cur,h1,by omega,h3⟩
theorem OwnsR.at_ {g:Nat} {d:List Rg} (h:OwnsR w base (.slice (some ⟨g,0,none⟩) n cap) d):AtR w g 0 d:=by
 have hn:n=d.length:=by
  rcases h.2 with ⟨h',_⟩|⟨g',cap',cur,h',_⟩
  ·simp at h'
  ·simp only [Value.slice.injEq] at h';exact h'.2.1
 subst hn
 intro j r hd
 have hj:j < d.length:=(List.getElem?_eq_some_iff.1 hd).1
 obtain ⟨h1,h2,h3,h4⟩:=Sm.cr_get d j r hd
 rw [Nat.zero_add]
 exact ⟨(World.ownsRow.cellAt h (j * 4) (by omega)).trans h1,(World.ownsRow.cellAt h (j * 4+1) (by omega)).trans h2,(World.ownsRow.cellAt h (j * 4+2) (by omega)).trans h3,(World.ownsRow.cellAt h (j * 4+3) (by omega)).trans h4⟩
theorem OwnsR.form2 {d:List Rg} (h:OwnsR w base v d):
 ∃a n cap,v=.slice a n cap∧Hid (d.length=n)∧n≤cap∧cap≤9223372036854775807∧(0 < cap→∃g,a=some ⟨g,0,none⟩∧base≤g∧g < w.heap.size)∧(a=none→n=0∧cap=0):=by
 rcases h.2 with ⟨h',h0⟩|⟨g,cap,cur,h',hb,hh,h1,h2,h3⟩
 ·exact ⟨none,0,0,h',h0,by omega,by omega,fun h=>absurd h (by omega),fun _=>⟨rfl,rfl⟩⟩
 ·refine ⟨_,d.length,cap,h',rfl,h1,?_,fun _=>⟨g,rfl,hb,(Array.getElem?_eq_some_iff.1 hh).1⟩,fun e=>by cases e⟩
  simpa [maxLen] using h2
theorem OwnsR.held {d:List Rg} (h:OwnsR w base (.slice a n cap) d) (hd:d.length≤2305843009213693952):HeldR w a n d:=by
 obtain ⟨a',n',cap',h1,h0,h2,h3,h4,_⟩:=h.form2
 have h0:=h0.out
 simp only [Value.slice.injEq] at h1
 obtain ⟨rfl,rfl,rfl⟩:=h1
 refine ⟨h0,by omega,fun hn=> ?_⟩
 obtain ⟨g,rfl,_,hg⟩:=h4 (by omega)
 exact ⟨g,0,rfl,hg,h.at_⟩
theorem AtR.news {d:List Rg} (h:AtR w b o d):∀j u,(Sm.cr d)[j]? =some u→w.cell? ((⟨b,o,none⟩:Addr).add j)=some u:=by
 intro j u hu
 rw [add_plain]
 have hj:j < d.length * 4:=by have:=(List.getElem?_eq_some_iff.1 hu).1;rwa [Sm.cr_len] at this
 obtain ⟨r,hr⟩:∃r,d[j / 4]? =some r:=⟨d[j / 4]'(by omega),List.getElem?_eq_getElem _⟩
 obtain ⟨h1,h2,h3,h4⟩:=h _ r hr
 obtain ⟨k1,k2,k3,k4⟩:=Sm.cr_get d _ r hr
 rcases (by omega:j % 4=0∨j % 4=1∨j % 4=2∨j % 4=3) with h0|h0|h0|h0
 ·have e:j=j / 4 * 4:=by omega
  rw [←e] at h1 k1;rw [h1,←k1,hu]
 ·have e:j=j / 4 * 4+1:=by omega
  rw [Nat.add_assoc,←e] at h2;rw [←e] at k2;rw [h2,←k2,hu]
 ·have e:j=j / 4 * 4+2:=by omega
  rw [Nat.add_assoc,←e] at h3;rw [←e] at k3;rw [h3,←k3,hu]
 ·have e:j=j / 4 * 4+3:=by omega
  rw [Nat.add_assoc,←e] at h4;rw [←e] at k4;rw [h4,←k4,hu]
theorem HeldR.news {ad:Addr} {d:List Rg} (h:HeldR w (some ad) n d):∀j u,(Sm.cr d)[j]? =some u→w.cell? (ad.add j)=some u:=by
 intro j u hu
 by_cases hn:0 < n
 ·obtain ⟨b,o,e,_,hat⟩:=h.2.2 hn
  cases e
  exact hat.news j u hu
 ·have:d=[]:=List.eq_nil_of_length_eq_zero (by have:=h.1;omega)
  subst this
  simp [Sm.cr] at hu
theorem regionInfo:(Tryz.prog.info? 126).map (fun i=>(i.zero,i.size,i.bytes))=some (some (.agg #[.int .u16 0,.int .u16 0,.bool false,.int .i64 0]),4,16):=by kernel_rfl
theorem wpList_appR {ops:Array Oper} {rest:List Oper} {o:Oper} {a:Act} {Q:Exit→Act→World→Prop} (hgd:o.guard=none) (s x:Operand)
 (ho:o.op=.call {callee:=.builtin .append,args:=#[s,x],argTypes:=#[25,25]})
 (base:Nat) (v:Value) (d:List Rg) (hs:a.eval s=v) (hown:OwnsR w base v d) (ad:Option Addr) (m c:Nat) (e:List Rg) (hx:a.eval x=.slice ad m c) (hh:HeldR w ad m e) (hnone:ad=none→m=0∧c=0)
 (hsz:d.length+m≤33554432) (hbase:base≤w.heap.size)
 (h:∀v' w',OwnsR w' base v' (d++e)→w.grownBy w' v.ownBlock→wpList Tryz.prog ops Q rest (a.put o.dst v') w'):wpList Tryz.prog ops Q (o::rest) a w:=by
 obtain ⟨i0,hi,hz0,hz1,hz2⟩:=info_parts regionInfo
 cases ad with
 |none=>
  obtain ⟨rfl,rfl⟩:=hnone rfl
  have he:e=[]:=List.eq_nil_of_length_eq_zero hh.1
  subst he
  refine wpList_append_own_none hgd s x 25 ho base 126 i0 4 Tryz.underlying25 hi v d.length (Sm.cr d) hs hown hx ?_
  exact h v w (by rw [List.append_nil];exact hown) (World.grownBy.refl w _)
 |some ad=>
  refine wpList_append_own w hgd s x 25 ho base 126 i0 (.agg #[.int .u16 0,.int .u16 0,.bool false,.int .i64 0]) 4 16 Tryz.underlying25 hi hz0 hz1 hz2 rfl (by decide) v d.length (Sm.cr d) hs hown ad m c (Sm.cr e) hx (by rw [Sm.cr_len,hh.1]) hh.news (Sm.cr_one e) (by unfold maxLen;omega) (by omega) hbase ?_
  intro v' w' h1 h2 h3
  refine h v' w' ?_ h2
  unfold OwnsR
  rw [List.length_append,hh.1,Sm.cr_app]
  exact h1
theorem AtR.new (w:World) (t:TypeId) (r:Rg):AtR (w.alloc (.cells #[.int .u16 r.fr,.int .u16 r.tw,.bool r.ram,.int .i64 r.wt] t)) w.heap.size 0 [r]:=by
 intro j y h
 match j,h with
 |0,h=>simp at h;subst h;refine ⟨?_,?_,?_,?_⟩<;>simp [go_sem]
 |j+1,h=>simp at h
theorem HeldR.one (w:World) (t:TypeId) (r:Rg):HeldR (w.alloc (.cells #[.int .u16 r.fr,.int .u16 r.tw,.bool r.ram,.int .i64 r.wt] t)) (some ⟨w.heap.size,0,none⟩) 1 [r]:=
 ⟨rfl,by omega,fun _=>⟨w.heap.size,0,rfl,by simp,AtR.new w t r⟩⟩
theorem OwnsR.alloc {d:List Rg} (h:OwnsR w base v d) (o:Obj):OwnsR (w.alloc o) base v d:=World.ownsRow.alloc h o
theorem OwnsR.nil (w:World) (base:Nat):OwnsR w base (.slice none 0 0) []:=World.ownsRow_nil w base _ 4
theorem AddsR.grown {w0:World} {d:List Rg} (h:Adds w0 w) (hg:w.grownBy w' v.ownBlock) (ho:OwnsR w w0.heap.size v d):Adds w0 w':=
 Adds.of_below (h.below.grown hg h.size fun k hk=>(World.ownsRow.lt ho k hk).1)
theorem addr_add_add (x:Addr) (i j:Nat):(x.add i).add j=x.add (i+j):=by
 unfold Addr.add
 by_cases hi:i=0<;>by_cases hj:j=0<;>simp [hi,hj,Nat.add_assoc]
end K12
namespace K12
theorem litR6 (y:Int) (h0:0≤y) (h:y < 6):∃(k:Nat) (o:Int),y=(k:Int)∧0≤o∧o < 65536∧(#[.int .i64 0,.int .i64 3,.int .i64 15,.int .i64 255,.int .i64 4095,.int .i64 65535]:Array Value)[k]? =some (.int .i64 o):=by
 obtain ⟨k,rfl⟩:∃k:Nat,y=(k:Int):=⟨y.toNat,by omega⟩
 match k,h with
 |0,_=>exact ⟨0,0,rfl,by omega,by omega,rfl⟩
 |1,_=>exact ⟨1,3,rfl,by omega,by omega,rfl⟩
 |2,_=>exact ⟨2,15,rfl,by omega,by omega,rfl⟩
 |3,_=>exact ⟨3,255,rfl,by omega,by omega,rfl⟩
 |4,_=>exact ⟨4,4095,rfl,by omega,by omega,rfl⟩
 |5,_=>exact ⟨5,65535,rfl,by omega,by omega,rfl⟩
 |k+6,h=>exact absurd h (by omega)
theorem litR5 (y:Int) (h0:0≤y) (h:y < 5):∃(k:Nat) (o:Int),y=(k:Int)∧0≤o∧o < 65536∧(#[.int .i64 0,.int .i64 0,.int .i64 1,.int .i64 2,.int .i64 5]:Array Value)[k]? =some (.int .i64 o):=by
 obtain ⟨k,rfl⟩:∃k:Nat,y=(k:Int):=⟨y.toNat,by omega⟩
 match k,h with
 |0,_=>exact ⟨0,0,rfl,by omega,by omega,rfl⟩
 |1,_=>exact ⟨1,0,rfl,by omega,by omega,rfl⟩
 |2,_=>exact ⟨2,1,rfl,by omega,by omega,rfl⟩
 |3,_=>exact ⟨3,2,rfl,by omega,by omega,rfl⟩
 |4,_=>exact ⟨4,5,rfl,by omega,by omega,rfl⟩
 |k+5,h=>exact absurd h (by omega)
theorem regs_mk (b len cap N:Nat) (a:Option Addr) (n:Nat) (hn:n≤1000) (hN:N≤1000000) (w:World) (h:Nb w b a len cap N):
 Calls Tryz.prog 49 #[.pointer (some ⟨b,0,none⟩),.int .i64 (n:Int)] w fun e w'=>∃r d N',e=.returned r∧OwnsR w' w.heap.size r d∧d.length≤n∧N'≤N+1+5 * n∧Nb w' b a len cap N'∧w.grownBy w' (some b):=by
 have H:Hid _:=Lib.hid h
 have hbw:b < w.heap.size:=h.lt
 clear h
 go_enter Tryz.func49,Tryz.ntmps49
 go_wp2_with (go_at_call 18;(with_reducible refine (nx_any b len cap N a _ (by omega) (by omega) (by omega) w H.out).mono ?_);rintro e w1 ⟨y0,M1,hy00,hy01,hM1,rfl,hU1⟩)
 obtain ⟨k0,rfl⟩:∃k:Nat,y0=(k:Int):=⟨y0.toNat,by omega⟩
 have hB1:=H.out.up hU1
 have hG1:=hU1.grown
 clear hU1 H
 go_loopw [5,6] (fun v5 v6 wr=>∃(k N':Nat) (d:List Rg),v6=.int .i64 (k:Int)∧d.length+k≤n∧N'≤N+1+5 * d.length∧Nb wr b a len cap N'∧OwnsR wr w.heap.size v5 d∧w.grownBy wr (some b)) (fun _ v6 _=>(intOf v6).toNat)
 case atStart=>exact ⟨k0,M1,[],rfl,by simp;omega,by simp;omega,hB1,OwnsR.nil _ _,hG1⟩
 case round=>
  obtain ⟨k,N',d,rfl,hdk,hN',hB,hO,hG⟩:=hrel
  have hsz:=hG.size
  by_cases hlt:0 < k
  ·obtain ⟨j,rfl⟩:∃j,k=j+1:=⟨k - 1,by omega⟩
   have hkz:(0:Int) < (j:Int)+1:=by omega
   have HG:=Lib.hid hG
   have HO:=Lib.hid hO
   have HB:=Lib.hid hB
   clear hO hG hB
   go_upto_region 7 with (first
    |(go_at_call 20;(with_reducible refine (wrd_any b len cap N' a (by omega) wr HB.out).mono ?_);rintro e w2 ⟨y1,N1,hy10,hy11,hN1,rfl,hU2⟩;have hB2:=HB.out.up hU2;have hG2:=hU2.grown;clear hU2)
    |(go_at_call 18;(with_reducible refine (nx_any b len cap N1 a 6 (by omega) (by omega) (by omega) (w2.alloc (.cells #[.int .i64 0,.int .i64 3,.int .i64 15,.int .i64 255,.int .i64 4095,.int .i64 65535] 3)) (hB2.alloc _)).mono ?_);rintro e w3 ⟨y2,N2,hy20,hy21,hN2,rfl,hU3⟩;obtain ⟨k2,o,rfl,ho0,ho1,ho2⟩:=litR6 y2 hy20 hy21;have hG3:=hU3.grown;have hc:w3.cell? ⟨w2.heap.size,k2,none⟩=some (.int .i64 o):=(hG3.cell (a:=⟨w2.heap.size,k2,none⟩) (by rw [cell_of_row _ _ _ _ _ (0,0) (heap_alloc_new w2 _)];exact ho2) (fun e=>by injection e with e;have e:w2.heap.size=b:=e;have:=hB2.lt;omega));have hB3:=(hB2.alloc _).up hU3;clear hU3))
   clear hc ho2 hy21 hkz
   obtain ⟨t,ht⟩:∃t,t=y1+o:=⟨_,rfl⟩
   have t1:y1+o=t:=ht.symm
   have t0:0≤t:=by omega
   have t2:t < 131072:=by omega
   clear ht ho0 ho1
   go_wp2_with (first
    |(go_at_call 18;(with_reducible refine (nx_any b len cap N2 a 3 (by omega) (by omega) (by omega) w3 hB3).mono ?_);rintro e w4 ⟨y3,N3,hy30,hy31,hN3,rfl,hU4⟩;have hB4:=hB3.up hU4;have hG4:=hU4.grown;clear hU4)
    |(go_at_call 18;(with_reducible refine (nx_any b len cap N3 a 5 (by omega) (by omega) (by omega) (w4.alloc (.cells #[.int .i64 0,.int .i64 0,.int .i64 1,.int .i64 2,.int .i64 5] 3)) (hB4.alloc _)).mono ?_);rintro e w5 ⟨y4,N4,hy40,hy41,hN4,rfl,hU5⟩;obtain ⟨k4,q,rfl,hq0,hq1,hq2⟩:=litR5 y4 hy40 hy41;have hG5:=hU5.grown;have hB5:=(hB4.alloc _).up hU5;have hcq:w5.cell? ⟨w4.heap.size,k4,none⟩=some (.int .i64 q):=(hG5.cell (a:=⟨w4.heap.size,k4,none⟩) (by rw [cell_of_row _ _ _ _ _ (0,0) (heap_alloc_new w4 _)];exact hq2) (fun e=>by injection e with e;have e:w4.heap.size=b:=e;have:=hB4.lt;omega));have HO5:=Lib.hid ((((((HO.out.kept hG2 (fun g e=>by injection e with e;omega)).alloc (.cells #[.int .i64 0,.int .i64 3,.int .i64 15,.int .i64 255,.int .i64 4095,.int .i64 65535] 3)).kept hG3 (fun g e=>by injection e with e;omega)).kept hG4 (fun g e=>by injection e with e;omega)).alloc (.cells #[.int .i64 0,.int .i64 0,.int .i64 1,.int .i64 2,.int .i64 5] 3)).kept hG5 (fun g e=>by injection e with e;omega));have HG5:=Lib.hid ((((HG.out.trans hG2).trans ((World.grownBy_alloc _ _ _).trans hG3)).trans hG4).trans ((World.grownBy_alloc _ _ _).trans hG5));have hs5:=HG5.out.size;clear hU5)
    |(at_builtin;refine wpList_appR rfl _ _ rfl w.heap.size u5 d rfl (HO5.out.alloc _) _ 1 1 _ rfl (HeldR.one w5 _ ⟨_,_,_,_⟩) (fun e=>by cases e) (by omega) (by simp;omega) ?_;intro v1 w6 hO6 hG6))
   all_goals
    have hO5':=HO5.out
    have hlow:∀g,u5.ownBlock=some g→w.heap.size≤g:=fun g e=>(World.ownsRow.lt hO5' g e).1
    go_roundw
    case rel=>exact ⟨j,N4,d++[⟨_,_,_,_⟩],by go_num,by simp;omega,by simp;omega,(hB5.alloc _).grown hG6 (fun g e=>by have:=hlow g e;omega),hO6,grown_trans2 (HG5.out.trans (World.grownBy_alloc _ _ _)) hG6 (fun g e=> .inr (hlow g e))⟩
    case measure=>simp [intOf]<;>omega
  ·obtain rfl:k=0:=by omega
   go_wp2_with fail
   go_ret
   exact ⟨_,d,N',rfl,hO,by omega,by omega,hB,hG⟩
theorem regs_mk2 (b len cap N:Nat) (a:Option Addr) (hN:N≤1000000) (w:World) (h:Nb w b a len cap N):
 Calls Tryz.prog 49 #[.pointer (some ⟨b,0,none⟩),.int .i64 2] w fun e w'=>∃r d N',e=.returned r∧OwnsR w' w.heap.size r d∧d.length≤2∧N'≤N+11∧Nb w' b a len cap N'∧w.grownBy w' (some b):=regs_mk b len cap N a 2 (by omega) hN w h
theorem map_mk (b len cap N:Nat) (a:Option Addr) (hN:N≤1000000) {w:World} (h:Nb w b a len cap N):
 Calls Tryz.prog 28 #[.pointer (some ⟨b,0,none⟩)] w fun e w'=>∃r d N',e=.returned r∧OwnsR w' w.heap.size r d∧d.length≤3∧N'≤N+12∧Nb w' b a len cap N'∧w.grownBy w' (some b):=by
 have H:Hid _:=Lib.hid h
 have hbw:b < w.heap.size:=h.lt
 clear h
 go_enter Tryz.func28,Tryz.ntmps28
 go_wp2_with (first
  |(go_at_call 49;(with_reducible refine (regs_mk2 b len cap N a (by omega) w H.out).mono ?_);rintro e w1 ⟨r,d,N1,rfl,hO1,hd1,hN1,hB1,hG1⟩;have hs1:=hG1.size;have HO1:=Lib.hid hO1;clear hO1)
  |(go_at_call 18;(with_reducible refine (nx_any b len cap N1 a 3 (by omega) (by omega) (by omega) w1 hB1).mono ?_);rintro e w2 ⟨y,N2,hy0,hy1,hN2,rfl,hU2⟩;have hB2:=hB1.up hU2;have hG2:=hU2.grown;have HO2:=Lib.hid (HO1.out.kept hG2 (fun g e=>by injection e with e;omega));have hs2:=hG2.size;clear hU2)
  |(at_builtin;refine wpList_appR rfl _ _ rfl w.heap.size r d rfl (HO2.out.alloc _) _ 1 1 _ rfl (HeldR.one w2 _ ⟨_,_,_,_⟩) (fun e=>by cases e) (by omega) (by simp;omega) ?_;intro v1 w6 hO6 hG6))
 have hO2':=HO2.out
 have hlow:∀g,r.ownBlock=some g→w.heap.size≤g:=fun g e=>(World.ownsRow.lt hO2' g e).1
 go_ret
 exact ⟨v1,d++[⟨_,_,_,_⟩],N2,rfl,hO6,by simp;omega,by omega,(hB2.alloc _).grown hG6 (fun g e=>by have:=hlow g e;omega),grown_trans2 ((hG1.trans hG2).trans (World.grownBy_alloc _ _ _)) hG6 (fun g e=> .inr (hlow g e))⟩
end K12
namespace K12
theorem rvalid_any (a:Option Addr) (len cap:Nat) (d:List Cl) (w:World) (h:Held w a len d):Calls Tryz.prog 50 #[.slice a len cap] w fun e w'=>e=.returned (.bool (Sm.valid d))∧Adds w w':=by
 obtain ⟨hl,hbig,hat⟩:=h
 go_enter Tryz.func50,Tryz.ntmps50
 go_wp2
 go_loopw [6] (fun i wr=>∃k:Nat,k≤len∧i=.int .i64 k∧Adds w wr∧Hid (∀i,i < k→Sm.okAt d i=true)) (fun i _=>len - (intOf i).toNat)
 case atStart=>exact ⟨0,Nat.zero_le _,rfl,Adds.refl _,fun i hi=>absurd hi (by omega)⟩
 case round=>
  obtain ⟨k,hk,rfl,⟨⟨n1,os1⟩,rfl⟩,HO⟩:=hrel
  by_cases hlt:k < len
  ·obtain ⟨b,o,rfl,hb,hat⟩:=hat (by omega)
   obtain ⟨x,v,hx⟩:=get_pair (d:=d) (k:=k) (by omega)
   obtain ⟨h1,h2⟩:=hat k x v hx
   have HK:Hid _:=Sm.okAt_iff d k (x,v) hx
   have HX:Hid _:=hx
   have HL:Hid _:=hl
   have hltz:(k:Int) < (len:Int):=by omega
   by_cases hv:v=0
   ·subst hv
    have HV:Hid (Sm.valid d=false):=Sm.valid_no d k (by omega) (by
     cases hq:Sm.okAt d k with
     |false=>rfl
     |true=>exact absurd rfl ((Sm.okAt_iff d k (x,0) hx).1 hq).1)
    clear hat hl hx
    go_wp2_with fail
    refine qt ?_
    repeat (go_big_quiet_step (fail))
    refine qn fun nq osq=> ?_
    go_wp2_with fail
    go_ret
    exact ⟨rt HV.out.symm,aD⟩
   ·have hvb:(v==0)=false:=by simpa using hv
    cases k with
    |zero=>
     have HN:Hid (∀i,i < 0+1→Sm.okAt d i=true):=fun i hi=>by
      obtain rfl:i=0:=by omega
      exact HK.out.2 ⟨hv,fun e j hj=>absurd hj (by omega)⟩
     simp only [Nat.zero_mul,Nat.add_zero] at h1 h2
     clear hat hl hx hv
     go_wp2_with fail
     refine qt ?_
     repeat (go_big_quiet_step (fail))
     refine qn fun nq osq=> ?_
     go_wp2_with fail
     go_roundw
     case rel=>exact ⟨0+1,by omega,by go_num,aD,HN⟩
     case measure=>simp [intOf];omega
    |succ j=>
     obtain ⟨y,u,hy⟩:=get_pair (d:=d) (k:=j) (by omega)
     obtain ⟨g1,g2⟩:=hat j y u hy
     have hw:IntKind.i64.wrap (j:Int)=(j:Int):=by rw [IntKind.wrap_i64];omega
     have hj1:(j:Int) < (len:Int):=by omega
     have hj2:((j:Int)+1) < (len:Int):=by omega
     have p0:(0:Int)≤(j:Int)+1:=by omega
     have p1:(0:Int) < (j:Int)+1:=by omega
     have e0:((j:Int)+1).toNat=j+1:=by omega
     by_cases hxy:y < x
     ·have HN:Hid (∀i,i < j+1+1→Sm.okAt d i=true):=fun i hi=>by
       by_cases hij:i=j+1
       ·subst hij
        exact HK.out.2 ⟨hv,fun e q hq he=>by
         obtain rfl:q=j:=by omega
         rw [hy] at he;cases he;exact hxy⟩
       ·exact HO.out i (by omega)
      have hd:decide (x≤y)=false:=decide_eq_false (by omega)
      clear hat hl hx hv hy
      go_wp2_with fail
      refine qt ?_
      repeat (go_big_quiet_step (fail))
      refine qn fun nq osq=> ?_
      go_wp2_with fail
      go_roundw
      case rel=>exact ⟨j+1+1,by omega,by go_num,aD,HN⟩
      case measure=>simp [intOf];omega
     ·have HV:Hid (Sm.valid d=false):=Sm.valid_no d (j+1) (by omega) (by
       cases hq:Sm.okAt d (j+1) with
       |false=>rfl
       |true=>exact absurd (((Sm.okAt_iff d (j+1) (x,v) hx).1 hq).2 (y,u) j rfl hy) hxy)
      have hd:decide (x≤y)=true:=decide_eq_true (by omega)
      clear hat hl hx hv hy
      go_wp2_with fail
      refine qt ?_
      repeat (go_big_quiet_step (fail))
      refine qn fun nq osq=> ?_
      go_wp2_with fail
      go_ret
      exact ⟨rt HV.out.symm,aD⟩
  ·have HV:Hid (Sm.valid d=true):=Sm.valid_yes d fun i hi=>HO.out i (by omega)
   have hltz:¬(k:Int) < (len:Int):=by omega
   clear hat
   go_wp2_with fail
   go_ret
   exact ⟨rt HV.out.symm,aD⟩
end K12
namespace K12
theorem rput_any (a:Option Addr) {len:Nat} (cap:Nat) {m:List Cl} (x v:Int) {w:World} (h:Held w a len m) (hb24:len≤16777216):Calls Tryz.prog 51 #[.slice a len cap,.agg #[.int .u16 x,.int .u8 v]] w fun e w'=>∃r,e=.returned r∧Owns w' w.heap.size r (Sm.put m (x,v))∧Adds w w':=by
 obtain ⟨hl,hbig,hat⟩:=h
 have HL:Hid (m.length=len):=hl
 go_enter Tryz.func51,Tryz.ntmps51
 go_wp2
 go_loopw [5,6,11] (fun v5 v6 i wr=>∃(k:Nat) (s1:List Cl) (s2:Bool),k≤len∧i=.int .i64 k∧v6=.bool s2∧Hid (Sm.putS (x,v) (m.take k)=(s1,s2))∧Owns wr (w.heap.size+1) v5 s1∧Adds (w.alloc (.cells #[.int .u16 x,.int .u8 v] 100)) wr) (fun _ _ i _=>len - (intOf i).toNat)
 case atStart=>exact ⟨0,[],false,Nat.zero_le _,rfl,rfl,rfl,Owns.nil _ _,Adds.refl _⟩
 case round=>
  obtain ⟨k,s1,s2,hk,rfl,rfl,HS,hO,hA⟩:=hrel
  have hsz:=hA.size
  have hsz':w.heap.size < wr.heap.size:=by simp at hsz;omega
  have hL:s1.length≤k+1:=by
   have h1:=Sm.putS_len (x,v) (m.take k)
   rw [HS.out] at h1
   have h2:(m.take k).length≤k:=List.length_take_le _ _
   simp at h1 h2;omega
  have c0:wr.cell? ⟨w.heap.size,0,none⟩=some (.int .u16 x):=(hA.cell (by simp)).trans (by simp [go_sem])
  have c1:wr.cell? ⟨w.heap.size,1,none⟩=some (.int .u8 v):=(hA.cell (by simp)).trans (by simp [go_sem])
  by_cases hlt:k < len
  ·obtain ⟨b,o,rfl,hb,hat⟩:=hat (by omega)
   obtain ⟨yx,yv,hy⟩:=get_pair (d:=m) (k:=k) (by omega)
   obtain ⟨h1,h2⟩:=hat k yx yv hy
   have g1:wr.cell? ⟨b,o+k * 2,none⟩=some (.int .u16 yx):=(hA.cell (by simp;omega)).trans ((World.cell?_alloc_past _ b _ hb).trans h1)
   have g2:wr.cell? ⟨b,o+k * 2+1,none⟩=some (.int .u8 yv):=(hA.cell (by simp;omega)).trans ((World.cell?_alloc_past _ b _ hb).trans h2)
   have hbr:b < wr.heap.size:=by omega
   have hltz:(k:Int) < (len:Int):=by omega
   have HP:=Sm.putS_succ hy HS.out
   have HP2:Hid _:=HP
   clear hat hy hl h1 h2 HP hsz
   have hin1:w.heap.size≠wr.heap.size:=by omega
   by_cases heq:yx=x
   ·subst heq
    cases s2 with
    |true=>
     have HN:Hid (Sm.putS (yx,v) (m.take (k+1))=(s1,true)):=by show _=_;rw [HP2.out];simp [Sm.putStep]
     go_wp2_with fail
     go_roundw
     case rel=>exact ⟨k+1,s1,_,by omega,by go_num,rfl,HN,(hO.alloc _),(hA.alloc _)⟩
     case measure=>simp [intOf]<;>omega
    |false=>
     by_cases hv:v=0
     ·subst hv
      have HN:Hid (Sm.putS (yx,0) (m.take (k+1))=(s1,true)):=by show _=_;rw [HP2.out];simp [Sm.putStep]
      go_wp2_with fail
      go_roundw
      case rel=>exact ⟨k+1,s1,_,by omega,by go_num,rfl,HN,(hO.alloc _),(hA.alloc _)⟩
      case measure=>simp [intOf]<;>omega
     ·have hvb:(v !=0)=true:=by simpa using hv
      have HN:Hid (Sm.putS (yx,v) (m.take (k+1))=(s1++[(yx,v)],true)):=by show _=_;rw [HP2.out];simp [Sm.putStep,hv]
      clear hv
      go_wp2_with (at_builtin;refine wpList_app1 rfl (.tmp 27) (.tmp 29) rfl (w.heap.size+1) u5 s1 yx v _ _ rfl rfl (by simp) (hO.alloc _) (by have:=hL;omega) (by simp;omega) ?_;intro v1 w1 hO1 hg1 _;have hA1:Adds (w.alloc (.cells #[.int .u16 yx,.int .u8 v] 100)) w1:=(hA.alloc _).grown hg1 (by simpa using hO.alloc _);have hs1:wr.heap.size < w1.heap.size:=(by have:=hg1.size;simp at this;omega);have hn1:some wr.heap.size≠u5.ownBlock:=Owns.ne hO (Nat.le_refl _);have f0:w1.cell? ⟨wr.heap.size,0,none⟩=some (.int .u16 yx):=hg1.cell (by simp [go_sem]) hn1;have f1:w1.cell? ⟨wr.heap.size,1,none⟩=some (.int .u8 yv):=hg1.cell (by simp [go_sem]) hn1;have c0:w1.cell? ⟨w.heap.size,0,none⟩=some (.int .u16 yx):=(hA1.cell (by simp)).trans (by simp [go_sem]);clear hg1 hn1)
      go_roundw
      case rel=>exact ⟨k+1,(s1++[(yx,v)]),_,by omega,by go_num,rfl,HN,hO1,hA1⟩
      case measure=>simp [intOf]<;>omega
   ·have hnb:(yx !=x)=true:=by simpa using heq
    by_cases hxy:x≤yx
    ·have hd:decide (x≤yx)=true:=decide_eq_true hxy
     cases s2 with
     |true=>
      have HN:Hid (Sm.putS (x,v) (m.take (k+1))=(s1++[(yx,yv)],true)):=by show _=_;rw [HP2.out];simp [Sm.putStep,heq]
      clear heq hxy
      go_wp2_with (at_builtin;refine wpList_app1 rfl (.tmp 36) (.tmp 38) rfl (w.heap.size+1) u5 s1 yx yv _ _ rfl rfl (by simp) (hO.alloc _) (by have:=hL;omega) (by simp;omega) ?_;intro v2 w2 hO2 hg2 _;have hA2:Adds (w.alloc (.cells #[.int .u16 x,.int .u8 v] 100)) w2:=(hA.alloc _).grown hg2 (by simpa using hO.alloc _);clear hg2)
      go_roundw
      case rel=>exact ⟨k+1,s1++[(yx,yv)],_,by omega,by go_num,rfl,HN,hO2,hA2⟩
      case measure=>simp [intOf]<;>omega
     |false=>
      by_cases hv:v=0
      ·subst hv
       have HN:Hid (Sm.putS (x,0) (m.take (k+1))=(s1++[(yx,yv)],true)):=by show _=_;rw [HP2.out];simp [Sm.putStep,heq,hxy]
       clear heq hxy
       go_wp2_with (at_builtin;refine wpList_app1 rfl (.tmp 36) (.tmp 38) rfl (w.heap.size+1) u5 s1 yx yv _ _ rfl rfl (by simp) (hO.alloc _) (by have:=hL;omega) (by simp;omega) ?_;intro v2 w2 hO2 hg2 _;have hA2:Adds (w.alloc (.cells #[.int .u16 x,.int .u8 0] 100)) w2:=(hA.alloc _).grown hg2 (by simpa using hO.alloc _);clear hg2)
       go_roundw
       case rel=>exact ⟨k+1,s1++[(yx,yv)],_,by omega,by go_num,rfl,HN,hO2,hA2⟩
       case measure=>simp [intOf]<;>omega
      ·have hvb:(v !=0)=true:=by simpa using hv
       have HN:Hid (Sm.putS (x,v) (m.take (k+1))=(s1++[(x,v)]++[(yx,yv)],true)):=by show _=_;rw [HP2.out];simp [Sm.putStep,heq,hxy,hv]
       clear heq hxy hv
       go_wp2_with (first|(at_builtin;refine wpList_app1 rfl (.tmp 27) (.tmp 29) rfl (w.heap.size+1) u5 s1 x v _ _ rfl rfl (by simp) (hO.alloc _) (by have:=hL;omega) (by simp;omega) ?_;intro v1 w1 hO1 hg1 _;have hA1:Adds (w.alloc (.cells #[.int .u16 x,.int .u8 v] 100)) w1:=(hA.alloc _).grown hg1 (by simpa using hO.alloc _);have hs1:wr.heap.size < w1.heap.size:=(by have:=hg1.size;simp at this;omega);have hn1:some wr.heap.size≠u5.ownBlock:=Owns.ne hO (Nat.le_refl _);have f0:w1.cell? ⟨wr.heap.size,0,none⟩=some (.int .u16 yx):=hg1.cell (by simp [go_sem]) hn1;have f1:w1.cell? ⟨wr.heap.size,1,none⟩=some (.int .u8 yv):=hg1.cell (by simp [go_sem]) hn1;have c0:w1.cell? ⟨w.heap.size,0,none⟩=some (.int .u16 x):=(hA1.cell (by simp)).trans (by simp [go_sem]);clear hg1 hn1)|(at_builtin;refine wpList_app1 rfl (.tmp 36) (.tmp 38) rfl (w.heap.size+1) v1 (s1++[(x,v)]) yx yv _ _ rfl rfl (by simp) hO1 (by simp;omega) (by omega) ?_;intro v2 w2 hO2 hg2 _;have hA2:Adds (w.alloc (.cells #[.int .u16 x,.int .u8 v] 100)) w2:=hA1.grown hg2 (by simpa using hO1);clear hg2))
       go_roundw
       case rel=>exact ⟨k+1,(s1++[(x,v)])++[(yx,yv)],_,by omega,by go_num,rfl,HN,hO2,hA2⟩
       case measure=>simp [intOf]<;>omega
    ·have hd:decide (x≤yx)=false:=decide_eq_false hxy
     have HN:Hid (Sm.putS (x,v) (m.take (k+1))=(s1++[(yx,yv)],s2)):=by show _=_;rw [HP2.out];simp [Sm.putStep,heq,hxy]
     clear heq hxy
     cases s2 with
     |true=>
      go_wp2_with (at_builtin;refine wpList_app1 rfl (.tmp 36) (.tmp 38) rfl (w.heap.size+1) u5 s1 yx yv _ _ rfl rfl (by simp) (hO.alloc _) (by have:=hL;omega) (by simp;omega) ?_;intro v2 w2 hO2 hg2 _;have hA2:Adds (w.alloc (.cells #[.int .u16 x,.int .u8 v] 100)) w2:=(hA.alloc _).grown hg2 (by simpa using hO.alloc _);clear hg2)
      go_roundw
      case rel=>exact ⟨k+1,s1++[(yx,yv)],_,by omega,by go_num,rfl,HN,hO2,hA2⟩
      case measure=>simp [intOf]<;>omega
     |false=>
      go_wp2_with (at_builtin;refine wpList_app1 rfl (.tmp 36) (.tmp 38) rfl (w.heap.size+1) u5 s1 yx yv _ _ rfl rfl (by simp) (hO.alloc _) (by have:=hL;omega) (by simp;omega) ?_;intro v2 w2 hO2 hg2 _;have hA2:Adds (w.alloc (.cells #[.int .u16 x,.int .u8 v] 100)) w2:=(hA.alloc _).grown hg2 (by simpa using hO.alloc _);clear hg2)
      go_roundw
      case rel=>exact ⟨k+1,s1++[(yx,yv)],_,by omega,by go_num,rfl,HN,hO2,hA2⟩
      case measure=>simp [intOf]<;>omega
  ·have hkl:k=len:=by omega
   have hltz:¬(k:Int) < (len:Int):=by omega
   have HE:Hid (Sm.putS (x,v) m=(s1,s2)):=by
    show _=_
    rw [←HS.out,List.take_of_length_le (by have:=HL.out;omega)]
   clear hat hl hkl hsz
   cases s2 with
   |true=>
    have HN:Hid (Sm.put m (x,v)=s1):=by show _=_;unfold Sm.put;rw [HE.out];simp
    go_wp2_with fail
    go_ret
    exact ⟨_,rfl,by rw [HN.out];exact Owns.mono hO (by omega),(Adds.alloc (Adds.refl _) _).trans hA⟩
   |false=>
    by_cases hv:v=0
    ·subst hv
     have HN:Hid (Sm.put m (x,0)=s1):=by show _=_;unfold Sm.put;rw [HE.out];simp
     go_wp2_with fail
     go_ret
     exact ⟨_,rfl,by rw [HN.out];exact Owns.mono hO (by omega),(Adds.alloc (Adds.refl _) _).trans hA⟩
    ·have hvb:(v !=0)=true:=by simpa using hv
     have HN:Hid (Sm.put m (x,v)=s1++[(x,v)]):=by show _=_;unfold Sm.put;rw [HE.out];simp [hv]
     clear hv
     go_wp2_with (at_builtin;refine wpList_app1 rfl (.tmp 48) (.tmp 50) rfl (w.heap.size+1) u5 s1 x v _ _ rfl rfl (by simp) hO (by omega) (by omega) ?_;intro v1 w1 hO1 hg1 _;have hA1:Adds (w.alloc (.cells #[.int .u16 x,.int .u8 v] 100)) w1:=hA.grown hg1 (by simpa using hO);clear hg1)
     go_ret
     exact ⟨_,rfl,by rw [HN.out];exact Owns.mono hO1 (by omega),(Adds.alloc (Adds.refl _) _).trans hA1⟩
end K12
namespace K12
theorem rnrm_any (a:Option Addr) (len cap:Nat) (l:List Cl) (w:World) (h:Held w a len l) (hb24:len≤16777216):Calls Tryz.prog 32 #[.slice a len cap] w fun e w'=>∃r,e=.returned r∧Owns w' w.heap.size r (Sm.nrm l)∧Adds w w':=by
 have HL:Hid (l.length=len):=h.1
 cases hv:Sm.valid l with
 |true=>
  have HN:Hid (Sm.nrm l=l):=Sm.nrm_valid hv
  cases a with
  |none=>
   have h0:len=0:=by
    rcases Nat.eq_zero_or_pos len with h0|h0
    ·exact h0
    ·obtain ⟨b,o,e,_⟩:=h.2.2 h0;cases e
   subst h0
   have HE:Hid (l=[]):=List.eq_nil_of_length_eq_zero HL.out
   go_enter Tryz.func32,Tryz.ntmps32
   go_wp2_with (go_at_call 50;refine (rvalid_any _ _ _ _ _ h).mono ?_;rintro e w' ⟨rfl,hA⟩)
   go_ret
   exact ⟨_,rfl,by rw [HN.out,HE.out];exact Owns.nil _ _,hA⟩
  |some ad=>
   go_enter Tryz.func32,Tryz.ntmps32
   go_wp2_with (first
    |(go_at_call 50;refine (rvalid_any _ _ _ _ _ h).mono ?_;rintro e w1 ⟨rfl,hA⟩)
    |(at_builtin;refine wpList_appA rfl _ _ rfl w.heap.size (.slice none 0 0) [] rfl (Owns.nil _ _) ad len cap l rfl HL.out (h.adds hA).news (by simp;omega) hA.size ?_;intro v1 w2 hO1 hg1 _;have hA1:Adds w w2:=hA.grown hg1 (Owns.nil _ _);clear hg1))
   go_ret
   exact ⟨_,rfl,by rw [HN.out];simpa using hO1,hA1⟩
 |false=>
  have HN:Hid (Sm.nrm l=l.foldl Sm.put []):=by show _=_;unfold Sm.nrm;rw [hv];rfl
  have hR:=fun w' (k:Adds w w')=>rvalid_any a len cap l w' (h.adds k)
  rw [hv] at hR
  have HR:Hid _:=hR
  have hat:=h.2.2
  clear hR hv h
  go_enter Tryz.func32,Tryz.ntmps32
  go_wp2_with (go_at_call 50;refine (HR.out _ (Adds.refl _)).mono ?_;rintro e w1 ⟨rfl,hA0⟩)
  go_loopw [3,12] (fun v3 i wr=>∃(k:Nat),k≤len∧i=.int .i64 k∧Owns wr w.heap.size v3 ((l.take k).foldl Sm.put [])∧Adds w wr) (fun _ i _=>len - (intOf i).toNat)
  case atStart=>exact ⟨0,Nat.zero_le _,rfl,Owns.nil _ _,hA0⟩
  case round=>
   obtain ⟨k,hk,rfl,hO,hA⟩:=hrel
   obtain ⟨a1,cap1,rfl,hc1,hc2,_⟩:=hO.form
   have hsz:=hA.size
   by_cases hlt:k < len
   ·obtain ⟨b,o,rfl,hb,hat⟩:=hat (by omega)
    obtain ⟨yx,yv,hy⟩:=get_pair (d:=l) (k:=k) (by have:=HL.out;omega)
    obtain ⟨h1,h2⟩:=hat k yx yv hy
    have g1:wr.cell? ⟨b,o+k * 2,none⟩=some (.int .u16 yx):=(hA.cell hb).trans h1
    have g2:wr.cell? ⟨b,o+k * 2+1,none⟩=some (.int .u8 yv):=(hA.cell hb).trans h2
    have hbr:b < wr.heap.size:=by omega
    have hltz:(k:Int) < (len:Int):=by omega
    have HP:Hid _:=Sm.fold_put_succ hy
    have hlen:Hid (((l.take k).foldl Sm.put []).length≤16777216):=by
     have q:=Sm.fold_put_len (l.take k) []
     have q2:(l.take k).length≤k:=List.length_take_le _ _
     show _≤_
     simp only [List.length_nil] at q;omega
    clear hat hy h1 h2
    go_wp2_with (go_at_call 51;refine (rput_any a1 cap1 yx yv ((hO.alloc _).held (by have:=hlen.out;omega)) hlen.out).mono ?_;rintro e w2 ⟨r,rfl,hO2,hA2⟩)
    go_roundw
    case rel=>exact ⟨k+1,by omega,by go_num,by rw [HP.out];exact hO2.mono (by simp;omega),(hA.alloc _).trans hA2⟩
    case measure=>simp [intOf]<;>omega
   ·have hltz:¬(k:Int) < (len:Int):=by omega
    have HE:Hid (l.take k=l):=List.take_of_length_le (by have:=HL.out;omega)
    clear hat
    go_wp2_with fail
    go_ret
    have e2:l.foldl Sm.put []=(l.take k).foldl Sm.put []:=by rw [HE.out]
    exact ⟨_,rfl,by rw [HN.out,e2];exact hO,hA⟩
theorem rPut_any (a:Option Addr) (len cap:Nat) (l:List Cl) (x v:Int) (w:World) (h:Held w a len l) (hb24:len≤16777216):Calls Tryz.prog 105 #[.slice a len cap,.int .u16 x,.int .u8 v] w fun e w'=>∃r,e=.returned r∧Owns w' w.heap.size r (Sm.put (Sm.nrm l) (x,v))∧Adds w w':=by
 have hlen:Hid ((Sm.nrm l).length≤16777216):=by have:=Sm.nrm_len l;have:=h.1;show _≤_;omega
 go_enter Tryz.func105,Tryz.ntmps105
 go_wp2_with (first
  |(go_at_call 32;refine (rnrm_any _ _ _ _ _ h hb24).mono ?_;rintro e w1 ⟨r1,rfl,hO1,hA1⟩;obtain ⟨a1,cap1,rfl,_,_,_⟩:=hO1.form)
  |(go_at_call 51;refine (rput_any a1 cap1 x v (hO1.held (by have:=hlen.out;omega)) hlen.out).mono ?_;rintro e w2 ⟨r,rfl,hO2,hA2⟩))
 go_ret
 exact ⟨_,rfl,hO2.mono hA1.size,hA1.trans hA2⟩
end K12
namespace K12
variable {w:World}
theorem Owns.form2 {base:Nat} {v:Value} {d:List Cl} (h:Owns w base v d):
 ∃a n cap,v=.slice a n cap∧Hid (d.length=n)∧n≤cap∧cap≤9223372036854775807∧(0 < cap→∃g,a=some ⟨g,0,none⟩∧base≤g∧g < w.heap.size):=by
 obtain ⟨a,cap,h1,h2,h3,h4⟩:=h.form
 exact ⟨a,d.length,cap,h1,rfl,h2,h3,h4⟩
def HeldB (w:World) (a:Option Addr) (n:Nat) (b:List Int):Prop:=b.length=n∧(0 < n→∃g o,a=some ⟨g,o,none⟩∧g < w.heap.size∧∀j v,b[j]? =some v→w.cell? ⟨g,o+j,none⟩=some (.int .u8 v))
theorem HeldB.adds {w':World} {a:Option Addr} {n:Nat} {b:List Int} (h:HeldB w a n b) (k:Adds w w'):HeldB w' a n b:=
 ⟨h.1,fun hn=>by
   obtain ⟨g,o,ha,hb,hat⟩:=h.2 hn
   exact ⟨g,o,ha,by have:=k.size;omega,fun j v hv=>(k.cell hb).trans (hat j v hv)⟩⟩
theorem Sm.lod_len (x:Int) (b:List Int):(Sm.lod x b).length=b.length:=by simp [Sm.lod]
theorem Sm.lod_take (x:Int) (b:List Int) {k:Nat} {v:Int} (h:b[k]? =some v):(Sm.lod x b).take (k+1)=(Sm.lod x b).take k++[((x+(k:Int)) % 65536,v)]:=by
 have hk:k < b.length:=(List.getElem?_eq_some_iff.1 h).1
 refine (List.take_add_one ..).trans ?_
 rw [show (Sm.lod x b)[k]? =some ((x+(k:Int)) % 65536,v) from ?_]; ·rfl
 simp only [Sm.lod,List.getElem?_map,List.getElem?_range hk,Option.map_some]
 rw [List.getD_eq_getElem?_getD,h];rfl
theorem rload_any (a:Option Addr) (len cap:Nat) (b:List Int) (z:Int) (h:HeldB w a len b) (hb16:len≤65536) (z0:0≤z) (z1:z < 65536):
 Calls Tryz.prog 29 #[.int .u16 z,.slice a len cap] w fun e w'=>∃r,e=.returned r∧Owns w' w.heap.size r (Sm.nrm (Sm.lod z b))∧Adds w w':=by
 have HL:Hid (b.length=len):=h.1
 have hat:=h.2
 clear h
 go_enter Tryz.func29,Tryz.ntmps29
 go_wp2
 go_loopw [5,9] (fun v5 i wr=>∃k:Nat,k≤len∧i=.int .i64 k∧Owns wr w.heap.size v5 ((Sm.lod z b).take k)∧Adds w wr) (fun _ i _=>len - (intOf i).toNat)
 case atStart=>exact ⟨0,Nat.zero_le _,rfl,Owns.nil _ _,Adds.refl _⟩
 case round=>
  obtain ⟨k,hk,rfl,hO,hA⟩:=hrel
  have hsz:=hA.size
  by_cases hlt:k < len
  ·obtain ⟨g,o,rfl,hg,hat⟩:=hat (by omega)
   obtain ⟨v,hv⟩:∃v,b[k]? =some v:=⟨b[k]'(by have:=HL.out;omega),List.getElem?_eq_getElem (by have:=HL.out;omega)⟩
   have g1:wr.cell? ⟨g,o+k,none⟩=some (.int .u8 v):=(hA.cell hg).trans (hat k v hv)
   have HT:Hid _:=Lib.hid (Sm.lod_take z b hv)
   have hol:((Sm.lod z b).take k).length≤k:=List.length_take_le _ _
   have HOL:Hid _:=Lib.hid hol
   have hltz:(k:Int) < (len:Int):=by omega
   have hgr:g < wr.heap.size:=by omega
   have hw0:IntKind.u16.wrap (k:Int)=(k:Int):=by simp [IntKind.wrap,IntKind.bits,IntKind.signed];omega
   clear hat hv hol
   go_wp2_with (at_builtin;refine wpList_app1 rfl _ _ rfl w.heap.size u5 ((Sm.lod z b).take k) ((z+(k:Int)) % 65536) v _ _ rfl rfl (by simp) hO (by have:=HOL.out;omega) (by omega) ?_;intro v1 w2 hO2 hg2 _;have hA2:Adds w w2:=hA.grown hg2 hO;clear hg2)
   go_roundw
   case rel=>exact ⟨k+1,by omega,by go_num,by rw [HT.out];exact hO2,hA2⟩
   case measure=>simp [intOf]<;>omega
  ·have hltz:¬(k:Int) < (len:Int):=by omega
   have e2:(Sm.lod z b).take k=Sm.lod z b:=List.take_of_length_le (by rw [Sm.lod_len];have:=HL.out;omega)
   rw [e2] at hO
   obtain ⟨a1,n1,cap1,rfl,hn1,hc1,hc2,_⟩:=hO.form2
   have hn2:n1≤65536:=by have q1:=hn1.out;rw [Sm.lod_len] at q1;have:=HL.out;omega
   have HH:Hid _:=Lib.hid (hO.held (by rw [Sm.lod_len];have:=HL.out;omega))
   clear e2 hat
   go_wp2_with (go_at_call 32;refine (rnrm_any _ _ _ _ _ HH.out (by omega)).mono ?_;rintro e w2 ⟨r,rfl,hO2,hA2⟩)
   go_ret
   exact ⟨_,rfl,hO2.mono hsz,hA.trans hA2⟩
end K12
namespace K22.S
open Go.Proofs.YteggjjhjmhccjaaGreat.S
variable {a b i n s:Int} {k:Nat}
def rk (l n:Int):Int:=(l - n - 1) % 8
def onB (s i:Int):Bool:=decide (s / 2 ^ i.toNat % 2=1)
def fst (s f:Int):Nat→Int
 |0=> -1
 |k+1=>if onB s ((f+7 - k) % 8) then (f+7 - k) % 8 else fst s f k
def hi (s n:Int):Int:=fst s ((n+1) % 8) 8
def bst (s n:Int):Nat→Int
 |0=> -1
 |k+1=>if onB s k=true∧(bst s n k < 0∨rk k n < rk (bst s n k) n) then k else bst s n k
def rot (s:Int) (f:Nat):Int:=(s / 2 ^ f+s * 2 ^ (8 - f)) % 256
def blk (m s:Int) (sp:Bool):Int:=if sp then bits .andNot .u8 s m else s
def pk (q b n:Int):Int:=if 0≤hi q n∧(hi b n < 0∨rk (hi q n) n < rk (hi b n) n) then hi q n else -1
theorem pr_and7 (n:Int):bits .and .i64 n 7=n % 8:=by
 have h7:(BitVec.ofInt 64 7).toNat=2 ^ 3 - 1:=by decide
 have key:(BitVec.ofInt 64 n &&& BitVec.ofInt 64 7).toNat=(n % ((2 ^ 64:Nat):Int)).toNat % 2 ^ 3:=by
  rw [BitVec.toNat_and,BitVec.toNat_ofInt,h7,Nat.and_two_pow_sub_one_eq_mod]
 show IntKind.i64.wrap ((BitVec.ofInt 64 n &&& BitVec.ofInt 64 7).toNat:Nat)=n % 8
 rw [key,IntKind.wrap_i64]
 omega
theorem rk_bd (l n:Int):0≤rk l n∧rk l n < 8:=by unfold rk;omega
theorem rk_inj (a0:0≤a) (a1:a < 8) (b0:0≤b) (b1:b < 8) (h:rk a n=rk b n):a=b:=by unfold rk at h;omega
theorem fst_spec (s f:Int):∀k:Nat,(fst s f k= -1∧∀j:Nat,j < k→onB s ((f+7 - j) % 8)=false)∨
 ∃j:Nat,j < k∧fst s f k=(f+7 - j) % 8∧onB s ((f+7 - j) % 8)=true∧∀i:Nat,j < i→i < k→onB s ((f+7 - i) % 8)=false
 |0=> .inl ⟨rfl,fun j hj=>by omega⟩
 |k+1=>by
  cases ho:onB s ((f+7 - k) % 8) with
  |true=>exact .inr ⟨k,by omega,by simp [fst,ho],ho,fun i h1 h2=>by omega⟩
  |false=>
   have e:fst s f (k+1)=fst s f k:=by simp [fst,ho]
   rw [e]
   rcases fst_spec s f k with ⟨h1,h2⟩|⟨j,h1,h2,h3,h4⟩
   ·refine .inl ⟨h1,fun j hj=> ?_⟩
    by_cases hk:j=k
    ·subst hk;exact ho
    ·exact h2 j (by omega)
   ·refine .inr ⟨j,by omega,h2,h3,fun i hi hik=> ?_⟩
    by_cases hk:i=k
    ·subst hk;exact ho
    ·exact h4 i hi (by omega)
theorem hi_spec (s n:Int):(hi s n= -1∧∀i:Int,0≤i→i < 8→onB s i=false)∨
 (0≤hi s n∧hi s n < 8∧onB s (hi s n)=true∧∀i:Int,0≤i→i < 8→onB s i=true→rk (hi s n) n≤rk i n):=by
 have key:∀i:Int,0≤i→i < 8→((n+1) % 8+7 - ((7 - (rk i n).toNat:Nat):Int)) % 8=i:=by
  intro i h0 h1
  have hb:=rk_bd i n
  unfold rk at hb⊢
  omega
 rcases fst_spec s ((n+1) % 8) 8 with ⟨h1,h2⟩|⟨j,h1,h2,h3,h4⟩
 ·refine .inl ⟨h1,fun i i0 i1=> ?_⟩
  rw [←key i i0 i1]
  exact h2 _ (by omega)
 ·refine .inr ⟨?_,?_,?_,fun i i0 i1 ho=> ?_⟩
  ·unfold hi;rw [h2];omega
  ·unfold hi;rw [h2];omega
  ·unfold hi;rw [h2];exact h3
  ·unfold hi;rw [h2]
   have hb:=rk_bd i n
   rw [←key i i0 i1] at ho
   by_cases hj:j < 7 - (rk i n).toNat
   ·rw [h4 _ hj (by omega)] at ho;cases ho
   ·have e:rk (((n+1) % 8+7 - (j:Int)) % 8) n=7 - j:=by unfold rk;omega
    rw [e];omega
theorem hi_bd (s n:Int): -1≤hi s n∧hi s n < 8:=by
 rcases hi_spec s n with ⟨h,_⟩|⟨h1,h2,_⟩<;>omega
theorem bst_spec (s n:Int):∀k:Nat,(bst s n k= -1∧∀i:Int,0≤i→i < k→onB s i=false)∨
 (0≤bst s n k∧bst s n k < k∧onB s (bst s n k)=true∧∀i:Int,0≤i→i < k→onB s i=true→rk (bst s n k) n≤rk i n)
 |0=> .inl ⟨rfl,fun i h0 h1=>by omega⟩
 |k+1=>by
  have hb:=bst_spec s n k
  by_cases h:onB s k=true∧(bst s n k < 0∨rk k n < rk (bst s n k) n)
  ·have e:bst s n (k+1)=k:=by simp only [bst];rw [if_pos h]
   rw [e]
   refine .inr ⟨by omega,by omega,h.1,fun i i0 i1 ho=> ?_⟩
   by_cases hk:i=k
   ·subst hk;exact Int.le_refl _
   ·rcases hb with ⟨h1,h2⟩|⟨h1,h2,h3,h4⟩
    ·rw [h2 i i0 (by omega)] at ho;cases ho
    ·have:=h4 i i0 (by omega) ho
     rcases h.2 with h5|h5<;>omega
  ·have e:bst s n (k+1)=bst s n k:=by simp only [bst];rw [if_neg h]
   rw [e]
   rcases hb with ⟨h1,h2⟩|⟨h1,h2,h3,h4⟩
   ·refine .inl ⟨h1,fun i i0 i1=> ?_⟩
    by_cases hk:i=k
    ·subst hk
     cases ho:onB s k with
     |false=>rfl
     |true=>exact absurd ⟨ho,.inl (by omega)⟩ h
    ·exact h2 i i0 (by omega)
   ·refine .inr ⟨h1,by omega,h3,fun i i0 i1 ho=> ?_⟩
    by_cases hk:i=k
    ·subst hk
     have:¬rk k n < rk (bst s n k) n:=fun hl=>h ⟨ho,.inr hl⟩
     omega
    ·exact h4 i i0 (by omega) ho
theorem bst_hi (s n:Int):bst s n 8=hi s n:=by
 rcases bst_spec s n 8 with ⟨h1,h2⟩|⟨h1,h2,h3,h4⟩<;>rcases hi_spec s n with ⟨k1,k2⟩|⟨k1,k2,k3,k4⟩
 ·omega
 ·rw [h2 _ k1 (by omega)] at k3;cases k3
 ·rw [k2 _ h1 (by omega)] at h3;cases h3
 ·refine rk_inj (n:=n) h1 (by omega) k1 k2 ?_
  have a:=h4 _ k1 (by omega) k3
  have b:=k4 _ h1 (by omega) h3
  omega
theorem bst_on (h:onB s k=true∧(bst s n k < 0∨rk k n < rk (bst s n k) n)):bst s n (k+1)=k:=by simp only [bst];rw [if_pos h]
theorem bst_off (h:¬(onB s k=true∧(bst s n k < 0∨rk k n < rk (bst s n k) n))):bst s n (k+1)=bst s n k:=by simp only [bst];rw [if_neg h]
theorem pr_u8_bd:0≤IntKind.u8.wrap n∧IntKind.u8.wrap n < 256:=by simp [IntKind.wrap,IntKind.bits,IntKind.signed];omega
theorem andNot_bd (a b:Int):0≤bits .andNot .u8 a b∧bits .andNot .u8 a b < 256:=pr_u8_bd
theorem pr_and_bd:0≤bits .and .u8 a b∧bits .and .u8 a b < 256:=pr_u8_bd
theorem pr_or_bd:0≤bits .or .u8 a b∧bits .or .u8 a b < 256:=pr_u8_bd
theorem blk_bd (m s:Int) (sp:Bool) (s0:0≤s) (s1:s < 256):0≤blk m s sp∧blk m s sp < 256:=by
 cases sp
 ·exact ⟨s0,s1⟩
 ·exact andNot_bd _ _
theorem pk_spec (q b n:Int):
 (pk q b n= -1∧(hi q n= -1∨(0≤hi q n∧∃i:Int,0≤i∧i < 8∧onB b i=true∧rk i n≤rk (hi q n) n)))∨
 (0≤pk q b n∧pk q b n < 8∧onB q (pk q b n)=true∧(∀i:Int,0≤i→i < 8→onB q i=true→rk (pk q b n) n≤rk i n)∧∀i:Int,0≤i→i < 8→onB b i=true→rk (pk q b n) n < rk i n):=by
 by_cases h:0≤hi q n∧(hi b n < 0∨rk (hi q n) n < rk (hi b n) n)
 ·have e:pk q b n=hi q n:=by unfold pk;rw [if_pos h]
  rw [e]
  rcases hi_spec q n with ⟨h1,h2⟩|⟨h1,h2,h3,h4⟩
  ·omega
  ·refine .inr ⟨h1,h2,h3,h4,fun i i0 i1 ho=> ?_⟩
   rcases hi_spec b n with ⟨k1,k2⟩|⟨k1,k2,k3,k4⟩
   ·rw [k2 i i0 i1] at ho;cases ho
   ·have:=k4 i i0 i1 ho
    rcases h.2 with h5|h5<;>omega
 ·have e:pk q b n= -1:=by unfold pk;rw [if_neg h]
  refine .inl ⟨e,?_⟩
  rcases hi_spec q n with ⟨h1,h2⟩|⟨h1,h2,h3,h4⟩
  ·exact .inl h1
  ·refine .inr ⟨h1,?_⟩
   rcases hi_spec b n with ⟨k1,k2⟩|⟨k1,k2,k3,k4⟩
   ·exact absurd ⟨h1,.inl (by omega)⟩ h
   ·refine ⟨hi b n,k1,k2,k3,?_⟩
    have:¬rk (hi q n) n < rk (hi b n) n:=fun hl=>h ⟨h1,.inr hl⟩
    omega
end K22.S
namespace K22.S
open Go.Proofs.YteggjjhjmhccjaaGreat.S
structure Pc where
 St:Int
 Le:Bool
 Fo:Bool
 Si:Bool
 Ft:Bool
 Lw:Int
 Hg:Int
 Au:Bool
 Ro:Bool
 Sp:Bool
 RI:Bool
 Po:Bool
 Li:Int
 Ed:Int
 IS:Int
 IM:Int
 Lo:Int
 Sq:Int
 Sv:Int
 Su:Bool
deriving DecidableEq
def Pc.cs (p:Pc):Array Value:=#[.int .i64 p.St,.bool p.Le,.bool p.Fo,.bool p.Si,.bool p.Ft,.int .u8 p.Lw,.int .u8 p.Hg,.bool p.Au,.bool p.Ro,.bool p.Sp,.bool p.RI,.bool p.Po,.int .u8 p.Li,.int .u8 p.Ed,.int .u8 p.IS,.int .u8 p.IM,.int .i64 p.Lo,.int .i64 p.Sq,.int .i64 p.Sv,.bool p.Su]
def Ok (p:Pc):Prop:=(0≤p.IS∧p.IS < 256)∧(0≤p.Lw∧p.Lw < 256)∧(0≤p.Hg∧p.Hg < 256)
def nw:Pc:=⟨0,false,false,false,false,0,0,false,false,false,false,false,0,0,0,0,7,0,0,false⟩
def raise (p:Pc) (l:Int):Pc:={p with Ed:=bits .and .u8 (bits .or .u8 p.Ed (bits .andNot .u8 l p.Li)) l,Li:=l}
def req (p:Pc):Int:=if p.Le then p.Li else p.Ed
def pkc (p:Pc):Int:=pk (bits .andNot .u8 (req p) p.IM) (blk p.IM p.IS p.Sp) p.Lo
def bl (n:Int):Int:=2 ^ n.toNat % 256
def sv (p:Pc) (n:Int):Pc:={p with IS:=bits .or .u8 p.IS (bl n),Ed:=bits .andNot .u8 p.Ed (bl n)}
def en (p:Pc) (n:Int) (r:Bool):Pc:=if n= -1 then p else {p with IS:=bits .andNot .u8 p.IS (bl n),Lo:=if r then n else p.Lo}
def his (p:Pc):Int:=hi (blk p.IM p.IS p.Sp) p.Lo
def int (p:Pc):Bool:=decide (0≤pkc p)
def lst (p:Pc):Int:=if p.Ft then 4 else 0
def wrH (p:Pc) (v:Int):Pc:=
 if p.St=2 then {p with Hg:=v,St:=if p.Si then lst p else 3}
 else if p.St=3 then {p with St:=lst p}
 else if p.St=4 then {p with Au:=bits .and .u8 v 2 !=0,St:=0}
 else {p with IM:=v}
def ini (p:Pc) (v:Int):Pc:=⟨2,bits .and .u8 v 8 !=0,bits .and .u8 v 4 !=0,bits .and .u8 v 2 !=0,bits .and .u8 v 1 !=0,bits .and .u8 v 224,0,false,false,false,false,false,p.Li,0,0,0,7,0,0,false⟩
def mode (p:Pc) (v:Int):Pc:={p with
 Sp:=if bits .and .u8 v 64=0 then p.Sp else bits .and .u8 v 32 !=0
 RI:=if bits .and .u8 v 2=0 then p.RI else bits .and .u8 v 1 !=0
 Po:=p.Po||(bits .and .u8 v 4 !=0)}
def cmd (p:Pc) (v:Int):Pc:=
 if v / 32=0 then {p with Ro:=false}
 else if v / 32=4 then {p with Ro:=true}
 else if v / 32=6 then {p with Lo:=v % 8}
 else if v / 32=1 then en p (his p) false
 else if v / 32=5 then en p (his p) true
 else if v / 32=3 then en p (v % 8) false
 else if v / 32=7 then en p (v % 8) true
 else p
def wr (p:Pc) (h:Bool) (v:Int):Pc:=
 if h then wrH p v else if bits .and .u8 v 16≠0 then ini p v else if bits .and .u8 v 8≠0 then mode p v else cmd p v
def poll (p:Pc):Pc:=
 if pkc p= -1 then {p with Po:=false}
 else if p.Au then en (sv {p with Po:=false} (pkc p)) (pkc p) p.Ro else sv {p with Po:=false} (pkc p)
def pollV (p:Pc):Int:=if pkc p= -1 then 0 else 128+pkc p
def rdP (p:Pc) (h:Bool):Pc:=if h then p else if p.Po then poll p else p
def rdW (p:Pc) (h:Bool):Int:=if h then p.IM else if p.Po then pollV p else if p.RI then p.IS else req p
def ch (p:Pc):Pc:=
 if pkc p= -1 then {p with Sq:=1,Sv:=7,Su:=true} else sv {p with Sq:=1,Sv:=pkc p,Su:=false} (pkc p)
def low (p:Pc):Int:=if p.Fo then (bits .and .u8 p.Lw 224+4 * (p.Sv % 8)) % 256 else (bits .and .u8 p.Lw 192+8 * (p.Sv % 8)) % 256
def fin (p:Pc):Pc:=if p.Au && !p.Su then en {p with Sq:=0} (p.Sv % 8) p.Ro else {p with Sq:=0}
def ack (p:Pc):Pc:=if p.Sq=0 then ch p else if p.Sq=1 then {p with Sq:=2} else fin p
def ackV (p:Pc):Int:=if p.Sq=0 then 205 else if p.Sq=1 then low p else p.Hg
theorem pkc_bd (p:Pc): -1≤pkc p∧pkc p < 8:=by
 rcases pk_spec (bits .andNot .u8 (req p) p.IM) (blk p.IM p.IS p.Sp) p.Lo with ⟨h,_⟩|⟨h1,h2,_⟩
 ·unfold pkc;omega
 ·unfold pkc;omega
theorem his_bd (p:Pc): -1≤his p∧his p < 8:=hi_bd _ _
theorem and7_8 (v:Int) (h0:0≤v) (h1:v < 256):bits .and .u8 v 7=v % 8:=by
 obtain ⟨x,rfl⟩:=Int.eq_ofNat_of_zero_le h0
 have key:∀x:Fin 256,bits .and .u8 (x.val:Int) 7=(x.val:Int) % 8:=by decide+kernel
 exact key ⟨x,by omega⟩
end K22.S
namespace K22.S
open Go.Proofs.YteggjjhjmhccjaaGreat.S
theorem Ok_raise {p:Pc} (h:Ok p) (l:Int):Ok (raise p l):=h
theorem Ok_en {p:Pc} (h:Ok p) (n:Int) (r:Bool):Ok (en p n r):=by
 unfold en
 split
 ·exact h
 ·exact ⟨andNot_bd _ _,h.2⟩
theorem Ok_sv {p:Pc} (h:Ok p) (n:Int):Ok (sv p n):=⟨pr_or_bd,h.2⟩
theorem Ok_wr {p:Pc} (h:Ok p) (hi:Bool) {v:Int} (hv:0≤v∧v < 256):Ok (wr p hi v):=by
 unfold wr
 split
 ·unfold wrH
  split
  ·exact ⟨h.1,h.2.1,hv⟩
  ·split
   ·exact h
   ·split
    ·exact h
    ·exact h
 ·split
  ·exact ⟨⟨by show (0:Int)≤0;omega,by show (0:Int) < 256;omega⟩,pr_and_bd,by show (0:Int)≤0;omega,by show (0:Int) < 256;omega⟩
  ·split
   ·exact h
   ·unfold cmd
    repeat' split
    all_goals first|exact h|exact Ok_en h _ _
end K22.S
namespace K12.Sm
variable {k:Nat} {x:Int}
def has (x:Int) (r:Rg):Bool:=decide (r.fr≤x) && decide (x≤r.tw)
theorem has_yes {r:Rg} (h1:r.fr≤x) (h2:x≤r.tw):has x r=true:=by simp [has,h1,h2]
theorem has_no1 {r:Rg} (h1:¬r.fr≤x):has x r=false:=by simp [has,h1]
theorem has_no2 {r:Rg} (h1:¬x≤r.tw):has x r=false:=by simp [has,h1]
def fndFrom (x:Int):List Rg→Nat→Int
 |[],_=> -1
 |r::l,k=>if has x r then (k:Int) else fndFrom x l (k+1)
def fnd (l:List Rg) (x:Int):Int:=fndFrom x l 0
def sel (l:List Rg) (x:Int):Option Rg:=l.find? (has x)
theorem fndFrom_spec (x:Int):∀(l:List Rg) (k:Nat),(fndFrom x l k= -1∧l.find? (has x)=none)∨∃j r,fndFrom x l k=((k+j:Nat):Int)∧l[j]? =some r∧l.find? (has x)=some r
 |[],k=> .inl ⟨rfl,rfl⟩
 |r::l,k=>by
  cases h:has x r with
  |true=>exact .inr ⟨0,r,by simp [fndFrom,h],rfl,by simp [h]⟩
  |false=>
   rcases fndFrom_spec x l (k+1) with ⟨h1,h2⟩|⟨j,q,h1,h2,h3⟩
   ·exact .inl ⟨by simp [fndFrom,h,h1],by simp [h,h2]⟩
   ·refine .inr ⟨j+1,q,?_,by simpa using h2,by simp [h,h3]⟩
    simp only [fndFrom,h,h1]
    simp;omega
theorem fnd_spec (l:List Rg) (x:Int):(fnd l x= -1∧sel l x=none)∨∃(j:Nat) (r:Rg),fnd l x=(j:Int)∧l[j]? =some r∧sel l x=some r:=by
 have:=fndFrom_spec x l 0
 simpa [fnd,sel] using this
theorem rdrop_cons {d:List Rg} {c:Rg} (h:d[k]? =some c):d.drop k=c::d.drop (k+1):=by
 obtain ⟨h1,rfl⟩:=List.getElem?_eq_some_iff.1 h
 exact List.drop_eq_getElem_cons h1
theorem fnd_hit {l:List Rg} {r:Rg} (hr:l[k]? =some r) (h:has x r=true) (hk:fnd l x=fndFrom x (l.drop k) k):fnd l x=(k:Int):=by
 rw [hk,rdrop_cons hr];simp [fndFrom,h]
theorem fnd_miss {l:List Rg} {r:Rg} (hr:l[k]? =some r) (h:has x r=false) (hk:fnd l x=fndFrom x (l.drop k) k):fnd l x=fndFrom x (l.drop (k+1)) (k+1):=by
 rw [hk,rdrop_cons hr];simp [fndFrom,h]
theorem fnd_end {l:List Rg} (hl:l.length≤k) (hk:fnd l x=fndFrom x (l.drop k) k):fnd l x= -1:=by
 rw [hk,List.drop_eq_nil_of_le hl];rfl
def rd (l:List Rg) (m:List Cl) (x:Int):Int:=if fnd l x < 0 then 255 else get m x
def lim (n:Int):Int:=if n < 0 then 0 else if 100 < n then 100 else n
def wts (l:List Rg) (x:Int):Int:=match sel l x with
 |none=>0
 |some r=>lim r.wt
def ramAt (l:List Rg) (x:Int):Bool:=match sel l x with
 |none=>false
 |some r=>r.ram
def wrt (l:List Rg) (m:List Cl) (x v:Int):List Cl:=if ramAt l x then put (nrm m) (x,v) else nrm m
def rok (r:Rg):Bool:= !(decide (r.tw < r.fr)||decide (r.wt < 0)||decide (100 < r.wt))
def rval (l:List Rg):Int:=if 16 < l.length then 3 else if l.all rok then 0 else 1
theorem rok_no {r:Rg} (h:r.tw < r.fr∨r.wt < 0∨100 < r.wt):rok r=false:=by
 rcases h with h|h|h<;>simp [rok,h]
theorem rok_yes {r:Rg} (h1:¬r.tw < r.fr) (h2:¬r.wt < 0) (h3:¬100 < r.wt):rok r=true:=by simp [rok,h1,h2,h3]
theorem rval_bad {l:List Rg} {r:Rg} (hl:l.length≤16) (hr:l[k]? =some r) (h:rok r=false):rval l=1:=by
 unfold rval
 rw [if_neg (by omega),if_neg]
 intro q
 have:=List.all_eq_true.1 q r (List.mem_of_getElem? hr)
 rw [h] at this;cases this
theorem rval_ok {l:List Rg} (hl:l.length≤16) (h:∀k r,k < l.length→l[k]? =some r→rok r=true):rval l=0:=by
 unfold rval
 rw [if_neg (by omega),if_pos]
 refine List.all_eq_true.2 fun r hr=> ?_
 obtain ⟨k,hk⟩:=List.getElem?_of_mem hr
 exact h k r (List.getElem?_eq_some_iff.1 hk).1 hk
end K12.Sm
namespace K12
theorem rfind_any (a:Option Addr) (len cap:Nat) (l:List Rg) (x:Int) (w:World) (h:HeldR w a len l):Calls Tryz.prog 104 #[.slice a len cap,.int .u16 x] w fun e w'=>e=.returned (.int .i64 (Sm.fnd l x))∧Adds w w':=by
 obtain ⟨hl,hbig,hat⟩:=h
 have HL:Hid _:=Lib.hid hl
 have HA:Hid _:=Lib.hid hat
 clear hl hat
 go_enter Tryz.func104,Tryz.ntmps104
 go_wp2
 go_loopw [9] (fun i wr=>∃k:Nat,k≤len∧i=.int .i64 k∧Adds w wr∧Hid (Sm.fnd l x=Sm.fndFrom x (l.drop k) k)) (fun i _=>len - (intOf i).toNat)
 case atStart=>exact ⟨0,Nat.zero_le _,rfl,Adds.refl _,rfl⟩
 case round=>
  obtain ⟨k,hk,rfl,⟨⟨n1,os1⟩,rfl⟩,HF⟩:=hrel
  by_cases hlt:k < len
  ·have hltz:(k:Int) < (len:Int):=by omega
   obtain ⟨r,hr⟩:∃r,l[k]? =some r:=⟨l[k]'(by have:=HL.out;omega),List.getElem?_eq_getElem _⟩
   obtain ⟨b,o,rfl,hb,hat⟩:=HA.out (by omega)
   obtain ⟨h1,h2,h3,h4⟩:=hat k r hr
   have HHit:Hid _:=Lib.hid (fun h=>Sm.fnd_hit hr h HF.out)
   have HMiss:Hid _:=Lib.hid (fun h=>Sm.fnd_miss hr h HF.out)
   obtain ⟨fr,tw,ram,wt⟩:=r
   simp only at h1 h2 h3 h4
   clear hat hr
   by_cases q1:fr≤x
   ·by_cases q2:x≤tw
    ·have HV:Hid _:=Lib.hid (HHit.out (Sm.has_yes q1 q2))
     go_wp2_with fail
     go_ret
     exact ⟨rn HV.out.symm,aD⟩
    ·have HV:Hid _:=Lib.hid (HMiss.out (Sm.has_no2 q2))
     have q2':decide (x≤tw)=false:=decide_eq_false q2
     go_wp2_with fail
     go_roundw
     case rel=>exact ⟨k+1,by omega,by go_num,aD,HV⟩
     case measure=>simp [intOf]<;>omega
   ·have HV:Hid _:=Lib.hid (HMiss.out (Sm.has_no1 q1))
    have q1':decide (fr≤x)=false:=decide_eq_false q1
    go_wp2_with fail
    go_roundw
    case rel=>exact ⟨k+1,by omega,by go_num,aD,HV⟩
    case measure=>simp [intOf]<;>omega
  ·have hltz:¬(k:Int) < (len:Int):=by omega
   have HV:Hid _:=Lib.hid (Sm.fnd_end (by have:=HL.out;omega) HF.out)
   go_wp2_with fail
   go_ret
   exact ⟨rn HV.out.symm,aD⟩
end K12
namespace K12
variable {a:Option Addr} {cap len:Nat} {w:World}
theorem rrgval_any {l:List Rg} (h:HeldR w a len l):Calls Tryz.prog 82 #[.slice a len cap] w fun e w'=>e=.returned (.int .i64 (Sm.rval l))∧Adds w w':=by
 obtain ⟨hl,hbig,hat⟩:=h
 have HL:Hid _:=Lib.hid hl
 have HA:Hid _:=Lib.hid hat
 clear hl hat
 by_cases h16:16 < len
 ·have hz:(16:Int) < (len:Int):=by omega
  have HV:Hid (Sm.rval l=3):=by show _=_;unfold Sm.rval;rw [if_pos (by have:=HL.out;omega)]
  go_enter Tryz.func82,Tryz.ntmps82
  go_wp2
  go_ret
  exact ⟨rn HV.out.symm,Adds.refl _⟩
 have hz:¬(16:Int) < (len:Int):=by omega
 go_enter Tryz.func82,Tryz.ntmps82
 go_wp2
 clear hz
 go_loopw [10] (fun i wr=>∃k:Nat,k≤len∧i=.int .i64 k∧Adds w wr∧Hid (∀j r,j < k→l[j]? =some r→Sm.rok r=true)) (fun i _=>len - (intOf i).toNat)
 case atStart=>exact ⟨0,Nat.zero_le _,rfl,Adds.refl _,fun j r hj=>absurd hj (by omega)⟩
 case round=>
  obtain ⟨k,hk,rfl,⟨⟨n1,os1⟩,rfl⟩,HF⟩:=hrel
  by_cases hlt:k < len
  ·have hltz:(k:Int) < (len:Int):=by omega
   obtain ⟨r,hr⟩:∃r,l[k]? =some r:=⟨l[k]'(by have:=HL.out;omega),List.getElem?_eq_getElem _⟩
   obtain ⟨b,o,rfl,hb,hat⟩:=HA.out (by omega)
   obtain ⟨h1,h2,h3,h4⟩:=hat k r hr
   have HBad:Hid _:=Lib.hid (fun h=>Sm.rval_bad (l:=l) (k:=k) (r:=r) (by have:=HL.out;omega) hr h)
   have HGood:Hid (Sm.rok r=true→∀j q,j < k+1→l[j]? =some q→Sm.rok q=true):=by
    show _→_
    intro hg j q hj hq
    by_cases hjk:j=k
    ·subst hjk;rw [hr] at hq;cases hq;exact hg
    ·exact HF.out j q (by omega) hq
   obtain ⟨fr,tw,ram,wt⟩:=r
   simp only at h1 h2 h3 h4
   clear hat hr
   by_cases q1:tw < fr
   ·have HV:Hid _:=Lib.hid (HBad.out (Sm.rok_no (.inl q1)))
    go_wp2_with fail
    go_ret
    exact ⟨rn HV.out.symm,aD⟩
   ·have q1':decide (tw < fr)=false:=decide_eq_false q1
    by_cases q2:wt < 0
    ·have HV:Hid _:=Lib.hid (HBad.out (Sm.rok_no (.inr (.inl q2))))
     go_wp2_with fail
     go_ret
     exact ⟨rn HV.out.symm,aD⟩
    ·have q2':decide (wt < 0)=false:=decide_eq_false q2
     by_cases q3:100 < wt
     ·have HV:Hid _:=Lib.hid (HBad.out (Sm.rok_no (.inr (.inr q3))))
      go_wp2_with fail
      go_ret
      exact ⟨rn HV.out.symm,aD⟩
     ·have q3':decide (100 < wt)=false:=decide_eq_false q3
      have HV:Hid _:=Lib.hid (HGood.out (Sm.rok_yes q1 q2 q3))
      go_wp2_with fail
      go_roundw
      case rel=>exact ⟨k+1,by omega,by go_num,aD,HV⟩
      case measure=>simp [intOf]<;>omega
  ·have hltz:¬(k:Int) < (len:Int):=by omega
   have HV:Hid (Sm.rval l=0):=Sm.rval_ok (by have:=HL.out;omega) (fun j r hj hr=>HF.out j r (by have:=HL.out;omega) hr)
   go_wp2_with fail
   go_ret
   exact ⟨rn HV.out.symm,aD⟩
theorem rget_h (a:Option Addr) (len cap:Nat) (d:List Cl) (z:Int) (w:World) (h:Held w a len d):Calls Tryz.prog 118 #[.slice a len cap,.int .u16 z] w fun e w'=>e=.returned (.int .u8 (Sm.get d z))∧Adds w w':=by
 refine Calls.mono (rget_any a len cap d z w h) ?_
 rintro e w' ⟨rfl,rfl⟩
 exact ⟨rfl,Adds.refl _⟩
theorem rrgread_any {a2:Option Addr} {len2 cap2:Nat} (l:List Rg) (d:List Cl) {x:Int} (h:HeldR w a len l) (h2:Held w a2 len2 d):Calls Tryz.prog 91 #[.slice a len cap,.slice a2 len2 cap2,.int .u16 x] w fun e w'=>e=.returned (.int .u8 (Sm.rd l d x))∧Adds w w':=by
 have HF:Hid _:=Lib.hid (rfind_any a len cap l x w h)
 have H2:Hid _:=Lib.hid h2
 obtain ⟨i,hi⟩:∃i,i=Sm.fnd l x:=⟨_,rfl⟩
 rw [←hi] at HF
 clear h h2
 by_cases hn:i < 0
 ·have HV:Hid (Sm.rd l d x=255):=by show _=_;unfold Sm.rd;rw [←hi,if_pos hn]
  clear hi
  go_enter Tryz.func91,Tryz.ntmps91
  go_wp2_with (go_at_call 104;(with_reducible refine HF.out.mono ?_);rintro e w1 ⟨rfl,A1⟩)
  go_ret
  exact ⟨rn HV.out.symm,A1⟩
 ·have HV:Hid (Sm.rd l d x=Sm.get d x):=by show _=_;unfold Sm.rd;rw [←hi,if_neg hn]
  clear hi
  have hn':decide (i < 0)=false:=decide_eq_false hn
  go_enter Tryz.func91,Tryz.ntmps91
  go_wp2_with (first
   |(go_at_call 104;(with_reducible refine HF.out.mono ?_);rintro e w1 ⟨rfl,A1⟩)
   |(go_at_call 118;(with_reducible refine (rget_h a2 len2 cap2 d x w1 (H2.out.adds A1)).mono ?_);rintro e w2 ⟨rfl,A2⟩))
  go_ret
  exact ⟨rn HV.out.symm,A1.trans A2⟩
end K12
namespace K12
theorem q1C13c {P:Prop} (h:P:=by
 go_enter Tryz.func117,Tryz.ntmps117
 go_wp2
 all_goals (go_ret;exact ⟨rn (by rw [HV.out]<;>omega),Adds.refl _⟩)):P:=h
theorem limit_any {n:Int} (w:World):Calls Tryz.prog 117 #[.int .i64 n] w fun e w'=>e=.returned (.int .i64 (Sm.lim n))∧Adds w w':=by
 by_cases h0:n < 0
 ·have HV:Hid (Sm.lim n=0):=by show _=_;unfold Sm.lim;rw [if_pos h0]
  exact q1C13c
 ·by_cases h1:100 < n
  ·have HV:Hid (Sm.lim n=100):=by show _=_;unfold Sm.lim;rw [if_neg h0,if_pos h1]
   exact q1C13c
  ·have HV:Hid (Sm.lim n=n):=by show _=_;unfold Sm.lim;rw [if_neg h0,if_neg h1]
   exact q1C13c
theorem rrgwaits_any {a:Option Addr} {len cap:Nat} (l:List Rg) {x:Int} {w:World} (h:HeldR w a len l):Calls Tryz.prog 116 #[.slice a len cap,.int .u16 x] w fun e w'=>e=.returned (.int .i64 (Sm.wts l x))∧Adds w w':=by
 have HF:=Lib.hid (rfind_any a len cap l x w h)
 rcases Sm.fnd_spec l x with ⟨h1,h2⟩|⟨j,r,h1,h2,h3⟩
 ·rw [h1] at HF
  have HV:Hid (Sm.wts l x=0):=by show _=_;unfold Sm.wts;rw [h2]
  clear h h1 h2
  go_enter Tryz.func116,Tryz.ntmps116
  go_wp2_with (go_at_call 104;(with_reducible refine HF.out.mono ?_);rintro e w1 ⟨rfl,A1⟩)
  go_ret
  exact ⟨rn HV.out.symm,A1⟩
 ·rw [h1] at HF
  have HV:Hid (Sm.wts l x=Sm.lim r.wt):=by show _=_;unfold Sm.wts;rw [h3]
  have hjl:=(List.getElem?_eq_some_iff.1 h2).1
  have hl:=h.1
  have hjz:(j:Int) < (len:Int):=by omega
  have HH:=Lib.hid h
  have H2:=Lib.hid h2
  obtain ⟨b,o,rfl,_,_⟩:=h.2.2 (by omega)
  clear h h1 h2 h3 hjl hl
  go_enter Tryz.func116,Tryz.ntmps116
  go_wp2_with (first
   |(go_at_call 104;(with_reducible refine HF.out.mono ?_);rintro e w1 ⟨rfl,A1⟩;obtain ⟨b',o',hbo,hb',hat⟩:=(HH.out.adds A1).2.2 (by omega);obtain ⟨rfl,rfl⟩:b=b'∧o=o':=(by simpa using hbo);obtain ⟨g1,g2,g3,g4⟩:=hat j r H2.out;clear hat hbo)
   |(go_at_call 117;(with_reducible refine (limit_any w1).mono ?_);rintro e w2 ⟨rfl,A2⟩))
  go_ret
  exact ⟨rn (by rw [HV.out]),A1.trans A2⟩
end K12
namespace K12
variable {v:Int} {w:World}
def PostM (n:Nat) (d0:List Cl) (v:Int) (w:World) (e:Ending) (w':World):Prop:=∃(ad:Option Addr) (m c:Nat) (d:List Cl),e=.returned (.slice ad m c)∧Owns w' w.heap.size (.slice ad m c) d∧m≤n∧m≤c∧c≤9223372036854775807∧(∀y,Sm.get d y=v∨Sm.get d y=Sm.get d0 y)∧Adds w w'
theorem PostM.of {n:Nat} {d0:List Cl} {w0:World} {r:Value} {d:List Cl} (hO:Owns w w0.heap.size r d) (hd:d.length≤n) (hg:∀y,Sm.get d y=v∨Sm.get d y=Sm.get d0 y) (hA:Adds w0 w):PostM n d0 v w0 (.returned r) w:=by
 obtain ⟨ad,m,c,rfl,hn,h4,h5,_⟩:=hO.form2
 have hn':=hn.out
 exact ⟨ad,m,c,d,rfl,hO,by omega,h4,h5,hg,hA⟩
theorem Sm.get_putn (d:List Cl) (x v y:Int):Sm.get (Sm.put (Sm.nrm d) (x,v)) y=v∨Sm.get (Sm.put (Sm.nrm d) (x,v)) y=Sm.get d y:=by
 rw [Sm.get_put (Sm.V_nrm d)]
 split
 ·exact .inl rfl
 ·exact .inr (Sm.get_nrm d y)
theorem rwrite_own {a a2:Option Addr} {len cap len2 cap2:Nat} (l:List Rg) (d:List Cl) {x:Int} (h:HeldR w a len l) (hd:Held w a2 len2 d) (hlen:len2≤16777215):
 Calls Tryz.prog 65 #[.slice a len cap,.slice a2 len2 cap2,.int .u16 x,.int .u8 v] w (PostM (len2+1) d v w):=by
 have HF:=Lib.hid (rfind_any a len cap l x w h)
 have HD:=Lib.hid hd
 have hz:=hd.1
 have hN:=Sm.nrm_len d
 have hP:=Sm.put_len (Sm.nrm d) (x,v)
 have HZ:=Lib.hid (show (Sm.nrm d).length≤len2+1∧(Sm.put (Sm.nrm d) (x,v)).length≤len2+1 by omega)
 clear hz hN hP
 rcases Sm.fnd_spec l x with ⟨h1,h2⟩|⟨j,r,h1,h2,h3⟩
 ·rw [h1] at HF
  clear h h1 h2 hd
  go_enter Tryz.func65,Tryz.ntmps65
  go_wp2_with (first
   |(go_at_call 104;(with_reducible refine HF.out.mono ?_);rintro e w1 ⟨rfl,A1⟩)
   |(go_at_call 32;(with_reducible refine (rnrm_any a2 len2 cap2 d w1 (HD.out.adds A1) (by omega)).mono ?_);rintro e w2 ⟨r2,rfl,H2,A2⟩))
  go_ret
  exact PostM.of (H2.mono A1.size) HZ.out.1 (fun y=> .inr (Sm.get_nrm d y)) (A1.trans A2)
 ·rw [h1] at HF
  have hjl:=(List.getElem?_eq_some_iff.1 h2).1
  have hl:=h.1
  have hjz:(j:Int) < (len:Int):=by omega
  have HH:=Lib.hid h
  have H2:=Lib.hid h2
  obtain ⟨b,o,rfl,_,_⟩:=h.2.2 (by omega)
  obtain ⟨fr,tw,ram,wt⟩:=r
  clear h h1 h2 h3 hjl hl hd
  cases ram
  all_goals
   go_enter Tryz.func65,Tryz.ntmps65
   go_wp2_with (first
    |(go_at_call 104;(with_reducible refine HF.out.mono ?_);rintro e w1 ⟨rfl,A1⟩;obtain ⟨b',o',hbo,hb',hat⟩:=(HH.out.adds A1).2.2 (by omega);obtain ⟨rfl,rfl⟩:b=b'∧o=o':=(by simpa using hbo);obtain ⟨g1,g2,g3,g4⟩:=hat j _ H2.out;(simp only at g1 g2 g3 g4);clear hat hbo)
    |(go_at_call 105;(with_reducible refine (rPut_any a2 len2 cap2 d x v w1 (HD.out.adds A1) (by omega)).mono ?_);rintro e w2 ⟨r2,rfl,H3,A2⟩;have HE:=Lib.hid (show _≤len2+1 from HZ.out.2);have HG:=Lib.hid (Sm.get_putn d x v))
    |(go_at_call 32;(with_reducible refine (rnrm_any a2 len2 cap2 d w1 (HD.out.adds A1) (by omega)).mono ?_);rintro e w2 ⟨r2,rfl,H3,A2⟩;have HE:=Lib.hid (show _≤len2+1 from HZ.out.1);have HG:=Lib.hid (fun y=>(show Sm.get (Sm.nrm d) y=v∨Sm.get (Sm.nrm d) y=Sm.get d y from .inr (Sm.get_nrm d y)))))
   go_ret
   exact PostM.of (H3.mono A1.size) HE.out HG.out (A1.trans A2)
end K12
section
theorem rpick_any (cCh cA cB cC cD cE cH cL:Int) (cfS cfZ cfK cfAC cfP cfV cfCY:Bool) (cSP cPC:Int) (cIE cDe cHa:Bool) (cMa:Int) (cTr cR7 cWT cW7 cSa cSI cSO:Bool) (lRe lHo lRs lSi lTr lR7 lR6 lR5 lIn:Bool) (w:World):Calls Tryz.prog 97 #[.agg #[.int .i64 cCh,.int .u8 cA,.int .u8 cB,.int .u8 cC,.int .u8 cD,.int .u8 cE,.int .u8 cH,.int .u8 cL,.bool cfS,.bool cfZ,.bool cfK,.bool cfAC,.bool cfP,.bool cfV,.bool cfCY,.int .u16 cSP,.int .u16 cPC,.bool cIE,.bool cDe,.bool cHa,.int .u8 cMa,.bool cTr,.bool cR7,.bool cWT,.bool cW7,.bool cSa,.bool cSI,.bool cSO],.agg #[.bool lRe,.bool lHo,.bool lRs,.bool lSi,.bool lTr,.bool lR7,.bool lR6,.bool lR5,.bool lIn]] w fun e w'=>e=.returned (.int .i64 (S.pik cCh cIE cDe cMa cTr cR7 lR6 lR5 lIn))∧Adds w w':=by
 have hmf:∀(fn:Fn) (first cap:Array Value) (w:World),(Instr.makeFunc fn first cap).run Tryz.prog w=.ok (.func fn first cap) w:=fun _ _ _ _=>rfl
 have g4:(bits .and .u8 cMa 4==0)=S.fr cMa 4:=rfl
 have g2:(bits .and .u8 cMa 2==0)=S.fr cMa 2:=rfl
 have g1:(bits .and .u8 cMa 1==0)=S.fr cMa 1:=rfl
 by_cases hc:cCh=2
 ·subst hc
  go_enter Tryz.func97,Tryz.ntmps97
  go_wp2_with (first|(go_at_call 107;refine sm (on85_15) ?_))
  all_goals go_ret
  all_goals exact ⟨ri (by simp [S.pik, *]),aD⟩
 ·go_enter Tryz.func97,Tryz.ntmps97
  go_wp2_with (first|(go_at_call 107;refine sm (on85_15) ?_))
  all_goals go_ret
  all_goals exact ⟨ri (by simp [S.pik, *]),aD⟩
end
namespace K22
variable {m n s x y:Int} {sp:Bool} {w:World}
theorem rpr_rank {l:Int}:Calls Tryz.prog 169 #[.int .i64 l,.int .i64 n] w fun e w'=>e=.returned (.int .i64 (S.rk l n))∧w=w':=by
 go_enter Tryz.func169,Tryz.ntmps169
 go_wp2_with fail
 go_ret
 refine ⟨?_,rfl⟩
 refine ri ?_
 simp only [S.pr_and7]
 unfold S.rk wrap64
 omega
theorem rpr_on {i:Int} (s0:0≤s) (s1:s < 256) (i0:0≤i) (i1:i < 8):Calls Tryz.prog 170 #[.int .u8 s,.int .i64 i] w fun e w'=>e=.returned (.bool (S.onB s i))∧w=w':=by
 go_enter Tryz.func170,Tryz.ntmps170
 go_wp2_with fail
 go_ret
 exact ⟨rb (S.bit_test s s0 s1 (2 ^ i.toNat) (Int.pow_pos (by decide))),rfl⟩
theorem rpr_hi (s0:0≤s) (s1:s < 256):Calls Tryz.prog 143 #[.int .u8 s,.int .i64 n] w fun e w'=>e=.returned (.int .i64 (S.hi s n))∧w=w':=by
 go_enter Tryz.func143,Tryz.ntmps143
 go_wp2_with fail
 go_loopw [5,6] (fun x i wr=>∃j:Nat,j≤8∧i=.int .i64 j∧x=.int .i64 (S.bst s n j)∧w=wr) (fun _ i _=>8 - (intOf i).toNat)
 case atStart=>exact ⟨0,by omega,rfl,rfl,rfl⟩
 case round=>
  obtain ⟨j,hj,rfl,rfl,rfl⟩:=hrel
  by_cases hj8:j=8
  ·subst hj8
   go_wp2_with fail
   go_ret
   exact ⟨ri (S.bst_hi s n),rfl⟩
  ·have j0:(0:Int)≤j:=by omega
   have j1:(j:Int) < 8:=by omega
   cases ho:S.onB s j with
   |false=>
    have e1:Hid (S.bst s n (j+1)=S.bst s n j):=S.bst_off (by simp [ho])
    generalize S.bst s n j=x at e1
    go_wp2_with (go_at_call 170;refine sm (rpr_on s0 s1 j0 j1) ?_;rw [ho])
    go_roundw
    case rel=>exact ⟨j+1,by omega,by go_num,by rw [e1.out],trivial⟩
    case measure=>simp [intOf]<;>omega
   |true=>
    by_cases hx:S.bst s n j < 0
    ·have e1:Hid (S.bst s n (j+1)=j):=S.bst_on ⟨ho,.inl hx⟩
     generalize S.bst s n j=x at hx
     go_wp2_with (go_at_call 170;refine sm (rpr_on s0 s1 j0 j1) ?_;rw [ho])
     go_roundw
     case rel=>exact ⟨j+1,by omega,by go_num,by rw [e1.out],trivial⟩
     case measure=>simp [intOf]<;>omega
    ·by_cases hl:S.rk j n < S.rk (S.bst s n j) n
     ·have e1:Hid (S.bst s n (j+1)=j):=S.bst_on ⟨ho,.inr hl⟩
      generalize S.bst s n j=x at hx hl
      go_wp2_with (first|(go_at_call 170;refine sm (rpr_on s0 s1 j0 j1) ?_;rw [ho])|(go_at_call 169;refine sm (rpr_rank) ?_))
      go_roundw
      case rel=>exact ⟨j+1,by omega,by go_num,by rw [e1.out],trivial⟩
      case measure=>simp [intOf]<;>omega
     ·have e1:Hid (S.bst s n (j+1)=S.bst s n j):=S.bst_off (fun h=>h.2.elim hx hl)
      generalize S.bst s n j=x at hx hl e1
      go_wp2_with (first|(go_at_call 170;refine sm (rpr_on s0 s1 j0 j1) ?_;rw [ho])|(go_at_call 169;refine sm (rpr_rank) ?_))
      go_roundw
      case rel=>exact ⟨j+1,by omega,by go_num,by rw [e1.out],trivial⟩
      case measure=>simp [intOf]<;>omega
theorem rpr_blk:Calls Tryz.prog 144 #[.int .u8 m,.int .u8 s,.bool sp] w fun e w'=>e=.returned (.int .u8 (S.blk m s sp))∧w=w':=by
 cases sp
 all_goals
  go_enter Tryz.func144,Tryz.ntmps144
  go_wp2_with fail
  go_ret
  exact ⟨rfl,rfl⟩
theorem q1C21 {P:Prop} (h:P:=by
 go_enter Tryz.func142,Tryz.ntmps142
 go_wp2_with (first|(go_at_call 143;refine sm (rpr_hi (by first|with_reducible exact bq.out.1|with_reducible exact bb.out.1) (by first|with_reducible exact bq.out.2|with_reducible exact bb.out.2)) ?_;first|rw [HX.out]|rw [HY.out])|(go_at_call 169;refine sm (rpr_rank) ?_)|(go_at_call 144;refine sm (rpr_blk) ?_;rw [show S.blk m s true=bits .andNot .u8 s m from rfl]))
 go_ret
 exact ⟨rfl,rfl⟩):P:=h
theorem rpr_pick_on (q m s n:Int) (bb:Hid (0≤bits .andNot .u8 s m∧bits .andNot .u8 s m < 256)) (HX:Hid (S.hi (bits .andNot .u8 q m) n=x)) (HY:Hid (S.hi (bits .andNot .u8 s m) n=y)) (w:World):Calls Tryz.prog 142 #[.int .u8 q,.int .u8 m,.int .u8 s,.int .i64 n,.bool true] w fun e w'=>e=.returned (.int .i64 (if 0≤x∧(y < 0∨S.rk x n < S.rk y n) then x else -1))∧w=w':=by
 have bq:Hid _:=S.andNot_bd q m
 have bx:=S.hi_bd (bits .andNot .u8 q m) n
 have by':=S.hi_bd (bits .andNot .u8 s m) n
 rw [HX.out] at bx
 rw [HY.out] at by'
 by_cases h1:x= -1
 ·subst h1
  by_cases h2:y= -1
  ·subst h2
   exact q1C21
  ·exact q1C21
 ·have h3:0≤x:=by omega
  have g1:(x== -1)=false:=by simpa using h1
  have g3:decide (0≤x)=true:=by simpa using h3
  by_cases h2:y= -1
  ·subst h2
   rw [if_pos ⟨h3,.inl (by omega)⟩]
   exact q1C21
  ·have h4:¬y < 0:=by omega
   have g2:(y != -1)=true:=by simpa using h2
   have g4:decide (y < 0)=false:=by simpa using h4
   by_cases h5:S.rk x n < S.rk y n
   ·rw [if_pos ⟨h3,.inr h5⟩]
    have g5:decide (S.rk x n < S.rk y n)=true:=by simpa using h5
    have g6:decide (S.rk y n≤S.rk x n)=false:=decide_eq_false (by omega)
    exact q1C21
   ·rw [if_neg (fun h=>h.2.elim h4 h5)]
    have g5:decide (S.rk x n < S.rk y n)=false:=by simpa using h5
    have g6:decide (S.rk y n≤S.rk x n)=true:=decide_eq_true (by omega)
    exact q1C21
theorem q2C21 {P:Prop} (h:P:=by
 go_enter Tryz.func142,Tryz.ntmps142
 go_wp2_with (first|(go_at_call 143;refine sm (rpr_hi (by first|with_reducible exact bq.out.1|with_reducible exact bb.out.1) (by first|with_reducible exact bq.out.2|with_reducible exact bb.out.2)) ?_;first|rw [HX.out]|rw [HY.out])|(go_at_call 169;refine sm (rpr_rank) ?_)|(go_at_call 144;refine sm (rpr_blk) ?_;rw [show S.blk m s false=s from rfl]))
 go_ret
 exact ⟨rfl,rfl⟩):P:=h
theorem rpr_pick_off (q m s n:Int) (bb:Hid (0≤s∧s < 256)) (HX:Hid (S.hi (bits .andNot .u8 q m) n=x)) (HY:Hid (S.hi (s) n=y)) (w:World):Calls Tryz.prog 142 #[.int .u8 q,.int .u8 m,.int .u8 s,.int .i64 n,.bool false] w fun e w'=>e=.returned (.int .i64 (if 0≤x∧(y < 0∨S.rk x n < S.rk y n) then x else -1))∧w=w':=by
 have bq:Hid _:=S.andNot_bd q m
 have bx:=S.hi_bd (bits .andNot .u8 q m) n
 have by':=S.hi_bd (s) n
 rw [HX.out] at bx
 rw [HY.out] at by'
 by_cases h1:x= -1
 ·subst h1
  by_cases h2:y= -1
  ·subst h2
   exact q2C21
  ·exact q2C21
 ·have h3:0≤x:=by omega
  have g1:(x== -1)=false:=by simpa using h1
  have g3:decide (0≤x)=true:=by simpa using h3
  by_cases h2:y= -1
  ·subst h2
   rw [if_pos ⟨h3,.inl (by omega)⟩]
   exact q2C21
  ·have h4:¬y < 0:=by omega
   have g2:(y != -1)=true:=by simpa using h2
   have g4:decide (y < 0)=false:=by simpa using h4
   by_cases h5:S.rk x n < S.rk y n
   ·rw [if_pos ⟨h3,.inr h5⟩]
    have g5:decide (S.rk x n < S.rk y n)=true:=by simpa using h5
    have g6:decide (S.rk y n≤S.rk x n)=false:=decide_eq_false (by omega)
    exact q2C21
   ·rw [if_neg (fun h=>h.2.elim h4 h5)]
    have g5:decide (S.rk x n < S.rk y n)=false:=by simpa using h5
    have g6:decide (S.rk y n≤S.rk x n)=true:=decide_eq_true (by omega)
    exact q2C21
theorem rpr_pick {q:Int} (s0:0≤s) (s1:s < 256):Calls Tryz.prog 142 #[.int .u8 q,.int .u8 m,.int .u8 s,.int .i64 n,.bool sp] w fun e w'=>e=.returned (.int .i64 (S.pk (bits .andNot .u8 q m) (S.blk m s sp) n))∧w=w':=by
 cases sp
 ·exact rpr_pick_off q m s n ⟨s0,s1⟩ rfl rfl w
 ·exact rpr_pick_on q m s n (S.andNot_bd s m) rfl rfl w
end K22
namespace K22
variable {w:World}
theorem rnew_any:Calls Tryz.prog 54 #[] w fun e w'=>e=.returned (.agg S.nw.cs)∧Adds w w':=by
 go_enter Tryz.func54,Tryz.ntmps54
 go_wp2_with fail
 exact bodyPost_ret (ret_PIC Tryz.results54 rfl (by simp [go_sem,S.nw,S.Pc.cs]) rfl) rfl ⟨rfl,aD⟩
theorem rraise_any (p:S.Pc) (l:Int):Calls Tryz.prog 57 #[.agg #[.int .i64 p.St,.bool p.Le,.bool p.Fo,.bool p.Si,.bool p.Ft,.int .u8 p.Lw,.int .u8 p.Hg,.bool p.Au,.bool p.Ro,.bool p.Sp,.bool p.RI,.bool p.Po,.int .u8 p.Li,.int .u8 p.Ed,.int .u8 p.IS,.int .u8 p.IM,.int .i64 p.Lo,.int .i64 p.Sq,.int .i64 p.Sv,.bool p.Su],.int .u8 l] w fun e w'=>e=.returned (.agg (S.raise p l).cs)∧Adds w w':=by
 go_enter Tryz.func57,Tryz.ntmps57
 go_wp2_with fail
 exact bodyPost_ret (ret_PIC Tryz.results57 rfl (by simp [go_sem,S.raise,S.Pc.cs]) rfl) rfl ⟨rfl,aD⟩
theorem rreq_any (p:S.Pc):Calls Tryz.prog 121 #[.agg #[.int .i64 p.St,.bool p.Le,.bool p.Fo,.bool p.Si,.bool p.Ft,.int .u8 p.Lw,.int .u8 p.Hg,.bool p.Au,.bool p.Ro,.bool p.Sp,.bool p.RI,.bool p.Po,.int .u8 p.Li,.int .u8 p.Ed,.int .u8 p.IS,.int .u8 p.IM,.int .i64 p.Lo,.int .i64 p.Sq,.int .i64 p.Sv,.bool p.Su]] w fun e w'=>e=.returned (.int .u8 (S.req p))∧Adds w w':=by
 by_cases h:p.Le=true
 all_goals
  go_enter Tryz.func121,Tryz.ntmps121
  go_wp2_with fail
  go_ret
  exact ⟨ri (by simp [S.req,h]),aD⟩
theorem rpick_any (p:S.Pc) (h0:0≤p.IS) (h1:p.IS < 256) (w:World):Calls Tryz.prog 115 #[.agg #[.int .i64 p.St,.bool p.Le,.bool p.Fo,.bool p.Si,.bool p.Ft,.int .u8 p.Lw,.int .u8 p.Hg,.bool p.Au,.bool p.Ro,.bool p.Sp,.bool p.RI,.bool p.Po,.int .u8 p.Li,.int .u8 p.Ed,.int .u8 p.IS,.int .u8 p.IM,.int .i64 p.Lo,.int .i64 p.Sq,.int .i64 p.Sv,.bool p.Su]] w fun e w'=>e=.returned (.int .i64 (S.pkc p))∧Adds w w':=by
 go_enter Tryz.func115,Tryz.ntmps115
 go_wp2_with fail
 refine qt ?_
 repeat (go_big_quiet_step (first|(go_at_call 121;exact calls_adds (rreq_any p))|(go_at_call 142;exact calls_same (rpr_pick h0 h1))))
 refine qn fun nq osq=> ?_
 go_wp2_with fail
 go_ret
 exact ⟨rfl,aD⟩
theorem rint_any (p:S.Pc) (h0:0≤p.IS) (h1:p.IS < 256):Calls Tryz.prog 85 #[.agg #[.int .i64 p.St,.bool p.Le,.bool p.Fo,.bool p.Si,.bool p.Ft,.int .u8 p.Lw,.int .u8 p.Hg,.bool p.Au,.bool p.Ro,.bool p.Sp,.bool p.RI,.bool p.Po,.int .u8 p.Li,.int .u8 p.Ed,.int .u8 p.IS,.int .u8 p.IM,.int .i64 p.Lo,.int .i64 p.Sq,.int .i64 p.Sv,.bool p.Su]] w fun e w'=>e=.returned (.bool (S.int p))∧Adds w w':=by
 have hb:=S.pkc_bd p
 go_enter Tryz.func85,Tryz.ntmps85
 go_wp2_with (go_at_call 115;refine ad (rpick_any p h0 h1 _) fun n1 os1=> ?_)
 go_ret
 refine ⟨rb ?_,aD⟩
 first|rfl|(unfold S.int;rw [Bool.eq_iff_iff];simp;omega)
theorem take_any (p:S.Pc) (n:Int) (n0:0≤n) (n1:n < 8):Calls Tryz.prog 119 #[.agg #[.int .i64 p.St,.bool p.Le,.bool p.Fo,.bool p.Si,.bool p.Ft,.int .u8 p.Lw,.int .u8 p.Hg,.bool p.Au,.bool p.Ro,.bool p.Sp,.bool p.RI,.bool p.Po,.int .u8 p.Li,.int .u8 p.Ed,.int .u8 p.IS,.int .u8 p.IM,.int .i64 p.Lo,.int .i64 p.Sq,.int .i64 p.Sv,.bool p.Su],.int .i64 n] w fun e w'=>e=.returned (.agg (S.sv p n).cs)∧Adds w w':=by
 go_enter Tryz.func119,Tryz.ntmps119
 go_wp2_with fail
 go_region
 go_wp2_with fail
 go_region
 go_wp2_with fail
 exact bodyPost_ret (ret_PIC Tryz.results119 rfl (by simp [go_sem,S.sv,S.bl,S.Pc.cs]) rfl) rfl ⟨rfl,aD⟩
theorem done_any (p:S.Pc) (n:Int) (n0:0≤n) (n1:n < 8):Calls Tryz.prog 120 #[.agg #[.int .i64 p.St,.bool p.Le,.bool p.Fo,.bool p.Si,.bool p.Ft,.int .u8 p.Lw,.int .u8 p.Hg,.bool p.Au,.bool p.Ro,.bool p.Sp,.bool p.RI,.bool p.Po,.int .u8 p.Li,.int .u8 p.Ed,.int .u8 p.IS,.int .u8 p.IM,.int .i64 p.Lo,.int .i64 p.Sq,.int .i64 p.Sv,.bool p.Su],.int .i64 n] w fun e w'=>e=.returned (.agg (S.en p n p.Ro).cs)∧Adds w w':=by
 have hn:¬n= -1:=by omega
 by_cases hr:p.Ro=true
 all_goals
  go_enter Tryz.func120,Tryz.ntmps120
  go_wp2_with fail
  go_region
  go_wp2_with fail
  exact bodyPost_ret (ret_PIC Tryz.results120 rfl (by simp [go_sem,S.en,S.bl,S.Pc.cs,hn,hr]) rfl) rfl ⟨rfl,aD⟩
end K22
namespace K22
theorem further_any (p:S.Pc) (v:Int) {w:World}:Calls Tryz.prog 125 #[.agg #[.int .i64 p.St,.bool p.Le,.bool p.Fo,.bool p.Si,.bool p.Ft,.int .u8 p.Lw,.int .u8 p.Hg,.bool p.Au,.bool p.Ro,.bool p.Sp,.bool p.RI,.bool p.Po,.int .u8 p.Li,.int .u8 p.Ed,.int .u8 p.IS,.int .u8 p.IM,.int .i64 p.Lo,.int .i64 p.Sq,.int .i64 p.Sv,.bool p.Su],.int .u8 v] w fun e w'=>e=.returned (.agg (S.wrH p v).cs)∧Adds w w':=by
 rcases (by omega:p.St=2∨p.St=3∨p.St=4∨(¬p.St=2∧¬p.St=3∧¬p.St=4)) with h|h|h|⟨h,h',h''⟩
 all_goals
  by_cases hf:p.Ft=true
  all_goals
   by_cases hs:p.Si=true
   all_goals
    go_enter Tryz.func125,Tryz.ntmps125
    go_wp2_with fail
    exact bodyPost_ret (ret_PIC Tryz.results125 rfl (by simp [go_sem,S.wrH,S.lst,S.Pc.cs, *]) rfl) rfl ⟨rfl,aD⟩
theorem first_any (p:S.Pc) (v:Int) (w:World):Calls Tryz.prog 126 #[.agg #[.int .i64 p.St,.bool p.Le,.bool p.Fo,.bool p.Si,.bool p.Ft,.int .u8 p.Lw,.int .u8 p.Hg,.bool p.Au,.bool p.Ro,.bool p.Sp,.bool p.RI,.bool p.Po,.int .u8 p.Li,.int .u8 p.Ed,.int .u8 p.IS,.int .u8 p.IM,.int .i64 p.Lo,.int .i64 p.Sq,.int .i64 p.Sv,.bool p.Su],.int .u8 v] w fun e w'=>e=.returned (.agg (S.ini p v).cs)∧Adds w w':=by
 go_enter Tryz.func126,Tryz.ntmps126
 go_wp2_with (go_at_call 54;refine ad (rnew_any) fun n1 os1=> ?_;simp only [S.nw,S.Pc.cs])
 exact bodyPost_ret (ret_PIC Tryz.results126 rfl (by simp [go_sem,S.ini,S.Pc.cs]) rfl) rfl ⟨rfl,aD⟩
end K22
namespace K22
theorem q1C22d {P:Prop} (h:P:=by
 have hn1:¬t= -1:=by omega
 go_enter Tryz.func127,Tryz.ntmps127
 go_wp2_with fail
 refine qt ?_
 repeat (go_big_quiet_step (first|(go_at_call 144;exact calls_same (rpr_blk))|(go_at_call 143;exact calls_same (HT.out▸rpr_hi hh.out.1 hh.out.2))))
 refine qn fun nq osq=> ?_
 go_wp2_with fail
 all_goals try go_region
 all_goals go_wp2_with fail
 all_goals exact bodyPost_ret (ret_PIC Tryz.results127 rfl (by simp [go_sem,S.en,S.bl,S.Pc.cs,hv7,hn1]) rfl) rfl ⟨rfl,aD⟩):P:=h
theorem q2C22d {P:Prop} (h:P:=by
 subst ht1
 go_enter Tryz.func127,Tryz.ntmps127
 go_wp2_with fail
 refine qt ?_
 repeat (go_big_quiet_step (first|(go_at_call 144;exact calls_same (rpr_blk))|(go_at_call 143;exact calls_same (HT.out▸rpr_hi hh.out.1 hh.out.2))))
 refine qn fun nq osq=> ?_
 go_wp2_with fail
 all_goals try go_region
 all_goals go_wp2_with fail
 all_goals exact bodyPost_ret (ret_PIC Tryz.results127 rfl (by simp [go_sem,S.en,S.bl,S.Pc.cs,hv7]) rfl) rfl ⟨rfl,aD⟩):P:=h
theorem oper_any (p:S.Pc) (v:Int) (v0:0≤v) (v1:v < 256) (h0:0≤p.IS) (h1:p.IS < 256) {w:World}:Calls Tryz.prog 127 #[.agg #[.int .i64 p.St,.bool p.Le,.bool p.Fo,.bool p.Si,.bool p.Ft,.int .u8 p.Lw,.int .u8 p.Hg,.bool p.Au,.bool p.Ro,.bool p.Sp,.bool p.RI,.bool p.Po,.int .u8 p.Li,.int .u8 p.Ed,.int .u8 p.IS,.int .u8 p.IM,.int .i64 p.Lo,.int .i64 p.Sq,.int .i64 p.Sv,.bool p.Su],.int .u8 v] w fun e w'=>e=.returned (.agg (S.cmd p v).cs)∧Adds w w':=by
 have e7:=S.and7_8 v v0 v1
 have hh:Hid _:=S.blk_bd p.IM p.IS p.Sp h0 h1
 have b0:0≤v % 8:=by omega
 have b1:v % 8 < 8:=by omega
 have hv7:¬v % 8= -1:=by omega
 have ht:=S.his_bd p
 obtain ⟨t,et⟩:∃t,S.his p=t:=⟨_,rfl⟩
 rw [et] at ht
 have HT:Hid (S.hi (S.blk p.IM p.IS p.Sp) p.Lo=t):=et
 have ET:Hid (S.his p=t):=et
 clear et h0 h1
 rcases (by omega:v / 32=0∨v / 32=1∨v / 32=2∨v / 32=3∨v / 32=4∨v / 32=5∨v / 32=6∨v / 32=7) with h|h|h|h|h|h|h|h
 ·have hv:S.cmd p v={p with Ro:=false}:=by simp [S.cmd,h,ET.out]
  rw [hv]
  clear hv
  rcases (by omega:t= -1∨0≤t) with ht1|ht1
  ·exact q2C22d
  ·exact q1C22d
 ·have hv:S.cmd p v=S.en p t false:=by simp [S.cmd,h,ET.out]
  rw [hv]
  clear hv
  rcases (by omega:t= -1∨0≤t) with ht1|ht1
  ·exact q2C22d
  ·exact q1C22d
 ·have hv:S.cmd p v=p:=by simp [S.cmd,h,ET.out]
  rw [hv]
  clear hv
  rcases (by omega:t= -1∨0≤t) with ht1|ht1
  ·exact q2C22d
  ·exact q1C22d
 ·have hv:S.cmd p v=S.en p (v % 8) false:=by simp [S.cmd,h,ET.out]
  rw [hv]
  clear hv
  rcases (by omega:t= -1∨0≤t) with ht1|ht1
  ·exact q2C22d
  ·exact q1C22d
 ·have hv:S.cmd p v={p with Ro:=true}:=by simp [S.cmd,h,ET.out]
  rw [hv]
  clear hv
  rcases (by omega:t= -1∨0≤t) with ht1|ht1
  ·exact q2C22d
  ·exact q1C22d
 ·have hv:S.cmd p v=S.en p t true:=by simp [S.cmd,h,ET.out]
  rw [hv]
  clear hv
  rcases (by omega:t= -1∨0≤t) with ht1|ht1
  ·exact q2C22d
  ·exact q1C22d
 ·have hv:S.cmd p v={p with Lo:=v % 8}:=by simp [S.cmd,h,ET.out]
  rw [hv]
  clear hv
  rcases (by omega:t= -1∨0≤t) with ht1|ht1
  ·exact q2C22d
  ·exact q1C22d
 ·have hv:S.cmd p v=S.en p (v % 8) true:=by simp [S.cmd,h,ET.out]
  rw [hv]
  clear hv
  rcases (by omega:t= -1∨0≤t) with ht1|ht1
  ·exact q2C22d
  ·exact q1C22d
end K22
end Go.Proofs.YteggjjhjmhccjaaGreat
