/- Texts that the proofs of the statements on dumps rest on, joined. Conditions stand in each theorem. -/
import Derived.Test.YteggjjhjmhccjaaGreatDoorR01
import Derived.Test.YteggjjhjmhccjaaGreatDoorQ03
import Derived.Test.YteggjjhjmhccjaaGreatDoorRows
import Derived.Deep.Slices
import Derived.LaidMore
import Derived.OpenShut
import Derived.ProofKit
import Derived.Stop.Joined
set_option linter.unusedVariables false
set_option linter.unusedSimpArgs false
set_option maxRecDepth 100000
set_option maxHeartbeats 8000000
namespace Go.Proofs.YteggjjhjmhccjaaGreatDoor
open Go.ChangeShapes Go.WideShapes Go.ChangeAt Go.RowKit
section
end
section
theorem S.lns_len:∀(ls:List S.Bs) (n:Nat) (acc:List S.Pn),(S.lns n acc ls).1.length≤acc.length+ls.length
 |[],n,acc=>by simp [S.lns]
 |[x],n,acc=>by
  unfold S.lns
  split<;>simp
 |x::y::r,n,acc=>by
  unfold S.lns
  split
  ·rename_i p hp
   have:=S.lns_len (y::r) (n+1) (acc++[p])
   simp only [List.length_append,List.length_cons,List.length_nil] at this⊢
   omega
  ·simp
theorem S.par_len (s:S.Bs):(S.par28 s).1.length≤s.length+1:=by
 have h1:=S.lns_len (S.spl 10 s) 1 []
 have h2:=S.spl_len 10 s
 simp only [List.length_nil] at h1
 unfold S.par28
 omega
def S.k1:S.Pn:=⟨1,0,162,true,false,false,false,false,false,false,false,false,false,false,false,false,false⟩
def S.k2:S.Pn:=⟨8,0,0,false,false,false,false,false,false,false,false,false,false,false,false,true,true⟩
def S.k3:S.Pn:=⟨7,4779,15,false,false,false,false,false,false,false,false,true,false,true,false,false,false⟩
theorem S.fmt_k12:S.fmt28 [S.k1,S.k2]=[116,49,32,48,48,48,48,32,97,50,32,115,121,110,99,10,116,104,32,48,48,48,48,32,48,48,32,104,108,100,97,32,102,108,111,97,116,10]:=by decide
theorem S.par_k3:S.par28 [116,119,32,49,50,97,98,32,48,102,32,114,100,32,115,111,100,10]=([S.k3],0,true):=by
 have e:S.fmt28 [S.k3]=[116,119,32,49,50,97,98,32,48,102,32,114,100,32,115,111,100,10]:=by decide
 rw [←e]
 refine S.par_fmt [S.k3] fun p hp=> ?_
 obtain rfl:=List.mem_singleton.1 hp
 exact ⟨by decide,by decide,by decide⟩
theorem kn_cells:(List.toArray (.int .i64 1:: .int .u16 0:: .int .u8 162:: .bool true:: .bool false:: .bool false:: .bool false:: .bool false:: .bool false:: .bool false:: .bool false:: .bool false:: .bool false:: .bool false:: .bool false:: .bool false:: .bool false:: .int .i64 8:: .int .u16 0:: .int .u8 0:: .bool false:: .bool false:: .bool false:: .bool false:: .bool false:: .bool false:: .bool false:: .bool false:: .bool false:: .bool false:: .bool false:: .bool false:: .bool true:: .bool true::[])).toList=Fl csQ [S.k1,S.k2]:=by
 simp [Fl,csQ,S.Pn.cs,S.k1,S.k2]
theorem kn_held (w:World):HeldQ (w.alloc (.cells (List.toArray (.int .i64 1:: .int .u16 0:: .int .u8 162:: .bool true:: .bool false:: .bool false:: .bool false:: .bool false:: .bool false:: .bool false:: .bool false:: .bool false:: .bool false:: .bool false:: .bool false:: .bool false:: .bool false:: .int .i64 8:: .int .u16 0:: .int .u8 0:: .bool false:: .bool false:: .bool false:: .bool false:: .bool false:: .bool false:: .bool false:: .bool false:: .bool false:: .bool false:: .bool false:: .bool false:: .bool true:: .bool true::[])) 34)) (some ⟨w.heap.size,0,none⟩) 2 [S.k1,S.k2]:=
 ⟨rfl,by omega,fun _=>⟨_,0,rfl,by simp,fun j u hu=>by
   have:=at_new w 34 _ [S.k1,S.k2] kn_cells _ rfl j u hu
   rwa [add_plain] at this⟩⟩
theorem known28 (w:World) (hT:Tab28 w):Calls Tryz.prog 7 #[] w fun e w'=>e=.returned (.bool true)∧Adds w w':=by
 have HX:=Lib.hid (kn_held w)
 have H1:=Lib.hid (fun (w:World) (b:Nat) h h'=>format28 (some ⟨b,0,none⟩) 2 2 [S.k1,S.k2] (by intro p hp;simp at hp;rcases hp with rfl|rfl<;>exact ⟨by decide,by decide⟩) (by omega) w h h')
 rw [S.fmt_k12] at H1
 have H2:=Lib.hid (fun w h=>parse28 [116,119,32,49,50,97,98,32,48,102,32,114,100,32,115,111,100,10] (by decide) w h)
 rw [S.par_k3] at H2
 simp only [] at H2
 have HT:=Lib.hid hT
 clear hT
 go_enter Tryz.func7,Tryz.ntmps7
 go_wp2_with (first
  |(go_at_call 9;refine (H1.out _ _ HX.out (HT.out.adds aD)).mono ?_;rintro e1 w1 ⟨rfl,hA1⟩;have A1:=Lib.hid ((show Adds w _ from aD).trans hA1);clear hA1)
  |(go_at_call 13;refine (H2.out _ (HT.out.adds A1.out)).mono ?_;rintro e2 w2 ⟨v2,rfl,hO2,hA2⟩;obtain ⟨a2,n2,c2,rfl,hn2, -, -, -, -⟩:=hO2.form2;obtain rfl:n2=1:=hn2.out.symm;obtain ⟨g,rfl,hg1,hg2⟩:=hO2.head (by omega);have hL:(wholeVar 34 ⟨g,0,none⟩).run Tryz.prog w2=.ok (.agg #[.int .i64 7,.int .u16 4779,.int .u8 15,.bool false,.bool false,.bool false,.bool false,.bool false,.bool false,.bool false,.bool false,.bool true,.bool false,.bool true,.bool false,.bool false,.bool false]) w2:=AtQ.load hO2.at_ (j:=0) rfl _ rfl;have A2:=Lib.hid (A1.out.trans hA2);clear hO2 hA2)
  |fail)
 go_ret
 exact ⟨rfl,A2.out.trans aD⟩
end
section
open Go.ChangeShapes Go.WideShapes Go.ChangeAt Go.RowKit Go.Deep
variable {n:Int} {w:World}
abbrev laid28:List (String×DataW Unit):=[("tstate/dump.stateNames",Rows.laid_tstate_dump_stateNames)]
theorem gNm:Tryz.prog.globalNamed "tstate/dump.stateNames"=some 0:=by kernel_rfl
theorem tNm:(Tryz.prog.globals[0]?).map (·.type)=some 165:=by kernel_rfl
theorem tab_of {W:World} (h:laidMetH Tryz.prog laid28 W):Tab28 W:=by
 rw [MakeChecks.laidMetH_plain _ _ _ (by kernel_rfl)] at h
 obtain ⟨ps,⟨g0,t0,cs0,f0,p0,q0,hg0,ht0,hv0,hd0,_,_⟩,_,_⟩:=h
 obtain rfl:=Option.some.inj (gNm.symm.trans hg0)
 obtain rfl:=Option.some.inj (tNm.symm.trans ht0)
 obtain ⟨xs,m1,rfl,hx1,hlen,hn,hel⟩:=DataW.trod_array Tryz.underlying165 hd0
 have c1:Tryz.prog.cellsOf 9=1:=by kernel_rfl
 have hx2:DataW.agg (S.stn.map fun b=>DataW.lit (H:=Unit) (.string b))=DataW.agg (xs.map (·.1)):=(Prod.mk.inj hx1).1
 injection hx2 with hx2
 intro i hi
 have hi':=hel i hi
 obtain ⟨x,hx⟩:∃x,xs[i]? =some x:=⟨xs[i]'(by omega),List.getElem?_eq_getElem _⟩
 rw [hx,c1,Nat.mul_one] at hi'
 obtain ⟨s,e1,e2,_⟩:=DataW.trod_string Tryz.underlying9 hi'
 have h1:(xs.map (·.1))[i]? =some (.lit (.string s.data.toList)):=by rw [List.getElem?_map,hx,e2];rfl
 rw [←hx2,List.getElem?_map] at h1
 have hc:cs0[i]? =some (.string s):=by
  have:=congrArg (·[0]?) e1
  simp only [List.getElem?_take,List.getElem?_drop] at this
  simpa using this
 have hw:=World.var?_cell hg0 hv0 i
 rw [List.getD_eq_getElem?_getD]
 cases hq:S.stn[i]? with
 |none=>rw [hq] at h1;cases h1
 |some b=>
  rw [hq] at h1
  clear hx hx2 hi' hel hlen hn hd0 hx1
  have hb:b=s.data.toList:=by simpa using h1
  have hs:s=⟨b.toArray⟩:=by rw [hb]
  rw [show W.cell? ⟨0,i,none⟩=cs0[i]? from hw,hc,hs]
  rfl
theorem door28 (os:Os) (args:Array Value):laidMetH Tryz.prog laid28 ((World.doorLaid Tryz.prog 400 os).forCall (fun _ _=>0) ⟨#[],args,[]⟩).memory:=
 laidMetH_of_parts3 (fuel:=8) (laidMet_of_run' 8 (by kernel_rfl) (by kernel_rfl)) (by kernel_rfl) (by kernel_rfl)
def ArgQ (w:World) (a:Option Addr) (n:Nat) (d:List S.Pn):Prop:=(d.length=n∧(0 < n→∃b o,a=some ⟨b,o,none⟩∧b < w.heap.size∧AtG csQ w b o d))∧∀p∈d,p.bd
theorem ArgQ.held {a:Option Addr} {n:Nat} {d:List S.Pn} (h:ArgQ w a n d) (hn:n≤4611686018427387904):HeldQ w a n d:=⟨h.1.1,hn,h.1.2⟩
theorem u16_of (h:(Lit.int .u16 n).wf=true):0≤n∧n < 65536:=by
 have h1:IntKind.u16.min=0:=by decide
 have h2:IntKind.u16.max=65535:=by decide
 simp [Lit.wf,h1,h2] at h
 omega
theorem u8_of (h:(Lit.int .u8 n).wf=true):0≤n∧n < 256:=by
 have h1:IntKind.u8.min=0:=by decide
 have h2:IntKind.u8.max=255:=by decide
 simp [Lit.wf,h1,h2] at h
 omega
theorem argQ_of (w:World) (x:Addr) (len:Nat) (hc:∀i,i < len→∃r:S.Pn,r.bd∧∀k u,(csQ r)[k]? =some u→w.cell? (x.add (i * 17+k))=some u):∃l,ArgQ w (some x) len l:=by
 rcases Nat.eq_zero_or_pos len with rfl|hp
 ·exact ⟨[],⟨rfl,fun h=>absurd h (by omega)⟩,fun p hp=>by cases hp⟩
 obtain ⟨f,hf⟩:∃f:Nat→S.Pn,∀i,i < len→(f i).bd∧∀k u,(csQ (f i))[k]? =some u→w.cell? (x.add (i * 17+k))=some u:=by
  refine ⟨fun i=>if h:i < len then (hc i h).choose else S.Pn.zero,fun i hi=> ?_⟩
  simp only [hi,dif_pos]
  exact (hc i hi).choose_spec
 have h0:=(hf 0 hp).2 0 _ rfl
 rw [show x.add (0 * 17+0)=x by simp [Addr.add]] at h0
 obtain ⟨b,o,sp⟩:=x
 obtain rfl:sp=none:=cell_spot h0
 refine ⟨(List.range len).map f,⟨by simp,fun _=>⟨b,o,rfl,cell_lt h0,fun j u hu=> ?_⟩⟩,fun p hp=> ?_⟩
 ·have hlen:(Fl csQ ((List.range len).map f)).length=len * 17:=by rw [Fl_len csQ_len];simp
  have hj:j < len * 17:=by have:=(List.getElem?_eq_some_iff.1 hu).1;omega
  have hq:((List.range len).map f)[j / 17]? =some (f (j / 17)):=by rw [List.getElem?_map,List.getElem?_range (by omega)];rfl
  obtain ⟨v,hv⟩:∃v,(csQ (f (j / 17)))[j % 17]? =some v:=⟨_,List.getElem?_eq_getElem (by rw [csQ_len];omega)⟩
  have k1:=Fl_get csQ_len _ _ _ hq _ _ hv
  rw [show j / 17 * 17+j % 17=j by omega,hu] at k1
  obtain rfl:=Option.some.inj k1
  have k2:=(hf (j / 17) (by omega)).2 _ _ hv
  rw [add_plain,show j / 17 * 17+j % 17=j by omega] at k2
  exact k2
 ·obtain ⟨i,hi,rfl⟩:=List.mem_map.1 hp
  exact (hf i (List.mem_range.1 hi)).1
theorem open_pins {H:Type} {enc:TypeId×Value→H} {base:Nat} {spare:Nat→Bool} {held:Bool} {fuel:Nat} {cs:List Value} {x:DataW H×List MemPlace}
 (h:DataW.trod enc Tryz.prog w base spare held fuel 22 cs=some x):∃a len cap,cs=[.slice a len cap]∧(len≤cap∧cap≤9223372036854775807∧(a=none→cap=0))∧∃l,ArgQ w a len l:=by
 have hC:Tryz.prog.cellsOf 34=17:=by kernel_rfl
 rcases open_slice Tryz.underlying22 h with ⟨hcs,_⟩|⟨a,len,cap,m,n,D,Pl,hcs,hb,hl,hm,hmm,hx,hi⟩
 ·exact ⟨none,0,0,hcs,⟨by omega,by omega,fun _=>rfl⟩,[],⟨rfl,fun h=>absurd h (by omega)⟩,fun p hp=>by cases hp⟩
 ·refine ⟨some a,len,cap,hcs,⟨hl,by simpa [maxLen] using hm,fun e=>by cases e⟩,argQ_of w a len (fun i hi'=> ?_)⟩
  obtain ⟨cs',hc,ht'⟩:=hi i (by rw [hmm];split<;>omega)
  rw [hC] at hc
  have hf:=flat_fits 17 34 [.int .i64,.int .u16,.int .u8,.bool,.bool,.bool,.bool,.bool,.bool,.bool,.bool,.bool,.bool,.bool,.bool,.bool,.bool] _ _ _ (by kernel_rfl) ht'
  obtain ⟨z0,l0,rfl,q0,hf0⟩:=fits_int hf
  obtain ⟨z1,l1,rfl,q1,hf1⟩:=fits_int hf0
  obtain ⟨z2,l2,rfl,q2,hf2⟩:=fits_int hf1
  obtain ⟨z3,l3,rfl,hf3⟩:=fits_bool hf2
  obtain ⟨z4,l4,rfl,hf4⟩:=fits_bool hf3
  obtain ⟨z5,l5,rfl,hf5⟩:=fits_bool hf4
  obtain ⟨z6,l6,rfl,hf6⟩:=fits_bool hf5
  obtain ⟨z7,l7,rfl,hf7⟩:=fits_bool hf6
  obtain ⟨z8,l8,rfl,hf8⟩:=fits_bool hf7
  obtain ⟨z9,l9,rfl,hf9⟩:=fits_bool hf8
  obtain ⟨z10,l10,rfl,hf10⟩:=fits_bool hf9
  obtain ⟨z11,l11,rfl,hf11⟩:=fits_bool hf10
  obtain ⟨z12,l12,rfl,hf12⟩:=fits_bool hf11
  obtain ⟨z13,l13,rfl,hf13⟩:=fits_bool hf12
  obtain ⟨z14,l14,rfl,hf14⟩:=fits_bool hf13
  obtain ⟨z15,l15,rfl,hf15⟩:=fits_bool hf14
  obtain ⟨z16,l16,rfl,hf16⟩:=fits_bool hf15
  obtain rfl:=fits_nil hf16
  obtain ⟨_,hcl,hat⟩:=World.cells?_some hc
  refine ⟨⟨z0,z1,z2,z3,z4,z5,z6,z7,z8,z9,z10,z11,z12,z13,z14,z15,z16⟩,⟨u16_of q1,u8_of q2⟩,fun k u hu=> ?_⟩
  have hk:k < 17:=by have:=(List.getElem?_eq_some_iff.1 hu).1;rwa [csQ_len] at this
  have g:=hat k (by omega)
  rw [addr_add_add] at g
  rw [g]
  simpa [csQ,S.Pn.cs] using hu
end
end Go.Proofs.YteggjjhjmhccjaaGreatDoor
