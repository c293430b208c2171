/- The tied card of DumpParses, proved: whatever the arguments are, the law returns true and leaves them as they were. Condition: the table of state names holds what the program's own text lays, which the card ties. -/
import Derived.Test.YteggjjhjmhccjaaGreatDoorTie
import Derived.Test.YteggjjhjmhccjaaGreatDoorCards
import Derived.Test.YteggjjhjmhccjaaGreatDoorQ00
import Derived.Test.YteggjjhjmhccjaaGreatDoorV03
import Derived.Test.YteggjjhjmhccjaaGreatDoorR01
import Derived.Test.YteggjjhjmhccjaaGreatDoorT01
import Derived.Test.YteggjjhjmhccjaaGreatDoorQ03
import Derived.WalkKit
import Derived.ProofKit
import Derived.OpenShut
import Derived.ShutString
import Derived.ChangeOld
import Derived.Below
import Derived.Carry
set_option linter.unusedVariables false
set_option linter.unusedSimpArgs false
set_option maxRecDepth 100000
set_option maxHeartbeats 8000000
namespace Go.Proofs.YteggjjhjmhccjaaGreatDoor
open Go.ChangeShapes Go.WideShapes Go.ChangeAt Go.RowKit
namespace dumpParses
open Go.ChangeMaps (open_string shut_string)
theorem own:ownKnob Tryz.prog.godebug=none:=by kernel_rfl
theorem laidOut:laidOutB Tryz.prog=true:=by kernel_rfl
theorem walk (a0:ByteArray) (a1:Option Addr) (len1 cap1:Nat) (z1:List Int) (a2:Int) (a3:Int) (w:World) (w0:a0.size≤maxLen) (w1:IsRow .i64 w a1 len1 cap1 z1) (w2:(Lit.int .i64 a2).wf=true) (w3:(Lit.int .u8 a3).wf=true) (hT:Tab28 w):
 Calls Tryz.prog 4 #[.string a0,.slice a1 len1 cap1,.int .i64 a2,.int .u8 a3] w fun e w'=>e=.returned (.bool true)∧Below w.heap.size w w':=by
 obtain ⟨s,rfl⟩:∃s:List UInt8,a0=⟨s.toArray⟩:=⟨a0.data.toList,by simp⟩
 obtain ⟨c,rfl⟩:=byte28 w3
 have W1:=Lib.hid w1
 have HT:=Lib.hid hT
 have HK:=Lib.hid (fun (W:World) (k:Adds w W)=>known28 W (hT.adds k))
 clear w0 w1 w2 w3 hT
 by_cases h500:500 < s.length
 ·have q1:(500:Int) < (s.length:Int):=by omega
  go_enter Tryz.func4,Tryz.ntmps4
  go_wp2_with (go_at_call 7;(with_reducible refine (HK.out _ aD).mono ?_);rintro e wC ⟨rfl,AC⟩)
  go_ret
  exact ⟨rfl,(show Adds w wC from (show Adds w _ from aD).trans AC).below⟩
 have q1:¬(500:Int) < (s.length:Int):=by omega
 by_cases h200:200 < len1
 ·have q2:(200:Int) < (len1:Int):=by omega
  go_enter Tryz.func4,Tryz.ntmps4
  go_wp2_with (go_at_call 7;(with_reducible refine (HK.out _ aD).mono ?_);rintro e wC ⟨rfl,AC⟩)
  go_ret
  exact ⟨rfl,(show Adds w wC from (show Adds w _ from aD).trans AC).below⟩
 have q2:¬(200:Int) < (len1:Int):=by omega
 have HS:=Lib.hid (show s.length≤500 by omega)
 go_enter Tryz.func4,Tryz.ntmps4
 go_upto_region 5 with (first
  |(go_at_call 8;(with_reducible refine (made28 a1 len1 cap1 z1 w W1.out (by omega)).mono ?_);rintro e wm ⟨am,nm,cm,tl,rfl,hO,hln,hok,hA⟩;have HM:=Lib.hid (And.intro (hO.held (by omega)) (And.intro (And.intro hO.len hln) (fun (p:S.Pn) (hp:p∈tl)=>(show p.bd from ⟨(hok p hp).1,(hok p hp).2.1⟩))));have HA:=Lib.hid hA;clear hO hln hok hA)
  |(go_at_call 10;with_reducible refine (rformat28 am nm cm tl HM.out.2.2 (by have:=HM.out.2.1;omega) wm HM.out.1).mono ?_;rintro e wf ⟨rfl,hA2⟩;go_loud (have HF:=Lib.hid (HA.out.trans hA2));go_loud (have htl:(S.fmt28 tl).length≤6565000:=Nat.le_trans (S.fmt_len tl) (Nat.mul_le_mul_left 101 HM.out.2.1.2));go_loud (generalize S.fmt28 tl=t at htl⊢);clear hA2 HM HA)
  |(go_at_call 11;with_reducible refine sm (mplace_any a2 ((t.length:Int)+1) (by omega) (by omega) wf) ?_;obtain ⟨k0,k1⟩:=S.plc_bd a2 ((t.length:Int)+1) (by omega);obtain ⟨k,hk⟩:∃k:Nat,S.plc a2 ((t.length:Int)+1)=(k:Int):=⟨(S.plc a2 ((t.length:Int)+1)).toNat,by omega⟩;rw [hk] at k1⊢;clear hk k0))
 have hkt:k≤t.length:=by omega
 clear k1
 have s1:=fun w=>sl_to t k hkt w
 have s3:=fun w=>sl_from t k (k:Int) rfl hkt w
 obtain ⟨m,hm,hm2⟩:∃m:Nat,m=min (k+1) t.length∧m≤t.length:=⟨_,rfl,Nat.min_le_right _ _⟩
 have hmi:min ((k:Int)+1) (t.length:Int)=(m:Int):=by omega
 have hw1:IntKind.i64.wrap ((k:Int)+1)=(k:Int)+1:=IntWalk.i64_in _ (by omega)
 have s2:=fun w=>sl_from t m (m:Int) rfl hm2 w
 have hb1:(t.take k).length≤6565000:=by rw [List.length_take];omega
 have hb2:(t.drop m).length≤6565000:=by rw [List.length_drop];omega
 have hb3:(t.drop k).length≤6565000:=by rw [List.length_drop];omega
 have hs5:=HS.out
 have e0:=fun w=>add28 t s w (by omega)
 have e1:=fun w=>add28 (t.take k) [c] w (by simp only [List.length_singleton];omega)
 have e2:=fun w=>add28 (t.take k++[c]) (t.drop m) w (by simp only [List.length_append,List.length_singleton];omega)
 have e3:=fun w=>add28 (t.take k++[c]) (t.drop k) w (by simp only [List.length_append,List.length_singleton];omega)
 have P1:=Lib.hid (fun W (k:Adds w W)=>parses28 s (by omega) W (HT.out.adds k))
 have P2:=Lib.hid (fun W (k:Adds w W)=>parses28 (t++s) (by rw [List.length_append];omega) W (HT.out.adds k))
 have P3:=Lib.hid (fun W (q:Adds w W)=>parses28 (t.take k) (by omega) W (HT.out.adds q))
 have P4:=Lib.hid (fun W (q:Adds w W)=>parses28 (t.take k++[c]++t.drop m) (by simp only [List.length_append,List.length_singleton];omega) W (HT.out.adds q))
 have P5:=Lib.hid (fun W (q:Adds w W)=>parses28 (t.take k++[c]++t.drop k) (by simp only [List.length_append,List.length_singleton];omega) W (HT.out.adds q))
 generalize t++s=x2 at *
 generalize t.take k++[c]++t.drop m=x4 at *
 generalize t.take k++[c]++t.drop k=x5 at *
 generalize t.take k++[c]=tk1 at *
 generalize t.take k=t1 at *
 generalize t.drop m=t2 at *
 generalize t.drop k=t3 at *
 have hcv:=fun (W:World) (b:Nat) (h:W.cell? ⟨b,0,none⟩=some (.int .u8 c.toNat))=>conv1_28 c W b h
 clear hb1 hb2 hb3 hs5 hm hm2
 have q3:(k:Int)≤6565000:=by omega
 refine wp_region_noPanic ?_
 refine wp_region_held_drew (S:=fun _=>True) (by kernel_rfl) (by (try dsimp only);try trivial) (fun hHeld=> ?_)
 refine tk 0 rfl ?_
 refine wpAnyH_ready (rs:=[1]) (by kernel_rfl) (by simp) ?_
 refine AllReadyH.cons rfl (fun K hK=> ?_) AllReadyH.nil
 go_simp
 (go_at_call 12;with_reducible refine ad (P1.out _ (HF.out.trans aD)) fun n1 os1=> ?_)
 refine hK.out _ _ (by (try dsimp only);try trivial) (fun hHeld=> ?_)
 clear hK K
 (try simp only [Act.put,List.setIfInBounds_toArray,List.set_cons_zero,List.set_cons_succ])
 refine tk 2 rfl ?_
 refine tk 3 rfl ?_
 refine tk 4 rfl ?_
 refine tk 5 rfl ?_
 refine wpAnyH_ready (rs:=[6]) (by kernel_rfl) (by simp) ?_
 refine AllReadyH.cons rfl (fun K hK=> ?_) AllReadyH.nil
 go_simp
 (go_at_call 12;with_reducible refine ad (P2.out _ (HF.out.trans aD)) fun n2 os2=> ?_)
 refine hK.out _ _ (by (try dsimp only);try trivial) (fun hHeld=> ?_)
 clear hK K
 (try simp only [Act.put,List.setIfInBounds_toArray,List.set_cons_zero,List.set_cons_succ])
 refine tk 7 rfl ?_
 refine tk 8 rfl ?_
 refine tk 9 rfl ?_
 refine tk 10 rfl ?_
 refine tk 11 rfl ?_
 refine wpAnyH_ready (rs:=[12]) (by kernel_rfl) (by simp) ?_
 refine AllReadyH.cons rfl (fun K hK=> ?_) AllReadyH.nil
 go_simp
 (go_at_call 12;with_reducible refine ad (P3.out _ (HF.out.trans aD)) fun n3 os3=> ?_)
 refine hK.out _ _ (by (try dsimp only);try trivial) (fun hHeld=> ?_)
 clear hK K
 (try simp only [Act.put,List.setIfInBounds_toArray,List.set_cons_zero,List.set_cons_succ])
 refine tk 13 rfl ?_
 refine tk 14 rfl ?_
 refine tk 15 rfl ?_
 refine tk 16 rfl ?_
 refine tk 17 rfl ?_
 refine tk 18 rfl ?_
 refine tk 22 rfl ?_
 refine tk 23 rfl ?_
 refine tk 24 rfl ?_
 refine tk 25 rfl ?_
 refine tk 26 rfl ?_
 refine tk 27 rfl ?_
 refine tk 28 rfl ?_
 refine wpAnyH_ready (rs:=[19]) (by kernel_rfl) (by simp) ?_
 refine AllReadyH.cons rfl (fun K hK=> ?_) AllReadyH.nil
 go_simp
 refine hK.out _ _ (by (try dsimp only);try trivial) (fun hHeld=> ?_)
 clear hK K
 (try simp only [Act.put,List.setIfInBounds_toArray,List.set_cons_zero,List.set_cons_succ])
 refine wpAnyH_ready (rs:=[20]) (by kernel_rfl) (by simp) ?_
 refine AllReadyH.cons rfl (fun K hK=> ?_) AllReadyH.nil
 go_simp
 refine hK.out _ _ (by (try dsimp only);try trivial) (fun hHeld=> ?_)
 clear hK K
 (try simp only [Act.put,List.setIfInBounds_toArray,List.set_cons_zero,List.set_cons_succ])
 refine tk 21 rfl ?_
 refine tk 29 rfl ?_
 refine wpAnyH_ready (rs:=[30]) (by kernel_rfl) (by simp) ?_
 refine AllReadyH.cons rfl (fun K hK=> ?_) AllReadyH.nil
 go_simp
 (go_at_call 12;with_reducible refine ad (P4.out _ (HF.out.trans aD)) fun n4 os4=> ?_)
 refine hK.out _ _ (by (try dsimp only);try trivial) (fun hHeld=> ?_)
 clear hK K
 (try simp only [Act.put,List.setIfInBounds_toArray,List.set_cons_zero,List.set_cons_succ])
 refine tk 31 rfl ?_
 refine tk 32 rfl ?_
 refine tk 33 rfl ?_
 refine tk 34 rfl ?_
 refine tk 35 rfl ?_
 refine tk 36 rfl ?_
 refine tk 40 rfl ?_
 refine tk 41 rfl ?_
 refine tk 42 rfl ?_
 refine wpAnyH_ready (rs:=[37]) (by kernel_rfl) (by simp) ?_
 refine AllReadyH.cons rfl (fun K hK=> ?_) AllReadyH.nil
 go_simp
 refine hK.out _ _ (by (try dsimp only);try trivial) (fun hHeld=> ?_)
 clear hK K
 (try simp only [Act.put,List.setIfInBounds_toArray,List.set_cons_zero,List.set_cons_succ])
 refine wpAnyH_ready (rs:=[38]) (by kernel_rfl) (by simp) ?_
 refine AllReadyH.cons rfl (fun K hK=> ?_) AllReadyH.nil
 go_simp
 refine hK.out _ _ (by (try dsimp only);try trivial) (fun hHeld=> ?_)
 clear hK K
 (try simp only [Act.put,List.setIfInBounds_toArray,List.set_cons_zero,List.set_cons_succ])
 refine tk 39 rfl ?_
 refine tk 43 rfl ?_
 refine wpAnyH_ready (rs:=[44]) (by kernel_rfl) (by simp) ?_
 refine AllReadyH.cons rfl (fun K hK=> ?_) AllReadyH.nil
 go_simp
 (go_at_call 12;with_reducible refine ad (P5.out _ (HF.out.trans aD)) fun n5 os5=> ?_)
 refine hK.out _ _ (by (try dsimp only);try trivial) (fun hHeld=> ?_)
 clear hK K
 (try simp only [Act.put,List.setIfInBounds_toArray,List.set_cons_zero,List.set_cons_succ])
 refine tk 45 rfl ?_
 refine tk 46 rfl ?_
 refine wpAnyH_ready (rs:=[47]) (by kernel_rfl) (by simp) ?_
 refine AllReadyH.cons rfl (fun K hK=> ?_) AllReadyH.nil
 go_simp
 (go_at_call 7;with_reducible refine ad (HK.out _ (HF.out.trans aD)) fun n6 os6=> ?_)
 refine hK.out _ _ (by (try dsimp only);try trivial) (fun hHeld=> ?_)
 clear hK K
 (try simp only [Act.put,List.setIfInBounds_toArray,List.set_cons_zero,List.set_cons_succ])
 refine tk 48 rfl ?_
 refine tk 49 rfl ?_
 refine wpAnyH_done (by kernel_rfl) ?_ _
 refine NoPanic.normal ?_
 clear hHeld
 (try go_simp)
 go_wp2_with fail
 go_ret
 exact ⟨rfl,(HF.out.trans aD).below⟩
theorem laidRow:Rows.dumpParsesRow.laid=laid28:=rfl
theorem lifted (os:Os) (started:os.Started) (H:Type) (enc:TypeId×Value→H):
 ReturnsInHanded {} Tryz.checked os 4 .any (fun w args=>(Rows.dumpParsesSpec.pre enc Tryz.prog Tryz.f4 [] false w args∧laidMetH Tryz.prog laid28 w)∧sizedMet enc Tryz.prog Tryz.f4 (OpenSpec.ofChange Rows.dumpParsesSpec) false w args)
  (Rows.dumpParsesSpec.post enc Tryz.prog Tryz.f4 false true false false):=by
 refine returnsInHanded_of_change_and (C:=Tryz.checked) (X:=fun w _=>laidMetH Tryz.prog laid28 w) (fun _ _ _ hh h=>h.of_heap hh) own started (by kernel_rfl) Tryz.func4
  (ChangeSpec.witness_shaped (enc:=enc) (C:=Tryz.checked) (os:=os) (X:=fun w _=>laidMetH Tryz.prog laid28 w) false (World.doorLaid Tryz.prog 400 os) #[.string ByteArray.empty,.slice none 0 0,.int .i64 0,.int .u8 0] 8 rfl (World.shaped_of_RefB (by kernel_rfl) (by kernel_rfl)) (by kernel_rfl) (by kernel_rfl) (by kernel_rfl) (door28 os _)) ?_
 intro W base args ds gs before hval0 hW _ _ hL _
 have hval:∀(j:Nat) t v,Tryz.f4.params[j]? =some t→args[j]? =some v→Value.okWide Tryz.prog W .any base t v:=hval0
 have hW':=hW
 obtain ⟨p,q,hA0,hV,rfl,hfz,hnd⟩:=hW
 have hA:DataW.TrodAll enc Tryz.prog W 0 (fun _=>true) true Tryz.f4.params.toList args.toList ds p:=hA0
 rw [Tryz.params4] at hA hval
 obtain ⟨v0,vs0,d0,ds0,p0,q0,hargs,rfl,rfl,h0,r0⟩:=trodAll_cons hA
 obtain ⟨v1,vs1,d1,ds1,p1,q1,rfl,rfl,rfl,h1,r1⟩:=trodAll_cons r0
 obtain ⟨v2,vs2,d2,ds2,p2,q2,rfl,rfl,rfl,h2,r2⟩:=trodAll_cons r1
 obtain ⟨v3,vs3,d3,ds3,p3,q3,rfl,rfl,rfl,h3,r3⟩:=trodAll_cons r2
 obtain ⟨rfl,rfl,rfl⟩:=trodAll_nil r3
 obtain rfl:args=#[v0,v1,v2,v3]:=by cases args;simp_all
 obtain ⟨rfl,rfl⟩:=trodVars_none hV
 have k0:=h0
 have lt0:∀x∈p0,x.block < W.heap.size:=by obtain ⟨m,hm⟩:=k0;exact DataW.trod_lt m _ _ _ hm
 obtain ⟨a0,rfl, -, -,w0⟩:=open_string Tryz.underlying9 (hval 0 9 v0 rfl rfl) h0
 have k1:=h1
 have lt1:∀x∈p1,x.block < W.heap.size:=by obtain ⟨m,hm⟩:=k1;exact DataW.trod_lt m _ _ _ hm
 obtain ⟨a1,len1,cap1,rfl⟩:=okWide_slice Tryz.underlying23 (hval 1 23 v1 rfl rfl)
 obtain ⟨z1,w1⟩:∃zs,IsRow .i64 W a1 len1 cap1 zs:=by
  obtain ⟨fuel,hf⟩:=h1
  rcases open_ints Tryz.underlying23 Tryz.underlying3 (by kernel_rfl) hf with ⟨hcs,_⟩|⟨x,l,c,zs,hcs,_,hl,hm,hz,_,hcell,hwz⟩
  ·simp [Value.cells] at hcs
   obtain ⟨rfl,rfl,rfl⟩:=hcs
   exact ⟨[],.inl ⟨rfl,rfl,rfl,rfl⟩⟩
  ·simp [Value.cells] at hcs
   obtain ⟨rfl,rfl,rfl⟩:=hcs
   exact ⟨zs,.inr ⟨_,rfl,hl,hm,by simpa using hz,hcell,hwz⟩⟩
 have k2:=h2
 have lt2:∀x∈p2,x.block < W.heap.size:=by obtain ⟨m,hm⟩:=k2;exact DataW.trod_lt m _ _ _ hm
 obtain ⟨a2,rfl, -, -,w2⟩:=open_int Tryz.underlying3 (hval 2 3 v2 rfl rfl) h2
 have k3:=h3
 have lt3:∀x∈p3,x.block < W.heap.size:=by obtain ⟨m,hm⟩:=k3;exact DataW.trod_lt m _ _ _ hm
 obtain ⟨a3,rfl, -, -,w3⟩:=open_int Tryz.underlying5 (hval 3 5 v3 rfl rfl) h3
 clear hA0 hval0
 refine (walk a0 a1 len1 cap1 z1 a2 a3 W w0 w1 w2 w3 (tab_of hL)).mono fun e W' ⟨he,bel⟩=> ?_
 subst he
 exact ⟨_,rfl,_,_,_,[],_,[],hW',trodAll_mk1 (shut_bool Tryz.underlying4 _),(trodAll_cons_mk (Below.trod laidOut (by kernel_rfl) (of_decide_eq_true (by kernel_rfl)) k0 bel lt0) (trodAll_cons_mk (Below.trod laidOut (by kernel_rfl) (of_decide_eq_true (by kernel_rfl)) k1 bel lt1) (trodAll_cons_mk (Below.trod laidOut (by kernel_rfl) (of_decide_eq_true (by kernel_rfl)) k2 bel lt2) (trodAll_cons_mk (Below.trod laidOut (by kernel_rfl) (of_decide_eq_true (by kernel_rfl)) k3 bel lt3) trodAll_mk0)))),rfl,bel.frame _,fun h=>by cases h⟩
theorem over:Rows.dumpParsesRow.holds Tryz.pinned (OpenSpec.ofChange Rows.dumpParsesSpec):=
 OpenClaim.holds_of_wide 4 Tryz.f4 rfl rfl rfl rfl rfl rfl rfl ⟨rfl,rfl,rfl,rfl,rfl⟩ rfl rfl rfl rfl rfl (by kernel_rfl) Tryz.func4 (by kernel_rfl)
  (of_decide_eq_true (by kernel_rfl)) (by unfold Func.isWrapper;first|(rw [if_pos (by decide+kernel)];kernel_rfl)|(rw [if_neg (by decide+kernel)];exact ⟨rfl,rfl⟩))
  (fun os started H enc _=>lifted os started H enc)
theorem proved:Rows.DumpParsesCardSaid:=
 Claim7.holds_tied_plain_at .later [] [.data] true (true, "10f30e32e6f7978cb9f0b4434c136608c60f3fd2f671c400d4bd0930b8c15267") false over (fun _ h=>by cases h) (by kernel_rfl) (fun _ h=>by cases h) dumpParses_row_tie rfl ⟨rfl,rfl⟩ (by kernel_rfl) rfl
  (fun f fn hf hfn=>by
    obtain rfl:f=4:=Option.some.inj ((show Tryz.prog.funcNamed "tstate/tstatelaw28.DumpParses"=some 4 by kernel_rfl).symm.trans hf)|>.symm
    obtain rfl:fn=Tryz.f4:=(Option.some.inj (Tryz.func4.symm.trans hfn)).symm
    exact ⟨by kernel_rfl,fun j t ht=>by
     rw [Tryz.params4] at ht
     have hm:t∈[9,23,3,5]:=by simpa using Array.mem_of_getElem? ht
     have hall:([9,23,3,5].all fun u=> !Tryz.prog.wantsStandIn u)=true:=by kernel_rfl
     exact (show Tryz.prog.wantsStandIn t=false by simpa using List.all_eq_true.1 hall t hm)⟩)
  (by kernel_rfl)
#print axioms proved
end dumpParses
end Go.Proofs.YteggjjhjmhccjaaGreatDoor
