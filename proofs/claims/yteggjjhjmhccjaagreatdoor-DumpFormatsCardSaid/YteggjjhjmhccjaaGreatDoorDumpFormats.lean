/- The tied card of DumpFormats, proved: whatever the arguments are, the law returns true and leaves them as they were. Condition: the table of state names holds what the program's own text lays, which the card ties. -/
import Derived.Test.YteggjjhjmhccjaaGreatDoorTie
import Derived.Test.YteggjjhjmhccjaaGreatDoorCards
import Derived.Test.YteggjjhjmhccjaaGreatDoorQ00
import Derived.Test.YteggjjhjmhccjaaGreatDoorR03
import Derived.Test.YteggjjhjmhccjaaGreatDoorR01
import Derived.WalkKit
import Derived.ProofKit
import Derived.OpenShut
import Derived.ShutString
import Derived.ChangeOld
import Derived.Below
import Derived.Carry
set_option linter.unusedVariables false
set_option linter.unusedSimpArgs false
set_option maxRecDepth 100000
set_option maxHeartbeats 8000000
namespace Go.Proofs.YteggjjhjmhccjaaGreatDoor
open Go.ChangeShapes Go.WideShapes Go.ChangeAt Go.RowKit
namespace dumpFormats
open Go.ChangeMaps (open_string shut_string)
theorem own:ownKnob Tryz.prog.godebug=none:=by kernel_rfl
theorem laidOut:laidOutB Tryz.prog=true:=by kernel_rfl
theorem walk (a0:Option Addr) (len0 cap0:Nat) (a1:Option Addr) (len1 cap1:Nat) (z1:List Int) (w:World) (w0:(len0≤cap0∧cap0≤9223372036854775807∧(a0=none→cap0=0))∧∃l,ArgQ w a0 len0 l) (w1:IsRow .i64 w a1 len1 cap1 z1) (hT:Tab28 w):
 Calls Tryz.prog 3 #[.slice a0 len0 cap0,.slice a1 len1 cap1] w fun e w'=>e=.returned (.bool true)∧Below w.heap.size w w':=by
 have W0:=Lib.hid w0
 have W1:=Lib.hid w1
 have HT:=Lib.hid hT
 have HK:=Lib.hid (fun (W:World) (k:Adds w W)=>known28 W (hT.adds k))
 clear w0 w1 hT
 by_cases h60:60 < len0
 ·have q1:(60:Int) < (len0:Int):=by omega
  go_enter Tryz.func3,Tryz.ntmps3
  go_wp2_with (go_at_call 7;(with_reducible refine (HK.out _ aD).mono ?_);rintro e wC ⟨rfl,AC⟩)
  go_ret
  exact ⟨rfl,(show Adds w wC from (show Adds w _ from aD).trans AC).below⟩
 have q1:¬(60:Int) < (len0:Int):=by omega
 by_cases h200:200 < len1
 ·have q2:(200:Int) < (len1:Int):=by omega
  go_enter Tryz.func3,Tryz.ntmps3
  go_wp2_with (go_at_call 7;(with_reducible refine (HK.out _ aD).mono ?_);rintro e wC ⟨rfl,AC⟩)
  go_ret
  exact ⟨rfl,(show Adds w wC from (show Adds w _ from aD).trans AC).below⟩
 have q2:¬(200:Int) < (len1:Int):=by omega
 obtain ⟨l,hl⟩:=W0.out.2
 have F1:=Lib.hid (fun (W:World) (k:Adds w W)=>format28 a0 len0 cap0 l hl.2 (by omega) W ((hl.held (by omega)).adds k) (HT.out.adds k))
 have F2:=Lib.hid (fun (W:World) (k:Adds w W)=>rformat28 a0 len0 cap0 l hl.2 (by omega) W ((hl.held (by omega)).adds k))
 generalize S.fmt28 l=tx at *
 clear hl W0
 have dx:(tx==tx)=true:=by simp
 go_enter Tryz.func3,Tryz.ntmps3
 go_upto_region 4 with (go_at_call 8;(with_reducible refine (made28 a1 len1 cap1 z1 w W1.out (by omega)).mono ?_);rintro e wm ⟨am,nm,cm,tl,rfl,hO,hln,hok,hA⟩;have HM:=Lib.hid (And.intro (hO.held (by omega)) (And.intro (And.intro hO.len hln) (fun (p:S.Pn) (hp:p∈tl)=>(show p.bd from ⟨(hok p hp).1,(hok p hp).2.1⟩))));have HA:=Lib.hid hA;clear hO hln hok hA)
 have F3:=Lib.hid (fun (W:World) (k:Adds wm W)=>format28 am nm cm tl HM.out.2.2 (by have:=HM.out.2.1;omega) W (HM.out.1.adds k) (HT.out.adds (HA.out.trans k)))
 have F4:=Lib.hid (fun (W:World) (k:Adds wm W)=>rformat28 am nm cm tl HM.out.2.2 (by have:=HM.out.2.1;omega) W (HM.out.1.adds k))
 generalize S.fmt28 tl=ty at *
 have dy:(ty==ty)=true:=by simp
 clear HM
 go_wp2_with (first
  |(go_at_call 9;first|(with_reducible refine (F1.out _ HA.out).mono ?_;rintro e x1 ⟨rfl,h⟩;have K1:=Lib.hid h;clear h)|(with_reducible refine (F3.out _ K2.out).mono ?_;rintro e x3 ⟨rfl,h⟩;have K3:=Lib.hid (K2.out.trans h);clear h))
  |(go_at_call 10;first|(with_reducible refine (F2.out _ (HA.out.trans K1.out)).mono ?_;rintro e x2 ⟨rfl,h⟩;have K2:=Lib.hid (K1.out.trans h);clear h)|(with_reducible refine (F4.out _ K3.out).mono ?_;rintro e x4 ⟨rfl,h⟩;have K4:=Lib.hid (K3.out.trans h);clear h))
  |(go_at_call 7;(with_reducible refine (HK.out _ (HA.out.trans K4.out)).mono ?_);rintro e x5 ⟨rfl,h⟩;have K5:=Lib.hid (K4.out.trans h);clear h)
  |fail)
 go_ret
 exact ⟨rfl,(HA.out.trans (K5.out.trans aD)).below⟩
theorem laidRow:Rows.dumpFormatsRow.laid=laid28:=rfl
theorem lifted (os:Os) (started:os.Started) (H:Type) (enc:TypeId×Value→H):
 ReturnsInHanded {} Tryz.checked os 3 .any (fun w args=>(Rows.dumpFormatsSpec.pre enc Tryz.prog Tryz.f3 [] false w args∧laidMetH Tryz.prog laid28 w)∧sizedMet enc Tryz.prog Tryz.f3 (OpenSpec.ofChange Rows.dumpFormatsSpec) false w args)
  (Rows.dumpFormatsSpec.post enc Tryz.prog Tryz.f3 false true false false):=by
 refine returnsInHanded_of_change_and (C:=Tryz.checked) (X:=fun w _=>laidMetH Tryz.prog laid28 w) (fun _ _ _ hh h=>h.of_heap hh) own started (by kernel_rfl) Tryz.func3
  (ChangeSpec.witness_shaped (enc:=enc) (C:=Tryz.checked) (os:=os) (X:=fun w _=>laidMetH Tryz.prog laid28 w) false (World.doorLaid Tryz.prog 400 os) #[.slice none 0 0,.slice none 0 0] 8 rfl (World.shaped_of_RefB (by kernel_rfl) (by kernel_rfl)) (by kernel_rfl) (by kernel_rfl) (by kernel_rfl) (door28 os _)) ?_
 intro W base args ds gs before hval0 hW _ _ hL _
 have hval:∀(j:Nat) t v,Tryz.f3.params[j]? =some t→args[j]? =some v→Value.okWide Tryz.prog W .any base t v:=hval0
 have hW':=hW
 obtain ⟨p,q,hA0,hV,rfl,hfz,hnd⟩:=hW
 have hA:DataW.TrodAll enc Tryz.prog W 0 (fun _=>true) true Tryz.f3.params.toList args.toList ds p:=hA0
 rw [Tryz.params3] at hA hval
 obtain ⟨v0,vs0,d0,ds0,p0,q0,hargs,rfl,rfl,h0,r0⟩:=trodAll_cons hA
 obtain ⟨v1,vs1,d1,ds1,p1,q1,rfl,rfl,rfl,h1,r1⟩:=trodAll_cons r0
 obtain ⟨rfl,rfl,rfl⟩:=trodAll_nil r1
 obtain rfl:args=#[v0,v1]:=by cases args;simp_all
 obtain ⟨rfl,rfl⟩:=trodVars_none hV
 have k0:=h0
 have lt0:∀x∈p0,x.block < W.heap.size:=by obtain ⟨m,hm⟩:=k0;exact DataW.trod_lt m _ _ _ hm
 obtain ⟨a0,len0,cap0,rfl⟩:=okWide_slice Tryz.underlying22 (hval 0 22 v0 rfl rfl)
 have w0:(len0≤cap0∧cap0≤9223372036854775807∧(a0=none→cap0=0))∧∃l,ArgQ W a0 len0 l:=by
  obtain ⟨fuel,hf⟩:=h0
  obtain ⟨x,l,c,hcs,hcap,hh⟩:=open_pins hf
  simp [Value.cells] at hcs
  obtain ⟨rfl,rfl,rfl⟩:=hcs
  exact ⟨hcap,hh⟩
 have k1:=h1
 have lt1:∀x∈p1,x.block < W.heap.size:=by obtain ⟨m,hm⟩:=k1;exact DataW.trod_lt m _ _ _ hm
 obtain ⟨a1,len1,cap1,rfl⟩:=okWide_slice Tryz.underlying23 (hval 1 23 v1 rfl rfl)
 obtain ⟨z1,w1⟩:∃zs,IsRow .i64 W a1 len1 cap1 zs:=by
  obtain ⟨fuel,hf⟩:=h1
  rcases open_ints Tryz.underlying23 Tryz.underlying3 (by kernel_rfl) hf with ⟨hcs,_⟩|⟨x,l,c,zs,hcs,_,hl,hm,hz,_,hcell,hwz⟩
  ·simp [Value.cells] at hcs
   obtain ⟨rfl,rfl,rfl⟩:=hcs
   exact ⟨[],.inl ⟨rfl,rfl,rfl,rfl⟩⟩
  ·simp [Value.cells] at hcs
   obtain ⟨rfl,rfl,rfl⟩:=hcs
   exact ⟨zs,.inr ⟨_,rfl,hl,hm,by simpa using hz,hcell,hwz⟩⟩
 clear hA0 hval0
 refine (walk a0 len0 cap0 a1 len1 cap1 z1 W w0 w1 (tab_of hL)).mono fun e W' ⟨he,bel⟩=> ?_
 subst he
 exact ⟨_,rfl,_,_,_,[],_,[],hW',trodAll_mk1 (shut_bool Tryz.underlying4 _),(trodAll_cons_mk (Below.trod laidOut (by kernel_rfl) (of_decide_eq_true (by kernel_rfl)) k0 bel lt0) (trodAll_cons_mk (Below.trod laidOut (by kernel_rfl) (of_decide_eq_true (by kernel_rfl)) k1 bel lt1) trodAll_mk0)),rfl,bel.frame _,fun h=>by cases h⟩
theorem over:Rows.dumpFormatsRow.holds Tryz.pinned (OpenSpec.ofChange Rows.dumpFormatsSpec):=
 OpenClaim.holds_of_wide 3 Tryz.f3 rfl rfl rfl rfl rfl rfl rfl ⟨rfl,rfl,rfl,rfl,rfl⟩ rfl rfl rfl rfl rfl (by kernel_rfl) Tryz.func3 (by kernel_rfl)
  (of_decide_eq_true (by kernel_rfl)) (by unfold Func.isWrapper;first|(rw [if_pos (by decide+kernel)];kernel_rfl)|(rw [if_neg (by decide+kernel)];exact ⟨rfl,rfl⟩))
  (fun os started H enc _=>lifted os started H enc)
theorem proved:Rows.DumpFormatsCardSaid:=
 Claim7.holds_tied_plain_at .later [] [.data] true (true, "10f30e32e6f7978cb9f0b4434c136608c60f3fd2f671c400d4bd0930b8c15267") false over (fun _ h=>by cases h) (by kernel_rfl) (fun _ h=>by cases h) dumpFormats_row_tie rfl ⟨rfl,rfl⟩ (by kernel_rfl) rfl
  (fun f fn hf hfn=>by
    obtain rfl:f=3:=Option.some.inj ((show Tryz.prog.funcNamed "tstate/tstatelaw28.DumpFormats"=some 3 by kernel_rfl).symm.trans hf)|>.symm
    obtain rfl:fn=Tryz.f3:=(Option.some.inj (Tryz.func3.symm.trans hfn)).symm
    exact ⟨by kernel_rfl,fun j t ht=>by
     rw [Tryz.params3] at ht
     have hm:t∈[22,23]:=by simpa using Array.mem_of_getElem? ht
     have hall:([22,23].all fun u=> !Tryz.prog.wantsStandIn u)=true:=by kernel_rfl
     exact (show Tryz.prog.wantsStandIn t=false by simpa using List.all_eq_true.1 hall t hm)⟩)
  (by kernel_rfl)
#print axioms proved
end dumpFormats
end Go.Proofs.YteggjjhjmhccjaaGreatDoor
