/- The tied card of DumpRoundTrips, proved: whatever the arguments are, the law returns true and leaves them as they were. Condition: the table of state names holds what the program's own text lays, which the card ties. -/
import Derived.Test.YteggjjhjmhccjaaGreatDoorTie
import Derived.Test.YteggjjhjmhccjaaGreatDoorCards
import Derived.Test.YteggjjhjmhccjaaGreatDoorQ00
import Derived.Test.YteggjjhjmhccjaaGreatDoorW03
import Derived.Test.YteggjjhjmhccjaaGreatDoorR01
import Derived.Test.YteggjjhjmhccjaaGreatDoorU00
import Derived.WalkKit
import Derived.ProofKit
import Derived.OpenShut
import Derived.ShutString
import Derived.ChangeOld
import Derived.Below
import Derived.Carry
set_option linter.unusedVariables false
set_option linter.unusedSimpArgs false
set_option maxRecDepth 100000
set_option maxHeartbeats 8000000
namespace Go.Proofs.YteggjjhjmhccjaaGreatDoor
open Go.ChangeShapes Go.WideShapes Go.ChangeAt Go.RowKit
namespace dumpRoundTrips
open Go.ChangeMaps (open_string shut_string)
theorem own:ownKnob Tryz.prog.godebug=none:=by kernel_rfl
theorem laidOut:laidOutB Tryz.prog=true:=by kernel_rfl
theorem isRow_adds {k:IntKind} {w w':World} {a:Option Addr} {len cap:Nat} {zs:List Int} (h:IsRow k w a len cap zs) (hA:Adds w w'):IsRow k w' a len cap zs:=by
 rcases h with h|⟨x,h1,h2,h3,h4,h5,h6⟩
 ·exact .inl h
 ·refine .inr ⟨x,h1,h2,h3,h4,fun i hi=> ?_,h6⟩
  have hc:=h5 i hi
  have hlt:=cell_lt hc
  have hs:=cell_spot hc
  obtain ⟨b,o,s⟩:=x
  have e:=hA.cell (b:=((⟨b,o,s⟩:Addr).add i).block) (i:=((⟨b,o,s⟩:Addr).add i).off) hlt
  rw [←hc]
  have:(⟨b,o,s⟩:Addr).add i=⟨((⟨b,o,s⟩:Addr).add i).block,((⟨b,o,s⟩:Addr).add i).off,none⟩:=by rw [←hs]
  rw [this]
  exact e
def st10 (p:S.Pn):S.Pn:={p with st:=1+S.plc p.st 10}
theorem st10_cs (p:S.Pn):csQ (st10 p)=(csQ p).set 0 (.int .i64 (1+S.plc p.st 10)):=rfl
theorem st10_okl {p:S.Pn} (h:p.bd):(st10 p).okl:=by
 obtain ⟨k0,k1⟩:=S.plc_bd p.st 10 (by omega)
 exact ⟨⟨show 1≤1+S.plc p.st 10 by omega,show 1+S.plc p.st 10≤10 by omega⟩,h.1,h.2⟩
theorem st10_at {l:List S.Pn} (k:Nat) (p:S.Pn) (h:l[k]? =some p):((l.take k).map st10++l.drop k)[k]? =some p:=by
 have hk:=(List.getElem?_eq_some_iff.1 h).1
 rw [List.getElem?_append_right (by rw [List.length_map,List.length_take];omega),List.length_map,List.length_take,List.getElem?_drop,←h]
 congr 1
 omega
theorem st10_set {l:List S.Pn} (k:Nat) (p:S.Pn) (h:l[k]? =some p):((l.take k).map st10++l.drop k).set k (st10 p)=(l.take (k+1)).map st10++l.drop (k+1):=by
 have hk:=(List.getElem?_eq_some_iff.1 h).1
 rw [List.set_append_right _ _ (by rw [List.length_map,List.length_take];omega),List.length_map,List.length_take,show k - min k l.length=0 by omega,List.drop_eq_getElem_cons hk,List.set_cons_zero,List.take_add_one,h,List.map_append,List.append_assoc]
 rfl
theorem walk (a0:Option Addr) (len0 cap0:Nat) (a1:Option Addr) (len1 cap1:Nat) (z1:List Int) (w:World) (w0:(len0≤cap0∧cap0≤9223372036854775807∧(a0=none→cap0=0))∧∃l,ArgQ w a0 len0 l) (w1:IsRow .i64 w a1 len1 cap1 z1) (hT:Tab28 w):
 Calls Tryz.prog 5 #[.slice a0 len0 cap0,.slice a1 len1 cap1] w fun e w'=>e=.returned (.bool true)∧Below w.heap.size w w':=by
 have W0:=Lib.hid w0
 have W1:=Lib.hid w1
 have HT:=Lib.hid hT
 have HK:=Lib.hid (fun (W:World) (k:Adds w W)=>known28 W (hT.adds k))
 clear w0 w1 hT
 by_cases h60:60 < len0
 ·have q1:(60:Int) < (len0:Int):=by omega
  go_enter Tryz.func5,Tryz.ntmps5
  go_wp2_with (go_at_call 7;(with_reducible refine (HK.out _ aD).mono ?_);rintro e wC ⟨rfl,AC⟩)
  go_ret
  exact ⟨rfl,(show Adds w wC from (show Adds w _ from aD).trans AC).below⟩
 have q1:¬(60:Int) < (len0:Int):=by omega
 by_cases h200:200 < len1
 ·have q2:(200:Int) < (len1:Int):=by omega
  go_enter Tryz.func5,Tryz.ntmps5
  go_wp2_with (go_at_call 7;(with_reducible refine (HK.out _ aD).mono ?_);rintro e wC ⟨rfl,AC⟩)
  go_ret
  exact ⟨rfl,(show Adds w wC from (show Adds w _ from aD).trans AC).below⟩
 have q2:¬(200:Int) < (len1:Int):=by omega
 obtain ⟨l,hl⟩:=W0.out.2
 have HX:=Lib.hid (hl.held (by omega))
 have HB:=Lib.hid hl.2
 have HLn:=Lib.hid hl.1.1
 clear hl
 go_enter Tryz.func5,Tryz.ntmps5
 go_upto_region 3 with fail
 go_cut [5] from 21 to 22 (fun v5 wx=>∃(a3:Option Addr) (n3 c3:Nat),v5=.slice a3 n3 c3∧Hid (OwnsQ wx w.heap.size (.slice a3 n3 c3) l)∧Hid (Adds w wx))
 case first=>
  rcases Nat.eq_zero_or_pos len0 with hz|hz
  ·subst hz
   obtain rfl:l=[]:=List.eq_nil_of_length_eq_zero HLn.out
   cases a0 with
   |none=>
    have hc:=W0.out.1.2.2 rfl
    subst hc
    go_wp2_with fail
    go_meet
    exact ⟨none,0,0,rfl,OwnsG.nil _ _,aD⟩
   |some ad0=>
    go_wp2_with (at_builtin;refine wpList_appQ rfl _ _ rfl w.heap.size (.slice none 0 0) [] rfl (OwnsG.nil _ _) ad0 0 cap0 [] rfl rfl (fun j u hu=>by simp [Fl] at hu) (by simp;try omega) (Nat.le_refl _) ?_;intro v3 w3 hO3 hG3;obtain ⟨a3,n3,c3,rfl, -, -, -, -, -⟩:=hO3.form2;have O3:=Lib.hid hO3;have A3:=Lib.hid (Adds.ownG (Adds.refl w) (OwnsG.nil (cs:=csQ) (sz:=17) (E:=34) w _) hG3);clear hO3 hG3)
    go_meet
    exact ⟨a3,n3,c3,rfl,O3.out,A3.out⟩
  ·obtain ⟨b,o,rfl,hb,hat⟩:=HX.out.2.2 hz
   have HAt:=Lib.hid (show ∀j u,(Fl csQ l)[j]? =some u→w.cell? ((⟨b,o,none⟩:Addr).add j)=some u from fun j u hu=>by rw [add_plain];exact hat j u hu)
   clear hat
   go_wp2_with (at_builtin;refine wpList_appQ rfl _ _ rfl w.heap.size (.slice none 0 0) [] rfl (OwnsG.nil _ _) ⟨b,o,none⟩ len0 cap0 l rfl HLn.out HAt.out (by simp;try omega) (Nat.le_refl _) ?_;intro v3 w3 hO3 hG3;obtain ⟨a3,n3,c3,rfl, -, -, -, -, -⟩:=hO3.form2;have O3:=Lib.hid hO3;have A3:=Lib.hid (Adds.ownG (Adds.refl w) (OwnsG.nil (cs:=csQ) (sz:=17) (E:=34) w _) hG3);clear hO3 hG3)
   go_meet
   exact ⟨a3,n3,c3,rfl,O3.out,A3.out⟩
 case rest=>
  obtain ⟨a3,n3,c3,rfl,HO3,HA3⟩:=hcut
  have hn3:=HO3.out.len
  have hl60:n3≤60:=by have:=HLn.out;omega
  clear W0 HX
  go_wp2_with fail
  go_loopw [25] (fun i wr=>∃k:Nat,k≤n3∧i=.int .i64 (k:Int)∧Hid (OwnsQ wr w.heap.size (.slice a3 n3 c3) ((l.take k).map st10++l.drop k))∧Hid (Adds w wr)) (fun i _=>n3 - (intOf i).toNat)
  case atStart=>exact ⟨0,by omega,rfl,(show OwnsQ wc w.heap.size (.slice a3 n3 c3) ((l.take 0).map st10++l.drop 0) by simpa using HO3.out),HA3.out.trans aD⟩
  case round=>
   obtain ⟨k,hk,rfl,HO,HA⟩:=hrel
   by_cases hlt:k < n3
   ·have q3:(k:Int) < (n3:Int):=by omega
    obtain ⟨g,rfl,hg1,hg2⟩:=HO.out.head (by omega)
    obtain ⟨p,hp⟩:=get_el (d:=l) (k:=k) (by omega)
    have hd:=st10_at k p hp
    have hc:wr.cell? ⟨g,k * 17,none⟩=some (.int .i64 p.st):=by
     have:=HO.out.at_.el csQ_len hd (k:=0) (u:=.int .i64 p.st) rfl
     simpa using this
    have hz:wr.frozen? ⟨g,k * 17,none⟩=false:=HO.out.frozen _
    have HO':=Lib.hid (HO.out.cell28 csQ_len hd (k:=0) (by decide) (st10_cs p))
    rw [st10_set k p hp,Nat.add_zero] at HO'
    have HP:=Lib.hid (fun w=>mplace_any p.st 10 (by omega) (by omega) w)
    obtain ⟨k0,k1⟩:=S.plc_bd p.st 10 (by omega)
    generalize S.plc p.st 10=z at *
    clear hp hd
    go_wp2_with (go_at_call 11;(with_reducible refine (HP.out _).mono ?_);rintro e w' ⟨rfl,rfl⟩)
    exact ⟨⟨k+1,by omega,by go_num,HO'.out.adds aD,(HA.out.setCell (a:=⟨g,k * 17,none⟩) hg1 _).trans aD⟩,by simp [intOf];omega⟩
   ·obtain rfl:k=n3:=by omega
    have q3:¬(k:Int) < (k:Int):=by omega
    have hO:=HO.out
    rw [List.take_of_length_le (by omega),List.drop_of_length_le (by omega),List.append_nil] at hO
    have HOk:=Lib.hid (fun (p:S.Pn) (hp:p∈l.map st10)=>(by
     obtain ⟨x,hx,rfl⟩:=List.mem_map.1 hp
     exact st10_okl (HB.out x hx):p.okl))
    have hml:(l.map st10).length=k:=by rw [List.length_map];exact hn3
    generalize l.map st10=d at *
    have HO1:=Lib.hid hO
    clear hO HO HO3 hn3
    go_wp2_with (go_at_call 8;(refine (made28 a1 len1 cap1 z1 _ (isRow_adds W1.out (HA.out.trans aD)) (by omega)).mono ?_);rintro e wm ⟨am,nm,cm,tl,rfl,hO,hln,hok,hA⟩;have A0:=Lib.hid (HA.out.trans ((show Adds wr _ from aD).trans hA));have X1:=Lib.hid ((HO1.out.adds ((show Adds wr _ from aD).trans hA)).held (by omega));have X2:=Lib.hid (hO.held (by omega));have XN:=Lib.hid (And.intro hO.len hln);have XO:=Lib.hid (fun (p:S.Pn) (hp:p∈tl)=>(show p.okl from ⟨(hok p hp).2.2,(hok p hp).1,(hok p hp).2.1⟩));clear hO hln hok hA)
    go_loopw [44] (fun i wq=>∃j:Nat,j≤2∧i=.int .i64 (j:Int)∧Hid (Adds wm wq)) (fun i _=>2 - (intOf i).toNat)
    case atStart=>exact ⟨0,by omega,rfl,aD⟩
    case round=>
     obtain ⟨j,hj,rfl,HJ⟩:=hrel
     by_cases h2:j < 2
     ·have q4:(j:Int) < 2:=by omega
      obtain ⟨ax,nx,cx,dx,hidx,hX,hOk,hNx⟩:∃(ax:Option Addr) (nx cx:Nat) (dx:List S.Pn),(∀w,(Instr.index 35 (.agg #[.slice a3 k c3,.slice am nm cm]) (.int .i64 j)).run Tryz.prog w=.ok (.slice ax nx cx) w)∧HeldQ wr ax nx dx∧(∀p∈dx,p.okl)∧nx≤65000:=by
       rcases (by omega:j=0∨j=1) with rfl|rfl
       ·exact ⟨a3,k,c3,d,fun w=>by kernel_rfl,X1.out.adds HJ.out,HOk.out,by omega⟩
       ·exact ⟨am,nm,cm,tl,fun w=>by kernel_rfl,X2.out.adds HJ.out,XO.out,by have:=XN.out;omega⟩
      have hnl:=hX.1
      have HF:=Lib.hid (fun (W:World) (q:Adds wr W)=>format28 ax nx cx dx (fun p hp=>⟨(hOk p hp).2.1,(hOk p hp).2.2⟩) (by omega) W (hX.adds q) (HT.out.adds ((A0.out.trans HJ.out).trans q)))
      have hfl:=S.fmt_len dx
      have HPa:=Lib.hid (fun (W:World) (q:Adds wr W)=>parse28 (S.fmt28 dx) (by omega) W (HT.out.adds ((A0.out.trans HJ.out).trans q)))
      rw [S.par_fmt dx hOk] at HPa
      simp only [] at HPa
      rw [show S.er28 true=0 from rfl] at HPa
      have HXx:=Lib.hid hX
      have HNl:=Lib.hid hnl
      clear hX hOk hfl hnl
      generalize S.fmt28 dx=tx at *
      go_wp2_with (first
       |(go_at_call 9;(with_reducible refine (HF.out _ aD).mono ?_);rintro e wf ⟨rfl,hAf⟩;have AF:=Lib.hid hAf;clear hAf)
       |(go_at_call 13;(with_reducible refine (HPa.out _ AF.out).mono ?_);rintro e wp ⟨vp,rfl,hOp,hAp⟩;obtain ⟨ap,np,cp,rfl,hnp, -, -, -, -⟩:=hOp.form2;obtain rfl:np=nx:=hnp.out.symm.trans HNl.out;have XP:=Lib.hid (hOp.held (by have:=HNl.out;omega));have AP:=Lib.hid (AF.out.trans hAp);clear hOp hAp hnp)
       |(go_at_call 14;(refine (spins_any ax ap np cx cp dx _ (HXx.out.adds AP.out) XP.out).mono ?_);rintro e ws ⟨rfl,hAs⟩;have AS:=Lib.hid (AP.out.trans hAs);clear hAs)
       |fail)
      exact ⟨⟨j+1,by omega,by go_num,HJ.out.trans (AS.out.trans aD)⟩,by simp [intOf];omega⟩
     ·obtain rfl:j=2:=by omega
      go_wp2_with (go_at_call 7;(with_reducible refine (HK.out _ ((A0.out.trans HJ.out).trans aD)).mono ?_);rintro e w' ⟨rfl,⟨⟨n5,os5⟩,rfl⟩⟩)
      go_ret
      exact ⟨rfl,((A0.out.trans HJ.out).trans aD).below⟩
theorem laidRow:Rows.dumpRoundTripsRow.laid=laid28:=rfl
theorem lifted (os:Os) (started:os.Started) (H:Type) (enc:TypeId×Value→H):
 ReturnsInHanded {} Tryz.checked os 5 .any (fun w args=>(Rows.dumpRoundTripsSpec.pre enc Tryz.prog Tryz.f5 [] false w args∧laidMetH Tryz.prog laid28 w)∧sizedMet enc Tryz.prog Tryz.f5 (OpenSpec.ofChange Rows.dumpRoundTripsSpec) false w args)
  (Rows.dumpRoundTripsSpec.post enc Tryz.prog Tryz.f5 false true false false):=by
 refine returnsInHanded_of_change_and (C:=Tryz.checked) (X:=fun w _=>laidMetH Tryz.prog laid28 w) (fun _ _ _ hh h=>h.of_heap hh) own started (by kernel_rfl) Tryz.func5
  (ChangeSpec.witness_shaped (enc:=enc) (C:=Tryz.checked) (os:=os) (X:=fun w _=>laidMetH Tryz.prog laid28 w) false (World.doorLaid Tryz.prog 400 os) #[.slice none 0 0,.slice none 0 0] 8 rfl (World.shaped_of_RefB (by kernel_rfl) (by kernel_rfl)) (by kernel_rfl) (by kernel_rfl) (by kernel_rfl) (door28 os _)) ?_
 intro W base args ds gs before hval0 hW _ _ hL _
 have hval:∀(j:Nat) t v,Tryz.f5.params[j]? =some t→args[j]? =some v→Value.okWide Tryz.prog W .any base t v:=hval0
 have hW':=hW
 obtain ⟨p,q,hA0,hV,rfl,hfz,hnd⟩:=hW
 have hA:DataW.TrodAll enc Tryz.prog W 0 (fun _=>true) true Tryz.f5.params.toList args.toList ds p:=hA0
 rw [Tryz.params5] at hA hval
 obtain ⟨v0,vs0,d0,ds0,p0,q0,hargs,rfl,rfl,h0,r0⟩:=trodAll_cons hA
 obtain ⟨v1,vs1,d1,ds1,p1,q1,rfl,rfl,rfl,h1,r1⟩:=trodAll_cons r0
 obtain ⟨rfl,rfl,rfl⟩:=trodAll_nil r1
 obtain rfl:args=#[v0,v1]:=by cases args;simp_all
 obtain ⟨rfl,rfl⟩:=trodVars_none hV
 have k0:=h0
 have lt0:∀x∈p0,x.block < W.heap.size:=by obtain ⟨m,hm⟩:=k0;exact DataW.trod_lt m _ _ _ hm
 obtain ⟨a0,len0,cap0,rfl⟩:=okWide_slice Tryz.underlying22 (hval 0 22 v0 rfl rfl)
 have w0:(len0≤cap0∧cap0≤9223372036854775807∧(a0=none→cap0=0))∧∃l,ArgQ W a0 len0 l:=by
  obtain ⟨fuel,hf⟩:=h0
  obtain ⟨x,l,c,hcs,hcap,hh⟩:=open_pins hf
  simp [Value.cells] at hcs
  obtain ⟨rfl,rfl,rfl⟩:=hcs
  exact ⟨hcap,hh⟩
 have k1:=h1
 have lt1:∀x∈p1,x.block < W.heap.size:=by obtain ⟨m,hm⟩:=k1;exact DataW.trod_lt m _ _ _ hm
 obtain ⟨a1,len1,cap1,rfl⟩:=okWide_slice Tryz.underlying23 (hval 1 23 v1 rfl rfl)
 obtain ⟨z1,w1⟩:∃zs,IsRow .i64 W a1 len1 cap1 zs:=by
  obtain ⟨fuel,hf⟩:=h1
  rcases open_ints Tryz.underlying23 Tryz.underlying3 (by kernel_rfl) hf with ⟨hcs,_⟩|⟨x,l,c,zs,hcs,_,hl,hm,hz,_,hcell,hwz⟩
  ·simp [Value.cells] at hcs
   obtain ⟨rfl,rfl,rfl⟩:=hcs
   exact ⟨[],.inl ⟨rfl,rfl,rfl,rfl⟩⟩
  ·simp [Value.cells] at hcs
   obtain ⟨rfl,rfl,rfl⟩:=hcs
   exact ⟨zs,.inr ⟨_,rfl,hl,hm,by simpa using hz,hcell,hwz⟩⟩
 clear hA0 hval0
 refine (walk a0 len0 cap0 a1 len1 cap1 z1 W w0 w1 (tab_of hL)).mono fun e W' ⟨he,bel⟩=> ?_
 subst he
 exact ⟨_,rfl,_,_,_,[],_,[],hW',trodAll_mk1 (shut_bool Tryz.underlying4 _),(trodAll_cons_mk (Below.trod laidOut (by kernel_rfl) (of_decide_eq_true (by kernel_rfl)) k0 bel lt0) (trodAll_cons_mk (Below.trod laidOut (by kernel_rfl) (of_decide_eq_true (by kernel_rfl)) k1 bel lt1) trodAll_mk0)),rfl,bel.frame _,fun h=>by cases h⟩
theorem over:Rows.dumpRoundTripsRow.holds Tryz.pinned (OpenSpec.ofChange Rows.dumpRoundTripsSpec):=
 OpenClaim.holds_of_wide 5 Tryz.f5 rfl rfl rfl rfl rfl rfl rfl ⟨rfl,rfl,rfl,rfl,rfl⟩ rfl rfl rfl rfl rfl (by kernel_rfl) Tryz.func5 (by kernel_rfl)
  (of_decide_eq_true (by kernel_rfl)) (by unfold Func.isWrapper;first|(rw [if_pos (by decide+kernel)];kernel_rfl)|(rw [if_neg (by decide+kernel)];exact ⟨rfl,rfl⟩))
  (fun os started H enc _=>lifted os started H enc)
theorem proved:Rows.DumpRoundTripsCardSaid:=
 Claim7.holds_tied_plain_at .later [] [.data] true (true, "10f30e32e6f7978cb9f0b4434c136608c60f3fd2f671c400d4bd0930b8c15267") false over (fun _ h=>by cases h) (by kernel_rfl) (fun _ h=>by cases h) dumpRoundTrips_row_tie rfl ⟨rfl,rfl⟩ (by kernel_rfl) rfl
  (fun f fn hf hfn=>by
    obtain rfl:f=5:=Option.some.inj ((show Tryz.prog.funcNamed "tstate/tstatelaw28.DumpRoundTrips"=some 5 by kernel_rfl).symm.trans hf)|>.symm
    obtain rfl:fn=Tryz.f5:=(Option.some.inj (Tryz.func5.symm.trans hfn)).symm
    exact ⟨by kernel_rfl,fun j t ht=>by
     rw [Tryz.params5] at ht
     have hm:t∈[22,23]:=by simpa using Array.mem_of_getElem? ht
     have hall:([22,23].all fun u=> !Tryz.prog.wantsStandIn u)=true:=by kernel_rfl
     exact (show Tryz.prog.wantsStandIn t=false by simpa using List.all_eq_true.1 hall t hm)⟩)
  (by kernel_rfl)
#print axioms proved
end dumpRoundTrips
end Go.Proofs.YteggjjhjmhccjaaGreatDoor
