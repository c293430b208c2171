/- The statement GrammarTraces, proved, whatever its arguments are. No condition beyond the statement's own. -/
import Derived.Test.YteggjjhjmhccjaaGreatQ00
import Derived.Test.YteggjjhjmhccjaaGreatRows
import Derived.Test.YteggjjhjmhccjaaGreatQ24
import Derived.Test.YteggjjhjmhccjaaGreatQ36
import Derived.Test.YteggjjhjmhccjaaGreatQ52
import Derived.Test.YteggjjhjmhccjaaGreatQ01
import Derived.Test.YteggjjhjmhccjaaGreatQ03
import Derived.WalkKit
import Derived.ProofKit
import Derived.OpenShut
import Derived.ShutString
import Derived.ChangeOld
import Derived.Below
import Derived.Carry
set_option linter.unusedVariables false
set_option linter.unusedSimpArgs false
set_option maxRecDepth 100000
set_option maxHeartbeats 8000000
namespace Go.Proofs.YteggjjhjmhccjaaGreat
open Go.ChangeShapes Go.WideShapes Go.ChangeAt Go.RowKit
namespace grammarTraces
open Go.ChangeMaps (open_string shut_string)
theorem own:ownKnob Tryz.prog.godebug=none:=by kernel_rfl
theorem laidOut:laidOutB Tryz.prog=true:=by kernel_rfl
theorem walk (a0:Option Addr) (len0 cap0:Nat) (z0:List Int) (w:World) (w0:IsRow .i64 w a0 len0 cap0 z0):
 Calls Tryz.prog 4 #[.slice a0 len0 cap0] w fun e w'=>e=.returned (.bool true)∧Below w.heap.size w w':=by
 have W0:=Lib.hid w0
 clear w0
 by_cases h250:250 < len0
 ·go_enter Tryz.func4,Tryz.ntmps4
  go_wp2_with (go_at_call 5;(with_reducible refine (known26).mono ?_);rintro e wC ⟨rfl,AC⟩)
  go_ret
  exact ⟨rfl,AC.below⟩
 have HN:=Lib.hid (show len0≤1000 by omega)
 go_enter Tryz.func4,Tryz.ntmps4
 go_upto_region 4 with (go_at_call 6;(with_reducible refine (runs_any a0 len0 cap0 z0 w W0.out HN.out).mono ?_);rintro e w2 ⟨x,r,tl,il,q,rfl,hT,hI,hV,hn,hA⟩;have HT:=Lib.hid hT;have HI:=Lib.hid hI;have HV:=Lib.hid hV;have HL:=Lib.hid hn;have HA:=Lib.hid hA;clear hT hI hV hn hA)
 have htt:=S.len_tot il HV.out.ok
 have htot:=HV.out.tot
 obtain ⟨z1,e1⟩:∃z,z=S.sm S.f1 il:=⟨_,rfl⟩
 obtain ⟨z2,e2⟩:∃z,z=S.sm S.f2 il:=⟨_,rfl⟩
 obtain ⟨z3,e3⟩:∃z,z=S.sm S.f3 il:=⟨_,rfl⟩
 obtain ⟨z4,e4⟩:∃z,z=S.sm S.f4 il:=⟨_,rfl⟩
 obtain ⟨z5,e5⟩:∃z,z=S.sm S.f5 il:=⟨_,rfl⟩
 obtain ⟨p1,p2,p3,p4,p5,hs⟩:=S.sm_tot HV.out.ok (by have:=HL.out;omega)
 rw [←e1] at p1 hs
 rw [←e2] at p2 hs
 rw [←e3] at p3 hs
 rw [←e4] at p4 hs
 rw [←e5] at p5 hs
 have htn:=HT.out.len
 have hin:=HI.out.len
 have hb:=HL.out
 have hT:=Lib.hid (HT.out.held (by omega))
 have hI:=Lib.hid (HI.out.held (by omega))
 have hi6:=Lib.hid (show r.ni≤1000000 by omega)
 have E:=Lib.hid (And.intro e1 (And.intro e2 (And.intro e3 (And.intro e4 e5))))
 have hz:z1+z2+z3+z4+z5=(r.tn:Int):=by omega
 have hr6:r.tn≤65000:=by omega
 have htn:=Lib.hid htn
 clear htt htot e1 e2 e3 e4 e5 hin hb HT HI hs
 refine wp_forget (fun W=>rowOf W w2.heap.size=#[.int .i64 x.ch,.slice x.ra x.rn x.rc,.int .i64 x.iw,.int .u8 x.pp,.int .u8 x.dp,.bool x.jm,.slice x.ia x.ni x.ic]∧rowOf W (w2.heap.size+1)=#[.slice r.ta r.tn r.tc,.slice r.ia r.ni r.ic,.slice r.ea r.en r.ec,.slice r.ua r.un r.uc,.int .i64 r.s.k.c.Ch,.int .u8 r.s.k.c.A,.int .u8 r.s.k.c.B,.int .u8 r.s.k.c.C,.int .u8 r.s.k.c.D,.int .u8 r.s.k.c.E,.int .u8 r.s.k.c.H,.int .u8 r.s.k.c.L,.bool r.s.k.c.fS,.bool r.s.k.c.fZ,.bool r.s.k.c.fK,.bool r.s.k.c.fAC,.bool r.s.k.c.fP,.bool r.s.k.c.fV,.bool r.s.k.c.fCY,.int .u16 r.s.k.c.SP,.int .u16 r.s.k.c.PC,.bool r.s.k.c.IE,.bool r.s.k.c.De,.bool r.s.k.c.Ha,.int .u8 r.s.k.c.Ma,.bool r.s.k.c.Tr,.bool r.s.k.c.R7,.bool r.s.k.c.WT,.bool r.s.k.c.W7,.bool r.s.k.c.Sa,.bool r.s.k.c.SI,.bool r.s.k.c.SO,.int .i64 r.s.k.src,.slice r.s.k.ga r.s.k.gn r.s.k.gc,.int .i64 r.s.k.y.k,.int .u16 r.s.k.y.a,.int .u8 r.s.k.y.d,.int .i64 r.s.k.y.s,.int .i64 r.s.k.nx,.bool r.s.k.ho,.slice r.s.ma r.s.mn r.s.mc,.int .i64 r.s.p.St,.bool r.s.p.Le,.bool r.s.p.Fo,.bool r.s.p.Si,.bool r.s.p.Ft,.int .u8 r.s.p.Lw,.int .u8 r.s.p.Hg,.bool r.s.p.Au,.bool r.s.p.Ro,.bool r.s.p.Sp,.bool r.s.p.RI,.bool r.s.p.Po,.int .u8 r.s.p.Li,.int .u8 r.s.p.Ed,.int .u8 r.s.p.IS,.int .u8 r.s.p.IM,.int .i64 r.s.p.Lo,.int .i64 r.s.p.Sq,.int .i64 r.s.p.Sv,.bool r.s.p.Su,.int .u16 r.s.da,.int .u8 r.s.dv,.int .i64 r.s.dl,.int .i64 r.s.wt,.slice r.s.oa r.s.on r.s.oc]∧Adds w2 W∧w2.heap.size+1 < W.heap.size) ⟨by simp [go_sem],by simp [go_sem],aD,by simp [go_sem]⟩ ?_
 rintro w3 ⟨R3,R4,A3,hlt⟩
 have c0:w3.cell? ⟨w2.heap.size,0,none⟩=some (.int .i64 x.ch):=rowOf_cell R3 rfl
 have d0:w3.cell? ⟨w2.heap.size+1,0,none⟩=some (.slice r.ta r.tn r.tc):=rowOf_cell R4 rfl
 have d1:w3.cell? ⟨w2.heap.size+1,1,none⟩=some (.slice r.ia r.ni r.ic):=rowOf_cell R4 rfl
 have A3:=Lib.hid A3
 have hT:=Lib.hid (hT.out.adds A3.out)
 have hI:=Lib.hid (hI.out.adds A3.out)
 clear R3 R4
 generalize w2.heap.size=bb at hlt c0 d0 d1⊢
 have hk:∀W,Adds w3 W→(W.cell? ⟨bb,0,none⟩=some (.int .i64 x.ch)∧W.cell? ⟨bb+1,0,none⟩=some (.slice r.ta r.tn r.tc)∧W.cell? ⟨bb+1,1,none⟩=some (.slice r.ia r.ni r.ic)):=fun W k=>⟨(k.cell (by omega)).trans c0,(k.cell (by omega)).trans d0,(k.cell (by omega)).trans d1⟩
 have g1:IntKind.i64.wrap (z1+z2)=z1+z2:=IntWalk.i64_in _ (by omega)
 have g2:IntKind.i64.wrap (z1+z2+z3)=z1+z2+z3:=IntWalk.i64_in _ (by omega)
 have g3:IntKind.i64.wrap (z1+z2+z3+z4)=z1+z2+z3+z4:=IntWalk.i64_in _ (by omega)
 have g4:IntKind.i64.wrap (z1+z2+z3+z4+z5)=z1+z2+z3+z4+z5:=IntWalk.i64_in _ (by omega)
 have g5:(z1+z2+z3+z4+z5==(r.tn:Int))=true:=by simp [hz]
 clear hz p1 p2 p3 p4 p5
 go_wp2_with (go_at_call 8;(refine (states_any r.ia r.ni r.ic il _ (hI.out.adds aD)).mono ?_);rw [←E.out.1,←E.out.2.1,←E.out.2.2.1,←E.out.2.2.2.1,←E.out.2.2.2.2];rintro e w4 ⟨rfl,⟨⟨n1,os1⟩,rfl⟩⟩)
 refine wp_region_noPanic ?_
 refine wp_region_held_drew (S:=fun W=>W.cell? ⟨bb,0,none⟩=some (.int .i64 x.ch)∧W.cell? ⟨bb+1,0,none⟩=some (.slice r.ta r.tn r.tc)∧W.cell? ⟨bb+1,1,none⟩=some (.slice r.ia r.ni r.ic)) (by kernel_rfl) (by (try dsimp only);exact hk _ aD) (fun hHeld=> ?_)
 refine tk 0 rfl ?_
 refine tk 1 rfl ?_
 refine tk 2 rfl ?_
 refine tk 3 rfl ?_
 refine tk 5 rfl ?_
 refine tk 6 rfl ?_
 refine wpAnyH_ready (rs:=[4]) (by kernel_rfl) (by simp) ?_
 refine AllReadyH.cons rfl (fun K hK=> ?_) AllReadyH.nil
 go_simp
 (go_at_call 13;refine (expand_any x.ch r.ia r.ni r.ic il hi6.out (hI.out.adds aD)).mono ?_;rintro e w' ⟨v,rfl,hO,⟨⟨n2,os2⟩,rfl⟩⟩;rw [HV.out.ex] at hO;obtain ⟨av,nn,cc,rfl,hn, -, -, -, -⟩:=hO.form2;obtain rfl:nn=r.tn:=hn.out.symm.trans htn.out;have XO:=Lib.hid (hO.held (by have:=htn.out;omega));clear hO hn)
 refine hK.out _ _ (by (try dsimp only);exact hk _ aD) (fun hHeld=> ?_)
 clear hK K
 (try simp only [Act.put,List.setIfInBounds_toArray,List.set_cons_zero,List.set_cons_succ])
 refine wpAnyH_ready (rs:=[7]) (by kernel_rfl) (by simp) ?_
 refine AllReadyH.cons rfl (fun K hK=> ?_) AllReadyH.nil
 go_simp
 (go_at_call 12;refine ad (spins_any av r.ta r.tn cc r.tc tl (XO.out.adds aD) (hT.out.adds aD)) fun n3 os3=> ?_)
 refine hK.out _ _ (by (try dsimp only);exact hk _ aD) (fun hHeld=> ?_)
 clear hK K
 (try simp only [Act.put,List.setIfInBounds_toArray,List.set_cons_zero,List.set_cons_succ])
 refine tk 8 rfl ?_
 refine tk 9 rfl ?_
 refine tk 10 rfl ?_
 refine tk 11 rfl ?_
 refine tk 12 rfl ?_
 refine wpAnyH_ready (rs:=[13]) (by kernel_rfl) (by simp) ?_
 refine AllReadyH.cons rfl (fun K hK=> ?_) AllReadyH.nil
 go_simp
 (go_at_call 10;refine (valid_any x.ch r.ia r.ni r.ic il _ (hI.out.adds aD)).mono ?_;rw [HV.out.vld];rintro e w' ⟨rfl,⟨⟨n4,os4⟩,rfl⟩⟩)
 refine hK.out _ _ (by (try dsimp only);exact hk _ aD) (fun hHeld=> ?_)
 clear hK K
 (try simp only [Act.put,List.setIfInBounds_toArray,List.set_cons_zero,List.set_cons_succ])
 refine tk 14 rfl ?_
 refine tk 15 rfl ?_
 refine tk 16 rfl ?_
 refine tk 17 rfl ?_
 refine tk 18 rfl ?_
 refine tk 19 rfl ?_
 refine tk 20 rfl ?_
 refine tk 21 rfl ?_
 refine tk 22 rfl ?_
 refine tk 23 rfl ?_
 refine tk 24 rfl ?_
 refine tk 25 rfl ?_
 refine tk 26 rfl ?_
 refine tk 27 rfl ?_
 refine tk 28 rfl ?_
 refine tk 29 rfl ?_
 refine tk 30 rfl ?_
 refine wpAnyH_ready (rs:=[31]) (by kernel_rfl) (by simp) ?_
 refine AllReadyH.cons rfl (fun K hK=> ?_) AllReadyH.nil
 go_simp
 (go_at_call 5;refine ad (known26) fun n5 os5=> ?_)
 refine hK.out _ _ (by (try dsimp only);exact hk _ aD) (fun hHeld=> ?_)
 clear hK K
 (try simp only [Act.put,List.setIfInBounds_toArray,List.set_cons_zero,List.set_cons_succ])
 refine tk 32 rfl ?_
 refine tk 33 rfl ?_
 refine wpAnyH_done (by kernel_rfl) ?_ _
 refine NoPanic.normal ?_
 clear hHeld
 go_wp2_with fail
 go_ret
 exact ⟨rfl,(HA.out.trans (A3.out.trans aD)).below⟩
theorem lifted (os:Os) (started:os.Started) (H:Type) (enc:TypeId×Value→H):
 ReturnsInHanded {} Tryz.checked os 4 .any (Rows.grammarTracesSpec.pre6 enc Tryz.prog Tryz.f4 Rows.grammarTracesRow.domain false) (Rows.grammarTracesSpec.post enc Tryz.prog Tryz.f4 false true false false):=by
 refine returnsInHanded_of_change (C:=Tryz.checked) own started (by kernel_rfl) Tryz.func4
  (ChangeSpec.witness6 (enc:=enc) (C:=Tryz.checked) false ⟨#[],#[.slice none 0 0],[]⟩ 8 (by kernel_rfl) (by kernel_rfl) (by kernel_rfl) (by kernel_rfl)) ?_
 intro W base args ds gs before hval0 hW hcnd _
 have hval:∀(j:Nat) t v,Tryz.f4.params[j]? =some t→args[j]? =some v→Value.okWide Tryz.prog W .any base t v:=hval0
 have hW':=hW
 obtain ⟨p,q,hA0,hV,rfl,hfz,hnd⟩:=hW
 have hA:DataW.TrodAll enc Tryz.prog W 0 (fun _=>true) true Tryz.f4.params.toList args.toList ds p:=hA0
 rw [Tryz.params4] at hA hval
 obtain ⟨v0,vs0,d0,ds0,p0,q0,hargs,rfl,rfl,h0,r0⟩:=trodAll_cons hA
 obtain ⟨rfl,rfl,rfl⟩:=trodAll_nil r0
 obtain rfl:args=#[v0]:=by cases args;simp_all
 obtain ⟨rfl,rfl⟩:=trodVars_none hV
 have k0:=h0
 have lt0:∀x∈p0,x.block < W.heap.size:=by obtain ⟨m,hm⟩:=k0;exact DataW.trod_lt m _ _ _ hm
 obtain ⟨a0,len0,cap0,rfl⟩:=okWide_slice Tryz.underlying23 (hval 0 23 v0 rfl rfl)
 obtain ⟨z0,w0⟩:∃zs,IsRow .i64 W a0 len0 cap0 zs:=by
  obtain ⟨fuel,hf⟩:=h0
  rcases open_ints Tryz.underlying23 Tryz.underlying3 (by kernel_rfl) hf with ⟨hcs,_⟩|⟨x,l,c,zs,hcs,_,hl,hm,hz,_,hcell,hwz⟩
  ·simp [Value.cells] at hcs
   obtain ⟨rfl,rfl,rfl⟩:=hcs
   exact ⟨[],.inl ⟨rfl,rfl,rfl,rfl⟩⟩
  ·simp [Value.cells] at hcs
   obtain ⟨rfl,rfl,rfl⟩:=hcs
   exact ⟨zs,.inr ⟨_,rfl,hl,hm,by simpa using hz,hcell,hwz⟩⟩
 clear hA0 hval0
 refine (walk a0 len0 cap0 z0 W w0).mono fun e W' ⟨he,bel⟩=> ?_
 subst he
 exact ⟨_,rfl,_,_,_,[],_,[],hW',trodAll_mk1 (shut_bool Tryz.underlying4 _),(trodAll_cons_mk (Below.trod laidOut (by kernel_rfl) (of_decide_eq_true (by kernel_rfl)) k0 bel lt0) trodAll_mk0),rfl,bel.frame _,fun h=>by cases h⟩
theorem over:Rows.grammarTracesRow.holds Tryz.pinned (OpenSpec.ofChange Rows.grammarTracesSpec):=
 OpenClaim.holds_of_wide 4 Tryz.f4 rfl rfl rfl rfl rfl rfl rfl ⟨rfl,rfl,rfl,rfl,rfl⟩ rfl rfl rfl rfl rfl (by kernel_rfl) Tryz.func4 (by kernel_rfl)
  (of_decide_eq_true (by kernel_rfl)) (by unfold Func.isWrapper;first|(rw [if_pos (by decide+kernel)];kernel_rfl)|(rw [if_neg (by decide+kernel)];exact ⟨rfl,rfl⟩))
  (fun os started H enc _=>lifted os started H enc)
theorem proved:Rows.GrammarTracesSaid:=over
#print axioms proved
end grammarTraces
end Go.Proofs.YteggjjhjmhccjaaGreat
