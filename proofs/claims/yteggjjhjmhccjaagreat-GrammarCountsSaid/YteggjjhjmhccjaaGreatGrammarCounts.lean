/- The statement GrammarCounts, proved, whatever its arguments are. No condition beyond the statement's own. -/
import Derived.Test.YteggjjhjmhccjaaGreatQ00
import Derived.Test.YteggjjhjmhccjaaGreatRows
import Derived.Test.YteggjjhjmhccjaaGreatQ24
import Derived.Test.YteggjjhjmhccjaaGreatQ14
import Derived.Test.YteggjjhjmhccjaaGreatQ15
import Derived.Test.YteggjjhjmhccjaaGreatQ38
import Derived.Test.YteggjjhjmhccjaaGreatQ36
import Derived.Test.YteggjjhjmhccjaaGreatQ52
import Derived.Test.YteggjjhjmhccjaaGreatQ01
import Derived.Test.YteggjjhjmhccjaaGreatQ03
import Derived.WalkKit
import Derived.ProofKit
import Derived.OpenShut
import Derived.ShutString
import Derived.ChangeOld
import Derived.Below
import Derived.Carry
set_option linter.unusedVariables false
set_option linter.unusedSimpArgs false
set_option maxRecDepth 100000
set_option maxHeartbeats 8000000
namespace Go.Proofs.YteggjjhjmhccjaaGreat
open Go.ChangeShapes Go.WideShapes Go.ChangeAt Go.RowKit
namespace grammarCounts
open Go.ChangeMaps (open_string shut_string)
theorem own:ownKnob Tryz.prog.godebug=none:=by kernel_rfl
theorem laidOut:laidOutB Tryz.prog=true:=by kernel_rfl
@[go_sem] theorem idx3T_0 (a b e:Option Addr) (l c m d n f:Nat) (w:World):(Instr.index 56 (.agg #[.slice a l c,.slice b m d,.slice e n f]) (.int .i64 0)).run Tryz.prog w=.ok (.slice a l c) w:=by kernel_rfl
@[go_sem] theorem idx3T_1 (a b e:Option Addr) (l c m d n f:Nat) (w:World):(Instr.index 56 (.agg #[.slice a l c,.slice b m d,.slice e n f]) (.int .i64 1)).run Tryz.prog w=.ok (.slice b m d) w:=by kernel_rfl
@[go_sem] theorem idx3T_2 (a b e:Option Addr) (l c m d n f:Nat) (w:World):(Instr.index 56 (.agg #[.slice a l c,.slice b m d,.slice e n f]) (.int .i64 2)).run Tryz.prog w=.ok (.slice e n f) w:=by kernel_rfl
theorem walk (a0:Int) (a1:Option Addr) (len1 cap1:Nat) (a2:Option Addr) (len2 cap2:Nat) (z2:List Int) (w:World) (w0:(Lit.int .i64 a0).wf=true) (w1:(len1≤cap1∧cap1≤9223372036854775807)∧∃l,ArgT w a1 len1 l) (w2:IsRow .i64 w a2 len2 cap2 z2):
 Calls Tryz.prog 3 #[.int .i64 a0,.slice a1 len1 cap1,.slice a2 len2 cap2] w fun e w'=>e=.returned (.bool true)∧Below w.heap.size w w':=by
 obtain ⟨hcap,l,hA⟩:=w1
 have W2:=Lib.hid w2
 clear w2
 by_cases h60:60 < len1
 ·go_enter Tryz.func3,Tryz.ntmps3
  go_wp2_with (go_at_call 5;(with_reducible refine (known26).mono ?_);rintro e wC ⟨rfl,AC⟩)
  go_ret
  exact ⟨rfl,AC.below⟩
 by_cases h250:250 < len2
 ·go_enter Tryz.func3,Tryz.ntmps3
  go_wp2_with (go_at_call 5;(with_reducible refine (known26).mono ?_);rintro e wC ⟨rfl,AC⟩)
  go_ret
  exact ⟨rfl,AC.below⟩
 have HN:=Lib.hid (show len2≤1000 by omega)
 have HX:=Lib.hid (hA.held (by omega))
 clear hA
 go_enter Tryz.func3,Tryz.ntmps3
 go_upto_region 4 with (go_at_call 6;(with_reducible refine (runs_any a2 len2 cap2 z2 w W2.out HN.out).mono ?_);rintro e w2 ⟨x,r,tl,il,q,rfl,hT,hI,hV,hn,hA⟩;have HI:=Lib.hid hI;have HV:=Lib.hid hV;have HL:=Lib.hid hn;have HA:=Lib.hid hA;clear hT hI hV hn hA)
 have htt:=S.len_tot il HV.out.ok
 have htot:=HV.out.tot
 have hb:=HL.out
 have hI:=Lib.hid (HI.out.held (by omega))
 clear htt htot hb HI HV HL
 refine wp_forget (fun W=>rowOf W (w2.heap.size+1)=#[.slice r.ta r.tn r.tc,.slice r.ia r.ni r.ic,.slice r.ea r.en r.ec,.slice r.ua r.un r.uc,.int .i64 r.s.k.c.Ch,.int .u8 r.s.k.c.A,.int .u8 r.s.k.c.B,.int .u8 r.s.k.c.C,.int .u8 r.s.k.c.D,.int .u8 r.s.k.c.E,.int .u8 r.s.k.c.H,.int .u8 r.s.k.c.L,.bool r.s.k.c.fS,.bool r.s.k.c.fZ,.bool r.s.k.c.fK,.bool r.s.k.c.fAC,.bool r.s.k.c.fP,.bool r.s.k.c.fV,.bool r.s.k.c.fCY,.int .u16 r.s.k.c.SP,.int .u16 r.s.k.c.PC,.bool r.s.k.c.IE,.bool r.s.k.c.De,.bool r.s.k.c.Ha,.int .u8 r.s.k.c.Ma,.bool r.s.k.c.Tr,.bool r.s.k.c.R7,.bool r.s.k.c.WT,.bool r.s.k.c.W7,.bool r.s.k.c.Sa,.bool r.s.k.c.SI,.bool r.s.k.c.SO,.int .i64 r.s.k.src,.slice r.s.k.ga r.s.k.gn r.s.k.gc,.int .i64 r.s.k.y.k,.int .u16 r.s.k.y.a,.int .u8 r.s.k.y.d,.int .i64 r.s.k.y.s,.int .i64 r.s.k.nx,.bool r.s.k.ho,.slice r.s.ma r.s.mn r.s.mc,.int .i64 r.s.p.St,.bool r.s.p.Le,.bool r.s.p.Fo,.bool r.s.p.Si,.bool r.s.p.Ft,.int .u8 r.s.p.Lw,.int .u8 r.s.p.Hg,.bool r.s.p.Au,.bool r.s.p.Ro,.bool r.s.p.Sp,.bool r.s.p.RI,.bool r.s.p.Po,.int .u8 r.s.p.Li,.int .u8 r.s.p.Ed,.int .u8 r.s.p.IS,.int .u8 r.s.p.IM,.int .i64 r.s.p.Lo,.int .i64 r.s.p.Sq,.int .i64 r.s.p.Sv,.bool r.s.p.Su,.int .u16 r.s.da,.int .u8 r.s.dv,.int .i64 r.s.dl,.int .i64 r.s.wt,.slice r.s.oa r.s.on r.s.oc]∧Adds w2 W∧w2.heap.size+1 < W.heap.size) ⟨by simp [go_sem],aD,by simp [go_sem]⟩ ?_
 rintro w3 ⟨R4,A3,hlt⟩
 have d1:w3.cell? ⟨w2.heap.size+1,1,none⟩=some (.slice r.ia r.ni r.ic):=rowOf_cell R4 rfl
 have hI:=Lib.hid (hI.out.adds A3)
 have A3:=Lib.hid (HA.out.trans A3)
 have HX:=Lib.hid (HX.out.adds A3.out)
 have W3:=Lib.hid (W2.out.adds A3.out)
 clear R4 HA W2
 generalize w2.heap.size=bb at hlt d1⊢
 have hk:∀W,Adds w3 W→W.cell? ⟨bb+1,1,none⟩=some (.slice r.ia r.ni r.ic):=fun W k=>(k.cell (by omega)).trans d1
 go_wp2_with fail
 refine wp_region_noPanic ?_
 refine wp_region_held_drew (S:=fun W=>W.cell? ⟨bb+1,1,none⟩=some (.slice r.ia r.ni r.ic)) (by kernel_rfl) (by (try dsimp only);exact hk _ aD) (fun hHeld=> ?_)
 refine tk 0 rfl ?_
 refine tk 1 rfl ?_
 refine tk 3 rfl ?_
 refine tk 4 rfl ?_
 refine tk 6 rfl ?_
 refine wpAnyH_ready (rs:=[2]) (by kernel_rfl) (by simp) ?_
 refine AllReadyH.cons rfl (fun K hK=> ?_) AllReadyH.nil
 go_simp
 (go_at_call 7;refine (made_any a2 len2 cap2 z2 (W3.out.adds aD) HN.out).mono ?_;rintro e wC ⟨vC,dC,rfl,hO,hd,⟨⟨n2,os2⟩,rfl⟩⟩;obtain ⟨adC,nC,cC,rfl, -, -, -, -, -⟩:=hO.form2;have XC:=Lib.hid (hO.held (by omega));clear hO hd)
 refine hK.out _ _ (by (try dsimp only);exact hk _ aD) (fun hHeld=> ?_)
 clear hK K
 (try simp only [Act.put,List.setIfInBounds_toArray,List.set_cons_zero,List.set_cons_succ])
 refine tk 5 rfl ?_
 refine wpAnyH_done (by kernel_rfl) ?_ _
 refine NoPanic.normal ?_
 clear hHeld
 refine exit_forget (fun W=>HeldT W adC nC dC∧Adds w3 W) ⟨XC.out.adds (Adds.refl _),aD⟩ ?_
 rintro w4 ⟨hC,A4⟩
 have XC:=Lib.hid hC
 have HX:=Lib.hid (HX.out.adds A4)
 have hI:=Lib.hid (hI.out.adds A4)
 have HA:=Lib.hid (A3.out.trans A4)
 clear hC A4 A3 d1 hk W3
 go_wp2_with fail
 go_loopw [41] (fun i wr=>∃k:Int,0≤k∧k≤3∧i=.int .i64 k∧Hid (Adds w4 wr)) (fun i _=>(3 - intOf i).toNat)
 case atStart=>exact ⟨0,by omega,by omega,rfl,Adds.refl _⟩
 case round=>
  obtain ⟨k,hk0,hk3,rfl,HR⟩:=hrel
  rename World=>wR
  rcases (by omega:k=3∨k=0∨k=1∨k=2) with rfl|rfl|rfl|rfl
  ·go_wp2_with (go_at_call 5;(with_reducible refine (known26).mono ?_);rintro e wZ ⟨rfl,AZ⟩)
   go_ret
   exact ⟨rfl,((HA.out.trans HR.out).trans AZ).below⟩
  ·go_wp2_with (first
    |(go_at_call 8;(with_reducible refine (states_any a1 len1 cap1 l wR (HX.out.adds HR.out)).mono ?_);rintro e wD ⟨rfl,AD⟩;have AD:=Lib.hid (HR.out.trans AD))
    |(go_at_call 9;(with_reducible refine (rstats_any a1 len1 cap1 l wD (HX.out.adds AD.out)).mono ?_);rintro e wE ⟨rfl,AE⟩;have AE:=Lib.hid (AD.out.trans AE))
    |(go_at_call 10;(with_reducible refine (valid_any a0 a1 len1 cap1 l wE (HX.out.adds AE.out)).mono ?_);rintro e wF ⟨rfl,AF⟩;have AF:=Lib.hid (AE.out.trans AF))
    |(go_at_call 11;(with_reducible refine (rvalid_any a0 a1 len1 cap1 l wF (HX.out.adds AF.out)).mono ?_);rintro e wG ⟨rfl,AG⟩;have AG:=Lib.hid (AF.out.trans AG)))
   go_roundw
   case rel=>exact ⟨_,by omega,by omega,rfl,AG.out⟩
   case measure=>simp [intOf]
  ·go_wp2_with (first
    |(go_at_call 8;(with_reducible refine (states_any adC nC cC dC wR (XC.out.adds HR.out)).mono ?_);rintro e wD ⟨rfl,AD⟩;have AD:=Lib.hid (HR.out.trans AD))
    |(go_at_call 9;(with_reducible refine (rstats_any adC nC cC dC wD (XC.out.adds AD.out)).mono ?_);rintro e wE ⟨rfl,AE⟩;have AE:=Lib.hid (AD.out.trans AE))
    |(go_at_call 10;(with_reducible refine (valid_any a0 adC nC cC dC wE (XC.out.adds AE.out)).mono ?_);rintro e wF ⟨rfl,AF⟩;have AF:=Lib.hid (AE.out.trans AF))
    |(go_at_call 11;(with_reducible refine (rvalid_any a0 adC nC cC dC wF (XC.out.adds AF.out)).mono ?_);rintro e wG ⟨rfl,AG⟩;have AG:=Lib.hid (AF.out.trans AG)))
   go_roundw
   case rel=>exact ⟨_,by omega,by omega,rfl,AG.out⟩
   case measure=>simp [intOf]
  ·go_wp2_with (first
    |(go_at_call 8;(with_reducible refine (states_any r.ia r.ni r.ic il wR (hI.out.adds HR.out)).mono ?_);rintro e wD ⟨rfl,AD⟩;have AD:=Lib.hid (HR.out.trans AD))
    |(go_at_call 9;(with_reducible refine (rstats_any r.ia r.ni r.ic il wD (hI.out.adds AD.out)).mono ?_);rintro e wE ⟨rfl,AE⟩;have AE:=Lib.hid (AD.out.trans AE))
    |(go_at_call 10;(with_reducible refine (valid_any a0 r.ia r.ni r.ic il wE (hI.out.adds AE.out)).mono ?_);rintro e wF ⟨rfl,AF⟩;have AF:=Lib.hid (AE.out.trans AF))
    |(go_at_call 11;(with_reducible refine (rvalid_any a0 r.ia r.ni r.ic il wF (hI.out.adds AF.out)).mono ?_);rintro e wG ⟨rfl,AG⟩;have AG:=Lib.hid (AF.out.trans AG)))
   go_roundw
   case rel=>exact ⟨_,by omega,by omega,rfl,AG.out⟩
   case measure=>simp [intOf]
theorem lifted (os:Os) (started:os.Started) (H:Type) (enc:TypeId×Value→H):
 ReturnsInHanded {} Tryz.checked os 3 .any (Rows.grammarCountsSpec.pre6 enc Tryz.prog Tryz.f3 Rows.grammarCountsRow.domain false) (Rows.grammarCountsSpec.post enc Tryz.prog Tryz.f3 false true false false):=by
 refine returnsInHanded_of_change (C:=Tryz.checked) own started (by kernel_rfl) Tryz.func3
  (ChangeSpec.witness6 (enc:=enc) (C:=Tryz.checked) false ⟨#[],#[.int .i64 0,.slice none 0 0,.slice none 0 0],[]⟩ 8 (by kernel_rfl) (by kernel_rfl) (by kernel_rfl) (by kernel_rfl)) ?_
 intro W base args ds gs before hval0 hW hcnd _
 have hval:∀(j:Nat) t v,Tryz.f3.params[j]? =some t→args[j]? =some v→Value.okWide Tryz.prog W .any base t v:=hval0
 have hW':=hW
 obtain ⟨p,q,hA0,hV,rfl,hfz,hnd⟩:=hW
 have hA:DataW.TrodAll enc Tryz.prog W 0 (fun _=>true) true Tryz.f3.params.toList args.toList ds p:=hA0
 rw [Tryz.params3] at hA hval
 obtain ⟨v0,vs0,d0,ds0,p0,q0,hargs,rfl,rfl,h0,r0⟩:=trodAll_cons hA
 obtain ⟨v1,vs1,d1,ds1,p1,q1,rfl,rfl,rfl,h1,r1⟩:=trodAll_cons r0
 obtain ⟨v2,vs2,d2,ds2,p2,q2,rfl,rfl,rfl,h2,r2⟩:=trodAll_cons r1
 obtain ⟨rfl,rfl,rfl⟩:=trodAll_nil r2
 obtain rfl:args=#[v0,v1,v2]:=by cases args;simp_all
 obtain ⟨rfl,rfl⟩:=trodVars_none hV
 have k0:=h0
 have lt0:∀x∈p0,x.block < W.heap.size:=by obtain ⟨m,hm⟩:=k0;exact DataW.trod_lt m _ _ _ hm
 obtain ⟨a0,rfl, -, -,w0⟩:=open_int Tryz.underlying3 (hval 0 3 v0 rfl rfl) h0
 have k1:=h1
 have lt1:∀x∈p1,x.block < W.heap.size:=by obtain ⟨m,hm⟩:=k1;exact DataW.trod_lt m _ _ _ hm
 obtain ⟨a1,len1,cap1,rfl⟩:=okWide_slice Tryz.underlying22 (hval 1 22 v1 rfl rfl)
 have w1:(len1≤cap1∧cap1≤9223372036854775807)∧∃l,ArgT W a1 len1 l:=by
  obtain ⟨fuel,hf⟩:=h1
  obtain ⟨x,l,c,hcs,hcap,hh⟩:=open_items hf
  simp [Value.cells] at hcs
  obtain ⟨rfl,rfl,rfl⟩:=hcs
  exact ⟨hcap,hh⟩
 have k2:=h2
 have lt2:∀x∈p2,x.block < W.heap.size:=by obtain ⟨m,hm⟩:=k2;exact DataW.trod_lt m _ _ _ hm
 obtain ⟨a2,len2,cap2,rfl⟩:=okWide_slice Tryz.underlying23 (hval 2 23 v2 rfl rfl)
 obtain ⟨z2,w2⟩:∃zs,IsRow .i64 W a2 len2 cap2 zs:=by
  obtain ⟨fuel,hf⟩:=h2
  rcases open_ints Tryz.underlying23 Tryz.underlying3 (by kernel_rfl) hf with ⟨hcs,_⟩|⟨x,l,c,zs,hcs,_,hl,hm,hz,_,hcell,hwz⟩
  ·simp [Value.cells] at hcs
   obtain ⟨rfl,rfl,rfl⟩:=hcs
   exact ⟨[],.inl ⟨rfl,rfl,rfl,rfl⟩⟩
  ·simp [Value.cells] at hcs
   obtain ⟨rfl,rfl,rfl⟩:=hcs
   exact ⟨zs,.inr ⟨_,rfl,hl,hm,by simpa using hz,hcell,hwz⟩⟩
 clear hA0 hval0
 refine (walk a0 a1 len1 cap1 a2 len2 cap2 z2 W w0 w1 w2).mono fun e W' ⟨he,bel⟩=> ?_
 subst he
 exact ⟨_,rfl,_,_,_,[],_,[],hW',trodAll_mk1 (shut_bool Tryz.underlying4 _),(trodAll_cons_mk (Below.trod laidOut (by kernel_rfl) (of_decide_eq_true (by kernel_rfl)) k0 bel lt0) (trodAll_cons_mk (Below.trod laidOut (by kernel_rfl) (of_decide_eq_true (by kernel_rfl)) k1 bel lt1) (trodAll_cons_mk (Below.trod laidOut (by kernel_rfl) (of_decide_eq_true (by kernel_rfl)) k2 bel lt2) trodAll_mk0))),rfl,bel.frame _,fun h=>by cases h⟩
theorem over:Rows.grammarCountsRow.holds Tryz.pinned (OpenSpec.ofChange Rows.grammarCountsSpec):=
 OpenClaim.holds_of_wide 3 Tryz.f3 rfl rfl rfl rfl rfl rfl rfl ⟨rfl,rfl,rfl,rfl,rfl⟩ rfl rfl rfl rfl rfl (by kernel_rfl) Tryz.func3 (by kernel_rfl)
  (of_decide_eq_true (by kernel_rfl)) (by unfold Func.isWrapper;first|(rw [if_pos (by decide+kernel)];kernel_rfl)|(rw [if_neg (by decide+kernel)];exact ⟨rfl,rfl⟩))
  (fun os started H enc _=>lifted os started H enc)
theorem proved:Rows.GrammarCountsSaid:=over
#print axioms proved
end grammarCounts
end Go.Proofs.YteggjjhjmhccjaaGreat
