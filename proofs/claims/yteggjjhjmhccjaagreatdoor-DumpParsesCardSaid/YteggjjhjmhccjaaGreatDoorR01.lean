/- Texts that the proofs of the statements on dumps rest on, joined. Conditions stand in each theorem. -/
import Derived.Test.YteggjjhjmhccjaaGreatDoorR00
import Derived.StillTailTactics
import Derived.Laws.IdiomStrings
import Derived.Laws.BytesArg
import Derived.Test.YteggjjhjmhccjaaGreatDoorQ37
import Derived.Test.YteggjjhjmhccjaaGreatDoorQ45
import Derived.Deep.RegionWith
set_option linter.unusedVariables false
set_option linter.unusedSimpArgs false
set_option maxRecDepth 100000
set_option maxHeartbeats 8000000
namespace Go.Proofs.YteggjjhjmhccjaaGreatDoor
open Go.ChangeShapes Go.WideShapes Go.ChangeAt Go.RowKit
section
variable {T b i:Nat} {cs:Array Value} {w:World}
theorem ret3_Pins {fn:Func} {p0 p:Tmp} (hf:fn.results=#[.cell p 34,.tmp p0]) {tmps:Array Value} {v0:Value} (h0:tmps.getD p0 undef=v0) (hp:tmps.getD p undef=.pointer (some ⟨b,0,none⟩)) (hr:rowOf w b=cs) (hs:cs.size=17):(results fn tmps).run Tryz.prog w=.ok (.tuple #[.agg cs,v0]) w:=
 ret3_all hf Tryz.underlying34 (by kernel_rfl) (by decide) tmps w b cs v0 h0 hp hr hs
theorem Adds.setRow28 {w':World} (h:Adds w w') (hb:w.heap.size≤b) (cs:Array Value):Adds w (w'.setRow b cs):=by
 obtain ⟨⟨n,os⟩,rfl⟩:=h
 have e:(More w n os).setRow b cs=(More w n os).setRow b cs:=rfl
 conv at e=>rhs;simp only [World.setRow,More];rw [modify_right _ _ _ _ hb]
 exact ⟨⟨n,_⟩,e⟩
theorem Bx28.set (h:Bx28 w b T cs) (v:Value):Bx28 (w.setCell ⟨b,i,none⟩ v) b T (cs.setIfInBounds i v):=by
 have hb:=h.lt
 have h':w.heap[b]? =some (.cells cs T (0,0)):=h
 show (w.setCell ⟨b,i,none⟩ v).heap[b]? =_
 simp only [World.setCell,Array.getElem?_modify,if_true,h',Option.map_some]
 rfl
theorem Bx28.other {a:Addr} (h:Bx28 w b T cs) (v:Value) (hb:a.block≠b):Bx28 (w.setCell a v) b T cs:=by
 have h':w.heap[b]? =some (.cells cs T (0,0)):=h
 show (w.setCell a v).heap[b]? =_
 simp only [World.setCell,Array.getElem?_modify,if_neg hb,h']
theorem Bx28.frozen (h:Bx28 w b T cs):w.frozen? ⟨b,i,none⟩=false:=by
 have h':w.heap[b]? =some (.cells cs T (0,0)):=h
 simp [World.frozen?,h']
theorem parseRec28 (l:List UInt8) (hl:l.length≤1000000000) (w:World) (hT:Tab28 w):Calls Tryz.prog 23 #[.string ⟨l.toArray⟩] w fun e w'=>e=.returned (.tuple #[.agg #[.int .i64 (S.pr28 l).1.st,.int .u16 (S.pr28 l).1.ad,.int .u8 (S.pr28 l).1.da,.bool (S.pr28 l).1.sy,.bool (S.pr28 l).1.db,.bool (S.pr28 l).1.wa,.bool (S.pr28 l).1.it,.bool (S.pr28 l).1.al,.bool (S.pr28 l).1.im,.bool (S.pr28 l).1.s1,.bool (S.pr28 l).1.s0,.bool (S.pr28 l).1.rd,.bool (S.pr28 l).1.ia,.bool (S.pr28 l).1.so,.bool (S.pr28 l).1.wr,.bool (S.pr28 l).1.hl,.bool (S.pr28 l).1.fl],.bool (S.pr28 l).2])∧Adds w w':=by
 have hR:∃R,R=S.pr28 l:=⟨_,rfl⟩
 obtain ⟨R,hR⟩:=hR
 rw [←hR]
 unfold S.pr28 at hR
 simp only [] at hR
 have HT:=Lib.hid hT
 have hCut:=fun w=>cut28 l 32 hl w
 have hSt:=fun w h=>stateOf28 (S.upt28 32 l) w h
 have hul:(S.upt28 32 l).length≤l.length:=by
  have:=congrArg List.length (S.upt28_pre 32 l)
  rw [List.length_append] at this
  omega
 have hSl:=fun w=>sl_from l (S.upt28 32 l).length ((S.upt28 32 l).length:Int) rfl hul w
 have h4:∀w,Calls Tryz.prog 52 #[.string ⟨(l.drop (S.upt28 32 l).length).toArray⟩,.int .i64 4] w fun e w'=>e=.returned (.tuple #[.int .i64 (S.cnR 4 (l.drop (S.upt28 32 l).length)).1,.string ⟨(S.cnR 4 (l.drop (S.upt28 32 l).length)).2.1.toArray⟩,.bool (S.cnR 4 (l.drop (S.upt28 32 l).length)).2.2])∧Adds w w':=fun w=>cutNum28 4 (.inr rfl) _ (by rw [List.length_drop];omega) w
 have b4:=S.cnR_bd4 (l.drop (S.upt28 32 l).length)
 have s4:=S.cnR_short 4 (l.drop (S.upt28 32 l).length)
 rw [List.length_drop] at s4
 generalize S.cnR 4 (l.drop (S.upt28 32 l).length)=A4 at *
 generalize l.drop (S.upt28 32 l).length=dr at *
 generalize S.stR28 (S.upt28 32 l)=st at *
 generalize S.upt28 32 l=u at *
 generalize S.cutR 32 l=uR at *
 generalize decide ((32:UInt8)∈l)=ub at *
 obtain ⟨a4,r4,o4⟩:=A4
 simp only [] at b4 s4 h4 hR
 obtain ⟨na,rfl⟩:∃n:Nat,a4=n:=⟨a4.toNat,by omega⟩
 have h2:∀w,Calls Tryz.prog 52 #[.string ⟨r4.toArray⟩,.int .i64 2] w fun e w'=>e=.returned (.tuple #[.int .i64 (S.cnR 2 r4).1,.string ⟨(S.cnR 2 r4).2.1.toArray⟩,.bool (S.cnR 2 r4).2.2])∧Adds w w':=fun w=>cutNum28 2 (.inl rfl) _ (by omega) w
 have b2:=S.cnR_bd2 r4
 have s2:=S.cnR_short 2 r4
 generalize S.cnR 2 r4=A2 at *
 obtain ⟨a2,r2,o2⟩:=A2
 simp only [] at b2 s2 h2 hR
 obtain ⟨nd,rfl⟩:∃n:Nat,a2=n:=⟨a2.toNat,by omega⟩
 have HL2:=Lib.hid (show r2.length≤1000000000 by omega)
 have HCut:=Lib.hid hCut
 have HSt:=Lib.hid hSt
 have H4:=Lib.hid h4
 have H2:=Lib.hid h2
 have HR:=Lib.hid hR
 have HZ:=Lib.hid hl
 clear hCut hSt h4 h2 hR hul s4 s2 hl hT
 have q1:(na:Int) < 65536:=by omega
 have q2:(nd:Int) < 256:=by omega
 clear b4 b2
 go_enter Tryz.func23,Tryz.ntmps23
 go_wp2_with (first
  |(go_at_call 22;refine (HCut.out _).mono ?_;rintro e w1 ⟨rfl,hA1⟩;have B1:=Lib.hid ((Bx28.new w 34 #[.int .i64 0,.int .u16 0,.int .u8 0,.bool false,.bool false,.bool false,.bool false,.bool false,.bool false,.bool false,.bool false,.bool false,.bool false,.bool false,.bool false,.bool false,.bool false]).adds hA1);have A1:=Lib.hid ((show Adds w _ from aD).trans hA1);clear hA1)
  |(go_at_call 51;refine (HSt.out _ (HT.out.adds A1.out)).mono ?_;rintro e w2 ⟨rfl,hA2⟩;have B2:=Lib.hid (B1.out.adds hA2);have A2:=Lib.hid (A1.out.trans hA2);clear hA2)
  |(go_at_call 52;first
     |(with_reducible refine (H4.out _).mono ?_;rintro e w3 ⟨rfl,hA3⟩;have B3:=Lib.hid (B2.out.adds hA3);have A3:=Lib.hid (A2.out.trans hA3);clear hA3)
     |(with_reducible refine (H2.out _).mono ?_;rintro e w4 ⟨rfl,hA4⟩;have B4:=Lib.hid (B3.out.adds hA4);have A4:=Lib.hid (A3.out.trans hA4);clear hA4))
  |(go_at_call 44;refine (pins28 _ _).mono ?_;rintro e w5 ⟨rfl,hA5⟩;have P5:=Lib.hid ((Bx28.new w4 34 #[.int .i64 st,.int .u16 na,.int .u8 nd,.bool false,.bool false,.bool false,.bool false,.bool false,.bool false,.bool false,.bool false,.bool false,.bool false,.bool false,.bool false,.bool false,.bool false]).adds hA5);have hA6:=(show Adds w4 _ from aD).trans hA5;have B5:=Lib.hid (B4.out.adds hA6);have A5:=Lib.hid (A4.out.trans hA6);clear hA5 hA6)
  |fail)
 have Z4:=Lib.hid (B4.out.lt)
 clear B1 B2 B3 B4 A1 A2 A3 A4 HCut HSt H4 H2
 go_loopw [10,50] (fun t i wr=>∃(k:Nat) (r:List UInt8) (p:S.Pn),k≤14∧t=.string ⟨r.toArray⟩∧i=.int .i64 (k:Int)∧Hid (r=(S.cuts (S.pnn.take k) r2).2)∧Hid (S.pvl p=(S.cuts (S.pnn.take k) r2).1++List.replicate (14 - k) false)∧Hid (p.st=st∧p.ad=na∧p.da=nd)∧Hid (Bx28 wr w4.heap.size 34 #[.int .i64 p.st,.int .u16 p.ad,.int .u8 p.da,.bool p.sy,.bool p.db,.bool p.wa,.bool p.it,.bool p.al,.bool p.im,.bool p.s1,.bool p.s0,.bool p.rd,.bool p.ia,.bool p.so,.bool p.wr,.bool p.hl,.bool p.fl])∧Hid (Bx28 wr w.heap.size 34 #[.int .i64 0,.int .u16 0,.int .u8 0,.bool false,.bool false,.bool false,.bool false,.bool false,.bool false,.bool false,.bool false,.bool false,.bool false,.bool false,.bool false,.bool false,.bool false])∧Hid (Adds w wr)) (fun _ i _=>14 - (intOf i).toNat)
 case atStart=>exact ⟨0,r2,⟨st,na,nd,false,false,false,false,false,false,false,false,false,false,false,false,false,false⟩,by omega,rfl,rfl,rfl,rfl,⟨rfl,rfl,rfl⟩,P5.out.adds aD,B5.out.adds aD,A5.out.trans aD⟩
 case round=>
  obtain ⟨k,r,p,hk,rfl,rfl,HE,HV,HP,HB,HB0,HA⟩:=hrel
  by_cases h14:k < 14
  ·have q3:(k:Int) < 14:=by omega
   obtain ⟨n,hn⟩:∃n,S.pnn[k]? =some n:=⟨S.pnn[k]'h14,List.getElem?_eq_getElem _⟩
   have hi:=fun w=>S.pca_at w4.heap.size k n hn w
   have hlk:(S.cuts (S.pnn.take k) r2).1.length=k:=by
    rw [S.cuts_len,List.length_take,show S.pnn.length=14 from rfl]
    omega
   have hf:(S.pvl p)[k]? =some false:=by
    rw [HV.out,List.getElem?_append_right (by omega),hlk,Nat.sub_self,List.getElem?_replicate,if_pos (by omega)]
   have HC:=Lib.hid (S.pvl_row p k false hf)
   have hadd:=fun w=>add28 [32] n w (by have:=S.pnn_len k n hn;simp;omega)
   have hcp:∀w,Calls Tryz.prog 53 #[.string ⟨r.toArray⟩,.string ⟨(32::n).toArray⟩] w fun e w'=>e=.returned (.tuple #[.string ⟨(Lib.trimPrefix r (32::n)).toArray⟩,.bool (Lib.hasPrefix r (32::n))])∧w'=w:=fun w=>Tryz.strings_CutPrefix ⟨r.toArray⟩ ⟨(32::n).toArray⟩ w
   have ct:=S.cuts_take k n r2 hn
   have HE':=Lib.hid (show Lib.trimPrefix r (32::n)=(S.cuts (S.pnn.take (k+1)) r2).2 by rw [ct,HE.out])
   have HV':=Lib.hid (show S.pvl (p.st28 k (Lib.hasPrefix r (32::n)))=(S.cuts (S.pnn.take (k+1)) r2).1++List.replicate (14 - (k+1)) false by
    rw [S.Pn.st28_pvl p k _ h14,HV.out,S.set_take _ k _ hlk h14,ct,HE.out]
    rfl)
   generalize Lib.trimPrefix r (32::n)=r' at *
   generalize Lib.hasPrefix r (32::n)=v at *
   have HCP:=Lib.hid hcp
   have zb:=HB.out.lt
   clear hn hlk hf ct hcp
   generalize hj:3+k=j at *
   have HJ:=Lib.hid hj
   clear hj
   go_wp2_with fail
   refine wp_region_still_tail 11 (by kernel_rfl) (by kernel_rfl) ?_
   simp only [List.take_succ_cons,List.take_zero,List.drop_succ_cons,List.drop_zero]
   change wpStill _ _ (World.drew _) (fun a=>wpList _ _ _ _ a (World.drew _)) _ _
   repeat (first|still_step|still_call (HCP.out _))
   try refine wpStill_nil ?_
   have HAW:=Lib.hid (show Adds wr ((wr.alloc (.cells #[.string ⟨n.toArray⟩,.pointer (some ⟨w4.heap.size,j,none⟩)] 116)).drew) from aD)
   generalize (wr.alloc (.cells #[.string ⟨n.toArray⟩,.pointer (some ⟨w4.heap.size,j,none⟩)] 116)).drew=W at *
   have HBW:=Lib.hid (HB.out.adds HAW.out)
   have HB0W:=Lib.hid (HB0.out.adds HAW.out)
   have HAA:=Lib.hid (HA.out.trans HAW.out)
   have zc:=HBW.out.lt
   have hc:W.cell? ⟨w4.heap.size,j,none⟩=some (.bool false):=rowOf_cell HBW.out.row HC.out
   have hz:W.frozen? ⟨w4.heap.size,j,none⟩=false:=HBW.out.frozen
   clear zb hi hadd
   go_wp2_with fail
   go_roundw
   case rel=>exact ⟨k+1,r',p.st28 k v,by omega,rfl,by go_num,HE',HV',HP,(by have hst:=HBW.out.set (i:=j) (.bool v);rw [←HJ.out,S.Pn.st28_row p k v h14,HJ.out] at hst;exact hst:Bx28 (W.setCell ⟨w4.heap.size,j,none⟩ (.bool v)) w4.heap.size _ _).adds aD,(HB0W.out.other (a:=⟨w4.heap.size,j,none⟩) (.bool v) (by have:=Z4.out;show w4.heap.size≠w.heap.size;omega)).adds aD,(HAA.out.setCell (a:=⟨w4.heap.size,j,none⟩) (Nat.le_of_lt Z4.out) (.bool v)).trans aD⟩
   case measure=>simp [intOf];omega
  ·obtain rfl:k=14:=by omega
   have hr:=HE.out
   rw [List.take_of_length_le (show S.pnn.length≤14 by decide)] at hr
   have hv:=HV.out
   rw [List.take_of_length_le (show S.pnn.length≤14 by decide),Nat.sub_self,List.replicate_zero,List.append_nil] at hv
   have HF:=Lib.hid (fun (h:¬(st≠0∧o4=true∧o2=true∧r=[]))=>show R=(S.Pn.zero28,false) by
    rw [HR.out,←hr,if_neg h])
   have HS:=Lib.hid (fun (h:st≠0∧o4=true∧o2=true∧r=[])=>show R=(p,true) by
    rw [HR.out,←hr,if_pos h,←hv]
    obtain ⟨e1,e2,e3⟩:=HP.out
    rw [←e1,←e2,←e3,S.mk_pvl p (by omega) (by omega)])
   have hrow:=HB.out.row
   have hrow0:=HB0.out.row
   have zb:=HB.out.lt
   have zb0:=HB0.out.lt
   clear hr hv
   by_cases c1:st=0
   ·have d1:decide (st=0)=true:=by simp [c1]
    have HR':=Lib.hid (HF.out fun h=>h.1 c1)
    clear c1
    go_wp2_with fail
    exact bodyPost_ret (ret3_Pins Tryz.results23 rfl rfl (rowOf_setRow_same _ _ _ (by rw [hrow0];decide)) rfl) rfl ⟨by rw [HR'.out];rfl,(HA.out.setRow28 (Nat.le_refl _) _).trans aD⟩
   ·have d1:decide (st=0)=false:=by simp [c1]
    cases o4
    ·have HR':=Lib.hid (HF.out fun h=>Bool.noConfusion h.2.1)
     clear c1
     go_wp2_with fail
     exact bodyPost_ret (ret3_Pins Tryz.results23 rfl rfl (rowOf_setRow_same _ _ _ (by rw [hrow0];decide)) rfl) rfl ⟨by rw [HR'.out];rfl,(HA.out.setRow28 (Nat.le_refl _) _).trans aD⟩
    ·cases o2
     ·have HR':=Lib.hid (HF.out fun h=>Bool.noConfusion h.2.2.1)
      clear c1
      go_wp2_with fail
      exact bodyPost_ret (ret3_Pins Tryz.results23 rfl rfl (rowOf_setRow_same _ _ _ (by rw [hrow0];decide)) rfl) rfl ⟨by rw [HR'.out];rfl,(HA.out.setRow28 (Nat.le_refl _) _).trans aD⟩
     ·by_cases c2:r=[]
      ·have HR':=Lib.hid (HS.out ⟨c1,rfl,rfl,c2⟩)
       subst c2
       clear c1
       go_wp2_with fail
       exact bodyPost_ret (ret3_Pins Tryz.results23 rfl rfl (rowOf_setRow_same _ _ _ (by rw [hrow0];decide)) rfl) rfl ⟨by rw [HR'.out];rfl,(HA.out.setRow28 (Nat.le_refl _) _).trans aD⟩
      ·have HR':=Lib.hid (HF.out fun h=>c2 h.2.2.2)
       have d2:(r==[])=false:=by simpa using c2
       clear c1 c2
       go_wp2_with fail
       exact bodyPost_ret (ret3_Pins Tryz.results23 rfl rfl (rowOf_setRow_same _ _ _ (by rw [hrow0];decide)) rfl) rfl ⟨by rw [HR'.out];rfl,(HA.out.setRow28 (Nat.le_refl _) _).trans aD⟩
end
section
namespace S
theorem upt_join (c:UInt8) (l:Bs) (h:c∈l):l=upt28 c l++c::cutR c l:=by
 induction l with
 |nil=>cases h
 |cons x l ih=>
  by_cases e:x=c
  ·subst e
   simp [upt28,cutR]
  ·have hm:c∈l:=by
    rcases List.mem_cons.1 h with q|q
    ·exact absurd q.symm e
    ·exact q
   have h2:upt28 c (x::l)=x::upt28 c l:=by simp [upt28,e]
   have h3:cutR c (x::l)=cutR c l:=by
    unfold cutR
    rw [h2]
    simp
   rw [h2,h3,List.cons_append,←ih hm]
theorem lns_end (n:Nat) (acc:List Pn):lns n acc (spl 10 [])=(acc,0,true):=by simp [spl,lns]
theorem lns_un (n:Nat) (acc:List Pn) (s:Bs) (h:s≠[]) (h2:(10:UInt8)∉s):lns n acc (spl 10 s)=([],n,false):=by
 rw [spl_one 10 s h2]
 simp [lns,h]
theorem lns_in (n:Nat) (acc:List Pn) (s:Bs) (h:(10:UInt8)∈s):lns n acc (spl 10 s)=match prs28 (upt28 10 s) with
 |some p=>lns (n+1) (acc++[p]) (spl 10 (cutR 10 s))
 |none=>([],n,false):=by
 conv=>lhs;rw [upt_join 10 s h]
 rw [spl_app 10 _ _ (upt28_not 10 s)]
 rcases hq:spl 10 (cutR 10 s) with _|⟨y,r⟩
 ·exact absurd hq (spl_ne 10 _)
 ·rfl
theorem cutR_len (s:Bs) (h:(10:UInt8)∈s):(cutR 10 s).length < s.length:=by
 have:=congrArg List.length (upt_join 10 s h)
 simp at this
 omega
end S
theorem Adds.own28 {w w2 w3:World} {v:Value} {d:List S.Pn} (h:Adds w w2) (ho:OwnsQ w2 w.heap.size v d) (hg:w2.grownBy w3 v.ownBlock):Adds w w3:=by
 cases e:v.ownBlock with
 |none=>
  rw [e] at hg
  obtain ⟨h1,h2,h3,h4,h5⟩:=hg
  exact h.trans (Adds.of_below ⟨h1,h2,h3,h4,fun j hj=>h5 j hj (by simp)⟩)
 |some g=>
  rw [e] at hg
  exact Adds.of_grown h hg (OwnsG.lt2 ho e).1
def S.er28 (b:Bool):Int:=if b then 0 else 2
def S.sl28:Value→Nat
 | .string b=>b.size
 |_=>0
theorem S.sl28_is (l:List UInt8):S.sl28 (.string ⟨l.toArray⟩)=l.length:=List.size_toArray
theorem parse28 (s:List UInt8) (hs:s.length≤1000000000) (w:World) (hT:Tab28 w):Calls Tryz.prog 13 #[.string ⟨s.toArray⟩] w fun e w'=>∃v,e=.returned (.tuple #[v,.int .i64 (S.par28 s).2.1,.int .i64 (S.er28 (S.par28 s).2.2)])∧OwnsQ w' w.heap.size v (S.par28 s).1∧Adds w w':=by
 have hR:∃R,R=S.par28 s:=⟨_,rfl⟩
 obtain ⟨R,hR⟩:=hR
 rw [←hR]
 have HR:=Lib.hid (show S.lns 1 [] (S.spl 10 s)=R from hR.symm)
 have HT:=Lib.hid hT
 have HZ:=Lib.hid hs
 clear hR hT hs
 go_enter Tryz.func13,Tryz.ntmps13
 go_wp2_with fail
 go_loopw [0,2,5] (fun x y z wr=>∃(t:List UInt8) (d:List S.Pn) (n:Nat),x=.string ⟨t.toArray⟩∧z=.int .i64 (n:Int)∧Hid (S.lns n d (S.spl 10 t)=R)∧Hid (d.length+t.length≤s.length∧n+t.length≤s.length+1)∧Hid (OwnsQ wr w.heap.size y d)∧Hid (Adds w wr)) (fun x _ _ _=>S.sl28 x)
 case atStart=>exact ⟨s,[],1,rfl,rfl,HR.out,⟨by simp,by omega⟩,OwnsG.nil _ _,Adds.refl _⟩
 case round=>
  obtain ⟨t,d,n,rfl,rfl,HE,HLn,HO,HA⟩:=hrel
  obtain ⟨ad,nn,cc,rfl, -, -, -, -, -⟩:=HO.out.form2
  by_cases ht:t=[]
  ·subst ht
   have HR':=Lib.hid (show R=(d,0,true) by rw [←HE.out,S.lns_end])
   go_wp2_with fail
   exact bodyPost_ret (v:=.tuple #[_,_,_]) (by simp [results,Tryz.results13,go_sem];exact ⟨rfl,rfl,rfl⟩) rfl ⟨_,by rw [HR'.out];rfl,by rw [HR'.out];exact HO.out.adds aD,HA.out.trans aD⟩
  ·have d1:(t==[])=false:=by simpa using ht
   have htl:t.length≤1000000000:=by have:=HLn.out;have:=HZ.out;omega
   have q1:(n:Int)≤1000000001:=by have:=HLn.out;have:=HZ.out;omega
   have HCut:=Lib.hid (fun w=>cut28 t 10 htl w)
   have HPr:=Lib.hid (fun w h=>parseRec28 (S.upt28 10 t) (Nat.le_trans (S.upt_le 10 t) htl) w h)
   have hpr:=S.pr28_is (S.upt28 10 t)
   generalize S.pr28 (S.upt28 10 t)=PR at *
   obtain ⟨p,ok⟩:=PR
   simp only [] at HPr
   have HTL:=Lib.hid htl
   clear htl
   by_cases hm:(10:UInt8)∈t
   ·have hL:=S.lns_in n d t hm
    have hsh:=S.cutR_len t hm
    rw [decide_eq_true hm] at HCut
    generalize S.upt28 10 t=u at *
    generalize S.cutR 10 t=r at *
    cases ok
    ·have HR':=Lib.hid (show R=([],n,false) by
      rw [←HE.out,hL]
      cases hq:S.prs28 u with
      |none=>rfl
      |some q=>rw [hq] at hpr;cases hpr)
     clear hL hsh hm hpr ht
     go_wp2_with (first
      |(go_at_call 22;refine (HCut.out _).mono ?_;rintro e w1 ⟨rfl,hA1⟩;have A1:=Lib.hid (HA.out.trans hA1);clear hA1)
      |(go_at_call 23;refine (HPr.out _ (HT.out.adds A1.out)).mono ?_;rintro e w2 ⟨rfl,hA2⟩;have A2:=Lib.hid (A1.out.trans hA2);clear hA2)
      |fail)
     exact bodyPost_ret (v:=.tuple #[_,_,_]) (by simp [results,Tryz.results13,go_sem];exact ⟨rfl,rfl,rfl⟩) rfl ⟨_,by rw [HR'.out];rfl,by rw [HR'.out];exact OwnsG.nil _ _,A2.out.trans aD⟩
    ·have HE':=Lib.hid (show S.lns (n+1) (d++[p]) (S.spl 10 r)=R by
      rw [←HE.out,hL]
      cases hq:S.prs28 u with
      |none=>rw [hq] at hpr;cases hpr
      |some q=>rw [hq] at hpr;cases hpr;rfl)
     have HLn':=Lib.hid (show (d++[p]).length+r.length≤s.length∧n+1+r.length≤s.length+1 by have:=HLn.out;rw [List.length_append];simp;omega)
     have HSH:=Lib.hid hsh
     clear hL hsh hm hpr ht
     go_wp2_with (first
      |(go_at_call 22;refine (HCut.out _).mono ?_;rintro e w1 ⟨rfl,hA1⟩;have A1:=Lib.hid (HA.out.trans hA1);have O1:=Lib.hid (HO.out.adds hA1);clear hA1)
      |(go_at_call 23;refine (HPr.out _ (HT.out.adds A1.out)).mono ?_;rintro e w2 ⟨rfl,hA2⟩;have A2:=Lib.hid (A1.out.trans hA2);have O2:=Lib.hid (O1.out.adds hA2);have Z2:=Lib.hid A2.out.size;clear hA2)
      |(at_builtin;refine wpList_appQ1 rfl _ _ rfl w.heap.size (.slice ad nn cc) d rfl p _ _ (w2.heap.size+1) rfl rfl (by simp [go_sem]) (O2.out.adds aD) (by have:=HLn.out;have:=HZ.out;omega) (Nat.le_trans Z2.out (Adds.size aD)) ?_;intro v3 w3 hO3 hG3;obtain ⟨a3,n3,c3,rfl, -, -, -, -, -⟩:=hO3.form2;have O3:=Lib.hid hO3;have A3:=Lib.hid (Adds.own28 (A2.out.trans aD) (O2.out.adds aD) hG3);clear hO3 hG3)
      |fail)
     go_roundw
     case rel=>exact ⟨r,d++[p],n+1,rfl,by go_num,HE',HLn',O3.out.adds aD,A3.out.trans aD⟩
     case measure=>rw [S.sl28_is];exact HSH.out
   ·have HR':=Lib.hid (show R=([],n,false) by rw [←HE.out,S.lns_un n d t ht hm])
    have hdm:decide ((10:UInt8)∈t)=false:=decide_eq_false hm
    rw [hdm] at HCut
    generalize S.upt28 10 t=u at *
    generalize S.cutR 10 t=r at *
    clear hm hpr ht hdm
    cases ok
    all_goals
     go_wp2_with (first
      |(go_at_call 22;refine (HCut.out _).mono ?_;rintro e w1 ⟨rfl,hA1⟩;have A1:=Lib.hid (HA.out.trans hA1);clear hA1)
      |(go_at_call 23;refine (HPr.out _ (HT.out.adds A1.out)).mono ?_;rintro e w2 ⟨rfl,hA2⟩;have A2:=Lib.hid (A1.out.trans hA2);clear hA2)
      |fail)
     exact bodyPost_ret (v:=.tuple #[_,_,_]) (by simp [results,Tryz.results13,go_sem];exact ⟨rfl,rfl,rfl⟩) rfl ⟨_,by rw [HR'.out];rfl,by rw [HR'.out];exact OwnsG.nil _ _,A2.out.trans aD⟩
end
section
variable {j n:Nat}
def S.stp28 (n:Nat) (c:UInt8) (j:Nat):Nat:=match S.dgv c with
 |some d=>if d < j then n % 4096 * 16+d else n
 |none=>n
theorem S.stp28_hit {c:UInt8} (h:S.hxd[j]? =some c):S.stp28 n c (j+1)=n % 4096 * 16+j∧S.stp28 n c j=n:=by
 have hj:j < 16:=(List.getElem?_eq_some_iff.1 h).1
 have hd:S.dgv c=some j:=by
  have:∀i,i < 16→S.dgv (S.hxd.getD i 0)=some i:=by decide
  have e:S.hxd.getD j 0=c:=by rw [List.getD_eq_getElem?_getD,h];rfl
  rw [←e]
  exact this j hj
 unfold S.stp28
 rw [hd]
 simp
theorem S.stp28_miss {c x:UInt8} (h:S.hxd[j]? =some x) (hx:x≠c):S.stp28 n c (j+1)=S.stp28 n c j:=by
 unfold S.stp28
 cases hd:S.dgv c with
 |none=>rfl
 |some d=>
  have hne:d≠j:=by
   intro e
   subst e
   have e2:=(S.dgv_inv hd).2
   rw [List.getD_eq_getElem?_getD,h] at e2
   exact hx e2
  by_cases q:d < j
  ·simp only []
   rw [if_pos q,if_pos (by omega)]
  ·simp only []
   rw [if_neg q,if_neg (by omega)]
theorem S.stp28_zero (n:Nat) (c:UInt8):S.stp28 n c 0=n:=by
 unfold S.stp28
 cases S.dgv c<;>simp
theorem S.numR_step (l:S.Bs) (k:Nat) (c:UInt8) (h:l[k]? =some c):S.numR (l.take (k+1))=S.stp28 (S.numR (l.take k)) c 16:=by
 have e:l.take (k+1)=l.take k++[c]:=by rw [List.take_add_one,h];rfl
 rw [e]
 unfold S.numR S.stp28
 rw [List.foldl_append,List.foldl_cons,List.foldl_nil]
 cases hd:S.dgv c with
 |none=>rfl
 |some d=>
  have:=(S.dgv_inv hd).1
  simp only []
  rw [if_pos this]
theorem S.stp28_bd (n j:Nat) (c:UInt8) (h:n < 65536):S.stp28 n c j < 65536:=by
 unfold S.stp28
 cases hd:S.dgv c with
 |none=>exact h
 |some d=>
  have:=(S.dgv_inv hd).1
  simp only []
  split
  ·omega
  ·exact h
theorem and4095 (n:Nat) (h:n < 65536):bits .and .i64 (n:Int) 4095=((n % 4096:Nat):Int):=by
 show IntKind.i64.wrap ((BitVec.ofInt 64 (n:Int) &&& BitVec.ofInt 64 4095).toNat:Nat)=_
 have e1:(BitVec.ofInt 64 (n:Int)).toNat=n:=by rw [BitVec.toNat_ofInt];omega
 have e2:(BitVec.ofInt 64 4095).toNat=2 ^ 12 - 1:=by decide
 rw [BitVec.toNat_and,e1,e2,Nat.and_two_pow_sub_one_eq_mod]
 exact IntWalk.i64_in _ (by omega)
theorem num16_28 (n j:Nat) (h:n < 65536) (hj:j < 16):bits .or .i64 (wrap64 (bits .and .i64 (n:Int) 4095 * 16)) (j:Int)=((n % 4096 * 16+j:Nat):Int):=by
 have e:wrap64 (((n % 4096:Nat):Int) * 16)=((n % 4096:Nat):Int) * 16:=by unfold wrap64;omega
 rw [and4095 n h,e,or16_28 (n % 4096) j (by omega) hj]
theorem number28 (l:List UInt8) (hl:l.length≤1000000000) (w:World):Calls Tryz.prog 82 #[.string ⟨l.toArray⟩] w fun e w'=>e=.returned (.int .i64 (S.numR l))∧Adds w w':=by
 have HZ:=Lib.hid hl
 clear hl
 go_enter Tryz.func82,Tryz.ntmps82
 go_wp2_with fail
 go_loopw [3,4] (fun x i wr=>∃k:Nat,k≤l.length∧i=.int .i64 (k:Int)∧x=.int .i64 (S.numR (l.take k):Nat)∧Hid (Adds w wr)) (fun _ i _=>l.length - (intOf i).toNat)
 case atStart=>exact ⟨0,by omega,rfl,rfl,Adds.refl _⟩
 case round=>
  obtain ⟨k,hk,rfl,rfl,HA⟩:=hrel
  by_cases hlt:k < l.length
  ·have q2:(k:Int) < (l.length:Int):=by omega
   have q3:(k:Int)≤1000000000:=by have:=HZ.out;omega
   obtain ⟨c,hc⟩:∃c,l[k]? =some c:=⟨l[k]'hlt,List.getElem?_eq_getElem _⟩
   have ha:=fun w=>at28 l k c hc w
   have HS:=Lib.hid (S.numR_step l k c hc)
   have hn:=S.numR_bd (l.take k)
   generalize S.numR (l.take k)=n at *
   clear hc
   go_wp2_with fail
   go_loopw [3,5] (fun x i wr2=>∃j:Nat,j≤16∧i=.int .i64 (j:Int)∧x=.int .i64 (S.stp28 n c j:Nat)∧Hid (Adds w wr2)) (fun _ i _=>16 - (intOf i).toNat)
   case atStart=>exact ⟨0,by omega,rfl,by rw [S.stp28_zero],HA.out.trans aD⟩
   case round=>
    obtain ⟨j,hj,rfl,rfl,HA2⟩:=hrel
    by_cases hj16:j < 16
    ·have q4:(j:Int) < 16:=by omega
     obtain ⟨x,hx⟩:∃x,S.hxd[j]? =some x:=⟨S.hxd[j]'hj16,List.getElem?_eq_getElem _⟩
     have hb:∀w,(Instr.index 9 (.string ⟨#[48,49,50,51,52,53,54,55,56,57,97,98,99,100,101,102]⟩) (.int .i64 j)).run Tryz.prog w=.ok (.int .u8 x.toNat) w:=fun w=>at28 S.hxd j x hx w
     by_cases he:x=c
     ·subst he
      have HH:=Lib.hid (S.stp28_hit (n:=n) hx)
      rw [HH.out.2]
      have d1:((x.toNat:Int)==(x.toNat:Int))=true:=by simp
      clear hx
      go_wp2_with fail
      go_region
      all_goals go_wp2_with fail
      all_goals exact ⟨⟨j+1,by omega,by go_num,by rw [num16_28 n j hn hj16,HH.out.1],HA2.out.trans aD⟩,by simp [intOf];omega⟩
     ·have HH:=Lib.hid (S.stp28_miss (n:=n) hx he)
      have d1:((x.toNat:Int)==(c.toNat:Int))=false:=by
       simp only [beq_eq_false_iff_ne,ne_eq,Int.natCast_inj]
       exact fun e=>he (UInt8.toNat_inj.1 e)
      clear hx he
      go_wp2_with fail
      go_region
      all_goals go_wp2_with fail
      all_goals exact ⟨⟨j+1,by omega,by go_num,by rw [HH.out],HA2.out.trans aD⟩,by simp [intOf];omega⟩
    ·obtain rfl:j=16:=by omega
     go_wp2_with fail
     exact ⟨⟨k+1,by omega,by go_num,by rw [HS.out],HA2⟩,by simp [intOf];omega⟩
  ·obtain rfl:k=l.length:=by omega
   go_wp2_with fail
   exact bodyPost_ret (by simp [results,Tryz.results82,go_sem]) rfl ⟨rfl,HA.out.trans aD⟩
end
section
namespace S
def wd28 (s:Bs) (k f:Nat) (ds:List Bs):Prop:=(k≤s.length∧f≤k∧(32:UInt8)∉(s.drop f).take (k - f)∧spl 32 s=ds++spl 32 (s.drop f))∨(k=s.length+1∧ds=spl 32 s)
theorem wd28_zero (s:Bs):wd28 s 0 0 []:=.inl ⟨Nat.zero_le _,Nat.le_refl _,by simp,rfl⟩
theorem wd28_from {s:Bs} {k f:Nat} {ds:List Bs} (h:wd28 s k f ds) (hk:k≤s.length):f≤k:=by
 rcases h with h|h
 ·exact h.2.1
 ·omega
theorem wd28_skip {s:Bs} {k f:Nat} {ds:List Bs} (h:wd28 s k f ds) {c:UInt8} (hc:s[k]? =some c) (hne:c≠32):wd28 s (k+1) f ds:=by
 have hk:=(List.getElem?_eq_some_iff.1 hc).1
 rcases h with ⟨h1,h2,h3,h4⟩|h
 ·refine .inl ⟨hk,by omega,?_,h4⟩
  rw [show k+1 - f=(k - f)+1 by omega,List.take_add_one,List.getElem?_drop,show f+(k - f)=k by omega,hc]
  simp only [Option.toList_some,List.mem_append,List.mem_singleton,not_or]
  exact ⟨h3,fun e=>hne e.symm⟩
 ·omega
theorem wd28_blank {s:Bs} {k f:Nat} {ds:List Bs} (h:wd28 s k f ds) (hc:s[k]? =some 32):wd28 s (k+1) (k+1) (ds++[(s.drop f).take (k - f)]):=by
 have hk:=(List.getElem?_eq_some_iff.1 hc).1
 rcases h with ⟨h1,h2,h3,h4⟩|h
 ·refine .inl ⟨hk,Nat.le_refl _,by simp,?_⟩
  have e:s.drop f=(s.drop f).take (k - f)++32::s.drop (k+1):=by
   conv=>lhs;rw [←List.take_append_drop (k - f) (s.drop f)]
   rw [List.drop_drop,show f+(k - f)=k by omega,List.drop_eq_getElem_cons hk]
   rw [List.getElem?_eq_getElem hk] at hc
   rw [Option.some.inj hc]
  rw [h4,List.append_assoc]
  congr 1
  conv=>lhs;rw [e]
  rw [spl_app 32 _ _ h3]
  rfl
 ·omega
theorem wd28_last {s:Bs} {f:Nat} {ds:List Bs} (h:wd28 s s.length f ds):wd28 s (s.length+1) (s.length+1) (ds++[(s.drop f).take (s.length - f)]):=by
 rcases h with ⟨h1,h2,h3,h4⟩|h
 ·refine .inr ⟨rfl,?_⟩
  have e:(s.drop f).take (s.length - f)=s.drop f:=List.take_of_length_le (by rw [List.length_drop];exact Nat.le_refl _)
  rw [e] at h3⊢
  rw [h4,spl_one 32 _ h3]
 ·omega
theorem wd28_end {s:Bs} {f:Nat} {ds:List Bs} (h:wd28 s (s.length+1) f ds):ds=spl 32 s:=by
 rcases h with h|h
 ·omega
 ·exact h.2
theorem spl_len (c:UInt8):∀s:Bs,(spl c s).length≤s.length+1
 |[]=>by simp [spl]
 |x::l=>by
  have ih:=spl_len c l
  unfold spl
  split
  ·simp;omega
  ·split<;>rename_i h<;>rw [h] at ih<;>simp at ih⊢<;>omega
theorem spl_short (c:UInt8):∀s:Bs,∀x∈spl c s,x.length≤s.length
 |[],x,h=>by simp [spl] at h;simp [h]
 |y::l,x,h=>by
  have ih:=spl_short c l
  unfold spl at h
  split at h
  ·rcases List.mem_cons.1 h with rfl|h
   ·simp
   ·have:=ih x h;simp;omega
  ·split at h
   ·rename_i w ws e
    rw [e] at ih
    rcases List.mem_cons.1 h with rfl|h
    ·have:=ih w List.mem_cons_self;simp;omega
    ·have:=ih x (List.mem_cons_of_mem _ h);simp;omega
   ·simp at h;simp [h]
end S
theorem sl_both (l:List UInt8) (f k:Nat) (hf:f≤k) (hk:k≤l.length) (w:World):(Instr.slice 9 (.string ⟨l.toArray⟩) (some (.int .i64 f)) (some (.int .i64 k)) none).run Tryz.prog w=.ok (.string ⟨((l.drop f).take (k - f)).toArray⟩) w:=by
 rw [run_slice_string (P:=Tryz.prog) w 9 ⟨l.toArray⟩ .i64 .i64 f k Tryz.underlying9 (by omega) (by omega) (by show (k:Int)≤(l.toArray.size:Nat);rw [List.size_toArray];omega)]
 congr 2
 rw [Int.toNat_natCast,Int.toNat_natCast,ByteArray.extract_mk]
 try simp
def csS (x:S.Bs):List Value:=[.string ⟨x.toArray⟩]
theorem csS_len:∀x,(csS x).length=1:=fun _=>rfl
theorem csS_one:∀x,∀u∈csS x,u.oneCell'=true:=by
 intro x u hu
 simp only [csS,List.mem_cons,List.not_mem_nil,or_false] at hu
 subst hu;rfl
theorem infoS:(Tryz.prog.info? 9).map (fun i=>(i.zero,i.size,i.bytes))=some (some (.string ⟨#[]⟩),1,16):=by kernel_rfl
abbrev HeldS:=HeldG csS
abbrev OwnsS:=OwnsG csS 1 9
theorem AtS.el {w:World} {b o:Nat} {d:List S.Bs} (h:AtG csS w b o d) {j:Nat} {z:S.Bs} (hj:d[j]? =some z):w.cell? ⟨b,o+j,none⟩=some (.string ⟨z.toArray⟩):=by
 have:=h.el csS_len hj (k:=0) (u:=.string ⟨z.toArray⟩) rfl
 rwa [Nat.mul_one,Nat.add_zero] at this
theorem HeldS.from {w:World} {a':Addr} {n:Nat} {d:List S.Bs} (h:HeldG csS w (some a') n d) (k:Nat) (hk:k≤n):HeldG csS w (some (a'.add k)) (n - k) (d.drop k):=by
 refine ⟨by rw [List.length_drop,h.1],by have:=h.2.1;omega,fun hn=> ?_⟩
 obtain ⟨b,o,e,hb,hat⟩:=h.2.2 (by omega)
 obtain rfl:=Option.some.inj e
 refine ⟨b,o+k,by rw [add_plain],hb,fun j u hu=> ?_⟩
 rw [Nat.add_assoc]
 refine hat (k+j) u ?_
 rw [←hu]
 have e:Fl csS d=Fl csS (d.take k)++Fl csS (d.drop k):=by rw [←Fl_app,List.take_append_drop]
 rw [e,List.getElem?_append_right (by rw [Fl_len csS_len,List.length_take];have:=h.1;omega),Fl_len csS_len,List.length_take]
 congr 1
 have:=h.1
 omega
theorem wpList_appS1 {w:World} {ops:Array Oper} {rest:List Oper} {o:Oper} {a:Act} {Q:Exit→Act→World→Prop} (hgd:o.guard=none) (s x:Operand)
 (ho:o.op=.call {callee:=.builtin .append,args:=#[s,x],argTypes:=#[123,123]})
 (base:Nat) (v:Value) (d:List S.Bs) (hv:a.eval s=v) (y:S.Bs) (c:Array Value) (t:TypeId) (b:Nat) (hx:a.eval x=.slice (some ⟨b,0,none⟩) 1 1) (hc:c.toList=csS y) (hb:b=w.heap.size) (hown:OwnsS w base v d)
 (hsz:d.length+1≤1000000000000) (hbase:base≤w.heap.size)
 (h:∀v' w',OwnsS w' base v' (d++[y])→w.grownBy w' v.ownBlock→wpList Tryz.prog ops Q rest (a.put o.dst v') w'):wpList Tryz.prog ops Q (o::rest) a (w.alloc (.cells c t)):=by
 subst hb
 refine wpList_appG csS_len csS_one Tryz.underlying123 infoS rfl (by decide) hgd s x ho base v d hv (hown.alloc _) ⟨w.heap.size,0,none⟩ 1 1 [y] hx rfl (at_new w t c [y] (by rw [Fl_one];exact hc) _ rfl) (by unfold maxLen;omega) (by omega) (by simp;omega) ?_
 intro v' w' h1 h2
 exact h v' w' h1 (World.grownBy.trans (World.grownBy_alloc w _ _) h2)
theorem Adds.ownG {α:Type} {cs:α→List Value} {sz:Nat} {E:TypeId} {w w2 w3:World} {v:Value} {d:List α} (h:Adds w w2) (ho:OwnsG cs sz E w2 w.heap.size v d) (hg:w2.grownBy w3 v.ownBlock):Adds w w3:=by
 cases e:v.ownBlock with
 |none=>
  rw [e] at hg
  obtain ⟨h1,h2,h3,h4,h5⟩:=hg
  exact h.trans (Adds.of_below ⟨h1,h2,h3,h4,fun j hj=>h5 j hj (by simp)⟩)
 |some g=>
  rw [e] at hg
  exact Adds.of_grown h hg (World.ownsRow.lt ho g e).1
theorem words28 (s:List UInt8) (hs:s.length≤1000000000) (w:World):Calls Tryz.prog 81 #[.string ⟨s.toArray⟩] w fun e w'=>∃v,e=.returned v∧OwnsS w' w.heap.size v (S.spl 32 s)∧Adds w w':=by
 have HZ:=Lib.hid hs
 clear hs
 go_enter Tryz.func81,Tryz.ntmps81
 go_wp2_with fail
 go_loopw [3,4,5] (fun x y z wr=>∃(k f:Nat) (ds:List S.Bs),y=.int .i64 (f:Int)∧z=.int .i64 (k:Int)∧k≤s.length+1∧Hid (S.wd28 s k f ds)∧Hid (ds.length≤k)∧Hid (OwnsS wr w.heap.size x ds)∧Hid (Adds w wr)) (fun _ _ z _=>s.length+1 - (intOf z).toNat)
 case atStart=>exact ⟨0,0,[],rfl,rfl,by omega,S.wd28_zero s,Nat.zero_le _,OwnsG.nil _ _,Adds.refl _⟩
 case round=>
  obtain ⟨k,f,ds,rfl,rfl,hk,HW,HL,HO,HA⟩:=hrel
  obtain ⟨ad0,nn,cc,rfl, -, -, -, -, -⟩:=HO.out.form2
  have q9:(k:Int)≤1000000001:=by have:=HZ.out;omega
  by_cases hlt:k < s.length
  ·have q2:(k:Int) < (s.length:Int):=by omega
   have q4:(k:Int)≤(s.length:Int):=by omega
   have d0:((k:Int)==(s.length:Int))=false:=by simp;omega
   obtain ⟨c,hc⟩:∃c,s[k]? =some c:=⟨s[k]'hlt,List.getElem?_eq_getElem _⟩
   have hi:=fun w=>at28 s k c hc w
   by_cases he:c=32
   ·subst he
    have hfk:=S.wd28_from HW.out (by omega)
    have hsl:=fun w=>sl_both s f k hfk (by omega) w
    have HW':=Lib.hid (S.wd28_blank HW.out hc)
    have HL':=Lib.hid (show (ds++[(s.drop f).take (k - f)]).length≤k+1 by have:=HL.out;rw [List.length_append];simp;omega)
    generalize (s.drop f).take (k - f)=y at *
    clear hc hfk
    go_wp2_with (at_builtin;refine wpList_appS1 rfl _ _ rfl w.heap.size (.slice ad0 nn cc) ds rfl y _ _ _ rfl rfl (by simp [go_sem]) (HO.out.adds aD) (by have:=HL.out;have:=HZ.out;omega) (Nat.le_trans HA.out.size (Adds.size aD)) ?_;intro v3 w3 hO3 hG3;obtain ⟨a3,n3,c3,rfl, -, -, -, -, -⟩:=hO3.form2;have O3:=Lib.hid hO3;have A3:=Lib.hid (Adds.ownG (HA.out.trans aD) (HO.out.adds aD) hG3);clear hO3 hG3)
    exact ⟨⟨k+1,k+1,ds++[y],by go_num,by go_num,by omega,HW',HL',O3.out.adds aD,A3.out.trans aD⟩,by simp [intOf];omega⟩
   ·have d1:((c.toNat:Int)==32)=false:=by
     simp only [beq_eq_false_iff_ne,ne_eq]
     intro e
     exact he (UInt8.toNat_inj.1 (by show c.toNat=32;omega))
    have HW':=Lib.hid (S.wd28_skip HW.out hc he)
    clear hc he
    go_wp2_with fail
    exact ⟨⟨k+1,f,ds,rfl,by go_num,by omega,HW',Nat.le_succ_of_le HL.out,HO.out.adds aD,HA.out.trans aD⟩,by simp [intOf];omega⟩
  ·by_cases heq:k=s.length
   ·subst heq
    have q4:(s.length:Int)≤(s.length:Int):=by omega
    have d0:((s.length:Int)==(s.length:Int))=true:=by simp
    have hfk:=S.wd28_from HW.out (by omega)
    have hsl:=fun w=>sl_both s f s.length hfk (by omega) w
    have HW':=Lib.hid (S.wd28_last HW.out)
    have HL':=Lib.hid (show (ds++[(s.drop f).take (s.length - f)]).length≤s.length+1 by have:=HL.out;rw [List.length_append];simp;omega)
    generalize (s.drop f).take (s.length - f)=y at *
    clear hfk
    go_wp2_with (at_builtin;refine wpList_appS1 rfl _ _ rfl w.heap.size (.slice ad0 nn cc) ds rfl y _ _ _ rfl rfl (by simp [go_sem]) (HO.out.adds aD) (by have:=HL.out;have:=HZ.out;omega) (Nat.le_trans HA.out.size (Adds.size aD)) ?_;intro v3 w3 hO3 hG3;obtain ⟨a3,n3,c3,rfl, -, -, -, -, -⟩:=hO3.form2;have O3:=Lib.hid hO3;have A3:=Lib.hid (Adds.ownG (HA.out.trans aD) (HO.out.adds aD) hG3);clear hO3 hG3)
    exact ⟨⟨s.length+1,s.length+1,ds++[y],by go_num,by go_num,by omega,HW',HL',O3.out.adds aD,A3.out.trans aD⟩,by first|(simp [intOf];done)|(simp [intOf];omega)⟩
   ·have hk1:k=s.length+1:=by omega
    have q4:¬(k:Int)≤(s.length:Int):=by omega
    have HR:=Lib.hid (S.wd28_end (hk1▸HW.out))
    clear hk1 heq hlt
    go_wp2_with fail
    go_ret
    exact ⟨_,rfl,by rw [←HR.out];exact HO.out.adds aD,HA.out.trans aD⟩
theorem within28 (a:Option Addr) (n cap:Nat) (ws:List S.Bs) (s:List UInt8) (w:World) (h:HeldS w a n ws) (hn:n≤2000000000):Calls Tryz.prog 83 #[.slice a n cap,.string ⟨s.toArray⟩] w fun e w'=>e=.returned (.bool (decide (s∈ws)))∧Adds w w':=by
 have HH:=Lib.hid h
 have HL:=Lib.hid h.1
 clear h
 go_enter Tryz.func83,Tryz.ntmps83
 go_wp2_with fail
 go_loopw [9] (fun i wr=>∃k:Nat,k≤n∧i=.int .i64 (k:Int)∧Hid (s∉ws.take k)∧Hid (Adds w wr)) (fun i _=>n - (intOf i).toNat)
 case atStart=>exact ⟨0,Nat.zero_le _,rfl,by simp [Hid],Adds.refl _⟩
 case round=>
  obtain ⟨k,hk,rfl,HN,HA⟩:=hrel
  by_cases hlt:k < n
  ·have q1:(k:Int) < (n:Int):=by omega
   obtain ⟨b,o,rfl,hb,hat⟩:=(HH.out.adds HA.out).2.2 (by omega)
   obtain ⟨x,hx⟩:=get_el (d:=ws) (k:=k) (by have:=HL.out;omega)
   have hc:wr.cell? ⟨b,o+k,none⟩=some (.string ⟨x.toArray⟩):=AtS.el hat hx
   by_cases he:x=s
   ·subst he
    have HR:=Lib.hid (show decide (x∈ws)=true from decide_eq_true (List.mem_of_getElem? hx))
    have d1:(x==x)=true:=by simp
    clear hat hx
    go_wp2_with fail
    go_ret
    exact ⟨by rw [HR.out];rfl,HA.out.trans aD⟩
   ·have d1:(x==s)=false:=by simpa using he
    have HN':=Lib.hid (show s∉ws.take (k+1) by
     rw [List.take_add_one,hx]
     simp only [Option.toList_some,List.mem_append,List.mem_singleton,not_or]
     exact ⟨HN.out,fun e=>he e.symm⟩)
    clear hat hx
    go_wp2_with fail
    go_roundw
    case rel=>exact ⟨k+1,by omega,by go_num,HN',HA.out.trans aD⟩
    case measure=>simp [intOf];omega
  ·obtain rfl:k=n:=by omega
   have HR:=Lib.hid (show decide (s∈ws)=false by
    have:=HN.out
    rw [List.take_of_length_le (by rw [HL.out];exact Nat.le_refl _)] at this
    simpa using this)
   go_wp2_with fail
   go_ret
   exact ⟨by rw [HR.out];rfl,HA.out.trans aD⟩
end
section
theorem conv28 {w:World} {base:Nat} {v:Value} {l:List UInt8} (h:OwnsB w base v (S.bi l)):(convert 30 9 v).run Tryz.prog w=.ok (.string ⟨l.toArray⟩) w:=by
 rcases h.2 with ⟨rfl,h0⟩|⟨g,cap,cur,rfl,_⟩
 ·rw [S.bi_len] at h0
  obtain rfl:=List.eq_nil_of_length_eq_zero h0
  rw [run_convert_bytes_nil w 30 5 Tryz.underlying30 Tryz.underlying5 0 0 9 Tryz.underlying9]
  rfl
 ·have hc:=World.ownsRow.cells h (g:=g) rfl
  rw [S.bi_len]
  refine run_convert_bytes_back w 30 9 5 ⟨g,0,none⟩ cap l Tryz.underlying30 Tryz.underlying5 Tryz.underlying9 fun j hj=> ?_
  refine hc j _ ?_
  rw [FlB,S.bi,List.map_map,List.getElem?_map,List.getElem?_eq_getElem hj]
  rfl
theorem format28 (a:Option Addr) (len cap:Nat) (d:List S.Pn) (hb:∀p∈d,p.bd) (hl:len≤1000000) (w:World) (h:HeldQ w a len d) (hT:Tab28 w):Calls Tryz.prog 9 #[.slice a len cap] w fun e w'=>e=.returned (.string ⟨(S.fmt28 d).toArray⟩)∧Adds w w':=by
 have HH:=Lib.hid h
 have HB:=Lib.hid hb
 have HL:=Lib.hid h.1
 have H6:=Lib.hid hl
 have HTab:=Lib.hid hT
 have h0:0 < w.heap.size:=by have:=cell_in (hT 0 (by decide));omega
 clear h hb hl hT
 go_enter Tryz.func9,Tryz.ntmps9
 go_wp2_with fail
 go_loopw [3,8] (fun t i wr=>∃(k:Nat) (l:List UInt8),k≤len∧i=.int .i64 (k:Int)∧Hid (l=S.fmt28 (d.take k))∧Hid (OwnsB wr w.heap.size t (S.bi l))∧Hid (Adds w wr)) (fun _ i _=>len - (intOf i).toNat)
 case atStart=>exact ⟨0,[],by omega,rfl,by simp [Hid,S.fmt28],OwnsG.nil _ _,Adds.refl _⟩
 case round=>
  obtain ⟨k,l,hk,rfl,HLq,HO,HA⟩:=hrel
  have hln:l.length≤101000000:=by
   rw [HLq.out]
   refine Nat.le_trans (S.fmt_len _) ?_
   have:=H6.out
   rw [List.length_take]
   omega
  have HLn:=Lib.hid hln
  clear hln
  by_cases hlt:k < len
  ·have q1:(k:Int) < (len:Int):=by omega
   have h6:k≤1000000:=by have:=H6.out;omega
   obtain ⟨a1,m1,c1,rfl, -, -, -, -, -⟩:=HO.out.form2
   obtain ⟨b,o,rfl,hb,hat⟩:=(HH.out.adds HA.out).2.2 (by omega)
   obtain ⟨p,hp⟩:=get_el (d:=d) (k:=k) (by have:=HL.out;omega)
   have hL:(wholeVar 34 ⟨b,o+k * 17,none⟩).run Tryz.prog wr=.ok (.agg #[.int .i64 p.st,.int .u16 p.ad,.int .u8 p.da,.bool p.sy,.bool p.db,.bool p.wa,.bool p.it,.bool p.al,.bool p.im,.bool p.s1,.bool p.s0,.bool p.rd,.bool p.ia,.bool p.so,.bool p.wr,.bool p.hl,.bool p.fl]) wr:=AtQ.load hat hp _ rfl
   have HBd:=Lib.hid (HB.out p (List.mem_of_getElem? hp))
   have HS:=Lib.hid (S.fmt_take d k p hp)
   have hrl:=S.rec_len p
   clear hat hp
   go_wp2_with (first
    |(go_at_call 19;refine (apprec28 p HBd.out w.heap.size h0 (.slice a1 m1 c1) a1 m1 c1 rfl (S.bi l) _ (HO.out.adds aD) (Nat.le_trans HA.out.size (Adds.size aD)) (by have:=HLn.out;rw [S.bi_len];omega) ((HTab.out.adds HA.out).adds aD)).mono ?_;rintro e w2 ⟨v2,rfl,hT2⟩;have HA2:=Lib.hid (AddsG.grown (HA.out.trans aD) hT2.g (HO.out.adds aD));have HO2:=Lib.hid hT2.o;obtain ⟨a2,m2,c2,rfl, -, -, -, -, -⟩:=hT2.o.form2;clear hT2)
    |(at_builtin;refine wpList_appS rfl _ _ rfl w.heap.size (.slice a2 m2 c2) (S.bi l++S.bi (S.rec28 p)) [10] rfl rfl (HO2.out.adds aD) (by have:=HLn.out;rw [List.length_append,S.bi_len,S.bi_len];simp;omega) (Nat.le_trans HA2.out.size (Adds.size aD)) ?_;intro v3 w3 hO hG hA;have HA3:=Lib.hid (AddsG.grown (HA2.out.trans aD) hG (HO2.out.adds aD));have HO3:=Lib.hid hO;obtain ⟨a3,m3,c3,rfl, -, -, -, -, -⟩:=hO.form2;clear hO hG hA)
    |fail)
   go_roundw
   case rel=>exact ⟨k+1,l++(S.rec28 p++[10]),by omega,by go_num,by rw [HLq.out,HS.out];simp [Hid],by rw [S.bi_app,S.bi_app,←List.append_assoc];exact HO3,HA3⟩
   case measure=>simp [intOf];omega
  ·obtain rfl:k=len:=by omega
   have hcv:=conv28 HO.out
   obtain ⟨a1,m1,c1,rfl, -, -, -, -, -⟩:=HO.out.form2
   go_wp2_with fail
   go_ret
   refine ⟨?_,HA.out.trans aD⟩
   rw [HLq.out,List.take_of_length_le (by rw [HL.out];exact Nat.le_refl _)]
   rfl
end
section
variable {B:Nat} {W w:World} {r:S.Rn} {tl:List S.Pn}
theorem grown_adds28 {V:World} {g:Nat} (k:Adds w W) (h:W.grownBy V (some g)) (hg:w.heap.size≤g):Adds w V:=
 (Tch.of_grown (S:=fun j=>j=g) h (fun j e=>by injection e with e;exact e.symm)).adds k (fun j _ e=>by omega)
theorem scr24 (b len cap N:Nat) (a:Option Addr) (hN:N≤1000000) (w:World) (h:Nb w b a len cap N):Calls Tryz.prog 18 #[.pointer (some ⟨b,0,none⟩),.int .i64 24] w (ScrPostB b 24 w):=scr_mkB b len cap N a 24 (by omega) hN w h
def MadePost (w:World) (e:Ending) (w':World):Prop:=∃(a:Option Addr) (n c:Nat) (tl:List S.Pn),e=.returned (.slice a n c)∧OwnsQ w' w.heap.size (.slice a n c) tl∧tl.length≤65000∧(∀p∈tl,S.PnOk p)∧Adds w w'
structure MadeJ (w:World) (r:S.Rn) (tl:List S.Pn) (B:Nat) (W:World):Prop where
 d:w.heap.size≤B
 t:OwnsQ W B (.slice r.ta r.tn r.tc) tl
 len:tl.length≤65000
 ok:∀p∈tl,S.PnOk p
 a:Adds w W
def MadeK (w:World) (b6:Nat) (r:S.Rn) (tl:List S.Pn) (W:World):Prop:=rowOf W b6=(List.toArray (.slice r.ta r.tn r.tc:: .slice r.ia r.ni r.ic:: .slice r.ea r.en r.ec:: .slice r.ua r.un r.uc:: .int .i64 r.s.k.c.Ch:: .int .u8 r.s.k.c.A:: .int .u8 r.s.k.c.B:: .int .u8 r.s.k.c.C:: .int .u8 r.s.k.c.D:: .int .u8 r.s.k.c.E:: .int .u8 r.s.k.c.H:: .int .u8 r.s.k.c.L:: .bool r.s.k.c.fS:: .bool r.s.k.c.fZ:: .bool r.s.k.c.fK:: .bool r.s.k.c.fAC:: .bool r.s.k.c.fP:: .bool r.s.k.c.fV:: .bool r.s.k.c.fCY:: .int .u16 r.s.k.c.SP:: .int .u16 r.s.k.c.PC:: .bool r.s.k.c.IE:: .bool r.s.k.c.De:: .bool r.s.k.c.Ha:: .int .u8 r.s.k.c.Ma:: .bool r.s.k.c.Tr:: .bool r.s.k.c.R7:: .bool r.s.k.c.WT:: .bool r.s.k.c.W7:: .bool r.s.k.c.Sa:: .bool r.s.k.c.SI:: .bool r.s.k.c.SO:: .int .i64 r.s.k.src:: .slice r.s.k.ga r.s.k.gn r.s.k.gc:: .int .i64 r.s.k.y.k:: .int .u16 r.s.k.y.a:: .int .u8 r.s.k.y.d:: .int .i64 r.s.k.y.s:: .int .i64 r.s.k.nx:: .bool r.s.k.ho:: .slice r.s.ma r.s.mn r.s.mc:: .int .i64 r.s.p.St:: .bool r.s.p.Le:: .bool r.s.p.Fo:: .bool r.s.p.Si:: .bool r.s.p.Ft:: .int .u8 r.s.p.Lw:: .int .u8 r.s.p.Hg:: .bool r.s.p.Au:: .bool r.s.p.Ro:: .bool r.s.p.Sp:: .bool r.s.p.RI:: .bool r.s.p.Po:: .int .u8 r.s.p.Li:: .int .u8 r.s.p.Ed:: .int .u8 r.s.p.IS:: .int .u8 r.s.p.IM:: .int .i64 r.s.p.Lo:: .int .i64 r.s.p.Sq:: .int .i64 r.s.p.Sv:: .bool r.s.p.Su:: .int .u16 r.s.da:: .int .u8 r.s.dv:: .int .i64 r.s.dl:: .int .i64 r.s.wt:: .slice r.s.oa r.s.on r.s.oc::[]))∧MadeJ w r tl w.heap.size W
theorem MadeJ.new (h:MadeJ w r tl B W) (t:TypeId):MadeK w W.heap.size r tl (W.alloc (.cells (List.toArray (.slice r.ta r.tn r.tc:: .slice r.ia r.ni r.ic:: .slice r.ea r.en r.ec:: .slice r.ua r.un r.uc:: .int .i64 r.s.k.c.Ch:: .int .u8 r.s.k.c.A:: .int .u8 r.s.k.c.B:: .int .u8 r.s.k.c.C:: .int .u8 r.s.k.c.D:: .int .u8 r.s.k.c.E:: .int .u8 r.s.k.c.H:: .int .u8 r.s.k.c.L:: .bool r.s.k.c.fS:: .bool r.s.k.c.fZ:: .bool r.s.k.c.fK:: .bool r.s.k.c.fAC:: .bool r.s.k.c.fP:: .bool r.s.k.c.fV:: .bool r.s.k.c.fCY:: .int .u16 r.s.k.c.SP:: .int .u16 r.s.k.c.PC:: .bool r.s.k.c.IE:: .bool r.s.k.c.De:: .bool r.s.k.c.Ha:: .int .u8 r.s.k.c.Ma:: .bool r.s.k.c.Tr:: .bool r.s.k.c.R7:: .bool r.s.k.c.WT:: .bool r.s.k.c.W7:: .bool r.s.k.c.Sa:: .bool r.s.k.c.SI:: .bool r.s.k.c.SO:: .int .i64 r.s.k.src:: .slice r.s.k.ga r.s.k.gn r.s.k.gc:: .int .i64 r.s.k.y.k:: .int .u16 r.s.k.y.a:: .int .u8 r.s.k.y.d:: .int .i64 r.s.k.y.s:: .int .i64 r.s.k.nx:: .bool r.s.k.ho:: .slice r.s.ma r.s.mn r.s.mc:: .int .i64 r.s.p.St:: .bool r.s.p.Le:: .bool r.s.p.Fo:: .bool r.s.p.Si:: .bool r.s.p.Ft:: .int .u8 r.s.p.Lw:: .int .u8 r.s.p.Hg:: .bool r.s.p.Au:: .bool r.s.p.Ro:: .bool r.s.p.Sp:: .bool r.s.p.RI:: .bool r.s.p.Po:: .int .u8 r.s.p.Li:: .int .u8 r.s.p.Ed:: .int .u8 r.s.p.IS:: .int .u8 r.s.p.IM:: .int .i64 r.s.p.Lo:: .int .i64 r.s.p.Sq:: .int .i64 r.s.p.Sv:: .bool r.s.p.Su:: .int .u16 r.s.da:: .int .u8 r.s.dv:: .int .i64 r.s.dl:: .int .i64 r.s.wt:: .slice r.s.oa r.s.on r.s.oc::[])) t)):=
 ⟨by simp [go_sem],Nat.le_refl _,OwnsG.mono (h.t.alloc _) h.d,h.len,h.ok,h.a.alloc _⟩
theorem MadeJ.set (h:MadeJ w r tl B W) {b6:Nat} (h1:w.heap.size≤b6) (h2:b6 < B) (hs:(rowOf W b6).size=66):MadeK w b6 r tl (W.setRow b6 (List.toArray (.slice r.ta r.tn r.tc:: .slice r.ia r.ni r.ic:: .slice r.ea r.en r.ec:: .slice r.ua r.un r.uc:: .int .i64 r.s.k.c.Ch:: .int .u8 r.s.k.c.A:: .int .u8 r.s.k.c.B:: .int .u8 r.s.k.c.C:: .int .u8 r.s.k.c.D:: .int .u8 r.s.k.c.E:: .int .u8 r.s.k.c.H:: .int .u8 r.s.k.c.L:: .bool r.s.k.c.fS:: .bool r.s.k.c.fZ:: .bool r.s.k.c.fK:: .bool r.s.k.c.fAC:: .bool r.s.k.c.fP:: .bool r.s.k.c.fV:: .bool r.s.k.c.fCY:: .int .u16 r.s.k.c.SP:: .int .u16 r.s.k.c.PC:: .bool r.s.k.c.IE:: .bool r.s.k.c.De:: .bool r.s.k.c.Ha:: .int .u8 r.s.k.c.Ma:: .bool r.s.k.c.Tr:: .bool r.s.k.c.R7:: .bool r.s.k.c.WT:: .bool r.s.k.c.W7:: .bool r.s.k.c.Sa:: .bool r.s.k.c.SI:: .bool r.s.k.c.SO:: .int .i64 r.s.k.src:: .slice r.s.k.ga r.s.k.gn r.s.k.gc:: .int .i64 r.s.k.y.k:: .int .u16 r.s.k.y.a:: .int .u8 r.s.k.y.d:: .int .i64 r.s.k.y.s:: .int .i64 r.s.k.nx:: .bool r.s.k.ho:: .slice r.s.ma r.s.mn r.s.mc:: .int .i64 r.s.p.St:: .bool r.s.p.Le:: .bool r.s.p.Fo:: .bool r.s.p.Si:: .bool r.s.p.Ft:: .int .u8 r.s.p.Lw:: .int .u8 r.s.p.Hg:: .bool r.s.p.Au:: .bool r.s.p.Ro:: .bool r.s.p.Sp:: .bool r.s.p.RI:: .bool r.s.p.Po:: .int .u8 r.s.p.Li:: .int .u8 r.s.p.Ed:: .int .u8 r.s.p.IS:: .int .u8 r.s.p.IM:: .int .i64 r.s.p.Lo:: .int .i64 r.s.p.Sq:: .int .i64 r.s.p.Sv:: .bool r.s.p.Su:: .int .u16 r.s.da:: .int .u8 r.s.dv:: .int .i64 r.s.dl:: .int .i64 r.s.wt:: .slice r.s.oa r.s.on r.s.oc::[]))):=
 ⟨rowOf_setRow_same _ _ _ (by omega),Nat.le_refl _,OwnsG.mono (OwnsG.kept h.t (grown_setRow W b6 (List.toArray (.slice r.ta r.tn r.tc:: .slice r.ia r.ni r.ic:: .slice r.ea r.en r.ec:: .slice r.ua r.un r.uc:: .int .i64 r.s.k.c.Ch:: .int .u8 r.s.k.c.A:: .int .u8 r.s.k.c.B:: .int .u8 r.s.k.c.C:: .int .u8 r.s.k.c.D:: .int .u8 r.s.k.c.E:: .int .u8 r.s.k.c.H:: .int .u8 r.s.k.c.L:: .bool r.s.k.c.fS:: .bool r.s.k.c.fZ:: .bool r.s.k.c.fK:: .bool r.s.k.c.fAC:: .bool r.s.k.c.fP:: .bool r.s.k.c.fV:: .bool r.s.k.c.fCY:: .int .u16 r.s.k.c.SP:: .int .u16 r.s.k.c.PC:: .bool r.s.k.c.IE:: .bool r.s.k.c.De:: .bool r.s.k.c.Ha:: .int .u8 r.s.k.c.Ma:: .bool r.s.k.c.Tr:: .bool r.s.k.c.R7:: .bool r.s.k.c.WT:: .bool r.s.k.c.W7:: .bool r.s.k.c.Sa:: .bool r.s.k.c.SI:: .bool r.s.k.c.SO:: .int .i64 r.s.k.src:: .slice r.s.k.ga r.s.k.gn r.s.k.gc:: .int .i64 r.s.k.y.k:: .int .u16 r.s.k.y.a:: .int .u8 r.s.k.y.d:: .int .i64 r.s.k.y.s:: .int .i64 r.s.k.nx:: .bool r.s.k.ho:: .slice r.s.ma r.s.mn r.s.mc:: .int .i64 r.s.p.St:: .bool r.s.p.Le:: .bool r.s.p.Fo:: .bool r.s.p.Si:: .bool r.s.p.Ft:: .int .u8 r.s.p.Lw:: .int .u8 r.s.p.Hg:: .bool r.s.p.Au:: .bool r.s.p.Ro:: .bool r.s.p.Sp:: .bool r.s.p.RI:: .bool r.s.p.Po:: .int .u8 r.s.p.Li:: .int .u8 r.s.p.Ed:: .int .u8 r.s.p.IS:: .int .u8 r.s.p.IM:: .int .i64 r.s.p.Lo:: .int .i64 r.s.p.Sq:: .int .i64 r.s.p.Sv:: .bool r.s.p.Su:: .int .u16 r.s.da:: .int .u8 r.s.dv:: .int .i64 r.s.dl:: .int .i64 r.s.wt:: .slice r.s.oa r.s.on r.s.oc::[]))) (fun g e=>by injection e with e;omega)) h.d,h.len,h.ok,Adds.setRowK h.a h1 _⟩
theorem made28 (a:Option Addr) (len cap:Nat) (zs:List Int) (w:World) (h:IsRow .i64 w a len cap zs) (hl:len≤1000):Calls Tryz.prog 8 #[.slice a len cap] w (MadePost w):=by
 have H:=Lib.hid h
 have HL:=Lib.hid hl
 clear h
 go_enter Tryz.func8,Tryz.ntmps8
 go_upto_region 3 with (first
  |(go_at_call 15;(with_reducible refine (from_any a len cap _).mono ?_);rintro e w' ⟨rfl,rfl⟩)
  |(go_at_call 16;refine (board_mk w.heap.size len cap 0 a (by omega) _ (Nb.from (zs:=zs) (by simp [go_sem]) H.out HL.out)).mono ?_;rintro e w5 ⟨x,rl,im,N5,rfl,hB5,hN5,hn5,hG5⟩;have HB5:=Lib.hid hB5;have HN5:=Lib.hid hn5;have HG5:=Lib.hid hG5;clear hB5 hn5 hG5))
 have hs5:w.heap.size < w5.heap.size:=by have:=HG5.out.size;simp [go_sem] at this;omega
 refine wp_forget (fun W=>rowOf W w5.heap.size=#[.int .i64 x.ch,.slice x.ra x.rn x.rc,.int .i64 x.iw,.int .u8 x.pp,.int .u8 x.dp,.bool x.jm,.slice x.ia x.ni x.ic]∧BoardOk (w.heap.size+1) x rl im W∧Nb W w.heap.size a len cap N5∧Adds w W) ⟨by simp [go_sem],(HB5.out.mono (by simp [go_sem])).adds aD,HN5.out.alloc _,Adds.alloc (grown_adds28 aD HG5.out (by omega)) _⟩ ?_
 clear HB5 HN5 HG5
 generalize w5.heap.size=b5 at hs5⊢
 rintro wa ⟨r5,hB,hN,hA⟩
 have HB:=Lib.hid hB
 have H:=Lib.hid hN
 have HA:=Lib.hid hA
 have p5:=row_lt r5 (by simp)
 have hwa:=hA.size
 clear hB hN hA
 go_cut [5] from 6 to 17 (fun v5 wx=>∃(b6:Nat) (r:S.Rn) (tl:List S.Pn),v5=.pointer (some ⟨b6,0,none⟩)∧Hid (MadeK w b6 r tl wx))
 case first=>
  go_region_with (first
   |(go_at_call 17;go_loud (refine (run_any x rl im sa sn sc zs6 _ (HB6.out.adds aD).bd (HB6.out.adds aD).im.1 (HB6.out.adds aD).im.2 HB6.out.gb ((HO6.out.adds aD).held (by have:=HZ6.out.1;omega)) ⟨hs1,hs2⟩ HZ6.out.2.1 (by have:=HZ6.out.1;have:=HZ6.out.2.2;omega)).mono ?_;rintro e w7 ⟨r,tl,il,q,e0,rfl,hQ,hT,hI,hl7,hp7,hA7⟩;have k7:=(show Adds w6 _ from aD).trans hA7;have ha7:=hA7.size;have HJ7:=Lib.hid (show MadeJ w r tl _ w7 from ⟨Nat.le_trans (Nat.le_of_lt (Nat.lt_of_le_of_lt (Nat.le_of_lt hs5) hs6)) (Adds.size (show Adds w6 _ from aD)),hQ,hl7,hp7,HA6.out.trans k7⟩);(try (have s7:(rowOf w7 w6.heap.size).size=66:=by (rw [hA7.row (by simp [go_sem])];simp [go_sem,zrun_size];done)));(try (have s7:(rowOf w7 wa.heap.size).size=66:=by (rw [((show Adds w6 _ from aD).trans hA7).row l6];exact s6)));clear hQ hT hI hl7 hp7 k7))
   |(go_at_call 18;(with_reducible refine (scr24 w.heap.size len cap N5 a (by omega) _ nbx).mono ?_);rintro e w6 ⟨sv,zs6,rfl,hO6,hl6,hb6,hG6⟩;obtain ⟨sa,sn,sc,rfl,hsn,hs1,hs2, -, -⟩:=hO6.form2;have r6:rowOf w6 b5=#[.int .i64 x.ch,.slice x.ra x.rn x.rc,.int .i64 x.iw,.int .u8 x.pp,.int .u8 x.dp,.bool x.jm,.slice x.ia x.ni x.ic]:=(rowOf_eq (hG6.block b5 (by simp [go_sem];try omega) (fun e=>by injection e with e;omega))).trans (((show Adds wa _ from aD).row p5).trans r5);have hs6:b5 < w6.heap.size:=(row_lt r6 (by simp));have HB6:=Lib.hid ((HB.out.adds (show Adds wa _ from aD)).grow hG6 (fun g e=>by injection e with e;omega));have HO6:=Lib.hid hO6;have HZ6:=Lib.hid (show zs6.length≤320∧(∀z∈zs6,0≤z∧z < 256)∧zs6.length=sn from ⟨by omega,hb6,hsn.out⟩);have HA6:=Lib.hid (grown_adds28 (HA.out.trans (show Adds wa _ from aD)) hG6 (by omega));(try (have s6:(rowOf w6 wa.heap.size).size=66:=by (rw [rowOf_eq (hG6.block wa.heap.size (by simp [go_sem]) (fun e=>by injection e with e;omega))];simp [go_sem,zrun_size];done)));(try (have l6:wa.heap.size < w6.heap.size:=row_lt (c:=rowOf w6 wa.heap.size) rfl (by rw [s6];omega)));clear hO6 hl6 hb6 hG6 hsn))
  all_goals
   go_wp2_with fail
   go_meet
   first
    |exact ⟨_,r,tl,rfl,HJ7.out.new _⟩
    |exact ⟨_,r,tl,rfl,HJ7.out.set (by omega) (by first|omega|(simp [go_sem];done)|(simp [go_sem];omega)) s7⟩
 case rest=>
  clear r5 p5 HB HA H
  obtain ⟨b6,r,tl,rfl,HK⟩:=hcut
  have c6:wc.cell? ⟨b6,0,none⟩=some (.slice r.ta r.tn r.tc):=rowOf_cell HK.out.1 rfl
  have p6:=row_lt HK.out.1 (by simp)
  go_wp2_with fail
  go_ret
  exact ⟨_,_,_,tl,rfl,HK.out.2.t.adds aD,HK.out.2.len,HK.out.2.ok,HK.out.2.a.trans aD⟩
end
end Go.Proofs.YteggjjhjmhccjaaGreatDoor
