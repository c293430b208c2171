/- Texts that the proofs of the statements on dumps rest on, joined. Conditions stand in each theorem. -/
import Derived.Test.YteggjjhjmhccjaaGreatDoorQ00
import Derived.Deep.RegionHeld3
import Derived.Deep.RegionWith
import Derived.WalkKit
import Derived.Deep.Slices
import Derived.ChangeSame
import Derived.Maps.AppendAt
import Derived.Laws.AppendOwnNone
import Derived.Deep.Cut
import Derived.Test.YteggjjhjmhccjaaGreatDoorChecked
import Derived.Laws.OwnMore
import Derived.Laws.CopyOwn
import Derived.Deep.AppendLies
import Derived.OwnWalk
set_option linter.unusedVariables false
set_option linter.unusedSimpArgs false
set_option maxRecDepth 100000
set_option maxHeartbeats 8000000
namespace Go.Proofs.YteggjjhjmhccjaaGreatDoor
open Go.ChangeShapes Go.WideShapes Go.ChangeAt Go.RowKit
section
variable {N b:Nat} {w w':World}
theorem Up.grown (u:Up w b N w'):w.grownBy w' (some b):=by
 have g1:w.grownBy (w.setCell ⟨b,1,none⟩ (.int .i64 (N:Int))) (some b):=⟨rfl,rfl,rfl,by simp,fun k _ hk=>heap_setCell_other w ⟨b,1,none⟩ k _ (fun e=>hk (by simp [e]))⟩
 exact g1.trans (Adds.grownBy u (some b))
theorem Nb.grown {a:Option Addr} {len cap:Nat} {row:Option Nat} (h:Nb w b a len cap N) (hg:w.grownBy w' row) (hne:∀g,row=some g→b < g):Nb w' b a len cap N:=
 h.of_heap fun k hk=>hg.block k (by have:=h.lt;omega) (fun e=>by have:=hne k e.symm;omega)
def lenOf:Value→Nat
 | .slice _ n _=>n
 |_=>0
def InpsPost (b len cap N:Nat) (a:Option Addr) (n:Nat) (w:World) (e:Ending) (w':World):Prop:=
 ∃r d N',e=.returned r∧OwnsI w' w.heap.size r d∧d.length≤n∧(∀x∈d,x.ok)∧N'≤N+1+12 * n∧Nb w' b a len cap N'∧w.grownBy w' (some b)
theorem inps_mk (b len cap N:Nat) (a:Option Addr) (n:Nat) (hn:n≤1000) (hN:N≤1000000) (w:World) (h:Nb w b a len cap N):
 Calls Tryz.prog 41 #[.pointer (some ⟨b,0,none⟩),.int .i64 (n:Int)] w (InpsPost b len cap N a n w):=by
 have hbw:=h.lt
 have H:Hid _:=Lib.hid h
 clear h
 go_enter Tryz.func41,Tryz.ntmps41
 go_wp2_with (go_at_call 26;(with_reducible refine (nx_any b len cap N a _ (by omega) (by omega) (by omega) w H.out).mono ?_);rintro e w1 ⟨z,M1,hz0,hz1,hM1,rfl,hU1⟩)
 obtain ⟨s,rfl⟩:∃s:Nat,z=(s:Int):=⟨z.toNat,by omega⟩
 have hs:s≤n:=by omega
 have HB1:=Lib.hid (H.out.up hU1)
 have HG1:=Lib.hid hU1.grown
 clear hU1 hz0 hz1
 go_loopw [5] (fun v wr=>∃(m N':Nat) (d:List S.Inp) (ad:Option Addr) (c:Nat),v=.slice ad m c∧m≤s∧N'≤N+1+12 * m∧Hid (d.length=m)∧Hid (OwnsI wr w.heap.size (.slice ad m c) d)∧Hid (∀x∈d,x.ok)∧Hid (Nb wr b a len cap N')∧Hid (w.grownBy wr (some b))) (fun v _=>s - lenOf v)
 case atStart=>exact ⟨0,M1,[],none,0,rfl,by omega,by omega,rfl,OwnsG.nil _ _,(fun x hx=>by cases hx),HB1.out,HG1.out⟩
 case round=>
  obtain ⟨m,N',d,ad,c,rfl,hm,hN',HD,HO,HK,HB,HG⟩:=hrel
  by_cases hlt:m < s
  ·have q1:(m:Int) < (s:Int):=by omega
   go_wp2_with (first
    |(go_at_call 80;(with_reducible refine (inp_mk b len cap N' a (by omega) wr HB.out).mono ?_);rintro e w2 ⟨x,M2,hx,hM2,rfl,hU2⟩;have HX:=Lib.hid hx;have HB2:=Lib.hid (HB.out.up hU2);have HG2:=Lib.hid hU2.grown;clear hU2 hx;simp only [S.Inp.cs])
    |(go_at_call 26;(with_reducible refine (nx_any b len cap M3 a 5 (by omega) (by omega) (by omega) w3 HB3.out).mono ?_);rintro e w4 ⟨z4,M4,hz40,hz41,hM4,rfl,hU4⟩;have HB4:=Lib.hid (HB3.out.up hU4);have HG4:=Lib.hid hU4.grown;clear hU4;obtain ⟨k0,hk0⟩:∃k:Int,z3 * z4=k:=⟨_,rfl⟩;have hk1:0≤k0:=(by rw [←hk0];exact Int.mul_nonneg hz30 hz40);have hk2:k0≤12:=(by rw [←hk0];exact Int.mul_le_mul (c:=3) (d:=4) (by omega) (by omega) hz40 (by omega)))
    |(go_at_call 26;(with_reducible refine (nx_any b len cap M2 a 4 (by omega) (by omega) (by omega) (w2.alloc (.cells #[.bool x.r,.bool x.h,.bool x.z,.bool x.s,.bool x.t,.bool x.a,.bool x.b,.bool x.c,.int .u8 x.q,.int .u8 x.p] 93)) (HB2.out.alloc _)).mono ?_);rintro e w3 ⟨z3,M3,hz30,hz31,hM3,rfl,hU3⟩;have HB3:=Lib.hid ((HB2.out.alloc (.cells #[.bool x.r,.bool x.h,.bool x.z,.bool x.s,.bool x.t,.bool x.a,.bool x.b,.bool x.c,.int .u8 x.q,.int .u8 x.p] 93)).up hU3);have HG3:=Lib.hid hU3.grown;clear hU3))
   have hbsz:b < w2.heap.size:=HB2.out.lt
   have hs2:=HG2.out.size
   have HO4:=Lib.hid (show OwnsI w4 w.heap.size (.slice ad m c) d from ((((HO.out.kept HG2.out (fun g e=>by injection e with e;omega)).alloc (.cells #[.bool x.r,.bool x.h,.bool x.z,.bool x.s,.bool x.t,.bool x.a,.bool x.b,.bool x.c,.int .u8 x.q,.int .u8 x.p] 93)).kept HG3.out (fun g e=>by injection e with e;omega)).kept HG4.out (fun g e=>by injection e with e;omega)))
   have HGG:=Lib.hid ((((HG.out.trans HG2.out).trans (World.grownBy_alloc w2 (.cells #[.bool x.r,.bool x.h,.bool x.z,.bool x.s,.bool x.t,.bool x.a,.bool x.b,.bool x.c,.int .u8 x.q,.int .u8 x.p] 93) _)).trans HG3.out).trans HG4.out)
   have HI:=Lib.hid (show w4.heap[w2.heap.size]? =some (.cells #[.bool x.r,.bool x.h,.bool x.z,.bool x.s,.bool x.t,.bool x.a,.bool x.b,.bool x.c,.int .u8 x.q,.int .u8 x.p] 93 (0,0)) by
    have s3:=HG3.out.size
    have sa:(w2.alloc (.cells #[.bool x.r,.bool x.h,.bool x.z,.bool x.s,.bool x.t,.bool x.a,.bool x.b,.bool x.c,.int .u8 x.q,.int .u8 x.p] 93)).heap.size=w2.heap.size+1:=Array.size_push ..
    rw [HG4.out.block _ (by omega) (fun e=>by injection e with e;omega),HG3.out.block _ (by omega) (fun e=>by injection e with e;omega)]
    exact heap_last w2 _)
   have HNE:=Lib.hid (show ∀g,(Value.slice ad m c).ownBlock=some g→g≠w2.heap.size from fun g hg=>by have:=(World.ownsRow.lt HO.out g hg).2;omega)
   clear HB2 HG2 HB3 HG3 HG4 hs2 hz30 hz31 hz40 hz41 HO HG HB
   have hw4:w.heap.size≤w4.heap.size:=HGG.out.size
   generalize w2.heap.size=bi at HI HNE⊢
   clear hk0
   go_loopw [5,8] (fun v5 v8 w'=>∃(m':Nat) (d':List S.Inp) (ad':Option Addr) (c':Nat) (k:Int),v5=.slice ad' m' c'∧v8=.int .i64 k∧(m≤m'∧m'≤s∧(m < m'∨0≤k))∧(-1≤k∧k≤12)∧Hid (d'.length=m')∧Hid (OwnsI w' w.heap.size (.slice ad' m' c') d')∧Hid (∀x∈d',x.ok)∧Hid (Nb w' b a len cap M4)∧Hid (w.grownBy w' (some b))∧Hid (w'.heap[bi]? =some (.cells #[.bool x.r,.bool x.h,.bool x.z,.bool x.s,.bool x.t,.bool x.a,.bool x.b,.bool x.c,.int .u8 x.q,.int .u8 x.p] 93 (0,0)))∧Hid (∀g,(Value.slice ad' m' c').ownBlock=some g→g≠bi)) (fun _ v8 _=>(intOf v8+1).toNat)
   case atStart=>exact ⟨m,d,ad,c,k0,rfl,rfl,⟨by omega,by omega,by omega⟩,⟨by omega,by omega⟩,HD.out,HO4.out,HK.out,HB4.out,HGG.out,HI.out,HNE.out⟩
   case round=>
    obtain ⟨m',d',ad',c',k,rfl,rfl,⟨hm1,hm2,hm3⟩,⟨hk3,hk4⟩,HD',HO',HK',HB',HG',HI',HNE'⟩:=hrel
    have hL:(wholeVar 93 ⟨bi,0,none⟩).run Tryz.prog wr=.ok (.agg #[.bool x.r,.bool x.h,.bool x.z,.bool x.s,.bool x.t,.bool x.a,.bool x.b,.bool x.c,.int .u8 x.q,.int .u8 x.p]) wr:=whole_cells Tryz.underlying93 rfl sizeI wr bi 0 #[.bool x.r,.bool x.h,.bool x.z,.bool x.s,.bool x.t,.bool x.a,.bool x.b,.bool x.c,.int .u8 x.q,.int .u8 x.p] rfl fun j v hj=>by rw [Nat.zero_add,cell_of_row wr bi j _ _ (0,0) HI'.out];exact hj
    have hbi:bi < wr.heap.size:=(Array.getElem?_eq_some_iff.1 HI'.out).1
    have hw':=HG'.out.size
    have HLO:=Lib.hid (show ∀g,(Value.slice ad' m' c').ownBlock=some g→w.heap.size≤g from fun g e=>(World.ownsRow.lt HO'.out g e).1)
    by_cases hk0:0≤k
    ·by_cases hms:m' < s
     ·have q2:(m':Int) < (s:Int):=by omega
      go_wp2_with (at_builtin;refine wpList_appI1_at rfl _ _ rfl w.heap.size (.slice ad' m' c') _ rfl x _ _ wr.heap.size rfl rfl rfl HO'.out (by have:=HD'.out;omega) hw' ?_;intro v5 w5 hO5 hG5 hN5;obtain ⟨ad5,m5,c5,rfl,hn5, -, -, -, -⟩:=hO5.form2;obtain rfl:m5=m'+1:=(by have:=hn5.out;have h2:=HD'.out;rw [List.length_append,h2] at this;exact this.symm);have HO5:=Lib.hid hO5;have HG5:=Lib.hid hG5;have HN5:=Lib.hid hN5;clear hn5 hO5 hG5 hN5)
      go_roundw
      case rel=>
       refine ⟨m'+1,d'++[x],ad5,c5,k - 1,rfl,rfl,⟨by omega,by omega,by omega⟩,⟨by omega,by omega⟩,(by show _=_;rw [List.length_append,HD'.out];rfl),HO5.out,(fun y hy=> ?_),HB'.out.grown HG5.out (fun g e=>by have:=HLO.out g e;omega),grown_trans2 HG'.out HG5.out (fun g e=> .inr (HLO.out g e)),(HG5.out.block bi hbi (fun e=>HNE'.out bi e.symm rfl)).trans HI'.out,fun g hg=> ?_⟩
       ·rcases List.mem_append.1 hy with hy|hy
        ·exact HK'.out y hy
        ·simp at hy;subst hy;exact HX.out
       ·rcases HN5.out g hg with e|e
        ·exact HNE'.out g e
        ·omega
      case measure=>simp [intOf];omega
     ·have q2:¬(m':Int) < (s:Int):=by omega
      go_wp2_with fail
      go_roundw
      case rel=>exact ⟨m',M4,d',ad',c',rfl,by omega,by omega,HD'.out,HO'.out,HK'.out,HB'.out,HG'.out⟩
      case measure=>simp [lenOf];omega
    ·go_wp2_with fail
     go_roundw
     case rel=>exact ⟨m',M4,d',ad',c',rfl,by omega,by omega,HD'.out,HO'.out,HK'.out,HB'.out,HG'.out⟩
     case measure=>simp [lenOf];omega
  ·have q1:¬(m:Int) < (s:Int):=by omega
   go_wp2_with fail
   go_ret
   exact ⟨_,d,N',rfl,HO.out,by have:=HD.out;omega,HK.out,by omega,HB.out,HG.out⟩
end
section
theorem renc_any (a:Option Addr) (len cap:Nat) (l:List S.Inp) (w:World) (h:HeldI w a len l) (hc:len≤cap) (hcap:cap≤9223372036854775807) (hbig:len≤100000000):
 Calls Tryz.prog 40 #[.slice a len cap] w fun e w'=>∃r,e=.returned r∧OwnsB w' w.heap.size r (S.enc l)∧Adds w w':=by
 obtain ⟨hl,_,hat⟩:=h
 obtain ⟨n,hn⟩:∃n,n=min len 65536:=⟨_,rfl⟩
 have HN:=Lib.hid hn
 have hn6:n≤65536:=by omega
 have hnl:n≤len:=by omega
 have HL:=Lib.hid hl
 have HAT:=Lib.hid hat
 clear hn hl hat
 go_enter Tryz.func40,Tryz.ntmps40
 go_wp2_with fail
 go_loopw [3,9] (fun v i wr=>∃(k m:Nat) (ad:Option Addr) (c:Nat),k≤n∧Hid (m=k * 4)∧v=.slice ad m c∧i=.int .i64 (k:Int)∧Hid (OwnsB wr w.heap.size (.slice ad m c) (S.encs (l.take k)))∧Hid (Adds w wr)) (fun _ i _=>n - (intOf i).toNat)
 case atStart=>exact ⟨0,0,_,_,Nat.zero_le _,rfl,rfl,rfl,OwnsG.nil _ _,Adds.refl _⟩
 case round=>
  obtain ⟨k,m,ad,c,hk,HM,rfl,rfl,HO,HA⟩:=hrel
  by_cases hll:k < len
  ·obtain ⟨b,o,rfl,hb,hat⟩:=HAT.out (by omega)
   have hat':=AtG.keep (w':=wr) hat fun i=>HA.out.cell hb
   have hsz:=HA.out.size
   obtain ⟨x,hx⟩:=get_el (d:=l) (k:=k) (by have:=HL.out;omega)
   have HX:=Lib.hid (S.encs_step hx)
   have hL:(wholeVar 93 ⟨b,o+k * 10,none⟩).run Tryz.prog wr=.ok (.agg #[.bool x.r,.bool x.h,.bool x.z,.bool x.s,.bool x.t,.bool x.a,.bool x.b,.bool x.c,.int .u8 x.q,.int .u8 x.p]) wr:=AtI.load hat' hx _ rfl
   have q1:(k:Int) < (len:Int):=by omega
   clear hat hat' hx HAT
   by_cases hlt:k < n
   ·have q2:¬(65536:Int)≤(k:Int):=by omega
    go_wp2_with fail
    refine qt ?_
    repeat (go_big_quiet_step ((go_at_call 79;exact calls_same (rbit_any _ _ (by decide) (by decide) _))))
    refine qn fun nq osq=> ?_
    go_wp2_with fail
    generalize hcc:bits .or .u8 (bits .or .u8 _ _) (S.wh x.c (S.pw 7))=cc
    have hce:cc=S.ctl x:=hcc.symm.trans rfl
    clear hcc
    subst hce
    have HA1:=Lib.hid (show Adds wr (More (wr.alloc (.cells #[.bool x.r,.bool x.h,.bool x.z,.bool x.s,.bool x.t,.bool x.a,.bool x.b,.bool x.c,.int .u8 x.q,.int .u8 x.p] 93)) (nq+1) osq) from aD)
    have HO1:=Lib.hid (OwnsG.adds HO.out HA1.out)
    go_region_held3 (fun w'=>w'.cell? ⟨wr.heap.size,8,none⟩=some (.int .u8 x.q)∧w'.cell? ⟨wr.heap.size,9,none⟩=some (.int .u8 x.p)) (first|(simp [go_sem];done)|(constructor<;>assumption))
     (first
       |((go_at_call 60;with_reducible refine sm (rchk_any) ?_))
       |((refine step_appB rfl _ _ (by rfl) w.heap.size (.slice ad m c) _ (by rfl) (S.enc1 x) 4 _ _ (wr.heap.size+1+osq.size) (by rfl) rfl rfl (by simp [go_sem]) HO1.out (by have:=HM.out;have:=HO.out.len;omega) (by simp [go_sem];omega) ?_;intro v3 w3 hO3 hG3;obtain ⟨ad3,m3,c3,rfl,hn3, -, -, -, -⟩:=hO3.form2;have HM3:=Lib.hid (show m3=(k+1) * 4 by have:=hn3.out;rw [List.length_append,S.encs_len,List.length_take] at this;have:=HL.out;simp [S.enc1] at *;omega);have k1:=(World.cell?_of_block (a:=⟨wr.heap.size,8,none⟩) (hG3.block wr.heap.size (by simp [go_sem];omega) (fun e=>by have:=(World.ownsRow.lt HO.out _ e.symm).2;omega))).trans (by simp [go_sem]:_=some (.int .u8 x.q));have k2:=(World.cell?_of_block (a:=⟨wr.heap.size,9,none⟩) (hG3.block wr.heap.size (by simp [go_sem];omega) (fun e=>by have:=(World.ownsRow.lt HO.out _ e.symm).2;omega))).trans (by simp [go_sem]:_=some (.int .u8 x.p));have HO3:=Lib.hid hO3;have HA3:=Lib.hid (AddsG.grown (HA.out.trans HA1.out) hG3 HO1.out);clear hn3 hO3 hG3)))
    go_wp2_with fail
    go_roundw
    case rel=>exact ⟨k+1,m3,ad3,c3,by omega,HM3.out,rfl,by go_num,(by rw [HX.out];exact HO3.out),HA3.out⟩
    case measure=>simp [intOf];omega
   ·have q2:(65536:Int)≤(k:Int):=by have:=HN.out;omega
    have HF:=Lib.hid (show S.encs (l.take k)=S.enc l by have h6:k=65536:=(by have:=HN.out;omega);subst h6;rfl)
    go_wp2_with fail
    go_ret
    exact ⟨_,rfl,by rw [←HF.out];exact OwnsG.adds HO.out aD,HA.out.trans aD⟩
  ·have q1:¬(k:Int) < (len:Int):=by omega
   have HF:=Lib.hid (show S.encs (l.take k)=S.enc l by have hl:=HL.out;have hk6:=HN.out;unfold S.enc;rw [List.take_of_length_le (by omega),List.take_of_length_le (by omega)])
   clear HAT
   go_wp2_with fail
   go_ret
   exact ⟨_,rfl,by rw [←HF.out];exact HO.out,HA.out⟩
end
section
theorem S.getD_byt {zs:List Int} (h:∀z∈zs,S.byt z) (k:Nat):S.byt (zs.getD k 0):=by
 rw [List.getD_eq_getElem?_getD]
 cases e:zs[k]? with
 |none=>exact ⟨Int.le_refl 0,by show (0:Int) < 256;omega⟩
 |some v=>exact h v (List.mem_of_getElem? e)
theorem S.wrap_byt (x:Int):S.byt (IntKind.u8.wrap x):=by
 have h:IntKind.u8.wrap x=x % 256:=rfl
 unfold S.byt
 rw [h]
 omega
theorem grown_of_drew {w w':World} {r:Option Nat} (h:w.drew.grownBy w' r):w.grownBy w' r:=⟨h.os,h.tape,h.output,h.size,h.block⟩
def ScrPost (b n:Nat) (w:World) (e:Ending) (w':World):Prop:=
 ∃r zs,e=.returned r∧OwnsB w' w.heap.size r zs∧zs.length≤4 * n∧w.grownBy w' (some b)
def ScrPostB (b n:Nat) (w:World) (e:Ending) (w':World):Prop:=
 ∃r zs,e=.returned r∧OwnsB w' w.heap.size r zs∧zs.length≤4 * n∧(∀z∈zs,S.byt z)∧w.grownBy w' (some b)
theorem scr_mkB (b len cap N:Nat) (a:Option Addr) (n:Nat) (hn:n≤1000) (hN:N≤1000000) (w:World) (h:Nb w b a len cap N):
 Calls Tryz.prog 18 #[.pointer (some ⟨b,0,none⟩),.int .i64 (n:Int)] w (ScrPostB b n w):=by
 have hbw:=h.lt
 have H:Hid _:=Lib.hid h
 clear h
 go_enter Tryz.func18,Tryz.ntmps18
 go_upto_region 2 with (first
  |(go_at_call 41;(with_reducible refine (inps_mk b len cap N a n hn hN w H.out).mono ?_);rintro e w2 ⟨r,d,N2,rfl,hO2,hd2,hK2,hN2,hB2,hG2⟩;obtain ⟨ad,m,c,rfl,hm,h1,h2, -, -⟩:=hO2.form2;have HO2:=Lib.hid hO2;have HB2:=Lib.hid hB2;have HG2:=Lib.hid hG2;have HBY:=Lib.hid (S.enc_byt hK2);have hm':m≤n:=(by have:=hm.out;omega);clear hO2 hK2 hB2 hG2 hd2)
  |(go_at_call 40;(with_reducible refine (renc_any ad m c d w2 (OwnsG.held HO2.out (by have:=hm.out;omega)) h1 h2 (by omega)).mono ?_);rintro e w3 ⟨r3,rfl,hO3,hA3⟩;obtain ⟨ad3,m3,c3,rfl,hm3,h31,h32,h33,h34⟩:=hO3.form2;have hm3':m3≤4 * n:=(by have:=hm3.out;rw [S.enc_len] at this;have:=hm.out;omega);have HO3:=Lib.hid hO3;have HA3:=Lib.hid hA3;clear hO3 hA3))
 have hw2:=HG2.out.size
 have HB3:=Lib.hid (HB2.out.grown (HA3.out.grownBy none) (fun g e=>by cases e))
 have HG3:=Lib.hid (HG2.out.trans (HA3.out.grownBy (some b)))
 obtain ⟨zs,hzs⟩:∃zs,S.enc d=zs:=⟨_,rfl⟩
 rw [hzs] at HO3 hm3 HBY
 have HO3':=Lib.hid (OwnsG.mono HO3.out hw2)
 clear HB2 HG2 HO2 HA3 HO3 hzs
 by_cases hp:0 < m3
 ·have hpz:(0:Int) < (m3:Int):=by omega
  obtain ⟨g,rfl,hg1,hg2⟩:=h33 (by omega)
  clear h33 h34
  go_wp2_with (go_at_call 26;(with_reducible refine (nx_any b len cap N2 a 4 (by omega) (by omega) (by omega) w3 HB3.out).mono ?_);rintro e w4 ⟨z,M4,hz0,hz1,hM4,rfl,hU4⟩;have HB4:=Lib.hid (HB3.out.up hU4);have HG4:=Lib.hid (HG3.out.trans hU4.grown);have HO4:=Lib.hid (HO3'.out.kept hU4.grown (fun g e=>by injection e with e;omega));clear hU4)
  ·go_region_with (first
    |(go_at_call 26;(with_reducible refine (nx_any b len cap M5 a 8 (by omega) (by omega) (by omega) w5 HB5.out).mono ?_);rintro e w6 ⟨t,M6,ht0,ht1,hM6,rfl,hU6⟩;have HG6:=Lib.hid (HG5.out.trans hU6.grown);have HO6:=Lib.hid (HO5.out.kept hU6.grown (fun g e=>by injection e with e;omega));have c6:w6.cell? ⟨g,k,none⟩=some (.int .u8 zk):=(by have:=AtB.el (OwnsG.at_ HO6.out) (j:=k) (by have:=hm3.out;omega);rwa [Nat.zero_add,hzk.out] at this);have f6:=OwnsG.frozen HO6.out k;clear hU6)
    |(go_at_call 26;(with_reducible refine (nx_any b len cap M4 a (m3:Int) (by omega) (by omega) (by omega) _ HB4.out.drew).mono ?_);rintro e w5 ⟨y,M5,hy0,hy1,hM5,rfl,hU5⟩;obtain ⟨k,rfl⟩:∃k:Nat,y=(k:Int):=⟨y.toNat,by omega⟩;have HB5:=Lib.hid (HB4.out.drew.up hU5);have HG5:=Lib.hid (HG4.out.trans (grown_of_drew hU5.grown));have HO5:=Lib.hid (HO4.out.kept (grown_of_drew hU5.grown) (fun g e=>by injection e with e;omega));obtain ⟨zk,hzk'⟩:∃zk,zs.getD k 0=zk:=⟨_,rfl⟩;have hzk:=Lib.hid hzk';clear hzk';have c5:w5.cell? ⟨g,k,none⟩=some (.int .u8 zk):=(by have:=AtB.el (OwnsG.at_ HO5.out) (j:=k) (by have:=hm3.out;omega);rwa [Nat.zero_add,hzk.out] at this);clear hU5))
   all_goals
    have HS:=Lib.hid (OwnsB.store HO6.out k (bits .xor .u8 zk (IntKind.u8.wrap (2 ^ t.toNat))))
    go_wp2_with fail
    go_ret
    exact ⟨_,_,rfl,HS.out.1,by rw [List.length_set];have:=hm3.out;omega,(fun y hy=>by
     rcases List.mem_or_eq_of_mem_set hy with q|rfl
     ·exact HBY.out y q
     ·exact S.xor_byt (hzk.out▸S.getD_byt HBY.out k) (S.wrap_byt _)),grown_trans2 HG6.out HS.out.2 (fun g' e=>by injection e with e;have:=(OwnsG.lt HO6.out).1;omega)⟩
  ·go_wp2_with fail
   go_ret
   exact ⟨_,zs,rfl,HO4.out,by have:=hm3.out;omega,HBY.out,HG4.out⟩
 ·have hpz:¬(0:Int) < (m3:Int):=by omega
  clear h33 h34
  go_wp2_with fail
  go_ret
  exact ⟨_,zs,rfl,HO3'.out,by have:=hm3.out;omega,HBY.out,HG3.out⟩
theorem scr_mk (b len cap N:Nat) (a:Option Addr) (n:Nat) (hn:n≤1000) (hN:N≤1000000) (w:World) (h:Nb w b a len cap N):
 Calls Tryz.prog 18 #[.pointer (some ⟨b,0,none⟩),.int .i64 (n:Int)] w (ScrPost b n w):=
 (scr_mkB b len cap N a n hn hN w h).mono (by rintro e w' ⟨r,zs,h1,h2,h3,_,h5⟩;exact ⟨r,zs,h1,h2,h3,h5⟩)
end
section
variable {a:Int} {b n:Nat} {l:List Int} {w w':World}
theorem gb_drew {r:Option Nat} (h:w.grownBy w' r):w.grownBy w'.drew r:=⟨h.os,h.tape,h.output,h.size,h.block⟩
theorem gb_drewN {r:Option Nat} (h:w.grownBy w' r):w.grownBy (w'.drewN n) r:=⟨h.os,h.tape,h.output,h.size,h.block⟩
theorem gb_alloc {r:Option Nat} (h:w.grownBy w' r) {o:Obj}:w.grownBy (w'.alloc o) r:=h.trans (World.grownBy_alloc _ _ _)
theorem gb_more {r:Option Nat} (h:w.grownBy w' r) {os:Array Obj}:w.grownBy (More w' n os) r:=h.trans (Adds.grownBy (Adds.more (Adds.refl _) n os) r)
theorem gb_cell (h:w.grownBy w' (some b)) {i:Nat} {v:Value}:w.grownBy (w'.setCell ⟨b,i,none⟩ v) (some b):=
 h.trans ⟨rfl,rfl,rfl,by simp,fun k _ hk=>heap_setCell_other w' ⟨b,i,none⟩ k _ (fun e=>hk (by simp [e]))⟩
theorem gbx {r:Option Nat} (h:w.grownBy w' r:=by (repeat (first|with_reducible exact World.grownBy.refl _ _|with_reducible refine gb_drew ?_|with_reducible refine gb_drewN ?_|with_reducible refine gb_alloc ?_|with_reducible refine gb_more ?_|with_reducible refine gb_cell ?_))):w.grownBy w' r:=h
theorem nbx {P:Prop} (h:P:=by (repeat (first|with_reducible exact H.out|with_reducible refine Nb.more ?_ _ _|with_reducible refine Nb.alloc ?_ _|with_reducible refine Nb.drew ?_|apply Nb.bump))):P:=h
theorem at_rowB {c:Array Value} {e:List Int} (hr:rowOf w b=c) (hc:c.toList=Fl csB e):∀j u,(Fl csB e)[j]? =some u→w.cell? ((⟨b,0,none⟩:Addr).add j)=some u:=by
 intro j u hu
 rw [add_plain,Nat.zero_add]
 rw [←hc] at hu
 exact rowOf_cell hr (by simpa using hu)
theorem byt_app {zs:List Int} (h:∀z∈zs,S.byt z) (k:∀z∈l,S.byt z):∀z∈zs++l,S.byt z:=fun z hz=>(List.mem_append.1 hz).elim (h z) (k z)
theorem byt_1 (ha:0≤a∧a < 256):∀z∈[a],S.byt z:=fun z hz=>by rw [List.mem_singleton.1 hz];exact ha
theorem byt_cons (ha:0≤a∧a < 256) (h:∀z∈l,S.byt z):∀z∈a::l,S.byt z:=fun z hz=>(List.mem_cons.1 hz).elim (fun e=>e▸ha) (h z)
theorem byt_nil:∀z∈([]:List Int),S.byt z:=fun z hz=>by cases hz
theorem wrap8 {y:Int} (h0:0≤y) (h1:y < 256):IntKind.u8.wrap y=y∧y % 256=y:=⟨by simp [IntKind.wrap,IntKind.bits,IntKind.signed];omega,by omega⟩
theorem lt4b (y:Int) (h0:0≤y) (h:y < 4):∃(k:Nat) (o:Int),y=(k:Int)∧0≤o∧o < 256∧(k:Int) < 4∧(#[.int .u8 0,.int .u8 0,.int .u8 1,.int .u8 255]:Array Value)[k]? =some (.int .u8 o):=by
 obtain ⟨k,rfl⟩:∃k:Nat,y=(k:Int):=⟨y.toNat,by omega⟩
 match k,h with
 |0,h=>exact ⟨0,0,rfl,by omega,by omega,h,rfl⟩
 |1,h=>exact ⟨1,0,rfl,by omega,by omega,h,rfl⟩
 |2,h=>exact ⟨2,1,rfl,by omega,by omega,h,rfl⟩
 |3,h=>exact ⟨3,255,rfl,by omega,by omega,h,rfl⟩
 |k+4,h=>exact absurd h (by omega)
end
section
section
variable {P:Program} {ops:Array Oper} {Q:Exit→Act→World→Prop} {md:Region.Mode}
def pre (K m:Nat):Array Bool:=(List.replicate K true++List.replicate (m - K) false).toArray
theorem pre_of {L:Array Bool} {K m:Nat} (hz:L.size=m) (hK:K≤m) (h1:∀j,j < K→L.getD j false=true) (h2:∀j,K≤j→L.getD j false=false):L=pre K m:=by
 apply Array.ext
 ·simp [pre];omega
 ·intro i hi _
  have e:L[i]=L.getD i false:=by simp [Array.getD,hi]
  rw [e]
  by_cases h:i < K
  ·rw [h1 i h];simp [pre,h,List.getElem_append]
  ·rw [h2 i (by omega)];simp [pre,h,List.getElem_append]
theorem pre_get {K m i:Nat} (hi:i < K) (hm:K≤m):(pre K m).getD i false=true:=by
 have:i < (pre K m).size:=by simp [pre];omega
 simp only [Array.getD,this,dif_pos]
 simp [pre,List.getElem_append,hi]
def dep (md:Region.Mode) (ops:Array Oper) (i k:Nat):Bool:=((ops[i]?).map fun o=>o.after.any fun e=>Region.binds md e && e.on==k)==some true
def reach (md:Region.Mode) (ops:Array Oper):Nat→Nat→Nat→Bool
 |0,_,_=>false
 |f+1,i,j=>dep md ops i j||(List.range i).any fun k=>dep md ops i k && reach md ops f k j
theorem reach_listed {L:Array Bool} (hc:∀j,L.getD j false=true→∀k,dep md ops j k=true→L.getD k false=true):∀(f i j:Nat),reach md ops f i j=true→(∀k,dep md ops i k=true→L.getD k false=true)→L.getD j false=true
 |0,_,_,h,_=>by cases h
 |f+1,i,j,h,hi=>by
  unfold reach at h
  rcases Bool.or_eq_true _ _|>.mp h with h|h
  ·exact hi j h
  ·obtain ⟨k,_,hk⟩:=List.any_eq_true.1 h
   obtain ⟨h1,h2⟩:=Bool.and_eq_true _ _|>.mp hk
   exact reach_listed hc f k j h2 (hc k (hi k h1))
theorem dep_of {L:Array Bool} {i k:Nat} (h:i∈Region.ready md ops L) (hd:dep md ops i k=true):L.getD k false=true:=ready_dep h (by simpa [dep] using hd)
theorem wpAny_pre (K:Nat) (Inv:Nat→Array Bool→Act→World→Prop) (hK:K < ops.size)
 (hac:((List.range ops.size).all fun i=>((ops[i]?).map fun o=>o.after.all fun e=>decide (e.on < i)).getD true)=true)
 (hg:∀n L a w,Inv n L a w→∀j,K≤j→L.getD j false=false)
 (hdep:∀i,K≤i→i < ops.size→((List.range K).all fun j=>reach md ops ops.size i j)=true)
 (hs:∀n L a w i,n < ops.size→L.size=ops.size→Inv n L a w→i < K→i∈Region.ready md ops L→wpOp P ops Q i (fun a' w'=>Inv (n+1) (L.setIfInBounds i true) a' w') a w)
 (he:∀a w,Inv K (pre K ops.size) a w→wpAny P md ops Q (ops.size - K) (pre K ops.size) a w):
 ∀(fuel n:Nat) (L:Array Bool) (a:Act) (w:World),n+fuel=ops.size→L.size=ops.size→L.toList.countP (fun b=> !b)=fuel→(∀j,L.getD j false=true→∀k,dep md ops j k=true→L.getD k false=true)→Inv n L a w→wpAny P md ops Q fuel L a w
 |0,n,L,a,w,hf,hz,hc,hcl,hI=>by
  have h1:=hg n L a w hI K (Nat.le_refl _)
  have h2:L.toList.countP (fun b=> !b)=0:=hc
  rw [List.countP_eq_zero] at h2
  have h3:L.getD K false=L[K]:=by simp [Array.getD,hz,hK]
  have h4:=h2 L[K] (by simp)
  rw [h3] at h1
  rw [h1] at h4
  exact absurd rfl h4
 |fuel+1,n,L,a,w,hf,hz,hc,hcl,hI=>by
  refine ⟨fun hr=> ?_,fun i hi=> ?_⟩
  ·have:=all_listed hac hz hr K hK
   rw [hg n L a w hI K (Nat.le_refl _)] at this
   cases this
  ·by_cases h:i < K
   ·refine wpOp_mono (fun a' w' h'=> ?_) (hs n L a w i (by omega) hz hI h hi)
    have k:=count_set L.toList i (by simpa using unlisted (mem_ready.1 hi).1)
    refine wpAny_pre K Inv hK hac hg hdep hs he fuel (n+1) _ a' w' (by omega) (by simpa using hz) (by rw [Array.toList_setIfInBounds];omega) (fun j hj m hm=> ?_) h'
    rcases listed_set L i j hj with e|hj'
    ·subst e
     by_cases e2:m=j
     ·subst e2;exact hj
     ·rw [listed_set_ne L j m (Ne.symm e2)];exact dep_of hi hm
    ·by_cases e2:m=i
     ·subst e2;rw [listed_set_same L m (by have:=(Array.getElem?_eq_some_iff.1 (unlisted (mem_ready.1 hi).1)).1;omega)]
     ·rw [listed_set_ne L i m (Ne.symm e2)];exact hcl j hj' m hm
   ·have hil:i < ops.size:=by
     have h2:=(Array.getElem?_eq_some_iff.1 (unlisted (mem_ready.1 hi).1)).1
     omega
    have hd:=hdep i (by omega) hil
    have hall:∀j,j < K→L.getD j false=true:=fun j hj=>
     reach_listed hcl ops.size i j (List.all_eq_true.1 hd j (List.mem_range.2 hj)) (fun k hk=>dep_of hi hk)
    have hL:=pre_of hz (by omega) hall (hg n L a w hI)
    have hn:n=K:=by
     have e:L.toList.countP (fun b=> !b)=ops.size - K:=by
      rw [hL]
      simp [pre,List.countP_append,List.countP_replicate]
     omega
    subst hn
    have hf':ops.size - n=fuel+1:=by omega
    subst hL
    have:=he a w hI
    rw [hf'] at this
    exact this.2 i hi
theorem wpAny_1 {fuel:Nat} {L:Array Bool} {i:Nat} {a:Act} {w:World} (hr:Region.ready md ops L=[i]) (h:wpOp P ops Q i (fun a' w'=>wpAny P md ops Q fuel (L.setIfInBounds i true) a' w') a w):wpAny P md ops Q (fuel+1) L a w:=
 ⟨fun e=>(by rw [hr] at e;cases e),fun j hj=>(by rw [hr] at hj;obtain rfl:=List.mem_singleton.1 hj;exact h)⟩
theorem st_assign {i t s:Nat} {K:Act→World→Prop} {a:Act} {w:World} {v:Value} (ho:(ops[i]?).map (fun o=>(o.dst,o.op,o.guard))=some (some t,.assign (.tmp s),none)) (hx:a.tmps.getD s undef=v) (h:K (a.put (some t) v) w):wpOp P ops Q i K a w:=
 let ⟨ty,pos,aft,ho⟩:=op_of ho;st_val ho rfl rfl (by show Result.ok (Next.value (a.tmps.getD s undef)) w=_;rw [hx]) h
theorem put_same (a:Act) (t:Nat) (v:Value) (h:t < a.tmps.size):(a.put (some t) v).tmps.getD t undef=v:=by simp [Act.put,h]
theorem put_other (a:Act) (t j:Nat) (v:Value) (h:j≠t):(a.put (some t) v).tmps.getD j undef=a.tmps.getD j undef:=by simp [Act.put,Array.getElem?_setIfInBounds_ne (Ne.symm h)]
theorem put_size (a:Act) (t:Nat) (v:Value):(a.put (some t) v).tmps.size=a.tmps.size:=by simp [Act.put]
end
inductive Kd where
 |box
 |nx (n:Int)
 |by8
 |own (v:Value)
 |sl (n:Nat) (c:Array Value)
 |ix (n:Nat) (c:Array Value)
 |bl (n:Nat)
def Kd.ok (b:Nat) (w:World) (v:Value):Kd→Prop
 | .box=>v=.pointer (some ⟨b,0,none⟩)
 | .nx n=>∃y:Int,(0≤y∧y < n)∧v=.int .i64 y
 | .by8=>∃y:Int,S.byt y∧v=.int .u8 y
 | .own u=>v=u
 | .sl n c=>∃bs,v=.slice (some ⟨bs,0,none⟩) n n∧bs≠b∧w.heap[bs]? =some (.cells c 5 (0,0))
 | .ix n c=>∃bs k,v=.pointer (some ⟨bs,k,none⟩)∧k < n∧bs≠b∧w.heap[bs]? =some (.cells c 5 (0,0))
 | .bl n=>∃(bs:Nat) (l:List Int) (c:Array Value),v=.slice (some ⟨bs,0,none⟩) n n∧bs≠b∧l.length=n∧(∀z∈l,S.byt z)∧c.toList=Fl csB l∧w.heap[bs]? =some (.cells c 5 (0,0))
theorem Kd.keep {b:Nat} {w w':World} {v:Value} (h:KeepsJ b w w'):∀{k:Kd},k.ok b w v→k.ok b w' v
 | .box,hk=>hk
 | .nx _,hk=>hk
 | .by8,hk=>hk
 | .own _,hk=>hk
 | .sl _ _,⟨bs,h1,h2,h3⟩=>⟨bs,h1,h2,(h bs h2 (Array.getElem?_eq_some_iff.1 h3).1).trans h3⟩
 | .ix _ _,⟨bs,k,h1,h0,h2,h3⟩=>⟨bs,k,h1,h0,h2,(h bs h2 (Array.getElem?_eq_some_iff.1 h3).1).trans h3⟩
 | .bl _,⟨bs,l,c,h1,h2,h4,h5,h6,h3⟩=>⟨bs,l,c,h1,h2,h4,h5,h6,(h bs h2 (Array.getElem?_eq_some_iff.1 h3).1).trans h3⟩
structure Mv (js:List Kd) (s0 b N:Nat) (w0:World) (a0:Act) (n:Nat) (L:Array Bool) (a:Act) (w:World):Prop where
 d:a.defers=a0.defers
 z:a.tmps.size=a0.tmps.size
 o:∀j,(j < s0∨s0+js.length≤j)→a.tmps.getD j undef=a0.tmps.getD j undef
 u:∃M,M≤N+2 * n∧Up w0 b M w
 g:∀j,js.length≤j→L.getD j false=false
 m:∀i k,js[i]? =some k→L.getD i false=true→k.ok b w (a.tmps.getD (s0+i) undef)
section
variable {js:List Kd} {s0 b N:Nat} {w0:World} {a0:Act} {n:Nat} {L:Array Bool} {a:Act} {w w':World} {ops:Array Oper} {md:Region.Mode} {i:Nat}
theorem Mv.put (h:Mv js s0 b N w0 a0 n L a w) (hs:s0+js.length≤a0.tmps.size) {k:Kd} (hk:js[i]? =some k) {v:Value} (hv:k.ok b w' v) (hw:KeepsJ b w w') {M:Nat} (hM:M≤N+2 * (n+1)) (hU:Up w0 b M w'):
 Mv js s0 b N w0 a0 (n+1) (L.setIfInBounds i true) (a.put (some (s0+i)) v) w':=by
 have hi:i < js.length:=(List.getElem?_eq_some_iff.1 hk).1
 refine ⟨h.d,(put_size ..).trans h.z,fun j hj=> ?_,⟨M,hM,hU⟩,fun j hj=> ?_,fun j k' hk' hl=> ?_⟩
 ·rw [put_other _ _ _ _ (by omega)];exact h.o j hj
 ·rw [listed_set_ne L i j (by omega)];exact h.g j hj
 ·by_cases e:j=i
  ·subst e
   rw [hk] at hk'
   cases hk'
   rw [put_same _ _ _ (by rw [h.z];omega)]
   exact hv
  ·rcases listed_set L i j hl with e' |hl'
   ·exact absurd e' e
   ·rw [put_other _ _ _ _ (by omega)]
    exact Kd.keep hw (h.m j k' hk' hl')
theorem Mv.same (h:Mv js s0 b N w0 a0 n L a w) (hs:s0+js.length≤a0.tmps.size) {k:Kd} (hk:js[i]? =some k) {v:Value} (hv:k.ok b w v):
 Mv js s0 b N w0 a0 (n+1) (L.setIfInBounds i true) (a.put (some (s0+i)) v) w:=by
 obtain ⟨M,hM,hU⟩:=h.u
 exact h.put hs hk hv (fun _ _ _=>rfl) (by omega) hU
theorem Mv.get (h:Mv js s0 b N w0 a0 n L a w) (hr:i∈Region.ready md ops L) {j:Nat} {k:Kd} (hk:js[j]? =some k) (hj:((ops[i]?).map fun o=>o.after.any fun e=>Region.binds md e && e.on==j)=some true):k.ok b w (a.tmps.getD (s0+j) undef):=h.m j k hk (ready_dep hr hj)
abbrev MStep (ops:Array Oper) (js:List Kd) (s0 b N:Nat) (w0:World) (a0:Act) (Q:Exit→Act→World→Prop) (n:Nat) (L:Array Bool) (a:Act) (w:World) (i:Nat):Prop:=
 wpOp Tryz.prog ops Q i (fun a' w'=>Mv js s0 b N w0 a0 (n+1) (L.setIfInBounds i true) a' w') a w
variable {Q:Exit→Act→World→Prop} {len cap:Nat} {aa:Option Addr}
theorem mp_move (h:Mv js s0 b N w0 a0 n L a w) (hs:s0+js.length≤a0.tmps.size) {s:Nat} {k:Kd} (hk:js[i]? =some k) (hl:s < s0) {v:Value} (hx:a0.tmps.getD s undef=v) (hv:k.ok b w v)
 (ho:(ops[i]?).map (fun o=>(o.dst,o.op,o.guard))=some (some (s0+i),.move (.tmp s),none)):MStep ops js s0 b N w0 a0 Q n L a w i:=
 st_move ho ((h.o s (.inl hl)).trans hx) (h.same hs hk hv)
theorem mp_next {c:Int} (c0:1≤c∧c≤65536) (h:Mv js s0 b N w0 a0 n L a w) (hs:s0+js.length≤a0.tmps.size) (hr:i∈Region.ready .any ops L) {j:Nat} (hk:js[i]? =some (.nx c))
 (ho:(ops[i]?).map (fun o=>(o.dst,o.op,o.guard))=some (some (s0+i),.call {callee:=.value (.func 26),args:=#[.tmp (s0+j),.const (.int .i64 c)],argTypes:=#[41,3]},none)) (hj:js[j]? =some .box) (hd:((ops[i]?).map fun o=>o.after.any fun e=>Region.binds .any e && e.on==j)=some true)
 (hb0:Nb w0 b aa len cap N) (hM:N≤90000000) (hn:n < 100):MStep ops js s0 b N w0 a0 Q n L a w i:=by
 obtain ⟨M,hM1,hU⟩:=h.u
 refine st_call2 ho (h.get hr hj hd) (by simp [go_sem]) ?_
 refine (nx_any b len cap M aa c c0.1 c0.2 (by omega) _ (hb0.up hU)).mono ?_
 rintro e w2 ⟨y,M2,hy0,hy1,hM2,rfl,hU2⟩
 exact ⟨_,rfl,h.put hs hk ⟨y,⟨hy0,hy1⟩,rfl⟩ hU2.keepsJ (M:=M2) (by omega) (hU.then hb0.lt hU2)⟩
theorem mp_slice {m:Nat} {c:Array Value} {parts:Array (Nat×Operand)} (h:Mv js s0 b N w0 a0 n L a w) (hs:s0+js.length≤a0.tmps.size) (hk:js[i]? =some (.sl m c))
 (ho:(ops[i]?).map (fun o=>(o.dst,o.op,o.guard))=some (some (s0+i),.buildSlice 30 m parts,none)) {vs:Array (Nat×Value)} (hp:(parts.map fun (i,x)=>(i,a.eval x))=vs) (hr:(Instr.buildSlice 30 m vs).run Tryz.prog w=.ok (.slice (some ⟨w.heap.size,0,none⟩) m m) (w.alloc (.cells c 5)))
 (hb0:Nb w0 b aa len cap N):MStep ops js s0 b N w0 a0 Q n L a w i:=by
 obtain ⟨M,hM1,hU⟩:=h.u
 have hbw:b < w.heap.size:=(hb0.up hU).lt
 exact st_buildSlice ho hp hr (h.put hs hk ⟨w.heap.size,rfl,by omega,heap_last w _⟩ (fun c _ hc=>heap_past w _ hc) (M:=M) (by omega) (hU.alloc _))
theorem mp_ix {m:Nat} {c:Array Value} {j1 j2:Nat} (h:Mv js s0 b N w0 a0 n L a w) (hs:s0+js.length≤a0.tmps.size) (hr:i∈Region.ready .any ops L) (hk:js[i]? =some (.ix m c))
 (ho:(ops[i]?).map (fun o=>(o.dst,o.op,o.guard))=some (some (s0+i),.indexAddr 30 (.tmp (s0+j1)) (.tmp (s0+j2)),none)) (h1:js[j1]? =some (.sl m c)) (d1:((ops[i]?).map fun o=>o.after.any fun e=>Region.binds .any e && e.on==j1)=some true) (h2:js[j2]? =some (.nx m)) (d2:((ops[i]?).map fun o=>o.after.any fun e=>Region.binds .any e && e.on==j2)=some true):MStep ops js s0 b N w0 a0 Q n L a w i:=by
 obtain ⟨bs,e,hne,hh⟩:=h.get hr h1 d1
 obtain ⟨y,hy,e'⟩:=h.get hr h2 d2
 obtain ⟨k,rfl⟩:∃k:Nat,y=(k:Int):=⟨y.toNat,by omega⟩
 have hk':k < m:=by omega
 refine st_indexAddr (v:=.pointer (some ⟨bs,k,none⟩)) ho e e' ?_ (h.same hs hk ⟨bs,k,rfl,hk',hne,hh⟩)
 have h6:(k:Int) < m:=hy.2
 simp [go_sem,h6]
theorem mp_load {m:Nat} {c:Array Value} {j:Nat} (h:Mv js s0 b N w0 a0 n L a w) (hs:s0+js.length≤a0.tmps.size) (hr:i∈Region.ready .any ops L) (hk:js[i]? =some .by8)
 (ho:(ops[i]?).map (fun o=>(o.dst,o.op,o.guard))=some (some (s0+i),.load 5 (.tmp (s0+j)),none)) (h1:js[j]? =some (.ix m c)) (d1:((ops[i]?).map fun o=>o.after.any fun e=>Region.binds .any e && e.on==j)=some true) (hc:∀k,k < m→∃z:Int,S.byt z∧c[k]? =some (.int .u8 z)):MStep ops js s0 b N w0 a0 Q n L a w i:=by
 obtain ⟨bs,k,e,hk',hne,hh⟩:=h.get hr h1 d1
 obtain ⟨z,hz,hc⟩:=hc k hk'
 have hq:w.cell? ⟨bs,k,none⟩=some (.int .u8 z):=by rw [cell_of_row w bs k _ _ _ hh];exact hc
 refine st_load (v:=.int .u8 z) ho e ?_ (h.same hs hk ⟨z,hz,rfl⟩)
 simp [go_sem,hq]
theorem mp_conv {c:Int} (hc:c≤256) {j:Nat} (h:Mv js s0 b N w0 a0 n L a w) (hs:s0+js.length≤a0.tmps.size) (hr:i∈Region.ready .any ops L) (hk:js[i]? =some .by8)
 (ho:(ops[i]?).map (fun o=>(o.dst,o.op,o.guard))=some (some (s0+i),.convert 3 5 (.tmp (s0+j)),none)) (h1:js[j]? =some (.nx c)) (d1:((ops[i]?).map fun o=>o.after.any fun e=>Region.binds .any e && e.on==j)=some true):MStep ops js s0 b N w0 a0 Q n L a w i:=by
 obtain ⟨y,hy,e⟩:=h.get hr h1 d1
 obtain ⟨hw1,hw2⟩:=wrap8 (y:=y) (by omega) (by omega)
 refine st_conv (v:=.int .u8 y) ho e ?_ (h.same hs hk ⟨y,⟨hy.1,by omega⟩,rfl⟩)
 simp [go_sem,hw1,hw2]
theorem mp_bytes3 {j1 j2 j3:Nat} (h:Mv js s0 b N w0 a0 n L a w) (hs:s0+js.length≤a0.tmps.size) (hr:i∈Region.ready .any ops L) (hk:js[i]? =some (.bl 3))
 (ho:(ops[i]?).map (fun o=>(o.dst,o.op,o.guard))=some (some (s0+i),.buildSlice 30 3 #[(0,.tmp (s0+j1)),(1,.tmp (s0+j2)),(2,.tmp (s0+j3))],none)) (h1:js[j1]? =some .by8) (d1:((ops[i]?).map fun o=>o.after.any fun e=>Region.binds .any e && e.on==j1)=some true) (h2:js[j2]? =some .by8) (d2:((ops[i]?).map fun o=>o.after.any fun e=>Region.binds .any e && e.on==j2)=some true) (h3:js[j3]? =some .by8) (d3:((ops[i]?).map fun o=>o.after.any fun e=>Region.binds .any e && e.on==j3)=some true)
 (hb0:Nb w0 b aa len cap N):MStep ops js s0 b N w0 a0 Q n L a w i:=by
 obtain ⟨y1,hy1,e1⟩:=h.get hr h1 d1
 obtain ⟨y2,hy2,e2⟩:=h.get hr h2 d2
 obtain ⟨y3,hy3,e3⟩:=h.get hr h3 d3
 obtain ⟨M,hM1,hU⟩:=h.u
 have hbw:b < w.heap.size:=(hb0.up hU).lt
 refine st_buildSlice (vs:=#[(0,.int .u8 y1),(1,.int .u8 y2),(2,.int .u8 y3)]) (v:=.slice (some ⟨w.heap.size,0,none⟩) 3 3) (w':=w.alloc (.cells #[.int .u8 y1,.int .u8 y2,.int .u8 y3] 5)) ho ?_ (by simp [go_sem]) (h.put hs hk ⟨w.heap.size,[y1,y2,y3],_,rfl,by omega,rfl,byt_cons hy1 (byt_cons hy2 (byt_1 hy3)),rfl,heap_last w _⟩ (fun c _ hc=>heap_past w _ hc) (M:=M) (by omega) (hU.alloc _))
 have q:∀t,a.eval (.tmp t)=a.tmps.getD t undef:=fun _=>rfl
 simp only [List.map_toArray,List.map_cons,List.map_nil,q,e1,e2,e3]
end
theorem arr_slots (t:Array Value) (n:Nat) (hz:t.size=n):t=((List.range n).map fun j=>t.getD j undef).toArray:=by
 apply Array.ext
 ·simp [hz]
 ·intro i h1 h2
  simp [Array.getD,h1]
end
section
variable {b:Nat} {cs tmps:Array Value} {w:World}
theorem ret_Instr {fn:Func} {p:Tmp} (hf:fn.results=#[.cell p 200]) (hp:tmps.getD p undef=.pointer (some ⟨b,0,none⟩)) (hr:rowOf w b=cs) (hs:cs.size=8):(results fn tmps).run Tryz.prog w=.ok (.agg cs) w:=
 ret_all hf Tryz.underlying200 (by kernel_rfl) (by decide) tmps w b cs hp hr hs
theorem ret3_Instr {fn:Func} {p0 p:Tmp} (hf:fn.results=#[.cell p 200,.tmp p0]) {v0:Value} (h0:tmps.getD p0 undef=v0) (hp:tmps.getD p undef=.pointer (some ⟨b,0,none⟩)) (hr:rowOf w b=cs) (hs:cs.size=8):(results fn tmps).run Tryz.prog w=.ok (.tuple #[.agg cs,v0]) w:=
 ret3_all hf Tryz.underlying200 (by kernel_rfl) (by decide) tmps w b cs v0 h0 hp hr hs
@[go_sem ↓] theorem load_Instr (a:Addr):loadVar 200 a=wholeVar 200 a:=by unfold wholeVar;rfl
@[go_sem ↓] theorem store_Instr (a:Addr) (v:Value):storeVar 200 a v=wholeSet 200 a v:=by unfold wholeSet;rfl
@[go_sem] theorem run_load_Instr (w:World) (b:Nat) (h:(rowOf w b).size=8):(wholeVar 200 ⟨b,0,none⟩).run Tryz.prog w=.ok (.agg (rowOf w b)) w:=
 run_all Tryz.underlying200 (by kernel_rfl) (by decide) w b h
@[go_sem] theorem run_store_Instr (w:World) (b:Nat) (cs:Array Value) (hc:cs.size=8) (h:(rowOf w b).size=8) (h1:ones cs.toList=true):(wholeSet 200 ⟨b,0,none⟩ (.agg cs)).run Tryz.prog w=.ok () (w.setRow b cs):=
 set_all (by kernel_rfl) w b cs hc (by decide) h h1
@[go_sem] theorem run_load_CPU_big (w:World) (b o:Nat) (h:28 < (rowOf w b).size∧28 < (rowOf w b).size∧o+28≤(rowOf w b).size):(wholeVar 56 ⟨b,o,none⟩).run Tryz.prog w=.ok (.agg (part8 o 28 (rowOf w b))) w:=
 run_part Tryz.underlying56 (by kernel_rfl) (by decide) w b o h.2.2
@[go_sem] theorem run_store_CPU_big (w:World) (b o:Nat) (cs:Array Value) (hc:cs.size=28) (h:28 < (rowOf w b).size∧28 < (rowOf w b).size∧o+28≤(rowOf w b).size) (h1:ones cs.toList=true):(wholeSet 56 ⟨b,o,none⟩ (.agg cs)).run Tryz.prog w=.ok () (w.setRow b (put8 o cs (rowOf w b))):=
 set_part (by kernel_rfl) w b o cs hc (by decide) h.2.2 h1
@[go_sem] theorem run_load_Regs_big (w:World) (b o:Nat) (h:28 < (rowOf w b).size∧16 < (rowOf w b).size∧o+16≤(rowOf w b).size):(wholeVar 54 ⟨b,o,none⟩).run Tryz.prog w=.ok (.agg (part8 o 16 (rowOf w b))) w:=
 run_part Tryz.underlying54 (by kernel_rfl) (by decide) w b o h.2.2
@[go_sem] theorem run_store_Regs_big (w:World) (b o:Nat) (cs:Array Value) (hc:cs.size=16) (h:28 < (rowOf w b).size∧16 < (rowOf w b).size∧o+16≤(rowOf w b).size) (h1:ones cs.toList=true):(wholeSet 54 ⟨b,o,none⟩ (.agg cs)).run Tryz.prog w=.ok () (w.setRow b (put8 o cs (rowOf w b))):=
 set_part (by kernel_rfl) w b o cs hc (by decide) h.2.2 h1
@[go_sem] theorem run_load_PIC_big (w:World) (b o:Nat) (h:28 < (rowOf w b).size∧20 < (rowOf w b).size∧o+20≤(rowOf w b).size):(wholeVar 62 ⟨b,o,none⟩).run Tryz.prog w=.ok (.agg (part8 o 20 (rowOf w b))) w:=
 run_part Tryz.underlying62 (by kernel_rfl) (by decide) w b o h.2.2
@[go_sem] theorem run_store_PIC_big (w:World) (b o:Nat) (cs:Array Value) (hc:cs.size=20) (h:28 < (rowOf w b).size∧20 < (rowOf w b).size∧o+20≤(rowOf w b).size) (h1:ones cs.toList=true):(wholeSet 62 ⟨b,o,none⟩ (.agg cs)).run Tryz.prog w=.ok () (w.setRow b (put8 o cs (rowOf w b))):=
 set_part (by kernel_rfl) w b o cs hc (by decide) h.2.2 h1
@[go_sem] theorem run_load_Lines_big (w:World) (b o:Nat) (h:28 < (rowOf w b).size∧9 < (rowOf w b).size∧o+9≤(rowOf w b).size):(wholeVar 95 ⟨b,o,none⟩).run Tryz.prog w=.ok (.agg (part8 o 9 (rowOf w b))) w:=
 run_part Tryz.underlying95 (by kernel_rfl) (by decide) w b o h.2.2
@[go_sem] theorem run_store_Lines_big (w:World) (b o:Nat) (cs:Array Value) (hc:cs.size=9) (h:28 < (rowOf w b).size∧9 < (rowOf w b).size∧o+9≤(rowOf w b).size) (h1:ones cs.toList=true):(wholeSet 95 ⟨b,o,none⟩ (.agg cs)).run Tryz.prog w=.ok () (w.setRow b (put8 o cs (rowOf w b))):=
 set_part (by kernel_rfl) w b o cs hc (by decide) h.2.2 h1
@[go_sem] theorem run_load_Core_big (w:World) (b o:Nat) (h:28 < (rowOf w b).size∧36 < (rowOf w b).size∧o+36≤(rowOf w b).size):(wholeVar 60 ⟨b,o,none⟩).run Tryz.prog w=.ok (.agg (part8 o 36 (rowOf w b))) w:=
 run_part Tryz.underlying60 (by kernel_rfl) (by decide) w b o h.2.2
@[go_sem] theorem run_store_Core_big (w:World) (b o:Nat) (cs:Array Value) (hc:cs.size=36) (h:28 < (rowOf w b).size∧36 < (rowOf w b).size∧o+36≤(rowOf w b).size) (h1:ones cs.toList=true):(wholeSet 60 ⟨b,o,none⟩ (.agg cs)).run Tryz.prog w=.ok () (w.setRow b (put8 o cs (rowOf w b))):=
 set_part (by kernel_rfl) w b o cs hc (by decide) h.2.2 h1
theorem ret_Core {fn:Func} {p:Tmp} (hf:fn.results=#[.cell p 60]) (hp:tmps.getD p undef=.pointer (some ⟨b,0,none⟩)) (hr:rowOf w b=cs) (hs:cs.size=36):(results fn tmps).run Tryz.prog w=.ok (.agg cs) w:=
 ret_all hf Tryz.underlying60 (by kernel_rfl) (by decide) tmps w b cs hp hr hs
@[go_sem ↓] theorem load_Core (a:Addr):loadVar 60 a=wholeVar 60 a:=by unfold wholeVar;rfl
@[go_sem ↓] theorem store_Core (a:Addr) (v:Value):storeVar 60 a v=wholeSet 60 a v:=by unfold wholeSet;rfl
@[go_sem] theorem run_load_Core (w:World) (b:Nat) (h:(rowOf w b).size=36):(wholeVar 60 ⟨b,0,none⟩).run Tryz.prog w=.ok (.agg (rowOf w b)) w:=
 run_all Tryz.underlying60 (by kernel_rfl) (by decide) w b h
@[go_sem] theorem run_store_Core (w:World) (b:Nat) (cs:Array Value) (hc:cs.size=36) (h:(rowOf w b).size=36) (h1:ones cs.toList=true):(wholeSet 60 ⟨b,0,none⟩ (.agg cs)).run Tryz.prog w=.ok () (w.setRow b cs):=
 set_all (by kernel_rfl) w b cs hc (by decide) h h1
end
section
open Go.ChangeShapes Go.WideShapes Go.ChangeAt Go.RowKit Go.Deep
variable {a:Act} {b j len n o:Nat} {pr:List Nat} {w w':World}
structure S.Cy where
 k:Int
 a:Int
 d:Int
 s:Int
instance:Inhabited S.Cy:=⟨⟨0,0,0,0⟩⟩
def S.Cy.cs (x:S.Cy):Array Value:=#[.int .i64 x.k,.int .u16 x.a,.int .u8 x.d,.int .i64 x.s]
structure S.Cy.Ok (x:S.Cy):Prop where
 k:1≤x.k∧x.k≤12
 a:0≤x.a∧x.a < 65536
 d:0≤x.d∧x.d < 256
 s:3≤x.s∧x.s≤6
structure S.Ou where
 p:Int
 v:Int
instance:Inhabited S.Ou:=⟨⟨0,0⟩⟩
def S.Ou.cs (x:S.Ou):Array Value:=#[.int .u8 x.p,.int .u8 x.v]
structure S.Ev where
 l:List Value
 hl:l.length=18
 h1:∀u∈l,u.oneCell'=true
def S.by (z:Int):Prop:=0≤z∧z < 256
def S.wd (z:Int):Prop:=0≤z∧z < 65536
structure S.OkR (A B C D E H L SP PC:Int):Prop where
 a:0≤A∧A < 256
 b:0≤B∧B < 256
 c:0≤C∧C < 256
 d:0≤D∧D < 256
 e:0≤E∧E < 256
 h:0≤H∧H < 256
 l:0≤L∧L < 256
 sp:0≤SP∧SP < 65536
 pc:0≤PC∧PC < 65536
def S.Cp.Ok (c:S.Cp):Prop:=S.OkR c.A c.B c.C c.D c.E c.H c.L c.SP c.PC∧0≤c.Ma∧c.Ma < 256
def csC (x:S.Cy):List Value:=x.cs.toList
theorem csC_len:∀x,(csC x).length=4:=fun _=>rfl
theorem csC_one:∀x,∀u∈csC x,u.oneCell'=true:=by
 intro x u hu
 simp only [csC,S.Cy.cs,List.mem_cons,List.not_mem_nil,or_false] at hu
 rcases hu with rfl|rfl|rfl|rfl<;>rfl
def S.Cy.zero:S.Cy:=⟨0,0,0,0⟩
def csU (x:S.Cp):List Value:=x.cs.toList
theorem csU_len:∀x,(csU x).length=28:=fun _=>rfl
theorem csU_one:∀x,∀u∈csU x,u.oneCell'=true:=by
 intro x u hu
 simp only [csU,S.Cp.cs,List.mem_cons,List.not_mem_nil,or_false] at hu
 rcases hu with rfl|rfl|rfl|rfl|rfl|rfl|rfl|rfl|rfl|rfl|rfl|rfl|rfl|rfl|rfl|rfl|rfl|rfl|rfl|rfl|rfl|rfl|rfl|rfl|rfl|rfl|rfl|rfl<;>rfl
def S.Cp.zero:S.Cp:=⟨0,0,0,0,0,0,0,0,false,false,false,false,false,false,false,0,0,false,false,false,0,false,false,false,false,false,false,false⟩
instance:Inhabited S.Cp:=⟨S.Cp.zero⟩
def csO (x:S.Ou):List Value:=x.cs.toList
theorem csO_len:∀x,(csO x).length=2:=fun _=>rfl
theorem csO_one:∀x,∀u∈csO x,u.oneCell'=true:=by
 intro x u hu
 simp only [csO,S.Ou.cs,List.mem_cons,List.not_mem_nil,or_false] at hu
 rcases hu with rfl|rfl<;>rfl
def S.Ou.zero:S.Ou:=⟨0,0⟩
def csV (x:S.Ev):List Value:=x.l
theorem csV_len:∀x,(csV x).length=18:=fun x=>x.hl
theorem csV_one:∀x,∀u∈csV x,u.oneCell'=true:=fun x=>x.h1
def S.Ev.zl:List Value:=[.int .i64 0,.int .i64 0,.slice none 0 0,.bool false,.bool false,.bool false,.bool false,.bool false,.bool false,.bool false,.bool false,.bool false,.bool false,.bool false,.bool false,.bool false,.int .u16 0,.int .u8 0]
theorem sizeC:(Tryz.prog.info? 58).map (·.size)=some 4:=by kernel_rfl
theorem infoC:(Tryz.prog.info? 58).map (fun i=>(i.zero,i.size,i.bytes))=some (some (.agg S.Cy.zero.cs),4,24):=by kernel_rfl
theorem sizeU:(Tryz.prog.info? 56).map (·.size)=some 28:=by kernel_rfl
theorem infoU:(Tryz.prog.info? 56).map (fun i=>(i.zero,i.size,i.bytes))=some (some (.agg S.Cp.zero.cs),28,40):=by kernel_rfl
theorem sizeO:(Tryz.prog.info? 194).map (·.size)=some 2:=by kernel_rfl
theorem infoO:(Tryz.prog.info? 194).map (fun i=>(i.zero,i.size,i.bytes))=some (some (.agg S.Ou.zero.cs),2,2):=by kernel_rfl
theorem sizeV:(Tryz.prog.info? 109).map (·.size)=some 18:=by kernel_rfl
theorem infoV:(Tryz.prog.info? 109).map (fun i=>(i.zero,i.size,i.bytes))=some (some (.agg S.Ev.zl.toArray),18,64):=by kernel_rfl
abbrev HeldC:=HeldG csC
abbrev OwnsC:=OwnsG csC 4 58
theorem q1MK {P:Prop} (h:P:=by
 rcases k4 with e|e
 ·exact .inl (e▸hg)
 ·rw [e] at hg
  injection hg with hg
  have:(w.alloc (.cells c t)).heap.size=w.heap.size+1:=Array.size_push ..
  exact .inr (by omega)):P:=h
theorem wpList_appC1_at {ops:Array Oper} {rest:List Oper} {o:Oper} {Q:Exit→Act→World→Prop} (hgd:o.guard=none) (s x:Operand)
 (ho:o.op=.call {callee:=.builtin .append,args:=#[s,x],argTypes:=#[220,220]})
 (base:Nat) (v:Value) (d:List S.Cy) (hv:a.eval s=v) (y:S.Cy) (c:Array Value) (t:TypeId) (b:Nat) (hx:a.eval x=.slice (some ⟨b,0,none⟩) 1 1) (hc:c.toList=csC y) (hb:b=w.heap.size) (hown:OwnsC w base v d)
 (hsz:d.length+1≤4000000000000) (hbase:base≤w.heap.size)
 (h:∀v' w',OwnsC w' base v' (d++[y])→w.grownBy w' v.ownBlock→(∀g,v'.ownBlock=some g→v.ownBlock=some g∨w.heap.size < g)→wpList Tryz.prog ops Q rest (a.put o.dst v') w'):wpList Tryz.prog ops Q (o::rest) a (w.alloc (.cells c t)):=by
 subst hb
 obtain ⟨i0,hi,hz0,hz1,hz2⟩:=info_parts infoC
 refine wpList_append_own_at _ hgd s x 220 ho base 58 i0 _ 4 _ Tryz.underlying220 hi hz0 hz1 hz2 rfl (by decide) v d.length (Fl csC d) hv (hown.alloc _) ⟨w.heap.size,0,none⟩ 1 1 (Fl csC [y]) hx (by rw [Fl_len csC_len];rfl) (at_new w t c [y] (by rw [Fl_one];exact hc) _ rfl) (Fl_oneCell csC_one [y]) (by unfold maxLen;omega) (by omega) (by simp;omega) ?_
 intro v' w' k1 k2 k3 k4
 refine h v' w' ?_ (World.grownBy.trans (World.grownBy_alloc w _ _) k2) (fun g hg=> ?_)
 ·unfold OwnsC OwnsG
  rw [List.length_append,Fl_app]
  exact k1
 ·exact q1MK
abbrev HeldU:=HeldG csU
abbrev OwnsU:=OwnsG csU 28 56
abbrev HeldO:=HeldG csO
abbrev OwnsO:=OwnsG csO 2 194
abbrev HeldV:=HeldG csV
abbrev OwnsV:=OwnsG csV 18 109
theorem AtC.load {d:List S.Cy} (h:AtG csC w b o d) {x:S.Cy} (hj:d[j]? =some x) (p:Nat) (hp:p=o+j * 4):(wholeVar 58 ⟨b,p,none⟩).run Tryz.prog w=.ok (.agg x.cs) w:=by
 subst hp
 exact whole_cells Tryz.underlying58 rfl sizeC w b _ x.cs rfl fun k u hu=>h.el csC_len hj (by simpa [csC] using hu)
theorem AtU.load {d:List S.Cp} (h:AtG csU w b o d) {x:S.Cp} (hj:d[j]? =some x) (p:Nat) (hp:p=o+j * 28):(wholeVar 56 ⟨b,p,none⟩).run Tryz.prog w=.ok (.agg x.cs) w:=by
 subst hp
 exact whole_cells Tryz.underlying56 rfl sizeU w b _ x.cs rfl fun k u hu=>h.el csU_len hj (by simpa [csU] using hu)
theorem AtO.load {d:List S.Ou} (h:AtG csO w b o d) {x:S.Ou} (hj:d[j]? =some x) (p:Nat) (hp:p=o+j * 2):(wholeVar 194 ⟨b,p,none⟩).run Tryz.prog w=.ok (.agg x.cs) w:=by
 subst hp
 exact whole_cells Tryz.underlying194 rfl sizeO w b _ x.cs rfl fun k u hu=>h.el csO_len hj (by simpa [csO] using hu)
def Keeps (n:Nat) (pr:List Nat) (w w':World):Prop:=Below n w w'∧∀k∈pr,k < w.heap.size→w'.heap[k]? =w.heap[k]?
theorem Keeps.refl (n:Nat) (pr:List Nat) (w:World):Keeps n pr w w:=⟨⟨rfl,rfl,rfl,Nat.le_refl _,fun _ _=>rfl⟩,fun _ _ _=>rfl⟩
theorem Keeps.size (h:Keeps n pr w w'):w.heap.size≤w'.heap.size:=h.1.size
theorem Keeps.trans {w1 w2:World} (h:Keeps n pr w w1) (k:Keeps n pr w1 w2):Keeps n pr w w2:=
 ⟨⟨k.1.os.trans h.1.os,k.1.tape.trans h.1.tape,k.1.output.trans h.1.output,Nat.le_trans h.size k.size,fun i hi=>(k.1.block i hi).trans (h.1.block i hi)⟩,fun i hi hs=>(k.2 i hi (by have:=h.size;omega)).trans (h.2 i hi hs)⟩
theorem Keeps.of_adds (h:Adds w w') (hn:n≤w.heap.size):Keeps n pr w w':=by
 have hb:=h.below
 exact ⟨⟨hb.os,hb.tape,hb.output,hb.size,fun k hk=>hb.block k (by omega)⟩,fun k _ hk=>hb.block k hk⟩
theorem Keeps.of_grown {row:Option Nat} (h:w.grownBy w' row) (hn:n≤w.heap.size) (h1:∀g,row=some g→n≤g∧g∉pr):Keeps n pr w w':=
 ⟨⟨h.os,h.tape,h.output,h.size,fun k hk=>h.block k (by omega) (fun e=>by have:=(h1 k e.symm).1;omega)⟩,fun k hk hs=>h.block k hs (fun e=>(h1 k e.symm).2 hk)⟩
theorem Keeps.sub {m:Nat} {ps:List Nat} (h:Keeps n pr w w') (hm:m≤n) (hs:∀k∈ps,k∈pr∨k < n):Keeps m ps w w':=
 ⟨⟨h.1.os,h.1.tape,h.1.output,h.1.size,fun k hk=>h.1.block k (by omega)⟩,fun k hk hl=>by
   rcases hs k hk with q|q
   ·exact h.2 k q hl
   ·exact h.1.block k q⟩
theorem Keeps.row (h:Keeps n pr w w') {k:Nat} (hk:k∈pr) (hs:k < w.heap.size):rowOf w' k=rowOf w k:=rowOf_eq (h.2 k hk hs)
theorem Keeps.setCell (w:World) (b i:Nat) (v:Value) (hn:n≤b) (hp:b∉pr):Keeps n pr w (w.setCell ⟨b,i,none⟩ v):=
 ⟨⟨rfl,rfl,rfl,by simp,fun k hk=>heap_setCell_other w ⟨b,i,none⟩ k _ (by show k≠b;omega)⟩,fun k hk _=>heap_setCell_other w ⟨b,i,none⟩ k _ (fun e=>hp (by subst e;exact hk))⟩
def LowG {α:Type} (cs:α→List Value) (n:Nat) (w:World) (a:Option Addr) (len:Nat) (d:List α):Prop:=HeldG cs w a len d∧∀b o,a=some ⟨b,o,none⟩→0 < len→b < n
theorem LowG.below {α:Type} {cs:α→List Value} {a:Option Addr} {d:List α} (h:LowG cs n w a len d) (k:Below n w w'):LowG cs n w' a len d:=
 ⟨⟨h.1.1,h.1.2.1,fun hl=>by
   obtain ⟨b,o,ha,hb,hat⟩:=h.1.2.2 hl
   have hbn:=h.2 b o ha hl
   exact ⟨b,o,ha,by have:=k.size;omega,hat.keep fun i=>World.cell?_of_block (k.block b hbn)⟩⟩,h.2⟩
theorem LowG.keeps {α:Type} {cs:α→List Value} {a:Option Addr} {d:List α} (h:LowG cs n w a len d) (k:Keeps n pr w w'):LowG cs n w' a len d:=h.below k.1
theorem LowG.of {α:Type} {cs:α→List Value} {a:Option Addr} {d:List α} (h:HeldG cs w a len d):LowG cs w.heap.size w a len d:=
 ⟨h,fun b o ha hl=>by
   obtain ⟨b',o',ha',hb,_⟩:=h.2.2 hl
   rw [ha'] at ha
   injection ha with ha
   injection ha with h1
   omega⟩
end
section
variable {b n:Nat} {cs tmps:Array Value} {pr:List Nat} {w w':World}
theorem heap_setRow_same (h:0 < (rowOf w b).size) (cs:Array Value):∃t,(w.setRow b cs).heap[b]? =some (.cells cs t (0,0)):=by
 obtain ⟨t,ht⟩:=rowOf_some h
 exact ⟨t,setRow_heap w b _ _ t (0,0) ht⟩
theorem heap_setRow_other (w:World) (b k:Nat) (cs:Array Value) (h:k≠b):(w.setRow b cs).heap[k]? =w.heap[k]? :=by
 have h':¬b=k:=fun e=>h e.symm
 simp [World.setRow,Array.getElem?_modify,h']
theorem rowOf_setRow_same (w:World) (b:Nat) (cs:Array Value) (h:0 < (rowOf w b).size):rowOf (w.setRow b cs) b=cs:=by
 obtain ⟨t,ht⟩:=heap_setRow_same h cs
 unfold rowOf;rw [ht];rfl
theorem rowOf_setRow_other (w:World) (b k:Nat) (cs:Array Value) (h:k≠b):rowOf (w.setRow b cs) k=rowOf w k:=rowOf_eq (heap_setRow_other w b k cs h)
@[go_sem] theorem size_setRow (w:World) (b:Nat) (cs:Array Value):(w.setRow b cs).heap.size=w.heap.size:=by simp [World.setRow]
theorem Keeps.setRow (w:World) (b:Nat) (cs:Array Value) (hn:n≤b) (hp:b∉pr):Keeps n pr w (w.setRow b cs):=
 ⟨⟨rfl,rfl,rfl,by rw [size_setRow];exact Nat.le_refl _,fun k hk=>heap_setRow_other w b k cs (by omega)⟩,fun k hk _=>heap_setRow_other w b k cs (fun e=>hp (e▸hk))⟩
theorem Keeps.drewN (h:Keeps n pr w w'):Keeps n pr w w'.drew:=⟨⟨h.1.os,h.1.tape,h.1.output,h.1.size,h.1.block⟩,h.2⟩
theorem Keeps.adds (h:Keeps n [] w w') (hn:n=w.heap.size):Adds w w':=Adds.of_below (hn▸h.1)
theorem Keeps.nil (h:Keeps n pr w w'):Keeps n [] w w':=⟨h.1,fun k hk=>by cases hk⟩
theorem ret3_Cycle {fn:Func} {p0 p:Tmp} (hf:fn.results=#[.cell p 58,.tmp p0]) {v0:Value} (h0:tmps.getD p0 undef=v0) (hp:tmps.getD p undef=.pointer (some ⟨b,0,none⟩)) (hr:rowOf w b=cs) (hs:cs.size=4):(results fn tmps).run Tryz.prog w=.ok (.tuple #[.agg cs,v0]) w:=
 ret3_all hf Tryz.underlying58 (by kernel_rfl) (by decide) tmps w b cs v0 h0 hp hr hs
theorem ret_Cycle {fn:Func} {p:Tmp} (hf:fn.results=#[.cell p 58]) (hp:tmps.getD p undef=.pointer (some ⟨b,0,none⟩)) (hr:rowOf w b=cs) (hs:cs.size=4):(results fn tmps).run Tryz.prog w=.ok (.agg cs) w:=
 ret_all hf Tryz.underlying58 (by kernel_rfl) (by decide) tmps w b cs hp hr hs
end
section
def S.stB (n:Int):Int:=
 if n=1 then 162 else if n=2 then 130 else if n=4 then 134 else if n=5 then 4 else if n=6 then 66 else if n=7 then 16 else
 if n=8 then 35 else if n=9 then 3 else if n=10 then 138 else 0
def S.stM (n:Int):Bool:=decide (n=6)||decide (n=7)||decide (n=8)||decide (n=9)||decide (n=12)
def S.st1 (n:Int):Bool:=decide (n=1)||decide (n=2)||decide (n=4)||decide (n=6)||decide (n=8)||decide (n=9)||decide (n=11)||decide (n=12)
def S.st0 (n:Int):Bool:=decide (n=1)||decide (n=3)||decide (n=5)||decide (n=7)||decide (n=8)||decide (n=9)||decide (n=12)
def S.stR (n:Int):Bool:=decide (n=1)||decide (n=2)||decide (n=4)||decide (n=6)||decide (n=8)||decide (n=9)
def S.stW (n:Int):Bool:=decide (n=3)||decide (n=5)||decide (n=7)
theorem S.stR_not (n:Int) (h:S.stR n=true):S.stW n=false:=by
 simp only [S.stR,Bool.or_eq_true,decide_eq_true_eq] at h
 rcases h with ((((rfl|rfl)|rfl)|rfl)|rfl)|rfl<;>rfl
theorem S.stB_no (n:Int) (h1:¬n=1) (h2:¬n=2) (h3:¬n=3) (h4:¬n=4) (h5:¬n=5) (h6:¬n=6) (h7:¬n=7) (h8:¬n=8) (h9:¬n=9) (h10:¬n=10) (h11:¬n=11) (h12:¬n=12):S.stB n=0:=by
 simp [S.stB, *]
theorem S.stM_no (n:Int) (h1:¬n=1) (h2:¬n=2) (h3:¬n=3) (h4:¬n=4) (h5:¬n=5) (h6:¬n=6) (h7:¬n=7) (h8:¬n=8) (h9:¬n=9) (h10:¬n=10) (h11:¬n=11) (h12:¬n=12):S.stM n=false:=by
 simp [S.stM, *]
theorem S.st1_no (n:Int) (h1:¬n=1) (h2:¬n=2) (h3:¬n=3) (h4:¬n=4) (h5:¬n=5) (h6:¬n=6) (h7:¬n=7) (h8:¬n=8) (h9:¬n=9) (h10:¬n=10) (h11:¬n=11) (h12:¬n=12):S.st1 n=false:=by
 simp [S.st1, *]
theorem S.st0_no (n:Int) (h1:¬n=1) (h2:¬n=2) (h3:¬n=3) (h4:¬n=4) (h5:¬n=5) (h6:¬n=6) (h7:¬n=7) (h8:¬n=8) (h9:¬n=9) (h10:¬n=10) (h11:¬n=11) (h12:¬n=12):S.st0 n=false:=by
 simp [S.st0, *]
theorem S.stR_no (n:Int) (h1:¬n=1) (h2:¬n=2) (h3:¬n=3) (h4:¬n=4) (h5:¬n=5) (h6:¬n=6) (h7:¬n=7) (h8:¬n=8) (h9:¬n=9) (h10:¬n=10) (h11:¬n=11) (h12:¬n=12):S.stR n=false:=by
 simp [S.stR, *]
theorem S.stW_no (n:Int) (h1:¬n=1) (h2:¬n=2) (h3:¬n=3) (h4:¬n=4) (h5:¬n=5) (h6:¬n=6) (h7:¬n=7) (h8:¬n=8) (h9:¬n=9) (h10:¬n=10) (h11:¬n=11) (h12:¬n=12):S.stW n=false:=by
 simp [S.stW, *]
end
namespace S
structure It where
 k:Int
 c:Int
 a:Int
 d:Int
 s:Int
 w:Int
 n:Int
 e:Bool
 o:Bool
instance:Inhabited It:=⟨⟨0,0,0,0,0,0,0,false,false⟩⟩
def It.cs (x:It):Array Value:=#[.int .i64 x.k,.int .i64 x.c,.int .u16 x.a,.int .u8 x.d,.int .i64 x.s,.int .i64 x.w,.int .i64 x.n,.bool x.e,.bool x.o]
structure Pn where
 st:Int
 ad:Int
 da:Int
 sy:Bool
 db:Bool
 wa:Bool
 it:Bool
 al:Bool
 im:Bool
 s1:Bool
 s0:Bool
 rd:Bool
 ia:Bool
 so:Bool
 wr:Bool
 hl:Bool
 fl:Bool
instance:Inhabited Pn:=⟨⟨0,0,0,false,false,false,false,false,false,false,false,false,false,false,false,false,false⟩⟩
def Pn.cs (x:Pn):Array Value:=#[.int .i64 x.st,.int .u16 x.ad,.int .u8 x.da,.bool x.sy,.bool x.db,.bool x.wa,.bool x.it,.bool x.al,.bool x.im,.bool x.s1,.bool x.s0,.bool x.rd,.bool x.ia,.bool x.so,.bool x.wr,.bool x.hl,.bool x.fl]
def tr (c d s:Int):Int:=if s=2∨s=7 then (if stW c then d else 0) else if s=3 then (if stR c||stW c then d else 0) else 0
def ack (c:Int):Bool:=c==8||c==9
def pn (on:Bool) (x:It) (s:Int):Pn:=
 if s=8 then ⟨8,0,0,false,false,false, !on && x.e,false,false,false,false,false,false,on && x.o,false,true,true⟩
 else if s=9 then ⟨9,if on then 0 else x.a,0,false,false, !on, !on && x.e,false,false,false,false,false,false,on && x.o,false,false,on⟩
 else if s=10 then ⟨10,0,0,false,false,false, !on && x.e,false,false,false,false,false,false,on && x.o,false,false,on⟩
 else if on then ⟨s,x.a,if s=1 then x.a % 256 else tr x.c x.d s,false,false,false,false,s==1,stM x.c,st1 x.c,st0 x.c,(s==2||s==7||s==3) && (stR x.c && !ack x.c),(s==2||s==7||s==3) && ack x.c,x.o,(s==2||s==7||s==3) && stW x.c,false,false⟩
 else ⟨s,x.a,if s=1 then stB x.c else tr x.c x.d s,s==1 && (x.c !=11 && x.c !=12),(s==2||s==7||s==3) && stR x.c,s==7,x.e,false,false,false,false,false,false,false,(s==7||s==3) && stW x.c,false,false⟩
def fit (k s:Int):Prop:=(k=1∧1≤s∧s≤7)∨(k=2∧s=8)∨(k=3∧s=9)∨(k=4∧s=10)
def lim (n:Int):Int:=min (max n 0) 65536
theorem lim_bd (n:Int):0≤lim n∧lim n≤65536:=by unfold lim;omega
def cst (s:Int):Int:=min (max s 3) 6
def cnt (n s:Int):Int:=min (max n 1) (cst s)
theorem cst_bd (s:Int):3≤cst s∧cst s≤6:=by unfold cst;omega
theorem cnt_bd (n s:Int):1≤cnt n s∧cnt n s≤6:=by have:=cst_bd s;unfold cnt;omega
def all7 (w:Int):List (Int×Int):=[(1,1),(2,1),(7,w),(3,1),(4,1),(5,1),(6,1)]
def part7 (w:Int) (j:Nat):List (Int×Int):=(all7 w).take (if j < 2 then j else j+1)
def sps (x:It):List (Int×Int):=
 if x.k=1 then part7 (lim x.w) (cnt x.n x.s).toNat
 else if x.k=2 then [(8,lim x.n)] else if x.k=3 then [(9,lim x.n)] else if x.k=4 then [(10,lim x.n)] else []
def rep (p:Int×Int):List Int:=List.replicate p.2.toNat p.1
def reps (l:List (Int×Int)):List Int:=l.flatMap rep
def sts (x:It):List Int:=reps (sps x)
def ex1 (on:Bool) (x:It):List Pn:=(sts x).map (pn on x)
def ex (on:Bool) (l:List It):List Pn:=l.flatMap (ex1 on)
theorem ex_app (on:Bool) (l m:List It):ex on (l++m)=ex on l++ex on m:=List.flatMap_append
theorem part7_mem {w:Int} {j:Nat}:∀p∈part7 w j,p∈all7 w:=fun p h=>List.mem_of_mem_take h
theorem sps_fit (x:It):∀p∈sps x,fit x.k p.1∧0≤p.2∧p.2≤65536:=by
 intro p hp
 unfold sps at hp
 split at hp
 ·rename_i hk
  have:=part7_mem p hp
  have hw:=lim_bd x.w
  simp only [all7,List.mem_cons,List.not_mem_nil,or_false] at this
  rcases this with rfl|rfl|rfl|rfl|rfl|rfl|rfl
  all_goals (refine ⟨.inl ⟨hk,?_,?_⟩,?_,?_⟩<;>(simp only [];omega))
 ·have hn:=lim_bd x.n
  split at hp
  ·rename_i hk;simp at hp;subst hp;exact ⟨.inr (.inl ⟨hk,rfl⟩),hn.1,hn.2⟩
  ·split at hp
   ·rename_i hk;simp at hp;subst hp;exact ⟨.inr (.inr (.inl ⟨hk,rfl⟩)),hn.1,hn.2⟩
   ·split at hp
    ·rename_i hk;simp at hp;subst hp;exact ⟨.inr (.inr (.inr ⟨hk,rfl⟩)),hn.1,hn.2⟩
    ·simp at hp
theorem sps_len (x:It):(sps x).length≤7:=by
 unfold sps
 split
 ·have:=cnt_bd x.n x.s
  simp only [part7,all7,List.length_take];simp;omega
 ·split
  ·simp
  ·split
   ·simp
   ·split<;>simp
theorem reps_len:∀l:List (Int×Int),(∀p∈l,p.2≤65536)→(reps l).length≤l.length * 65536
 |[],_=>by simp [reps]
 |p::l,h=>by
  have h1:=reps_len l (fun q hq=>h q (by simp [hq]))
  have h2:=h p (by simp)
  unfold reps at h1⊢
  rw [List.flatMap_cons,List.length_append]
  simp only [rep,List.length_replicate,List.length_cons] at h1⊢
  omega
theorem sts_len (x:It):(sts x).length≤458752:=by
 have h1:=reps_len (sps x) (fun p hp=>(sps_fit x p hp).2.2)
 have h2:=sps_len x
 unfold sts;omega
theorem ex1_len (on:Bool) (x:It):(ex1 on x).length≤458752:=by unfold ex1;rw [List.length_map];exact sts_len x
theorem ex_len (on:Bool):∀l:List It,(ex on l).length≤l.length * 458752
 |[]=>by simp [ex]
 |x::l=>by
  have h1:=ex_len on l
  have h2:=ex1_len on x
  unfold ex at h1⊢
  rw [List.flatMap_cons,List.length_append,List.length_cons];omega
theorem flatMap_parts {α β:Type} (f:α→List β):∀(l:List α) (i:Nat) (x:α),l[i]? =some x→l.flatMap f=(l.take i).flatMap f++(f x++(l.drop (i+1)).flatMap f)
 |[],i,x,h=>by simp at h
 |y::l,0,x,h=>by simp at h;subst h;simp
 |y::l,i+1,x,h=>by
  have:=flatMap_parts f l i x (by simpa using h)
  rw [List.flatMap_cons,this];simp
theorem flatMap_step {α β:Type} (f:α→List β) (l:List α) (i:Nat) (x:α) (h:l[i]? =some x):(l.take (i+1)).flatMap f=(l.take i).flatMap f++f x:=by
 rw [List.take_add_one,h,List.flatMap_append];simp
def got (on:Bool) (l:List It) (i:Nat) (x:It) (j:Nat) (p:Int×Int) (m:Nat):List Pn:=
 ex on (l.take i)++((reps ((sps x).take j)).map (pn on x)++List.replicate m (pn on x p.1))
def gotj (on:Bool) (l:List It) (i:Nat) (x:It) (j:Nat):List Pn:=ex on (l.take i)++(reps ((sps x).take j)).map (pn on x)
theorem got_zero (on:Bool) (l:List It) (i:Nat) (x:It) (j:Nat) (p:Int×Int):got on l i x j p 0=gotj on l i x j:=by simp [got,gotj]
theorem got_step (on:Bool) (l:List It) (i:Nat) (x:It) (j:Nat) (p:Int×Int) (m:Nat):got on l i x j p (m+1)=got on l i x j p m++[pn on x p.1]:=by
 simp [got,List.replicate_succ',List.append_assoc]
theorem got_end (on:Bool) (l:List It) (i:Nat) (x:It) (j:Nat) (p:Int×Int) (hj:(sps x)[j]? =some p):got on l i x j p p.2.toNat=gotj on l i x (j+1):=by
 unfold got gotj reps
 rw [flatMap_step rep _ j p hj,List.map_append]
 simp [rep]
theorem gotj_zero (on:Bool) (l:List It) (i:Nat) (x:It):gotj on l i x 0=ex on (l.take i):=by simp [gotj,reps]
theorem gotj_end (on:Bool) (l:List It) (i:Nat) (x:It) (hi:l[i]? =some x):gotj on l i x (sps x).length=ex on (l.take (i+1)):=by
 unfold ex
 rw [flatMap_step (ex1 on) l i x hi]
 simp [gotj,ex,ex1,sts]
theorem got_lt (on:Bool) (l:List It) (i:Nat) (x:It) (j:Nat) (p:Int×Int) (m:Nat) (hi:l[i]? =some x) (hj:(sps x)[j]? =some p) (hm:m < p.2.toNat):(got on l i x j p m).length < (ex on l).length:=by
 have h1:ex on l=ex on (l.take i)++(ex1 on x++ex on (l.drop (i+1))):=flatMap_parts (ex1 on) l i x hi
 have h2:sts x=reps ((sps x).take j)++(rep p++reps ((sps x).drop (j+1))):=flatMap_parts rep (sps x) j p hj
 rw [h1]
 unfold got ex1
 rw [h2]
 simp only [List.length_append,List.length_map,List.length_replicate,rep]
 omega
end S
section
open Go.ChangeShapes Go.WideShapes Go.ChangeAt Go.RowKit Go.Deep
variable {E:Prop} {a:Act} {b j o:Nat} {d:List S.It} {w:World} {x:S.It}
def csT (x:S.It):List Value:=x.cs.toList
theorem csT_len:∀x,(csT x).length=9:=fun _=>rfl
theorem csT_one:∀x,∀u∈csT x,u.oneCell'=true:=by
 intro x u hu
 simp only [csT,S.It.cs,List.mem_cons,List.not_mem_nil,or_false] at hu
 rcases hu with rfl|rfl|rfl|rfl|rfl|rfl|rfl|rfl|rfl<;>rfl
def S.It.zero:S.It:=⟨0,0,0,0,0,0,0,false,false⟩
theorem sizeT:(Tryz.prog.info? 155).map (·.size)=some 9:=by kernel_rfl
theorem infoT:(Tryz.prog.info? 155).map (fun i=>(i.zero,i.size,i.bytes))=some (some (.agg S.It.zero.cs),9,56):=by kernel_rfl
def csQ (x:S.Pn):List Value:=x.cs.toList
theorem csQ_len:∀x,(csQ x).length=17:=fun _=>rfl
theorem csQ_one:∀x,∀u∈csQ x,u.oneCell'=true:=by
 intro x u hu
 simp only [csQ,S.Pn.cs,List.mem_cons,List.not_mem_nil,or_false] at hu
 rcases hu with rfl|rfl|rfl|rfl|rfl|rfl|rfl|rfl|rfl|rfl|rfl|rfl|rfl|rfl|rfl|rfl|rfl<;>rfl
def S.Pn.zero:S.Pn:=⟨0,0,0,false,false,false,false,false,false,false,false,false,false,false,false,false,false⟩
theorem sizeQ:(Tryz.prog.info? 34).map (·.size)=some 17:=by kernel_rfl
theorem infoQ:(Tryz.prog.info? 34).map (fun i=>(i.zero,i.size,i.bytes))=some (some (.agg S.Pn.zero.cs),17,32):=by kernel_rfl
def csZ (z:Int):List Value:=[.int .i64 z]
theorem csZ_len:∀z,(csZ z).length=1:=fun _=>rfl
theorem csZ_one:∀z,∀u∈csZ z,u.oneCell'=true:=by
 intro z u hu
 simp only [csZ,List.mem_cons,List.not_mem_nil,or_false] at hu
 subst hu;rfl
theorem infoZ:(Tryz.prog.info? 3).map (fun i=>(i.zero,i.size,i.bytes))=some (some (.int .i64 0),1,8):=by kernel_rfl
abbrev HeldT:=HeldG csT
abbrev OwnsT:=OwnsG csT 9 155
theorem wpList_appT {ops:Array Oper} {rest:List Oper} {o:Oper} {Q:Exit→Act→World→Prop} (hgd:o.guard=none) (s x:Operand)
 (ho:o.op=.call {callee:=.builtin .append,args:=#[s,x],argTypes:=#[48,48]})
 (base:Nat) (v:Value) (d:List S.It) (hv:a.eval s=v) (hown:OwnsT w base v d) (ad:Addr) (m c:Nat) (e:List S.It) (hx:a.eval x=.slice (some ad) m c) (hm:e.length=m) (hat:∀j u,(Fl csT e)[j]? =some u→w.cell? (ad.add j)=some u)
 (hsz:d.length+m≤2000000000000) (hbase:base≤w.heap.size)
 (h:∀v' w',OwnsT w' base v' (d++e)→w.grownBy w' v.ownBlock→wpList Tryz.prog ops Q rest (a.put o.dst v') w'):wpList Tryz.prog ops Q (o::rest) a w:=
 wpList_appG csT_len csT_one Tryz.underlying48 infoT rfl (by decide) hgd s x ho base v d hv hown ad m c e hx hm hat (by unfold maxLen;omega) (by omega) hbase h
theorem wpList_appT1 {ops:Array Oper} {rest:List Oper} {o:Oper} {Q:Exit→Act→World→Prop} (hgd:o.guard=none) (s x:Operand)
 (ho:o.op=.call {callee:=.builtin .append,args:=#[s,x],argTypes:=#[48,48]})
 (base:Nat) (v:Value) (d:List S.It) (hv:a.eval s=v) (y:S.It) (c:Array Value) (t:TypeId) (b:Nat) (hx:a.eval x=.slice (some ⟨b,0,none⟩) 1 1) (hc:c.toList=csT y) (hb:b=w.heap.size) (hown:OwnsT w base v d)
 (hsz:d.length+1≤2000000000000) (hbase:base≤w.heap.size)
 (h:∀v' w',OwnsT w' base v' (d++[y])→w.grownBy w' v.ownBlock→wpList Tryz.prog ops Q rest (a.put o.dst v') w'):wpList Tryz.prog ops Q (o::rest) a (w.alloc (.cells c t)):=by
 subst hb
 refine wpList_appT hgd s x ho base v d hv (hown.alloc _) ⟨w.heap.size,0,none⟩ 1 1 [y] hx rfl (at_new w t c [y] (by rw [Fl_one];exact hc) _ rfl) hsz (by simp;omega) ?_
 intro v' w' h1 h2
 exact h v' w' h1 (World.grownBy.trans (World.grownBy_alloc w _ _) h2)
abbrev HeldQ:=HeldG csQ
abbrev OwnsQ:=OwnsG csQ 17 34
theorem wpList_appQ {ops:Array Oper} {rest:List Oper} {o:Oper} {Q:Exit→Act→World→Prop} (hgd:o.guard=none) (s x:Operand)
 (ho:o.op=.call {callee:=.builtin .append,args:=#[s,x],argTypes:=#[22,22]})
 (base:Nat) (v:Value) (d:List S.Pn) (hv:a.eval s=v) (hown:OwnsQ w base v d) (ad:Addr) (m c:Nat) (e:List S.Pn) (hx:a.eval x=.slice (some ad) m c) (hm:e.length=m) (hat:∀j u,(Fl csQ e)[j]? =some u→w.cell? (ad.add j)=some u)
 (hsz:d.length+m≤4000000000000) (hbase:base≤w.heap.size)
 (h:∀v' w',OwnsQ w' base v' (d++e)→w.grownBy w' v.ownBlock→wpList Tryz.prog ops Q rest (a.put o.dst v') w'):wpList Tryz.prog ops Q (o::rest) a w:=
 wpList_appG csQ_len csQ_one Tryz.underlying22 infoQ rfl (by decide) hgd s x ho base v d hv hown ad m c e hx hm hat (by unfold maxLen;omega) (by omega) hbase h
theorem wpList_appQ1 {ops:Array Oper} {rest:List Oper} {o:Oper} {Q:Exit→Act→World→Prop} (hgd:o.guard=none) (s x:Operand)
 (ho:o.op=.call {callee:=.builtin .append,args:=#[s,x],argTypes:=#[22,22]})
 (base:Nat) (v:Value) (d:List S.Pn) (hv:a.eval s=v) (y:S.Pn) (c:Array Value) (t:TypeId) (b:Nat) (hx:a.eval x=.slice (some ⟨b,0,none⟩) 1 1) (hc:c.toList=csQ y) (hb:b=w.heap.size) (hown:OwnsQ w base v d)
 (hsz:d.length+1≤4000000000000) (hbase:base≤w.heap.size)
 (h:∀v' w',OwnsQ w' base v' (d++[y])→w.grownBy w' v.ownBlock→wpList Tryz.prog ops Q rest (a.put o.dst v') w'):wpList Tryz.prog ops Q (o::rest) a (w.alloc (.cells c t)):=by
 subst hb
 refine wpList_appQ hgd s x ho base v d hv (hown.alloc _) ⟨w.heap.size,0,none⟩ 1 1 [y] hx rfl (at_new w t c [y] (by rw [Fl_one];exact hc) _ rfl) hsz (by simp;omega) ?_
 intro v' w' h1 h2
 exact h v' w' h1 (World.grownBy.trans (World.grownBy_alloc w _ _) h2)
abbrev HeldZ:=HeldG csZ
abbrev OwnsZ:=OwnsG csZ 1 3
theorem AtT.load (h:AtG csT w b o d) (hj:d[j]? =some x) (p:Nat) (hp:p=o+j * 9):(wholeVar 155 ⟨b,p,none⟩).run Tryz.prog w=.ok (.agg x.cs) w:=by
 subst hp
 exact whole_cells Tryz.underlying155 rfl sizeT w b _ x.cs rfl fun k u hu=>h.el csT_len hj (by simpa [csT] using hu)
theorem AtT.loadM (h:AtG csT w b o d) (hb:b < w.heap.size) (hj:d[j]? =some x) (p:Nat) (hp:p=o+j * 9):∀n os,(wholeVar 155 ⟨b,p,none⟩).run Tryz.prog (More w n os)=.ok (.agg x.cs) (More w n os):=fun n os=>
 AtT.load (h.keep fun i=>(Adds.more (Adds.refl w) n os).cell hb) hj p hp
theorem AtQ.load {d:List S.Pn} (h:AtG csQ w b o d) {x:S.Pn} (hj:d[j]? =some x) (p:Nat) (hp:p=o+j * 17):(wholeVar 34 ⟨b,p,none⟩).run Tryz.prog w=.ok (.agg x.cs) w:=by
 subst hp
 exact whole_cells Tryz.underlying34 rfl sizeQ w b _ x.cs rfl fun k u hu=>h.el csQ_len hj (by simpa [csQ] using hu)
theorem AtQ.loadM {d:List S.Pn} (h:AtG csQ w b o d) (hb:b < w.heap.size) {x:S.Pn} (hj:d[j]? =some x) (p:Nat) (hp:p=o+j * 17):∀n os,(wholeVar 34 ⟨b,p,none⟩).run Tryz.prog (More w n os)=.ok (.agg x.cs) (More w n os):=fun n os=>
 AtQ.load (h.keep fun i=>(Adds.more (Adds.refl w) n os).cell hb) hj p hp
theorem AtZ.el {d:List Int} (h:AtG csZ w b o d) {z:Int} (hj:d[j]? =some z):w.cell? ⟨b,o+j,none⟩=some (.int .i64 z):=by
 have:=h.el csZ_len hj (k:=0) (u:=.int .i64 z) rfl
 rwa [Nat.mul_one,Nat.add_zero] at this
def ArgT (w:World) (a:Option Addr) (n:Nat) (d:List S.It):Prop:=d.length=n∧(0 < n→∃b o,a=some ⟨b,o,none⟩∧b < w.heap.size∧AtG csT w b o d)
theorem ArgT.held {a:Option Addr} {n:Nat} (h:ArgT w a n d) (hn:n≤4611686018427387904):HeldT w a n d:=⟨h.1,hn,h.2⟩
theorem argT_of (w:World) (x:Addr) (len:Nat) (hc:∀i,i < len→∃r:S.It,∀k u,(csT r)[k]? =some u→w.cell? (x.add (i * 9+k))=some u):∃l,ArgT w (some x) len l:=by
 rcases Nat.eq_zero_or_pos len with rfl|hp
 ·exact ⟨[],rfl,fun h=>absurd h (by omega)⟩
 obtain ⟨f,hf⟩:∃f:Nat→S.It,∀i,i < len→∀k u,(csT (f i))[k]? =some u→w.cell? (x.add (i * 9+k))=some u:=by
  refine ⟨fun i=>if h:i < len then (hc i h).choose else default,fun i hi=> ?_⟩
  simp only [hi,dif_pos]
  exact (hc i hi).choose_spec
 have h0:=(hf 0 hp) 0 _ rfl
 rw [show x.add (0 * 9+0)=x by simp [Addr.add]] at h0
 obtain ⟨b,o,sp⟩:=x
 obtain rfl:sp=none:=cell_spot h0
 refine ⟨(List.range len).map f,by simp,fun _=>⟨b,o,rfl,cell_lt h0,fun j u hu=> ?_⟩⟩
 have hlen:(Fl csT ((List.range len).map f)).length=len * 9:=by rw [Fl_len csT_len];simp
 have hj:j < len * 9:=by have:=(List.getElem?_eq_some_iff.1 hu).1;omega
 have hq:((List.range len).map f)[j / 9]? =some (f (j / 9)):=by rw [List.getElem?_map,List.getElem?_range (by omega)];rfl
 obtain ⟨v,hv⟩:∃v,(csT (f (j / 9)))[j % 9]? =some v:=⟨_,List.getElem?_eq_getElem (by rw [csT_len];omega)⟩
 have k1:=Fl_get csT_len _ _ _ hq _ _ hv
 rw [show j / 9 * 9+j % 9=j by omega,hu] at k1
 obtain rfl:=Option.some.inj k1
 have k2:=(hf (j / 9) (by omega)) _ _ hv
 rw [add_plain,show j / 9 * 9+j % 9=j by omega] at k2
 exact k2
theorem open_items {H:Type} {enc:TypeId×Value→H} {base:Nat} {spare:Nat→Bool} {held:Bool} {fuel:Nat} {cs:List Value} {x:DataW H×List MemPlace}
 (h:DataW.trod enc Tryz.prog w base spare held fuel 48 cs=some x):∃a len cap,cs=[.slice a len cap]∧(len≤cap∧cap≤9223372036854775807)∧∃l,ArgT w a len l:=by
 have hC:Tryz.prog.cellsOf 155=9:=by kernel_rfl
 rcases open_slice Tryz.underlying48 h with ⟨hcs,_⟩|⟨a,len,cap,m,n,D,Pl,hcs,hb,hl,hm,hmm,hx,hi⟩
 ·exact ⟨none,0,0,hcs,⟨by omega,by omega⟩,[],rfl,fun h=>absurd h (by omega)⟩
 ·refine ⟨some a,len,cap,hcs,⟨hl,by simpa [maxLen] using hm⟩,argT_of w a len (fun i hi'=> ?_)⟩
  obtain ⟨cs',hc,ht'⟩:=hi i (by rw [hmm];split<;>omega)
  rw [hC] at hc
  have hf:=flat_fits 9 155 [.int .i64,.int .i64,.int .u16,.int .u8,.int .i64,.int .i64,.int .i64,.bool,.bool] _ _ _ (by kernel_rfl) ht'
  obtain ⟨z0,l0,rfl,q0,hf0⟩:=fits_int hf
  obtain ⟨z1,l1,rfl,q1,hf1⟩:=fits_int hf0
  obtain ⟨z2,l2,rfl,q2,hf2⟩:=fits_int hf1
  obtain ⟨z3,l3,rfl,q3,hf3⟩:=fits_int hf2
  obtain ⟨z4,l4,rfl,q4,hf4⟩:=fits_int hf3
  obtain ⟨z5,l5,rfl,q5,hf5⟩:=fits_int hf4
  obtain ⟨z6,l6,rfl,q6,hf6⟩:=fits_int hf5
  obtain ⟨z7,l7,rfl,hf7⟩:=fits_bool hf6
  obtain ⟨z8,l8,rfl,hf8⟩:=fits_bool hf7
  obtain rfl:=fits_nil hf8
  obtain ⟨_,hcl,hat⟩:=World.cells?_some hc
  refine ⟨⟨z0,z1,z2,z3,z4,z5,z6,z7,z8⟩,fun k u hu=> ?_⟩
  have hk:k < 9:=by have:=(List.getElem?_eq_some_iff.1 hu).1;rwa [csT_len] at this
  have g:=hat k (by omega)
  rw [addr_add_add] at g
  rw [g]
  simpa [csT,S.It.cs] using hu
end
section
def Tch (S:Nat→Prop) (w w':World):Prop:=Below 0 w w'∧∀k,k < w.heap.size→¬S k→w'.heap[k]? =w.heap[k]?
theorem Tch.size {S:Nat→Prop} {w w':World} (h:Tch S w w'):w.heap.size≤w'.heap.size:=h.1.size
theorem Tch.refl (S:Nat→Prop) (w:World):Tch S w w:=⟨⟨rfl,rfl,rfl,Nat.le_refl _,fun _ _=>rfl⟩,fun _ _ _=>rfl⟩
theorem Tch.trans {S S1:Nat→Prop} {w w1 w2:World} (h:Tch S w w1) (k:Tch S1 w1 w2) (hs:∀b,b < w.heap.size→S1 b→S b):Tch S w w2:=
 ⟨⟨k.1.os.trans h.1.os,k.1.tape.trans h.1.tape,k.1.output.trans h.1.output,Nat.le_trans h.size k.size,fun i hi=>absurd hi (by omega)⟩,fun i hi hne=>(k.2 i (by have:=h.size;omega) (fun e=>hne (hs i hi e))).trans (h.2 i hi hne)⟩
theorem Tch.mono {S S1:Nat→Prop} {w w':World} (h:Tch S w w') (hs:∀b,b < w.heap.size→S b→S1 b):Tch S1 w w':=⟨h.1,fun k hk hne=>h.2 k hk (fun e=>hne (hs k hk e))⟩
theorem Tch.of_adds {S:Nat→Prop} {w w':World} (h:Adds w w'):Tch S w w':=by
 have hb:=h.below
 exact ⟨⟨hb.os,hb.tape,hb.output,hb.size,fun k hk=>absurd hk (by omega)⟩,fun k hk _=>hb.block k hk⟩
theorem Tch.of_grown {S:Nat→Prop} {w w':World} {row:Option Nat} (h:w.grownBy w' row) (hs:∀g,row=some g→S g):Tch S w w':=
 ⟨⟨h.os,h.tape,h.output,h.size,fun k hk=>absurd hk (by omega)⟩,fun k hk hne=>h.block k hk (fun e=>hne (hs k e.symm))⟩
theorem Tch.setRow {S:Nat→Prop} {w w':World} (h:Tch S w w') (b:Nat) (cs:Array Value) (hs:b < w.heap.size→S b):Tch S w (w'.setRow b cs):=
 ⟨⟨h.1.os,h.1.tape,h.1.output,by rw [size_setRow];exact h.size,fun k hk=>absurd hk (by omega)⟩,fun k hk hne=>(heap_setRow_other w' b k cs (fun e=>hne (e▸hs (e▸hk)))).trans (h.2 k hk hne)⟩
theorem Tch.setCell {S:Nat→Prop} {w w':World} (h:Tch S w w') (b i:Nat) (v:Value) (hs:b < w.heap.size→S b):Tch S w (w'.setCell ⟨b,i,none⟩ v):=
 ⟨⟨h.1.os,h.1.tape,h.1.output,by simpa using h.size,fun k hk=>absurd hk (by omega)⟩,fun k hk hne=>(heap_setCell_other w' ⟨b,i,none⟩ k v (fun e=>hne (by have e:k=b:=e;exact e▸hs (e▸hk)))).trans (h.2 k hk hne)⟩
theorem Tch.drew {S:Nat→Prop} {w w':World} (h:Tch S w w'):Tch S w w'.drew:=⟨⟨h.1.os,h.1.tape,h.1.output,h.1.size,h.1.block⟩,h.2⟩
theorem Tch.alloc {S:Nat→Prop} {w w':World} (h:Tch S w w') (o:Obj):Tch S w (w'.alloc o):=h.trans (S1:=S) (Tch.of_adds ((Adds.refl w').alloc o)) (fun _ _ e=>e)
theorem Tch.more {S:Nat→Prop} {w w':World} (h:Tch S w w') (n:Nat) (os:Array Obj):Tch S w (More w' n os):=h.trans (S1:=S) (Tch.of_adds ((Adds.refl w').more n os)) (fun _ _ e=>e)
theorem Tch.row {S:Nat→Prop} {w w':World} (h:Tch S w w') {k:Nat} (hk:k < w.heap.size) (hs:¬S k):rowOf w' k=rowOf w k:=rowOf_eq (h.2 k hk hs)
theorem Tch.cell {S:Nat→Prop} {w w':World} (h:Tch S w w') {k i:Nat} (hk:k < w.heap.size) (hs:¬S k):w'.cell? ⟨k,i,none⟩=w.cell? ⟨k,i,none⟩:=World.cell?_of_block (a:=⟨k,i,none⟩) (h.2 k hk hs)
theorem Tch.adds {S:Nat→Prop} {w0 w w':World} (h:Tch S w w') (k:Adds w0 w) (hs:∀b,b < w.heap.size→S b→w0.heap.size≤b):Adds w0 w':=by
 have hb:=k.below
 refine Adds.of_below ⟨h.1.os.trans hb.os,h.1.tape.trans hb.tape,h.1.output.trans hb.output,Nat.le_trans hb.size h.size,fun i hi=> ?_⟩
 have:=hb.size
 exact (h.2 i (by omega) (fun e=>by have:=hs i (by omega) e;omega)).trans (hb.block i hi)
theorem Tch.out {S:Nat→Prop} {w0 w w':World} (h:Tch S w0 w) (k:Tch S w w'):Tch S w0 w':=h.trans k (fun _ _ e=>e)
def Nw (B:Nat) (a:Option Addr) (n:Nat):Prop:=∀b o,a=some ⟨b,o,none⟩→0 < n→B≤b
theorem Nw.nil (B:Nat) (a:Option Addr):Nw B a 0:=fun _ _ _ h=>absurd h (by omega)
theorem Nw.mono {B B':Nat} {a:Option Addr} {n:Nat} (h:Nw B a n) (k:B'≤B):Nw B' a n:=fun b o e hn=>by have:=h b o e hn;omega
def Sm2 (B:Nat) (a:Option Addr) (n:Nat) (a':Option Addr) (n':Nat):Prop:=(a'=a∧n'=n)∨Nw B a' n'
theorem Sm2.refl (B:Nat) (a:Option Addr) (n:Nat):Sm2 B a n a n:=.inl ⟨rfl,rfl⟩
theorem Sm2.mono {B B':Nat} {a a':Option Addr} {n n':Nat} (h:Sm2 B a n a' n') (k:B'≤B):Sm2 B' a n a' n':=h.imp id fun h=>h.mono k
theorem Sm2.trans {B:Nat} {a a' a2:Option Addr} {n n' n2:Nat} (h:Sm2 B a n a' n') (k:Sm2 B a' n' a2 n2):Sm2 B a n a2 n2:=by
 rcases k with ⟨rfl,rfl⟩|k
 ·exact h
 ·exact .inr k
def Off (S:Nat→Prop) (a:Option Addr) (n:Nat):Prop:=∀b o,a=some ⟨b,o,none⟩→0 < n→¬S b
theorem Off.nil (S:Nat→Prop) (a:Option Addr):Off S a 0:=fun _ _ _ h=>absurd h (by omega)
theorem Off.mono {S S1:Nat→Prop} {a:Option Addr} {n:Nat} (h:Off S a n) (k:∀b,S1 b→S b):Off S1 a n:=fun b o e hn hs=>h b o e hn (k b hs)
theorem Off.of_nw {S:Nat→Prop} {B:Nat} {a:Option Addr} {n:Nat} (h:Nw B a n) (k:∀b,S b→b < B):Off S a n:=fun b o e hn hs=>by have:=h b o e hn;have:=k b hs;omega
theorem Off.sm2 {S:Nat→Prop} {B:Nat} {a a':Option Addr} {n n':Nat} (h:Off S a n) (k:Sm2 B a n a' n') (hs:∀b,S b→b < B):Off S a' n':=by
 rcases k with ⟨rfl,rfl⟩|k
 ·exact h
 ·exact Off.of_nw k hs
section
variable {α:Type} {cs:α→List Value} {sz:Nat} {E:TypeId}
theorem HeldG.tch {S:Nat→Prop} {w w':World} {a:Option Addr} {n:Nat} {d:List α} (h:HeldG cs w a n d) (k:Tch S w w') (hs:Off S a n):HeldG cs w' a n d:=
 ⟨h.1,h.2.1,fun hn=>by
   obtain ⟨b,o,ha,hb,hat⟩:=h.2.2 hn
   exact ⟨b,o,ha,by have:=k.size;omega,hat.keep fun i=>k.cell hb (hs b o ha hn)⟩⟩
theorem OwnsG.tch {S:Nat→Prop} {w w':World} {base:Nat} {v:Value} {d:List α} (h:OwnsG cs sz E w base v d) (k:Tch S w w') (hs:∀g,v.ownBlock=some g→¬S g):OwnsG cs sz E w' base v d:=by
 refine ⟨h.1,?_⟩
 rcases h.2 with hn|⟨g,cap,cur,h1,h2,h3,h4⟩
 ·exact .inl hn
 ·exact .inr ⟨g,cap,cur,h1,h2,(k.2 g (Array.getElem?_eq_some_iff.1 h3).1 (hs g (by rw [h1];rfl))).trans h3,h4⟩
theorem OwnsG.nw {w:World} {base n cap:Nat} {a:Option Addr} {d:List α} (h:OwnsG cs sz E w base (.slice a n cap) d):Nw base a n:=fun b o e hn=>by
 obtain ⟨g,hg,hb,_⟩:=h.head hn
 rw [hg] at e
 injection e with e
 injection e with e
 omega
theorem OwnsG.lt2 {w:World} {base:Nat} {v:Value} {d:List α} (h:OwnsG cs sz E w base v d) {g:Nat} (e:v.ownBlock=some g):base≤g∧g < w.heap.size:=World.ownsRow.lt h g e
theorem OwnsG.nils {w:World} {base n cap:Nat} {a:Option Addr} {d:List α} (h:OwnsG cs sz E w base (.slice a n cap) d) (e:a=none):cap=0:=by
 obtain ⟨a',n',cap',h1,_,_,_,_,h5⟩:=h.form2
 simp only [Value.slice.injEq] at h1
 obtain ⟨rfl,rfl,rfl⟩:=h1
 exact (h5 e).2
theorem HeldG.other {W:World} {n:Nat} {os:Array Obj} {a:Option Addr} {m:Nat} {d:List α} (h:HeldG cs (More W n os) a m d) (hb:Nw W.heap.size a m):∀V:World,V.heap.size=W.heap.size→HeldG cs (More V n os) a m d:=fun V hV=>
 ⟨h.1,h.2.1,fun hn=>by
   obtain ⟨b,o,ha,hl,hat⟩:=h.2.2 hn
   have hB:=hb b o ha hn
   rw [More_size] at hl
   refine ⟨b,o,ha,by rw [More_size];omega,hat.keep fun i=>World.cell?_of_block (a:=⟨b,i,none⟩) ?_⟩
   show (V.heap++os)[b]? =(W.heap++os)[b]?
   rw [Array.getElem?_append_right (by omega),Array.getElem?_append_right hB,hV]⟩
theorem held_fin {V w':World} {s n:Nat} {os:Array Obj} {a:Option Addr} {m:Nat} {d:List α} (k:Adds (More V n os) w') (hs:V.heap.size=s) (h:∀V:World,V.heap.size=s→HeldG cs (More V n os) a m d):HeldG cs w' a m d:=(h V hs).adds k
theorem wp_appH {P:Program} (hs:∀a,(cs a).length=sz) (h1:∀a,∀u∈cs a,u.oneCell'=true) {T:TypeId} (hT:P.underlying T=some (.slice E)) {z:Value} {bytes:Nat} (hinfo:(P.info? E).map (fun i=>(i.zero,i.size,i.bytes))=some (some z,sz,bytes)) (hzs:z.cells.size=sz) (hz:0 < sz)
 {w:World} {o:Oper} {a:Act} {K:Act→World→Prop} {Q:Exit→Act→World→Prop} (s x:Operand)
 (ho:o.op=.call {callee:=.builtin .append,args:=#[s,x],argTypes:=#[T,T]})
 (base:Nat) (v:Value) (d:List α) (hv:a.eval s=v) (hown:OwnsG cs sz E w base v d) (ax:Option Addr) (m c:Nat) (e:List α) (hx:a.eval x=.slice ax m c) (hh:HeldG cs w ax m e) (hmc:m≤c) (hnn:ax=none→c=0)
 (h63:d.length+m≤maxLen) (hb:(d.length+m) * bytes≤140737488355328) (hbase:base≤w.heap.size)
 (h:∀v' w',OwnsG cs sz E w' base v' (d++e)→w.grownBy w' v.ownBlock→(∀g,v'.ownBlock=some g→v.ownBlock=some g∨w.heap.size≤g)→K (a.put o.dst v') w'):o.wp P a w K Q:=by
 obtain ⟨i0,hi,hz0,hz1,hz2⟩:=info_parts hinfo
 have go:∀ad,ax=some ad→(∀j u,(Fl cs e)[j]? =some u→w.cell? (ad.add j)=some u)→o.wp P a w K Q:=by
  intro ad had hat
  obtain ⟨v',w',hr,h2,h3,h4,h5⟩:=run_append_own_at (P:=P) w base T o.type E i0 z sz bytes hT hi hz0 hz1 hz2 hzs hz v d.length (Fl cs d) hown ad m c (Fl cs e) (by rw [Fl_len hs,hh.1]) hat (Fl_oneCell h1 e) h63 hb hbase
  subst had
  unfold Oper.wp execOp
  simp only [ho,resolve,invoke,builtin,Sem.run_bind,Sem.run_pure,Result.andThen_ok,List.map_toArray,List.map_cons,List.map_nil,hv,hx,hr]
  refine h v' w' ?_ h3 (fun g hg=> ?_)
  ·unfold OwnsG;rw [List.length_append,hh.1,Fl_app];exact h2
  ·rcases h5 with q|q
   ·exact .inl (q▸hg)
   ·rw [q] at hg;injection hg with hg;exact .inr (by omega)
 cases ax with
 |none=>
  obtain rfl:=hnn rfl
  obtain rfl:m=0:=by omega
  obtain rfl:e=[]:=List.eq_nil_of_length_eq_zero hh.1
  have hrun:=run_append_owned_none (P:=P) (w:=w) base T o.type E i0 sz hT hi v d.length (Fl cs d) hown
  unfold Oper.wp
  simp [execOp,ho,resolve,invoke,builtin,hv,hx,hrun,Result.andThen]
  exact h v w (by rw [List.append_nil];exact hown) ⟨rfl,rfl,rfl,Nat.le_refl _,fun _ _ _=>rfl⟩ (fun g hg=> .inl hg)
 |some ad=>
  refine go ad rfl ?_
  by_cases hm:0 < m
  ·obtain ⟨b,o',ha,_,hat⟩:=hh.2.2 hm
   injection ha with ha
   subst ha
   intro j u hu
   rw [add_plain];exact hat j u hu
  ·intro j u hu
   have:e=[]:=List.eq_nil_of_length_eq_zero (by have:=hh.1;omega)
   subst this
   simp [Fl] at hu
end
theorem held_new {α:Type} {cs:α→List Value} (w:World) (y:α) (b:Nat) (hb:b=w.heap.size) (c:Array Value) (hc:c.toList=cs y) (t:TypeId):HeldG cs (w.alloc (.cells c t)) (some ⟨b,0,none⟩) 1 [y]:=
 ⟨rfl,by omega,fun _=>⟨b,0,rfl,by subst hb;simp,fun j u hu=>by
   have:=at_new w t c [y] (by rw [Fl_one];exact hc) b hb j u hu
   rwa [add_plain] at this⟩⟩
theorem held_at {α:Type} {cs:α→List Value} {w:World} (y:α) {b:Nat} {c:Array Value} (hc:c.toList=cs y) (hr:rowOf w b=c) (hp:0 < c.size):HeldG cs w (some ⟨b,0,none⟩) 1 [y]:=
 ⟨rfl,by omega,fun _=>⟨b,0,rfl,by
   have h0:0 < (rowOf w b).size:=by rw [hr];exact hp
   obtain ⟨t,ht⟩:=rowOf_some h0
   exact (Array.getElem?_eq_some_iff.1 ht).1,fun j u hu=>by
   rw [Fl_one,←hc] at hu
   rw [Nat.zero_add]
   exact rowOf_cell hr (by simpa using hu)⟩⟩
theorem adds_no {w w':World} (h:w.grownBy w' none):Adds w w':=Adds.of_below ⟨h.os,h.tape,h.output,h.size,fun k hk=>h.block k hk (by simp)⟩
theorem wp_forget {P:Program} {c:Code} {Q:Exit→Act→World→Prop} {a:Act} {W:World} (R:World→Prop) (hR:R W) (h:∀ww,R ww→Code.wp P c Q a ww):Code.wp P c Q a W:=h W hR
theorem grown_row {w w':World} {row:Option Nat} {b:Nat} {c:Array Value} (h:w.grownBy w' row) (hr:rowOf w b=c) (hp:0 < c.size) (hne:row≠some b):rowOf w' b=c:=by
 have hl:b < w.heap.size:=by
  have h0:0 < (rowOf w b).size:=by rw [hr];exact hp
  obtain ⟨t,ht⟩:=rowOf_some h0
  exact (Array.getElem?_eq_some_iff.1 ht).1
 exact (rowOf_eq (h.block b hl (fun e=>hne e.symm))).trans hr
theorem row_lt {w:World} {b:Nat} {c:Array Value} (hr:rowOf w b=c) (hp:0 < c.size):b < w.heap.size:=by
 have h0:0 < (rowOf w b).size:=by rw [hr];exact hp
 obtain ⟨t,ht⟩:=rowOf_some h0
 exact (Array.getElem?_eq_some_iff.1 ht).1
theorem wp_appT {w:World} {o:Oper} {a:Act} {K:Act→World→Prop} {Q:Exit→Act→World→Prop} (s x:Operand)
 (ho:o.op=.call {callee:=.builtin .append,args:=#[s,x],argTypes:=#[48,48]})
 (base:Nat) (v:Value) (d:List S.It) (hv:a.eval s=v) (hown:OwnsT w base v d) (ax:Option Addr) (m c:Nat) (e:List S.It) (hx:a.eval x=.slice ax m c) (hh:HeldT w ax m e) (hmc:m≤c) (hnn:ax=none→c=0)
 (hsz:d.length+m≤2000000000000) (hbase:base≤w.heap.size)
 (h:∀v' w',OwnsT w' base v' (d++e)→w.grownBy w' v.ownBlock→(∀g,v'.ownBlock=some g→v.ownBlock=some g∨w.heap.size≤g)→K (a.put o.dst v') w'):o.wp Tryz.prog a w K Q:=
 wp_appH csT_len csT_one Tryz.underlying48 infoT rfl (by decide) s x ho base v d hv hown ax m c e hx hh hmc hnn (by unfold maxLen;omega) (by omega) hbase h
theorem wpList_appTH {w:World} {ops:Array Oper} {rest:List Oper} {o:Oper} {a:Act} {Q:Exit→Act→World→Prop} (hgd:o.guard=none) (s x:Operand)
 (ho:o.op=.call {callee:=.builtin .append,args:=#[s,x],argTypes:=#[48,48]})
 (base:Nat) (v:Value) (d:List S.It) (hv:a.eval s=v) (hown:OwnsT w base v d) (ax:Option Addr) (m c:Nat) (e:List S.It) (hx:a.eval x=.slice ax m c) (hh:HeldT w ax m e) (hmc:m≤c) (hnn:ax=none→c=0)
 (hsz:d.length+m≤2000000000000) (hbase:base≤w.heap.size)
 (h:∀v' w',OwnsT w' base v' (d++e)→w.grownBy w' v.ownBlock→(∀g,v'.ownBlock=some g→v.ownBlock=some g∨w.heap.size≤g)→wpList Tryz.prog ops Q rest (a.put o.dst v') w'):wpList Tryz.prog ops Q (o::rest) a w:=
 wpList_plain hgd fun K hK=>wp_appT s x ho base v d hv hown ax m c e hx hh hmc hnn hsz hbase fun v' w' k1 k2 k3=>hK _ _ (h v' w' k1 k2 k3)
theorem wp_appU {w:World} {o:Oper} {a:Act} {K:Act→World→Prop} {Q:Exit→Act→World→Prop} (s x:Operand)
 (ho:o.op=.call {callee:=.builtin .append,args:=#[s,x],argTypes:=#[50,50]})
 (base:Nat) (v:Value) (d:List S.Cp) (hv:a.eval s=v) (hown:OwnsU w base v d) (ax:Option Addr) (m c:Nat) (e:List S.Cp) (hx:a.eval x=.slice ax m c) (hh:HeldU w ax m e) (hmc:m≤c) (hnn:ax=none→c=0)
 (hsz:d.length+m≤3000000000000) (hbase:base≤w.heap.size)
 (h:∀v' w',OwnsU w' base v' (d++e)→w.grownBy w' v.ownBlock→(∀g,v'.ownBlock=some g→v.ownBlock=some g∨w.heap.size≤g)→K (a.put o.dst v') w'):o.wp Tryz.prog a w K Q:=
 wp_appH csU_len csU_one Tryz.underlying50 infoU rfl (by decide) s x ho base v d hv hown ax m c e hx hh hmc hnn (by unfold maxLen;omega) (by omega) hbase h
theorem step_appUH {w:World} {ops:Array Oper} {o:Oper} {a:Act} {K:Act→World→Prop} {Q:Exit→Act→World→Prop} {E:Prop} (hgd:o.guard=none) (s x:Operand)
 (ho:o.op=.call {callee:=.builtin .append,args:=#[s,x],argTypes:=#[50,50]})
 (base:Nat) (v:Value) (d:List S.Cp) (hv:a.eval s=v) (hown:OwnsU w base v d) (ax:Option Addr) (m c:Nat) (e:List S.Cp) (hx:a.eval x=.slice ax m c) (hh:HeldU w ax m e) (hmc:m≤c) (hnn:ax=none→c=0)
 (hsz:d.length+m≤3000000000000) (hbase:base≤w.heap.size)
 (h:∀v' w',OwnsU w' base v' (d++e)→w.grownBy w' v.ownBlock→(∀g,v'.ownBlock=some g→v.ownBlock=some g∨w.heap.size≤g)→K (a.put o.dst v') w'):if Region.wanted o (yielded ops a.tmps)=true then Oper.wp Tryz.prog o a w K Q else E:=by
 rw [if_pos (by simp [Region.wanted,hgd])]
 exact wp_appU s x ho base v d hv hown ax m c e hx hh hmc hnn hsz hbase h
theorem wpList_appUH {w:World} {ops:Array Oper} {rest:List Oper} {o:Oper} {a:Act} {Q:Exit→Act→World→Prop} (hgd:o.guard=none) (s x:Operand)
 (ho:o.op=.call {callee:=.builtin .append,args:=#[s,x],argTypes:=#[50,50]})
 (base:Nat) (v:Value) (d:List S.Cp) (hv:a.eval s=v) (hown:OwnsU w base v d) (ax:Option Addr) (m c:Nat) (e:List S.Cp) (hx:a.eval x=.slice ax m c) (hh:HeldU w ax m e) (hmc:m≤c) (hnn:ax=none→c=0)
 (hsz:d.length+m≤3000000000000) (hbase:base≤w.heap.size)
 (h:∀v' w',OwnsU w' base v' (d++e)→w.grownBy w' v.ownBlock→(∀g,v'.ownBlock=some g→v.ownBlock=some g∨w.heap.size≤g)→wpList Tryz.prog ops Q rest (a.put o.dst v') w'):wpList Tryz.prog ops Q (o::rest) a w:=
 wpList_plain hgd fun K hK=>wp_appU s x ho base v d hv hown ax m c e hx hh hmc hnn hsz hbase fun v' w' k1 k2 k3=>hK _ _ (h v' w' k1 k2 k3)
theorem wp_appO {w:World} {o:Oper} {a:Act} {K:Act→World→Prop} {Q:Exit→Act→World→Prop} (s x:Operand)
 (ho:o.op=.call {callee:=.builtin .append,args:=#[s,x],argTypes:=#[65,65]})
 (base:Nat) (v:Value) (d:List S.Ou) (hv:a.eval s=v) (hown:OwnsO w base v d) (ax:Option Addr) (m c:Nat) (e:List S.Ou) (hx:a.eval x=.slice ax m c) (hh:HeldO w ax m e) (hmc:m≤c) (hnn:ax=none→c=0)
 (hsz:d.length+m≤10000000000000) (hbase:base≤w.heap.size)
 (h:∀v' w',OwnsO w' base v' (d++e)→w.grownBy w' v.ownBlock→(∀g,v'.ownBlock=some g→v.ownBlock=some g∨w.heap.size≤g)→K (a.put o.dst v') w'):o.wp Tryz.prog a w K Q:=
 wp_appH csO_len csO_one Tryz.underlying65 infoO rfl (by decide) s x ho base v d hv hown ax m c e hx hh hmc hnn (by unfold maxLen;omega) (by omega) hbase h
theorem step_appOH {w:World} {ops:Array Oper} {o:Oper} {a:Act} {K:Act→World→Prop} {Q:Exit→Act→World→Prop} {E:Prop} (hgd:o.guard=none) (s x:Operand)
 (ho:o.op=.call {callee:=.builtin .append,args:=#[s,x],argTypes:=#[65,65]})
 (base:Nat) (v:Value) (d:List S.Ou) (hv:a.eval s=v) (hown:OwnsO w base v d) (ax:Option Addr) (m c:Nat) (e:List S.Ou) (hx:a.eval x=.slice ax m c) (hh:HeldO w ax m e) (hmc:m≤c) (hnn:ax=none→c=0)
 (hsz:d.length+m≤10000000000000) (hbase:base≤w.heap.size)
 (h:∀v' w',OwnsO w' base v' (d++e)→w.grownBy w' v.ownBlock→(∀g,v'.ownBlock=some g→v.ownBlock=some g∨w.heap.size≤g)→K (a.put o.dst v') w'):if Region.wanted o (yielded ops a.tmps)=true then Oper.wp Tryz.prog o a w K Q else E:=by
 rw [if_pos (by simp [Region.wanted,hgd])]
 exact wp_appO s x ho base v d hv hown ax m c e hx hh hmc hnn hsz hbase h
theorem wp_appV {w:World} {o:Oper} {a:Act} {K:Act→World→Prop} {Q:Exit→Act→World→Prop} (s x:Operand)
 (ho:o.op=.call {callee:=.builtin .append,args:=#[s,x],argTypes:=#[49,49]})
 (base:Nat) (v:Value) (d:List S.Ev) (hv:a.eval s=v) (hown:OwnsV w base v d) (ax:Option Addr) (m c:Nat) (e:List S.Ev) (hx:a.eval x=.slice ax m c) (hh:HeldV w ax m e) (hmc:m≤c) (hnn:ax=none→c=0)
 (hsz:d.length+m≤2000000000000) (hbase:base≤w.heap.size)
 (h:∀v' w',OwnsV w' base v' (d++e)→w.grownBy w' v.ownBlock→(∀g,v'.ownBlock=some g→v.ownBlock=some g∨w.heap.size≤g)→K (a.put o.dst v') w'):o.wp Tryz.prog a w K Q:=
 wp_appH csV_len csV_one Tryz.underlying49 infoV rfl (by decide) s x ho base v d hv hown ax m c e hx hh hmc hnn (by unfold maxLen;omega) (by omega) hbase h
theorem step_appVH {w:World} {ops:Array Oper} {o:Oper} {a:Act} {K:Act→World→Prop} {Q:Exit→Act→World→Prop} {E:Prop} (hgd:o.guard=none) (s x:Operand)
 (ho:o.op=.call {callee:=.builtin .append,args:=#[s,x],argTypes:=#[49,49]})
 (base:Nat) (v:Value) (d:List S.Ev) (hv:a.eval s=v) (hown:OwnsV w base v d) (ax:Option Addr) (m c:Nat) (e:List S.Ev) (hx:a.eval x=.slice ax m c) (hh:HeldV w ax m e) (hmc:m≤c) (hnn:ax=none→c=0)
 (hsz:d.length+m≤2000000000000) (hbase:base≤w.heap.size)
 (h:∀v' w',OwnsV w' base v' (d++e)→w.grownBy w' v.ownBlock→(∀g,v'.ownBlock=some g→v.ownBlock=some g∨w.heap.size≤g)→K (a.put o.dst v') w'):if Region.wanted o (yielded ops a.tmps)=true then Oper.wp Tryz.prog o a w K Q else E:=by
 rw [if_pos (by simp [Region.wanted,hgd])]
 exact wp_appV s x ho base v d hv hown ax m c e hx hh hmc hnn hsz hbase h
theorem wp_appB {w:World} {o:Oper} {a:Act} {K:Act→World→Prop} {Q:Exit→Act→World→Prop} (s x:Operand)
 (ho:o.op=.call {callee:=.builtin .append,args:=#[s,x],argTypes:=#[30,30]})
 (base:Nat) (v:Value) (d:List Int) (hv:a.eval s=v) (hown:OwnsB w base v d) (ax:Option Addr) (m c:Nat) (e:List Int) (hx:a.eval x=.slice ax m c) (hh:HeldB w ax m e) (hmc:m≤c) (hnn:ax=none→c=0)
 (hsz:d.length+m≤10000000000000) (hbase:base≤w.heap.size)
 (h:∀v' w',OwnsB w' base v' (d++e)→w.grownBy w' v.ownBlock→(∀g,v'.ownBlock=some g→v.ownBlock=some g∨w.heap.size≤g)→K (a.put o.dst v') w'):o.wp Tryz.prog a w K Q:=
 wp_appH csB_len csB_one Tryz.underlying30 infoB rfl (by decide) s x ho base v d hv hown ax m c e hx hh hmc hnn (by unfold maxLen;omega) (by omega) hbase h
theorem step_appBH {w:World} {ops:Array Oper} {o:Oper} {a:Act} {K:Act→World→Prop} {Q:Exit→Act→World→Prop} {E:Prop} (hgd:o.guard=none) (s x:Operand)
 (ho:o.op=.call {callee:=.builtin .append,args:=#[s,x],argTypes:=#[30,30]})
 (base:Nat) (v:Value) (d:List Int) (hv:a.eval s=v) (hown:OwnsB w base v d) (ax:Option Addr) (m c:Nat) (e:List Int) (hx:a.eval x=.slice ax m c) (hh:HeldB w ax m e) (hmc:m≤c) (hnn:ax=none→c=0)
 (hsz:d.length+m≤10000000000000) (hbase:base≤w.heap.size)
 (h:∀v' w',OwnsB w' base v' (d++e)→w.grownBy w' v.ownBlock→(∀g,v'.ownBlock=some g→v.ownBlock=some g∨w.heap.size≤g)→K (a.put o.dst v') w'):if Region.wanted o (yielded ops a.tmps)=true then Oper.wp Tryz.prog o a w K Q else E:=by
 rw [if_pos (by simp [Region.wanted,hgd])]
 exact wp_appB s x ho base v d hv hown ax m c e hx hh hmc hnn hsz hbase h
theorem wpList_appBH {w:World} {ops:Array Oper} {rest:List Oper} {o:Oper} {a:Act} {Q:Exit→Act→World→Prop} (hgd:o.guard=none) (s x:Operand)
 (ho:o.op=.call {callee:=.builtin .append,args:=#[s,x],argTypes:=#[30,30]})
 (base:Nat) (v:Value) (d:List Int) (hv:a.eval s=v) (hown:OwnsB w base v d) (ax:Option Addr) (m c:Nat) (e:List Int) (hx:a.eval x=.slice ax m c) (hh:HeldB w ax m e) (hmc:m≤c) (hnn:ax=none→c=0)
 (hsz:d.length+m≤10000000000000) (hbase:base≤w.heap.size)
 (h:∀v' w',OwnsB w' base v' (d++e)→w.grownBy w' v.ownBlock→(∀g,v'.ownBlock=some g→v.ownBlock=some g∨w.heap.size≤g)→wpList Tryz.prog ops Q rest (a.put o.dst v') w'):wpList Tryz.prog ops Q (o::rest) a w:=
 wpList_plain hgd fun K hK=>wp_appB s x ho base v d hv hown ax m c e hx hh hmc hnn hsz hbase fun v' w' k1 k2 k3=>hK _ _ (h v' w' k1 k2 k3)
end
section
def ProgPost (b len cap N:Nat) (a:Option Addr) (n:Nat) (w:World) (e:Ending) (w':World):Prop:=
 ∃r zs N',e=.returned r∧OwnsB w' w.heap.size r zs∧zs.length≤12 * n∧(∀z∈zs,S.byt z)∧N'≤N+1+40 * n∧Nb w' b a len cap N'∧w.grownBy w' (some b)
def PgI (b len cap N:Nat) (a:Option Addr) (n:Nat) (w:World) (k N':Nat) (zs:List Int) (v:Value) (wr:World):Prop:=
 zs.length+12 * k≤12 * n∧N'+40 * k≤N+1+40 * n∧(∀z∈zs,S.byt z)∧OwnsB wr w.heap.size v zs∧w.grownBy wr (some b)∧Nb wr b a len cap N'
theorem PgI.step {b len cap N:Nat} {a:Option Addr} {n:Nat} {w:World} {k N':Nat} {zs:List Int} {v:Value} {wr:World} (h:PgI b len cap N a n w (k+1) N' zs v wr) {M:Nat} {l:List Int} {v':Value} {W W':World} (hM:M≤N'+40) (hl:l.length≤12) (hb:∀z∈l,S.byt z) (ho:OwnsB W' w.heap.size v' (zs++l)) (hg:wr.grownBy W (some b)) (hn:Nb W b a len cap M) (hG:W.grownBy W' v.ownBlock) (hw:b < w.heap.size):PgI b len cap N a n w k M (zs++l) v' W':=by
 obtain ⟨h1,h2,h3,h4,h5,h6⟩:=h
 have low:∀g,v.ownBlock=some g→w.heap.size≤g:=fun g e=>(World.ownsRow.lt h4 g e).1
 exact ⟨by rw [List.length_append];omega,by omega,byt_app h3 hb,ho,grown_trans2 (h5.trans hg) hG (fun g e=> .inr (low g e)),hn.grown hG (fun g e=>by have:=low g e;omega)⟩
theorem PgI.own {b len cap N:Nat} {a:Option Addr} {n:Nat} {w:World} {k N':Nat} {zs:List Int} {v:Value} {wr W:World} (h:PgI b len cap N a n w k N' zs v wr) (hw:b < w.heap.size) (hg:wr.grownBy W (some b)):OwnsB W w.heap.size v zs∧w.heap.size≤W.heap.size:=⟨h.2.2.2.1.kept hg (fun g e=>by injection e with e;omega),Nat.le_trans h.2.2.2.2.1.size hg.size⟩
@[noinline] def regOf (k:Nat) (f:Func):Array Oper:=match f.body with
 |some c=>(regOps c k).getD #[]
 |_=>#[]
noncomputable abbrev pgOps:Array Oper:=regOf 8 Tryz.f29
def pgA:Array Value:=#[.int .u8 33,.int .u8 49,.int .u8 1,.int .u8 17]
def pgB:Array Value:=#[.int .u8 0,.int .u8 0,.int .u8 1,.int .u8 255]
def pgJ (v:Value):List Kd:=[.own v,.sl 4 pgA,.box,.nx 4,.ix 4 pgA,.by8,.box,.nx 256,.by8,.sl 4 pgB,.box,.nx 4,.ix 4 pgB,.by8,.bl 3]
theorem pgA_el:∀k,k < 4→∃z:Int,S.byt z∧pgA[k]? =some (.int .u8 z):=fun k h=>by
 match k,h with
 |0,_=>exact ⟨_,⟨by decide,by decide⟩,rfl⟩
 |1,_=>exact ⟨_,⟨by decide,by decide⟩,rfl⟩
 |2,_=>exact ⟨_,⟨by decide,by decide⟩,rfl⟩
 |3,_=>exact ⟨_,⟨by decide,by decide⟩,rfl⟩
 |k+4,h=>exact absurd h (by omega)
theorem pgB_el:∀k,k < 4→∃z:Int,S.byt z∧pgB[k]? =some (.int .u8 z):=fun k h=>by
 match k,h with
 |0,_=>exact ⟨_,⟨by decide,by decide⟩,rfl⟩
 |1,_=>exact ⟨_,⟨by decide,by decide⟩,rfl⟩
 |2,_=>exact ⟨_,⟨by decide,by decide⟩,rfl⟩
 |3,_=>exact ⟨_,⟨by decide,by decide⟩,rfl⟩
 |k+4,h=>exact absurd h (by omega)
section
variable {b N:Nat} {w0:World} {a0:Act} {n:Nat} {L:Array Bool} {a:Act} {w:World} {i:Nat} {len cap:Nat} {aa:Option Addr} {Q:Exit→Act→World→Prop} {v5:Value}
theorem pg_all (hb0:Nb w0 b aa len cap N) (hM:N≤80000000) (hn:n < 17) (hz:a0.tmps.size=75) (h0:a0.tmps.getD 0 undef=.pointer (some ⟨b,0,none⟩)) (h5:a0.tmps.getD 5 undef=v5):
 ∀i,Mv (pgJ v5) 32 b N w0 a0 n L a w→i < 15→i∈Region.ready .any pgOps L→MStep pgOps (pgJ v5) 32 b N w0 a0 Q n L a w i:=by
 have hs:32+(pgJ v5).length≤a0.tmps.size:=by rw [hz];exact Nat.le_of_ble_eq_true rfl
 intro i h hi hr
 match i,h,hi,hr with
 |0,h,_,hr=>exact mp_move (s:=5) h hs rfl (by omega) h5 rfl (by kernel_rfl)
 |1,h,_,hr=>exact mp_slice (parts:=#[(0,.const (.int .u8 33)),(1,.const (.int .u8 49)),(2,.const (.int .u8 1)),(3,.const (.int .u8 17))]) h hs rfl (by kernel_rfl) rfl (by simp [go_sem,pgA,Act.eval]) hb0
 |2,h,_,hr=>exact mp_move (s:=0) h hs rfl (by omega) h0 rfl (by kernel_rfl)
 |3,h,_,hr=>exact mp_next (c:=4) (j:=2) (by omega) h hs hr rfl (by kernel_rfl) rfl (by kernel_rfl) hb0 (by omega) (by omega)
 |4,h,_,hr=>exact mp_ix (m:=4) (c:=pgA) (j1:=1) (j2:=3) h hs hr rfl (by kernel_rfl) rfl (by kernel_rfl) rfl (by kernel_rfl)
 |5,h,_,hr=>exact mp_load (m:=4) (c:=pgA) (j:=4) h hs hr rfl (by kernel_rfl) rfl (by kernel_rfl) pgA_el
 |6,h,_,hr=>exact mp_move (s:=0) h hs rfl (by omega) h0 rfl (by kernel_rfl)
 |7,h,_,hr=>exact mp_next (c:=256) (j:=6) (by omega) h hs hr rfl (by kernel_rfl) rfl (by kernel_rfl) hb0 (by omega) (by omega)
 |8,h,_,hr=>exact mp_conv (c:=256) (j:=7) (by omega) h hs hr rfl (by kernel_rfl) rfl (by kernel_rfl)
 |9,h,_,hr=>exact mp_slice (parts:=#[(0,.const (.int .u8 0)),(1,.const (.int .u8 0)),(2,.const (.int .u8 1)),(3,.const (.int .u8 255))]) h hs rfl (by kernel_rfl) rfl (by simp [go_sem,pgB,Act.eval]) hb0
 |10,h,_,hr=>exact mp_move (s:=0) h hs rfl (by omega) h0 rfl (by kernel_rfl)
 |11,h,_,hr=>exact mp_next (c:=4) (j:=10) (by omega) h hs hr rfl (by kernel_rfl) rfl (by kernel_rfl) hb0 (by omega) (by omega)
 |12,h,_,hr=>exact mp_ix (m:=4) (c:=pgB) (j1:=9) (j2:=11) h hs hr rfl (by kernel_rfl) rfl (by kernel_rfl) rfl (by kernel_rfl)
 |13,h,_,hr=>exact mp_load (m:=4) (c:=pgB) (j:=12) h hs hr rfl (by kernel_rfl) rfl (by kernel_rfl) pgB_el
 |14,h,_,hr=>exact mp_bytes3 (j1:=5) (j2:=8) (j3:=13) h hs hr rfl (by kernel_rfl) rfl (by kernel_rfl) rfl (by kernel_rfl) rfl (by kernel_rfl) hb0
 |i+15,_,hi,_=>exact absurd hi (by omega)
theorem st_appB {ops:Array Oper} {s x t:Nat} {K:Act→World→Prop} (ho:(ops[i]?).map (fun o=>(o.dst,o.op,o.guard))=some (some t,.call {callee:=.builtin .append,args:=#[.tmp s,.tmp x],argTypes:=#[30,30]},none)) (base:Nat) (v:Value) (d:List Int) (hv:a.tmps.getD s undef=v) (hown:OwnsB w base v d) (ax:Option Addr) (m c:Nat) (e:List Int) (hx:a.tmps.getD x undef=.slice ax m c) (hh:HeldB w ax m e) (hmc:m≤c) (hnn:ax=none→c=0) (hsz:d.length+m≤10000000000000) (hbase:base≤w.heap.size)
 (h:∀v' w',OwnsB w' base v' (d++e)→w.grownBy w' v.ownBlock→K (a.put (some t) v') w'):wpOp Tryz.prog ops Q i K a w:=by
 obtain ⟨ty,pos,aft,ho⟩:=op_of ho
 unfold wpOp
 simp only [ho,Region.wanted,if_true]
 exact .inl (wp_appB (.tmp s) (.tmp x) rfl base v d hv hown ax m c e hx hh hmc hnn hsz hbase (fun v' w' k1 k2 _=>h v' w' k1 k2))
theorem pg_region {base:Nat} {zs:List Int} (hb0:Nb w0.drew b aa len cap N) (hM:N≤80000000) (hz:a0.tmps.size=75) (h0:a0.tmps.getD 0 undef=.pointer (some ⟨b,0,none⟩)) (h5:a0.tmps.getD 5 undef=v5) (ho:OwnsB w0 base v5 zs) (hl:zs.length≤1000000) (hb:b < base) (hbase:base≤w0.heap.size)
 (hK:∀(a:Act) (w W:World) (M:Nat) (l:List Int) (v':Value),a.defers=a0.defers→a.tmps.size=a0.tmps.size→(∀j,j≠5→(j < 32∨48≤j)→a.tmps.getD j undef=a0.tmps.getD j undef)→a.tmps.getD 5 undef=v'→M≤N+30→l.length=3→(∀z∈l,S.byt z)→Up w0 b M W→OwnsB w base v' (zs++l)→W.grownBy w v5.ownBlock→Q .normal a w):
 (Code.region 8 pgOps true).wp Tryz.prog Q a0 w0:=by
 have hs:32+(pgJ v5).length≤a0.tmps.size:=by rw [hz];exact Nat.le_of_ble_eq_true rfl
 have sz:pgOps.size=17:=by kernel_rfl
 refine wp_region_any (by kernel_rfl) ?_
 refine wpAny_pre 15 (Mv (pgJ v5) 32 b N w0.drew a0) (by rw [sz];omega) (by kernel_rfl) (fun n L a w h j hj=>h.g j hj) ?_ (fun n L a' w' i hn hz' h hi hr=>pg_all hb0 hM (by rw [sz] at hn;exact hn) hz h0 h5 i h hi hr) ?_ _ 0 (Array.replicate pgOps.size false) _ _ (by rw [Nat.zero_add]) (by simp) (by simp [List.countP_replicate]) ?_ ?_
 ·intro i h1 h2
  rw [sz] at h2
  rcases (by omega:i=15∨i=16) with rfl|rfl
  ·kernel_rfl
  ·kernel_rfl
 ·intro a w h
  obtain ⟨M,hM1,hU⟩:=h.u
  have all:∀i,i < 15→(pre 15 pgOps.size).getD i false=true:=fun i hi=>pre_get hi (by rw [sz];omega)
  obtain ⟨bs,l,c,e14,hne,hll,hlb,hc,hh⟩:=h.m 14 (.bl 3) rfl (all 14 (by omega))
  have e0:a.tmps.getD 32 undef=v5:=h.m 0 (.own v5) rfl (all 0 (by omega))
  have hgr:w0.grownBy w (some b):=(gb_drew (World.grownBy.refl w0 _)).trans hU.grown
  have hO:OwnsB w base v5 zs:=ho.kept hgr (fun g e=>by injection e with e;omega)
  have hbw:bs < w.heap.size:=(Array.getElem?_eq_some_iff.1 hh).1
  rw [sz]
  refine wpAny_1 (i:=15) (by kernel_rfl) ?_
  refine st_appB (s:=32) (x:=46) (t:=47) (by kernel_rfl) base v5 zs e0 hO (some ⟨bs,0,none⟩) 3 3 l e14 ⟨hll,by omega,fun _=>⟨bs,0,rfl,hbw,fun j u hu=> ?_⟩⟩ (Nat.le_refl _) (fun e=>by cases e) (by omega) (Nat.le_trans hbase hgr.size) (fun v' w' hO' hG'=> ?_)
  ·rw [Nat.zero_add,cell_of_row w bs j _ _ _ hh]
   rw [←hc] at hu
   simpa using hu
  refine wpAny_1 (i:=16) (by kernel_rfl) ?_
  have hz2:a.tmps.size=75:=h.z.trans hz
  refine st_assign (s:=47) (t:=5) (v:=v') (by kernel_rfl) (put_same _ _ _ (by omega)) ?_
  refine ⟨by kernel_rfl,?_⟩
  refine hK _ _ w M l v' h.d (by rw [put_size,put_size];exact h.z) (fun j hj hj2=> ?_) (put_same _ _ _ (by rw [put_size];omega)) hM1 hll hlb hU hO' hG'
  rw [put_other _ _ _ _ hj,put_other _ _ _ _ (by omega)]
  exact h.o j (by simp [pgJ];omega)
 ·exact fun j hj=>(by rw [replicate_getD] at hj;cases hj)
 ·exact ⟨rfl,rfl,fun _ _=>rfl,⟨N,by omega,Up.reflJ hb0⟩,fun j _=>replicate_getD _ j,fun i k _ hl=>by rw [replicate_getD] at hl;cases hl⟩
end
theorem act_set (a:Act) {a0:Act} (js:List Nat) (hd:a.defers=a0.defers) (hz:a.tmps.size=a0.tmps.size) (ho:∀j,j∉js→a.tmps.getD j undef=a0.tmps.getD j undef):a=⟨js.foldl (fun t j=>t.setIfInBounds j (a.tmps.getD j undef)) a0.tmps,a0.defers⟩:=by
 have key:∀(js:List Nat) (t:Array Value),t.size=a.tmps.size→(∀j,j∉js→a.tmps.getD j undef=t.getD j undef)→js.foldl (fun t j=>t.setIfInBounds j (a.tmps.getD j undef)) t=a.tmps:=by
  intro js
  induction js with
  |nil=>
   intro t ht h
   apply Array.ext ht
   intro i h1 h2
   have:=h i (by simp)
   simp [Array.getD,h1,h2] at this
   exact this.symm
  |cons x js ih=>
   intro t ht h
   rw [List.foldl_cons]
   refine ih _ (by simpa using ht) (fun j hj=> ?_)
   by_cases e:j=x
   ·subst e
    by_cases hl:j < a.tmps.size
    ·simp [Array.getD,hl,ht]
    ·simp [Array.getD,hl,ht]
   ·rw [h j (by simp [e,hj])]
    simp [Array.getD_eq_getD_getElem?,Array.getElem?_setIfInBounds_ne (Ne.symm e)]
 obtain ⟨t,d⟩:=a
 simp only at hd
 subst hd
 rw [key js a0.tmps hz.symm ho]
theorem prog_mk (b len cap N:Nat) (a:Option Addr) (n:Nat) (hn:n≤100) (hN:N≤1000000) (w:World) (h:Nb w b a len cap N):
 Calls Tryz.prog 29 #[.pointer (some ⟨b,0,none⟩),.int .i64 (n:Int)] w (ProgPost b len cap N a n w):=by
 have hbw:=h.lt
 have H0:Hid _:=Lib.hid h
 clear h
 go_enter Tryz.func29,Tryz.ntmps29
 go_wp2_with (go_at_call 26;(with_reducible refine (nx_any b len cap N a _ (by omega) (by omega) (by omega) w H0.out).mono ?_);rintro e w1 ⟨y0,M1,hy00,hy01,hM1,rfl,hU1⟩)
 obtain ⟨k0,rfl⟩:∃k:Nat,y0=(k:Int):=⟨y0.toNat,by omega⟩
 have HI0:=Lib.hid (show PgI b len cap N a n w k0 M1 [] (.slice none 0 0) w1 from ⟨by simp;omega,by omega,byt_nil,OwnsG.nil _ _,hU1.grown,H0.out.up hU1⟩)
 clear hU1 H0
 go_loopw [5,6] (fun v5 v6 wr=>∃(k N':Nat) (zs:List Int),v6=.int .i64 (k:Int)∧Hid (PgI b len cap N a n w k N' zs v5 wr)) (fun _ v6 _=>(intOf v6).toNat)
 case atStart=>exact ⟨k0,M1,[],rfl,HI0⟩
 case round=>
  obtain ⟨k,N',zs,rfl,HI⟩:=hrel
  have H:=Lib.hid HI.out.2.2.2.2.2
  have HL:=Lib.hid (And.intro HI.out.1 HI.out.2.1)
  have hbr:=HI.out.2.2.2.2.2.lt
  have hNN:N'≤1005000:=by have:=HL.out.2;omega
  by_cases hlt:0 < k
  ·obtain ⟨j,rfl⟩:∃j,k=j+1:=⟨k - 1,by omega⟩
   have hkz:(0:Int) < (j:Int)+1:=by omega
   have hjb:j≤100:=by have:=HL.out.1;omega
   go_upto_if 30 with (go_at_call 26;(with_reducible refine (nx_any b len cap N' a 8 (by omega) (by omega) (by omega) _ nbx).mono ?_);rintro e w' ⟨y,M1,hy0,hy1,hM1,rfl,⟨⟨n1,os1⟩,rfl⟩⟩)
   rcases (by omega:y=0∨y=1∨y=2∨y=3∨4≤y) with rfl|rfl|rfl|rfl|h4
   ·have g0:((0:Int)==0)=true:=by decide
    simp only [g0]
    go_wp2_with fail
    refine region_as (ops':=pgOps) (by kernel_rfl) ?_
    refine pg_region (b:=b) (N:=M1) (len:=len) (cap:=cap) (aa:=a) (v5:=u5) (base:=w.heap.size) (zs:=zs) (Nb.drew nbx) (by omega) rfl rfl rfl (HI.out.own hbw gbx).1 (by have:=HL.out.1;omega) hbw (HI.out.own hbw gbx).2 (fun a' w' W M l v' hd hsz ho h5 hM hll hlb hU hO hG=> ?_)
    have key:=act_set a' [5,32,33,34,35,36,37,38,39,40,41,42,43,44,45,46,47] hd hsz (fun j hj=>ho j (fun e=>hj (by simp [e])) (by simp at hj;omega))
    simp only [List.foldl_cons,List.foldl_nil,List.setIfInBounds_toArray,List.set_cons_zero,List.set_cons_succ,h5] at key
    have HI4:=HI.out.step (M:=M) (l:=l) (by omega) (by omega) hlb hO (World.grownBy.trans gbx hU.grown) (Nb.up (N:=M1) nbx hU) hG hbw
    have HI4:=Lib.hid HI4
    clear hd hsz ho h5 hU hO hG
    generalize a'.tmps.getD 32 undef=x32 at key
    generalize a'.tmps.getD 33 undef=x33 at key
    generalize a'.tmps.getD 34 undef=x34 at key
    generalize a'.tmps.getD 35 undef=x35 at key
    generalize a'.tmps.getD 36 undef=x36 at key
    generalize a'.tmps.getD 37 undef=x37 at key
    generalize a'.tmps.getD 38 undef=x38 at key
    generalize a'.tmps.getD 39 undef=x39 at key
    generalize a'.tmps.getD 40 undef=x40 at key
    generalize a'.tmps.getD 41 undef=x41 at key
    generalize a'.tmps.getD 42 undef=x42 at key
    generalize a'.tmps.getD 43 undef=x43 at key
    generalize a'.tmps.getD 44 undef=x44 at key
    generalize a'.tmps.getD 45 undef=x45 at key
    generalize a'.tmps.getD 46 undef=x46 at key
    generalize a'.tmps.getD 47 undef=x47 at key
    subst key
    go_wp2_with fail
    go_roundw
    case rel=>exact ⟨j,M,_,by go_num,HI4⟩
    case measure=>simp [intOf]<;>omega
   ·have g0:((1:Int)==0)=false:=by decide
    simp only [g0]
    go_wp2_with (first
     |(go_at_call 27;(with_reducible refine (byt_any b len cap M1 a (by omega) _ nbx).mono ?_);rintro e w' ⟨y2,M2,hy20,hy21,hM2,rfl,⟨⟨n2,os2⟩,rfl⟩⟩)
     |(go_at_call 26;(with_reducible refine (nx_any b len cap M2 a 8 (by omega) (by omega) (by omega) _ nbx).mono ?_);rintro e w' ⟨y3,M3,hy30,hy31,hM3,rfl,⟨⟨n3,os3⟩,rfl⟩⟩;obtain ⟨hwr,hwr2⟩:=wrap8 (y:=y3) (by omega) (by omega))
     |(at_builtin;refine wpList_appB rfl _ _ rfl w.heap.size u5 zs rfl (HI.out.own hbw gbx).1 ⟨_,0,none⟩ 4 4 [62,y2,211,y3] rfl rfl (at_rowB (c:=#[.int .u8 62,.int .u8 y2,.int .u8 211,.int .u8 y3]) (by simp [go_sem]) rfl) (by have:=HL.out.1;omega) (HI.out.own hbw gbx).2 ?_;intro v5 w5 hO5 hG5))
    go_roundw
    case rel=>exact ⟨j,M3,_,by go_num,HI.out.step (by omega) (by simp) (byt_cons ⟨by omega,by omega⟩ (byt_cons ⟨hy20,hy21⟩ (byt_cons ⟨by omega,by omega⟩ (byt_1 ⟨by omega,by omega⟩)))) hO5 gbx nbx hG5 hbw⟩
    case measure=>simp [intOf]<;>omega
   ·have g0:((2:Int)==0)=false:=by decide
    simp only [g0]
    go_wp2_with (at_builtin;refine wpList_appB rfl _ _ rfl w.heap.size u5 zs rfl (HI.out.own hbw gbx).1 ⟨_,0,none⟩ 1 1 [251] rfl rfl (at_rowB (c:=#[.int .u8 251]) (by simp [go_sem]) rfl) (by have:=HL.out.1;omega) (HI.out.own hbw gbx).2 ?_;intro v5 w5 hO5 hG5)
    go_roundw
    case rel=>exact ⟨j,M1,_,by go_num,HI.out.step (by omega) (by simp) (byt_1 ⟨by omega,by omega⟩) hO5 gbx nbx hG5 hbw⟩
    case measure=>simp [intOf]<;>omega
   ·have g0:((3:Int)==0)=false:=by decide
    simp only [g0]
    go_wp2_with (first
     |(go_at_call 27;(with_reducible refine (byt_any b len cap M2 a (by omega) _ nbx).mono ?_);rintro e w' ⟨y3,M3,hy30,hy31,hM3,rfl,⟨⟨n3,os3⟩,rfl⟩⟩)
     |(go_at_call 26;(with_reducible refine (nx_any b len cap M1 a 16 (by omega) (by omega) (by omega) _ nbx).mono ?_);rintro e w' ⟨y2,M2,hy20,hy21,hM2,rfl,⟨⟨n2,os2⟩,rfl⟩⟩;obtain ⟨hwr,hwr2⟩:=wrap8 (y:=16+y2) (by omega) (by omega))
     |(at_builtin;refine wpList_appB rfl _ _ rfl w.heap.size u5 zs rfl (HI.out.own hbw gbx).1 ⟨_,0,none⟩ 12 12 [62,16+y2,211,0,62,y3,211,1,62,0,211,1] rfl rfl (at_rowB (c:=#[.int .u8 62,.int .u8 (16+y2),.int .u8 211,.int .u8 0,.int .u8 62,.int .u8 y3,.int .u8 211,.int .u8 1,.int .u8 62,.int .u8 0,.int .u8 211,.int .u8 1]) (by simp [go_sem]) rfl) (by have:=HL.out.1;omega) (HI.out.own hbw gbx).2 ?_;intro v5 w5 hO5 hG5))
    go_roundw
    case rel=>
     exact ⟨j,M3,_,by go_num,HI.out.step (by omega) (by simp) (byt_cons ⟨by omega,by omega⟩ (byt_cons ⟨by omega,by omega⟩ (byt_cons ⟨by omega,by omega⟩ (byt_cons ⟨by omega,by omega⟩ (byt_cons ⟨by omega,by omega⟩ (byt_cons ⟨hy30,hy31⟩ (byt_cons ⟨by omega,by omega⟩ (byt_cons ⟨by omega,by omega⟩ (byt_cons ⟨by omega,by omega⟩ (byt_cons ⟨by omega,by omega⟩ (byt_cons ⟨by omega,by omega⟩ (byt_1 ⟨by omega,by omega⟩)))))))))))) hO5 gbx nbx hG5 hbw⟩
    case measure=>simp [intOf]<;>omega
   ·have g0:(y==0)=false:=by simp;omega
    simp only [g0]
    have g1:(y==1)=false:=by simp;omega
    have g2:(y==2)=false:=by simp;omega
    have g3:(y==3)=false:=by simp;omega
    go_wp2_with (first
     |(go_at_call 30;(with_reducible refine (opc_any b len cap M1 a (by omega) nbx).mono ?_);rintro e w' ⟨y2,M2,hy20,hy21,hM2,rfl,⟨⟨n2,os2⟩,rfl⟩⟩)
     |(go_at_call 26;(with_reducible refine (nx_any b len cap M3 a 4 (by omega) (by omega) (by omega) _ nbx).mono ?_);rintro e w' ⟨y4,M4,hy40,hy41,hM4,rfl,⟨⟨n4,os4⟩,rfl⟩⟩;obtain ⟨k4,o4,rfl,ho40,ho41,hk4,hc4⟩:=lt4b y4 hy40 hy41)
     |(go_at_call 26;(with_reducible refine (nx_any b len cap M2 a 64 (by omega) (by omega) (by omega) _ nbx).mono ?_);rintro e w' ⟨y3,M3,hy30,hy31,hM3,rfl,⟨⟨n3,os3⟩,rfl⟩⟩;obtain ⟨hwr,hwr2⟩:=wrap8 (y:=y3) (by omega) (by omega))
     |(at_builtin;refine wpList_appB rfl _ _ rfl w.heap.size u5 zs rfl (HI.out.own hbw gbx).1 ⟨_,0,none⟩ 3 3 [y2,y3,o4] rfl rfl (at_rowB (c:=#[.int .u8 y2,.int .u8 y3,.int .u8 o4]) (by simp [go_sem]) rfl) (by have:=HL.out.1;omega) (HI.out.own hbw gbx).2 ?_;intro v5 w5 hO5 hG5))
    all_goals
     go_roundw
     case rel=>exact ⟨j,M4,_,by go_num,HI.out.step (by omega) (by simp) (byt_cons ⟨hy20,hy21⟩ (byt_cons ⟨by omega,by omega⟩ (byt_1 ⟨ho40,ho41⟩))) hO5 gbx nbx hG5 hbw⟩
     case measure=>simp [intOf]<;>omega
  ·obtain rfl:k=0:=by omega
   go_wp2_with fail
   go_ret
   exact ⟨_,zs,N',rfl,HI.out.2.2.2.1,by have:=HL.out.1;omega,HI.out.2.2.1,by have:=HL.out.2;omega,HI.out.2.2.2.2.2,HI.out.2.2.2.2.1⟩
end
namespace K12
abbrev Cl:=Int×Int
namespace Sm
def V (d:List Cl):Prop:=d.Pairwise (fun a b=>a.1 < b.1)∧∀c∈d,c.2≠0
def okAt (d:List Cl) (i:Nat):Bool:=((d.getD i (0,0)).2 !=0) && (i==0||decide ((d.getD (i - 1) (0,0)).1 < (d.getD i (0,0)).1))
def valid (d:List Cl):Bool:=(List.range d.length).all (okAt d)
def pickd (x:Int) (d:List Cl):List Cl:=d.filter fun c=>c.1==x
def get (d:List Cl) (x:Int):Int:=((pickd x d).getLast?.map (·.2)).getD 0
def putStep (c:Cl) (s:List Cl×Bool) (y:Cl):List Cl×Bool:=
 if y.1 !=c.1 then ((if !s.2 && decide (c.1≤y.1) then (if c.2 !=0 then s.1++[c] else s.1) else s.1)++[y],s.2||decide (c.1≤y.1))
 else ((if !s.2 && decide (c.1≤y.1) then (if c.2 !=0 then s.1++[c] else s.1) else s.1),s.2||decide (c.1≤y.1))
def putS (c:Cl) (m:List Cl):List Cl×Bool:=m.foldl (putStep c) ([],false)
def put (m:List Cl) (c:Cl):List Cl:=if !(putS c m).2 && c.2 !=0 then (putS c m).1++[c] else (putS c m).1
def nrm (l:List Cl):List Cl:=if valid l then l else l.foldl put []
theorem all_range (n:Nat) (p:Nat→Bool):(List.range n).all p=true↔∀i,i < n→p i=true:=by simp
theorem okAt_iff (d:List Cl) (i:Nat) (c:Cl) (h:d[i]? =some c):okAt d i=true↔c.2≠0∧(∀e j,j+1=i→d[j]? =some e→e.1 < c.1):=by
 have hi:i < d.length:=(List.getElem?_eq_some_iff.1 h).1
 unfold okAt
 rw [List.getD_eq_getElem?_getD,List.getD_eq_getElem?_getD,h]
 cases i with
 |zero=>simp
 |succ j=>
  have hj:d[j]? =some d[j]:=List.getElem?_eq_getElem (by omega)
  simp [hj]
theorem valid_iff (d:List Cl):valid d=true↔V d:=by
 unfold valid
 rw [all_range]
 constructor
 ·intro h
  have hk:∀(i:Nat) (c:Cl),d[i]? =some c→c.2≠0∧(∀e j,j+1=i→d[j]? =some e→e.1 < c.1):=fun i c hc=>(okAt_iff d i c hc).1 (h i (List.getElem?_eq_some_iff.1 hc).1)
  have hlt:∀(n i:Nat) (c e:Cl),d[i]? =some c→d[i+n+1]? =some e→c.1 < e.1:=by
   intro n
   induction n with
   |zero=>intro i c e hc he;exact (hk _ _ he).2 _ _ rfl hc
   |succ n ih=>
    intro i c e hc he
    have hm:i+n+1 < d.length:=by have:=(List.getElem?_eq_some_iff.1 he).1;omega
    have h1:=ih i c _ hc (List.getElem?_eq_getElem hm)
    have h2:=(hk _ _ he).2 _ _ rfl (List.getElem?_eq_getElem (by omega:i+(n+1) < d.length))
    have h3:d[i+n+1]=d[i+(n+1)]:=rfl
    rw [h3] at h1;omega
  refine ⟨List.pairwise_iff_getElem.2 fun i j hi hj hij=> ?_,fun c hc=> ?_⟩
  ·exact hlt (j - i - 1) i _ _ (List.getElem?_eq_getElem hi) (by rw [show i+(j - i - 1)+1=j by omega];exact List.getElem?_eq_getElem hj)
  ·obtain ⟨i,hi⟩:=List.getElem?_of_mem hc
   exact (hk _ _ hi).1
 ·rintro ⟨h1,h2⟩ i hi
  have hc:=List.getElem?_eq_getElem hi
  refine (okAt_iff d i _ hc).2 ⟨h2 _ (List.getElem_mem hi),fun e j hj he=> ?_⟩
  obtain ⟨hj',rfl⟩:=List.getElem?_eq_some_iff.1 he
  exact List.pairwise_iff_getElem.1 h1 j i hj' hi (by omega)
theorem valid_no (d:List Cl) (k:Nat) (hk:k < d.length) (h:okAt d k=false):valid d=false:=by
 cases hv:valid d with
 |false=>rfl
 |true=>rw [valid,all_range] at hv;rw [hv k hk] at h;cases h
theorem valid_yes (d:List Cl) (h:∀i,i < d.length→okAt d i=true):valid d=true:=by rw [valid,all_range];exact h
theorem pickd_app (x:Int) (a b:List Cl):pickd x (a++b)=pickd x a++pickd x b:=by simp [pickd]
theorem pickd_cons (x:Int) (c:Cl) (r:List Cl):pickd x (c::r)=if c.1=x then c::pickd x r else pickd x r:=by
 by_cases h:c.1=x<;>simp [pickd,h]
theorem pickd_none {x:Int} {d:List Cl} (h:∀c∈d,c.1≠x):pickd x d=[]:=List.filter_eq_nil_iff.2 fun c hc=>by simpa using h c hc
theorem pickd_nil (x:Int):pickd x []=[]:=rfl
theorem get_of_pickd {d d':List Cl} {x:Int} (h:pickd x d=pickd x d'):get d x=get d' x:=by simp [get,h]
theorem get_nil (x:Int):get [] x=0:=rfl
theorem get_hit (p q:List Cl) (x v:Int) (h:∀c∈q,c.1≠x):get (p++(x,v)::q) x=v:=by
 unfold get
 rw [pickd_app,pickd_cons,if_pos rfl,pickd_none h]
 simp
theorem get_miss (d:List Cl) (x:Int) (h:∀c∈d,c.1≠x):get d x=0:=by unfold get;rw [pickd_none h];rfl
theorem get_snoc (d:List Cl) (c:Cl) (x:Int):get (d++[c]) x=if c.1=x then c.2 else get d x:=by
 unfold get
 rw [pickd_app,pickd_cons,pickd_nil]
 by_cases h:c.1=x<;>simp [h]
theorem V.tail {d:List Cl} {c:Cl} (h:V (c::d)):V d:=⟨(List.pairwise_cons.1 h.1).2,fun e he=>h.2 e (by simp [he])⟩
theorem V_nil:V []:=⟨List.Pairwise.nil,by simp⟩
theorem V_app {a b:List Cl} (ha:V a) (hb:V b) (h:∀x∈a,∀y∈b,x.1 < y.1):V (a++b):=
 ⟨List.pairwise_append.2 ⟨ha.1,hb.1,h⟩,fun c hc=>(List.mem_append.1 hc).elim (ha.2 c) (hb.2 c)⟩
theorem V.left {a b:List Cl} (h:V (a++b)):V a:=⟨(List.pairwise_append.1 h.1).1,fun c hc=>h.2 c (by simp [hc])⟩
theorem V.right {a b:List Cl} (h:V (a++b)):V b:=⟨(List.pairwise_append.1 h.1).2.1,fun c hc=>h.2 c (by simp [hc])⟩
theorem V_one {c:Cl} (h:c.2≠0):V [c]:=⟨List.pairwise_singleton _ _,by simp [h]⟩
theorem get_app_right {a b:List Cl} {x:Int} (h:∀c∈a,c.1≠x):get (a++b) x=get b x:=get_of_pickd (by rw [pickd_app,pickd_none h];rfl)
theorem get_app_left {a b:List Cl} {x:Int} (h:∀c∈b,c.1≠x):get (a++b) x=get a x:=get_of_pickd (by rw [pickd_app,pickd_none h,List.append_nil])
def one (c:Cl):List Cl:=if c.2 !=0 then [c] else []
theorem putS_low (c:Cl):∀(l:List Cl) (s:List Cl),(∀y∈l,y.1 < c.1)→l.foldl (putStep c) (s,false)=(s++l,false)
 |[],s,_=>by simp
 |y::l,s,h=>by
  have hy:=h y (by simp)
  have e:putStep c (s,false) y=(s++[y],false):=by
   unfold putStep
   have h1:(y.1 !=c.1)=true:=by simp;omega
   have h2:decide (c.1≤y.1)=false:=decide_eq_false (by omega)
   simp [h1,h2]
  rw [List.foldl_cons,e,putS_low c l _ (fun z hz=>h z (by simp [hz]))]
  simp
theorem putS_done (c:Cl):∀(l:List Cl) (s:List Cl),l.foldl (putStep c) (s,true)=(s++l.filter (fun y=>y.1 !=c.1),true)
 |[],s=>by simp
 |y::l,s=>by
  rw [List.foldl_cons]
  by_cases h1:(y.1 !=c.1)=true
  ·have e:putStep c (s,true) y=(s++[y],true):=by unfold putStep;simp [h1]
   rw [e,putS_done c l,List.filter_cons,if_pos h1]
   simp
  ·have e:putStep c (s,true) y=(s,true):=by unfold putStep;simp [h1]
   rw [e,putS_done c l,List.filter_cons,if_neg h1]
theorem put_form (c:Cl) (l r:List Cl) (hl:∀y∈l,y.1 < c.1) (hr:∀y∈r,c.1≤y.1):put (l++r) c=l++one c++r.filter (fun y=>y.1 !=c.1):=by
 have e:putS c (l++r)=if r=[] then (l,false) else (l++one c++r.filter (fun y=>y.1 !=c.1),true):=by
  unfold putS
  rw [List.foldl_append,putS_low c l [] hl]
  cases r with
  |nil=>simp
  |cons y r=>
   have hy:=hr y (by simp)
   rw [List.foldl_cons,if_neg (by simp)]
   have h2:decide (c.1≤y.1)=true:=decide_eq_true hy
   by_cases h1:(y.1 !=c.1)=true
   ·have e:putStep c ([]++l,false) y=(l++one c++[y],true):=by
     unfold putStep one
     simp only [h1,h2]
     by_cases h3:(c.2 !=0)=true<;>simp [h3]
    rw [e,putS_done,List.filter_cons,if_pos h1]
    simp
   ·have e:putStep c ([]++l,false) y=(l++one c,true):=by
     unfold putStep one
     simp only [h1,h2]
     by_cases h3:(c.2 !=0)=true<;>simp [h3]
    rw [e,putS_done,List.filter_cons,if_neg h1]
 unfold put
 rw [e]
 cases r with
 |nil=>by_cases h3:(c.2 !=0)=true<;>simp [one,h3]
 |cons y r=>simp
theorem split_at (m:List Cl) (h:V m) (x:Int):∃l r,m=l++r∧(∀y∈l,y.1 < x)∧∀y∈r,x≤y.1:=by
 refine ⟨m.filter (fun y=>decide (y.1 < x)),m.filter (fun y=> !decide (y.1 < x)),?_,by simp,by simp⟩
 induction m with
 |nil=>rfl
 |cons c m ih=>
  have ih:=ih h.tail
  have hc:=(List.pairwise_cons.1 h.1).1
  by_cases hx:c.1 < x
  ·simp only [List.filter_cons,decide_eq_true hx,if_true,Bool.not_true,Bool.false_eq_true,if_false,List.cons_append]
   rw [←ih]
  ·have:m.filter (fun y=>decide (y.1 < x))=[]:=by simp;intro a b hab;have:=hc _ hab;simp at this;omega
   have h2:m.filter (fun y=> !decide (y.1 < x))=m:=by simp [List.filter_eq_self];intro a b hab;have:=hc _ hab;simp at this;omega
   simp [hx,this]
   exact h2.symm
theorem filter_ne_V {r:List Cl} (hr:V r) (x:Int):V (r.filter (fun y=>y.1 !=x)):=⟨hr.1.filter _,fun c hc=>hr.2 c (List.mem_filter.1 hc).1⟩
theorem V_put {m:List Cl} (h:V m) (c:Cl):V (put m c):=by
 obtain ⟨l,r,rfl,hl,hr⟩:=split_at m h c.1
 rw [put_form c l r hl hr,List.append_assoc]
 have hr2:∀y∈r.filter (fun y=>y.1 !=c.1),c.1 < y.1:=fun y hy=>by
  obtain ⟨h1,h2⟩:=List.mem_filter.1 hy
  have:=hr y h1
  simp at h2;omega
 have hV:=filter_ne_V h.right c.1
 by_cases h3:c.2=0
 ·simp only [one,h3,bne_self_eq_false,Bool.false_eq_true,if_false,List.nil_append]
  exact V_app h.left hV fun x hx y hy=>by have:=hl x hx;have:=hr2 y hy;omega
 ·have:one c=[c]:=by simp [one,h3]
  rw [this]
  refine V_app h.left (V_app (V_one h3) hV (by simpa using hr2)) fun x hx y hy=> ?_
  have:=hl x hx
  rcases List.mem_append.1 hy with hy|hy
  ·simp at hy;subst hy;exact this
  ·have:=hr2 y hy;omega
theorem get_put {m:List Cl} (h:V m) (c:Cl) (x:Int):get (put m c) x=if c.1=x then c.2 else get m x:=by
 obtain ⟨l,r,rfl,hl,hr⟩:=split_at m h c.1
 rw [put_form c l r hl hr]
 have hr2:∀y∈r.filter (fun y=>y.1 !=c.1),c.1 < y.1:=fun y hy=>by
  obtain ⟨h1,h2⟩:=List.mem_filter.1 hy
  have:=hr y h1
  simp at h2;omega
 by_cases hx:c.1=x
 ·rw [if_pos hx,get_app_left (fun y hy=>by have:=hr2 y hy;omega),get_app_right (fun y hy=>by have:=hl y hy;omega)]
  by_cases h3:c.2=0
  ·simp [one,h3,get_nil]
  ·have:one c=[]++[c]:=by simp [one,h3]
   rw [this,get_snoc,if_pos hx]
 ·rw [if_neg hx]
  have h1:get (l++one c++r.filter (fun y=>y.1 !=c.1)) x=get (l++r.filter (fun y=>y.1 !=c.1)) x:=by
   refine get_of_pickd ?_
   rw [pickd_app,pickd_app,pickd_app,pickd_none (d:=one c) (by intro e he;unfold one at he;split at he;(simp at he;subst he;exact hx);cases he)]
   simp
  rw [h1]
  refine get_of_pickd ?_
  rw [pickd_app,pickd_app]
  congr 1
  simp only [pickd,List.filter_filter]
  congr 1;funext e
  by_cases he:e.1=x
  ·simp [he];omega
  ·simp [he]
theorem V_fold:∀(l m:List Cl),V m→V (l.foldl put m)
 |[],_,h=>h
 |c::l,m,h=>V_fold l _ (V_put h c)
theorem get_fold:∀(l m:List Cl) (x:Int),V m→get (l.foldl put m) x=get (m++l) x
 |[],m,x,_=>by simp
 |c::l,m,x,h=>by
  rw [List.foldl_cons,get_fold l _ x (V_put h c)]
  have e:m++c::l=(m++[c])++l:=by simp
  rw [e]
  by_cases hl:pickd x l=[]
  ·have h1:∀y:List Cl,get (y++l) x=get y x:=fun y=>get_of_pickd (by rw [pickd_app,hl,List.append_nil])
   rw [h1,h1,get_put h,get_snoc]
  ·unfold get
   rw [pickd_app,pickd_app,List.getLast?_append,List.getLast?_append]
   obtain ⟨z,hz⟩:∃z,(pickd x l).getLast? =some z:=by
    cases hq:(pickd x l).getLast? with
    |none=>exact absurd (List.getLast?_eq_none_iff.1 hq) hl
    |some z=>exact ⟨z,rfl⟩
   rw [hz];simp
theorem V_nrm (l:List Cl):V (nrm l):=by
 unfold nrm
 by_cases h:valid l=true
 ·rw [if_pos h];exact (valid_iff l).1 h
 ·rw [if_neg h];exact V_fold l [] V_nil
theorem get_nrm (l:List Cl) (x:Int):get (nrm l) x=get l x:=by
 unfold nrm
 by_cases h:valid l=true
 ·rw [if_pos h]
 ·rw [if_neg h,get_fold l [] x V_nil];rfl
theorem nrm_valid {l:List Cl} (h:valid l=true):nrm l=l:=by unfold nrm;rw [if_pos h]
def Srt (d:List Cl):Prop:=d.Pairwise fun a b=>a.1≤b.1
def Stb (d s:List Cl):Prop:=∀x,pickd x s=pickd x d
theorem Stb.refl (d:List Cl):Stb d d:=fun _=>rfl
theorem Stb.symm {a b:List Cl} (h:Stb a b):Stb b a:=fun x=>(h x).symm
theorem Stb.trans {a b c:List Cl} (h:Stb a b) (k:Stb b c):Stb a c:=fun x=>(k x).trans (h x)
theorem Stb.app {a b c d:List Cl} (h:Stb a b) (k:Stb c d):Stb (a++c) (b++d):=fun x=>by rw [pickd_app,pickd_app,h x,k x]
theorem mem_pickd {x:Int} {c:Cl} {d:List Cl}:c∈pickd x d↔c∈d∧c.1=x:=by simp [pickd]
theorem Stb.mem {a b:List Cl} (h:Stb a b) (c:Cl):c∈b↔c∈a:=by
 have h1:= @mem_pickd c.1 c a
 have h2:= @mem_pickd c.1 c b
 rw [h c.1] at h2
 simp only [and_true] at h1 h2
 rw [←h1,←h2]
theorem Stb.comm {a b:List Cl} (h:∀x∈a,∀y∈b,x.1≠y.1):Stb (a++b) (b++a):=fun z=>by
 rw [pickd_app,pickd_app]
 by_cases ha:pickd z a=[]
 ·simp [ha]
 ·have hb:pickd z b=[]:=by
   refine pickd_none fun c hc e=> ?_
   obtain ⟨u,hu⟩:=List.exists_mem_of_ne_nil _ ha
   obtain ⟨hu1,hu2⟩:=mem_pickd.1 hu
   exact h u hu1 c hc (by omega)
  simp [hb]
theorem srt_uniq:∀(a b:List Cl),Srt a→Srt b→Stb a b→a=b
 |[],[],_,_,_=>rfl
 |[],e::b,_,_,h=>by have:=(h.mem e).1 (by simp);cases this
 |c::a,[],_,_,h=>by have:=(h.mem c).2 (by simp);cases this
 |c::a,e::b,ha,hb,h=>by
  have ha1:=(List.pairwise_cons.1 ha).1
  have hb1:=(List.pairwise_cons.1 hb).1
  have hk:c.1=e.1:=by
   have h1:=(h.mem e).1 (by simp)
   have h2:=(h.mem c).2 (by simp)
   have k1:c.1≤e.1:=by rcases List.mem_cons.1 h1 with rfl|h1;exact Int.le_refl _;exact ha1 e h1
   have k2:e.1≤c.1:=by rcases List.mem_cons.1 h2 with rfl|h2;exact Int.le_refl _;exact hb1 c h2
   omega
  have hx:=h c.1
  rw [pickd_cons,pickd_cons,if_pos hk.symm,if_pos rfl] at hx
  obtain ⟨rfl,ht⟩:=List.cons.inj hx
  congr 1
  refine srt_uniq a b (List.pairwise_cons.1 ha).2 (List.pairwise_cons.1 hb).2 fun x=> ?_
  have:=h x
  rw [pickd_cons,pickd_cons] at this
  by_cases hq:e.1=x
  ·rw [if_pos hq,if_pos hq] at this;exact (List.cons.inj this).2
  ·rwa [if_neg hq,if_neg hq] at this
def insr (s:List Cl) (c:Cl):List Cl:=s.filter (fun y=>decide (y.1≤c.1))++c::s.filter (fun y=> !decide (y.1≤c.1))
def st (d:List Cl):List Cl:=d.foldl insr []
theorem split_le:∀(s:List Cl),Srt s→∀x:Int,s=s.filter (fun y=>decide (y.1≤x))++s.filter (fun y=> !decide (y.1≤x))
 |[],_,_=>rfl
 |c::m,h,x=>by
  have ih:=split_le m (List.pairwise_cons.1 h).2 x
  have hc:=(List.pairwise_cons.1 h).1
  by_cases hx:c.1≤x
  ·simp only [List.filter_cons,decide_eq_true hx,if_true,Bool.not_true,Bool.false_eq_true,if_false,List.cons_append]
   rw [←ih]
  ·have:m.filter (fun y=>decide (y.1≤x))=[]:=by simp;intro a b hab;have:=hc _ hab;simp at this;omega
   have h2:m.filter (fun y=> !decide (y.1≤x))=m:=by simp [List.filter_eq_self];intro a b hab;have:=hc _ hab;simp at this;omega
   simp [hx,this]
   exact h2.symm
theorem srt_insr {s:List Cl} (h:Srt s) (c:Cl):Srt (insr s c):=by
 unfold insr Srt
 refine List.pairwise_append.2 ⟨List.Pairwise.filter _ h,List.pairwise_cons.2 ⟨fun y hy=> ?_,List.Pairwise.filter _ h⟩,fun x hx y hy=> ?_⟩
 ·have:=(List.mem_filter.1 hy).2;simp at this;omega
 ·have h1:=(List.mem_filter.1 hx).2;simp at h1
  rcases List.mem_cons.1 hy with rfl|hy
  ·exact h1
  ·have:=(List.mem_filter.1 hy).2;simp at this;omega
theorem stb_insr {s:List Cl} (h:Srt s) (c:Cl):Stb (s++[c]) (insr s c):=by
 have e:=split_le s h c.1
 unfold insr
 conv=>lhs;rw [e]
 rw [List.append_assoc]
 refine (Stb.refl _).app ?_
 exact Stb.comm (a:=s.filter (fun y=> !decide (y.1≤c.1))) (b:=[c]) fun x hx y hy=>by
  have:=(List.mem_filter.1 hx).2;simp at this hy;subst hy;omega
theorem len_insr (s:List Cl) (c:Cl):(insr s c).length=s.length+1:=by
 unfold insr
 have h:(s.filter (fun y=>decide (y.1≤c.1))).length+(s.filter (fun y=> !decide (y.1≤c.1))).length=s.length:=by
  induction s with
  |nil=>rfl
  |cons a s ih=>
   rw [List.filter_cons,List.filter_cons]
   by_cases h:a.1≤c.1
   ·rw [if_pos (decide_eq_true h),if_neg (by simp [h]),List.length_cons,List.length_cons];omega
   ·rw [if_neg (by simp [h]),if_pos (by simp [h]),List.length_cons,List.length_cons];omega
 rw [List.length_append,List.length_cons];omega
theorem fold_insr:∀(d s:List Cl),Srt s→Srt (d.foldl insr s)∧Stb (s++d) (d.foldl insr s)∧(d.foldl insr s).length=s.length+d.length
 |[],s,h=>⟨h,by simpa using Stb.refl s,rfl⟩
 |c::d,s,h=>by
  obtain ⟨h1,h2,h3⟩:=fold_insr d (insr s c) (srt_insr h c)
  refine ⟨h1,?_,by rw [List.foldl_cons,h3,len_insr,List.length_cons];omega⟩
  have e:s++c::d=(s++[c])++d:=by simp
  rw [e,List.foldl_cons]
  exact ((stb_insr h c).app (Stb.refl d)).trans h2
theorem srt_st (d:List Cl):Srt (st d):=(fold_insr d [] List.Pairwise.nil).1
theorem stb_st (d:List Cl):Stb d (st d):=(fold_insr d [] List.Pairwise.nil).2.1
theorem st_of {d s:List Cl} (h:Srt s) (k:Stb d s):s=st d:=srt_uniq _ _ h (srt_st d) (k.symm.trans (stb_st d))
def pk:List Cl→List Cl
 |[]=>[]
 |[c]=>if c.2 !=0 then [c] else []
 |c::e::r=>if (e.1 !=c.1) && (c.2 !=0) then c::pk (e::r) else pk (e::r)
theorem get_at {d:List Cl} {j:Nat} {x v:Int} (h:d[j]? =some (x,v)) (hn:∀c∈d.drop (j+1),c.1≠x):get d x=v:=by
 obtain ⟨hj,he⟩:=List.getElem?_eq_some_iff.1 h
 have e:d=d.take j++(x,v)::d.drop (j+1):=by
  conv=>lhs;rw [←List.take_append_drop j d]
  rw [List.drop_eq_getElem_cons hj,he]
 rw [e]
 exact get_hit _ _ x v hn
theorem no_drop {d:List Cl} {j:Nat} {x v z:Int} (h:d[j]? =some (x,v)) (hx:x≠z) (hn:∀c∈d.drop (j+1),c.1≠z):∀c∈d.drop j,c.1≠z:=by
 obtain ⟨hj,he⟩:=List.getElem?_eq_some_iff.1 h
 rw [List.drop_eq_getElem_cons hj,he]
 intro c hc
 rcases List.mem_cons.1 hc with rfl|hc
 ·exact hx
 ·exact hn c hc
theorem putS_succ {c:Cl} {m:List Cl} {k:Nat} {y:Cl} {s:List Cl×Bool} (h:m[k]? =some y) (hs:putS c (m.take k)=s):putS c (m.take (k+1))=putStep c s y:=by
 have e:m.take (k+1)=m.take k++[y]:=by rw [List.take_add_one,h];rfl
 unfold putS at hs⊢
 rw [e,List.foldl_append,hs];rfl
theorem putStep_len (c:Cl) (s:List Cl×Bool) (y:Cl):(putStep c s y).1.length+(if s.2 then 1 else 0)≤s.1.length+1+(if (putStep c s y).2 then 1 else 0):=by
 unfold putStep
 cases s.2<;>by_cases h1:(y.1 !=c.1)=true<;>by_cases h2:c.1≤y.1<;>by_cases h3:(c.2 !=0)=true<;>simp [h1,h2,h3]<;>omega
theorem fold_len (c:Cl):∀(m:List Cl) (s:List Cl×Bool),(m.foldl (putStep c) s).1.length+(if s.2 then 1 else 0)≤s.1.length+m.length+(if (m.foldl (putStep c) s).2 then 1 else 0)
 |[],s=>by cases h:s.2<;>simp [h]
 |y::m,s=>by
  have h1:=putStep_len c s y
  have h2:=fold_len c m (putStep c s y)
  rw [List.foldl_cons,List.length_cons];omega
theorem putS_len (c:Cl) (m:List Cl):(putS c m).1.length≤m.length+1:=by
 have:=fold_len c m ([],false)
 unfold putS;simp at this
 split at this<;>omega
theorem put_len (m:List Cl) (c:Cl):(put m c).length≤m.length+1:=by
 have h:=fold_len c m ([],false)
 unfold put
 have e:putS c m=m.foldl (putStep c) ([],false):=rfl
 rw [←e] at h
 cases hq:(putS c m).2
 ·simp only [hq,List.length_nil,Bool.false_eq_true,if_false] at h
  by_cases h3:(c.2 !=0)=true
  ·rw [if_pos (by simp [h3]),List.length_append,List.length_singleton];omega
  ·rw [if_neg (by simp [h3])];omega
 ·simp only [hq,List.length_nil,Bool.false_eq_true,if_false,if_true] at h
  rw [if_neg (by simp)];omega
theorem fold_put_len:∀(l m:List Cl),(l.foldl put m).length≤m.length+l.length
 |[],m=>by simp
 |c::l,m=>by have:=fold_put_len l (put m c);have:=put_len m c;rw [List.foldl_cons,List.length_cons];omega
theorem nrm_len (l:List Cl):(nrm l).length≤l.length:=by
 unfold nrm
 split
 ·omega
 ·have:=fold_put_len l [];simpa using this
theorem fold_put_succ {l:List Cl} {k:Nat} {y:Cl} (h:l[k]? =some y):(l.take (k+1)).foldl put []=put ((l.take k).foldl put []) y:=by
 have e:l.take (k+1)=l.take k++[y]:=by rw [List.take_add_one,h];rfl
 rw [e,List.foldl_append];rfl
def same (d e:List Cl):Bool:=decide (d=e)
def cmp (x y:Int):Int:=if x < y then -1 else if y < x then 1 else 0
def lod (x:Int) (b:List Int):List Cl:=(List.range b.length).map fun i:Nat=>((x+(i:Int)) % 65536,b.getD i 0)
end Sm
end K12
namespace K12
variable {a:Option Addr} {b base cap i n o:Nat} {v:Value} {w w':World}
theorem rt {a b:Bool} (h:a=b):Ending.returned (.bool a)=.returned (.bool b):=by rw [h]
theorem rn {k:IntKind} {a b:Int} (h:a=b):Ending.returned (.int k a)=.returned (.int k b):=by rw [h]
def At (w:World) (b o:Nat) (d:List Cl):Prop:=∀j x v,d[j]? =some (x,v)→w.cell? ⟨b,o+j * 2,none⟩=some (.int .u16 x)∧w.cell? ⟨b,o+j * 2+1,none⟩=some (.int .u8 v)
def Held (w:World) (a:Option Addr) (n:Nat) (d:List Cl):Prop:=d.length=n∧n≤4611686018427387904∧(0 < n→∃b o,a=some ⟨b,o,none⟩∧b < w.heap.size∧At w b o d)
theorem Adds.size (h:Adds w w'):w.heap.size≤w'.heap.size:=h.below.size
theorem Adds.cell (h:Adds w w') (hb:b < w.heap.size):w'.cell? ⟨b,i,none⟩=w.cell? ⟨b,i,none⟩:=h.below.cell (p:=⟨b,i,none⟩) hb
theorem Adds.frozen (h:Adds w w') (hb:b < w.heap.size):w'.frozen? ⟨b,i,none⟩=w.frozen? ⟨b,i,none⟩:=h.below.frozen (p:=⟨b,i,none⟩) hb
theorem At.keep {d:List Cl} (h:At w b o d) (k:∀i,w'.cell? ⟨b,i,none⟩=w.cell? ⟨b,i,none⟩):At w' b o d:=fun j x v hd=>by rw [k,k];exact h j x v hd
theorem Held.adds {d:List Cl} (h:Held w a n d) (k:Adds w w'):Held w' a n d:=
 ⟨h.1,h.2.1,fun hn=>by
   obtain ⟨b,o,ha,hb,hat⟩:=h.2.2 hn
   exact ⟨b,o,ha,by have:=k.size;omega,hat.keep fun i=>k.cell hb⟩⟩
theorem Held.nil (w:World) (a:Option Addr):Held w a 0 []:=⟨rfl,by omega,fun h=>absurd h (by omega)⟩
theorem get_pair {d:List Cl} {k:Nat} (h:k < d.length):∃x v,d[k]? =some (x,v):=⟨d[k].1,d[k].2,List.getElem?_eq_getElem h⟩
def Sm.cv (d:List Cl):List Value:=d.flatMap fun c=>[.int .u16 c.1,.int .u8 c.2]
theorem Sm.cv_app (a b:List Cl):Sm.cv (a++b)=Sm.cv a++Sm.cv b:=by simp [Sm.cv]
theorem Sm.cv_cons (c:Cl) (d:List Cl):Sm.cv (c::d)=.int .u16 c.1:: .int .u8 c.2::Sm.cv d:=rfl
theorem Sm.cv_len:∀(d:List Cl),(Sm.cv d).length=d.length * 2
 |[]=>rfl
 |c::d=>by rw [Sm.cv_cons,List.length_cons,List.length_cons,Sm.cv_len d,List.length_cons];omega
theorem Sm.cv_get:∀(d:List Cl) (j:Nat) (x v:Int),d[j]? =some (x,v)→(Sm.cv d)[j * 2]? =some (.int .u16 x)∧(Sm.cv d)[j * 2+1]? =some (.int .u8 v)
 |[],j,x,v,h=>by simp at h
 |c::d,0,x,v,h=>by simp at h;subst h;exact ⟨rfl,rfl⟩
 |c::d,j+1,x,v,h=>by
  have:=Sm.cv_get d j x v (by simpa using h)
  rw [Sm.cv_cons,show (j+1) * 2=j * 2+1+1 by omega]
  simpa using this
theorem Sm.cv_one (d:List Cl):∀u∈Sm.cv d,u.oneCell'=true:=by
 intro u hu
 simp only [Sm.cv,List.mem_flatMap] at hu
 obtain ⟨c,_,hc⟩:=hu
 rcases List.mem_cons.1 hc with rfl|hc
 ·rfl
 ·rcases List.mem_cons.1 hc with rfl|hc
  ·rfl
  ·cases hc
def Owns (w:World) (base:Nat) (v:Value) (d:List Cl):Prop:=w.ownsRow base 97 2 v d.length (Sm.cv d)
theorem Owns.adds {d:List Cl} (h:Owns w base v d) (k:Adds w w'):Owns w' base v d:=by
 have hb:=k.below
 refine World.ownsRow.kept (row:=none) h ⟨hb.os,hb.tape,hb.output,hb.size,fun i hi _=>hb.block i hi⟩ ?_
 cases hq:v.ownBlock with
 |none=>exact .inl rfl
 |some b=>exact .inr (by simp)
theorem Owns.mono {base':Nat} {d:List Cl} (h:Owns w base v d) (k:base'≤base):Owns w base' v d:=by
 refine ⟨h.1,?_⟩
 rcases h.2 with hn|⟨g,cap,cur,h1,h2,h3⟩
 ·exact .inl hn
 ·exact .inr ⟨g,cap,cur,h1,by omega,h3⟩
theorem Owns.at_ {g:Nat} {d:List Cl} (h:Owns w base (.slice (some ⟨g,0,none⟩) n cap) d):At w g 0 d:=by
 have hn:n=d.length:=by
  rcases h.2 with ⟨h',_⟩|⟨g',cap',cur,h',_⟩
  ·simp at h'
  ·simp only [Value.slice.injEq] at h';exact h'.2.1
 subst hn
 intro j x v hd
 have hj:j < d.length:=(List.getElem?_eq_some_iff.1 hd).1
 obtain ⟨h1,h2⟩:=Sm.cv_get d j x v hd
 rw [Nat.zero_add]
 have a1:=World.ownsRow.cellAt h (j * 2) (by omega)
 have a2:=World.ownsRow.cellAt h (j * 2+1) (by omega)
 exact ⟨a1.trans h1,a2.trans h2⟩
theorem Owns.form {d:List Cl} (h:Owns w base v d):
 ∃a cap,v=.slice a d.length cap∧d.length≤cap∧cap≤9223372036854775807∧(0 < cap→∃g,a=some ⟨g,0,none⟩∧base≤g∧g < w.heap.size):=by
 rcases h.2 with ⟨h',h0⟩|⟨g,cap,cur,h',hb,hh,h1,h2,h3⟩
 ·exact ⟨none,0,by rw [h',h0],by omega,by omega,fun h=>absurd h (by omega)⟩
 ·refine ⟨_,cap,h',h1,?_,fun _=>⟨g,rfl,hb,(Array.getElem?_eq_some_iff.1 hh).1⟩⟩
  simpa [maxLen] using h2
theorem Owns.held {d:List Cl} (h:Owns w base (.slice a n cap) d) (hd:d.length≤4611686018427387904):Held w a n d:=by
 obtain ⟨a',cap',h1,h2,h3,h4⟩:=h.form
 simp only [Value.slice.injEq] at h1
 obtain ⟨rfl,rfl,rfl⟩:=h1
 refine ⟨rfl,by omega,fun hn=> ?_⟩
 obtain ⟨g,rfl,_,hg⟩:=h4 (by omega)
 exact ⟨g,0,rfl,hg,h.at_⟩
theorem add_plain (b o j:Nat):(⟨b,o,none⟩:Addr).add j=⟨b,o+j,none⟩:=by unfold Addr.add;split<;>simp_all
theorem At.news {d:List Cl} (h:At w b o d):∀j u,(Sm.cv d)[j]? =some u→w.cell? ((⟨b,o,none⟩:Addr).add j)=some u:=by
 intro j u hu
 rw [add_plain]
 have hj:j < d.length * 2:=by have:=(List.getElem?_eq_some_iff.1 hu).1;rwa [Sm.cv_len] at this
 obtain ⟨x,v,hx⟩:=get_pair (d:=d) (k:=j / 2) (by omega)
 obtain ⟨h1,h2⟩:=h _ x v hx
 obtain ⟨k1,k2⟩:=Sm.cv_get d _ x v hx
 rcases Nat.mod_two_eq_zero_or_one j with h0|h0
 ·have e:j=j / 2 * 2:=by omega
  rw [←e] at h1 k1;rw [h1,←k1,hu]
 ·have e:j=j / 2 * 2+1:=by omega
  rw [Nat.add_assoc,←e] at h2;rw [←e] at k2;rw [h2,←k2,hu]
theorem cellInfo:(Tryz.prog.info? 97).map (fun i=>(i.zero,i.size,i.bytes))=some (some (.agg #[.int .u16 0,.int .u8 0]),2,4):=by kernel_rfl
theorem At.new (w:World) (t:TypeId) (x v:Int):At (w.alloc (.cells #[.int .u16 x,.int .u8 v] t)) w.heap.size 0 [(x,v)]:=by
 intro j y u h
 match j,h with
 |0,h=>simp at h;obtain ⟨rfl,rfl⟩:=h;constructor<;>simp [go_sem]
 |j+1,h=>simp at h
theorem wpList_appA {ops:Array Oper} {rest:List Oper} {o:Oper} {a:Act} {Q:Exit→Act→World→Prop} (hgd:o.guard=none) (s x:Operand)
 (ho:o.op=.call {callee:=.builtin .append,args:=#[s,x],argTypes:=#[44,44]})
 (base:Nat) (v:Value) (d:List Cl) (hs:a.eval s=v) (hown:Owns w base v d) (ad:Addr) (m c:Nat) (e:List Cl) (hx:a.eval x=.slice (some ad) m c) (hm:e.length=m) (hat:∀j u,(Sm.cv e)[j]? =some u→w.cell? (ad.add j)=some u)
 (hsz:d.length+m≤33554432) (hbase:base≤w.heap.size)
 (h:∀v' w',Owns w' base v' (d++e)→w.grownBy w' v.ownBlock→(v'=.slice none 0 0↔v=.slice none 0 0∧m=0)→wpList Tryz.prog ops Q rest (a.put o.dst v') w'):wpList Tryz.prog ops Q (o::rest) a w:=by
 obtain ⟨i0,hi,hz0,hz1,hz2⟩:=info_parts cellInfo
 refine wpList_append_own w hgd s x 44 ho base 97 i0 (.agg #[.int .u16 0,.int .u8 0]) 2 4 Tryz.underlying44 hi hz0 hz1 hz2 rfl (by decide) v d.length (Sm.cv d) hs hown ad m c (Sm.cv e) hx (by rw [Sm.cv_len,hm]) hat (Sm.cv_one e) (by unfold maxLen;omega) (by omega) hbase ?_
 intro v' w' h1 h2 h3
 refine h v' w' ?_ h2 h3
 unfold Owns
 rw [List.length_append,hm,Sm.cv_app]
 exact h1
theorem wpList_app1 {ops:Array Oper} {rest:List Oper} {o:Oper} {a:Act} {Q:Exit→Act→World→Prop} (hgd:o.guard=none) (s x:Operand)
 (ho:o.op=.call {callee:=.builtin .append,args:=#[s,x],argTypes:=#[44,44]})
 (base:Nat) (v:Value) (d:List Cl) (y u:Int) (t:TypeId) (b:Nat) (hs:a.eval s=v) (hx:a.eval x=.slice (some ⟨b,0,none⟩) 1 1) (hb:b=w.heap.size) (hown:Owns w base v d)
 (hsz:d.length+1≤33554432) (hbase:base≤w.heap.size)
 (h:∀v' w',Owns w' base v' (d++[(y,u)])→w.grownBy w' v.ownBlock→v'≠ .slice none 0 0→wpList Tryz.prog ops Q rest (a.put o.dst v') w'):wpList Tryz.prog ops Q (o::rest) a (w.alloc (.cells #[.int .u16 y,.int .u8 u] t)):=by
 subst hb
 refine wpList_appA hgd s x ho base v d hs (World.ownsRow.alloc hown _) ⟨w.heap.size,0,none⟩ 1 1 [(y,u)] hx rfl (At.new w t y u).news hsz (by have:=Below.heap_alloc;show base≤(w.heap.push _).size;simp;omega) ?_
 intro v' w' h1 h2 h3
 refine h v' w' h1 ?_ (fun e=>by have:=(h3.1 e).2;omega)
 exact World.grownBy.trans (World.grownBy_alloc w _ _) h2
theorem Owns.alloc {d:List Cl} (h:Owns w base v d) (o:Obj):Owns (w.alloc o) base v d:=World.ownsRow.alloc h o
theorem Owns.made (w:World):Owns (w.alloc (.cells #[] 97)) w.heap.size (.slice (some ⟨w.heap.size,0,none⟩) 0 0) []:=World.ownsRow_made w #[] 0 (Nat.le_refl _) (Nat.zero_le _) (by simp)
theorem Owns.ne {d:List Cl} (h:Owns w base v d) (hb:w.heap.size≤b):some b≠v.ownBlock:=fun e=>by
 have:=(World.ownsRow.lt h b e.symm).2;omega
theorem Held.news {ad:Addr} {d:List Cl} (h:Held w (some ad) n d):∀j u,(Sm.cv d)[j]? =some u→w.cell? (ad.add j)=some u:=by
 intro j u hu
 by_cases hn:0 < n
 ·obtain ⟨b,o,e,_,hat⟩:=h.2.2 hn
  cases e
  exact hat.news j u hu
 ·have:d=[]:=List.eq_nil_of_length_eq_zero (by have:=h.1;omega)
  subst this
  simp [Sm.cv] at hu
theorem _root_.Go.Proofs.YteggjjhjmhccjaaGreatDoor.Adds.grown {w0:World} {d:List Cl} (h:Adds w0 w) (hg:w.grownBy w' v.ownBlock) (ho:Owns w w0.heap.size v d):Adds w0 w':=
 Adds.of_below (h.below.grown hg h.size fun k hk=>(World.ownsRow.lt ho k hk).1)
theorem Owns.nil (w:World) (base:Nat):Owns w base (.slice none 0 0) []:=World.ownsRow_nil w base _ 2
@[go_sem] theorem eq_Cell (x v y u:Int) (w:World):(Op.equalIn 10000 97 (.agg #[.int .u16 x,.int .u8 v]) (.agg #[.int .u16 y,.int .u8 u])).run Tryz.prog w=.ok (same [.int .u16 x,.int .u8 v] [.int .u16 y,.int .u8 u]) w:=
 eq_agg 2 [.int .u16,.int .u8] _ Tryz.underlying97 (by kernel_rfl) (by decide) _ _ w (by simp [shaped]) (by simp [shaped])
end K12
namespace K12
theorem rget_any (a:Option Addr) (len cap:Nat) (d:List Cl) (z:Int) (w:World) (h:Held w a len d):Calls Tryz.prog 127 #[.slice a len cap,.int .u16 z] w fun e w'=>e=.returned (.int .u8 (Sm.get d z))∧w=w':=by
 obtain ⟨hl,hbig,hat⟩:=h
 go_enter Tryz.func127,Tryz.ntmps127
 go_wp2
 go_loop [5] (fun i=>∃(k:Nat) (y:Int),k≤len∧i=.int .i64 y∧y=(k:Int) - 1∧Hid (∀c∈d.drop k,c.1≠z)) (fun i=>(intOf i+1).toNat)
 case atStart=>exact ⟨len,_,Nat.le_refl _,rfl,rfl,fun c hc=>by rw [List.drop_of_length_le (by omega)] at hc;cases hc⟩
 case round=>
  obtain ⟨k,y,hk,rfl,hy,HO⟩:=hrel
  cases k with
  |zero=>
   obtain rfl:y= -1:=by omega
   have HV:Hid (Sm.get d z=0):=Sm.get_miss d z HO.out
   clear hat hy
   go_wp2_with fail
   go_ret
   exact ⟨ri HV.out.symm,rfl⟩
  |succ j=>
   obtain rfl:y=(j:Int):=by omega
   obtain ⟨b,o,rfl,hb,hat⟩:=hat (by omega)
   obtain ⟨x,v,hx⟩:=get_pair (d:=d) (k:=j) (by omega)
   obtain ⟨h1,h2⟩:=hat j x v hx
   have p0:(0:Int)≤(j:Int):=by omega
   have p1:(j:Int) < (len:Int):=by omega
   by_cases hxz:x=z
   ·subst hxz
    have HV:Hid (Sm.get d x=v):=Sm.get_at hx HO.out
    clear hat hx hl hy
    go_wp2_with fail
    go_ret
    exact ⟨ri HV.out.symm,rfl⟩
   ·have HN:Hid (∀c∈d.drop j,c.1≠z):=Sm.no_drop hx hxz HO.out
    have hq:(x==z)=false:=by simpa using hxz
    clear hat hx hl hy hxz
    go_wp2_with fail
    go_round
    case rel=>exact ⟨j,_,by omega,rfl,by omega,HN⟩
    case measure=>simp [intOf]<;>omega
end K12
end Go.Proofs.YteggjjhjmhccjaaGreatDoor
