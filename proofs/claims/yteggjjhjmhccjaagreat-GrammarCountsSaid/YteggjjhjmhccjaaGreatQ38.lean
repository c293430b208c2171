/- Texts that the proofs of GrammarTraces and GrammarCounts rest on, joined. Conditions stand in each theorem. -/
import Derived.Test.YteggjjhjmhccjaaGreatQ36
set_option linter.unusedVariables false
set_option linter.unusedSimpArgs false
set_option maxRecDepth 100000
set_option maxHeartbeats 8000000
namespace Go.Proofs.YteggjjhjmhccjaaGreat
open Go.ChangeShapes Go.WideShapes Go.ChangeAt Go.RowKit
section
variable {k:Nat} {l:List S.It}
structure S.VRo (l:List S.It) (k:Nat):Prop where
 ok:∀(j:Nat) x,j < k→l[j]? =some x→S.Vld1 x
 f1:∀(j:Nat) a b,j < k→l[j]? =some a→l[j+1]? =some b→a.k=1→a.n < a.s→b.k=4
 f2:∀(j:Nat) a b,j+1 < k→l[j]? =some a→l[j+1]? =some b→(b.k=2∨b.k=3∨b.k=4)→¬(a.k=b.k∧a.e=b.e∧a.o=b.o)
theorem S.gu {a b:S.It} (h1:l[k]? =some a) (h2:l[k]? =some b):a=b:=by simpa [h1] using h2
theorem S.VRo.zero (l:List S.It):S.VRo l 0:=⟨fun j x h=>absurd h (by omega),fun j a b h=>absurd h (by omega),fun j a b h=>absurd h (by omega)⟩
theorem S.VRo.step (h:S.VRo l k) {x:S.It} (hx:l[k]? =some x) (h0:S.Vld1 x) (h1:∀b,l[k+1]? =some b→x.k=1→x.n < x.s→b.k=4)
 (h2:∀j a,j+1=k→l[j]? =some a→(x.k=2∨x.k=3∨x.k=4)→¬(a.k=x.k∧a.e=x.e∧a.o=x.o)):S.VRo l (k+1):=by
 refine ⟨fun j y hj hy=> ?_,fun j a b hj ha hb=> ?_,fun j a b hj ha hb=> ?_⟩
 ·by_cases e:j=k
  ·subst e
   obtain rfl:x=y:=by simpa [hx] using hy
   exact h0
  ·exact h.ok j y (by omega) hy
 ·by_cases e:j=k
  ·subst e
   obtain rfl:x=a:=by simpa [hx] using ha
   exact h1 b hb
  ·exact h.f1 j a b (by omega) ha hb
 ·by_cases e:j+1=k
  ·subst e
   obtain rfl:x=b:=by simpa [hx] using hb
   exact h2 j a rfl ha
  ·exact h.f2 j a b (by omega) ha hb
theorem S.VRo.all (h:S.VRo l k) (hk:l.length≤k):S.vld l=true:=by
 refine S.vld_yes ⟨fun x hx=> ?_,fun j a b ha hb=> ?_⟩
 ·obtain ⟨j,hj⟩:=List.getElem?_of_mem hx
  have:=(List.getElem?_eq_some_iff.1 hj).1
  exact h.ok j x (by omega) hj
 ·have:=(List.getElem?_eq_some_iff.1 hb).1
  exact ⟨h.f1 j a b (by omega) ha hb,h.f2 j a b (by omega) ha hb⟩
theorem q1C26z {P:Prop} (h:P:=by
 skip
 go_wp2_with fail
 refine bodyPost_ret (v:=.bool false) (by simp [results,Tryz.results11,go_sem]) rfl ⟨by rw [HB.out],HA.out.trans aD⟩):P:=h
theorem q2C26z {P:Prop} (h:P:=by
 skip
 have t2:(x.k==2)=false:=by simp;omega
 have t3:(x.k==3)=false:=by simp;omega
 have t4:(x.k==4)=true:=by simp;omega
 clear k4
 go_wp2_with fail
 refine qt ?_
 repeat (go_big_quiet_step (fail))
 refine qn fun nq osq=> ?_
 go_wp2_with fail
 go_roundw
 case rel=>exact ⟨k+1,by omega,by go_num,HS.out,HA.out.trans aD⟩
 case measure=>simp [intOf];omega):P:=h
theorem q3C26z {P:Prop} (h:P:=by
 skip
 have t2:(x.k==2)=false:=by simp;omega
 have t3:(x.k==3)=true:=by simp;omega
 clear k3
 go_wp2_with fail
 refine qt ?_
 repeat (go_big_quiet_step (fail))
 refine qn fun nq osq=> ?_
 go_wp2_with fail
 go_roundw
 case rel=>exact ⟨k+1,by omega,by go_num,HS.out,HA.out.trans aD⟩
 case measure=>simp [intOf];omega):P:=h
theorem q4C26z {P:Prop} (h:P:=by
 have g7:decide (x.n < 2)=false:=by have:=HV1.out;simp at g6;rcases this with q|q<;>simp<;>omega
 have ha:S.acc x.c=true:=by have:=HV1.out;simp at g6;rcases this with q|q;exact (q.2.2.2.2.2.2 g6).2;omega
 go_wp2_with (go_at_call 24;refine (racc_any x.c).mono ?_;rw [ha];rintro e w4 ⟨rfl,rfl⟩)
 go_roundw
 case rel=>exact ⟨k+1,by omega,by go_num,HS.out,HA.out.trans aD⟩
 case measure=>simp [intOf];omega):P:=h
theorem q5C26z {P:Prop} (h:P:=by
 skip
 have t2:(x.k==2)=true:=by simp;omega
 clear k2
 go_wp2_with fail
 refine qt ?_
 repeat (go_big_quiet_step (fail))
 refine qn fun nq osq=> ?_
 go_wp2_with fail
 go_roundw
 case rel=>exact ⟨k+1,by omega,by go_num,HS.out,HA.out.trans aD⟩
 case measure=>simp [intOf];omega):P:=h
theorem q6C26z {P:Prop} (h:P:=by
 skip
 go_wp2_with fail
 go_roundw
 case rel=>exact ⟨k+1,by omega,by go_num,HS.out,HA.out.trans aD⟩
 case measure=>simp [intOf];omega):P:=h
theorem rvalid_any (ch:Int) (a:Option Addr) (len cap:Nat) (l:List S.It) (w:World) (h:HeldT w a len l):Calls Tryz.prog 11 #[.int .i64 ch,.slice a len cap] w fun e w'=>e=.returned (.bool (S.vld l))∧Adds w w':=by
 obtain ⟨hl,hbig,hat⟩:=h
 have HL:=Lib.hid hl
 have HAT:=Lib.hid hat
 clear hl hat
 go_enter Tryz.func11,Tryz.ntmps11
 go_wp2_with fail
 go_loopw [11] (fun i wr=>∃k:Nat,k≤len∧i=.int .i64 (k:Int)∧Hid (S.VRo l k)∧Hid (Adds w wr)) (fun i _=>len - (intOf i).toNat)
 case atStart=>exact ⟨0,Nat.zero_le _,rfl,S.VRo.zero l,Adds.refl _⟩
 case round=>
  obtain ⟨k,hk,rfl,HV,HA⟩:=hrel
  rename World=>w3
  have hw3:=HA.out.size
  by_cases hlt:k < len
  ·obtain ⟨b,o,rfl,hb,hat⟩:=HAT.out (by omega)
   obtain ⟨x,hx⟩:=get_el (d:=l) (k:=k) (by have:=HL.out;omega)
   have HX:=Lib.hid hx
   have hat3:=AtG.keep (w':=w3) hat fun i=>HA.out.cell hb
   have HAT3:=Lib.hid hat3
   have hb3:b < w3.heap.size:=by omega
   have hL:(wholeVar 65 ⟨b,o+k * 9,none⟩).run Tryz.prog w3=.ok (.agg #[.int .i64 x.k,.int .i64 x.c,.int .u16 x.a,.int .u8 x.d,.int .i64 x.s,.int .i64 x.w,.int .i64 x.n,.bool x.e,.bool x.o]) w3:=AtT.load hat3 hx _ rfl
   have q1:(k:Int) < (len:Int):=by omega
   clear hat hx hat3
   rcases hv:S.v1 x with _|_
   ·have HB:=Lib.hid (S.vld_bad1 HX.out (fun q=>by rw [S.v1_yes q] at hv;cases hv))
    have HN:=Lib.hid (show ¬S.Vld1 x from fun q=>by rw [S.v1_yes q] at hv;cases hv)
    clear hv
    rcases k1:(x.k==1) with _|_
    rotate_left
    ·skip
     rcases g1:decide (x.s < 3) with _|_
     rotate_left
     ·exact q1C26z
     rcases g2:decide (6 < x.s) with _|_
     rotate_left
     ·exact q1C26z
     rcases g3:decide (x.n < 1) with _|_
     rotate_left
     ·exact q1C26z
     rcases g4:decide (x.s < x.n) with _|_
     rotate_left
     ·exact q1C26z
     rcases g5:decide (x.w < 0) with _|_
     rotate_left
     ·exact q1C26z
     rcases g6:decide (0 < x.w) with _|_
     ·simp only [decide_eq_false_iff_not] at g1 g2 g3 g4 g5 g6
      exact absurd (.inl ⟨by simpa using k1,by omega,by omega,by omega,by omega,by omega,fun q=>by omega⟩) HN.out
     rcases g7:decide (x.n < 2) with _|_
     rotate_left
     ·exact q1C26z
     have ha:S.acc x.c=false:=by
      rcases hq:S.acc x.c with _|_
      ·rfl
      ·exact absurd (.inl ⟨by simpa using k1,by simp at g1;omega,by simp at g2;omega,by simp at g3;omega,by simp at g4;omega,by simp at g5;omega,fun q=>⟨by simp at g7;omega,hq⟩⟩) HN.out
     go_wp2_with (go_at_call 24;refine (racc_any x.c).mono ?_;rw [ha];rintro e w4 ⟨rfl,rfl⟩)
     refine bodyPost_ret (v:=.bool false) (by simp [results,Tryz.results11,go_sem]) rfl ⟨by rw [HB.out],HA.out.trans aD⟩
    rcases k2:(x.k==2) with _|_
    rotate_left
    ·skip
     rcases g1:decide (x.n < 1) with _|_
     rotate_left
     ·exact q1C26z
     rcases g2:decide (x.w < 0) with _|_
     rotate_left
     ·exact q1C26z
     rcases g3:decide (0 < x.w) with _|_
     rotate_left
     ·exact q1C26z
     exact absurd (.inr ⟨by simp at k2;omega,by simp at g1;omega,by simp at g2 g3;omega⟩) HN.out
    rcases k3:(x.k==3) with _|_
    rotate_left
    ·skip
     rcases g1:decide (x.n < 1) with _|_
     rotate_left
     ·exact q1C26z
     rcases g2:decide (x.w < 0) with _|_
     rotate_left
     ·exact q1C26z
     rcases g3:decide (0 < x.w) with _|_
     rotate_left
     ·exact q1C26z
     exact absurd (.inr ⟨by simp at k3;omega,by simp at g1;omega,by simp at g2 g3;omega⟩) HN.out
    rcases k4:(x.k==4) with _|_
    rotate_left
    ·skip
     rcases g1:decide (x.n < 1) with _|_
     rotate_left
     ·exact q1C26z
     rcases g2:decide (x.w < 0) with _|_
     rotate_left
     ·exact q1C26z
     rcases g3:decide (0 < x.w) with _|_
     rotate_left
     ·exact q1C26z
     exact absurd (.inr ⟨by simp at k4;omega,by simp at g1;omega,by simp at g2 g3;omega⟩) HN.out
    go_wp2_with fail
    refine bodyPost_ret (v:=.bool false) (by simp [results,Tryz.results11,go_sem]) rfl ⟨by rw [HB.out],HA.out.trans aD⟩
   ·have HV1:=Lib.hid (show S.Vld1 x from Classical.byContradiction fun q=>by rw [S.v1_no q] at hv;cases hv)
    clear hv
    rcases k1:(x.k==1) with _|_
    rotate_left
    ·have e1:x.k=1:=by simpa using k1
     have g1:decide (x.s < 3)=false:=by have:=HV1.out;rcases this with q|q<;>simp<;>omega
     have g2:decide (6 < x.s)=false:=by have:=HV1.out;rcases this with q|q<;>simp<;>omega
     have g3:decide (x.n < 1)=false:=by have:=HV1.out;rcases this with q|q<;>simp<;>omega
     have g4:decide (x.s < x.n)=false:=by have:=HV1.out;rcases this with q|q<;>simp<;>omega
     have g5:decide (x.w < 0)=false:=by have:=HV1.out;rcases this with q|q<;>simp<;>omega
     rcases gl:decide (x.n < x.s) with _|_
     ·have HS:=Lib.hid (HV.out.step HX.out HV1.out (fun b _ _ hq=>by simp at gl;omega) (fun j a _ _ hq=>by omega))
      rcases g6:decide (0 < x.w) with _|_
      ·exact q6C26z
      ·exact q4C26z
     ·by_cases hlast:k+1=len
      ·have hz:((k:Int)==(len:Int) - 1)=true:=by simp;omega
       have HS:=Lib.hid (HV.out.step HX.out HV1.out (fun b hb _ _=>by have h1:=(List.getElem?_eq_some_iff.1 hb).1;have:=HL.out;omega) (fun j a _ _ hq=>by omega))
       clear hlast
       rcases g6:decide (0 < x.w) with _|_
       ·exact q6C26z
       ·exact q4C26z
      ·have hz:((k:Int)==(len:Int) - 1)=false:=by simp;omega
       obtain ⟨z,hy⟩:=get_el (d:=l) (k:=k+1) (by have:=HL.out;omega)
       have HZ:=Lib.hid hy
       have hc:w3.cell? ⟨b,o+(k+1) * 9,none⟩=some (.int .i64 z.k):=HAT3.out.el csT_len (j:=k+1) (k:=0) hy rfl
       have hn1:(k:Int)+1 < (len:Int):=by omega
       clear hy hlast
       rcases gz:(z.k !=4) with _|_
       rotate_left
       ·have HB:=Lib.hid (S.vld_bad2 HX.out HZ.out (fun f=>by have:=f.1 e1 (by simpa using gl);simp at gz;omega))
        rcases g6:decide (0 < x.w) with _|_
        ·exact q1C26z
        ·have g7:decide (x.n < 2)=false:=by have:=HV1.out;simp at g6;rcases this with q|q<;>simp<;>omega
         have ha:S.acc x.c=true:=by have:=HV1.out;simp at g6;rcases this with q|q;exact (q.2.2.2.2.2.2 g6).2;omega
         go_wp2_with (go_at_call 24;refine (racc_any x.c).mono ?_;rw [ha];rintro e w4 ⟨rfl,rfl⟩)
         refine bodyPost_ret (v:=.bool false) (by simp [results,Tryz.results11,go_sem]) rfl ⟨by rw [HB.out],HA.out.trans aD⟩
       ·have HS:=Lib.hid (HV.out.step HX.out HV1.out (fun b hb _ _=>by rw [S.gu hb HZ.out];simpa using gz) (fun j a _ _ hq=>by omega))
        rcases g6:decide (0 < x.w) with _|_
        ·exact q6C26z
        ·exact q4C26z
    have hk:x.k=2∨x.k=3∨x.k=4:=by have:=HV1.out;simp at k1;rcases this with q|q<;>omega
    have g1:decide (x.n < 1)=false:=by have:=HV1.out;simp at k1;rcases this with q|q<;>simp<;>omega
    have g2:decide (x.w < 0)=false:=by have:=HV1.out;simp at k1;rcases this with q|q<;>simp<;>omega
    have g3:decide (0 < x.w)=false:=by have:=HV1.out;simp at k1;rcases this with q|q<;>simp<;>omega
    by_cases h0:k=0
    ·have HS:=Lib.hid (HV.out.step HX.out HV1.out (fun b _ q=>by simp at k1;omega) (fun j a e=>by omega))
     have hd:decide (0 < k)=false:=by simp [h0]
     clear h0
     rcases hk with k2|k3|k4
     ·exact q5C26z
     ·exact q3C26z
     ·exact q2C26z
    obtain ⟨j,hj⟩:∃j,j+1=k:=⟨k - 1,by omega⟩
    obtain ⟨y,hy⟩:=get_el (d:=l) (k:=j) (by have:=HL.out;omega)
    have HY:=Lib.hid hy
    have hM:∀(u:Nat) (v:Value),(csT y)[u]? =some v→∀c n os,(More (w3.alloc c) n os).cell? ⟨b,o+j * 9+u,none⟩=some v:=fun u v hu c n os=>((show Adds w3 (More (w3.alloc c) n os) from aD).cell hb3).trans (HAT3.out.el csT_len hy hu)
    have m0:=hM 0 _ rfl
    have m7:=hM 7 _ rfl
    have m8:=hM 8 _ rfl
    simp only [Nat.add_zero] at m0
    have hd:decide (0 < k)=true:=by simp;omega
    have hz:IntKind.i64.wrap ((k:Int) - 1)=(j:Int):=by rw [show (k:Int) - 1=(j:Int) by omega];exact IntWalk.i64_in _ (by omega)
    have hz0:(0:Int)≤(j:Int):=by omega
    have hz1:(j:Int) < (len:Int):=by omega
    have HJ:=Lib.hid hj
    have HK:=Lib.hid k1
    clear hj h0 hy hM
    rcases y1:(y.k==x.k) with _|_
    ·have HS:=Lib.hid (HV.out.step HX.out HV1.out (fun b _ q=>by have:=HK.out;simp at this;omega) (fun i a e ha _=>by
      obtain rfl:i=j:=by have:=HJ.out;omega
      have h1:=HY.out
      rw [ha] at h1
      obtain rfl:a=y:=by simpa using h1
      rintro ⟨r1,r2,r3⟩
      simp [r1] at y1))
     rcases hk with k2|k3|k4
     ·exact q5C26z
     ·exact q3C26z
     ·exact q2C26z
    rcases y2:(y.e==x.e) with _|_
    ·have HS:=Lib.hid (HV.out.step HX.out HV1.out (fun b _ q=>by have:=HK.out;simp at this;omega) (fun i a e ha _=>by
      obtain rfl:i=j:=by have:=HJ.out;omega
      have h1:=HY.out
      rw [ha] at h1
      obtain rfl:a=y:=by simpa using h1
      rintro ⟨r1,r2,r3⟩
      simp [r2] at y2))
     rcases hk with k2|k3|k4
     ·exact q5C26z
     ·exact q3C26z
     ·exact q2C26z
    rcases y3:(y.o==x.o) with _|_
    ·have HS:=Lib.hid (HV.out.step HX.out HV1.out (fun b _ q=>by have:=HK.out;simp at this;omega) (fun i a e ha _=>by
      obtain rfl:i=j:=by have:=HJ.out;omega
      have h1:=HY.out
      rw [ha] at h1
      obtain rfl:a=y:=by simpa using h1
      rintro ⟨r1,r2,r3⟩
      simp [r3] at y3))
     rcases hk with k2|k3|k4
     ·exact q5C26z
     ·exact q3C26z
     ·exact q2C26z
    have HB:=Lib.hid (S.vld_bad2 HY.out (by rw [HJ.out];exact HX.out) (fun f=>f.2 hk ⟨by simpa using y1,by simpa using y2,by simpa using y3⟩))
    rcases hk with k2|k3|k4
    ·skip
     have t2:(x.k==2)=true:=by simp;omega
     clear k2
     go_wp2_with fail
     refine qt ?_
     repeat (go_big_quiet_step (fail))
     refine qn fun nq osq=> ?_
     go_wp2_with fail
     refine bodyPost_ret (v:=.bool false) (by simp [results,Tryz.results11,go_sem]) rfl ⟨by rw [HB.out],HA.out.trans aD⟩
    ·skip
     have t2:(x.k==2)=false:=by simp;omega
     have t3:(x.k==3)=true:=by simp;omega
     clear k3
     go_wp2_with fail
     refine qt ?_
     repeat (go_big_quiet_step (fail))
     refine qn fun nq osq=> ?_
     go_wp2_with fail
     refine bodyPost_ret (v:=.bool false) (by simp [results,Tryz.results11,go_sem]) rfl ⟨by rw [HB.out],HA.out.trans aD⟩
    ·skip
     have t2:(x.k==2)=false:=by simp;omega
     have t3:(x.k==3)=false:=by simp;omega
     have t4:(x.k==4)=true:=by simp;omega
     clear k4
     go_wp2_with fail
     refine qt ?_
     repeat (go_big_quiet_step (fail))
     refine qn fun nq osq=> ?_
     go_wp2_with fail
     refine bodyPost_ret (v:=.bool false) (by simp [results,Tryz.results11,go_sem]) rfl ⟨by rw [HB.out],HA.out.trans aD⟩
  ·have q1:¬(k:Int) < (len:Int):=by omega
   have HE:=Lib.hid (HV.out.all (by have:=HL.out;omega))
   go_wp2_with fail
   refine bodyPost_ret (v:=.bool true) (by simp [results,Tryz.results11,go_sem]) rfl ⟨by rw [HE.out],HA.out⟩
end
end Go.Proofs.YteggjjhjmhccjaaGreat
