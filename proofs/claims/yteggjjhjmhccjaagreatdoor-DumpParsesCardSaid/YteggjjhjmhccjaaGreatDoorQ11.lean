/- Texts that the proofs of the statements on dumps rest on, joined. Conditions stand in each theorem. -/
import Derived.Test.YteggjjhjmhccjaaGreatDoorQ01
import Derived.Deep.RegionHeld3
set_option linter.unusedVariables false
set_option linter.unusedSimpArgs false
set_option maxRecDepth 100000
set_option maxHeartbeats 8000000
namespace Go.Proofs.YteggjjhjmhccjaaGreatDoor
open Go.ChangeShapes Go.WideShapes Go.ChangeAt Go.RowKit
section
theorem els_step (zs:List Int) (k:Nat):(List.range (k+1)).map (S.el zs)=(List.range k).map (S.el zs)++[S.el zs k]:=by rw [List.range_succ,List.map_append];rfl
theorem rdec_any (a:Option Addr) (len cap:Nat) (zs:List Int) {w:World} (h:HeldB w a len zs) (hc:len≤cap) (hcap:cap≤9223372036854775807) (hbig:len≤1000000000):
 Calls Tryz.prog 33 #[.slice a len cap] w fun e w'=>∃r,e=.returned r∧OwnsI w' w.heap.size r (S.dec zs)∧Adds w w':=by
 obtain ⟨hl,_,hat⟩:=h
 obtain ⟨n,hn⟩:∃n,n=min (len / 4) 65536:=⟨_,rfl⟩
 have HN:=Lib.hid hn
 have hn4:n * 4≤len:=by omega
 have hn6:n≤65536:=by omega
 have HL:=Lib.hid hl
 have HAT:=Lib.hid hat
 clear hn hl hat
 go_enter Tryz.func33,Tryz.ntmps33
 go_wp2_with fail
 go_loopw [3,4] (fun v i wr=>∃(k j:Nat) (ad:Option Addr) (c:Nat),(k≤n∧j≤n * 4)∧Hid (j=k * 4)∧v=.slice ad k c∧i=.int .i64 (j:Int)∧Hid (OwnsI wr w.heap.size (.slice ad k c) ((List.range k).map (S.el zs)))∧Hid (Adds w wr)) (fun _ i _=>n * 4+4 - (intOf i).toNat)
 case atStart=>exact ⟨0,0,none,0,⟨Nat.zero_le _,by omega⟩,rfl,rfl,rfl,OwnsG.nil _ _,Adds.refl _⟩
 case round=>
  obtain ⟨k,j,ad,c,⟨hk,hj9⟩,HJ,rfl,rfl,HO,HA⟩:=hrel
  have hj:=HJ.out
  by_cases hlt:k < n
  ·obtain ⟨b,o,rfl,hb,hat⟩:=HAT.out (by omega)
   have hat':=AtG.keep (w':=wr) hat fun i=>HA.out.cell hb
   have hsz:=HA.out.size
   have hbw:b < wr.heap.size:=by omega
   obtain ⟨z0,hz0⟩:∃z,z=zs.getD j 0:=⟨_,rfl⟩
   obtain ⟨z1,hz1⟩:∃z,z=zs.getD (j+1) 0:=⟨_,rfl⟩
   obtain ⟨z2,hz2⟩:∃z,z=zs.getD (j+2) 0:=⟨_,rfl⟩
   obtain ⟨z3,hz3⟩:∃z,z=zs.getD (j+3) 0:=⟨_,rfl⟩
   have HE:=Lib.hid (show S.el zs k=S.ent z0 z1 z2 z3 by rw [hz0,hz1,hz2,hz3,hj];rfl)
   have hlen:=HL.out
   have c0:wr.cell? ⟨b,o+j,none⟩=some (.int .u8 z0):=by rw [hz0];exact AtB.el hat' (by omega)
   have c1:wr.cell? ⟨b,o+(j+1),none⟩=some (.int .u8 z1):=by rw [hz1];exact AtB.el hat' (by omega)
   have c2:wr.cell? ⟨b,o+(j+2),none⟩=some (.int .u8 z2):=by rw [hz2];exact AtB.el hat' (by omega)
   have c3:wr.cell? ⟨b,o+(j+3),none⟩=some (.int .u8 z3):=by rw [hz3];exact AtB.el hat' (by omega)
   have t4:(j:Int)+4≤(len:Int):=by omega
   have tk:(k:Int) < 65536:=by omega
   have u1:(j:Int)+1 < (len:Int):=by omega
   have u2:(j:Int)+2 < (len:Int):=by omega
   have u3:(j:Int)+3 < (len:Int):=by omega
   have u0:(j:Int) < (len:Int):=by omega
   have v1:((j:Int)+1).toNat=j+1:=by omega
   have v2:((j:Int)+2).toNat=j+2:=by omega
   have v3:((j:Int)+3).toNat=j+3:=by omega
   have x1:(0:Int)≤(j:Int)+1:=by omega
   have x2:(0:Int)≤(j:Int)+2:=by omega
   have x3:(0:Int)≤(j:Int)+3:=by omega
   clear hat hat' hz0 hz1 hz2 hz3 hlen HAT hj
   by_cases he:z3=S.chk z0 z1 z2
   ·have hd:(z3 !=S.chk z0 z1 z2)=false:=by simpa using he
    have HY:=Lib.hid (show S.el zs k=S.inp z0 z1 z2 by rw [HE.out];exact if_pos he)
    clear he
    go_wp2_with fail
    refine qt ?_
    repeat (go_big_quiet_step ((go_at_call 60;exact calls_same (rchk_any))))
    refine qn fun nq osq=> ?_
    go_wp2_with fail
    have HO1:=Lib.hid (OwnsG.adds HO.out (((Adds.refl wr).more (nq+1) osq)))
    have HA1:=Lib.hid (HA.out.more (nq+1) osq)
    have s1:IntKind.i64.wrap ((j:Int)+1)=(j:Int)+1:=IntWalk.i64_in _ (by omega)
    have s2:IntKind.i64.wrap ((j:Int)+2)=(j:Int)+2:=IntWalk.i64_in _ (by omega)
    go_region_held3 (fun w'=>w'.cell? ⟨b,o+(j+1),none⟩=some (.int .u8 z1)∧w'.cell? ⟨b,o+(j+2),none⟩=some (.int .u8 z2)) (first|(simp [go_sem, *];done)|(constructor<;>assumption))
     ((refine step_appI1 rfl _ _ (by rfl) w.heap.size (.slice ad k c) _ (by rfl) (S.inp z0 z1 z2) _ _ (wr.heap.size+osq.size) (by rfl) (by simp [csI,S.Inp.cs,S.inp,S.btm,bne]) (More_size ..).symm HO1.out (by simp;omega) (by simp [go_sem];omega) ?_;intro v3 w3 hO3 hG3;obtain ⟨ad3,n3,c3,rfl,hn3, -, -, -, -⟩:=hO3.form2;obtain rfl:n3=k+1:=(by have:=hn3.out;simp at this;omega);clear hn3;have k1:=(OwnsG.far HO1.out hG3 hb (by simp [go_sem];omega) (i:=o+(j+1))).trans (by simp [go_sem, *]:_=some (.int .u8 z1));have k2:=(OwnsG.far HO1.out hG3 hb (by simp [go_sem];omega) (i:=o+(j+2))).trans (by simp [go_sem, *]:_=some (.int .u8 z2));have HO3:=Lib.hid hO3;have HA3:=Lib.hid (AddsG.grown HA1.out hG3 HO1.out);clear hO3 hG3))
    go_wp2_with fail
    go_roundw
    case rel=>exact ⟨k+1,j+4,ad3,c3,⟨by omega,by have:=HJ.out;omega⟩,(by have:=HJ.out;show _=_;omega),rfl,by go_num,(by rw [els_step,HY.out];exact HO3.out),HA3.out⟩
    case measure=>simp [intOf];have:=HJ.out;omega
   ·have hd:(z3 !=S.chk z0 z1 z2)=true:=by simpa using he
    have HY:=Lib.hid (show S.el zs k=S.idle by rw [HE.out];exact if_neg he)
    clear he
    go_wp2_with fail
    refine qt ?_
    repeat (go_big_quiet_step ((go_at_call 60;exact calls_same (rchk_any))))
    refine qn fun nq osq=> ?_
    have HO1:=Lib.hid (OwnsG.adds HO.out ((Adds.refl wr).more nq osq))
    have HA1:=Lib.hid (HA.out.more nq osq)
    go_wp2_with (first
     |(go_at_call 61;(with_reducible refine (ridle_any).mono ?_);rintro e w2 ⟨rfl,A2⟩;have HO2:=Lib.hid (OwnsG.adds HO1.out A2);have HA2:=Lib.hid (HA1.out.trans A2);have hs2:=HA2.out.size;clear A2;simp only [S.Inp.cs])
     |(at_builtin;refine wpList_appI1 rfl _ _ rfl w.heap.size (.slice ad k c) _ rfl S.idle _ _ w2.heap.size rfl rfl rfl HO2.out (by simp;omega) (by omega) ?_;intro v3 w3 hO3 hG3;obtain ⟨ad3,n3,c3,rfl,hn3, -, -, -, -⟩:=hO3.form2;obtain rfl:n3=k+1:=(by have:=hn3.out;simp at this;omega);clear hn3;have HO3:=Lib.hid hO3;have HA3:=Lib.hid (AddsG.grown HA2.out hG3 HO2.out);clear hO3 hG3))
    go_roundw
    case rel=>exact ⟨k+1,j+4,ad3,c3,⟨by omega,by have:=HJ.out;omega⟩,(by have:=HJ.out;show _=_;omega),rfl,by go_num,(by rw [els_step,HY.out];exact HO3.out),HA3.out⟩
    case measure=>simp [intOf];have:=HJ.out;omega
  ·obtain rfl:k=n:=by omega
   have hlen:=HL.out
   have HF:=Lib.hid (show (List.range k).map (S.el zs)=S.dec zs by unfold S.dec;rw [hlen,←HN.out])
   have hkk:=HN.out
   clear hlen
   by_cases ht:(j:Int)+4≤(len:Int)
   ·have tk:¬(k:Int) < 65536:=by omega
    clear hj hkk HAT
    go_wp2_with fail
    go_ret
    exact ⟨_,rfl,by rw [←HF.out];exact HO.out,HA.out⟩
   ·clear hj hkk HAT
    go_wp2_with fail
    go_ret
    exact ⟨_,rfl,by rw [←HF.out];exact HO.out,HA.out⟩
end
end Go.Proofs.YteggjjhjmhccjaaGreatDoor
