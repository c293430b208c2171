/- Texts that the proofs of the statements on dumps rest on, joined. Conditions stand in each theorem. -/
import Derived.Test.YteggjjhjmhccjaaGreatDoorR01
import Derived.Deep.CutRange
import Derived.Test.YteggjjhjmhccjaaGreatDoorQ03
import Derived.Laws.MakeOwn
set_option linter.unusedVariables false
set_option linter.unusedSimpArgs false
set_option maxRecDepth 100000
set_option maxHeartbeats 8000000
namespace Go.Proofs.YteggjjhjmhccjaaGreatDoor
open Go.ChangeShapes Go.WideShapes Go.ChangeAt Go.RowKit
section
namespace S
def stt28 (w:Bs) (k:Nat):Int:=match stn.findIdx? (·==w) with
 |some i=>if i < k then i+1 else 0
 |none=>0
theorem stt28_zero (w:Bs):stt28 w 0=0:=by
 unfold stt28
 cases stn.findIdx? (·==w)<;>simp
theorem stt28_ten (w:Bs):stt28 w 10=stR28 w:=by
 unfold stt28 stR28
 cases h:stn.findIdx? (·==w) with
 |none=>rfl
 |some i=>
  have:=(List.findIdx?_eq_some_iff_getElem.1 h).1
  have h10:i < 10:=this
  simp only []
  rw [if_pos h10]
theorem stt28_hit {w:Bs} {k:Nat} (h:stn[k]? =some w):stt28 w (k+1)=k+1:=by
 have hk:k < 10:=(List.getElem?_eq_some_iff.1 h).1
 have e:=stn_i k hk
 rw [List.getD_eq_getElem?_getD,h] at e
 unfold stt28
 rw [show stn.findIdx? (·==w)=some k from e]
 simp
theorem stt28_miss {w x:Bs} {k:Nat} (h:stn[k]? =some x) (hx:x≠w):stt28 w (k+1)=stt28 w k:=by
 unfold stt28
 cases hd:stn.findIdx? (·==w) with
 |none=>rfl
 |some d=>
  have hne:d≠k:=by
   intro e
   subst e
   obtain ⟨h1,h2,_⟩:=List.findIdx?_eq_some_iff_getElem.1 hd
   rw [List.getElem?_eq_getElem h1] at h
   have:stn[d]=w:=by simpa using h2
   exact hx (by rw [←this];exact (Option.some.inj h).symm)
  simp only []
  by_cases q:d < k
  ·rw [if_pos q,if_pos (by omega)]
  ·rw [if_neg q,if_neg (by omega)]
theorem stn_nm {x:Bs} {k:Nat} (h:stn[k]? =some x):nmS ((k:Int)+1)=x:=by
 have hk:k < 10:=(List.getElem?_eq_some_iff.1 h).1
 rw [nmS_in (by omega),show ((k:Int)+1 - 1).toNat=k by omega,List.getD_eq_getElem?_getD,h]
 rfl
theorem l14 (l:List Bool) (h:l.length=14):∃v0 v1 v2 v3 v4 v5 v6 v7 v8 v9 v10 v11 v12 v13,l=[v0,v1,v2,v3,v4,v5,v6,v7,v8,v9,v10,v11,v12,v13]:=by
 rcases l with _|⟨a,_|⟨b,_|⟨c,_|⟨d,_|⟨e,_|⟨f,_|⟨g,_|⟨i,_|⟨j,_|⟨k,_|⟨l,_|⟨m,_|⟨n,_|⟨o,_|⟨p,q⟩⟩⟩⟩⟩⟩⟩⟩⟩⟩⟩⟩⟩⟩⟩<;>simp at h
 exact ⟨_,_,_,_,_,_,_,_,_,_,_,_,_,_,rfl⟩
end S
theorem Bx28.new2 {b:Nat} (w:World) (T:TypeId) (cs:Array Value) (h:b=w.heap.size):Bx28 (w.alloc (.cells cs T)) b T cs:=h▸Bx28.new w T cs
theorem cell_far28 {W:World} {b k o:Nat} (i:Nat) (v:Value) (h:b≠o):(W.setCell ⟨b,k,none⟩ v).drew.cell? ⟨o,i,none⟩=W.drew.cell? ⟨o,i,none⟩:=World.cell?_setCell_far W ⟨b,k,none⟩ ⟨o,i,none⟩ v h
theorem Bx28.drew {w:World} {b T:Nat} {cs:Array Value} (h:Bx28 w b T cs):Bx28 w.drew b T cs:=h
theorem row7a {w:World} {b:Nat} {s a d:Value} {v0 v1 v2 v3 v4 v5 v6:Bool} (h:Bx28 w b 34 #[s,a,d,.bool false,.bool false,.bool false,.bool false,.bool false,.bool false,.bool false,.bool false,.bool false,.bool false,.bool false,.bool false,.bool false,.bool false]):Bx28 (((((((w.setCell ⟨b,3,none⟩ (.bool v0)).setCell ⟨b,4,none⟩ (.bool v1)).setCell ⟨b,5,none⟩ (.bool v2)).setCell ⟨b,6,none⟩ (.bool v3)).setCell ⟨b,7,none⟩ (.bool v4)).setCell ⟨b,8,none⟩ (.bool v5)).setCell ⟨b,9,none⟩ (.bool v6)).drew b 34 #[s,a,d,.bool v0,.bool v1,.bool v2,.bool v3,.bool v4,.bool v5,.bool v6,.bool false,.bool false,.bool false,.bool false,.bool false,.bool false,.bool false]:=by
 replace h:=h.set (i:=3) (.bool v0)
 simp only [List.setIfInBounds_toArray,List.set_cons_zero,List.set_cons_succ] at h
 replace h:=h.set (i:=4) (.bool v1)
 simp only [List.setIfInBounds_toArray,List.set_cons_zero,List.set_cons_succ] at h
 replace h:=h.set (i:=5) (.bool v2)
 simp only [List.setIfInBounds_toArray,List.set_cons_zero,List.set_cons_succ] at h
 replace h:=h.set (i:=6) (.bool v3)
 simp only [List.setIfInBounds_toArray,List.set_cons_zero,List.set_cons_succ] at h
 replace h:=h.set (i:=7) (.bool v4)
 simp only [List.setIfInBounds_toArray,List.set_cons_zero,List.set_cons_succ] at h
 replace h:=h.set (i:=8) (.bool v5)
 simp only [List.setIfInBounds_toArray,List.set_cons_zero,List.set_cons_succ] at h
 replace h:=h.set (i:=9) (.bool v6)
 simp only [List.setIfInBounds_toArray,List.set_cons_zero,List.set_cons_succ] at h
 exact Bx28.drew h
theorem row7b {w:World} {b:Nat} {s a d:Value} {v0 v1 v2 v3 v4 v5 v6 v7 v8 v9 v10 v11 v12 v13:Bool} (h:Bx28 w b 34 #[s,a,d,.bool v0,.bool v1,.bool v2,.bool v3,.bool v4,.bool v5,.bool v6,.bool false,.bool false,.bool false,.bool false,.bool false,.bool false,.bool false]):Bx28 (((((((w.setCell ⟨b,10,none⟩ (.bool v7)).setCell ⟨b,11,none⟩ (.bool v8)).setCell ⟨b,12,none⟩ (.bool v9)).setCell ⟨b,13,none⟩ (.bool v10)).setCell ⟨b,14,none⟩ (.bool v11)).setCell ⟨b,15,none⟩ (.bool v12)).setCell ⟨b,16,none⟩ (.bool v13)).drew b 34 #[s,a,d,.bool v0,.bool v1,.bool v2,.bool v3,.bool v4,.bool v5,.bool v6,.bool v7,.bool v8,.bool v9,.bool v10,.bool v11,.bool v12,.bool v13]:=by
 replace h:=h.set (i:=10) (.bool v7)
 simp only [List.setIfInBounds_toArray,List.set_cons_zero,List.set_cons_succ] at h
 replace h:=h.set (i:=11) (.bool v8)
 simp only [List.setIfInBounds_toArray,List.set_cons_zero,List.set_cons_succ] at h
 replace h:=h.set (i:=12) (.bool v9)
 simp only [List.setIfInBounds_toArray,List.set_cons_zero,List.set_cons_succ] at h
 replace h:=h.set (i:=13) (.bool v10)
 simp only [List.setIfInBounds_toArray,List.set_cons_zero,List.set_cons_succ] at h
 replace h:=h.set (i:=14) (.bool v11)
 simp only [List.setIfInBounds_toArray,List.set_cons_zero,List.set_cons_succ] at h
 replace h:=h.set (i:=15) (.bool v12)
 simp only [List.setIfInBounds_toArray,List.set_cons_zero,List.set_cons_succ] at h
 replace h:=h.set (i:=16) (.bool v13)
 simp only [List.setIfInBounds_toArray,List.set_cons_zero,List.set_cons_succ] at h
 exact Bx28.drew h
theorem oth7a {w:World} {b c T:Nat} {cs:Array Value} {v0 v1 v2 v3 v4 v5 v6:Bool} (hb:b≠c) (h:Bx28 w c T cs):Bx28 (((((((w.setCell ⟨b,3,none⟩ (.bool v0)).setCell ⟨b,4,none⟩ (.bool v1)).setCell ⟨b,5,none⟩ (.bool v2)).setCell ⟨b,6,none⟩ (.bool v3)).setCell ⟨b,7,none⟩ (.bool v4)).setCell ⟨b,8,none⟩ (.bool v5)).setCell ⟨b,9,none⟩ (.bool v6)).drew c T cs:=Bx28.drew (((((((h.other (a:=⟨b,3,none⟩) (.bool v0) hb).other (a:=⟨b,4,none⟩) (.bool v1) hb).other (a:=⟨b,5,none⟩) (.bool v2) hb).other (a:=⟨b,6,none⟩) (.bool v3) hb).other (a:=⟨b,7,none⟩) (.bool v4) hb).other (a:=⟨b,8,none⟩) (.bool v5) hb).other (a:=⟨b,9,none⟩) (.bool v6) hb)
theorem oth7b {w:World} {b c T:Nat} {cs:Array Value} {v7 v8 v9 v10 v11 v12 v13:Bool} (hb:b≠c) (h:Bx28 w c T cs):Bx28 (((((((w.setCell ⟨b,10,none⟩ (.bool v7)).setCell ⟨b,11,none⟩ (.bool v8)).setCell ⟨b,12,none⟩ (.bool v9)).setCell ⟨b,13,none⟩ (.bool v10)).setCell ⟨b,14,none⟩ (.bool v11)).setCell ⟨b,15,none⟩ (.bool v12)).setCell ⟨b,16,none⟩ (.bool v13)).drew c T cs:=Bx28.drew (((((((h.other (a:=⟨b,10,none⟩) (.bool v7) hb).other (a:=⟨b,11,none⟩) (.bool v8) hb).other (a:=⟨b,12,none⟩) (.bool v9) hb).other (a:=⟨b,13,none⟩) (.bool v10) hb).other (a:=⟨b,14,none⟩) (.bool v11) hb).other (a:=⟨b,15,none⟩) (.bool v12) hb).other (a:=⟨b,16,none⟩) (.bool v13) hb)
theorem add7a {w w0:World} {b:Nat} {v0 v1 v2 v3 v4 v5 v6:Bool} (hb:w0.heap.size≤b) (h:Adds w0 w):Adds w0 (((((((w.setCell ⟨b,3,none⟩ (.bool v0)).setCell ⟨b,4,none⟩ (.bool v1)).setCell ⟨b,5,none⟩ (.bool v2)).setCell ⟨b,6,none⟩ (.bool v3)).setCell ⟨b,7,none⟩ (.bool v4)).setCell ⟨b,8,none⟩ (.bool v5)).setCell ⟨b,9,none⟩ (.bool v6)).drew:=Adds.drew (((((((h.setCell (a:=⟨b,3,none⟩) hb (.bool v0)).setCell (a:=⟨b,4,none⟩) hb (.bool v1)).setCell (a:=⟨b,5,none⟩) hb (.bool v2)).setCell (a:=⟨b,6,none⟩) hb (.bool v3)).setCell (a:=⟨b,7,none⟩) hb (.bool v4)).setCell (a:=⟨b,8,none⟩) hb (.bool v5)).setCell (a:=⟨b,9,none⟩) hb (.bool v6))
theorem add7b {w w0:World} {b:Nat} {v7 v8 v9 v10 v11 v12 v13:Bool} (hb:w0.heap.size≤b) (h:Adds w0 w):Adds w0 (((((((w.setCell ⟨b,10,none⟩ (.bool v7)).setCell ⟨b,11,none⟩ (.bool v8)).setCell ⟨b,12,none⟩ (.bool v9)).setCell ⟨b,13,none⟩ (.bool v10)).setCell ⟨b,14,none⟩ (.bool v11)).setCell ⟨b,15,none⟩ (.bool v12)).setCell ⟨b,16,none⟩ (.bool v13)).drew:=Adds.drew (((((((h.setCell (a:=⟨b,10,none⟩) hb (.bool v7)).setCell (a:=⟨b,11,none⟩) hb (.bool v8)).setCell (a:=⟨b,12,none⟩) hb (.bool v9)).setCell (a:=⟨b,13,none⟩) hb (.bool v10)).setCell (a:=⟨b,14,none⟩) hb (.bool v11)).setCell (a:=⟨b,15,none⟩) hb (.bool v12)).setCell (a:=⟨b,16,none⟩) hb (.bool v13))
theorem infoL:(Tryz.prog.info? 4).map (fun i=>(i.zero,i.size,i.bytes))=some (some (.bool false),1,1):=by kernel_rfl
def S.rc28 (st:Int) (a d:Nat) (v:List Bool):Array Value:=#[.int .i64 (S.mkPn st a d v).st,.int .u16 (S.mkPn st a d v).ad,.int .u8 (S.mkPn st a d v).da,.bool (S.mkPn st a d v).sy,.bool (S.mkPn st a d v).db,.bool (S.mkPn st a d v).wa,.bool (S.mkPn st a d v).it,.bool (S.mkPn st a d v).al,.bool (S.mkPn st a d v).im,.bool (S.mkPn st a d v).s1,.bool (S.mkPn st a d v).s0,.bool (S.mkPn st a d v).rd,.bool (S.mkPn st a d v).ia,.bool (S.mkPn st a d v).so,.bool (S.mkPn st a d v).wr,.bool (S.mkPn st a d v).hl,.bool (S.mkPn st a d v).fl]
theorem makeL14 (w:World):(Instr.makeSlice 121 (.int .i64 14) (.int .i64 14)).run Tryz.prog w=.ok (.slice (some ⟨w.heap.size,0,none⟩) 14 14) (w.alloc (.cells #[.bool false,.bool false,.bool false,.bool false,.bool false,.bool false,.bool false,.bool false,.bool false,.bool false,.bool false,.bool false,.bool false,.bool false] 4)):=by
 obtain ⟨i0,hi,hz0,hz1,hz2⟩:=info_parts infoL
 have:=run_makeSlice (P:=Tryz.prog) w 121 4 i0 (.bool false) Tryz.underlying121 hi hz0 .i64 .i64 14 14 (by decide) (by decide) (by rw [hz1];decide) (by rw [hz2];decide) (by decide)
 rw [hz1,show madeCells (Value.bool false).cells (Int.toNat 14 * 1)=#[.bool false,.bool false,.bool false,.bool false,.bool false,.bool false,.bool false,.bool false,.bool false,.bool false,.bool false,.bool false,.bool false,.bool false] from by kernel_rfl] at this
 exact this
theorem read28 (l:List UInt8) (hl:l.length≤1000000000) (w:World):Calls Tryz.prog 49 #[.string ⟨l.toArray⟩] w fun e w'=>e=.returned (.agg #[.int .i64 (S.rd28 l).st,.int .u16 (S.rd28 l).ad,.int .u8 (S.rd28 l).da,.bool (S.rd28 l).sy,.bool (S.rd28 l).db,.bool (S.rd28 l).wa,.bool (S.rd28 l).it,.bool (S.rd28 l).al,.bool (S.rd28 l).im,.bool (S.rd28 l).s1,.bool (S.rd28 l).s0,.bool (S.rd28 l).rd,.bool (S.rd28 l).ia,.bool (S.rd28 l).so,.bool (S.rd28 l).wr,.bool (S.rd28 l).hl,.bool (S.rd28 l).fl])∧Adds w w':=by
 have HW:=Lib.hid (fun w=>words28 l hl w)
 have hsh:=S.spl_short 32 l
 have hsl:=S.spl_len 32 l
 have hne:=S.spl_ne 32 l
 obtain ⟨R,hR⟩:∃R,R=S.rd28 l:=⟨_,rfl⟩
 rw [←hR]
 unfold S.rd28 at hR
 generalize S.spl 32 l=ws at *
 have HLn:=Lib.hid (show ws.length≤1000000001 by omega)
 clear hsl
 rcases ws with _|⟨w0,_|⟨w1,_|⟨w2,rest⟩⟩⟩
 ·exact absurd rfl hne
 ·have HR:=Lib.hid hR
  clear hR hsh hne hl
  go_enter Tryz.func49,Tryz.ntmps49
  go_wp2_with (go_at_call 81;refine (HW.out _).mono ?_;rintro e wx ⟨v,rfl,hO,hA⟩;obtain ⟨ad1,n1,c1,rfl,hn1, -, -, -, -⟩:=hO.form2;obtain rfl:n1=1:=hn1.out.symm;have B1:=Lib.hid ((Bx28.new w 34 #[.int .i64 S.Pn.zero28.st,.int .u16 S.Pn.zero28.ad,.int .u8 S.Pn.zero28.da,.bool S.Pn.zero28.sy,.bool S.Pn.zero28.db,.bool S.Pn.zero28.wa,.bool S.Pn.zero28.it,.bool S.Pn.zero28.al,.bool S.Pn.zero28.im,.bool S.Pn.zero28.s1,.bool S.Pn.zero28.s0,.bool S.Pn.zero28.rd,.bool S.Pn.zero28.ia,.bool S.Pn.zero28.so,.bool S.Pn.zero28.wr,.bool S.Pn.zero28.hl,.bool S.Pn.zero28.fl]).adds hA);have A1:=Lib.hid ((show Adds w _ from aD).trans hA);have r1:=B1.out.row;have z1:=B1.out.lt;clear hO hA hn1)
  exact bodyPost_ret (ret_Pins Tryz.results49 rfl (rowOf_setRow_same _ _ _ (by rw [r1];decide)) rfl) rfl ⟨by rw [HR.out];rfl,(A1.out.setRow28 (Nat.le_refl _) _).trans aD⟩
 ·have HR:=Lib.hid hR
  clear hR hsh hne hl
  go_enter Tryz.func49,Tryz.ntmps49
  go_wp2_with (go_at_call 81;refine (HW.out _).mono ?_;rintro e wx ⟨v,rfl,hO,hA⟩;obtain ⟨ad1,n1,c1,rfl,hn1, -, -, -, -⟩:=hO.form2;obtain rfl:n1=2:=hn1.out.symm;have B1:=Lib.hid ((Bx28.new w 34 #[.int .i64 S.Pn.zero28.st,.int .u16 S.Pn.zero28.ad,.int .u8 S.Pn.zero28.da,.bool S.Pn.zero28.sy,.bool S.Pn.zero28.db,.bool S.Pn.zero28.wa,.bool S.Pn.zero28.it,.bool S.Pn.zero28.al,.bool S.Pn.zero28.im,.bool S.Pn.zero28.s1,.bool S.Pn.zero28.s0,.bool S.Pn.zero28.rd,.bool S.Pn.zero28.ia,.bool S.Pn.zero28.so,.bool S.Pn.zero28.wr,.bool S.Pn.zero28.hl,.bool S.Pn.zero28.fl]).adds hA);have A1:=Lib.hid ((show Adds w _ from aD).trans hA);have r1:=B1.out.row;have z1:=B1.out.lt;clear hO hA hn1)
  exact bodyPost_ret (ret_Pins Tryz.results49 rfl (rowOf_setRow_same _ _ _ (by rw [r1];decide)) rfl) rfl ⟨by rw [HR.out];rfl,(A1.out.setRow28 (Nat.le_refl _) _).trans aD⟩
 ·have HR:=Lib.hid hR
  have H1:=Lib.hid (fun w=>number28 w1 (Nat.le_trans (hsh w1 (by simp)) hl) w)
  have H2:=Lib.hid (fun w=>number28 w2 (Nat.le_trans (hsh w2 (by simp)) hl) w)
  have b1:=S.numR_bd w1
  have b2:=S.numR_bd w2
  have HU1:=Lib.hid (show IntKind.u16.wrap (S.numR w1:Int)=(S.numR w1:Nat) from IntWalk.u16_in _ (by omega))
  have HU2:=Lib.hid (show IntKind.u8.wrap (S.numR w2:Int)=(S.numR w2 % 256:Nat) by rw [IntKind.wrap_u8];omega)
  clear hR hsh hne hl b1 b2
  go_enter Tryz.func49,Tryz.ntmps49
  go_upto_region 4 with (go_at_call 81;refine (HW.out _).mono ?_;rintro e wx ⟨v,rfl,hO,hA⟩;obtain ⟨ad1,n1,c1,rfl,hn1,hnc, -, -, -⟩:=hO.form2;have HNC:=Lib.hid hnc;clear hnc;have B1:=Lib.hid ((Bx28.new w 34 #[.int .i64 S.Pn.zero28.st,.int .u16 S.Pn.zero28.ad,.int .u8 S.Pn.zero28.da,.bool S.Pn.zero28.sy,.bool S.Pn.zero28.db,.bool S.Pn.zero28.wa,.bool S.Pn.zero28.it,.bool S.Pn.zero28.al,.bool S.Pn.zero28.im,.bool S.Pn.zero28.s1,.bool S.Pn.zero28.s0,.bool S.Pn.zero28.rd,.bool S.Pn.zero28.ia,.bool S.Pn.zero28.so,.bool S.Pn.zero28.wr,.bool S.Pn.zero28.hl,.bool S.Pn.zero28.fl]).adds hA);have A1:=Lib.hid ((show Adds w _ from aD).trans hA);(have q1:3≤(n1:Int):=by (have:=hn1.out;simp at this;omega));(have HH:=Lib.hid (hO.held (Nat.le_trans HLn.out (by decide))));clear hO hA)
  obtain ⟨g,o,rfl,hg,hat⟩:=HH.out.2.2 (by omega)
  have e0:wx.cell? ⟨g,o,none⟩=some (.string ⟨w0.toArray⟩):=AtS.el (j:=0) hat rfl
  have e1:wx.cell? ⟨g,o+1,none⟩=some (.string ⟨w1.toArray⟩):=AtS.el hat rfl
  have e2:wx.cell? ⟨g,o+2,none⟩=some (.string ⟨w2.toArray⟩):=AtS.el hat rfl
  have z1:=A1.out.size
  have q11:(1:Int) < (n1:Int):=by omega
  have q12:(2:Int) < (n1:Int):=by omega
  clear hat
  go_cut [4] from 15 to 25 (fun v4 wy=>∃b4:Nat,v4=.pointer (some ⟨b4,0,none⟩)∧wx.heap.size≤b4∧Hid (Bx28 wy b4 34 #[.int .i64 0,.int .u16 (S.numR w1:Nat),.int .u8 (S.numR w2 % 256:Nat),.bool false,.bool false,.bool false,.bool false,.bool false,.bool false,.bool false,.bool false,.bool false,.bool false,.bool false,.bool false,.bool false,.bool false])∧Hid (Adds wx wy))
  case first=>
   have hk:∀W,Adds wx W→(W.cell? ⟨g,o+1,none⟩=some (.string ⟨w1.toArray⟩)∧W.cell? ⟨g,o+2,none⟩=some (.string ⟨w2.toArray⟩)):=fun W k=>⟨(k.cell hg).trans e1,(k.cell hg).trans e2⟩
   refine wp_region_noPanic ?_
   refine wp_region_held_drew (S:=fun W=>W.cell? ⟨g,o+1,none⟩=some (.string ⟨w1.toArray⟩)∧W.cell? ⟨g,o+2,none⟩=some (.string ⟨w2.toArray⟩)) (by kernel_rfl) (by (try dsimp only);exact hk _ aD) (fun hHeld=> ?_)
   refine tk 0 rfl ?_
   refine tk 1 rfl ?_
   refine tk 2 rfl ?_
   refine tk 5 rfl ?_
   refine tk 6 rfl ?_
   refine tk 7 rfl ?_
   refine wpAnyH_ready (rs:=[3,11]) (by kernel_rfl) (by simp) ?_
   refine AllReadyH.cons rfl (fun K hK=> ?_) (AllReadyH.cons rfl (fun K hK=> ?_) AllReadyH.nil)
   ·go_simp
    (go_at_call 82;with_reducible refine ad (H1.out _) fun n1 os1=> ?_)
    refine hK.out _ _ (by (try dsimp only);exact hk _ aD) (fun hHeld=> ?_)
    clear hK K
    (try simp only [Act.put,List.setIfInBounds_toArray,List.set_cons_zero,List.set_cons_succ])
    refine tk 4 rfl ?_
    refine wpAnyH_ready (rs:=[8,11]) (by kernel_rfl) (by simp) ?_
    refine AllReadyH.cons rfl (fun K hK=> ?_) (AllReadyH.cons rfl (fun K hK=> ?_) AllReadyH.nil)
    ·go_simp
     (go_at_call 82;with_reducible refine ad (H2.out _) fun n2 os2=> ?_)
     refine hK.out _ _ (by (try dsimp only);exact hk _ aD) (fun hHeld=> ?_)
     clear hK K
     (try simp only [Act.put,List.setIfInBounds_toArray,List.set_cons_zero,List.set_cons_succ])
     refine tk 9 rfl ?_
     refine tk 10 rfl ?_
     refine wpAnyH_ready (rs:=[11]) (by kernel_rfl) (by simp) ?_
     refine AllReadyH.cons rfl (fun K hK=> ?_) AllReadyH.nil
     go_simp
     refine hK.out _ _ (by (try dsimp only);exact hk _ aD) (fun hHeld=> ?_)
     clear hK K
     (try simp only [Act.put,List.setIfInBounds_toArray,List.set_cons_zero,List.set_cons_succ])
     refine wpAnyH_ready (rs:=[12]) (by kernel_rfl) (by simp) ?_
     refine AllReadyH.cons rfl (fun K hK=> ?_) AllReadyH.nil
     go_simp
     refine hK.out _ _ (by (try dsimp only);exact hk _ aD) (fun hHeld=> ?_)
     clear hK K
     (try simp only [Act.put,List.setIfInBounds_toArray,List.set_cons_zero,List.set_cons_succ])
     refine wpAnyH_done (by kernel_rfl) ?_ _
     refine NoPanic.normal ?_
     clear hHeld
     go_wp2_with fail
     go_meet
     exact ⟨_,rfl,by first|omega|(simp [go_sem];done)|(simp [go_sem];omega),by rw [HU1.out,HU2.out];exact Bx28.new2 _ _ _ (by simp [go_sem]),aD⟩
    ·go_simp
     refine hK.out _ _ (by (try dsimp only);exact hk _ aD) (fun hHeld=> ?_)
     clear hK K
     (try simp only [Act.put,List.setIfInBounds_toArray,List.set_cons_zero,List.set_cons_succ])
     refine wpAnyH_ready (rs:=[8]) (by kernel_rfl) (by simp) ?_
     refine AllReadyH.cons rfl (fun K hK=> ?_) AllReadyH.nil
     go_simp
     (go_at_call 82;with_reducible refine ad (H2.out _) fun n2 os2=> ?_)
     refine hK.out _ _ (by (try dsimp only);exact hk _ aD) (fun hHeld=> ?_)
     clear hK K
     (try simp only [Act.put,List.setIfInBounds_toArray,List.set_cons_zero,List.set_cons_succ])
     refine tk 9 rfl ?_
     refine tk 10 rfl ?_
     refine wpAnyH_ready (rs:=[12]) (by kernel_rfl) (by simp) ?_
     refine AllReadyH.cons rfl (fun K hK=> ?_) AllReadyH.nil
     go_simp
     refine hK.out _ _ (by (try dsimp only);exact hk _ aD) (fun hHeld=> ?_)
     clear hK K
     (try simp only [Act.put,List.setIfInBounds_toArray,List.set_cons_zero,List.set_cons_succ])
     refine wpAnyH_done (by kernel_rfl) ?_ _
     refine NoPanic.normal ?_
     clear hHeld
     go_wp2_with fail
     go_meet
     exact ⟨_,rfl,by first|omega|(simp [go_sem];done)|(simp [go_sem];omega),by rw [HU1.out,HU2.out];exact (Bx28.new2 (More wx n1 os1) _ _ (by simp [go_sem])).adds aD,aD⟩
   ·go_simp
    refine hK.out _ _ (by (try dsimp only);exact hk _ aD) (fun hHeld=> ?_)
    clear hK K
    (try simp only [Act.put,List.setIfInBounds_toArray,List.set_cons_zero,List.set_cons_succ])
    refine wpAnyH_ready (rs:=[3]) (by kernel_rfl) (by simp) ?_
    refine AllReadyH.cons rfl (fun K hK=> ?_) AllReadyH.nil
    go_simp
    (go_at_call 82;with_reducible refine ad (H1.out _) fun n1 os1=> ?_)
    refine hK.out _ _ (by (try dsimp only);exact hk _ aD) (fun hHeld=> ?_)
    clear hK K
    (try simp only [Act.put,List.setIfInBounds_toArray,List.set_cons_zero,List.set_cons_succ])
    refine tk 4 rfl ?_
    refine wpAnyH_ready (rs:=[8]) (by kernel_rfl) (by simp) ?_
    refine AllReadyH.cons rfl (fun K hK=> ?_) AllReadyH.nil
    go_simp
    (go_at_call 82;with_reducible refine ad (H2.out _) fun n2 os2=> ?_)
    refine hK.out _ _ (by (try dsimp only);exact hk _ aD) (fun hHeld=> ?_)
    clear hK K
    (try simp only [Act.put,List.setIfInBounds_toArray,List.set_cons_zero,List.set_cons_succ])
    refine tk 9 rfl ?_
    refine tk 10 rfl ?_
    refine wpAnyH_ready (rs:=[12]) (by kernel_rfl) (by simp) ?_
    refine AllReadyH.cons rfl (fun K hK=> ?_) AllReadyH.nil
    go_simp
    refine hK.out _ _ (by (try dsimp only);exact hk _ aD) (fun hHeld=> ?_)
    clear hK K
    (try simp only [Act.put,List.setIfInBounds_toArray,List.set_cons_zero,List.set_cons_succ])
    refine wpAnyH_done (by kernel_rfl) ?_ _
    refine NoPanic.normal ?_
    clear hHeld
    go_wp2_with fail
    go_meet
    exact ⟨_,rfl,by first|omega|(simp [go_sem];done)|(simp [go_sem];omega),by rw [HU1.out,HU2.out];exact (Bx28.new2 wx _ _ rfl).adds aD,aD⟩
  case rest=>
   obtain ⟨b4,rfl,hb4,HB4,HA4⟩:=hcut
   have zr:=B1.out.lt
   clear e1 e2 q11 q12 HU1 HU2 H1 H2 HW
   generalize S.numR w1=na at *
   generalize S.numR w2 % 256=nd at *
   go_wp2_with fail
   go_loopw [5] (fun n wr=>∃k:Nat,k≤10∧n=.int .i64 ((k:Int)+1)∧Hid (Bx28 wr b4 34 #[.int .i64 (S.stt28 w0 k),.int .u16 na,.int .u8 nd,.bool false,.bool false,.bool false,.bool false,.bool false,.bool false,.bool false,.bool false,.bool false,.bool false,.bool false,.bool false,.bool false,.bool false])∧Hid (Adds wx wr)) (fun n _=>11 - (intOf n).toNat)
   case atStart=>exact ⟨0,by omega,rfl,by rw [S.stt28_zero];exact HB4.out.adds aD,HA4.out.trans aD⟩
   case round=>
    obtain ⟨k,hk,rfl,HB,HA⟩:=hrel
    by_cases hlt:k < 10
    ·have q2:(k:Int)+1≤10:=by omega
     obtain ⟨x,hx⟩:∃x,S.stn[k]? =some x:=⟨S.stn[k]'hlt,List.getElem?_eq_getElem _⟩
     have hst:=fun w=>state28 ((k:Int)+1) w
     rw [S.stn_nm hx] at hst
     have HS:=Lib.hid hst
     have c0:wr.cell? ⟨g,o,none⟩=some (.string ⟨w0.toArray⟩):=(HA.out.cell hg).trans e0
     have hgr:g < wr.heap.size:=Nat.lt_of_lt_of_le hg HA.out.size
     have q3:(0:Int) < (n1:Int):=by omega
     clear hst
     by_cases he:x=w0
     ·have d1:(x==w0)=true:=by simpa using he
      have HT:=Lib.hid (S.stt28_hit (he▸hx))
      clear he hx
      go_wp2_with fail
      refine qt ?_
      repeat (go_big_quiet_step ((go_at_call 45;exact calls_adds (HS.out _))))
      refine qn fun nq osq=> ?_
      have HMK:=Lib.hid (show Adds wr (More wr nq osq) from aD)
      generalize More wr nq osq=W at *
      have hAW:=HMK.out
      clear HMK
      have HBW:=Lib.hid (HB.out.adds hAW)
      have HAW:=Lib.hid (HA.out.trans hAW)
      have z4:=HBW.out.lt
      have h4:W.cell? ⟨b4,0,none⟩=some (.int .i64 (S.stt28 w0 k)):=rowOf_cell HBW.out.row rfl
      have f4:W.frozen? ⟨b4,0,none⟩=false:=HBW.out.frozen
      clear hAW
      go_wp2_with fail
      exact ⟨⟨k+1,by omega,by go_num,by rw [HT.out];exact (HBW.out.set (i:=0) (.int .i64 ((k:Int)+1))).adds aD,(HAW.out.setCell (a:=⟨b4,0,none⟩) hb4 _).trans aD⟩,by simp [intOf];omega⟩
     ·have d1:(x==w0)=false:=by simpa using he
      have HT:=Lib.hid (S.stt28_miss hx he)
      clear he hx
      go_wp2_with fail
      refine qt ?_
      repeat (go_big_quiet_step ((go_at_call 45;exact calls_adds (HS.out _))))
      refine qn fun nq osq=> ?_
      go_wp2_with fail
      exact ⟨⟨k+1,by omega,by go_num,by rw [HT.out];exact HB.out.adds aD,HA.out.trans aD⟩,by simp [intOf];omega⟩
    ·obtain rfl:k=10:=by omega
     rw [S.stt28_ten] at HB
     have hmk:=fun w=>makeL14 w
     go_wp2_with (go_at_call 48;refine (names28 _).mono ?_;rintro e w5 ⟨b5,rfl,hM,hA5⟩;have hk5:=(show Adds wr _ from aD).trans hA5;have HN:=Lib.hid hM;have BO:=Lib.hid ((Bx28.new wr 4 #[.bool false,.bool false,.bool false,.bool false,.bool false,.bool false,.bool false,.bool false,.bool false,.bool false,.bool false,.bool false,.bool false,.bool false]).adds hA5);have B4:=Lib.hid (HB.out.adds hk5);have A5:=Lib.hid (HA.out.trans hk5);have Z5:=Lib.hid HA.out.size;clear hM hA5 hk5)
     have zb4:=HB.out.lt
     have zx:=HA.out.size
     have z5:=BO.out.lt
     have hne:b5≠wr.heap.size:=by
      intro e
      have h1:=HN.out 0 _ rfl
      rw [e,rowOf_cell BO.out.row (v:=.bool false) rfl] at h1
      cases h1
     have HN':=Lib.hid hne
     have HS3:=Lib.hid (fun (W:World) (k:Adds wx W)=>(add_plain g o 3▸HeldS.from (HH.out.adds k) 3 (by omega):HeldG csS W (some ⟨g,o+3,none⟩) (n1 - 3) rest))
     have HS0:=Lib.hid (fun (h:c1=3) (W:World)=>(show HeldG csS W (some ⟨g,o,none⟩) (n1 - 3) rest by
      have h1:=HNC.out
      have h2:=hn1.out
      simp only [List.length_cons] at h2
      have h3:n1 - 3=0:=by omega
      obtain rfl:rest=[]:=List.eq_nil_of_length_eq_zero (by omega)
      rw [h3]
      exact HeldG.nil _ _))
     have q7:n1≤1000000001:=by have:=HLn.out;have:=hn1.out;omega
     have hbo:wx.heap.size≤wr.heap.size:=zx
     have hb4o:b4≠wr.heap.size:=by omega
     generalize hbw:wr.heap.size=bo at *
     clear hbw
     go_loopw [41] (fun i wq=>∃(k:Nat) (vs:List Bool),k≤14∧i=.int .i64 (k:Int)∧Hid (vs=(S.pnn.take k).map (fun n=>decide (n∈rest))++List.replicate (14 - k) false)∧Hid (Bx28 wq bo 4 (vs.map Value.bool).toArray)∧Hid (Bx28 wq b4 34 #[.int .i64 (S.stR28 w0),.int .u16 na,.int .u8 nd,.bool false,.bool false,.bool false,.bool false,.bool false,.bool false,.bool false,.bool false,.bool false,.bool false,.bool false,.bool false,.bool false,.bool false])∧Hid (∀k n,S.pnn[k]? =some n→wq.cell? ⟨b5,k,none⟩=some (.string ⟨n.toArray⟩))∧Hid (Adds wx wq)) (fun i _=>14 - (intOf i).toNat)
     case atStart=>exact ⟨0,List.replicate 14 false,by omega,rfl,rfl,BO.out.adds aD,B4.out.adds aD,HN,A5.out.trans aD⟩
     case round=>
      obtain ⟨k,vs,hk,rfl,HV,HO,HB,HM,HA2⟩:=hrel
      have hvl:vs.length=14:=by
       rw [HV.out,List.length_append,List.length_map,List.length_take,List.length_replicate,show S.pnn.length=14 from rfl]
       omega
      by_cases h14:k < 14
      ·have q4:(k:Int) < 14:=by omega
       obtain ⟨n,hn⟩:∃n,S.pnn[k]? =some n:=⟨S.pnn[k]'h14,List.getElem?_eq_getElem _⟩
       have hc5:=HM.out k n hn
       have hlk:((S.pnn.take k).map (fun n=>decide (n∈rest))).length=k:=by
        rw [List.length_map,List.length_take,show S.pnn.length=14 from rfl]
        omega
       have HV':=Lib.hid (show vs.set k (decide (n∈rest))=(S.pnn.take (k+1)).map (fun n=>decide (n∈rest))++List.replicate (14 - (k+1)) false by
        rw [HV.out,S.set_take _ k _ hlk h14,List.take_add_one,hn,List.map_append]
        rfl)
       obtain ⟨b0,hb0⟩:∃b0,vs[k]? =some b0:=⟨vs[k]'(by omega),List.getElem?_eq_getElem _⟩
       have HC0:=Lib.hid (show ((vs.map Value.bool).toArray:Array Value)[k]? =some (.bool b0) by simp [hb0])
       have HW28:=Lib.hid (fun (a:Option Addr) (c:Nat) (W:World) (h:HeldS W a (n1 - 3) rest)=>within28 a (n1 - 3) c rest n W h (by omega))
       generalize decide (n∈rest)=dv at *
       clear hlk hb0 hn
       have HSI:=Lib.hid (show HeldS wr (if c1=3 then some ⟨g,o,none⟩ else some ⟨g,o+3,none⟩) (n1 - 3) rest by
        split
        ·exact HS0.out (by assumption) wr
        ·exact HS3.out wr HA2.out)
       have HS1:=Lib.hid (show ((vs.map Value.bool).toArray:Array Value).setIfInBounds k (.bool dv)=((vs.set k dv).map Value.bool).toArray by simp)
       go_wp2_with (go_at_call 83;(with_reducible refine (HW28.out _ _ wr HSI.out).mono ?_);rintro e w6 ⟨rfl,hA6⟩;have B6:=Lib.hid (HO.out.adds hA6);have B46:=Lib.hid (HB.out.adds hA6);have HM6:=Lib.hid (fun k n hn=>((hA6.cell (cell_in (HM.out k n hn))).trans (HM.out k n hn):w6.cell? ⟨b5,k,none⟩=some (.string ⟨n.toArray⟩)));have A6:=Lib.hid (HA2.out.trans hA6);have hc6:w6.cell? ⟨bo,k,none⟩=some (.bool b0):=rowOf_cell B6.out.row HC0.out;have hz6:w6.frozen? ⟨bo,k,none⟩=false:=B6.out.frozen;clear hA6)
       all_goals exact ⟨⟨k+1,vs.set k dv,by omega,by go_num,HV',(HS1.out▸B6.out.set (i:=k) (.bool dv):Bx28 (w6.setCell ⟨bo,k,none⟩ (.bool dv)) bo 4 _).adds aD,(B46.out.other (a:=⟨bo,k,none⟩) (.bool dv) (Ne.symm hb4o)).adds aD,fun j m hm=>by first|(rw [World.cell?_setCell_far _ _ _ _ (Ne.symm hne)];exact HM6.out j m hm)|(simp only [World.cell?_setCell_far _ _ _ _ (Ne.symm hne)];exact HM6.out j m hm),(A6.out.setCell (a:=⟨bo,k,none⟩) hbo (.bool dv)).trans aD⟩,by simp [intOf];omega⟩
      ·obtain rfl:k=14:=by omega
       have hv:=HV.out
       rw [List.take_of_length_le (show S.pnn.length≤14 by decide),Nat.sub_self,List.replicate_zero,List.append_nil] at hv
       have HR':=Lib.hid (show R=S.mkPn (S.stR28 w0) na nd vs by rw [hv];exact HR.out)
       clear hv HV
       obtain ⟨v0,v1,v2,v3,v4,v5,v6,v7,v8,v9,v10,v11,v12,v13,rfl⟩:=S.l14 vs hvl
       simp only [List.map_cons,List.map_nil] at HO
       have ho:∀j u,(#[.bool v0,.bool v1,.bool v2,.bool v3,.bool v4,.bool v5,.bool v6,.bool v7,.bool v8,.bool v9,.bool v10,.bool v11,.bool v12,.bool v13]:Array Value)[j]? =some u→wr.cell? ⟨bo,j,none⟩=some u:=fun j u h=>rowOf_cell HO.out.row h
       have o0:wr.cell? ⟨bo,0,none⟩=some (.bool v0):=ho 0 _ rfl
       have o1:wr.cell? ⟨bo,1,none⟩=some (.bool v1):=ho 1 _ rfl
       have o2:wr.cell? ⟨bo,2,none⟩=some (.bool v2):=ho 2 _ rfl
       have o3:wr.cell? ⟨bo,3,none⟩=some (.bool v3):=ho 3 _ rfl
       have o4:wr.cell? ⟨bo,4,none⟩=some (.bool v4):=ho 4 _ rfl
       have o5:wr.cell? ⟨bo,5,none⟩=some (.bool v5):=ho 5 _ rfl
       have o6:wr.cell? ⟨bo,6,none⟩=some (.bool v6):=ho 6 _ rfl
       have p0:wr.cell? ⟨b4,3,none⟩=some (.bool false):=rowOf_cell HB.out.row rfl
       have p1:wr.cell? ⟨b4,4,none⟩=some (.bool false):=rowOf_cell HB.out.row rfl
       have p2:wr.cell? ⟨b4,5,none⟩=some (.bool false):=rowOf_cell HB.out.row rfl
       have p3:wr.cell? ⟨b4,6,none⟩=some (.bool false):=rowOf_cell HB.out.row rfl
       have p4:wr.cell? ⟨b4,7,none⟩=some (.bool false):=rowOf_cell HB.out.row rfl
       have p5:wr.cell? ⟨b4,8,none⟩=some (.bool false):=rowOf_cell HB.out.row rfl
       have p6:wr.cell? ⟨b4,9,none⟩=some (.bool false):=rowOf_cell HB.out.row rfl
       have fz:∀i,wr.frozen? ⟨b4,i,none⟩=false:=fun i=>HB.out.frozen
       have zb:=HB.out.lt
       have HW0:=Lib.hid (show Bx28 wr bo 4 #[.bool v0,.bool v1,.bool v2,.bool v3,.bool v4,.bool v5,.bool v6,.bool v7,.bool v8,.bool v9,.bool v10,.bool v11,.bool v12,.bool v13]∧Bx28 wr b4 34 #[.int .i64 (S.stR28 w0),.int .u16 na,.int .u8 nd,.bool false,.bool false,.bool false,.bool false,.bool false,.bool false,.bool false,.bool false,.bool false,.bool false,.bool false,.bool false,.bool false,.bool false]∧Adds wx wr from ⟨HO.out,HB.out,HA2.out⟩)
       go_wp2_with fail
       refine wp_region_noPanic ?_
       refine wp_region_held_drew (S:=fun W=>∀i,W.cell? ⟨bo,i,none⟩=wr.cell? ⟨bo,i,none⟩) (by kernel_rfl) (by (try dsimp only);exact fun i=>rfl) (fun hHeld=> ?_)
       refine tk 0 rfl ?_
       refine tk 1 rfl ?_
       refine tk 2 rfl ?_
       refine tk 3 rfl ?_
       refine tk 4 rfl ?_
       refine tk 5 rfl ?_
       refine tk 6 rfl ?_
       refine tk 7 rfl ?_
       refine tk 8 rfl ?_
       refine tk 9 rfl ?_
       refine tk 10 rfl ?_
       refine tk 11 rfl ?_
       refine tk 12 rfl ?_
       refine tk 13 rfl ?_
       refine tk 14 rfl ?_
       refine tk 15 rfl ?_
       refine tk 16 rfl ?_
       refine tk 17 rfl ?_
       refine tk 18 rfl ?_
       refine tk 19 rfl ?_
       refine tk 20 rfl ?_
       refine tk 21 rfl ?_
       refine wpAnyH_ready (rs:=[22]) (by kernel_rfl) (by simp) ?_
       refine AllReadyH.cons rfl (fun K hK=> ?_) AllReadyH.nil
       go_simp
       refine hK.out _ _ (by (try dsimp only);exact fun i=>(cell_far28 i _ hb4o).trans (hHeld i)) (fun hHeld=> ?_)
       clear hK K
       (try simp only [Act.put,List.setIfInBounds_toArray,List.set_cons_zero,List.set_cons_succ])
       refine tk 23 rfl ?_
       refine wpAnyH_ready (rs:=[24]) (by kernel_rfl) (by simp) ?_
       refine AllReadyH.cons rfl (fun K hK=> ?_) AllReadyH.nil
       go_simp
       refine hK.out _ _ (by (try dsimp only);exact fun i=>(cell_far28 i _ hb4o).trans (hHeld i)) (fun hHeld=> ?_)
       clear hK K
       (try simp only [Act.put,List.setIfInBounds_toArray,List.set_cons_zero,List.set_cons_succ])
       refine tk 25 rfl ?_
       refine wpAnyH_ready (rs:=[26]) (by kernel_rfl) (by simp) ?_
       refine AllReadyH.cons rfl (fun K hK=> ?_) AllReadyH.nil
       go_simp
       refine hK.out _ _ (by (try dsimp only);exact fun i=>(cell_far28 i _ hb4o).trans (hHeld i)) (fun hHeld=> ?_)
       clear hK K
       (try simp only [Act.put,List.setIfInBounds_toArray,List.set_cons_zero,List.set_cons_succ])
       refine tk 27 rfl ?_
       refine wpAnyH_ready (rs:=[28]) (by kernel_rfl) (by simp) ?_
       refine AllReadyH.cons rfl (fun K hK=> ?_) AllReadyH.nil
       go_simp
       refine hK.out _ _ (by (try dsimp only);exact fun i=>(cell_far28 i _ hb4o).trans (hHeld i)) (fun hHeld=> ?_)
       clear hK K
       (try simp only [Act.put,List.setIfInBounds_toArray,List.set_cons_zero,List.set_cons_succ])
       refine tk 29 rfl ?_
       refine wpAnyH_ready (rs:=[30]) (by kernel_rfl) (by simp) ?_
       refine AllReadyH.cons rfl (fun K hK=> ?_) AllReadyH.nil
       go_simp
       refine hK.out _ _ (by (try dsimp only);exact fun i=>(cell_far28 i _ hb4o).trans (hHeld i)) (fun hHeld=> ?_)
       clear hK K
       (try simp only [Act.put,List.setIfInBounds_toArray,List.set_cons_zero,List.set_cons_succ])
       refine tk 31 rfl ?_
       refine wpAnyH_ready (rs:=[32]) (by kernel_rfl) (by simp) ?_
       refine AllReadyH.cons rfl (fun K hK=> ?_) AllReadyH.nil
       go_simp
       refine hK.out _ _ (by (try dsimp only);exact fun i=>(cell_far28 i _ hb4o).trans (hHeld i)) (fun hHeld=> ?_)
       clear hK K
       (try simp only [Act.put,List.setIfInBounds_toArray,List.set_cons_zero,List.set_cons_succ])
       refine tk 33 rfl ?_
       refine wpAnyH_ready (rs:=[34]) (by kernel_rfl) (by simp) ?_
       refine AllReadyH.cons rfl (fun K hK=> ?_) AllReadyH.nil
       go_simp
       refine hK.out _ _ (by (try dsimp only);exact fun i=>(cell_far28 i _ hb4o).trans (hHeld i)) (fun hHeld=> ?_)
       clear hK K
       (try simp only [Act.put,List.setIfInBounds_toArray,List.set_cons_zero,List.set_cons_succ])
       refine wpAnyH_done (by kernel_rfl) ?_ _
       refine NoPanic.normal ?_
       clear hHeld
       go_step
       go_step
       refine wp_forget (fun W=>Bx28 W bo 4 #[.bool v0,.bool v1,.bool v2,.bool v3,.bool v4,.bool v5,.bool v6,.bool v7,.bool v8,.bool v9,.bool v10,.bool v11,.bool v12,.bool v13]∧Bx28 W b4 34 #[.int .i64 (S.stR28 w0),.int .u16 na,.int .u8 nd,.bool v0,.bool v1,.bool v2,.bool v3,.bool v4,.bool v5,.bool v6,.bool false,.bool false,.bool false,.bool false,.bool false,.bool false,.bool false]∧Adds wx W) ⟨oth7a hb4o HW0.out.1,row7a HW0.out.2.1,add7a hb4 HW0.out.2.2⟩ ?_
       clear ho o0 o1 o2 o3 o4 o5 o6 p0 p1 p2 p3 p4 p5 p6 fz zb HO HB HA2 HW0
       rintro W7 ⟨hO7,hB7,hA7⟩
       have o0:W7.cell? ⟨bo,7,none⟩=some (.bool v7):=rowOf_cell hO7.row rfl
       have o1:W7.cell? ⟨bo,8,none⟩=some (.bool v8):=rowOf_cell hO7.row rfl
       have o2:W7.cell? ⟨bo,9,none⟩=some (.bool v9):=rowOf_cell hO7.row rfl
       have o3:W7.cell? ⟨bo,10,none⟩=some (.bool v10):=rowOf_cell hO7.row rfl
       have o4:W7.cell? ⟨bo,11,none⟩=some (.bool v11):=rowOf_cell hO7.row rfl
       have o5:W7.cell? ⟨bo,12,none⟩=some (.bool v12):=rowOf_cell hO7.row rfl
       have o6:W7.cell? ⟨bo,13,none⟩=some (.bool v13):=rowOf_cell hO7.row rfl
       have p0:W7.cell? ⟨b4,10,none⟩=some (.bool false):=rowOf_cell hB7.row rfl
       have p1:W7.cell? ⟨b4,11,none⟩=some (.bool false):=rowOf_cell hB7.row rfl
       have p2:W7.cell? ⟨b4,12,none⟩=some (.bool false):=rowOf_cell hB7.row rfl
       have p3:W7.cell? ⟨b4,13,none⟩=some (.bool false):=rowOf_cell hB7.row rfl
       have p4:W7.cell? ⟨b4,14,none⟩=some (.bool false):=rowOf_cell hB7.row rfl
       have p5:W7.cell? ⟨b4,15,none⟩=some (.bool false):=rowOf_cell hB7.row rfl
       have p6:W7.cell? ⟨b4,16,none⟩=some (.bool false):=rowOf_cell hB7.row rfl
       have fz:∀i,W7.frozen? ⟨b4,i,none⟩=false:=fun i=>hB7.frozen
       have zb:=hB7.lt
       have HW7:=Lib.hid (And.intro hO7 (And.intro hB7 hA7))
       clear hO7 hB7 hA7
       go_wp2_with fail
       refine wp_region_noPanic ?_
       refine wp_region_held_drew (S:=fun W=>∀i,W.cell? ⟨bo,i,none⟩=W7.cell? ⟨bo,i,none⟩) (by kernel_rfl) (by (try dsimp only);exact fun i=>rfl) (fun hHeld=> ?_)
       refine tk 0 rfl ?_
       refine tk 1 rfl ?_
       refine tk 2 rfl ?_
       refine tk 3 rfl ?_
       refine tk 4 rfl ?_
       refine tk 5 rfl ?_
       refine tk 6 rfl ?_
       refine tk 7 rfl ?_
       refine tk 8 rfl ?_
       refine tk 9 rfl ?_
       refine tk 10 rfl ?_
       refine tk 11 rfl ?_
       refine tk 12 rfl ?_
       refine tk 13 rfl ?_
       refine tk 14 rfl ?_
       refine tk 15 rfl ?_
       refine tk 16 rfl ?_
       refine tk 17 rfl ?_
       refine tk 18 rfl ?_
       refine tk 19 rfl ?_
       refine tk 20 rfl ?_
       refine tk 21 rfl ?_
       refine wpAnyH_ready (rs:=[22]) (by kernel_rfl) (by simp) ?_
       refine AllReadyH.cons rfl (fun K hK=> ?_) AllReadyH.nil
       go_simp
       refine hK.out _ _ (by (try dsimp only);exact fun i=>(cell_far28 i _ hb4o).trans (hHeld i)) (fun hHeld=> ?_)
       clear hK K
       (try simp only [Act.put,List.setIfInBounds_toArray,List.set_cons_zero,List.set_cons_succ])
       refine tk 23 rfl ?_
       refine wpAnyH_ready (rs:=[24]) (by kernel_rfl) (by simp) ?_
       refine AllReadyH.cons rfl (fun K hK=> ?_) AllReadyH.nil
       go_simp
       refine hK.out _ _ (by (try dsimp only);exact fun i=>(cell_far28 i _ hb4o).trans (hHeld i)) (fun hHeld=> ?_)
       clear hK K
       (try simp only [Act.put,List.setIfInBounds_toArray,List.set_cons_zero,List.set_cons_succ])
       refine tk 25 rfl ?_
       refine wpAnyH_ready (rs:=[26]) (by kernel_rfl) (by simp) ?_
       refine AllReadyH.cons rfl (fun K hK=> ?_) AllReadyH.nil
       go_simp
       refine hK.out _ _ (by (try dsimp only);exact fun i=>(cell_far28 i _ hb4o).trans (hHeld i)) (fun hHeld=> ?_)
       clear hK K
       (try simp only [Act.put,List.setIfInBounds_toArray,List.set_cons_zero,List.set_cons_succ])
       refine tk 27 rfl ?_
       refine wpAnyH_ready (rs:=[28]) (by kernel_rfl) (by simp) ?_
       refine AllReadyH.cons rfl (fun K hK=> ?_) AllReadyH.nil
       go_simp
       refine hK.out _ _ (by (try dsimp only);exact fun i=>(cell_far28 i _ hb4o).trans (hHeld i)) (fun hHeld=> ?_)
       clear hK K
       (try simp only [Act.put,List.setIfInBounds_toArray,List.set_cons_zero,List.set_cons_succ])
       refine tk 29 rfl ?_
       refine wpAnyH_ready (rs:=[30]) (by kernel_rfl) (by simp) ?_
       refine AllReadyH.cons rfl (fun K hK=> ?_) AllReadyH.nil
       go_simp
       refine hK.out _ _ (by (try dsimp only);exact fun i=>(cell_far28 i _ hb4o).trans (hHeld i)) (fun hHeld=> ?_)
       clear hK K
       (try simp only [Act.put,List.setIfInBounds_toArray,List.set_cons_zero,List.set_cons_succ])
       refine tk 31 rfl ?_
       refine wpAnyH_ready (rs:=[32]) (by kernel_rfl) (by simp) ?_
       refine AllReadyH.cons rfl (fun K hK=> ?_) AllReadyH.nil
       go_simp
       refine hK.out _ _ (by (try dsimp only);exact fun i=>(cell_far28 i _ hb4o).trans (hHeld i)) (fun hHeld=> ?_)
       clear hK K
       (try simp only [Act.put,List.setIfInBounds_toArray,List.set_cons_zero,List.set_cons_succ])
       refine tk 33 rfl ?_
       refine wpAnyH_ready (rs:=[34]) (by kernel_rfl) (by simp) ?_
       refine AllReadyH.cons rfl (fun K hK=> ?_) AllReadyH.nil
       go_simp
       refine hK.out _ _ (by (try dsimp only);exact fun i=>(cell_far28 i _ hb4o).trans (hHeld i)) (fun hHeld=> ?_)
       clear hK K
       (try simp only [Act.put,List.setIfInBounds_toArray,List.set_cons_zero,List.set_cons_succ])
       refine wpAnyH_done (by kernel_rfl) ?_ _
       refine NoPanic.normal ?_
       clear hHeld
       go_step
       go_step
       refine wp_forget (fun W=>Bx28 W bo 4 #[.bool v0,.bool v1,.bool v2,.bool v3,.bool v4,.bool v5,.bool v6,.bool v7,.bool v8,.bool v9,.bool v10,.bool v11,.bool v12,.bool v13]∧Bx28 W b4 34 #[.int .i64 (S.stR28 w0),.int .u16 na,.int .u8 nd,.bool v0,.bool v1,.bool v2,.bool v3,.bool v4,.bool v5,.bool v6,.bool v7,.bool v8,.bool v9,.bool v10,.bool v11,.bool v12,.bool v13]∧Adds wx W) ⟨oth7b hb4o HW7.out.1,row7b HW7.out.2.1,add7b hb4 HW7.out.2.2⟩ ?_
       clear o0 o1 o2 o3 o4 o5 o6 p0 p1 p2 p3 p4 p5 p6 fz zb HW7
       rintro W8 ⟨-,hB8,hA8⟩
       have r4:=hB8.row
       have z4:=hB8.lt
       have r1:=(B1.out.adds hA8).row
       have z8:=(B1.out.adds hA8).lt
       have A8:=Lib.hid (A1.out.trans hA8)
       clear hB8 hA8
       go_wp2_with fail
       exact bodyPost_ret (ret_Pins Tryz.results49 rfl (rowOf_setRow_same _ _ _ (by rw [r1];decide)) rfl) rfl ⟨by rw [HR'.out];rfl,(A8.out.setRow28 (Nat.le_refl _) _).trans aD⟩
end
end Go.Proofs.YteggjjhjmhccjaaGreatDoor
