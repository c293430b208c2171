/- Texts that the proofs of the statements on dumps rest on, joined. Conditions stand in each theorem. -/
import Derived.Test.YteggjjhjmhccjaaGreatDoorR02
import Derived.Test.YteggjjhjmhccjaaGreatDoorR01
import Derived.Test.YteggjjhjmhccjaaGreatDoorQ03
import Derived.Test.YteggjjhjmhccjaaGreatDoorRows
import Derived.Deep.Slices
import Derived.LaidMore
import Derived.OpenShut
import Derived.ProofKit
import Derived.Stop.Joined
set_option linter.unusedVariables false
set_option linter.unusedSimpArgs false
set_option maxRecDepth 100000
set_option maxHeartbeats 8000000
namespace Go.Proofs.YteggjjhjmhccjaaGreatDoor
open Go.ChangeShapes Go.WideShapes Go.ChangeAt Go.RowKit
section
namespace S
def pd28 (s:Bs) (R:List Pn×Nat×Bool) (k f n:Nat) (d:List Pn):Prop:=k≤s.length∧f≤k∧(10:UInt8)∉(s.drop f).take (k - f)∧lns n d (spl 10 (s.drop f))=R
theorem pd28_zero (s:Bs):pd28 s (par28 s) 0 0 1 []:=⟨Nat.zero_le _,Nat.le_refl _,by simp,rfl⟩
theorem pd28_skip {s:Bs} {R:List Pn×Nat×Bool} {k f n:Nat} {d:List Pn} (h:pd28 s R k f n d) {c:UInt8} (hc:s[k]? =some c) (hne:c≠10):pd28 s R (k+1) f n d:=by
 have hk:=(List.getElem?_eq_some_iff.1 hc).1
 obtain ⟨h1,h2,h3,h4⟩:=h
 refine ⟨hk,by omega,?_,h4⟩
 rw [show k+1 - f=(k - f)+1 by omega,List.take_add_one,List.getElem?_drop,show f+(k - f)=k by omega,hc]
 simp only [Option.toList_some,List.mem_append,List.mem_singleton,not_or]
 exact ⟨h3,fun e=>hne e.symm⟩
theorem pd28_line {s:Bs} {R:List Pn×Nat×Bool} {k f n:Nat} {d:List Pn} (h:pd28 s R k f n d) (hc:s[k]? =some 10):R=match prs28 ((s.drop f).take (k - f)) with
 |some p=>lns (n+1) (d++[p]) (spl 10 (s.drop (k+1)))
 |none=>([],n,false):=by
 have hk:=(List.getElem?_eq_some_iff.1 hc).1
 obtain ⟨h1,h2,h3,h4⟩:=h
 have e:s.drop f=(s.drop f).take (k - f)++10::s.drop (k+1):=by
  conv=>lhs;rw [←List.take_append_drop (k - f) (s.drop f)]
  rw [List.drop_drop,show f+(k - f)=k by omega,List.drop_eq_getElem_cons hk]
  rw [List.getElem?_eq_getElem hk] at hc
  rw [Option.some.inj hc]
 have hu:upt28 10 (s.drop f)=(s.drop f).take (k - f):=by
  conv=>lhs;rw [e]
  exact upt28_app 10 _ _ h3
 have hr:cutR 10 (s.drop f)=s.drop (k+1):=by
  unfold cutR
  rw [hu,List.length_take,List.length_drop,List.drop_drop]
  congr 1
  omega
 rw [←h4,lns_in n d (s.drop f) (by rw [e];simp),hu,hr]
 cases prs28 ((s.drop f).take (k - f))<;>rfl
theorem pd28_bad {s:Bs} {R:List Pn×Nat×Bool} {k f n:Nat} {d:List Pn} (h:pd28 s R k f n d) (hc:s[k]? =some 10) (hb:(rd28 ((s.drop f).take (k - f))).st=0∨rec28 (rd28 ((s.drop f).take (k - f)))≠(s.drop f).take (k - f)):R=([],n,false):=by
 rw [pd28_line h hc,prs_rd,if_pos hb]
theorem pd28_good {s:Bs} {R:List Pn×Nat×Bool} {k f n:Nat} {d:List Pn} (h:pd28 s R k f n d) (hc:s[k]? =some 10) (h1:(rd28 ((s.drop f).take (k - f))).st≠0) (h2:rec28 (rd28 ((s.drop f).take (k - f)))=(s.drop f).take (k - f)):pd28 s R (k+1) (k+1) (n+1) (d++[rd28 ((s.drop f).take (k - f))]):=by
 refine ⟨(List.getElem?_eq_some_iff.1 hc).1,Nat.le_refl _,by simp,?_⟩
 rw [pd28_line h hc,prs_rd,if_neg (fun e=>e.elim h1 (fun q=>q h2))]
theorem pd28_cut {s:Bs} {R:List Pn×Nat×Bool} {f n:Nat} {d:List Pn} (h:pd28 s R s.length f n d) (hf:f < s.length):R=([],n,false):=by
 obtain ⟨h1,h2,h3,h4⟩:=h
 rw [List.take_of_length_le (by rw [List.length_drop];exact Nat.le_refl _)] at h3
 rw [←h4,lns_un n d _ (fun e=>by have:=congrArg List.length e;rw [List.length_drop] at this;simp at this;omega) h3]
theorem pd28_end {s:Bs} {R:List Pn×Nat×Bool} {f n:Nat} {d:List Pn} (h:pd28 s R s.length f n d) (hf:¬f < s.length):R=(d,0,true):=by
 obtain ⟨h1,h2,h3,h4⟩:=h
 rw [←h4,List.drop_of_length_le (by omega),lns_end]
end S
theorem rparse28 (s:List UInt8) (hs:s.length≤1000000000) (w:World):Calls Tryz.prog 21 #[.string ⟨s.toArray⟩] w fun e w'=>∃v,e=.returned (.tuple #[v,.int .i64 (S.par28 s).2.1,.int .i64 (S.er28 (S.par28 s).2.2)])∧OwnsQ w' w.heap.size v (S.par28 s).1∧Adds w w':=by
 have HP0:=Lib.hid (S.pd28_zero s)
 generalize S.par28 s=R at *
 have HZ:=Lib.hid hs
 clear hs
 go_enter Tryz.func21,Tryz.ntmps21
 go_wp2_with fail
 go_loopw [5,6,7,8] (fun x y z i wr=>∃(k f n:Nat) (d:List S.Pn),y=.int .i64 (f:Int)∧z=.int .i64 (n:Int)∧i=.int .i64 (k:Int)∧k≤s.length∧f≤k∧n≤k+1∧Hid (S.pd28 s R k f n d)∧Hid (d.length≤k)∧Hid (OwnsQ wr w.heap.size x d)∧Hid (Adds w wr)) (fun _ _ _ i _=>s.length - (intOf i).toNat)
 case atStart=>exact ⟨0,0,1,[],rfl,rfl,rfl,by omega,by omega,by omega,HP0.out,Nat.le_refl _,OwnsG.nil _ _,Adds.refl _⟩
 case round=>
  obtain ⟨k,f,n,d,rfl,rfl,rfl,hk,hfk,hnk,HP,HL,HO,HA⟩:=hrel
  obtain ⟨ad0,nn,cc,rfl, -, -, -, -, -⟩:=HO.out.form2
  have q9:(k:Int)≤1000000000:=by have:=HZ.out;omega
  have q8:(n:Int)≤1000000001:=by omega
  by_cases hlt:k < s.length
  ·have q2:(k:Int) < (s.length:Int):=by omega
   obtain ⟨c,hc⟩:∃c,s[k]? =some c:=⟨s[k]'hlt,List.getElem?_eq_getElem _⟩
   have hi:=fun w=>at28 s k c hc w
   by_cases he:c=10
   ·subst he
    have hsl:=fun w=>sl_both s f k hfk (by omega) w
    have HRd:=Lib.hid (fun w=>read28 ((s.drop f).take (k - f)) (by rw [List.length_take,List.length_drop];have:=HZ.out;omega) w)
    have hbad:=S.pd28_bad HP.out hc
    have hgood:=S.pd28_good HP.out hc
    have hok:=S.rd_ok ((s.drop f).take (k - f))
    generalize S.rd28 ((s.drop f).take (k - f))=P at *
    generalize (s.drop f).take (k - f)=u at *
    clear hc
    by_cases h0:P.st=0
    ·have HR:=Lib.hid (hbad (.inl h0))
     have d1:(P.st==0)=true:=by simpa using h0
     clear hbad hgood hok h0
     go_wp2_with (go_at_call 49;refine (HRd.out _).mono ?_;rintro e w1 ⟨rfl,hA1⟩;have A1:=Lib.hid (HA.out.trans hA1);clear hA1)
     refine qt ?_
     repeat (go_big_quiet_step (fail))
     refine qn fun nq osq=> ?_
     go_wp2_with fail
     exact bodyPost_ret (v:=.tuple #[_,_,_]) (by simp [results,Tryz.results21,go_sem];exact ⟨rfl,rfl,rfl⟩) rfl ⟨_,by rw [HR.out];rfl,by rw [HR.out];exact OwnsG.nil _ _,A1.out.trans aD⟩
    ·have d1:(P.st==0)=false:=by simpa using h0
     obtain ⟨-,ha,hd⟩:=hok h0
     have HRec:=Lib.hid (fun w=>record28 P ha hd w)
     by_cases hr:S.rec28 P=u
     ·have d2:(S.rec28 P==u)=true:=by simpa using hr
      have HP':=Lib.hid (hgood h0 hr)
      clear hbad hgood hok h0 ha hd hr
      go_wp2_with (go_at_call 49;refine (HRd.out _).mono ?_;rintro e w1 ⟨rfl,hA1⟩;have A1:=Lib.hid (HA.out.trans hA1);have O1:=Lib.hid (HO.out.adds hA1);clear hA1)
      refine qt ?_
      repeat (go_big_quiet_step ((go_at_call 20;exact calls_adds (HRec.out _))))
      refine qn fun nq osq=> ?_
      have HMW:=Lib.hid (show Adds w1 (More (w1.alloc (.cells #[.int .i64 P.st,.int .u16 P.ad,.int .u8 P.da,.bool P.sy,.bool P.db,.bool P.wa,.bool P.it,.bool P.al,.bool P.im,.bool P.s1,.bool P.s0,.bool P.rd,.bool P.ia,.bool P.so,.bool P.wr,.bool P.hl,.bool P.fl] 34)) nq osq)∧rowOf (More (w1.alloc (.cells #[.int .i64 P.st,.int .u16 P.ad,.int .u8 P.da,.bool P.sy,.bool P.db,.bool P.wa,.bool P.it,.bool P.al,.bool P.im,.bool P.s1,.bool P.s0,.bool P.rd,.bool P.ia,.bool P.so,.bool P.wr,.bool P.hl,.bool P.fl] 34)) nq osq) w1.heap.size=#[.int .i64 P.st,.int .u16 P.ad,.int .u8 P.da,.bool P.sy,.bool P.db,.bool P.wa,.bool P.it,.bool P.al,.bool P.im,.bool P.s1,.bool P.s0,.bool P.rd,.bool P.ia,.bool P.so,.bool P.wr,.bool P.hl,.bool P.fl]∧w1.heap.size < (More (w1.alloc (.cells #[.int .i64 P.st,.int .u16 P.ad,.int .u8 P.da,.bool P.sy,.bool P.db,.bool P.wa,.bool P.it,.bool P.al,.bool P.im,.bool P.s1,.bool P.s0,.bool P.rd,.bool P.ia,.bool P.so,.bool P.wr,.bool P.hl,.bool P.fl] 34)) nq osq).heap.size from ⟨aD,by simp [go_sem],by simp [go_sem];try omega⟩)
      generalize More (w1.alloc (.cells #[.int .i64 P.st,.int .u16 P.ad,.int .u8 P.da,.bool P.sy,.bool P.db,.bool P.wa,.bool P.it,.bool P.al,.bool P.im,.bool P.s1,.bool P.s0,.bool P.rd,.bool P.ia,.bool P.so,.bool P.wr,.bool P.hl,.bool P.fl] 34)) nq osq=W at *
      obtain ⟨hAW,r9,z9⟩:=HMW.out
      have O2:=Lib.hid (O1.out.adds hAW)
      have A2:=Lib.hid (A1.out.trans hAW)
      have Z2:=Lib.hid (Nat.le_trans A1.out.size hAW.size)
      clear HMW hAW O1 A1
      go_wp2_with (at_builtin;refine wpList_appQ1 rfl _ _ rfl w.heap.size (.slice ad0 nn cc) d rfl P _ _ W.heap.size rfl rfl rfl (O2.out.adds aD) (by have:=HL.out;have:=HZ.out;omega) Z2.out ?_;intro v3 w3 hO3 hG3;obtain ⟨a3,n3,c3,rfl, -, -, -, -, -⟩:=hO3.form2;have O3:=Lib.hid hO3;have A3:=Lib.hid (Adds.own28 A2.out O2.out hG3);clear hO3 hG3)
      exact ⟨⟨k+1,k+1,n+1,d++[P],by go_num,by go_num,by go_num,by omega,by omega,by omega,HP',(by have:=HL.out;rw [List.length_append];simp;omega:(d++[P]).length≤k+1),O3.out.adds aD,A3.out.trans aD⟩,by simp [intOf];omega⟩
     ·have d2:(S.rec28 P==u)=false:=by simpa using hr
      have HR:=Lib.hid (hbad (.inr hr))
      clear hbad hgood hok h0 ha hd hr
      go_wp2_with (go_at_call 49;refine (HRd.out _).mono ?_;rintro e w1 ⟨rfl,hA1⟩;have A1:=Lib.hid (HA.out.trans hA1);clear hA1)
      refine qt ?_
      repeat (go_big_quiet_step ((go_at_call 20;exact calls_adds (HRec.out _))))
      refine qn fun nq osq=> ?_
      go_wp2_with fail
      exact bodyPost_ret (v:=.tuple #[_,_,_]) (by simp [results,Tryz.results21,go_sem];exact ⟨rfl,rfl,rfl⟩) rfl ⟨_,by rw [HR.out];rfl,by rw [HR.out];exact OwnsG.nil _ _,A1.out.trans aD⟩
   ·have d1:((c.toNat:Int)==10)=false:=by
     simp only [beq_eq_false_iff_ne,ne_eq]
     intro e
     exact he (UInt8.toNat_inj.1 (by show c.toNat=10;omega))
    have HP':=Lib.hid (S.pd28_skip HP.out hc he)
    clear hc he
    go_wp2_with fail
    exact ⟨⟨k+1,f,n,d,rfl,rfl,by go_num,by omega,by omega,by omega,HP',Nat.le_succ_of_le HL.out,HO.out.adds aD,HA.out.trans aD⟩,by simp [intOf];omega⟩
  ·have hk':k=s.length:=by omega
   have q2:¬(k:Int) < (s.length:Int):=by omega
   by_cases hf:f < s.length
   ·have q3:(f:Int) < (s.length:Int):=by omega
    have HR:=Lib.hid (S.pd28_cut (hk'▸HP.out) hf)
    clear hk' hf hlt
    go_wp2_with fail
    exact bodyPost_ret (v:=.tuple #[_,_,_]) (by simp [results,Tryz.results21,go_sem];exact ⟨rfl,rfl,rfl⟩) rfl ⟨_,by rw [HR.out];rfl,by rw [HR.out];exact OwnsG.nil _ _,HA.out.trans aD⟩
   ·have q3:¬(f:Int) < (s.length:Int):=by omega
    have HR:=Lib.hid (S.pd28_end (hk'▸HP.out) hf)
    clear hk' hf hlt
    go_wp2_with fail
    exact bodyPost_ret (v:=.tuple #[_,_,_]) (by simp [results,Tryz.results21,go_sem];exact ⟨rfl,rfl,rfl⟩) rfl ⟨_,by rw [HR.out];rfl,by rw [HR.out];exact HO.out.adds aD,HA.out.trans aD⟩
end
section
theorem S.lns_len:∀(ls:List S.Bs) (n:Nat) (acc:List S.Pn),(S.lns n acc ls).1.length≤acc.length+ls.length
 |[],n,acc=>by simp [S.lns]
 |[x],n,acc=>by
  unfold S.lns
  split<;>simp
 |x::y::r,n,acc=>by
  unfold S.lns
  split
  ·rename_i p hp
   have:=S.lns_len (y::r) (n+1) (acc++[p])
   simp only [List.length_append,List.length_cons,List.length_nil] at this⊢
   omega
  ·simp
theorem S.par_len (s:S.Bs):(S.par28 s).1.length≤s.length+1:=by
 have h1:=S.lns_len (S.spl 10 s) 1 []
 have h2:=S.spl_len 10 s
 simp only [List.length_nil] at h1
 unfold S.par28
 omega
theorem parses28 (s:List UInt8) (hs:s.length≤1000000000) (w:World) (hT:Tab28 w):Calls Tryz.prog 12 #[.string ⟨s.toArray⟩] w fun e w'=>e=.returned (.bool true)∧Adds w w':=by
 have H1:=Lib.hid (fun w h=>parse28 s hs w h)
 have H2:=Lib.hid (fun w=>rparse28 s hs w)
 have HT:=Lib.hid hT
 have hl:=S.par_len s
 generalize S.par28 s=R at *
 obtain ⟨d,n,b⟩:=R
 have HL:=Lib.hid (show d.length≤4611686018427387904 by simp only [] at hl;omega)
 simp only [] at H1 H2
 have dn:((n:Int)==(n:Int))=true:=by simp
 have de:(S.er28 b==S.er28 b)=true:=by simp
 generalize S.er28 b=e at *
 clear hl hT
 go_enter Tryz.func12,Tryz.ntmps12
 go_wp2_with (first
  |(go_at_call 13;refine (H1.out _ HT.out).mono ?_;rintro e1 w1 ⟨v1,rfl,hO1,hA1⟩;obtain ⟨a1,n1,c1,rfl,hn1, -, -, -, -⟩:=hO1.form2;have D1:=Lib.hid (hO1.held HL.out);have A1:=Lib.hid hA1;clear hO1 hA1)
  |(go_at_call 21;refine (H2.out _).mono ?_;rintro e2 w2 ⟨v2,rfl,hO2,hA2⟩;obtain ⟨a2,n2,c2,rfl,hn2, -, -, -, -⟩:=hO2.form2;obtain rfl:n2=n1:=hn2.out.symm.trans hn1.out;have D2:=Lib.hid (hO2.held HL.out);have D1':=Lib.hid (D1.out.adds hA2);have A2:=Lib.hid (A1.out.trans hA2);clear hO2 hA2)
  |(go_at_call 14;refine (spins_any a1 a2 n2 c1 c2 d _ D1'.out D2.out).mono ?_;rintro e3 w3 ⟨rfl,hA3⟩;have A3:=Lib.hid (A2.out.trans hA3);clear hA3)
  |fail)
 go_ret
 exact ⟨rfl,A3.out.trans aD⟩
def S.k1:S.Pn:=⟨1,0,162,true,false,false,false,false,false,false,false,false,false,false,false,false,false⟩
def S.k2:S.Pn:=⟨8,0,0,false,false,false,false,false,false,false,false,false,false,false,false,true,true⟩
def S.k3:S.Pn:=⟨7,4779,15,false,false,false,false,false,false,false,false,true,false,true,false,false,false⟩
theorem S.fmt_k12:S.fmt28 [S.k1,S.k2]=[116,49,32,48,48,48,48,32,97,50,32,115,121,110,99,10,116,104,32,48,48,48,48,32,48,48,32,104,108,100,97,32,102,108,111,97,116,10]:=by decide
theorem S.par_k3:S.par28 [116,119,32,49,50,97,98,32,48,102,32,114,100,32,115,111,100,10]=([S.k3],0,true):=by
 have e:S.fmt28 [S.k3]=[116,119,32,49,50,97,98,32,48,102,32,114,100,32,115,111,100,10]:=by decide
 rw [←e]
 refine S.par_fmt [S.k3] fun p hp=> ?_
 obtain rfl:=List.mem_singleton.1 hp
 exact ⟨by decide,by decide,by decide⟩
theorem kn_cells:(List.toArray (.int .i64 1:: .int .u16 0:: .int .u8 162:: .bool true:: .bool false:: .bool false:: .bool false:: .bool false:: .bool false:: .bool false:: .bool false:: .bool false:: .bool false:: .bool false:: .bool false:: .bool false:: .bool false:: .int .i64 8:: .int .u16 0:: .int .u8 0:: .bool false:: .bool false:: .bool false:: .bool false:: .bool false:: .bool false:: .bool false:: .bool false:: .bool false:: .bool false:: .bool false:: .bool false:: .bool true:: .bool true::[])).toList=Fl csQ [S.k1,S.k2]:=by
 simp [Fl,csQ,S.Pn.cs,S.k1,S.k2]
theorem kn_held (w:World):HeldQ (w.alloc (.cells (List.toArray (.int .i64 1:: .int .u16 0:: .int .u8 162:: .bool true:: .bool false:: .bool false:: .bool false:: .bool false:: .bool false:: .bool false:: .bool false:: .bool false:: .bool false:: .bool false:: .bool false:: .bool false:: .bool false:: .int .i64 8:: .int .u16 0:: .int .u8 0:: .bool false:: .bool false:: .bool false:: .bool false:: .bool false:: .bool false:: .bool false:: .bool false:: .bool false:: .bool false:: .bool false:: .bool false:: .bool true:: .bool true::[])) 34)) (some ⟨w.heap.size,0,none⟩) 2 [S.k1,S.k2]:=
 ⟨rfl,by omega,fun _=>⟨_,0,rfl,by simp,fun j u hu=>by
   have:=at_new w 34 _ [S.k1,S.k2] kn_cells _ rfl j u hu
   rwa [add_plain] at this⟩⟩
theorem known28 (w:World) (hT:Tab28 w):Calls Tryz.prog 7 #[] w fun e w'=>e=.returned (.bool true)∧Adds w w':=by
 have HX:=Lib.hid (kn_held w)
 have H1:=Lib.hid (fun (w:World) (b:Nat) h h'=>format28 (some ⟨b,0,none⟩) 2 2 [S.k1,S.k2] (by intro p hp;simp at hp;rcases hp with rfl|rfl<;>exact ⟨by decide,by decide⟩) (by omega) w h h')
 rw [S.fmt_k12] at H1
 have H2:=Lib.hid (fun w h=>parse28 [116,119,32,49,50,97,98,32,48,102,32,114,100,32,115,111,100,10] (by decide) w h)
 rw [S.par_k3] at H2
 simp only [] at H2
 have HT:=Lib.hid hT
 clear hT
 go_enter Tryz.func7,Tryz.ntmps7
 go_wp2_with (first
  |(go_at_call 9;refine (H1.out _ _ HX.out (HT.out.adds aD)).mono ?_;rintro e1 w1 ⟨rfl,hA1⟩;have A1:=Lib.hid ((show Adds w _ from aD).trans hA1);clear hA1)
  |(go_at_call 13;refine (H2.out _ (HT.out.adds A1.out)).mono ?_;rintro e2 w2 ⟨v2,rfl,hO2,hA2⟩;obtain ⟨a2,n2,c2,rfl,hn2, -, -, -, -⟩:=hO2.form2;obtain rfl:n2=1:=hn2.out.symm;obtain ⟨g,rfl,hg1,hg2⟩:=hO2.head (by omega);have hL:(wholeVar 34 ⟨g,0,none⟩).run Tryz.prog w2=.ok (.agg #[.int .i64 7,.int .u16 4779,.int .u8 15,.bool false,.bool false,.bool false,.bool false,.bool false,.bool false,.bool false,.bool false,.bool true,.bool false,.bool true,.bool false,.bool false,.bool false]) w2:=AtQ.load hO2.at_ (j:=0) rfl _ rfl;have A2:=Lib.hid (A1.out.trans hA2);clear hO2 hA2)
  |fail)
 go_ret
 exact ⟨rfl,A2.out.trans aD⟩
end
section
open Go.ChangeShapes Go.WideShapes Go.ChangeAt Go.RowKit Go.Deep
variable {n:Int} {w:World}
abbrev laid28:List (String×DataW Unit):=[("tstate/dump.stateNames",Rows.laid_tstate_dump_stateNames)]
theorem gNm:Tryz.prog.globalNamed "tstate/dump.stateNames"=some 0:=by kernel_rfl
theorem tNm:(Tryz.prog.globals[0]?).map (·.type)=some 165:=by kernel_rfl
theorem tab_of {W:World} (h:laidMetH Tryz.prog laid28 W):Tab28 W:=by
 rw [MakeChecks.laidMetH_plain _ _ _ (by kernel_rfl)] at h
 obtain ⟨ps,⟨g0,t0,cs0,f0,p0,q0,hg0,ht0,hv0,hd0,_,_⟩,_,_⟩:=h
 obtain rfl:=Option.some.inj (gNm.symm.trans hg0)
 obtain rfl:=Option.some.inj (tNm.symm.trans ht0)
 obtain ⟨xs,m1,rfl,hx1,hlen,hn,hel⟩:=DataW.trod_array Tryz.underlying165 hd0
 have c1:Tryz.prog.cellsOf 9=1:=by kernel_rfl
 have hx2:DataW.agg (S.stn.map fun b=>DataW.lit (H:=Unit) (.string b))=DataW.agg (xs.map (·.1)):=(Prod.mk.inj hx1).1
 injection hx2 with hx2
 intro i hi
 have hi':=hel i hi
 obtain ⟨x,hx⟩:∃x,xs[i]? =some x:=⟨xs[i]'(by omega),List.getElem?_eq_getElem _⟩
 rw [hx,c1,Nat.mul_one] at hi'
 obtain ⟨s,e1,e2,_⟩:=DataW.trod_string Tryz.underlying9 hi'
 have h1:(xs.map (·.1))[i]? =some (.lit (.string s.data.toList)):=by rw [List.getElem?_map,hx,e2];rfl
 rw [←hx2,List.getElem?_map] at h1
 have hc:cs0[i]? =some (.string s):=by
  have:=congrArg (·[0]?) e1
  simp only [List.getElem?_take,List.getElem?_drop] at this
  simpa using this
 have hw:=World.var?_cell hg0 hv0 i
 rw [List.getD_eq_getElem?_getD]
 cases hq:S.stn[i]? with
 |none=>rw [hq] at h1;cases h1
 |some b=>
  rw [hq] at h1
  clear hx hx2 hi' hel hlen hn hd0 hx1
  have hb:b=s.data.toList:=by simpa using h1
  have hs:s=⟨b.toArray⟩:=by rw [hb]
  rw [show W.cell? ⟨0,i,none⟩=cs0[i]? from hw,hc,hs]
  rfl
theorem door28 (os:Os) (args:Array Value):laidMetH Tryz.prog laid28 ((World.doorLaid Tryz.prog 400 os).forCall (fun _ _=>0) ⟨#[],args,[]⟩).memory:=
 laidMetH_of_parts3 (fuel:=8) (laidMet_of_run' 8 (by kernel_rfl) (by kernel_rfl)) (by kernel_rfl) (by kernel_rfl)
theorem u8_of (h:(Lit.int .u8 n).wf=true):0≤n∧n < 256:=by
 have h1:IntKind.u8.min=0:=by decide
 have h2:IntKind.u8.max=255:=by decide
 simp [Lit.wf,h1,h2] at h
 omega
end
end Go.Proofs.YteggjjhjmhccjaaGreatDoor
