/- Texts that the proofs of GrammarTraces and GrammarCounts rest on, joined. Conditions stand in each theorem. -/
import Derived.Test.YteggjjhjmhccjaaGreatQ00
set_option linter.unusedVariables false
set_option linter.unusedSimpArgs false
set_option maxRecDepth 100000
set_option maxHeartbeats 8000000
namespace Go.Proofs.YteggjjhjmhccjaaGreat
open Go.ChangeShapes Go.WideShapes Go.ChangeAt Go.RowKit
section
variable {w:World}
theorem AtG.take {α:Type} {cs:α→List Value} {b o:Nat} {d:List α} (h:AtG cs w b o d) (k:Nat):AtG cs w b o (d.take k):=fun j u hu=>h j u (by
 conv=>lhs;rw [←List.take_append_drop k d,Fl_app]
 rw [List.getElem?_append_left (List.getElem?_eq_some_iff.1 hu).1];exact hu)
theorem AtG.laid {α:Type} {cs:α→List Value} (w:World) (t:TypeId) (c:Array Value) (e:List α) (hc:c.toList=Fl cs e) (b:Nat) (hb:b=w.heap.size):AtG cs (w.alloc (.cells c t)) b 0 e:=fun j u hu=>by
 have:=at_new w t c e hc b hb j u hu
 rwa [add_plain] at this
def SpsPost (x:S.It) (w:World) (e:Ending) (w':World):Prop:=∃(a:Option Addr) (n cap:Nat),e=.returned (.slice a n cap)∧n≤cap∧HeldP w' a n (S.sps x)∧(∀b o,a=some ⟨b,o,none⟩→w.heap.size≤b)∧Adds w w'
theorem cst_if (s:Int):(if 6 < if s < 3 then 3 else s then 6 else if s < 3 then 3 else s)=S.cst s:=by unfold S.cst;repeat split<;>omega
theorem cnt_if (n q:Int) (hq:1≤q):(if q < if n < 1 then 1 else n then q else if n < 1 then 1 else n)=min (max n 1) q:=by repeat split<;>omega
theorem cspans_at (k c a d s ww n:Int) (e o:Bool) (q m:Int) (hs:S.cst s=q) (hm:min (max n 1) q=m) (hm1:1≤m) (hmq:m≤q) (hq:3≤q) (hq6:q≤6) (w:World):
 Calls Tryz.prog 77 #[.agg #[.int .i64 k,.int .i64 c,.int .u16 a,.int .u8 d,.int .i64 s,.int .i64 ww,.int .i64 n,.bool e,.bool o]] w fun r w'=>
  ∃(a:Option Addr) (l cap:Nat),r=.returned (.slice a l cap)∧l≤cap∧HeldP w' a l (S.part7 (S.lim ww) m.toNat)∧(∀b o,a=some ⟨b,o,none⟩→w.heap.size≤b)∧Adds w w':=by
 have e1:=(cst_if s).trans hs
 have e2:=(cnt_if n q (by omega)).trans hm
 clear hs hm
 obtain ⟨s3,es⟩:∃z,(if s < 3 then 3 else s)=z:=⟨_,rfl⟩
 obtain ⟨n1,en⟩:∃z,(if n < 1 then 1 else n)=z:=⟨_,rfl⟩
 rw [es] at e1
 rw [en] at e2
 rcases (by omega:m=1∨m=2∨m=3∨m=4∨m=5∨m=6) with rfl|rfl|rfl|rfl|rfl|rfl
 ·obtain rfl:n1=1:=by (split at e2<;>omega)
  clear hm1 hmq hq hq6
  go_enter Tryz.func77,Tryz.ntmps77
  go_wp2_with (go_at_call 78;refine sm (limited_any) ?_)
  go_ret
  exact ⟨_,1,7,rfl,by omega,⟨rfl,by omega,fun _=>⟨_,0,rfl,by simp [go_sem],AtG.take (AtG.laid _ _ _ (S.all7 (S.lim ww)) rfl _ (by simp [go_sem])) 1⟩⟩,(fun b o h=>by simp at h;omega),aD⟩
 ·obtain rfl:n1=2:=by (split at e2<;>omega)
  clear hm1 hmq hq hq6
  go_enter Tryz.func77,Tryz.ntmps77
  go_wp2_with (go_at_call 78;refine sm (limited_any) ?_)
  go_ret
  exact ⟨_,3,7,rfl,by omega,⟨rfl,by omega,fun _=>⟨_,0,rfl,by simp [go_sem],AtG.take (AtG.laid _ _ _ (S.all7 (S.lim ww)) rfl _ (by simp [go_sem])) 3⟩⟩,(fun b o h=>by simp at h;omega),aD⟩
 ·clear hm1 hmq hq hq6
  go_enter Tryz.func77,Tryz.ntmps77
  go_wp2_with (go_at_call 78;refine sm (limited_any) ?_)
  go_ret
  exact ⟨_,4,7,rfl,by omega,⟨rfl,by omega,fun _=>⟨_,0,rfl,by simp [go_sem],AtG.take (AtG.laid _ _ _ (S.all7 (S.lim ww)) rfl _ (by simp [go_sem])) 4⟩⟩,(fun b o h=>by simp at h;omega),aD⟩
 ·clear hm1 hmq hq hq6
  go_enter Tryz.func77,Tryz.ntmps77
  go_wp2_with (go_at_call 78;refine sm (limited_any) ?_)
  go_ret
  exact ⟨_,5,7,rfl,by omega,⟨rfl,by omega,fun _=>⟨_,0,rfl,by simp [go_sem],AtG.take (AtG.laid _ _ _ (S.all7 (S.lim ww)) rfl _ (by simp [go_sem])) 5⟩⟩,(fun b o h=>by simp at h;omega),aD⟩
 ·clear hm1 hmq hq hq6
  go_enter Tryz.func77,Tryz.ntmps77
  go_wp2_with (go_at_call 78;refine sm (limited_any) ?_)
  go_ret
  exact ⟨_,6,7,rfl,by omega,⟨rfl,by omega,fun _=>⟨_,0,rfl,by simp [go_sem],AtG.take (AtG.laid _ _ _ (S.all7 (S.lim ww)) rfl _ (by simp [go_sem])) 6⟩⟩,(fun b o h=>by simp at h;omega),aD⟩
 ·clear hm1 hmq hq hq6
  go_enter Tryz.func77,Tryz.ntmps77
  go_wp2_with (go_at_call 78;refine sm (limited_any) ?_)
  go_ret
  exact ⟨_,7,7,rfl,by omega,⟨rfl,by omega,fun _=>⟨_,0,rfl,by simp [go_sem],AtG.take (AtG.laid _ _ _ (S.all7 (S.lim ww)) rfl _ (by simp [go_sem])) 7⟩⟩,(fun b o h=>by simp at h;omega),aD⟩
theorem cspans_any (x:S.It) (hk:x.k=1) (w:World):Calls Tryz.prog 77 #[.agg #[.int .i64 x.k,.int .i64 x.c,.int .u16 x.a,.int .u8 x.d,.int .i64 x.s,.int .i64 x.w,.int .i64 x.n,.bool x.e,.bool x.o]] w (SpsPost x w):=by
 have hsb:=S.cst_bd x.s
 have hn:1≤S.cnt x.n x.s∧S.cnt x.n x.s≤S.cst x.s:=by unfold S.cnt;omega
 have he:S.sps x=S.part7 (S.lim x.w) (S.cnt x.n x.s).toNat:=by unfold S.sps;rw [if_pos hk]
 unfold SpsPost
 rw [he]
 exact cspans_at x.k x.c x.a x.d x.s x.w x.n x.e x.o (S.cst x.s) (S.cnt x.n x.s) rfl rfl hn.1 hn.2 hsb.1 hsb.2 w
theorem q1C26k {P:Prop} (h:P:=by
 go_enter Tryz.func47,Tryz.ntmps47
 go_wp2_with (go_at_call 78;refine sm (limited_any) ?_)
 go_ret
 exact ⟨_,1,1,rfl,by omega,by rw [HE.out];exact ⟨rfl,by omega,fun _=>⟨_,0,rfl,by simp [go_sem],AtG.laid _ _ _ _ rfl _ (by simp [go_sem])⟩⟩,(fun b o h=>by simp at h;omega),aD⟩):P:=h
theorem spans_any (x:S.It):Calls Tryz.prog 47 #[.agg #[.int .i64 x.k,.int .i64 x.c,.int .u16 x.a,.int .u8 x.d,.int .i64 x.s,.int .i64 x.w,.int .i64 x.n,.bool x.e,.bool x.o]] w (SpsPost x w):=by
 by_cases h1:x.k=1
 ·have H:=Lib.hid (cspans_any x h1)
  obtain ⟨k,c,a,d,s,ww,n,e,o⟩:=x
  obtain rfl:k=1:=h1
  simp only [] at H⊢
  go_enter Tryz.func47,Tryz.ntmps47
  go_wp2_with (go_at_call 77;(with_reducible refine (H.out _).mono ?_);rintro e w' ⟨aa,l,cap,rfl,hlc,hH,hB,hA⟩;have hH:=Lib.hid hH;have hA:=Lib.hid hA;have hB:=Lib.hid hB)
  go_ret
  exact ⟨aa,l,cap,rfl,hlc,hH.out,(fun b o h=>by have:=hB.out b o h;simp at this;omega),Adds.trans aD hA.out⟩
 by_cases h2:x.k=2
 ·obtain ⟨k,c,a,d,s,ww,n,e,o⟩:=x
  obtain rfl:k=2:=h2
  have HE:=Lib.hid (show S.sps ⟨2,c,a,d,s,ww,n,e,o⟩=[(8,S.lim n)] from rfl)
  simp only []
  exact q1C26k
 by_cases h3:x.k=3
 ·obtain ⟨k,c,a,d,s,ww,n,e,o⟩:=x
  obtain rfl:k=3:=h3
  have HE:=Lib.hid (show S.sps ⟨3,c,a,d,s,ww,n,e,o⟩=[(9,S.lim n)] from rfl)
  simp only []
  exact q1C26k
 by_cases h4:x.k=4
 ·obtain ⟨k,c,a,d,s,ww,n,e,o⟩:=x
  obtain rfl:k=4:=h4
  have HE:=Lib.hid (show S.sps ⟨4,c,a,d,s,ww,n,e,o⟩=[(10,S.lim n)] from rfl)
  simp only []
  exact q1C26k
 ·have HE:=Lib.hid (show S.sps x=[] by unfold S.sps;rw [if_neg h1,if_neg h2,if_neg h3,if_neg h4])
  go_enter Tryz.func47,Tryz.ntmps47
  go_wp2_with fail
  go_ret
  exact ⟨none,0,0,rfl,by omega,by rw [HE.out];exact HeldG.nil _ _,(fun b o h=>by cases h),aD⟩
end
end Go.Proofs.YteggjjhjmhccjaaGreat
