/- Texts that the proofs of the statements on dumps rest on, joined. Conditions stand in each theorem. -/
import Derived.Test.YteggjjhjmhccjaaGreatDoorQ01
import Derived.Test.YteggjjhjmhccjaaGreatDoorQ02
import Derived.Test.YteggjjhjmhccjaaGreatDoorQ20
import Derived.Test.YteggjjhjmhccjaaGreatDoorQ36
import Derived.Deep.Cut
import Derived.Deep.RegionLaw
set_option linter.unusedVariables false
set_option linter.unusedSimpArgs false
set_option maxRecDepth 100000
set_option maxHeartbeats 8000000
namespace Go.Proofs.YteggjjhjmhccjaaGreatDoor
open Go.ChangeShapes Go.WideShapes Go.ChangeAt Go.RowKit
section
variable {E:Prop} {M N b base c cap k len n:Nat} {P:Program} {V W w wr:World} {a:Option Addr} {d l:List K12.Cl} {rl:List K12.Rg} {v:Value} {x:S.Bd}
def GB (l:List K12.Cl):Prop:=∀x,0≤K12.Sm.get l x∧K12.Sm.get l x < 256
theorem GB.of (h:∀c∈l,0≤c.2∧c.2 < 256):GB l:=fun x=>by
 unfold K12.Sm.get
 cases e:(K12.Sm.pickd x l).getLast? with
 |none=>exact ⟨Int.le_refl 0,by show (0:Int) < 256;omega⟩
 |some c=>exact h c (K12.Sm.mem_pickd.1 (List.mem_of_getLast? e)).1
theorem GB.app {a b:List K12.Cl} (ha:GB a) (hb:GB b):GB (a++b):=fun x=>by
 have:K12.Sm.get (a++b) x=K12.Sm.get a x∨K12.Sm.get (a++b) x=K12.Sm.get b x:=by
  unfold K12.Sm.get
  rw [K12.Sm.pickd_app]
  cases e:K12.Sm.pickd x b with
  |nil=>exact .inl (by rw [List.append_nil])
  |cons c l=>exact .inr (by rw [List.getLast?_append];simp [List.getLast?_cons])
 rcases this with e|e<;>rw [e]
 ·exact ha x
 ·exact hb x
theorem GB.nrm (h:GB l):GB (K12.Sm.nrm l):=fun x=>by rw [K12.Sm.get_nrm];exact h x
theorem GB.lod {x:Int} {zs:List Int} (h:∀z∈zs,S.byt z):GB (K12.Sm.lod x zs):=GB.of fun c hc=>by
 unfold K12.Sm.lod at hc
 obtain ⟨i,_,rfl⟩:=List.mem_map.1 hc
 exact S.getD_byt h i
def csA (c:K12.Cl):List Value:=[.int .u16 c.1,.int .u8 c.2]
theorem csA_len:∀c,(csA c).length=2:=fun _=>rfl
theorem csA_one:∀c,∀u∈csA c,u.oneCell'=true:=by
 intro c u hu
 simp only [csA,List.mem_cons,List.not_mem_nil,or_false] at hu
 rcases hu with rfl|rfl<;>rfl
def OwnsA (w:World) (base:Nat) (v:Value) (d:List K12.Cl):Prop:=OwnsG csA 2 97 w base v d
theorem OwnsA.of (h:K12.Owns w base v d):OwnsA w base v d:=h
theorem OwnsA.to (h:OwnsA w base v d):K12.Owns w base v d:=h
theorem step_appA {ops:Array Oper} {o:Oper} {a:Act} {K:Act→World→Prop} {Q:Exit→Act→World→Prop} (hgd:o.guard=none) (s x:Operand)
 (ho:o.op=.call {callee:=.builtin .append,args:=#[s,x],argTypes:=#[44,44]})
 (base:Nat) (v:Value) (d:List K12.Cl) (hv:a.eval s=v) (hown:OwnsA w base v d) (ax:Option Addr) (m c:Nat) (e:List K12.Cl) (hx:a.eval x=.slice ax m c) (hh:HeldG csA w ax m e) (hmc:m≤c) (hnn:ax=none→c=0)
 (hsz:d.length+m≤33554432) (hbase:base≤w.heap.size)
 (h:∀v' w',OwnsA w' base v' (d++e)→w.grownBy w' v.ownBlock→(∀g,v'.ownBlock=some g→v.ownBlock=some g∨w.heap.size≤g)→K (a.put o.dst v') w'):if Region.wanted o (yielded ops a.tmps)=true then Oper.wp Tryz.prog o a w K Q else E:=by
 rw [if_pos (by simp [Region.wanted,hgd])]
 exact wp_appH csA_len csA_one Tryz.underlying44 K12.cellInfo rfl (by decide) s x ho base v d hv hown ax m c e hx hh hmc hnn (by unfold maxLen;omega) (by omega) hbase h
theorem step_call2 {ops:Array Oper} {o:Oper} {a:Act} {K:Act→World→Prop} {Q:Exit→Act→World→Prop} (hg:o.guard=none) (f:FuncId) (s x:Operand) (ats:Array TypeId) (ho:o.op=.call {callee:=.value (.func f),args:=#[s,x],argTypes:=ats})
 (u v:Value) (hu:a.eval s=u) (hv:a.eval x=v) (hf:(callFunc f #[u,v]).run P w=.ok (.enter f #[u,v]) w) (hc:Calls P f #[u,v] w fun e w'=>∃r,e=.returned r∧K (a.put o.dst r) w'):if Region.wanted o (yielded ops a.tmps)=true then Oper.wp P o a w K Q else E:=by
 have hw:Region.wanted o (yielded ops a.tmps)=true:=by simp [Region.wanted,hg]
 rw [if_pos hw]
 subst hu hv
 obtain ⟨d,op,ty,pos,aft,g⟩:=o
 simp only at ho hg
 subst ho
 have e:(execOp a.eval ⟨d,.call {callee:=.value (.func f),args:=#[s,x],argTypes:=ats},ty,pos,aft,g⟩).run P w=.ok (.enter f #[a.eval s,a.eval x]) w:=by
  show (callFunc f (#[]++(#[s,x]:Array Operand).map a.eval++#[])).run P w=_
  have e2:(#[]++(#[s,x]:Array Operand).map a.eval++#[])=#[a.eval s,a.eval x]:=by simp
  rw [e2];exact hf
 unfold Oper.wp
 rw [e]
 refine hc.mono ?_
 rintro e w' ⟨r,rfl,h⟩
 exact h
theorem step_call1 {ops:Array Oper} {o:Oper} {a:Act} {K:Act→World→Prop} {Q:Exit→Act→World→Prop} (hg:o.guard=none) (f:FuncId) (s:Operand) (ats:Array TypeId) (ho:o.op=.call {callee:=.value (.func f),args:=#[s],argTypes:=ats})
 (u:Value) (hu:a.eval s=u) (hf:(callFunc f #[u]).run P w=.ok (.enter f #[u]) w) (hc:Calls P f #[u] w fun e w'=>∃r,e=.returned r∧K (a.put o.dst r) w'):if Region.wanted o (yielded ops a.tmps)=true then Oper.wp P o a w K Q else E:=by
 have hw:Region.wanted o (yielded ops a.tmps)=true:=by simp [Region.wanted,hg]
 rw [if_pos hw]
 subst hu
 obtain ⟨d,op,ty,pos,aft,g⟩:=o
 simp only at ho hg
 subst ho
 have e:(execOp a.eval ⟨d,.call {callee:=.value (.func f),args:=#[s],argTypes:=ats},ty,pos,aft,g⟩).run P w=.ok (.enter f #[a.eval s]) w:=by
  show (callFunc f (#[]++(#[s]:Array Operand).map a.eval++#[])).run P w=_
  have e2:(#[]++(#[s]:Array Operand).map a.eval++#[])=#[a.eval s]:=by simp
  rw [e2];exact hf
 unfold Oper.wp
 rw [e]
 refine hc.mono ?_
 rintro e w' ⟨r,rfl,h⟩
 exact h
theorem lit6 (y:Int) (h0:0≤y) (h:y < 6):∃(k:Nat) (o:Int),y=(k:Int)∧0≤o∧o < 65536∧(k:Int) < 6∧(#[.int .i64 36,.int .i64 60,.int .i64 52,.int .i64 44,.int .i64 56,.int .i64 32]:Array Value)[k]? =some (.int .i64 o):=by
 obtain ⟨k,rfl⟩:∃k:Nat,y=(k:Int):=⟨y.toNat,by omega⟩
 match k,h with
 |0,h=>exact ⟨0,36,rfl,by omega,by omega,h,rfl⟩
 |1,h=>exact ⟨1,60,rfl,by omega,by omega,h,rfl⟩
 |2,h=>exact ⟨2,52,rfl,by omega,by omega,h,rfl⟩
 |3,h=>exact ⟨3,44,rfl,by omega,by omega,h,rfl⟩
 |4,h=>exact ⟨4,56,rfl,by omega,by omega,h,rfl⟩
 |5,h=>exact ⟨5,32,rfl,by omega,by omega,h,rfl⟩
 |k+6,h=>exact absurd h (by omega)
theorem wrap16 {y:Int} (h0:0≤y) (h1:y < 65536):IntKind.u16.wrap y=y∧y % 65536=y:=⟨by simp [IntKind.wrap,IntKind.bits,IntKind.signed];omega,by omega⟩
theorem heldK_row {bs:Nat} {l:List Int} {c:Array Value} (hl:l.length=n) (hp:0 < n) (hr:rowOf w bs=c) (hc:c.toList=l.map (Value.int .u8)):K12.HeldB w (some ⟨bs,0,none⟩) n l:=
 ⟨hl,fun _=>⟨bs,0,rfl,row_lt hr (by rw [←Array.length_toList,hc,List.length_map];omega),fun j v hj=>by
   rw [Nat.zero_add]
   exact rowOf_cell hr (by rw [←Array.getElem?_toList,hc];simp [hj])⟩⟩
theorem heldK_of {l:List Int} (h:OwnsB w base (.slice a n c) l) (hl:l.length≤1000000):K12.HeldB w a n l:=by
 have hh:=h.held (by omega)
 refine ⟨hh.1,fun hn=> ?_⟩
 obtain ⟨b,o,e,hlt,hat⟩:=hh.2.2 hn
 refine ⟨b,o,e,hlt,fun j v hj=> ?_⟩
 have hx:=hat.el csB_len hj (k:=0) (u:=.int .u8 v) rfl
 rwa [Nat.mul_one,Nat.add_zero] at hx
structure BoI (w:World) (b len cap:Nat) (a:Option Addr) (N c:Nat) (x:S.Bd) (rl:List K12.Rg) (wr:World):Prop where
 row:rowOf wr c=#[.int .i64 x.ch,.slice x.ra x.rn x.rc,.int .i64 x.iw,.int .u8 x.pp,.int .u8 x.dp,.bool x.jm,.slice x.ia x.ni x.ic]
 t2:(rowOf wr w.heap.size).size=7
 c0:w.heap.size < c
 bw:b < w.heap.size
 r:K12.OwnsR wr (w.heap.size+1) (.slice x.ra x.rn x.rc) rl
 rc:∀g,(Value.slice x.ra x.rn x.rc).ownBlock=some g→g < c
 n:Nb wr b a len cap N
 g:w.grownBy wr (some b)
 rl3:rl.length≤3
 p:(0≤x.pp∧x.pp < 256)∧(0≤x.dp∧x.dp < 256)
theorem BoI.lt (h:BoI w b len cap a N c x rl wr):c < wr.heap.size:=row_lt h.row (by simp)
theorem BoI.grow (h:BoI w b len cap a N c x rl wr) {row:Option Nat} (hg:wr.grownBy W row) (hr:∀g,row=some g→g=b∨c < g) (hn:Nb W b a len cap M):BoI w b len cap a M c x rl W:=by
 have hc:=h.c0
 have hb:=h.bw
 have hlt:=h.lt
 refine ⟨(rowOf_eq (hg.block c h.lt (fun e=>by have:=hr c e.symm;omega))).trans h.row,by rw [rowOf_eq (hg.block w.heap.size (by omega) (fun e=>by have:=hr _ e.symm;omega))];exact h.t2,h.c0,h.bw,?_,h.rc,hn,grown_trans2 h.g hg (fun g e=>(hr g e).imp id (fun q=>by omega)),h.rl3,h.p⟩
 refine World.ownsRow.kept h.r hg ?_
 cases hq:(Value.slice x.ra x.rn x.rc).ownBlock with
 |none=>exact .inl rfl
 |some g=>
  refine .inr fun e=> ?_
  have h1:=(World.ownsRow.lt h.r g hq).1
  have h2:=h.rc g hq
  have:=hr g e.symm
  omega
theorem BoI.adds (h:BoI w b len cap a N c x rl wr) (k:Adds wr W):BoI w b len cap a N c x rl W:=h.grow (k.grownBy none) (fun g e=>by cases e) (h.n.grown (k.grownBy none) (fun g e=>by cases e))
theorem BoI.next (h:BoI w b len cap a N c x rl wr) (u:Up wr b M W):BoI w b len cap a M c x rl W:=h.grow u.grown (fun g e=> .inl (by injection e with e;exact e.symm)) (h.n.up u)
theorem BoI.set (h:BoI w b len cap a N c x rl wr) (i:Nat) (v:Value) (y:S.Bd) (hy:#[.int .i64 x.ch,.slice x.ra x.rn x.rc,.int .i64 x.iw,.int .u8 x.pp,.int .u8 x.dp,.bool x.jm,.slice x.ia x.ni x.ic].setIfInBounds i v=#[.int .i64 y.ch,.slice y.ra y.rn y.rc,.int .i64 y.iw,.int .u8 y.pp,.int .u8 y.dp,.bool y.jm,.slice y.ia y.ni y.ic]) (hr:y.ra=x.ra∧y.rn=x.rn∧y.rc=x.rc) (hp:(0≤y.pp∧y.pp < 256)∧(0≤y.dp∧y.dp < 256)):BoI w b len cap a N c y rl (wr.setCell ⟨c,i,none⟩ v):=by
 have hc:=h.c0
 have hb:=h.bw
 obtain ⟨r1,r2,r3⟩:=hr
 have hg:wr.grownBy (wr.setCell ⟨c,i,none⟩ v) (some c):=⟨rfl,rfl,rfl,by simp,fun k _ hk=>heap_setCell_other wr ⟨c,i,none⟩ k _ (fun e=>hk (by simp [e]))⟩
 refine ⟨(rowOf_setCell_same _ _ _ _ (by rw [h.row];simp)).trans (by rw [h.row];exact hy),by rw [rowOf_eq (hg.block w.heap.size (by have:=h.lt;omega) (fun e=>by injection e with e;omega))];exact h.t2,h.c0,h.bw,?_,by rw [r1,r2,r3];exact h.rc,h.n.grown hg (fun g e=>by injection e with e;omega),grown_trans2 h.g hg (fun g e=> .inr (by injection e with e;omega)),h.rl3,hp⟩
 rw [r1,r2,r3]
 refine World.ownsRow.kept h.r hg ?_
 cases hq:(Value.slice x.ra x.rn x.rc).ownBlock with
 |none=>exact .inl rfl
 |some g=>exact .inr fun e=>by injection e with e;have:=h.rc g hq;omega
theorem prog12 (b len cap N:Nat) (a:Option Addr) (hN:N≤1000000) (w:World) (h:Nb w b a len cap N):Calls Tryz.prog 29 #[.pointer (some ⟨b,0,none⟩),.int .i64 12] w (ProgPost b len cap N a 12 w):=prog_mk b len cap N a 12 (by omega) hN w h
structure BoardOk (base:Nat) (x:S.Bd) (rl:List K12.Rg) (im:List K12.Cl) (W:World):Prop where
 r:K12.OwnsR W base (.slice x.ra x.rn x.rc) rl
 r3:rl.length≤3
 i:OwnsA W base (.slice x.ia x.ni x.ic) im
 i3:im.length≤1000
 gb:GB im
 p:(0≤x.pp∧x.pp < 256)∧(0≤x.dp∧x.dp < 256)
theorem BoardOk.grow {im:List K12.Cl} (h:BoardOk base x rl im W) {row:Option Nat} (hg:W.grownBy V row) (hr:∀g,row=some g→g < base):BoardOk base x rl im V:=
 ⟨h.r.kept hg hr,h.r3,OwnsG.kept h.i hg hr,h.i3,h.gb,h.p⟩
theorem BoardOk.adds {im:List K12.Cl} (h:BoardOk base x rl im W) (k:Adds W V):BoardOk base x rl im V:=h.grow (k.grownBy none) (fun g e=>by cases e)
theorem BoardOk.mono {base':Nat} {im:List K12.Cl} (h:BoardOk base x rl im W) (k:base'≤base):BoardOk base' x rl im W:=⟨h.r.mono k,h.r3,OwnsG.mono h.i k,h.i3,h.gb,h.p⟩
theorem BoardOk.bd {im:List K12.Cl} (h:BoardOk base x rl im W):BdOk x rl W:=by
 obtain ⟨_,_,_,e1,_,r1,r2,_⟩:=h.r.form2
 cases e1
 exact ⟨h.r.held (by have:=h.r3;omega),⟨r1,r2⟩,h.p.1,h.p.2⟩
theorem BoardOk.im {im:List K12.Cl} (h:BoardOk base x rl im W):K12.Held W x.ia x.ni im∧x.ni≤1000:=by
 have k:=K12.Owns.held h.i.to (by have:=h.i3;omega)
 exact ⟨k,by have:=k.1;have:=h.i3;omega⟩
def BoPost (b len cap:Nat) (a:Option Addr) (w:World) (e:Ending) (w':World):Prop:=
 ∃(x:S.Bd) (rl:List K12.Rg) (im:List K12.Cl) (N':Nat),e=.returned (.agg #[.int .i64 x.ch,.slice x.ra x.rn x.rc,.int .i64 x.iw,.int .u8 x.pp,.int .u8 x.dp,.bool x.jm,.slice x.ia x.ni x.ic])∧BoardOk (w.heap.size+1) x rl im w'∧N'≤5000∧Nb w' b a len cap N'∧w.grownBy w' (some b)
structure BoL (w:World) (b len cap:Nat) (a:Option Addr) (N c:Nat) (x:S.Bd) (rl:List K12.Rg) (k:Nat) (l:List K12.Cl) (v:Value) (wr:World):Prop where
 hk:k≤3
 ln:l.length+3 * k≤153
 gb:GB l
 own:OwnsA wr w.heap.size v l
 far:∀g,v.ownBlock=some g→c < g
 i:BoI w b len cap a N c x rl wr
 nb:N+20 * k≤3000
theorem BoL.step (h:BoL w b len cap a N c x rl (k+1) l v wr) {e:List K12.Cl} {v':Value} {W':World} (hM:M≤N+20) (he:e.length≤3) (hb:GB e) (ho:OwnsA W' w.heap.size v' (l++e)) (hg:wr.grownBy W (some b)) (hn:Nb W b a len cap M) (hG:W.grownBy W' v.ownBlock) (hN:∀g,v'.ownBlock=some g→v.ownBlock=some g∨W.heap.size≤g):BoL w b len cap a M c x rl k (l++e) v' W':=by
 have hk:=h.hk
 have hl:=h.ln
 have hnb:=h.nb
 have hi:=h.i.grow hg (fun g e=> .inl (by injection e with e;exact e.symm)) hn
 have hc:=h.i.lt
 have hsz:=hg.size
 have c0:=h.i.c0
 have bw:=h.i.bw
 exact ⟨by omega,by rw [List.length_append];omega,h.gb.app hb,ho,fun g e=>(hN g e).elim (h.far g) (fun q=>by omega),hi.grow hG (fun g e=> .inr (h.far g e)) (hn.grown hG (fun g e=>by have:=h.far g e;omega)),by omega⟩
theorem BoL.have_own (h:BoL w b len cap a N c x rl k l v wr) (hg:wr.grownBy W (some b)):OwnsA W w.heap.size v l∧w.heap.size≤W.heap.size:=by
 have bw:=h.i.bw
 exact ⟨OwnsG.kept h.own hg (fun g e=>by injection e with e;omega),Nat.le_trans h.i.g.size hg.size⟩
theorem board_mk (b len cap N:Nat) (a:Option Addr) (hN:N≤1000) (w:World) (h:Nb w b a len cap N):
 Calls Tryz.prog 16 #[.pointer (some ⟨b,0,none⟩)] w (BoPost b len cap a w):=by
 have hbw:=h.lt
 have H0:Hid _:=Lib.hid h
 clear h
 go_enter Tryz.func16,Tryz.ntmps16
 go_upto_if 18 with (first
  |(have h4:=hM4;go_at_call 26;(with_reducible refine (nx_any b len cap M4 a 6 (by omega) (by omega) (by omega) _ (HB4.out.alloc _)).mono ?_);rintro e w5 ⟨y6,M5,hy60,hy61,hM5,rfl,hU5⟩)
  |(have h3:=hM3;go_at_call 26;(with_reducible refine (nx_any b len cap M3 a 4 (by omega) (by omega) (by omega) _ HB3.out).mono ?_);rintro e w4 ⟨y4,M4,hy40,hy41,hM4,rfl,hU4⟩;have HB4:=Lib.hid (HB3.out.up hU4);have HR4:=Lib.hid (HR3.out.kept hU4.grown (fun g e=>by injection e with e;omega));have HT4:=Lib.hid (show (rowOf w4 w.heap.size).size=7∧w.heap.size < w4.heap.size from ⟨by rw [rowOf_eq (hU4.keepsJ w.heap.size (by omega) HT3.out.2)];exact HT3.out.1,by have:=hU4.size;have:=HT3.out.2;omega⟩);have HG4:=Lib.hid (HG3.out.trans hU4.grown);clear hU4)
  |(have h2:=hM2;go_at_call 26;(with_reducible refine (nx_any b len cap M2 a 3 (by omega) (by omega) (by omega) _ HB2.out).mono ?_);rintro e w3 ⟨y3,M3,hy30,hy31,hM3,rfl,hU3⟩;have HB3:=Lib.hid (HB2.out.up hU3);have HR3:=Lib.hid (HR2.out.kept hU3.grown (fun g e=>by injection e with e;omega));have HT3:=Lib.hid (show (rowOf w3 w.heap.size).size=7∧w.heap.size < w3.heap.size from ⟨by rw [rowOf_eq (hU3.keepsJ w.heap.size (by omega) HT2.out.2)];exact HT2.out.1,by have:=hU3.size;have:=HT2.out.2;omega⟩);have HG3:=Lib.hid (HG2.out.trans hU3.grown);clear hU3)
  |(go_at_call 25;(with_reducible refine (K12.map_mk b len cap M1 a (by omega) HB1.out).mono ?_);rintro e w2 ⟨r,rl,M2,rfl,hR2,hrl,hM2,hB2,hG2⟩;obtain ⟨ra,rn,rc,rfl,hrn⟩:=hR2.form2;have HB2:=Lib.hid hB2;have HR2:=Lib.hid (hR2.mono (show w.heap.size+1≤w1.heap.size from HT1.out.2));have HT2:=Lib.hid (show (rowOf w2 w.heap.size).size=7∧w.heap.size < w2.heap.size from ⟨by rw [rowOf_eq (hG2.block w.heap.size HT1.out.2 (fun e=>by injection e with e;omega))];exact HT1.out.1,by have:=hG2.size;have:=HT1.out.2;omega⟩);have HG2:=Lib.hid (HG1.out.trans hG2);have HRL:=Lib.hid hrl;clear hR2 hB2 hG2 hrl hrn)
  |(go_at_call 24;(with_reducible refine (chp_any b len cap N a (by omega) _ (H0.out.alloc _)).mono ?_);rintro e w1 ⟨ch,M1,hc0,hc1,hM1,rfl,hU1⟩;have HB1:=Lib.hid ((H0.out.alloc _).up hU1);have HG1:=Lib.hid (World.grownBy.trans (World.grownBy_alloc w _ _) hU1.grown);have HT1:=Lib.hid (show (rowOf w1 w.heap.size).size=7∧w.heap.size < w1.heap.size from ⟨by rw [rowOf_eq (hU1.keepsJ w.heap.size (by omega) (by simp [go_sem]))];simp [go_sem],by have:=hU1.size;simp [go_sem] at this;omega⟩);clear hU1))
 have q4:w.heap.size < w4.heap.size:=by have:=HG4.out.size;have:=HT4.out.2;omega
 refine wp_forget (BoI w b len cap a M5 w4.heap.size ⟨ch,ra,rn,rc,y3,0,4,y4==0,none,0,0⟩ rl) ?_ ?_
 ·have hB:BoI w b len cap a M4 w4.heap.size ⟨ch,ra,rn,rc,y3,0,4,y4==0,none,0,0⟩ rl (w4.alloc (.cells #[.int .i64 ch,.slice ra rn rc,.int .i64 y3,.int .u8 0,.int .u8 4,.bool (y4==0),.slice none 0 0] 46)):=
   ⟨by simp [go_sem],by rw [rowOf_eq (heap_past w4 _ q4)];exact HT4.out.1,q4,hbw,World.ownsRow.alloc HR4.out _,fun g e=>(World.ownsRow.lt HR4.out g e).2,HB4.out.alloc _,HG4.out.trans (World.grownBy_alloc _ _ _),HRL.out,⟨⟨Int.le_refl 0,by show (0:Int) < 256;omega⟩,⟨by show (0:Int)≤4;omega,by show (4:Int) < 256;omega⟩⟩⟩
  exact hB.next hU5
 clear HB1 HB2 HB3 HB4 HR2 HR3 HR4 HG1 HG2 HG3 HG4 HT1 HT2 HT3 HT4 HRL hU5 H0
 generalize w4.heap.size=c at q4⊢
 generalize hx:(⟨ch,ra,rn,rc,y3,0,4,y4==0,none,0,0⟩:S.Bd)=x
 clear hx
 intro wa hI
 have HI:=Lib.hid hI
 clear hI
 go_cut [] from 18 to 24 (fun wx=>∃(M:Nat) (x':S.Bd),M≤M5+4∧Hid (BoI w b len cap a M c x' rl wx))
 case first=>
  cases hq:(y6==0)
  ·go_wp2_with fail
   go_meet
   exact ⟨M5,x,by omega,HI⟩
  ·go_wp2_with (first
    |(have h7:=hM7;go_at_call 27;(with_reducible refine (byt_any b len cap M7 a (by omega) _ HI7.out.n).mono ?_);rintro e w8 ⟨y8,M8,hy80,hy81,hM8,rfl,hU8⟩;have HI8:=Lib.hid (HI7.out.next hU8);clear hU8;have c3:=rowOf_cell (i:=3) (v:=.int .u8 x.pp) HI8.out.row rfl;have c4:=rowOf_cell (i:=4) (v:=.int .u8 x.dp) HI8.out.row rfl;have f3:=row_frozen HI8.out.row (by simp) 3;have f4:=row_frozen HI8.out.row (by simp) 4)
    |(go_at_call 27;(with_reducible refine (byt_any b len cap M5 a (by omega) _ HI.out.n).mono ?_);rintro e w7 ⟨y7,M7,hy70,hy71,hM7,rfl,hU7⟩;have HI7:=Lib.hid (HI.out.next hU7);clear hU7))
   go_meet
   exact ⟨M8,⟨x.ch,x.ra,x.rn,x.rc,x.iw,y7,y8,x.jm,x.ia,x.ni,x.ic⟩,by omega,((HI8.out.set 3 (.int .u8 y7) ⟨x.ch,x.ra,x.rn,x.rc,x.iw,y7,x.dp,x.jm,x.ia,x.ni,x.ic⟩ rfl ⟨rfl,rfl,rfl⟩ ⟨⟨hy70,hy71⟩,HI8.out.p.2⟩).set 4 (.int .u8 y8) ⟨x.ch,x.ra,x.rn,x.rc,x.iw,y7,y8,x.jm,x.ia,x.ni,x.ic⟩ rfl ⟨rfl,rfl,rfl⟩ ⟨⟨hy70,hy71⟩,⟨hy80,hy81⟩⟩)⟩
 case rest=>
  clear HI
  obtain ⟨M6,x1,hM6,HI6⟩:=hcut
  go_wp2_with (first
   |(have h10:=hl10;go_at_call 26;(with_reducible refine (nx_any b len cap M9 a 4 (by omega) (by omega) (by omega) _ HI10.out.n).mono ?_);rintro e w11 ⟨yk,M11,hyk0,hyk1,hM11,rfl,hU11⟩;have HI11:=Lib.hid (HI10.out.next hU11);have HO11:=Lib.hid (show OwnsA w11 w.heap.size lv (K12.Sm.nrm (K12.Sm.lod 0 zs)) from OwnsG.kept HO10.out hU11.grown (fun g e=>by injection e with e;omega));clear hU11)
   |(have h9:=hM9;go_at_call 28;(with_reducible refine (K12.rload_any pa pn pc zs 0 (heldK_of HO9.out (by have:=HZ9.out.1;omega)) (by have:=HZ9.out.1;have:=HZ9.out.2.2;omega) (by omega) (by omega)).mono ?_);rintro e w10 ⟨lv,rfl,hO10,hA10⟩;have hl10:c < w9.heap.size:=HI9.out.lt;have HF10:=Lib.hid (show ∀g,lv.ownBlock=some g→c < g from fun g e=>by have:=(World.ownsRow.lt hO10 g e).1;omega);have HI10:=Lib.hid (HI9.out.adds hA10);have HO10:=Lib.hid (show OwnsA w10 w.heap.size lv (K12.Sm.nrm (K12.Sm.lod 0 zs)) from OwnsG.mono (OwnsA.of hO10) (by have:=HI9.out.c0;omega));clear hO10 hA10)
   |(go_at_call 29;(with_reducible refine (prog12 b len cap M6 a (by omega) _ HI6.out.n).mono ?_);rintro e w9 ⟨pv,zs,M9,rfl,hO9,hzl,hzb,hM9,hB9,hG9⟩;obtain ⟨pa,pn,pc,rfl,hpn, -⟩:=hO9.form2;have HI9:=Lib.hid (HI6.out.grow hG9 (fun g e=> .inl (by injection e with e;exact e.symm)) hB9);have HO9:=Lib.hid hO9;have HZ9:=Lib.hid (show zs.length≤144∧(∀z∈zs,S.byt z)∧zs.length=pn from ⟨by omega,hzb,hpn.out⟩);clear hO9 hzl hzb hB9 hG9 hpn))
  obtain ⟨k0,rfl⟩:∃k:Nat,yk=(k:Int):=⟨yk.toNat,by omega⟩
  have HL0:=Lib.hid (show BoL w b len cap a M11 c x1 rl k0 (K12.Sm.nrm (K12.Sm.lod 0 zs)) lv w11 from ⟨by omega,by have:=K12.Sm.nrm_len (K12.Sm.lod 0 zs);have:=K12.Sm.lod_len 0 zs;have:=HZ9.out.1;omega,GB.nrm (GB.lod HZ9.out.2.1),HO11.out,HF10.out,HI11.out,by omega⟩)
  clear HI6 HI9 HI10 HI11 HO9 HO10 HO11 HF10 HZ9
  generalize K12.Sm.nrm (K12.Sm.lod 0 zs)=l0 at HL0
  go_loopw [4,5] (fun v4 v5 wr=>∃(k N':Nat) (l:List K12.Cl),v5=.int .i64 (k:Int)∧Hid (BoL w b len cap a N' c x1 rl k l v4 wr)) (fun _ v5 _=>(intOf v5).toNat)
  case atStart=>exact ⟨k0,M11,l0,rfl,HL0⟩
  case round=>
   obtain ⟨k,N',l,rfl,HB⟩:=hrel
   have H:=Lib.hid HB.out.i.n
   have hbr:=HB.out.i.n.lt
   have hk3:=HB.out.hk
   have hNN:=HB.out.nb
   by_cases hlt:0 < k
   ·obtain ⟨j,rfl⟩:∃j,k=j+1:=⟨k - 1,by omega⟩
    have hkz:(0:Int) < (j:Int)+1:=by omega
    go_wp2_with fail
    go_region_law (first
     |(have h7:=hlr;refine step_appA rfl _ _ (by rfl) w.heap.size u4 l (by rfl) (HB.out.have_own gbx).1 lra lrn lrc (K12.Sm.nrm (K12.Sm.lod o1 [y2,251,201])) (by rfl) (OwnsG.held HLR.out.1 (by have:=HLR.out.2.1;omega)) HLR.out.2.2.1 HLR.out.2.2.2 (by have:=HB.out.ln;have:=HLR.out.2.1;omega) (HB.out.have_own gbx).2 ?_;intro v5 w5 hO5 hG5 hN5)
     |(have h6:=hM2;refine step_call2 rfl 28 _ _ _ (by rfl) _ _ (by rfl) (by rfl) (by simp [go_sem]) ?_;refine (K12.rload_any (some ⟨_,0,none⟩) 3 3 [y2,251,201] o1 (heldK_row (c:=#[.int .u8 y2,.int .u8 251,.int .u8 201]) rfl (by omega) (by simp [go_sem]) rfl) (by omega) ho0 ho1).mono ?_;rintro e w' ⟨lr,rfl,hO6,⟨⟨n6,os6⟩,rfl⟩⟩;obtain ⟨lra,lrn,lrc,rfl,hlr,hl1,hl2,hl3,hl4⟩:=(OwnsA.of hO6).form2;have hlr:=hlr.out;have HLR:=Lib.hid (And.intro (OwnsA.of hO6) (And.intro (show lrn≤3 by have:=K12.Sm.nrm_len (K12.Sm.lod o1 [y2,251,201]);have:=K12.Sm.lod_len o1 [y2,251,201];simp at this;omega) (And.intro hl1 (fun e=>(hl4 e).2))));clear hO6 hl1 hl2 hl3 hl4;refine ⟨_,rfl,?_⟩)
     |(have h5:=hM1;refine step_call1 rfl 30 _ _ (by rfl) _ (by rfl) (by simp [go_sem]) ?_;refine (opc_any b len cap M1 a (by omega) nbx).mono ?_;rintro e w' ⟨y2,M2,hy20,hy21,hM2,rfl,⟨⟨n2,os2⟩,rfl⟩⟩;refine ⟨_,rfl,?_⟩)
     |(refine step_call2 rfl 26 _ _ _ (by rfl) _ _ (by rfl) (by rfl) (by simp [go_sem]) ?_;refine (nx_any b len cap N' a 6 (by omega) (by omega) (by omega) _ nbx).mono ?_;rintro e w' ⟨y1,M1,hy10,hy11,hM1,rfl,⟨⟨n1,os1⟩,rfl⟩⟩;obtain ⟨k1,o1,rfl,ho0,ho1,hk1,hc1⟩:=lit6 y1 hy10 hy11;obtain ⟨hwr,hwr2⟩:=wrap16 ho0 ho1;refine ⟨_,rfl,?_⟩))
    all_goals
     go_wp2_with fail
     go_roundw
     case rel=>exact ⟨j,M2,_,by go_num,HB.out.step (by omega) (by have:=HLR.out.2.1;omega) (GB.nrm (GB.lod (byt_cons ⟨hy20,hy21⟩ (byt_cons ⟨by omega,by omega⟩ (byt_1 ⟨by omega,by omega⟩))))) hO5 gbx nbx hG5 hN5⟩
     case measure=>simp [intOf]<;>omega
   ·obtain rfl:k=0:=by omega
    obtain ⟨la,ln,lc,rfl,hln,hl1,hl2, -, -⟩:=HB.out.own.form2
    have HLN:=Lib.hid hln.out
    go_upto_region 10 with (go_at_call 31;(with_reducible refine (K12.rnrm_any la ln lc l _ (K12.Owns.held HB.out.own.to (by have:=HB.out.ln;omega)) (by have:=HB.out.ln;have:=HLN.out;omega)).mono ?_);rintro e w6 ⟨r6,rfl,hO6,hA6⟩;obtain ⟨ia,ni,ic,rfl,hn6,hn1, -, -, -⟩:=(OwnsA.of hO6).form2;have hn6:=hn6.out;have HI6:=Lib.hid (HB.out.i.adds hA6);have HO6:=Lib.hid hO6;have c6:=rowOf_cell (i:=6) (v:=.slice x1.ia x1.ni x1.ic) HI6.out.row rfl;have f6:=row_frozen HI6.out.row (by simp) 6;clear hO6 hA6)
    refine wp_forget (fun W=>BoI w b len cap a N' c ⟨x1.ch,x1.ra,x1.rn,x1.rc,x1.iw,x1.pp,x1.dp,x1.jm,ia,ni,ic⟩ rl W∧K12.Owns W (c+1) (.slice ia ni ic) (K12.Sm.nrm l)) ?_ ?_
    ·have hcw:=HB.out.i.lt
     exact ⟨HI6.out.set 6 (.slice ia ni ic) _ rfl ⟨rfl,rfl,rfl⟩ HI6.out.p,OwnsG.kept (OwnsG.mono (OwnsA.of HO6.out) (show c+1≤wr.heap.size by omega)) (show w6.grownBy (w6.setCell ⟨c,6,none⟩ (.slice ia ni ic)) (some c) from ⟨rfl,rfl,rfl,by simp,fun k _ hk=>heap_setCell_other w6 ⟨c,6,none⟩ k _ (fun e=>hk (by simp [e]))⟩) (fun g e=>by injection e with e;omega)⟩
    clear HI6 HO6 c6 f6
    rintro we ⟨hI,hO⟩
    have HI:=Lib.hid hI
    have HO:=Lib.hid hO
    have t2:=hI.t2
    have rc:=hI.row
    have pc:=hI.lt
    have c0:=hI.c0
    clear hI hO
    go_wp2_with fail
    refine bodyPost_ret (ret_Board Tryz.results16 rfl (rowOf_setRow_same _ _ _ (by omega)) (by simp)) rfl ?_
    have hg:=grown_setRow we w.heap.size #[.int .i64 x1.ch,.slice x1.ra x1.rn x1.rc,.int .i64 x1.iw,.int .u8 x1.pp,.int .u8 x1.dp,.bool x1.jm,.slice ia ni ic]
    have kR:=HI.out.r.kept hg (fun g e=>by injection e with e;omega)
    have kI:K12.Owns _ (c+1) (.slice ia ni ic) (K12.Sm.nrm l):=OwnsG.kept (OwnsA.of HO.out) hg (fun g e=>by injection e with e;omega)
    have l3:=HI.out.rl3
    have hnl:=K12.Sm.nrm_len l
    have hll:=HB.out.ln
    exact ⟨⟨x1.ch,x1.ra,x1.rn,x1.rc,x1.iw,x1.pp,x1.dp,x1.jm,ia,ni,ic⟩,rl,K12.Sm.nrm l,N',rfl,⟨kR,l3,OwnsG.mono (OwnsA.of kI) (by omega),by omega,GB.nrm HB.out.gb,HI.out.p⟩,by omega,HI.out.n.grown hg (fun g e=>by injection e with e;omega),grown_trans2 HI.out.g hg (fun g e=> .inr (by injection e with e;omega))⟩
end
end Go.Proofs.YteggjjhjmhccjaaGreatDoor
