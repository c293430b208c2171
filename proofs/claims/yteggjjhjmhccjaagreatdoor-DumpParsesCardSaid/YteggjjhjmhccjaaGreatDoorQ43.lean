/- Texts that the proofs of the statements on dumps rest on, joined. Conditions stand in each theorem. -/
import Derived.Test.YteggjjhjmhccjaaGreatDoorQ03
import Derived.Test.YteggjjhjmhccjaaGreatDoorQ42
set_option linter.unusedVariables false
set_option linter.unusedSimpArgs false
set_option maxRecDepth 100000
set_option maxHeartbeats 8000000
namespace Go.Proofs.YteggjjhjmhccjaaGreatDoor
open Go.ChangeShapes Go.WideShapes Go.ChangeAt Go.RowKit
section
variable {V W w:World} {b base rb:Nat} {c f:S.Cp} {il:List S.It} {mo:S.Mo} {r r1 r2:S.Rn} {tl:List S.Pn} {ul ul':List S.Cp} {vl vl':List S.Ev} {x:S.Co} {y:S.Sy}
structure EvS (base rb:Nat) (r:S.Rn) (tl:List S.Pn) (il:List S.It) (w:World) (x:S.Co) (y:S.Sy) (mo:S.Mo) (c:S.Cp) (r1:S.Rn) (vl:List S.Ev) (ul:List S.Cp) (W:World):Prop where
 r6:rowOf W w.heap.size=(List.toArray (.int .i64 x.c.Ch:: .int .u8 x.c.A:: .int .u8 x.c.B:: .int .u8 x.c.C:: .int .u8 x.c.D:: .int .u8 x.c.E:: .int .u8 x.c.H:: .int .u8 x.c.L:: .bool x.c.fS:: .bool x.c.fZ:: .bool x.c.fK:: .bool x.c.fAC:: .bool x.c.fP:: .bool x.c.fV:: .bool x.c.fCY:: .int .u16 x.c.SP:: .int .u16 x.c.PC:: .bool x.c.IE:: .bool x.c.De:: .bool x.c.Ha:: .int .u8 x.c.Ma:: .bool x.c.Tr:: .bool x.c.R7:: .bool x.c.WT:: .bool x.c.W7:: .bool x.c.Sa:: .bool x.c.SI:: .bool x.c.SO:: .int .i64 x.src:: .slice x.ga x.gn x.gc:: .int .i64 x.y.k:: .int .u16 x.y.a:: .int .u8 x.y.d:: .int .i64 x.y.s:: .int .i64 x.nx:: .bool x.ho::[]))
 r7:rowOf W (w.heap.size+1)=(List.toArray (.int .i64 y.k.c.Ch:: .int .u8 y.k.c.A:: .int .u8 y.k.c.B:: .int .u8 y.k.c.C:: .int .u8 y.k.c.D:: .int .u8 y.k.c.E:: .int .u8 y.k.c.H:: .int .u8 y.k.c.L:: .bool y.k.c.fS:: .bool y.k.c.fZ:: .bool y.k.c.fK:: .bool y.k.c.fAC:: .bool y.k.c.fP:: .bool y.k.c.fV:: .bool y.k.c.fCY:: .int .u16 y.k.c.SP:: .int .u16 y.k.c.PC:: .bool y.k.c.IE:: .bool y.k.c.De:: .bool y.k.c.Ha:: .int .u8 y.k.c.Ma:: .bool y.k.c.Tr:: .bool y.k.c.R7:: .bool y.k.c.WT:: .bool y.k.c.W7:: .bool y.k.c.Sa:: .bool y.k.c.SI:: .bool y.k.c.SO:: .int .i64 y.k.src:: .slice y.k.ga y.k.gn y.k.gc:: .int .i64 y.k.y.k:: .int .u16 y.k.y.a:: .int .u8 y.k.y.d:: .int .i64 y.k.y.s:: .int .i64 y.k.nx:: .bool y.k.ho:: .slice y.ma y.mn y.mc:: .int .i64 y.p.St:: .bool y.p.Le:: .bool y.p.Fo:: .bool y.p.Si:: .bool y.p.Ft:: .int .u8 y.p.Lw:: .int .u8 y.p.Hg:: .bool y.p.Au:: .bool y.p.Ro:: .bool y.p.Sp:: .bool y.p.RI:: .bool y.p.Po:: .int .u8 y.p.Li:: .int .u8 y.p.Ed:: .int .u8 y.p.IS:: .int .u8 y.p.IM:: .int .i64 y.p.Lo:: .int .i64 y.p.Sq:: .int .i64 y.p.Sv:: .bool y.p.Su:: .int .u16 y.da:: .int .u8 y.dv:: .int .i64 y.dl:: .int .i64 y.wt:: .slice y.oa y.on y.oc::[]))
 r8:rowOf W (w.heap.size+1+1)=#[.bool mo.Re,.bool mo.Ho,.bool mo.Rs,.bool mo.Si,.bool mo.Tr,.bool mo.R7,.bool mo.R6,.bool mo.R5,.bool mo.In,.int .u8 mo.da,.int .u16 mo.ca,.int .u8 mo.cv,.bool mo.mv]
 r10:rowOf W (w.heap.size+1+1+1+1)=#[.int .i64 c.Ch,.int .u8 c.A,.int .u8 c.B,.int .u8 c.C,.int .u8 c.D,.int .u8 c.E,.int .u8 c.H,.int .u8 c.L,.bool c.fS,.bool c.fZ,.bool c.fK,.bool c.fAC,.bool c.fP,.bool c.fV,.bool c.fCY,.int .u16 c.SP,.int .u16 c.PC,.bool c.IE,.bool c.De,.bool c.Ha,.int .u8 c.Ma,.bool c.Tr,.bool c.R7,.bool c.WT,.bool c.W7,.bool c.Sa,.bool c.SI,.bool c.SO]
 run:RnOk base rb r1 tl il vl ul W
 t:Tch (RnO rb r) w W
 lt:∀k,RnO rb r k→k < w.heap.size
 o:∀k,RnO rb r1 k→RnO rb r k∨w.heap.size+5≤k
 s:r1.ta=r.ta∧r1.tn=r.tn∧r1.tc=r.tc∧r1.ia=r.ia∧r1.ni=r.ni∧r1.ic=r.ic∧r1.s=r.s
theorem EvS.tch (h:EvS base rb r tl il w x y mo c r1 vl ul W) (k:Tch (RnO rb r1) W V) (hr:RnOk base rb r2 tl il vl' ul' V) (ho:∀k,RnO rb r2 k→RnO rb r1 k∨W.heap.size≤k)
 (hs:r2.ta=r1.ta∧r2.tn=r1.tn∧r2.tc=r1.tc∧r2.ia=r1.ia∧r2.ni=r1.ni∧r2.ic=r1.ic∧r2.s=r1.s):EvS base rb r tl il w x y mo c r2 vl' ul' V:=by
 have hsz:w.heap.size+5≤W.heap.size:=row_lt h.r10 (by simp)
 have row:∀j,j < 5→0 < (rowOf W (w.heap.size+j)).size→rowOf V (w.heap.size+j)=rowOf W (w.heap.size+j):=fun j hj hp=>k.row (row_lt rfl hp) (fun e=>by
  rcases h.o _ e with q|q
  ·have:=h.lt _ q;omega
  ·omega)
 obtain ⟨s1,s2,s3,s4,s5,s6,s7⟩:=h.s
 obtain ⟨t1,t2,t3,t4,t5,t6,t7⟩:=hs
 refine ⟨(row 0 (by omega) (by rw [Nat.add_zero,h.r6];simp)).trans h.r6,(row 1 (by omega) (by rw [h.r7];simp)).trans h.r7,(row 2 (by omega) (by show 0 < (rowOf W (w.heap.size+1+1)).size;rw [h.r8];simp)).trans h.r8,(row 4 (by omega) (by show 0 < (rowOf W (w.heap.size+1+1+1+1)).size;rw [h.r10];simp)).trans h.r10,hr,h.t.trans k (fun b hb e=>(h.o b e).resolve_right (by omega)),h.lt,fun j e=> ?_,⟨t1.trans s1,t2.trans s2,t3.trans s3,t4.trans s4,t5.trans s5,t6.trans s6,t7.trans s7⟩⟩
 rcases ho j e with q|q
 ·exact h.o j q
 ·exact .inr (by omega)
theorem EvS.adds (h:EvS base rb r tl il w x y mo c r1 vl ul W) (k:Adds W V):EvS base rb r tl il w x y mo c r1 vl ul V:=
 h.tch (Tch.of_adds k) (h.run.adds k) (fun _ e=> .inl e) ⟨rfl,rfl,rfl,rfl,rfl,rfl,rfl⟩
theorem EvS.fin (h:EvS base rb r tl il w x y mo c r1 vl ul W) {vl0:List S.Ev} {ul0:List S.Cp} (l1:vl.length≤vl0.length+2) (l2:ul.length≤ul0.length+2):AddPost 2 base rb r tl il vl0 ul0 w (.returned (.tuple #[])) W:=
 ⟨r1,vl,ul,rfl,h.run,h.s,l1,l2,h.t,fun k e=>(h.o k e).imp id (fun q=>by omega)⟩
theorem EvS.held (h:EvS base rb r tl il w x y mo c r1 vl ul W):rowOf W w.heap.size=(List.toArray (.int .i64 x.c.Ch:: .int .u8 x.c.A:: .int .u8 x.c.B:: .int .u8 x.c.C:: .int .u8 x.c.D:: .int .u8 x.c.E:: .int .u8 x.c.H:: .int .u8 x.c.L:: .bool x.c.fS:: .bool x.c.fZ:: .bool x.c.fK:: .bool x.c.fAC:: .bool x.c.fP:: .bool x.c.fV:: .bool x.c.fCY:: .int .u16 x.c.SP:: .int .u16 x.c.PC:: .bool x.c.IE:: .bool x.c.De:: .bool x.c.Ha:: .int .u8 x.c.Ma:: .bool x.c.Tr:: .bool x.c.R7:: .bool x.c.WT:: .bool x.c.W7:: .bool x.c.Sa:: .bool x.c.SI:: .bool x.c.SO:: .int .i64 x.src:: .slice x.ga x.gn x.gc:: .int .i64 x.y.k:: .int .u16 x.y.a:: .int .u8 x.y.d:: .int .i64 x.y.s:: .int .i64 x.nx:: .bool x.ho::[]))∧rowOf W (w.heap.size+1)=(List.toArray (.int .i64 y.k.c.Ch:: .int .u8 y.k.c.A:: .int .u8 y.k.c.B:: .int .u8 y.k.c.C:: .int .u8 y.k.c.D:: .int .u8 y.k.c.E:: .int .u8 y.k.c.H:: .int .u8 y.k.c.L:: .bool y.k.c.fS:: .bool y.k.c.fZ:: .bool y.k.c.fK:: .bool y.k.c.fAC:: .bool y.k.c.fP:: .bool y.k.c.fV:: .bool y.k.c.fCY:: .int .u16 y.k.c.SP:: .int .u16 y.k.c.PC:: .bool y.k.c.IE:: .bool y.k.c.De:: .bool y.k.c.Ha:: .int .u8 y.k.c.Ma:: .bool y.k.c.Tr:: .bool y.k.c.R7:: .bool y.k.c.WT:: .bool y.k.c.W7:: .bool y.k.c.Sa:: .bool y.k.c.SI:: .bool y.k.c.SO:: .int .i64 y.k.src:: .slice y.k.ga y.k.gn y.k.gc:: .int .i64 y.k.y.k:: .int .u16 y.k.y.a:: .int .u8 y.k.y.d:: .int .i64 y.k.y.s:: .int .i64 y.k.nx:: .bool y.k.ho:: .slice y.ma y.mn y.mc:: .int .i64 y.p.St:: .bool y.p.Le:: .bool y.p.Fo:: .bool y.p.Si:: .bool y.p.Ft:: .int .u8 y.p.Lw:: .int .u8 y.p.Hg:: .bool y.p.Au:: .bool y.p.Ro:: .bool y.p.Sp:: .bool y.p.RI:: .bool y.p.Po:: .int .u8 y.p.Li:: .int .u8 y.p.Ed:: .int .u8 y.p.IS:: .int .u8 y.p.IM:: .int .i64 y.p.Lo:: .int .i64 y.p.Sq:: .int .i64 y.p.Sv:: .bool y.p.Su:: .int .u16 y.da:: .int .u8 y.dv:: .int .i64 y.dl:: .int .i64 y.wt:: .slice y.oa y.on y.oc::[]))∧rowOf W (w.heap.size+1+1)=#[.bool mo.Re,.bool mo.Ho,.bool mo.Rs,.bool mo.Si,.bool mo.Tr,.bool mo.R7,.bool mo.R6,.bool mo.R5,.bool mo.In,.int .u8 mo.da,.int .u16 mo.ca,.int .u8 mo.cv,.bool mo.mv]∧rowOf W (w.heap.size+1+1+1+1)=#[.int .i64 c.Ch,.int .u8 c.A,.int .u8 c.B,.int .u8 c.C,.int .u8 c.D,.int .u8 c.E,.int .u8 c.H,.int .u8 c.L,.bool c.fS,.bool c.fZ,.bool c.fK,.bool c.fAC,.bool c.fP,.bool c.fV,.bool c.fCY,.int .u16 c.SP,.int .u16 c.PC,.bool c.IE,.bool c.De,.bool c.Ha,.int .u8 c.Ma,.bool c.Tr,.bool c.R7,.bool c.WT,.bool c.W7,.bool c.Sa,.bool c.SI,.bool c.SO]∧W.cell? ⟨w.heap.size,28,none⟩=some (.int .i64 x.src)∧W.cell? ⟨w.heap.size,29,none⟩=some (.slice x.ga x.gn x.gc)∧W.cell? ⟨w.heap.size+1+1,9,none⟩=some (.int .u8 mo.da):=
 ⟨h.r6,h.r7,h.r8,h.r10,rowOf_cell h.r6 rfl,rowOf_cell h.r6 rfl,rowOf_cell h.r8 rfl⟩
theorem CoOk.tch {z:List Int} {w':World} {T:Nat→Prop} (h:CoOk x z w) (k:Tch T w w') (o:Off T x.ga x.gn):CoOk x z w':=⟨h.c,h.y,h.nx,h.held.tch k o,h.gc,h.by_,h.nn⟩
def EvF (base rb:Nat) (r:S.Rn) (tl:List S.Pn) (il:List S.It) (w:World) (x:S.Co) (y:S.Sy) (mo:S.Mo) (c:S.Cp) (r1:S.Rn) (vl:List S.Ev) (ul:List S.Cp) (b:Nat) (f:S.Cp) (W:World):Prop:=EvS base rb r tl il w x y mo c r1 vl ul W∧rowOf W b=#[.int .i64 f.Ch,.int .u8 f.A,.int .u8 f.B,.int .u8 f.C,.int .u8 f.D,.int .u8 f.E,.int .u8 f.H,.int .u8 f.L,.bool f.fS,.bool f.fZ,.bool f.fK,.bool f.fAC,.bool f.fP,.bool f.fV,.bool f.fCY,.int .u16 f.SP,.int .u16 f.PC,.bool f.IE,.bool f.De,.bool f.Ha,.int .u8 f.Ma,.bool f.Tr,.bool f.R7,.bool f.WT,.bool f.W7,.bool f.Sa,.bool f.SI,.bool f.SO]∧w.heap.size+5≤b∧b < W.heap.size∧¬RnO rb r1 b
theorem EvF.adds (h:EvF base rb r tl il w x y mo c r1 vl ul b f W) (k:Adds W V):EvF base rb r tl il w x y mo c r1 vl ul b f V:=
 ⟨h.1.adds k,(k.row h.2.2.2.1).trans h.2.1,h.2.2.1,Nat.lt_of_lt_of_le h.2.2.2.1 k.size,h.2.2.2.2⟩
theorem EvF.tch (h:EvF base rb r tl il w x y mo c r1 vl ul b f W) (k:Tch (RnO rb r1) W V) (hr:RnOk base rb r2 tl il vl' ul' V) (ho:∀k,RnO rb r2 k→RnO rb r1 k∨W.heap.size≤k)
 (hs:r2.ta=r1.ta∧r2.tn=r1.tn∧r2.tc=r1.tc∧r2.ia=r1.ia∧r2.ni=r1.ni∧r2.ic=r1.ic∧r2.s=r1.s):EvF base rb r tl il w x y mo c r2 vl' ul' b f V:=
 ⟨h.1.tch k hr ho hs,(k.row h.2.2.2.1 h.2.2.2.2).trans h.2.1,h.2.2.1,Nat.lt_of_lt_of_le h.2.2.2.1 k.size,fun e=>by
   rcases ho _ e with q|q
   ·exact h.2.2.2.2 q
   ·have:=h.2.2.2.1;omega⟩
theorem EvF.held (h:EvF base rb r tl il w x y mo c r1 vl ul b f W):(rowOf W w.heap.size=(List.toArray (.int .i64 x.c.Ch:: .int .u8 x.c.A:: .int .u8 x.c.B:: .int .u8 x.c.C:: .int .u8 x.c.D:: .int .u8 x.c.E:: .int .u8 x.c.H:: .int .u8 x.c.L:: .bool x.c.fS:: .bool x.c.fZ:: .bool x.c.fK:: .bool x.c.fAC:: .bool x.c.fP:: .bool x.c.fV:: .bool x.c.fCY:: .int .u16 x.c.SP:: .int .u16 x.c.PC:: .bool x.c.IE:: .bool x.c.De:: .bool x.c.Ha:: .int .u8 x.c.Ma:: .bool x.c.Tr:: .bool x.c.R7:: .bool x.c.WT:: .bool x.c.W7:: .bool x.c.Sa:: .bool x.c.SI:: .bool x.c.SO:: .int .i64 x.src:: .slice x.ga x.gn x.gc:: .int .i64 x.y.k:: .int .u16 x.y.a:: .int .u8 x.y.d:: .int .i64 x.y.s:: .int .i64 x.nx:: .bool x.ho::[]))∧rowOf W (w.heap.size+1)=(List.toArray (.int .i64 y.k.c.Ch:: .int .u8 y.k.c.A:: .int .u8 y.k.c.B:: .int .u8 y.k.c.C:: .int .u8 y.k.c.D:: .int .u8 y.k.c.E:: .int .u8 y.k.c.H:: .int .u8 y.k.c.L:: .bool y.k.c.fS:: .bool y.k.c.fZ:: .bool y.k.c.fK:: .bool y.k.c.fAC:: .bool y.k.c.fP:: .bool y.k.c.fV:: .bool y.k.c.fCY:: .int .u16 y.k.c.SP:: .int .u16 y.k.c.PC:: .bool y.k.c.IE:: .bool y.k.c.De:: .bool y.k.c.Ha:: .int .u8 y.k.c.Ma:: .bool y.k.c.Tr:: .bool y.k.c.R7:: .bool y.k.c.WT:: .bool y.k.c.W7:: .bool y.k.c.Sa:: .bool y.k.c.SI:: .bool y.k.c.SO:: .int .i64 y.k.src:: .slice y.k.ga y.k.gn y.k.gc:: .int .i64 y.k.y.k:: .int .u16 y.k.y.a:: .int .u8 y.k.y.d:: .int .i64 y.k.y.s:: .int .i64 y.k.nx:: .bool y.k.ho:: .slice y.ma y.mn y.mc:: .int .i64 y.p.St:: .bool y.p.Le:: .bool y.p.Fo:: .bool y.p.Si:: .bool y.p.Ft:: .int .u8 y.p.Lw:: .int .u8 y.p.Hg:: .bool y.p.Au:: .bool y.p.Ro:: .bool y.p.Sp:: .bool y.p.RI:: .bool y.p.Po:: .int .u8 y.p.Li:: .int .u8 y.p.Ed:: .int .u8 y.p.IS:: .int .u8 y.p.IM:: .int .i64 y.p.Lo:: .int .i64 y.p.Sq:: .int .i64 y.p.Sv:: .bool y.p.Su:: .int .u16 y.da:: .int .u8 y.dv:: .int .i64 y.dl:: .int .i64 y.wt:: .slice y.oa y.on y.oc::[]))∧rowOf W (w.heap.size+1+1)=#[.bool mo.Re,.bool mo.Ho,.bool mo.Rs,.bool mo.Si,.bool mo.Tr,.bool mo.R7,.bool mo.R6,.bool mo.R5,.bool mo.In,.int .u8 mo.da,.int .u16 mo.ca,.int .u8 mo.cv,.bool mo.mv]∧rowOf W (w.heap.size+1+1+1+1)=#[.int .i64 c.Ch,.int .u8 c.A,.int .u8 c.B,.int .u8 c.C,.int .u8 c.D,.int .u8 c.E,.int .u8 c.H,.int .u8 c.L,.bool c.fS,.bool c.fZ,.bool c.fK,.bool c.fAC,.bool c.fP,.bool c.fV,.bool c.fCY,.int .u16 c.SP,.int .u16 c.PC,.bool c.IE,.bool c.De,.bool c.Ha,.int .u8 c.Ma,.bool c.Tr,.bool c.R7,.bool c.WT,.bool c.W7,.bool c.Sa,.bool c.SI,.bool c.SO]∧W.cell? ⟨w.heap.size,28,none⟩=some (.int .i64 x.src)∧W.cell? ⟨w.heap.size,29,none⟩=some (.slice x.ga x.gn x.gc)∧W.cell? ⟨w.heap.size+1+1,9,none⟩=some (.int .u8 mo.da))∧rowOf W b=#[.int .i64 f.Ch,.int .u8 f.A,.int .u8 f.B,.int .u8 f.C,.int .u8 f.D,.int .u8 f.E,.int .u8 f.H,.int .u8 f.L,.bool f.fS,.bool f.fZ,.bool f.fK,.bool f.fAC,.bool f.fP,.bool f.fV,.bool f.fCY,.int .u16 f.SP,.int .u16 f.PC,.bool f.IE,.bool f.De,.bool f.Ha,.int .u8 f.Ma,.bool f.Tr,.bool f.R7,.bool f.WT,.bool f.W7,.bool f.Sa,.bool f.SI,.bool f.SO]:=⟨h.1.held,h.2.1⟩
theorem add_lit (base rb:Nat) (r:S.Rn) (tl:List S.Pn) (il:List S.It) (vl:List S.Ev) (ul:List S.Cp) {k s:Int} {ga:Option Addr} {gn gc:Nat} {b1 b2 b3 b4 b5 b6 b7 b8 b9 c1 c2 c3 c4:Bool} {ca cv:Int} {cCh cA cB cC cD cE cH cL:Int} {cfS cfZ cfK cfAC cfP cfV cfCY:Bool} {cSP cPC:Int} {cIE cDe cHa:Bool} {cMa:Int} {cTr cR7 cWT cW7 cSa cSI cSO:Bool} (h:RnOk base rb r tl il vl ul w) (hl:vl.length≤1000000∧ul.length≤1000000) (hb:base≤w.heap.size):Calls Tryz.prog 73 #[.pointer (some ⟨rb,0,none⟩),.agg #[.int .i64 k,.int .i64 s,.slice ga gn gc,.bool b1,.bool b2,.bool b3,.bool b4,.bool b5,.bool b6,.bool b7,.bool b8,.bool b9,.bool c1,.bool c2,.bool c3,.bool c4,.int .u16 ca,.int .u8 cv],.agg #[.int .i64 cCh,.int .u8 cA,.int .u8 cB,.int .u8 cC,.int .u8 cD,.int .u8 cE,.int .u8 cH,.int .u8 cL,.bool cfS,.bool cfZ,.bool cfK,.bool cfAC,.bool cfP,.bool cfV,.bool cfCY,.int .u16 cSP,.int .u16 cPC,.bool cIE,.bool cDe,.bool cHa,.int .u8 cMa,.bool cTr,.bool cR7,.bool cWT,.bool cW7,.bool cSa,.bool cSI,.bool cSO]] w (AddPost 1 base rb r tl il vl ul w):=
 add_any base rb r tl il vl ul ⟨[.int .i64 k,.int .i64 s,.slice ga gn gc,.bool b1,.bool b2,.bool b3,.bool b4,.bool b5,.bool b6,.bool b7,.bool b8,.bool b9,.bool c1,.bool c2,.bool c3,.bool c4,.int .u16 ca,.int .u8 cv],rfl,by
  intro u hu
  simp only [List.mem_cons,List.not_mem_nil,or_false] at hu
  rcases hu with rfl|rfl|rfl|rfl|rfl|rfl|rfl|rfl|rfl|rfl|rfl|rfl|rfl|rfl|rfl|rfl|rfl|rfl<;>rfl⟩ _ _ _ _ _ _ _ _ _ _ _ _ _ _ _ _ _ _ _ _ _ _ _ _ _ _ _ _ w h hl hb
theorem q1C24A {P:Prop} (h:P:=by
 obtain ⟨g,hg,_,gl⟩:=hE.run.u.head (by omega)
 have hlen:=hE.run.u.len
 obtain ⟨m,hm⟩:∃m:Nat,r.un=m+1:=⟨r.un - 1,by omega⟩
 obtain ⟨cl,hcl⟩:∃cl,ul[m]? =some cl:=get_el (by omega)
 have hO:=hE.run.u
 rw [hg] at hO
 obtain ⟨_,_,_,_,hc1,hc2,_⟩:=hO.elim
 have q4:(r.un:Int)≤9223372036854775807:=by simp only [maxLen] at hc2;omega
 have hload:(wholeVar 56 ⟨g,m * 28,none⟩).run Tryz.prog ww=.ok (.agg #[.int .i64 cl.Ch,.int .u8 cl.A,.int .u8 cl.B,.int .u8 cl.C,.int .u8 cl.D,.int .u8 cl.E,.int .u8 cl.H,.int .u8 cl.L,.bool cl.fS,.bool cl.fZ,.bool cl.fK,.bool cl.fAC,.bool cl.fP,.bool cl.fV,.bool cl.fCY,.int .u16 cl.SP,.int .u16 cl.PC,.bool cl.IE,.bool cl.De,.bool cl.Ha,.int .u8 cl.Ma,.bool cl.Tr,.bool cl.R7,.bool cl.WT,.bool cl.W7,.bool cl.Sa,.bool cl.SI,.bool cl.SO]) ww:=AtU.load hO.at_ hcl (m * 28) (by omega)
 have crb':=rowOf_cell (i:=3) (v:=.slice (some ⟨g,0,none⟩) r.un r.uc) hE.run.row (by rw [←hg];rfl)
 have q1:(r.un:Int) - 1=(m:Int):=by omega
 have q2:(m:Int) < (r.un:Int):=by omega
 have q3:(0:Int)≤(m:Int):=by omega
 have r10:=hE.r10
 have HM:=Lib.hid hm
 clear hm hO hcl hlen hg hE crb
 go_wp2_with fail
 go_meet
 have hsz:0 < (rowOf ww (w.heap.size+1+1+1+1)).size:=by rw [r10];simp
 have hT:=fun c=>Tch.setRow (S:=fun k=>k=w.heap.size+1+1+1+1) (Tch.refl _ ww) (w.heap.size+1+1+1+1) c (fun _=>rfl)
 have hsw:w.heap.size+5≤ww.heap.size:=row_lt r10 (by simp)
 have hlt:=HE.out.lt
 have hO:∀k,k=w.heap.size+1+1+1+1→¬RnO rb r k:=fun k e q=>by have:=hlt _ q;omega
 exact ⟨cl,⟨(rowOf_setRow_other _ _ _ _ (by omega)).trans HE.out.r6,(rowOf_setRow_other _ _ _ _ (by omega)).trans HE.out.r7,(rowOf_setRow_other _ _ _ _ (by omega)).trans HE.out.r8,rowOf_setRow_same _ _ _ hsz,HE.out.run.tch (hT _) hO,HE.out.t.trans (hT _) (fun b hb e=>by omega),hlt,HE.out.o,HE.out.s⟩⟩):P:=h
theorem events_rst (base rb:Nat) (r:S.Rn) (tl:List S.Pn) (il:List S.It) (vl:List S.Ev) (ul:List S.Cp) (x:S.Co) (z:List Int) (y:S.Sy) (lRe lHo lSi lTr lR7 lR6 lR5 lIn:Bool) (vda vca vcv:Int) (vmv:Bool) (c:S.Cp) (w:World) (h:RnOk base rb r tl il vl ul w) (hx:CoOk x z w) (ho:Off (RnO rb r) x.ga x.gn) (hg:x.gn≤999999) (hv:0≤vda∧vda < 256) (hl:vl.length≤900000∧ul.length≤900000) (hb:base≤w.heap.size):Calls Tryz.prog 38 #[.pointer (some ⟨rb,0,none⟩),.agg (List.toArray (.int .i64 x.c.Ch:: .int .u8 x.c.A:: .int .u8 x.c.B:: .int .u8 x.c.C:: .int .u8 x.c.D:: .int .u8 x.c.E:: .int .u8 x.c.H:: .int .u8 x.c.L:: .bool x.c.fS:: .bool x.c.fZ:: .bool x.c.fK:: .bool x.c.fAC:: .bool x.c.fP:: .bool x.c.fV:: .bool x.c.fCY:: .int .u16 x.c.SP:: .int .u16 x.c.PC:: .bool x.c.IE:: .bool x.c.De:: .bool x.c.Ha:: .int .u8 x.c.Ma:: .bool x.c.Tr:: .bool x.c.R7:: .bool x.c.WT:: .bool x.c.W7:: .bool x.c.Sa:: .bool x.c.SI:: .bool x.c.SO:: .int .i64 x.src:: .slice x.ga x.gn x.gc:: .int .i64 x.y.k:: .int .u16 x.y.a:: .int .u8 x.y.d:: .int .i64 x.y.s:: .int .i64 x.nx:: .bool x.ho::[])),.agg (List.toArray (.int .i64 y.k.c.Ch:: .int .u8 y.k.c.A:: .int .u8 y.k.c.B:: .int .u8 y.k.c.C:: .int .u8 y.k.c.D:: .int .u8 y.k.c.E:: .int .u8 y.k.c.H:: .int .u8 y.k.c.L:: .bool y.k.c.fS:: .bool y.k.c.fZ:: .bool y.k.c.fK:: .bool y.k.c.fAC:: .bool y.k.c.fP:: .bool y.k.c.fV:: .bool y.k.c.fCY:: .int .u16 y.k.c.SP:: .int .u16 y.k.c.PC:: .bool y.k.c.IE:: .bool y.k.c.De:: .bool y.k.c.Ha:: .int .u8 y.k.c.Ma:: .bool y.k.c.Tr:: .bool y.k.c.R7:: .bool y.k.c.WT:: .bool y.k.c.W7:: .bool y.k.c.Sa:: .bool y.k.c.SI:: .bool y.k.c.SO:: .int .i64 y.k.src:: .slice y.k.ga y.k.gn y.k.gc:: .int .i64 y.k.y.k:: .int .u16 y.k.y.a:: .int .u8 y.k.y.d:: .int .i64 y.k.y.s:: .int .i64 y.k.nx:: .bool y.k.ho:: .slice y.ma y.mn y.mc:: .int .i64 y.p.St:: .bool y.p.Le:: .bool y.p.Fo:: .bool y.p.Si:: .bool y.p.Ft:: .int .u8 y.p.Lw:: .int .u8 y.p.Hg:: .bool y.p.Au:: .bool y.p.Ro:: .bool y.p.Sp:: .bool y.p.RI:: .bool y.p.Po:: .int .u8 y.p.Li:: .int .u8 y.p.Ed:: .int .u8 y.p.IS:: .int .u8 y.p.IM:: .int .i64 y.p.Lo:: .int .i64 y.p.Sq:: .int .i64 y.p.Sv:: .bool y.p.Su:: .int .u16 y.da:: .int .u8 y.dv:: .int .i64 y.dl:: .int .i64 y.wt:: .slice y.oa y.on y.oc::[])),.agg #[.bool lRe,.bool lHo,.bool true,.bool lSi,.bool lTr,.bool lR7,.bool lR6,.bool lR5,.bool lIn,.int .u8 vda,.int .u16 vca,.int .u8 vcv,.bool vmv],.agg #[.int .i64 c.Ch,.int .u8 c.A,.int .u8 c.B,.int .u8 c.C,.int .u8 c.D,.int .u8 c.E,.int .u8 c.H,.int .u8 c.L,.bool c.fS,.bool c.fZ,.bool c.fK,.bool c.fAC,.bool c.fP,.bool c.fV,.bool c.fCY,.int .u16 c.SP,.int .u16 c.PC,.bool c.IE,.bool c.De,.bool c.Ha,.int .u8 c.Ma,.bool c.Tr,.bool c.R7,.bool c.WT,.bool c.W7,.bool c.Sa,.bool c.SI,.bool c.SO]] w (AddPost 2 base rb r tl il vl ul w):=by
 have H:=Lib.hid h
 have HX:=Lib.hid hx
 have HO:=Lib.hid ho
 have HG:=Lib.hid hg
 have HL:=Lib.hid hl
 have prb:=h.rlt
 have crb:=rowOf_cell (i:=3) (v:=.slice r.ua r.un r.uc) h.row rfl
 clear h hx hg hl ho
 go_enter Tryz.func38,Tryz.ntmps38
 go_upto_if 22 with fail
 refine wp_forget (EvS base rb r tl il w x y ⟨lRe,lHo,true,lSi,lTr,lR7,lR6,lR5,lIn,vda,vca,vcv,vmv⟩ c r vl ul) ⟨by simp [go_sem],by simp [go_sem],by simp [go_sem],by simp [go_sem],H.out.adds aD,Tch.of_adds aD,fun k e=>(H.out.olt e).1,fun k e=> .inl e,⟨rfl,rfl,rfl,rfl,rfl,rfl,rfl⟩⟩ ?_
 intro ww hE
 have HE:=Lib.hid hE
 go_cut [] from 21 to 30 (fun wx=>∃c':S.Cp,Hid (EvS base rb r tl il w x y ⟨lRe,lHo,true,lSi,lTr,lR7,lR6,lR5,lIn,vda,vca,vcv,vmv⟩ c' r vl ul wx))
 case first=>
  by_cases hu:(0:Int) < (r.un:Int)
  ·exact q1C24A
  ·clear hE
   go_wp2_with fail
   go_meet
   exact ⟨c,HE⟩
 case rest=>
  clear HE hE crb
  obtain ⟨c1,HE⟩:=hcut
  obtain ⟨r6,r7,r8,r10,c28,c29,c89⟩:=HE.out.held
  have r8:rowOf wc (w.heap.size+1+1)=#[.bool lRe,.bool lHo,.bool true,.bool lSi,.bool lTr,.bool lR7,.bool lR6,.bool lR5,.bool lIn,.int .u8 vda,.int .u16 vca,.int .u8 vcv,.bool vmv]:=r8
  have c89:wc.cell? ⟨w.heap.size+1+1,9,none⟩=some (.int .u8 vda):=c89
  have p6:=row_lt r6 (by simp)
  have p7:=row_lt r7 (by simp)
  have p8:=row_lt r8 (by simp)
  have p10:=row_lt r10 (by simp)
  have c82:=rowOf_cell (i:=2) (v:=.bool true) r8 rfl
  have hbw:base≤wc.heap.size:=by omega
  go_upto_if 35 with (go_at_call 39;refine (busy_any x HX.out.gc).mono ?_;rintro e w' ⟨bb,rfl,⟨⟨n1,os1⟩,rfl⟩⟩)
  go_cut [] from 31 to 49 (fun wx=>∃(r1:S.Rn) (vl1:List S.Ev) (ul1:List S.Cp),Hid (vl1.length≤vl.length+1∧ul1.length≤ul.length+1)∧Hid (EvS base rb r tl il w x y ⟨lRe,lHo,true,lSi,lTr,lR7,lR6,lR5,lIn,vda,vca,vcv,vmv⟩ c1 r1 vl1 ul1 wx))
  case first=>
   cases bb
   ·go_wp2_with fail
    go_meet
    exact ⟨r,vl,ul,⟨by omega,by omega⟩,HE.out.adds aD⟩
   ·go_wp2_with fail
    refine wp_region_noPanic ?_
    refine wp_region_held_drew (S:=fun W=>rowOf W w.heap.size=(List.toArray (.int .i64 x.c.Ch:: .int .u8 x.c.A:: .int .u8 x.c.B:: .int .u8 x.c.C:: .int .u8 x.c.D:: .int .u8 x.c.E:: .int .u8 x.c.H:: .int .u8 x.c.L:: .bool x.c.fS:: .bool x.c.fZ:: .bool x.c.fK:: .bool x.c.fAC:: .bool x.c.fP:: .bool x.c.fV:: .bool x.c.fCY:: .int .u16 x.c.SP:: .int .u16 x.c.PC:: .bool x.c.IE:: .bool x.c.De:: .bool x.c.Ha:: .int .u8 x.c.Ma:: .bool x.c.Tr:: .bool x.c.R7:: .bool x.c.WT:: .bool x.c.W7:: .bool x.c.Sa:: .bool x.c.SI:: .bool x.c.SO:: .int .i64 x.src:: .slice x.ga x.gn x.gc:: .int .i64 x.y.k:: .int .u16 x.y.a:: .int .u8 x.y.d:: .int .i64 x.y.s:: .int .i64 x.nx:: .bool x.ho::[]))∧rowOf W (w.heap.size+1)=(List.toArray (.int .i64 y.k.c.Ch:: .int .u8 y.k.c.A:: .int .u8 y.k.c.B:: .int .u8 y.k.c.C:: .int .u8 y.k.c.D:: .int .u8 y.k.c.E:: .int .u8 y.k.c.H:: .int .u8 y.k.c.L:: .bool y.k.c.fS:: .bool y.k.c.fZ:: .bool y.k.c.fK:: .bool y.k.c.fAC:: .bool y.k.c.fP:: .bool y.k.c.fV:: .bool y.k.c.fCY:: .int .u16 y.k.c.SP:: .int .u16 y.k.c.PC:: .bool y.k.c.IE:: .bool y.k.c.De:: .bool y.k.c.Ha:: .int .u8 y.k.c.Ma:: .bool y.k.c.Tr:: .bool y.k.c.R7:: .bool y.k.c.WT:: .bool y.k.c.W7:: .bool y.k.c.Sa:: .bool y.k.c.SI:: .bool y.k.c.SO:: .int .i64 y.k.src:: .slice y.k.ga y.k.gn y.k.gc:: .int .i64 y.k.y.k:: .int .u16 y.k.y.a:: .int .u8 y.k.y.d:: .int .i64 y.k.y.s:: .int .i64 y.k.nx:: .bool y.k.ho:: .slice y.ma y.mn y.mc:: .int .i64 y.p.St:: .bool y.p.Le:: .bool y.p.Fo:: .bool y.p.Si:: .bool y.p.Ft:: .int .u8 y.p.Lw:: .int .u8 y.p.Hg:: .bool y.p.Au:: .bool y.p.Ro:: .bool y.p.Sp:: .bool y.p.RI:: .bool y.p.Po:: .int .u8 y.p.Li:: .int .u8 y.p.Ed:: .int .u8 y.p.IS:: .int .u8 y.p.IM:: .int .i64 y.p.Lo:: .int .i64 y.p.Sq:: .int .i64 y.p.Sv:: .bool y.p.Su:: .int .u16 y.da:: .int .u8 y.dv:: .int .i64 y.dl:: .int .i64 y.wt:: .slice y.oa y.on y.oc::[]))∧rowOf W (w.heap.size+1+1)=#[.bool lRe,.bool lHo,.bool true,.bool lSi,.bool lTr,.bool lR7,.bool lR6,.bool lR5,.bool lIn,.int .u8 vda,.int .u16 vca,.int .u8 vcv,.bool vmv]∧rowOf W (w.heap.size+1+1+1+1)=#[.int .i64 c1.Ch,.int .u8 c1.A,.int .u8 c1.B,.int .u8 c1.C,.int .u8 c1.D,.int .u8 c1.E,.int .u8 c1.H,.int .u8 c1.L,.bool c1.fS,.bool c1.fZ,.bool c1.fK,.bool c1.fAC,.bool c1.fP,.bool c1.fV,.bool c1.fCY,.int .u16 c1.SP,.int .u16 c1.PC,.bool c1.IE,.bool c1.De,.bool c1.Ha,.int .u8 c1.Ma,.bool c1.Tr,.bool c1.R7,.bool c1.WT,.bool c1.W7,.bool c1.Sa,.bool c1.SI,.bool c1.SO]∧W.cell? ⟨w.heap.size,28,none⟩=some (.int .i64 x.src)∧W.cell? ⟨w.heap.size,29,none⟩=some (.slice x.ga x.gn x.gc)∧W.cell? ⟨w.heap.size+1+1,9,none⟩=some (.int .u8 vda)) (by kernel_rfl) (by (try dsimp only);exact (HE.out.adds aD).held) (fun hHeld=> ?_)
    refine tk 0 rfl ?_
    refine tk 1 rfl ?_
    refine tk 2 rfl ?_
    refine tk 3 rfl ?_
    refine tk 4 rfl ?_
    refine tk 7 rfl ?_
    refine tk 8 rfl ?_
    refine tk 9 rfl ?_
    refine tk 10 rfl ?_
    refine tk 12 rfl ?_
    refine wpAnyH_ready (rs:=[5]) (by kernel_rfl) (by simp) ?_
    refine AllReadyH.cons (o:=⟨some 41,.call ⟨.builtin .append,#[.const (.slice none 0 0),.tmp 40],#[30,30]⟩,30, "ref.go:297",#[⟨4,.data⟩],none⟩) rfl (fun K hK=> ?_) AllReadyH.nil
    (refine step_appBH rfl (.const (.slice none 0 0)) (.tmp 40) rfl wc.heap.size (.slice none 0 0) [] rfl (OwnsG.nil _ _) x.ga x.gn x.gc z (by kernel_rfl) ((HX.out.held.tch HE.out.t HO.out).adds aD) HX.out.gc.1 HX.out.nn (by have:=HG.out;have:=HX.out.held.1;simp;omega) (Adds.size aD) ?_;intro v1 w1 hO1 hG1 hW1;obtain ⟨⟨na,osa⟩,rfl⟩:=adds_no hG1;obtain ⟨a1,m1,k1,rfl,_⟩:=hO1.form2;clear hO1 hG1 hW1)
    refine hK.out _ _ (by (try dsimp only);exact (HE.out.adds aD).held) (fun hHeld=> ?_)
    clear hK K
    (try simp only [Act.put,List.setIfInBounds_toArray,List.set_cons_zero,List.set_cons_succ])
    refine tk 6 rfl ?_
    refine wpAnyH_ready (rs:=[11]) (by kernel_rfl) (by simp) ?_
    refine AllReadyH.cons rfl (fun K hK=> ?_) AllReadyH.nil
    go_simp
    (go_at_call 74;refine (with_any).mono ?_;rintro e w' ⟨ev,rfl,⟨⟨n3,os3⟩,rfl⟩⟩)
    refine hK.out _ _ (by (try dsimp only);exact (HE.out.adds aD).held) (fun hHeld=> ?_)
    clear hK K
    (try simp only [Act.put,List.setIfInBounds_toArray,List.set_cons_zero,List.set_cons_succ])
    refine wpAnyH_ready (rs:=[13]) (by kernel_rfl) (by simp) ?_
    refine AllReadyH.cons rfl (fun K hK=> ?_) AllReadyH.nil
    go_simp
    (go_at_call 73;refine (add_any base rb r tl il vl ul ev _ _ _ _ _ _ _ _ _ _ _ _ _ _ _ _ _ _ _ _ _ _ _ _ _ _ _ _ _ (HE.out.run.adds aD) (by have:=HL.out;omega) (Nat.le_trans hbw (Adds.size aD))).mono ?_;rintro e w9 ⟨r1,vl1,ul1,rfl,hr9,hs9,l1,l2,ht9,ho9⟩;have HE1:=Lib.hid ((HE.out.adds (show Adds wc _ from aD)).tch ht9 hr9 ho9 hs9);have L1:=Lib.hid (And.intro l1 l2);clear hr9 hs9 l1 l2 ht9 ho9)
    refine hK.out _ _ (by (try dsimp only);exact HE1.out.held) (fun hHeld=> ?_)
    clear hK K
    (try simp only [Act.put,List.setIfInBounds_toArray,List.set_cons_zero,List.set_cons_succ])
    refine wpAnyH_done (by kernel_rfl) ?_ _
    refine NoPanic.normal ?_
    clear hHeld
    go_wp2_with fail
    go_meet
    exact ⟨r1,vl1,ul1,L1,HE1⟩
  case rest=>
   clear r6 r7 r8 r10 c28 c29 c89 p6 p7 p8 p10 c82 hbw HE
   obtain ⟨r1,vl1,ul1,L1,HE1⟩:=hcut
   obtain ⟨r6,r7,r8,r10,c28,c29,c89⟩:=HE1.out.held
   have r8:rowOf wc (w.heap.size+1+1)=#[.bool lRe,.bool lHo,.bool true,.bool lSi,.bool lTr,.bool lR7,.bool lR6,.bool lR5,.bool lIn,.int .u8 vda,.int .u16 vca,.int .u8 vcv,.bool vmv]:=r8
   have c89:wc.cell? ⟨w.heap.size+1+1,9,none⟩=some (.int .u8 vda):=c89
   have p6:=row_lt r6 (by simp)
   have p7:=row_lt r7 (by simp)
   have p8:=row_lt r8 (by simp)
   have p10:=row_lt r10 (by simp)
   have hbw:base≤wc.heap.size:=by omega
   go_wp2_with fail
   refine wp_region_noPanic ?_
   refine wp_region_held_drew (S:=fun W=>rowOf W w.heap.size=(List.toArray (.int .i64 x.c.Ch:: .int .u8 x.c.A:: .int .u8 x.c.B:: .int .u8 x.c.C:: .int .u8 x.c.D:: .int .u8 x.c.E:: .int .u8 x.c.H:: .int .u8 x.c.L:: .bool x.c.fS:: .bool x.c.fZ:: .bool x.c.fK:: .bool x.c.fAC:: .bool x.c.fP:: .bool x.c.fV:: .bool x.c.fCY:: .int .u16 x.c.SP:: .int .u16 x.c.PC:: .bool x.c.IE:: .bool x.c.De:: .bool x.c.Ha:: .int .u8 x.c.Ma:: .bool x.c.Tr:: .bool x.c.R7:: .bool x.c.WT:: .bool x.c.W7:: .bool x.c.Sa:: .bool x.c.SI:: .bool x.c.SO:: .int .i64 x.src:: .slice x.ga x.gn x.gc:: .int .i64 x.y.k:: .int .u16 x.y.a:: .int .u8 x.y.d:: .int .i64 x.y.s:: .int .i64 x.nx:: .bool x.ho::[]))∧rowOf W (w.heap.size+1)=(List.toArray (.int .i64 y.k.c.Ch:: .int .u8 y.k.c.A:: .int .u8 y.k.c.B:: .int .u8 y.k.c.C:: .int .u8 y.k.c.D:: .int .u8 y.k.c.E:: .int .u8 y.k.c.H:: .int .u8 y.k.c.L:: .bool y.k.c.fS:: .bool y.k.c.fZ:: .bool y.k.c.fK:: .bool y.k.c.fAC:: .bool y.k.c.fP:: .bool y.k.c.fV:: .bool y.k.c.fCY:: .int .u16 y.k.c.SP:: .int .u16 y.k.c.PC:: .bool y.k.c.IE:: .bool y.k.c.De:: .bool y.k.c.Ha:: .int .u8 y.k.c.Ma:: .bool y.k.c.Tr:: .bool y.k.c.R7:: .bool y.k.c.WT:: .bool y.k.c.W7:: .bool y.k.c.Sa:: .bool y.k.c.SI:: .bool y.k.c.SO:: .int .i64 y.k.src:: .slice y.k.ga y.k.gn y.k.gc:: .int .i64 y.k.y.k:: .int .u16 y.k.y.a:: .int .u8 y.k.y.d:: .int .i64 y.k.y.s:: .int .i64 y.k.nx:: .bool y.k.ho:: .slice y.ma y.mn y.mc:: .int .i64 y.p.St:: .bool y.p.Le:: .bool y.p.Fo:: .bool y.p.Si:: .bool y.p.Ft:: .int .u8 y.p.Lw:: .int .u8 y.p.Hg:: .bool y.p.Au:: .bool y.p.Ro:: .bool y.p.Sp:: .bool y.p.RI:: .bool y.p.Po:: .int .u8 y.p.Li:: .int .u8 y.p.Ed:: .int .u8 y.p.IS:: .int .u8 y.p.IM:: .int .i64 y.p.Lo:: .int .i64 y.p.Sq:: .int .i64 y.p.Sv:: .bool y.p.Su:: .int .u16 y.da:: .int .u8 y.dv:: .int .i64 y.dl:: .int .i64 y.wt:: .slice y.oa y.on y.oc::[]))∧rowOf W (w.heap.size+1+1)=#[.bool lRe,.bool lHo,.bool true,.bool lSi,.bool lTr,.bool lR7,.bool lR6,.bool lR5,.bool lIn,.int .u8 vda,.int .u16 vca,.int .u8 vcv,.bool vmv]∧rowOf W (w.heap.size+1+1+1+1)=#[.int .i64 c1.Ch,.int .u8 c1.A,.int .u8 c1.B,.int .u8 c1.C,.int .u8 c1.D,.int .u8 c1.E,.int .u8 c1.H,.int .u8 c1.L,.bool c1.fS,.bool c1.fZ,.bool c1.fK,.bool c1.fAC,.bool c1.fP,.bool c1.fV,.bool c1.fCY,.int .u16 c1.SP,.int .u16 c1.PC,.bool c1.IE,.bool c1.De,.bool c1.Ha,.int .u8 c1.Ma,.bool c1.Tr,.bool c1.R7,.bool c1.WT,.bool c1.W7,.bool c1.Sa,.bool c1.SI,.bool c1.SO]∧W.cell? ⟨w.heap.size,28,none⟩=some (.int .i64 x.src)∧W.cell? ⟨w.heap.size,29,none⟩=some (.slice x.ga x.gn x.gc)∧W.cell? ⟨w.heap.size+1+1,9,none⟩=some (.int .u8 vda)) (by kernel_rfl) (by (try dsimp only);exact (HE1.out.adds aD).held) (fun hHeld=> ?_)
   refine tk 0 rfl ?_
   refine tk 1 rfl ?_
   refine tk 2 rfl ?_
   refine tk 3 rfl ?_
   refine tk 4 rfl ?_
   refine tk 5 rfl ?_
   refine tk 7 rfl ?_
   refine tk 8 rfl ?_
   refine tk 9 rfl ?_
   refine wpAnyH_ready (rs:=[6]) (by kernel_rfl) (by simp) ?_
   refine AllReadyH.cons rfl (fun K hK=> ?_) AllReadyH.nil
   go_simp
   (go_at_call 74;refine (with_any).mono ?_;rintro e w' ⟨ev,rfl,⟨⟨n3,os3⟩,rfl⟩⟩)
   refine hK.out _ _ (by (try dsimp only);exact (HE1.out.adds aD).held) (fun hHeld=> ?_)
   clear hK K
   (try simp only [Act.put,List.setIfInBounds_toArray,List.set_cons_zero,List.set_cons_succ])
   refine wpAnyH_ready (rs:=[10]) (by kernel_rfl) (by simp) ?_
   refine AllReadyH.cons rfl (fun K hK=> ?_) AllReadyH.nil
   go_simp
   (go_at_call 73;refine (add_any base rb r1 tl il vl1 ul1 ev _ _ _ _ _ _ _ _ _ _ _ _ _ _ _ _ _ _ _ _ _ _ _ _ _ _ _ _ _ (HE1.out.run.adds aD) (by have:=HL.out;have:=L1.out;omega) (Nat.le_trans hbw (Adds.size aD))).mono ?_;rintro e w9 ⟨r2,vl2,ul2,rfl,hr9,hs9,l1,l2,ht9,ho9⟩;have HE2:=Lib.hid ((HE1.out.adds (show Adds wc _ from aD)).tch ht9 hr9 ho9 hs9);have L2:=Lib.hid (And.intro l1 l2);clear hr9 hs9 l1 l2 ht9 ho9)
   refine hK.out _ _ (by (try dsimp only);exact HE2.out.held) (fun hHeld=> ?_)
   clear hK K
   (try simp only [Act.put,List.setIfInBounds_toArray,List.set_cons_zero,List.set_cons_succ])
   refine wpAnyH_done (by kernel_rfl) ?_ _
   refine NoPanic.normal ?_
   clear hHeld
   go_wp2_with fail
   go_end0
   exact HE2.out.fin (by have:=L1.out;have:=L2.out;omega) (by have:=L1.out;have:=L2.out;omega)
theorem events_run (base rb:Nat) (r:S.Rn) (tl:List S.Pn) (il:List S.It) (vl:List S.Ev) (ul:List S.Cp) (x:S.Co) (z:List Int) (y:S.Sy) (lRe lHo lSi lTr lR7 lR6 lR5 lIn:Bool) (vda vca vcv:Int) (vmv:Bool) (c:S.Cp) (w:World) (h:RnOk base rb r tl il vl ul w) (hx:CoOk x z w) (ho:Off (RnO rb r) x.ga x.gn) (hg:x.gn≤999999) (hv:0≤vda∧vda < 256) (hl:vl.length≤900000∧ul.length≤900000) (hb:base≤w.heap.size):Calls Tryz.prog 38 #[.pointer (some ⟨rb,0,none⟩),.agg (List.toArray (.int .i64 x.c.Ch:: .int .u8 x.c.A:: .int .u8 x.c.B:: .int .u8 x.c.C:: .int .u8 x.c.D:: .int .u8 x.c.E:: .int .u8 x.c.H:: .int .u8 x.c.L:: .bool x.c.fS:: .bool x.c.fZ:: .bool x.c.fK:: .bool x.c.fAC:: .bool x.c.fP:: .bool x.c.fV:: .bool x.c.fCY:: .int .u16 x.c.SP:: .int .u16 x.c.PC:: .bool x.c.IE:: .bool x.c.De:: .bool x.c.Ha:: .int .u8 x.c.Ma:: .bool x.c.Tr:: .bool x.c.R7:: .bool x.c.WT:: .bool x.c.W7:: .bool x.c.Sa:: .bool x.c.SI:: .bool x.c.SO:: .int .i64 x.src:: .slice x.ga x.gn x.gc:: .int .i64 x.y.k:: .int .u16 x.y.a:: .int .u8 x.y.d:: .int .i64 x.y.s:: .int .i64 x.nx:: .bool x.ho::[])),.agg (List.toArray (.int .i64 y.k.c.Ch:: .int .u8 y.k.c.A:: .int .u8 y.k.c.B:: .int .u8 y.k.c.C:: .int .u8 y.k.c.D:: .int .u8 y.k.c.E:: .int .u8 y.k.c.H:: .int .u8 y.k.c.L:: .bool y.k.c.fS:: .bool y.k.c.fZ:: .bool y.k.c.fK:: .bool y.k.c.fAC:: .bool y.k.c.fP:: .bool y.k.c.fV:: .bool y.k.c.fCY:: .int .u16 y.k.c.SP:: .int .u16 y.k.c.PC:: .bool y.k.c.IE:: .bool y.k.c.De:: .bool y.k.c.Ha:: .int .u8 y.k.c.Ma:: .bool y.k.c.Tr:: .bool y.k.c.R7:: .bool y.k.c.WT:: .bool y.k.c.W7:: .bool y.k.c.Sa:: .bool y.k.c.SI:: .bool y.k.c.SO:: .int .i64 y.k.src:: .slice y.k.ga y.k.gn y.k.gc:: .int .i64 y.k.y.k:: .int .u16 y.k.y.a:: .int .u8 y.k.y.d:: .int .i64 y.k.y.s:: .int .i64 y.k.nx:: .bool y.k.ho:: .slice y.ma y.mn y.mc:: .int .i64 y.p.St:: .bool y.p.Le:: .bool y.p.Fo:: .bool y.p.Si:: .bool y.p.Ft:: .int .u8 y.p.Lw:: .int .u8 y.p.Hg:: .bool y.p.Au:: .bool y.p.Ro:: .bool y.p.Sp:: .bool y.p.RI:: .bool y.p.Po:: .int .u8 y.p.Li:: .int .u8 y.p.Ed:: .int .u8 y.p.IS:: .int .u8 y.p.IM:: .int .i64 y.p.Lo:: .int .i64 y.p.Sq:: .int .i64 y.p.Sv:: .bool y.p.Su:: .int .u16 y.da:: .int .u8 y.dv:: .int .i64 y.dl:: .int .i64 y.wt:: .slice y.oa y.on y.oc::[])),.agg #[.bool lRe,.bool lHo,.bool false,.bool lSi,.bool lTr,.bool lR7,.bool lR6,.bool lR5,.bool lIn,.int .u8 vda,.int .u16 vca,.int .u8 vcv,.bool vmv],.agg #[.int .i64 c.Ch,.int .u8 c.A,.int .u8 c.B,.int .u8 c.C,.int .u8 c.D,.int .u8 c.E,.int .u8 c.H,.int .u8 c.L,.bool c.fS,.bool c.fZ,.bool c.fK,.bool c.fAC,.bool c.fP,.bool c.fV,.bool c.fCY,.int .u16 c.SP,.int .u16 c.PC,.bool c.IE,.bool c.De,.bool c.Ha,.int .u8 c.Ma,.bool c.Tr,.bool c.R7,.bool c.WT,.bool c.W7,.bool c.Sa,.bool c.SI,.bool c.SO]] w (AddPost 2 base rb r tl il vl ul w):=by
 have H:=Lib.hid h
 have HX:=Lib.hid hx
 have HO:=Lib.hid ho
 have HG:=Lib.hid hg
 have HL:=Lib.hid hl
 have prb:=h.rlt
 have crb:=rowOf_cell (i:=3) (v:=.slice r.ua r.un r.uc) h.row rfl
 clear h hx hg hl ho
 go_enter Tryz.func38,Tryz.ntmps38
 go_upto_if 22 with fail
 refine wp_forget (EvS base rb r tl il w x y ⟨lRe,lHo,false,lSi,lTr,lR7,lR6,lR5,lIn,vda,vca,vcv,vmv⟩ c r vl ul) ⟨by simp [go_sem],by simp [go_sem],by simp [go_sem],by simp [go_sem],H.out.adds aD,Tch.of_adds aD,fun k e=>(H.out.olt e).1,fun k e=> .inl e,⟨rfl,rfl,rfl,rfl,rfl,rfl,rfl⟩⟩ ?_
 intro ww hE
 have HE:=Lib.hid hE
 go_cut [] from 21 to 30 (fun wx=>∃c':S.Cp,Hid (EvS base rb r tl il w x y ⟨lRe,lHo,false,lSi,lTr,lR7,lR6,lR5,lIn,vda,vca,vcv,vmv⟩ c' r vl ul wx))
 case first=>
  by_cases hu:(0:Int) < (r.un:Int)
  ·exact q1C24A
  ·clear hE
   go_wp2_with fail
   go_meet
   exact ⟨c,HE⟩
 case rest=>
  clear HE hE crb
  obtain ⟨c1,HE⟩:=hcut
  obtain ⟨r6,r7,r8,r10,c28,c29,c89⟩:=HE.out.held
  have r8:rowOf wc (w.heap.size+1+1)=#[.bool lRe,.bool lHo,.bool false,.bool lSi,.bool lTr,.bool lR7,.bool lR6,.bool lR5,.bool lIn,.int .u8 vda,.int .u16 vca,.int .u8 vcv,.bool vmv]:=r8
  have c89:wc.cell? ⟨w.heap.size+1+1,9,none⟩=some (.int .u8 vda):=c89
  have p6:=row_lt r6 (by simp)
  have p7:=row_lt r7 (by simp)
  have p8:=row_lt r8 (by simp)
  have p10:=row_lt r10 (by simp)
  have c82:=rowOf_cell (i:=2) (v:=.bool false) r8 rfl
  have hbw:base≤wc.heap.size:=by omega
  go_upto_if 72 with (first
   |(go_at_call 35;refine (state_h x HX.out.nx).mono ?_;rintro e w' ⟨st,rfl,⟨⟨n1,os1⟩,rfl⟩⟩)
   |(go_at_call 75;refine (finished_any x z hv (by have:=HG.out;omega) ((HX.out.tch HE.out.t HO.out).adds aD)).mono ?_;rintro e w' ⟨cf,bb,rfl,⟨⟨n2,os2⟩,rfl⟩⟩)
   |fail)
  refine wp_forget (EvF base rb r tl il w x y ⟨lRe,lHo,false,lSi,lTr,lR7,lR6,lR5,lIn,vda,vca,vcv,vmv⟩ c1 r vl ul (wc.heap.size+os1.size+os2.size) cf) ⟨HE.out.adds aD,by simp [go_sem],by omega,by simp [go_sem];try omega,fun e=>by have:=HE.out.lt _ e;omega⟩ ?_
  generalize wc.heap.size+os1.size+os2.size=b13
  clear r6 r7 r8 r10 c28 c29 c89 p6 p7 p8 p10 c82 hbw HE
  intro wc hEF
  have HF:=Lib.hid hEF
  have HE:=Lib.hid hEF.1
  clear hEF
  obtain ⟨r6,r7,r8,r10,c28,c29,c89⟩:=HE.out.held
  have r8:rowOf wc (w.heap.size+1+1)=#[.bool lRe,.bool lHo,.bool false,.bool lSi,.bool lTr,.bool lR7,.bool lR6,.bool lR5,.bool lIn,.int .u8 vda,.int .u16 vca,.int .u8 vcv,.bool vmv]:=r8
  have c89:wc.cell? ⟨w.heap.size+1+1,9,none⟩=some (.int .u8 vda):=c89
  have p6:=row_lt r6 (by simp)
  have p7:=row_lt r7 (by simp)
  have p8:=row_lt r8 (by simp)
  have p10:=row_lt r10 (by simp)
  have hbw:base≤wc.heap.size:=by omega
  have c83:=rowOf_cell (i:=12) (v:=.bool vmv) r8 rfl
  go_cut [] from 11 to 94 (fun wx=>∃(r1:S.Rn) (vl1:List S.Ev) (ul1:List S.Cp),Hid (vl1.length≤vl.length+1∧ul1.length≤ul.length+1)∧Hid (EvS base rb r tl il w x y ⟨lRe,lHo,false,lSi,lTr,lR7,lR6,lR5,lIn,vda,vca,vcv,vmv⟩ c1 r1 vl1 ul1 wx))
  case first=>
   cases bb
   ·go_wp2_with fail
    go_meet
    exact ⟨r,vl,ul,⟨by omega,by omega⟩,HE⟩
   ·go_wp2_with fail
    refine wp_region_noPanic ?_
    refine wp_region_held_drew (S:=fun W=>(rowOf W w.heap.size=(List.toArray (.int .i64 x.c.Ch:: .int .u8 x.c.A:: .int .u8 x.c.B:: .int .u8 x.c.C:: .int .u8 x.c.D:: .int .u8 x.c.E:: .int .u8 x.c.H:: .int .u8 x.c.L:: .bool x.c.fS:: .bool x.c.fZ:: .bool x.c.fK:: .bool x.c.fAC:: .bool x.c.fP:: .bool x.c.fV:: .bool x.c.fCY:: .int .u16 x.c.SP:: .int .u16 x.c.PC:: .bool x.c.IE:: .bool x.c.De:: .bool x.c.Ha:: .int .u8 x.c.Ma:: .bool x.c.Tr:: .bool x.c.R7:: .bool x.c.WT:: .bool x.c.W7:: .bool x.c.Sa:: .bool x.c.SI:: .bool x.c.SO:: .int .i64 x.src:: .slice x.ga x.gn x.gc:: .int .i64 x.y.k:: .int .u16 x.y.a:: .int .u8 x.y.d:: .int .i64 x.y.s:: .int .i64 x.nx:: .bool x.ho::[]))∧rowOf W (w.heap.size+1)=(List.toArray (.int .i64 y.k.c.Ch:: .int .u8 y.k.c.A:: .int .u8 y.k.c.B:: .int .u8 y.k.c.C:: .int .u8 y.k.c.D:: .int .u8 y.k.c.E:: .int .u8 y.k.c.H:: .int .u8 y.k.c.L:: .bool y.k.c.fS:: .bool y.k.c.fZ:: .bool y.k.c.fK:: .bool y.k.c.fAC:: .bool y.k.c.fP:: .bool y.k.c.fV:: .bool y.k.c.fCY:: .int .u16 y.k.c.SP:: .int .u16 y.k.c.PC:: .bool y.k.c.IE:: .bool y.k.c.De:: .bool y.k.c.Ha:: .int .u8 y.k.c.Ma:: .bool y.k.c.Tr:: .bool y.k.c.R7:: .bool y.k.c.WT:: .bool y.k.c.W7:: .bool y.k.c.Sa:: .bool y.k.c.SI:: .bool y.k.c.SO:: .int .i64 y.k.src:: .slice y.k.ga y.k.gn y.k.gc:: .int .i64 y.k.y.k:: .int .u16 y.k.y.a:: .int .u8 y.k.y.d:: .int .i64 y.k.y.s:: .int .i64 y.k.nx:: .bool y.k.ho:: .slice y.ma y.mn y.mc:: .int .i64 y.p.St:: .bool y.p.Le:: .bool y.p.Fo:: .bool y.p.Si:: .bool y.p.Ft:: .int .u8 y.p.Lw:: .int .u8 y.p.Hg:: .bool y.p.Au:: .bool y.p.Ro:: .bool y.p.Sp:: .bool y.p.RI:: .bool y.p.Po:: .int .u8 y.p.Li:: .int .u8 y.p.Ed:: .int .u8 y.p.IS:: .int .u8 y.p.IM:: .int .i64 y.p.Lo:: .int .i64 y.p.Sq:: .int .i64 y.p.Sv:: .bool y.p.Su:: .int .u16 y.da:: .int .u8 y.dv:: .int .i64 y.dl:: .int .i64 y.wt:: .slice y.oa y.on y.oc::[]))∧rowOf W (w.heap.size+1+1)=#[.bool lRe,.bool lHo,.bool false,.bool lSi,.bool lTr,.bool lR7,.bool lR6,.bool lR5,.bool lIn,.int .u8 vda,.int .u16 vca,.int .u8 vcv,.bool vmv]∧rowOf W (w.heap.size+1+1+1+1)=#[.int .i64 c1.Ch,.int .u8 c1.A,.int .u8 c1.B,.int .u8 c1.C,.int .u8 c1.D,.int .u8 c1.E,.int .u8 c1.H,.int .u8 c1.L,.bool c1.fS,.bool c1.fZ,.bool c1.fK,.bool c1.fAC,.bool c1.fP,.bool c1.fV,.bool c1.fCY,.int .u16 c1.SP,.int .u16 c1.PC,.bool c1.IE,.bool c1.De,.bool c1.Ha,.int .u8 c1.Ma,.bool c1.Tr,.bool c1.R7,.bool c1.WT,.bool c1.W7,.bool c1.Sa,.bool c1.SI,.bool c1.SO]∧W.cell? ⟨w.heap.size,28,none⟩=some (.int .i64 x.src)∧W.cell? ⟨w.heap.size,29,none⟩=some (.slice x.ga x.gn x.gc)∧W.cell? ⟨w.heap.size+1+1,9,none⟩=some (.int .u8 vda))∧rowOf W b13=#[.int .i64 cf.Ch,.int .u8 cf.A,.int .u8 cf.B,.int .u8 cf.C,.int .u8 cf.D,.int .u8 cf.E,.int .u8 cf.H,.int .u8 cf.L,.bool cf.fS,.bool cf.fZ,.bool cf.fK,.bool cf.fAC,.bool cf.fP,.bool cf.fV,.bool cf.fCY,.int .u16 cf.SP,.int .u16 cf.PC,.bool cf.IE,.bool cf.De,.bool cf.Ha,.int .u8 cf.Ma,.bool cf.Tr,.bool cf.R7,.bool cf.WT,.bool cf.W7,.bool cf.Sa,.bool cf.SI,.bool cf.SO]) (by kernel_rfl) (by (try dsimp only);exact (HF.out.adds aD).held) (fun hHeld=> ?_)
    refine tk 0 rfl ?_
    refine tk 1 rfl ?_
    refine tk 2 rfl ?_
    refine tk 4 rfl ?_
    refine tk 5 rfl ?_
    refine tk 6 rfl ?_
    refine tk 7 rfl ?_
    refine tk 8 rfl ?_
    refine tk 9 rfl ?_
    refine tk 12 rfl ?_
    refine tk 13 rfl ?_
    refine tk 14 rfl ?_
    refine tk 15 rfl ?_
    refine tk 17 rfl ?_
    refine tk 18 rfl ?_
    refine tk 20 rfl ?_
    refine wpAnyH_ready (rs:=[3]) (by kernel_rfl) (by simp) ?_
    refine AllReadyH.cons rfl (fun K hK=> ?_) AllReadyH.nil
    go_simp
    (go_at_call 76;refine (kind_any).mono ?_;rintro e w' ⟨ik,rfl,⟨⟨n1,os1⟩,rfl⟩⟩)
    refine hK.out _ _ (by (try dsimp only);exact (HF.out.adds aD).held) (fun hHeld=> ?_)
    clear hK K
    (try simp only [Act.put,List.setIfInBounds_toArray,List.set_cons_zero,List.set_cons_succ])
    refine wpAnyH_ready (rs:=[10]) (by kernel_rfl) (by simp) ?_
    refine AllReadyH.cons rfl (fun K hK=> ?_) AllReadyH.nil
    go_simp
    (go_at_call 77;refine (bytes_any x z hv (by have:=HG.out;omega) ((HX.out.tch HE.out.t HO.out).adds aD)).mono ?_;rintro e w' ⟨qa,qn,qc,rfl,⟨⟨n2,os2⟩,rfl⟩⟩)
    refine hK.out _ _ (by (try dsimp only);exact (HF.out.adds aD).held) (fun hHeld=> ?_)
    clear hK K
    (try simp only [Act.put,List.setIfInBounds_toArray,List.set_cons_zero,List.set_cons_succ])
    refine tk 11 rfl ?_
    refine wpAnyH_ready (rs:=[16]) (by kernel_rfl) (by simp) ?_
    refine AllReadyH.cons rfl (fun K hK=> ?_) AllReadyH.nil
    go_simp
    (go_at_call 78;refine (rlatch_ex).mono ?_;rintro e w' ⟨lt,lr,lp,lq,rfl,⟨⟨n4,os4⟩,rfl⟩⟩)
    refine hK.out _ _ (by (try dsimp only);exact (HF.out.adds aD).held) (fun hHeld=> ?_)
    clear hK K
    (try simp only [Act.put,List.setIfInBounds_toArray,List.set_cons_zero,List.set_cons_succ])
    refine wpAnyH_ready (rs:=[19]) (by kernel_rfl) (by simp) ?_
    refine AllReadyH.cons rfl (fun K hK=> ?_) AllReadyH.nil
    go_simp
    (go_at_call 74;refine (with_any).mono ?_;rintro e w' ⟨ev,rfl,⟨⟨n3,os3⟩,rfl⟩⟩)
    refine hK.out _ _ (by (try dsimp only);exact (HF.out.adds aD).held) (fun hHeld=> ?_)
    clear hK K
    (try simp only [Act.put,List.setIfInBounds_toArray,List.set_cons_zero,List.set_cons_succ])
    refine wpAnyH_ready (rs:=[21]) (by kernel_rfl) (by simp) ?_
    refine AllReadyH.cons rfl (fun K hK=> ?_) AllReadyH.nil
    go_simp
    (go_at_call 73;refine (add_any base rb r tl il vl ul ev _ _ _ _ _ _ _ _ _ _ _ _ _ _ _ _ _ _ _ _ _ _ _ _ _ _ _ _ _ (HE.out.run.adds aD) (by have:=HL.out;omega) (Nat.le_trans hbw (Adds.size aD))).mono ?_;rintro e w9 ⟨r1,vl1,ul1,rfl,hr9,hs9,l1,l2,ht9,ho9⟩;have HE1:=Lib.hid ((HE.out.adds (show Adds wc _ from aD)).tch ht9 hr9 ho9 hs9);have HG1:=Lib.hid ((HF.out.adds (show Adds wc _ from aD)).tch ht9 hr9 ho9 hs9);have L1:=Lib.hid (And.intro l1 l2);clear hr9 hs9 l1 l2 ht9 ho9)
    refine hK.out _ _ (by (try dsimp only);exact HG1.out.held) (fun hHeld=> ?_)
    clear hK K
    (try simp only [Act.put,List.setIfInBounds_toArray,List.set_cons_zero,List.set_cons_succ])
    refine wpAnyH_done (by kernel_rfl) ?_ _
    refine NoPanic.normal ?_
    clear hHeld
    go_wp2_with fail
    go_meet
    exact ⟨r1,vl1,ul1,L1,HE1⟩
  case rest=>
   clear r6 r7 r8 r10 c28 c29 c89 p6 p7 p8 p10 hbw HE HF c83
   obtain ⟨r1,vl1,ul1,L1,HE1⟩:=hcut
   obtain ⟨r6,r7,r8,r10,c28,c29,c89⟩:=HE1.out.held
   have r8:rowOf wc (w.heap.size+1+1)=#[.bool lRe,.bool lHo,.bool false,.bool lSi,.bool lTr,.bool lR7,.bool lR6,.bool lR5,.bool lIn,.int .u8 vda,.int .u16 vca,.int .u8 vcv,.bool vmv]:=r8
   have c89:wc.cell? ⟨w.heap.size+1+1,9,none⟩=some (.int .u8 vda):=c89
   have p6:=row_lt r6 (by simp)
   have p7:=row_lt r7 (by simp)
   have p8:=row_lt r8 (by simp)
   have p10:=row_lt r10 (by simp)
   have hbw:base≤wc.heap.size:=by omega
   have c83:=rowOf_cell (i:=12) (v:=.bool vmv) r8 rfl
   go_upto_if 96 with fail
   cases vmv
   ·go_wp2_with fail
    go_end0
    exact HE1.out.fin (by have:=L1.out;omega) (by have:=L1.out;omega)
   ·go_wp2_with (go_at_call 73;refine (add_lit base rb r1 tl il vl1 ul1 (HE1.out.run.adds aD) (by have:=HL.out;have:=L1.out;omega) (Nat.le_trans hbw (Adds.size aD))).mono ?_;rintro e w9 ⟨r2,vl2,ul2,rfl,hr9,hs9,l1,l2,ht9,ho9⟩;have HE2:=Lib.hid ((HE1.out.adds (show Adds wc _ from aD)).tch ht9 hr9 ho9 hs9);have L2:=Lib.hid (And.intro l1 l2);clear hr9 hs9 l1 l2 ht9 ho9)
    go_end0
    exact HE2.out.fin (by have:=L1.out;have:=L2.out;omega) (by have:=L1.out;have:=L2.out;omega)
theorem events_any (base rb:Nat) (r:S.Rn) (vl:List S.Ev) (ul:List S.Cp) (x:S.Co) (z:List Int) (y:S.Sy) (mo:S.Mo) (c:S.Cp) (h:RnOk base rb r tl il vl ul w) (hx:CoOk x z w) (ho:Off (RnO rb r) x.ga x.gn) (hg:x.gn≤999999) (hv:0≤mo.da∧mo.da < 256) (hl:vl.length≤900000∧ul.length≤900000) (hb:base≤w.heap.size):Calls Tryz.prog 38 #[.pointer (some ⟨rb,0,none⟩),.agg (List.toArray (.int .i64 x.c.Ch:: .int .u8 x.c.A:: .int .u8 x.c.B:: .int .u8 x.c.C:: .int .u8 x.c.D:: .int .u8 x.c.E:: .int .u8 x.c.H:: .int .u8 x.c.L:: .bool x.c.fS:: .bool x.c.fZ:: .bool x.c.fK:: .bool x.c.fAC:: .bool x.c.fP:: .bool x.c.fV:: .bool x.c.fCY:: .int .u16 x.c.SP:: .int .u16 x.c.PC:: .bool x.c.IE:: .bool x.c.De:: .bool x.c.Ha:: .int .u8 x.c.Ma:: .bool x.c.Tr:: .bool x.c.R7:: .bool x.c.WT:: .bool x.c.W7:: .bool x.c.Sa:: .bool x.c.SI:: .bool x.c.SO:: .int .i64 x.src:: .slice x.ga x.gn x.gc:: .int .i64 x.y.k:: .int .u16 x.y.a:: .int .u8 x.y.d:: .int .i64 x.y.s:: .int .i64 x.nx:: .bool x.ho::[])),.agg (List.toArray (.int .i64 y.k.c.Ch:: .int .u8 y.k.c.A:: .int .u8 y.k.c.B:: .int .u8 y.k.c.C:: .int .u8 y.k.c.D:: .int .u8 y.k.c.E:: .int .u8 y.k.c.H:: .int .u8 y.k.c.L:: .bool y.k.c.fS:: .bool y.k.c.fZ:: .bool y.k.c.fK:: .bool y.k.c.fAC:: .bool y.k.c.fP:: .bool y.k.c.fV:: .bool y.k.c.fCY:: .int .u16 y.k.c.SP:: .int .u16 y.k.c.PC:: .bool y.k.c.IE:: .bool y.k.c.De:: .bool y.k.c.Ha:: .int .u8 y.k.c.Ma:: .bool y.k.c.Tr:: .bool y.k.c.R7:: .bool y.k.c.WT:: .bool y.k.c.W7:: .bool y.k.c.Sa:: .bool y.k.c.SI:: .bool y.k.c.SO:: .int .i64 y.k.src:: .slice y.k.ga y.k.gn y.k.gc:: .int .i64 y.k.y.k:: .int .u16 y.k.y.a:: .int .u8 y.k.y.d:: .int .i64 y.k.y.s:: .int .i64 y.k.nx:: .bool y.k.ho:: .slice y.ma y.mn y.mc:: .int .i64 y.p.St:: .bool y.p.Le:: .bool y.p.Fo:: .bool y.p.Si:: .bool y.p.Ft:: .int .u8 y.p.Lw:: .int .u8 y.p.Hg:: .bool y.p.Au:: .bool y.p.Ro:: .bool y.p.Sp:: .bool y.p.RI:: .bool y.p.Po:: .int .u8 y.p.Li:: .int .u8 y.p.Ed:: .int .u8 y.p.IS:: .int .u8 y.p.IM:: .int .i64 y.p.Lo:: .int .i64 y.p.Sq:: .int .i64 y.p.Sv:: .bool y.p.Su:: .int .u16 y.da:: .int .u8 y.dv:: .int .i64 y.dl:: .int .i64 y.wt:: .slice y.oa y.on y.oc::[])),.agg #[.bool mo.Re,.bool mo.Ho,.bool mo.Rs,.bool mo.Si,.bool mo.Tr,.bool mo.R7,.bool mo.R6,.bool mo.R5,.bool mo.In,.int .u8 mo.da,.int .u16 mo.ca,.int .u8 mo.cv,.bool mo.mv],.agg #[.int .i64 c.Ch,.int .u8 c.A,.int .u8 c.B,.int .u8 c.C,.int .u8 c.D,.int .u8 c.E,.int .u8 c.H,.int .u8 c.L,.bool c.fS,.bool c.fZ,.bool c.fK,.bool c.fAC,.bool c.fP,.bool c.fV,.bool c.fCY,.int .u16 c.SP,.int .u16 c.PC,.bool c.IE,.bool c.De,.bool c.Ha,.int .u8 c.Ma,.bool c.Tr,.bool c.R7,.bool c.WT,.bool c.W7,.bool c.Sa,.bool c.SI,.bool c.SO]] w (AddPost 2 base rb r tl il vl ul w):=by
 obtain ⟨l1,l2,l3,l4,l5,l6,l7,l8,l9,d,a,v,m⟩:=mo
 cases l3
 ·exact events_run base rb r tl il vl ul x z y l1 l2 l4 l5 l6 l7 l8 l9 d a v m c w h hx ho hg hv hl hb
 ·exact events_rst base rb r tl il vl ul x z y l1 l2 l4 l5 l6 l7 l8 l9 d a v m c w h hx ho hg hv hl hb
end
end Go.Proofs.YteggjjhjmhccjaaGreatDoor
