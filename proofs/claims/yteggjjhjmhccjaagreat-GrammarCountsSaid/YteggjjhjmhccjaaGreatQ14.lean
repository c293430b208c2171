/- Texts that the proofs of GrammarTraces and GrammarCounts rest on, joined. Conditions stand in each theorem. -/
import Derived.Test.YteggjjhjmhccjaaGreatQ03
import Derived.Test.YteggjjhjmhccjaaGreatQ00
import Derived.Deep.CutRange
set_option linter.unusedVariables false
set_option linter.unusedSimpArgs false
set_option maxRecDepth 100000
set_option maxHeartbeats 8000000
namespace Go.Proofs.YteggjjhjmhccjaaGreat
open Go.ChangeShapes Go.WideShapes Go.ChangeAt Go.RowKit
section
variable {N b cap len:Nat} {a:Option Addr} {w w':World}
theorem Up.grownJ (u:Up w b N w'):w.grownBy w' (some b):=by
 have g1:w.grownBy (w.setCell ⟨b,1,none⟩ (.int .i64 (N:Int))) (some b):=⟨rfl,rfl,rfl,by simp,fun k _ hk=>heap_setCell_other w ⟨b,1,none⟩ k _ (fun e=>hk (by simp [e]))⟩
 exact g1.trans (Adds.grownBy u (some b))
theorem Nb.grownJ {row:Option Nat} (h:Nb w b a len cap N) (hg:w.grownBy w' row) (hne:∀g,row=some g→b < g):Nb w' b a len cap N:=
 h.of_heap fun k hk=>hg.block k (by have:=h.lt;omega) (fun e=>by have:=hne k e.symm;omega)
theorem box_addsJ {w1:World} {o:Obj} (h:(w.alloc o).grownBy w1 (some w.heap.size)):Adds w w1:=
 Adds.of_below ⟨h.os,h.tape,h.output,by have:=h.size;simp at this;omega,fun k hk=>by
  rw [h.block k (by simp;omega) (by simp;omega)];exact heap_past w o hk⟩
theorem Nb.setRowJ {r:Nat} (h:Nb w b a len cap N) (hr:b < r) (cs:Array Value):Nb (w.setRow r cs) b a len cap N:=h.grownJ (grown_setRow w r cs) (fun g e=>by injection e with e;omega)
theorem grown_setCellJ (w:World) (r i:Nat) {v:Value}:w.grownBy (w.setCell ⟨r,i,none⟩ v) (some r):=⟨rfl,rfl,rfl,by simp,fun k _ hk=>heap_setCell_other w ⟨r,i,none⟩ k _ (fun e=>hk (by simp [e]))⟩
def MadePost (w:World) (e:Ending) (w':World):Prop:=∃r d,e=.returned r∧OwnsT w' w.heap.size r d∧d.length≤11∧Adds w w'
theorem uncons {α:Type} {n:Nat}:∀{l:List α},l.length=n+1→∃x t,l=x::t∧t.length=n
 |x::t,h=>⟨x,t,rfl,by simpa using h⟩
theorem len65 (l:List Value) (h:l.length=65):∃x0 x1 x2 x3 x4 x5 x6 x7 x8 x9 x10 x11 x12 x13 x14 x15 x16 x17 x18 x19 x20 x21 x22 x23 x24 x25 x26 x27 x28 x29 x30 x31 x32 x33 x34 x35 x36 x37 x38 x39 x40 x41 x42 x43 x44 x45 x46 x47 x48 x49 x50 x51 x52 x53 x54 x55 x56 x57 x58 x59 x60 x61 x62 x63 x64:Value,l=[x0,x1,x2,x3,x4,x5,x6,x7,x8,x9,x10,x11,x12,x13,x14,x15,x16,x17,x18,x19,x20,x21,x22,x23,x24,x25,x26,x27,x28,x29,x30,x31,x32,x33,x34,x35,x36,x37,x38,x39,x40,x41,x42,x43,x44,x45,x46,x47,x48,x49,x50,x51,x52,x53,x54,x55,x56,x57,x58,x59,x60,x61,x62,x63,x64]:=by
 obtain ⟨x0,l0,rfl,h0⟩:=uncons h
 obtain ⟨x1,l1,rfl,h1⟩:=uncons h0
 obtain ⟨x2,l2,rfl,h2⟩:=uncons h1
 obtain ⟨x3,l3,rfl,h3⟩:=uncons h2
 obtain ⟨x4,l4,rfl,h4⟩:=uncons h3
 obtain ⟨x5,l5,rfl,h5⟩:=uncons h4
 obtain ⟨x6,l6,rfl,h6⟩:=uncons h5
 obtain ⟨x7,l7,rfl,h7⟩:=uncons h6
 obtain ⟨x8,l8,rfl,h8⟩:=uncons h7
 obtain ⟨x9,l9,rfl,h9⟩:=uncons h8
 obtain ⟨x10,l10,rfl,h10⟩:=uncons h9
 obtain ⟨x11,l11,rfl,h11⟩:=uncons h10
 obtain ⟨x12,l12,rfl,h12⟩:=uncons h11
 obtain ⟨x13,l13,rfl,h13⟩:=uncons h12
 obtain ⟨x14,l14,rfl,h14⟩:=uncons h13
 obtain ⟨x15,l15,rfl,h15⟩:=uncons h14
 obtain ⟨x16,l16,rfl,h16⟩:=uncons h15
 obtain ⟨x17,l17,rfl,h17⟩:=uncons h16
 obtain ⟨x18,l18,rfl,h18⟩:=uncons h17
 obtain ⟨x19,l19,rfl,h19⟩:=uncons h18
 obtain ⟨x20,l20,rfl,h20⟩:=uncons h19
 obtain ⟨x21,l21,rfl,h21⟩:=uncons h20
 obtain ⟨x22,l22,rfl,h22⟩:=uncons h21
 obtain ⟨x23,l23,rfl,h23⟩:=uncons h22
 obtain ⟨x24,l24,rfl,h24⟩:=uncons h23
 obtain ⟨x25,l25,rfl,h25⟩:=uncons h24
 obtain ⟨x26,l26,rfl,h26⟩:=uncons h25
 obtain ⟨x27,l27,rfl,h27⟩:=uncons h26
 obtain ⟨x28,l28,rfl,h28⟩:=uncons h27
 obtain ⟨x29,l29,rfl,h29⟩:=uncons h28
 obtain ⟨x30,l30,rfl,h30⟩:=uncons h29
 obtain ⟨x31,l31,rfl,h31⟩:=uncons h30
 obtain ⟨x32,l32,rfl,h32⟩:=uncons h31
 obtain ⟨x33,l33,rfl,h33⟩:=uncons h32
 obtain ⟨x34,l34,rfl,h34⟩:=uncons h33
 obtain ⟨x35,l35,rfl,h35⟩:=uncons h34
 obtain ⟨x36,l36,rfl,h36⟩:=uncons h35
 obtain ⟨x37,l37,rfl,h37⟩:=uncons h36
 obtain ⟨x38,l38,rfl,h38⟩:=uncons h37
 obtain ⟨x39,l39,rfl,h39⟩:=uncons h38
 obtain ⟨x40,l40,rfl,h40⟩:=uncons h39
 obtain ⟨x41,l41,rfl,h41⟩:=uncons h40
 obtain ⟨x42,l42,rfl,h42⟩:=uncons h41
 obtain ⟨x43,l43,rfl,h43⟩:=uncons h42
 obtain ⟨x44,l44,rfl,h44⟩:=uncons h43
 obtain ⟨x45,l45,rfl,h45⟩:=uncons h44
 obtain ⟨x46,l46,rfl,h46⟩:=uncons h45
 obtain ⟨x47,l47,rfl,h47⟩:=uncons h46
 obtain ⟨x48,l48,rfl,h48⟩:=uncons h47
 obtain ⟨x49,l49,rfl,h49⟩:=uncons h48
 obtain ⟨x50,l50,rfl,h50⟩:=uncons h49
 obtain ⟨x51,l51,rfl,h51⟩:=uncons h50
 obtain ⟨x52,l52,rfl,h52⟩:=uncons h51
 obtain ⟨x53,l53,rfl,h53⟩:=uncons h52
 obtain ⟨x54,l54,rfl,h54⟩:=uncons h53
 obtain ⟨x55,l55,rfl,h55⟩:=uncons h54
 obtain ⟨x56,l56,rfl,h56⟩:=uncons h55
 obtain ⟨x57,l57,rfl,h57⟩:=uncons h56
 obtain ⟨x58,l58,rfl,h58⟩:=uncons h57
 obtain ⟨x59,l59,rfl,h59⟩:=uncons h58
 obtain ⟨x60,l60,rfl,h60⟩:=uncons h59
 obtain ⟨x61,l61,rfl,h61⟩:=uncons h60
 obtain ⟨x62,l62,rfl,h62⟩:=uncons h61
 obtain ⟨x63,l63,rfl,h63⟩:=uncons h62
 obtain ⟨x64,l64,rfl,h64⟩:=uncons h63
 obtain rfl:=List.length_eq_zero_iff.1 h64
 exact ⟨_,_,_,_,_,_,_,_,_,_,_,_,_,_,_,_,_,_,_,_,_,_,_,_,_,_,_,_,_,_,_,_,_,_,_,_,_,_,_,_,_,_,_,_,_,_,_,_,_,_,_,_,_,_,_,_,_,_,_,_,_,_,_,_,_,rfl⟩
theorem frame65 (a:Act) {y:Array Value} (hd:a.defers=[]) (hz:a.tmps.size=65) (hy:y.size=65) (ho:∀j,j≠6→(j < 15∨33≤j)→a.tmps.getD j undef=y.getD j undef):
 a={tmps:=#[y.getD 0 undef,y.getD 1 undef,y.getD 2 undef,y.getD 3 undef,y.getD 4 undef,y.getD 5 undef,a.tmps.getD 6 undef,y.getD 7 undef,y.getD 8 undef,y.getD 9 undef,y.getD 10 undef,y.getD 11 undef,y.getD 12 undef,y.getD 13 undef,y.getD 14 undef,a.tmps.getD 15 undef,a.tmps.getD 16 undef,a.tmps.getD 17 undef,a.tmps.getD 18 undef,a.tmps.getD 19 undef,a.tmps.getD 20 undef,a.tmps.getD 21 undef,a.tmps.getD 22 undef,a.tmps.getD 23 undef,a.tmps.getD 24 undef,a.tmps.getD 25 undef,a.tmps.getD 26 undef,a.tmps.getD 27 undef,a.tmps.getD 28 undef,a.tmps.getD 29 undef,a.tmps.getD 30 undef,a.tmps.getD 31 undef,a.tmps.getD 32 undef,y.getD 33 undef,y.getD 34 undef,y.getD 35 undef,y.getD 36 undef,y.getD 37 undef,y.getD 38 undef,y.getD 39 undef,y.getD 40 undef,y.getD 41 undef,y.getD 42 undef,y.getD 43 undef,y.getD 44 undef,y.getD 45 undef,y.getD 46 undef,y.getD 47 undef,y.getD 48 undef,y.getD 49 undef,y.getD 50 undef,y.getD 51 undef,y.getD 52 undef,y.getD 53 undef,y.getD 54 undef,y.getD 55 undef,y.getD 56 undef,y.getD 57 undef,y.getD 58 undef,y.getD 59 undef,y.getD 60 undef,y.getD 61 undef,y.getD 62 undef,y.getD 63 undef,y.getD 64 undef],defers:=[]}:=by
 obtain ⟨⟨l⟩,df⟩:=a
 obtain ⟨m⟩:=y
 obtain ⟨x0,x1,x2,x3,x4,x5,x6,x7,x8,x9,x10,x11,x12,x13,x14,x15,x16,x17,x18,x19,x20,x21,x22,x23,x24,x25,x26,x27,x28,x29,x30,x31,x32,x33,x34,x35,x36,x37,x38,x39,x40,x41,x42,x43,x44,x45,x46,x47,x48,x49,x50,x51,x52,x53,x54,x55,x56,x57,x58,x59,x60,x61,x62,x63,x64,rfl⟩:=len65 l hz
 obtain ⟨y0,y1,y2,y3,y4,y5,y6,y7,y8,y9,y10,y11,y12,y13,y14,y15,y16,y17,y18,y19,y20,y21,y22,y23,y24,y25,y26,y27,y28,y29,y30,y31,y32,y33,y34,y35,y36,y37,y38,y39,y40,y41,y42,y43,y44,y45,y46,y47,y48,y49,y50,y51,y52,y53,y54,y55,y56,y57,y58,y59,y60,y61,y62,y63,y64,rfl⟩:=len65 m hy
 simp only at hd
 subst hd
 have e0:x0=y0:=ho 0 (by decide) (by decide)
 have e1:x1=y1:=ho 1 (by decide) (by decide)
 have e2:x2=y2:=ho 2 (by decide) (by decide)
 have e3:x3=y3:=ho 3 (by decide) (by decide)
 have e4:x4=y4:=ho 4 (by decide) (by decide)
 have e5:x5=y5:=ho 5 (by decide) (by decide)
 have e7:x7=y7:=ho 7 (by decide) (by decide)
 have e8:x8=y8:=ho 8 (by decide) (by decide)
 have e9:x9=y9:=ho 9 (by decide) (by decide)
 have e10:x10=y10:=ho 10 (by decide) (by decide)
 have e11:x11=y11:=ho 11 (by decide) (by decide)
 have e12:x12=y12:=ho 12 (by decide) (by decide)
 have e13:x13=y13:=ho 13 (by decide) (by decide)
 have e14:x14=y14:=ho 14 (by decide) (by decide)
 have e33:x33=y33:=ho 33 (by decide) (by decide)
 have e34:x34=y34:=ho 34 (by decide) (by decide)
 have e35:x35=y35:=ho 35 (by decide) (by decide)
 have e36:x36=y36:=ho 36 (by decide) (by decide)
 have e37:x37=y37:=ho 37 (by decide) (by decide)
 have e38:x38=y38:=ho 38 (by decide) (by decide)
 have e39:x39=y39:=ho 39 (by decide) (by decide)
 have e40:x40=y40:=ho 40 (by decide) (by decide)
 have e41:x41=y41:=ho 41 (by decide) (by decide)
 have e42:x42=y42:=ho 42 (by decide) (by decide)
 have e43:x43=y43:=ho 43 (by decide) (by decide)
 have e44:x44=y44:=ho 44 (by decide) (by decide)
 have e45:x45=y45:=ho 45 (by decide) (by decide)
 have e46:x46=y46:=ho 46 (by decide) (by decide)
 have e47:x47=y47:=ho 47 (by decide) (by decide)
 have e48:x48=y48:=ho 48 (by decide) (by decide)
 have e49:x49=y49:=ho 49 (by decide) (by decide)
 have e50:x50=y50:=ho 50 (by decide) (by decide)
 have e51:x51=y51:=ho 51 (by decide) (by decide)
 have e52:x52=y52:=ho 52 (by decide) (by decide)
 have e53:x53=y53:=ho 53 (by decide) (by decide)
 have e54:x54=y54:=ho 54 (by decide) (by decide)
 have e55:x55=y55:=ho 55 (by decide) (by decide)
 have e56:x56=y56:=ho 56 (by decide) (by decide)
 have e57:x57=y57:=ho 57 (by decide) (by decide)
 have e58:x58=y58:=ho 58 (by decide) (by decide)
 have e59:x59=y59:=ho 59 (by decide) (by decide)
 have e60:x60=y60:=ho 60 (by decide) (by decide)
 have e61:x61=y61:=ho 61 (by decide) (by decide)
 have e62:x62=y62:=ho 62 (by decide) (by decide)
 have e63:x63=y63:=ho 63 (by decide) (by decide)
 have e64:x64=y64:=ho 64 (by decide) (by decide)
 subst e0 e1 e2 e3 e4 e5 e7 e8 e9 e10 e11 e12 e13 e14 e33 e34 e35 e36 e37 e38 e39 e40 e41 e42 e43 e44 e45 e46 e47 e48 e49 e50 e51 e52 e53 e54 e55 e56 e57 e58 e59 e60 e61 e62 e63 e64
 rfl
theorem made_any (a:Option Addr) (len cap:Nat) (zs:List Int) (h:IsRow .i64 w a len cap zs) (hl:len≤1000):Calls Tryz.prog 7 #[.slice a len cap] w (MadePost w):=by
 have H0:=Lib.hid (Nb.from rfl h hl)
 clear h
 go_enter Tryz.func7,Tryz.ntmps7
 go_wp2_with (first
  |(go_at_call 14;(with_reducible refine (from_any a len cap w).mono ?_);rintro e w' ⟨rfl,rfl⟩)
  |(go_at_call 18;(with_reducible refine (nx_any w.heap.size len cap 0 a 12 (by omega) (by omega) (by omega) _ H0.out).mono ?_);rintro e w1 ⟨y,M1,hy0,hy1,hM1,rfl,hU1⟩))
 obtain ⟨z0,rfl⟩:∃k:Nat,y=(k:Int):=⟨y.toNat,by omega⟩
 have HB1:=Lib.hid (H0.out.up hU1)
 have HG1:=Lib.hid hU1.grownJ
 clear hU1 hy0
 go_loopw [4,5] (fun v i wr=>∃(z M nn:Nat) (d:List S.It) (ad:Option Addr) (cc:Nat),v=.slice ad nn cc∧i=.int .i64 (z:Int)∧z≤11∧Hid (d.length+z≤11)∧M≤1+60 * (11 - z)∧Hid (OwnsT wr (w.heap.size+1) (.slice ad nn cc) d)∧Hid (Nb wr w.heap.size a len cap M)∧Hid ((w.alloc (.cells #[.slice a len cap,.int .i64 0] 86)).grownBy wr (some w.heap.size))) (fun _ i _=>(intOf i).toNat)
 case atStart=>exact ⟨z0,M1,0,[],none,0,rfl,rfl,by omega,(by show _≤_;simp;omega),by omega,OwnsG.nil _ _,HB1.out,HG1.out⟩
 case round=>
  obtain ⟨z,M,nn,d,ad,cc,rfl,rfl,hz,HD,hM,HO,HB,HG⟩:=hrel
  rename World=>w3
  by_cases h0:z=0
  ·subst h0
   go_wp2_with fail
   go_ret
   exact ⟨_,d,rfl,HO.out.mono (by omega),by have:=HD.out;omega,box_addsJ HG.out⟩
  ·obtain ⟨z,rfl⟩:∃k,z=k+1:=⟨z - 1,by omega⟩
   have q1:(0:Int) < ((z+1:Nat):Int):=by omega
   have hbw:w.heap.size < w3.heap.size:=HB.out.lt
   go_wp2_with fail
   go_cut [6] from 15 to 32 (fun v wx=>∃(p:S.It) (M4 r:Nat),v=.pointer (some ⟨r,0,none⟩)∧M4≤M+40∧(r≠w.heap.size∧w3.heap.size≤r)∧Hid (Nb wx w.heap.size a len cap M4)∧Hid (w3.grownBy wx (some w.heap.size))∧Hid (wx.heap[r]? =some (.cells #[.int .i64 p.k,.int .i64 p.c,.int .u16 p.a,.int .u8 p.d,.int .i64 p.s,.int .i64 p.w,.int .i64 p.n,.bool p.e,.bool p.o] 65 (0,0))))
   case first=>
    rename_i J K' hJJ hMet
    refine region_as (ops':=mdOps) (by kernel_rfl) ?_
    refine jp_region (b:=w.heap.size) (N:=M) (len:=len) (cap:=cap) (aa:=a) HB.out.drew (by omega) rfl rfl (fun a' w' p M4 r hd hsz ho h6 hM4 hU hrb hrz hrh=> ?_)
    refine hMet _ _ (Met.intro (hJJ _ _ ⟨_,_,_,_,_,_,_,_,_,_,_,_,_,_,_,_,_,_,_,⟨p,M4,r,h6,hM4,⟨hrb,hrz⟩,HB.out.up hU,hU.grownJ,hrh⟩,frame65 a' hd hsz rfl ho⟩))
   case rest=>
    obtain ⟨p,M4,r,rfl,hM4,⟨hrb,hrz⟩,HB4,HG4,HR4⟩:=hcut
    have hrw:r < wc.heap.size:=(Array.getElem?_eq_some_iff.1 HR4.out).1
    have hR4:rowOf wc r=#[.int .i64 p.k,.int .i64 p.c,.int .u16 p.a,.int .u8 p.d,.int .i64 p.s,.int .i64 p.w,.int .i64 p.n,.bool p.e,.bool p.o]:=by unfold rowOf;rw [HR4.out];rfl
    have hbr:w.heap.size < r:=by omega
    go_upto_region 7 with fail
    go_cut [] from 33 to 42 (fun wx=>∃(p:S.It) (M5:Nat),M5≤M+46∧Hid (Nb wx w.heap.size a len cap M5)∧Hid (w3.grownBy wx (some w.heap.size))∧Hid (wx.heap[r]? =some (.cells #[.int .i64 p.k,.int .i64 p.c,.int .u16 p.a,.int .u8 p.d,.int .i64 p.s,.int .i64 p.w,.int .i64 p.n,.bool p.e,.bool p.o] 65 (0,0))))
    case first=>
     go_wp2_with (first
      |(go_at_call 18;(with_reducible refine (nx_any w.heap.size len cap M4 a 14 (by omega) (by omega) (by omega) wc HB4.out).mono ?_);rintro e w5 ⟨y5,M5,hy50,hy51,hM5,rfl,hU5⟩;have HB5:=Lib.hid (HB4.out.up hU5);have HG5:=Lib.hid (HG4.out.trans hU5.grownJ);have HR5:=Lib.hid ((hU5.keepsJ r hrb hrw).trans HR4.out);have hrw5:=Nat.lt_of_lt_of_le hrw hU5.size;clear hU5 hR4)
      |(go_at_call 20;(with_reducible refine (wrd_any w.heap.size len cap M5 a (by omega) w5 HB5.out).mono ?_);rintro e w6 ⟨y6,M6,hy60,hy61,hM6,rfl,hU6⟩;have HB6:=Lib.hid (HB5.out.up hU6);have HG6:=Lib.hid (HG5.out.trans hU6.grownJ);have HR6:=Lib.hid ((hU6.keepsJ r hrb hrw5).trans HR5.out);have hrw6:=Nat.lt_of_lt_of_le hrw5 hU6.size;clear hU6)
      |(go_at_call 21;(with_reducible refine (byt_any w.heap.size len cap M6 a (by omega) w6 HB6.out).mono ?_);rintro e w7 ⟨y7,M7,hy70,hy71,hM7,rfl,hU7⟩;have HB7:=Lib.hid (HB6.out.up hU7);have HG7:=Lib.hid (HG6.out.trans hU7.grownJ);have HR7:=Lib.hid ((hU7.keepsJ r hrb hrw6).trans HR6.out);have hrw7:=Nat.lt_of_lt_of_le hrw6 hU7.size;clear hU7)
      |(go_at_call 18;(with_reducible refine (nx_any w.heap.size len cap M7 a 8 (by omega) (by omega) (by omega) w7 HB7.out).mono ?_);rintro e w8 ⟨y8,M8,hy80,hy81,hM8,rfl,hU8⟩;have HB8:=Lib.hid (HB7.out.up hU8);have HG8:=Lib.hid (HG7.out.trans hU8.grownJ);have HR8:=Lib.hid ((hU8.keepsJ r hrb hrw7).trans HR7.out);have hR8:rowOf w8 r=#[.int .i64 p.k,.int .i64 p.c,.int .u16 p.a,.int .u8 p.d,.int .i64 p.s,.int .i64 p.w,.int .i64 p.n,.bool p.e,.bool p.o]:=(by unfold rowOf;rw [HR8.out];rfl);clear hU8))
     go_meet
     case rel=>exact ⟨⟨p.k,y5,y6,y7,y8,p.w,p.n,p.e,p.o⟩,M8,by omega,HB8.out.setRowJ hbr _,grown_trans2 HG8.out (grown_setRow w8 r _) (fun g e=>by injection e with e;omega),setRow_heap w8 r _ _ _ (0,0) HR8.out⟩
    case rest=>
     clear hR4 HR4 HG4 HB4
     obtain ⟨⟨pk,pc,pa,pd,ps,pw,pn,pe,po⟩,M5,hM5,HB5,HG5,HR5⟩:=hcut
     simp only [] at HR5
     have hc0:wc.cell? ⟨r,0,none⟩=some (.int .i64 pk):=by rw [cell_of_row wc r 0 _ _ (0,0) HR5.out];rfl
     have hkk:pk=1∨(pk==1)=false:=by by_cases h:pk=1<;>simp [h]
     rcases hkk with rfl|hk1
     all_goals
      go_upto_if 50 with (go_at_call 18;(with_reducible refine (nx_any w.heap.size len cap M5 a 3 (by omega) (by omega) (by omega) wc HB5.out).mono ?_);rintro e w6 ⟨y6,M6,hy60,hy61,hM6,rfl,hU6⟩;have HB6:=Lib.hid (HB5.out.up hU6);have HG6:=Lib.hid (HG5.out.trans hU6.grownJ);have hrw5:r < wc.heap.size:=(Array.getElem?_eq_some_iff.1 HR5.out).1;have HR6:=Lib.hid ((hU6.keepsJ r hrb hrw5).trans HR5.out);have hrw6:=Nat.lt_of_lt_of_le hrw5 hU6.size;have hc6:=(World.cell?_of_block (a:=⟨r,0,none⟩) (hU6.keepsJ r hrb hrw5)).trans hc0;clear hU6 hc0)
      all_goals
       go_cut [] from 51 to 59 (fun wx=>∃(p:S.It) (M7:Nat),M7≤M+48∧Hid (Nb wx w.heap.size a len cap M7)∧Hid (w3.grownBy wx (some w.heap.size))∧Hid (wx.heap[r]? =some (.cells #[.int .i64 p.k,.int .i64 p.c,.int .u16 p.a,.int .u8 p.d,.int .i64 p.s,.int .i64 p.w,.int .i64 p.n,.bool p.e,.bool p.o] 65 (0,0))))
       case first=>
        go_wp2_with (go_at_call 18;(with_reducible refine (nx_any w.heap.size len cap M6 a 4 (by omega) (by omega) (by omega) w6 HB6.out).mono ?_);rintro e w7 ⟨y7,M7,hy70,hy71,hM7,rfl,hU7⟩;have HB7:=Lib.hid (HB6.out.up hU7);have HG7:=Lib.hid (HG6.out.trans hU7.grownJ);have HR7:=Lib.hid ((hU7.keepsJ r hrb hrw6).trans HR6.out);have hrw7:=Nat.lt_of_lt_of_le hrw6 hU7.size;have d4:w7.cell? ⟨r,4,none⟩=some (.int .i64 ps):=(by rw [cell_of_row w7 r 4 _ _ (0,0) HR7.out];rfl);have d6:w7.cell? ⟨r,6,none⟩=some (.int .i64 pn):=(by rw [cell_of_row w7 r 6 _ _ (0,0) HR7.out];rfl);have f4:w7.frozen? ⟨r,4,none⟩=false:=frozen_of_row w7 r 4 _ _ HR7.out;have f6:w7.frozen? ⟨r,6,none⟩=false:=frozen_of_row w7 r 6 _ _ HR7.out;clear hU7)
        all_goals go_meet
        all_goals first
         |exact ⟨⟨_,pc,pa,pd,ps,pw,pn,pe,po⟩,M6,by omega,HB6.out,HG6.out,HR6.out⟩
         |exact ⟨⟨_,pc,pa,pd,_,pw,_,pe,po⟩,M7,by omega,(HB7.out.grownJ (grown_setCellJ w7 r 4) (fun g e=>by injection e with e;omega)).grownJ (grown_setCellJ _ r 6) (fun g e=>by injection e with e;omega),grown_trans2 (grown_trans2 HG7.out (grown_setCellJ w7 r 4) (fun g e=>by injection e with e;omega)) (grown_setCellJ _ r 6) (fun g e=>by injection e with e;omega),heap_setCell_same _ r 6 _ _ _ (heap_setCell_same w7 r 4 _ _ _ HR7.out)⟩
       case rest=>
        clear hc6 HR6 HB6 HG6 HR5 HB5 HG5
        obtain ⟨p,M8,hM8,HB8,HG8,HR8⟩:=hcut
        have hrw8:r < wc.heap.size:=(Array.getElem?_eq_some_iff.1 HR8.out).1
        have hR8:rowOf wc r=#[.int .i64 p.k,.int .i64 p.c,.int .u16 p.a,.int .u8 p.d,.int .i64 p.s,.int .i64 p.w,.int .i64 p.n,.bool p.e,.bool p.o]:=by unfold rowOf;rw [HR8.out];rfl
        have hsz8:=HG8.out.size
        have HO8:=Lib.hid (show OwnsT wc (w.heap.size+1) (.slice ad nn cc) d from HO.out.kept HG8.out (fun g e=>by injection e with e;omega))
        have HLO:=Lib.hid (show ∀g,(Value.slice ad nn cc).ownBlock=some g→w.heap.size+1≤g from fun g e=>(World.ownsRow.lt HO.out g e).1)
        go_wp2_with (at_builtin;refine wpList_appT1 rfl _ _ rfl (w.heap.size+1) (.slice ad nn cc) _ rfl p _ _ wc.heap.size rfl rfl rfl HO8.out (by have:=HD.out;omega) (by omega) ?_;intro v9 w9 hO9 hG9;obtain ⟨ad9,n9,c9,rfl, -, -, -, -, -⟩:=hO9.form2;have HO9:=Lib.hid hO9;have HG9:=Lib.hid hG9;clear hO9 hG9)
        go_roundw
        case rel=>exact ⟨z,M8,n9,d++[p],ad9,c9,rfl,by go_num,by omega,(by show _≤_;have:=HD.out;simp;omega),by omega,HO9.out,HB8.out.grownJ HG9.out (fun g e=>by have:=HLO.out g e;omega),grown_trans2 (HG.out.trans HG8.out) HG9.out (fun g e=> .inr (by have:=HLO.out g e;simp;omega))⟩
        case measure=>simp [intOf]
end
end Go.Proofs.YteggjjhjmhccjaaGreat
