/- Texts that the proofs of GrammarTraces and GrammarCounts rest on, joined. Conditions stand in each theorem. -/
import Derived.Test.YteggjjhjmhccjaaGreatQ02
import Derived.Test.YteggjjhjmhccjaaGreatQ00
import Derived.Deep.RegionWith
import Derived.Test.YteggjjhjmhccjaaGreatQ01
import Derived.OrdersHeld
import Derived.RegionTactic
import Derived.Deep.RegionHeld
import Derived.Deep.RegionHeld3
set_option linter.unusedVariables false
set_option linter.unusedSimpArgs false
set_option maxRecDepth 100000
set_option maxHeartbeats 8000000
namespace Go.Proofs.YteggjjhjmhccjaaGreat
open Go.ChangeShapes Go.WideShapes Go.ChangeAt Go.RowKit
namespace K22
theorem rwrite_any (p:S.Pc) {hi:Bool} {v:Int} (v0:0≤v) (v1:v < 256) (h0:0≤p.IS) (h1:p.IS < 256) {w:World}:Calls Tryz.prog 102 #[.agg #[.int .i64 p.St,.bool p.Le,.bool p.Fo,.bool p.Si,.bool p.Ft,.int .u8 p.Lw,.int .u8 p.Hg,.bool p.Au,.bool p.Ro,.bool p.Sp,.bool p.RI,.bool p.Po,.int .u8 p.Li,.int .u8 p.Ed,.int .u8 p.IS,.int .u8 p.IM,.int .i64 p.Lo,.int .i64 p.Sq,.int .i64 p.Sv,.bool p.Su],.bool hi,.int .u8 v] w fun e w'=>e=.returned (.agg (S.wr p hi v).cs)∧Adds w w':=by
 have hh:Hid _:=And.intro (And.intro v0 v1) (And.intro h0 h1)
 clear v0 v1 h0 h1
 cases hi
 ·by_cases h6:bits .and .u8 v 16=0
  ·by_cases h8:bits .and .u8 v 8=0
   ·go_enter Tryz.func102,Tryz.ntmps102
    go_wp2_with (first|(go_at_call 127;refine ad (oper_any p v hh.out.1.1 hh.out.1.2 hh.out.2.1 hh.out.2.2) fun n1 os1=> ?_;simp only [S.Pc.cs]))
    exact bodyPost_ret (ret_PIC Tryz.results102 rfl (by simp [go_sem,S.wr,S.Pc.cs,h6,h8]) rfl) rfl ⟨rfl,aD⟩
   ·by_cases g6:bits .and .u8 v 64=0
    all_goals
     by_cases g1:bits .and .u8 v 2=0
     all_goals
      by_cases gp:p.Po=true
      all_goals
       go_enter Tryz.func102,Tryz.ntmps102
       go_wp2_with fail
       exact bodyPost_ret (ret_PIC Tryz.results102 rfl (by simp [go_sem,S.wr,S.mode,S.Pc.cs, *]) rfl) rfl ⟨rfl,aD⟩
  ·go_enter Tryz.func102,Tryz.ntmps102
   go_wp2_with (go_at_call 126;refine ad (first_any p v _) fun n1 os1=> ?_;simp only [S.Pc.cs])
   exact bodyPost_ret (ret_PIC Tryz.results102 rfl (by simp [go_sem,S.wr,S.Pc.cs,h6]) rfl) rfl ⟨rfl,aD⟩
 ·go_enter Tryz.func102,Tryz.ntmps102
  go_wp2_with (go_at_call 125;refine ad (further_any p v) fun n1 os1=> ?_;simp only [S.Pc.cs])
  exact bodyPost_ret (ret_PIC Tryz.results102 rfl (by simp [go_sem,S.wr,S.Pc.cs]) rfl) rfl ⟨rfl,aD⟩
end K22
namespace S
theorem ones_and23 (n m:Int) (j:Nat) (hm:(BitVec.ofInt 64 m).toNat=2 ^ j - 1) (hj:j≤60):bits .and .i64 n m=n % ((2 ^ j:Nat):Int):=by
 have hp:(2 ^ j:Nat) ∣ 2 ^ 64:=Nat.pow_dvd_pow 2 (by omega)
 have hl:(2 ^ j:Nat)≤2 ^ 60:=Nat.pow_le_pow_right (by decide) hj
 have h0:0 < (2 ^ j:Nat):=Nat.pow_pos (by decide)
 have e:(BitVec.ofInt 64 n &&& BitVec.ofInt 64 m).toNat=(n % ((2 ^ 64:Nat):Int)).toNat % 2 ^ j:=by
  rw [BitVec.toNat_and,BitVec.toNat_ofInt,hm,Nat.and_two_pow_sub_one_eq_mod]
 have e2:(((n % ((2 ^ 64:Nat):Int)).toNat % 2 ^ j:Nat):Int)=n % ((2 ^ j:Nat):Int):=by
  rw [Int.natCast_emod,Int.toNat_of_nonneg (Int.emod_nonneg _ (by decide)),Int.emod_emod_of_dvd _ (Int.natCast_dvd_natCast.2 hp)]
 show IntKind.i64.wrap ((BitVec.ofInt 64 n &&& BitVec.ofInt 64 m).toNat:Nat)=_
 rw [e,e2]
 have l0:0≤n % ((2 ^ j:Nat):Int):=Int.emod_nonneg _ (by omega)
 have l1:n % ((2 ^ j:Nat):Int) < ((2 ^ j:Nat):Int):=Int.emod_lt_of_pos _ (by omega)
 exact IntWalk.i64_in _ (by omega)
theorem dm_and3 (n:Int):bits .and .i64 n 3=n % 4:=ones_and23 n 3 2 (by decide) (by decide)
def dmA (r a v:Int):Int:=if r % 4=0 then joi (a / 256) v else if r % 4=1 then joi v (a % 256) else a
def dmV (r x v:Int):Int:=if r % 4=2 then v else x
def dmL (r l v:Int):Int:=if r % 4=3 then v else l
def dmR (r a x l:Int):Int:=if r % 4=0 then a % 256 else if r % 4=1 then a / 256 else if r % 4=2 then x else l % 256
theorem dm_hi (a:Int) (a0:0≤a) (a1:a < 65536):bits .and .u16 a 65280=a / 256 * 256:=by
 rw [u16_and a 65280 a0 a1 (by decide) (by decide)]
 have e:(65280:Int).toNat=65280:=rfl
 rw [e]
 have d:(a.toNat &&& 65280) / 2 ^ 8=a.toNat / 2 ^ 8 &&& 65280 / 2 ^ 8:=Nat.and_div_two_pow ..
 have m:(a.toNat &&& 65280) % 2 ^ 8=a.toNat % 2 ^ 8 &&& 65280 % 2 ^ 8:=Nat.and_mod_two_pow ..
 have k:a.toNat / 2 ^ 8 &&& 65280 / 2 ^ 8=a.toNat / 2 ^ 8 % 2 ^ 8:=Nat.and_two_pow_sub_one_eq_mod _ 8
 have z:a.toNat % 2 ^ 8 &&& 65280 % 2 ^ 8=0:=Nat.and_zero _
 rw [k] at d
 rw [z] at m
 omega
theorem dm_or0 (a v:Int) (a0:0≤a) (a1:a < 65536):bits .or .u16 (bits .and .u16 a 65280) v=joi (a / 256) v:=by rw [dm_hi a a0 a1];rfl
theorem dm_lo (a:Int) (a0:0≤a) (a1:a < 65536):bits .and .u16 a 255=a % 256:=by
 rw [u16_and a 255 a0 a1 (by decide) (by decide)]
 have k:a.toNat &&& (255:Int).toNat=a.toNat % 2 ^ 8:=Nat.and_two_pow_sub_one_eq_mod _ 8
 rw [k]
 omega
theorem dm_or1 (a v:Int) (a0:0≤a) (a1:a < 65536) (v0:0≤v) (v1:v < 256):bits .or .u16 (bits .and .u16 a 255) (v * 256)=joi v (a % 256):=by
 rw [dm_lo a a0 a1]
 unfold joi
 rw [u16_or _ _ (by omega) (by omega) (by omega) (by omega),u16_or _ _ (by omega) (by omega) (by omega) (by omega),Nat.or_comm]
theorem dmA_bd (r a v:Int) (a0:0≤a) (a1:a < 65536) (v0:0≤v) (v1:v < 256):0≤dmA r a v∧dmA r a v < 65536:=by
 unfold dmA
 split
 ·exact joi_bd (by omega) (by omega) v0 v1
 ·split
  ·exact joi_bd v0 v1 (by omega) (by omega)
  ·exact ⟨a0,a1⟩
theorem dmV_bd (r x v:Int) (x0:0≤x) (x1:x < 256) (v0:0≤v) (v1:v < 256):0≤dmV r x v∧dmV r x v < 256:=by
 unfold dmV;split<;>omega
end S
section
variable {a l r x:Int} {w:World}
theorem dm_eq (x v l y u m:Int) (w:World):(Op.equalIn 10000 47 (.agg #[.int .u16 x,.int .u8 v,.int .i64 l]) (.agg #[.int .u16 y,.int .u8 u,.int .i64 m])).run Tryz.prog w=.ok (same [.int .u16 x,.int .u8 v,.int .i64 l] [.int .u16 y,.int .u8 u,.int .i64 m]) w:=
 eq_agg 3 [.int .u16,.int .u8,.int .i64] Tryz.underlying47 (by kernel_rfl) (by decide) w (by simp [shaped]) (by simp [shaped])
attribute [go_sem] dm_eq
@[go_sem] theorem eq_Cell23 (x v y u:Int) (w:World):(Op.equalIn 10000 100 (.agg #[.int .u16 x,.int .u8 v]) (.agg #[.int .u16 y,.int .u8 u])).run Tryz.prog w=.ok (same [.int .u16 x,.int .u8 v] [.int .u16 y,.int .u8 u]) w:=
 eq_agg 2 [.int .u16,.int .u8] Tryz.underlying100 (by kernel_rfl) (by decide) w (by simp [shaped]) (by simp [shaped])
theorem rdm_req:Calls Tryz.prog 87 #[.agg #[.int .u16 a,.int .u8 x,.int .i64 l]] w fun e w'=>e=.returned (.bool (decide (0 < l)))∧Adds w w':=by
 go_enter Tryz.func87,Tryz.ntmps87
 go_wp2_with fail
 go_ret
 exact ⟨rfl,aD⟩
@[go_sem] theorem dm_idx0 (p q r s:Int) (w:World):(Instr.index 198 (.agg #[.int .u8 p,.int .u8 q,.int .u8 r,.int .u8 s]) (.int .i64 0)).run Tryz.prog w=.ok (.int .u8 p) w:=by kernel_rfl
@[go_sem] theorem dm_idx1 (p q r s:Int) (w:World):(Instr.index 198 (.agg #[.int .u8 p,.int .u8 q,.int .u8 r,.int .u8 s]) (.int .i64 1)).run Tryz.prog w=.ok (.int .u8 q) w:=by kernel_rfl
@[go_sem] theorem dm_idx2 (p q r s:Int) (w:World):(Instr.index 198 (.agg #[.int .u8 p,.int .u8 q,.int .u8 r,.int .u8 s]) (.int .i64 2)).run Tryz.prog w=.ok (.int .u8 r) w:=by kernel_rfl
@[go_sem] theorem dm_idx3 (p q r s:Int) (w:World):(Instr.index 198 (.agg #[.int .u8 p,.int .u8 q,.int .u8 r,.int .u8 s]) (.int .i64 3)).run Tryz.prog w=.ok (.int .u8 s) w:=by kernel_rfl
theorem q1C23 {P:Prop} (h:P:=by
 go_enter Tryz.func103,Tryz.ntmps103
 go_wp2_with fail
 exact bodyPost_ret (by simp [results,Tryz.results103,go_sem]) rfl ⟨rfl,aD⟩):P:=h
theorem rdm_w0 (a x l r v:Int) (a0:0≤a) (a1:a < 65536) (v0:0≤v) (v1:v < 256) (hr:r % 4=0) (w:World):Calls Tryz.prog 103 #[.agg #[.int .u16 a,.int .u8 x,.int .i64 l],.int .i64 r,.int .u8 v] w fun e w'=>e=.returned (.agg #[.int .u16 (S.joi (a / 256) v),.int .u8 x,.int .i64 l])∧Adds w w':=by
 have hb:bits .and .i64 r 3=0:=by rw [S.dm_and3,hr]
 have h2:=S.dm_or0 a v a0 a1
 have h3:=S.dm_or1 a v a0 a1 v0 v1
 clear hr
 exact q1C23
theorem rdm_w1 (a x l r v:Int) (a0:0≤a) (a1:a < 65536) (v0:0≤v) (v1:v < 256) (hr:r % 4=1) (w:World):Calls Tryz.prog 103 #[.agg #[.int .u16 a,.int .u8 x,.int .i64 l],.int .i64 r,.int .u8 v] w fun e w'=>e=.returned (.agg #[.int .u16 (S.joi v (a % 256)),.int .u8 x,.int .i64 l])∧Adds w w':=by
 have hb:bits .and .i64 r 3=1:=by rw [S.dm_and3,hr]
 have h2:=S.dm_or0 a v a0 a1
 have h3:=S.dm_or1 a v a0 a1 v0 v1
 clear hr
 exact q1C23
theorem rdm_w2 (a x l r v:Int) (a0:0≤a) (a1:a < 65536) (v0:0≤v) (v1:v < 256) (hr:r % 4=2) (w:World):Calls Tryz.prog 103 #[.agg #[.int .u16 a,.int .u8 x,.int .i64 l],.int .i64 r,.int .u8 v] w fun e w'=>e=.returned (.agg #[.int .u16 a,.int .u8 v,.int .i64 l])∧Adds w w':=by
 have hb:bits .and .i64 r 3=2:=by rw [S.dm_and3,hr]
 have h2:=S.dm_or0 a v a0 a1
 have h3:=S.dm_or1 a v a0 a1 v0 v1
 clear hr
 exact q1C23
theorem rdm_w3 (a x l r v:Int) (a0:0≤a) (a1:a < 65536) (v0:0≤v) (v1:v < 256) (hr:r % 4=3) (w:World):Calls Tryz.prog 103 #[.agg #[.int .u16 a,.int .u8 x,.int .i64 l],.int .i64 r,.int .u8 v] w fun e w'=>e=.returned (.agg #[.int .u16 a,.int .u8 x,.int .i64 v])∧Adds w w':=by
 have hb:bits .and .i64 r 3=3:=by rw [S.dm_and3,hr]
 have h2:=S.dm_or0 a v a0 a1
 have h3:=S.dm_or1 a v a0 a1 v0 v1
 clear hr
 exact q1C23
theorem q2C23 {P:Prop} (h:P:=by
 go_enter Tryz.func94,Tryz.ntmps94
 go_wp2_with fail
 go_ret
 exact ⟨ri (by simp<;>omega),aD⟩):P:=h
theorem rdm_r0 (a x l r:Int) (a0:0≤a) (a1:a < 65536) (hr:r % 4=0) (w:World):Calls Tryz.prog 94 #[.agg #[.int .u16 a,.int .u8 x,.int .i64 l],.int .i64 r] w fun e w'=>e=.returned (.int .u8 (a % 256))∧Adds w w':=by
 have hb:bits .and .i64 r 3=0:=by rw [S.dm_and3,hr]
 clear hr
 exact q2C23
theorem rdm_r1 (a x l r:Int) (a0:0≤a) (a1:a < 65536) (hr:r % 4=1) (w:World):Calls Tryz.prog 94 #[.agg #[.int .u16 a,.int .u8 x,.int .i64 l],.int .i64 r] w fun e w'=>e=.returned (.int .u8 (a / 256))∧Adds w w':=by
 have hb:bits .and .i64 r 3=1:=by rw [S.dm_and3,hr]
 clear hr
 exact q2C23
theorem rdm_r2 (a x l r:Int) (a0:0≤a) (a1:a < 65536) (hr:r % 4=2) (w:World):Calls Tryz.prog 94 #[.agg #[.int .u16 a,.int .u8 x,.int .i64 l],.int .i64 r] w fun e w'=>e=.returned (.int .u8 x)∧Adds w w':=by
 have hb:bits .and .i64 r 3=2:=by rw [S.dm_and3,hr]
 clear hr
 exact q2C23
theorem rdm_r3 (a x l r:Int) (a0:0≤a) (a1:a < 65536) (hr:r % 4=3) (w:World):Calls Tryz.prog 94 #[.agg #[.int .u16 a,.int .u8 x,.int .i64 l],.int .i64 r] w fun e w'=>e=.returned (.int .u8 (l % 256))∧Adds w w':=by
 have hb:bits .and .i64 r 3=3:=by rw [S.dm_and3,hr]
 clear hr
 exact q2C23
theorem dm_four (r:Int):r % 4=0∨r % 4=1∨r % 4=2∨r % 4=3:=by omega
theorem dma_rwr {v:Int} (a0:0≤a) (a1:a < 65536) (v0:0≤v) (v1:v < 256):Calls Tryz.prog 103 #[.agg #[.int .u16 a,.int .u8 x,.int .i64 l],.int .i64 r,.int .u8 v] w fun e w'=>e=.returned (.agg #[.int .u16 (S.dmA r a v),.int .u8 (S.dmV r x v),.int .i64 (S.dmL r l v)])∧Adds w w':=by
 rcases dm_four r with h|h|h|h
 ·simpa [S.dmA,S.dmV,S.dmL,h] using rdm_w0 a x l r v a0 a1 v0 v1 h w
 ·simpa [S.dmA,S.dmV,S.dmL,h] using rdm_w1 a x l r v a0 a1 v0 v1 h w
 ·simpa [S.dmA,S.dmV,S.dmL,h] using rdm_w2 a x l r v a0 a1 v0 v1 h w
 ·simpa [S.dmA,S.dmV,S.dmL,h] using rdm_w3 a x l r v a0 a1 v0 v1 h w
theorem dma_rrd (a0:0≤a) (a1:a < 65536):Calls Tryz.prog 94 #[.agg #[.int .u16 a,.int .u8 x,.int .i64 l],.int .i64 r] w fun e w'=>e=.returned (.int .u8 (S.dmR r a x l))∧Adds w w':=by
 rcases dm_four r with h|h|h|h
 ·simpa [S.dmR,h] using rdm_r0 a x l r a0 a1 h w
 ·simpa [S.dmR,h] using rdm_r1 a x l r a0 a1 h w
 ·simpa [S.dmR,h] using rdm_r2 a x l r a0 a1 h w
 ·simpa [S.dmR,h] using rdm_r3 a x l r a0 a1 h w
theorem dma_rtr (l0:0 < l) (l1:l < 9223372036854775808):Calls Tryz.prog 64 #[.agg #[.int .u16 a,.int .u8 x,.int .i64 l]] w fun e w'=>e=.returned (.tuple #[.agg #[.int .u16 (IntKind.u16.wrap (a+1)),.int .u8 x,.int .i64 (l - 1)],.agg #[.int .u16 a,.int .u8 x],.bool true])∧Adds w w':=by
 have hd:decide (0 < l)=true:=decide_eq_true l0
 go_enter Tryz.func64,Tryz.ntmps64
 go_wp2_with (go_at_call 87;refine ad (rdm_req) fun n1 os1=> ?_)
 go_region
 all_goals go_wp2_with fail
 all_goals exact bodyPost_ret (by simp [results,Tryz.results64,go_sem]) rfl ⟨rfl,aD⟩
theorem dma_rtr0 (l0:¬0 < l):Calls Tryz.prog 64 #[.agg #[.int .u16 a,.int .u8 x,.int .i64 l]] w fun e w'=>e=.returned (.tuple #[.agg #[.int .u16 0,.int .u8 0,.int .i64 0],.agg #[.int .u16 0,.int .u8 0],.bool false])∧Adds w w':=by
 have hd:decide (0 < l)=false:=decide_eq_false l0
 go_enter Tryz.func64,Tryz.ntmps64
 go_wp2_with (go_at_call 87;refine ad (rdm_req) fun n1 os1=> ?_)
 all_goals exact bodyPost_ret (by simp [results,Tryz.results64,go_sem]) rfl ⟨rfl,aD⟩
end
section
section
variable {P:Program} {md:Region.Mode} {ops:Array Oper} {Q:Exit→Act→World→Prop} {T:World→Prop} {st:List Nat}
def Opn (st:List Nat) (l:Array Bool):Prop:=∀j∈st,l.getD j true=false
def Til (P:Program) (md:Region.Mode) (ops:Array Oper) (Q:Exit→Act→World→Prop) (T:World→Prop) (st:List Nat):Nat→Array Bool→Act→World→Prop
 |0=>fun l a w=>Region.ready md ops l=[]∧Q .normal a w
 |n+1=>fun l a w=>(Region.ready md ops l=[]→Q .normal a w)∧∀i,i∈Region.ready md ops l→wpOp P ops Q i (fun b v=>Til P md ops Q T st n (l.setIfInBounds i true) b v∧(Opn st (l.setIfInBounds i true)→T v)) a w
theorem Til.any:∀(n:Nat) (l:Array Bool) (a:Act) (w:World),Til P md ops Q T st n l a w→wpAny P md ops Q n l a w
 |0,_,_,_,h=>⟨h.1,h.2⟩
 |n+1,l,_,_,h=>And.intro h.1 fun i hi=>wpOp_mono (fun b v k=>Til.any n _ b v k.1) (h.2 i hi)
theorem Til.start {id:Nat} {a:Act} {w:World} (hm:P.follows .mixedOrders=true) (hT:T w.drew) (h:Til P .any ops Q T st ops.size (Array.replicate ops.size false) a w.drew):(Code.region id ops true).wp P Q a w:=
 wp_region_any hm (Til.any _ _ _ _ h)
theorem Til.begin {id:Nat} {a:Act} {w:World} (hm:P.follows .mixedOrders=true) (hT:T w.drew) (h:T w.drew→Til P .any ops Q T st ops.size (Array.replicate ops.size false) a w.drew):(Code.region id ops true).wp P Q a w:=Til.start hm hT (h hT)
theorem Til.done {l:Array Bool} {a:Act} {w:World} (hr:Region.ready md ops l=[]) (h:Q .normal a w):∀n,Til P md ops Q T st n l a w
 |0=>⟨hr,h⟩
 |_+1=>⟨fun _=>h,fun i hi=>by rw [hr] at hi;cases hi⟩
def tilWaits (md:Region.Mode) (ops:Array Oper) (i:Nat):Nat→Nat→Bool
 |0,_=>false
 |n+1,j=>match ops[j]? with
  |some o=>o.after.toList.any fun e=>Region.binds md e && (e.on==i||tilWaits md ops i n e.on)
  |none=>false
def TilCl (md:Region.Mode) (ops:Array Oper) (l:Array Bool):Prop:=∀k o,ops[k]? =some o→l.getD k false=true→∀e∈o.after,Region.binds md e=true→l.getD e.on false=true
theorem tilWaits_listed {i:Nat} {l:Array Bool} (hl:TilCl md ops l):∀(n j:Nat) (o:Oper),ops[j]? =some o→(∀e∈o.after,Region.binds md e=true→l.getD e.on false=true)→tilWaits md ops i n j=true→l.getD i false=true
 |0,j,o,_,_,h=>by simp [tilWaits] at h
 |n+1,j,o,ho,hall,h=>by
  rw [tilWaits,ho] at h
  simp only [List.any_eq_true,Bool.and_eq_true,Bool.or_eq_true,beq_iff_eq] at h
  obtain ⟨e,he,hb,q⟩:=h
  have he':e∈o.after:=by simpa using he
  have h1:=hall e he' hb
  rcases q with q|q
  ·rw [←q];exact h1
  ·cases hk:ops[e.on]? with
   |none=>
    cases n with
    |zero=>simp [tilWaits] at q
    |succ n=>simp [tilWaits,hk] at q
   |some o'=>exact tilWaits_listed hl n e.on o' hk (hl _ _ hk h1) q
theorem TilCl.set {l:Array Bool} (h:TilCl md ops l) {j:Nat} (hj:j∈Region.ready md ops l):TilCl md ops (l.setIfInBounds j true):=by
 intro k o ho hk e he hb
 by_cases hkj:j=k
 ·subst hkj
  obtain ⟨_,o',ho',hall⟩:=mem_ready.1 hj
  rw [ho] at ho'
  injection ho' with ho'
  subst ho'
  exact getD_set_true (hall e he hb)
 ·rw [getD_set_ne false hkj] at hk
  exact getD_set_true (h k o ho hk e he hb)
theorem Til.first {i:Nat} {oi:Oper} {v:Value} (hi:ops[i]? =some oi) (hsel:∀(j:Nat) (o:Oper) cs b,ops[j]? =some o→o.op≠ .select cs b) (hQ:∀c a w,Q (.panic c) (a.put oi.dst v) w→Q (.panic c) a w)
 (hst:∀j∈st,j≠i∧∃m,tilWaits md ops i m j=true):
 ∀(n:Nat) (l:Array Bool) (a:Act) (w:World),TilCl md ops l→(∀j oj,ops[j]? =some oj→j≠i→l.getD j true=false→(∀e∈oj.after,Region.binds md e=true→e.on≠i)→oi.apart ops oj=true)→
  i∈Region.ready md ops l→Opn st l→YieldsIf P ops T oi v a→T w→Til P md ops Q T st n (l.setIfInBounds i true) (a.put oi.dst v) w→Til P md ops Q T st (n+1) l a w:=by
 intro n
 induction n with
 |zero=>
  intro l a w _ _ hr ho hy hT h
  have one:∀j,j∈Region.ready md ops l→j=i:=fun j hj=>Classical.byContradiction fun hne=>by
   have:=ready_mono hj hne
   rw [h.1] at this;cases this
  refine ⟨fun e=>(by rw [e] at hr;cases hr),fun j hj=> ?_⟩
  obtain rfl:=one j hj
  exact hy.wpOp hi hT ⟨h,fun _=>hT⟩
 |succ n ih=>
  intro l a w hcl hfree hr ho hy hT h
  have hli:l.getD i false=false:=by
   have h0:=(mem_ready.1 hr).1
   rcases Nat.lt_or_ge i l.size with q|q
   ·simp [q] at h0⊢;exact h0
   ·simp [Array.getElem?_eq_none q]
  refine ⟨fun e=>(by rw [e] at hr;cases hr),fun j hj=> ?_⟩
  by_cases hji:j=i
  ·subst hji;exact hy.wpOp hi hT ⟨h,fun _=>hT⟩
  obtain ⟨hjl,oj,hoj,hall⟩:=mem_ready.1 hj
  have hwait:∀e∈oj.after,Region.binds md e=true→e.on≠i:=fun e he hb q=>by
   have:=hall e he hb
   rw [q,hli] at this;cases this
  have hjst:j∉st:=fun hs=>by
   obtain ⟨_,m,q⟩:=hst j hs
   have:=tilWaits_listed hcl m j oj hoj hall q
   rw [hli] at this;cases this
  have hop:∀l':Array Bool,Opn st l'→∀k,k∉st→Opn st (l'.setIfInBounds k true):=fun l' h' k hk q hq=>by
   have hne:k≠q:=fun e=>hk (by rw [e];exact hq)
   rw [getD_set_ne true hne];exact h' q hq
  have hist:i∉st:=fun hs=>(hst i hs).1 rfl
  have h1:=h.2 j (ready_mono hj hji)
  have h2:=wpOp_putIf hoj (hfree j oj hoj hji hjl hwait) (fun cs b=>hsel i oi cs b hi) (fun cs b=>hsel j oj cs b hoj) hQ hy h1
  refine wpOp_mono (fun b x k=> ?_) h2
  have hTx:T x:=k.2.2 (hop _ (hop _ ho i hist) j hjst)
  refine ⟨ih (l.setIfInBounds j true) b x (hcl.set hj) (fun k' ok e1 e2 e3 e4=>hfree k' ok e1 e2 ?_ e4) (ready_mono hr (Ne.symm hji)) (hop _ ho j hjst) k.1 hTx (by rw [Array.setIfInBounds_comm _ _ hji];exact k.2.1),fun _=>hTx⟩
  by_cases hjk:j=k'
  ·subst hjk;exact hjl
  ·rwa [getD_set_ne true hjk] at e3
theorem Til.firstAny {i:Nat} {oi:Oper} {v:Value} (hi:ops[i]? =some oi) (hsel:∀(j:Nat) (o:Oper) cs b,ops[j]? =some o→o.op≠ .select cs b) (hQ:∀c a w,Q (.panic c) (a.put oi.dst v) w→Q (.panic c) a w) (hist:i∉st):
 ∀(n:Nat) (l:Array Bool) (a:Act) (w:World),(∀j oj,ops[j]? =some oj→j≠i→l.getD j true=false→(∀e∈oj.after,Region.binds md e=true→e.on≠i)→oi.apart ops oj=true)→
  i∈Region.ready md ops l→YieldsIf P ops (fun _=>True) oi v a→(Opn st l→T w)→Til P md ops Q T st n (l.setIfInBounds i true) (a.put oi.dst v) w→Til P md ops Q T st (n+1) l a w:=by
 have hback:∀l':Array Bool,Opn st (l'.setIfInBounds i true)→Opn st l':=fun l' h' q hq=>by
  have hne:i≠q:=fun e=>hist (by rw [e];exact hq)
  have:=h' q hq
  rwa [getD_set_ne true hne] at this
 have hput:∀l':Array Bool,Opn st l'→Opn st (l'.setIfInBounds i true):=fun l' h' q hq=>by
  have hne:i≠q:=fun e=>hist (by rw [e];exact hq)
  rw [getD_set_ne true hne];exact h' q hq
 intro n
 induction n with
 |zero=>
  intro l a w _ hr hy hT h
  have one:∀j,j∈Region.ready md ops l→j=i:=fun j hj=>Classical.byContradiction fun hne=>by
   have:=ready_mono hj hne
   rw [h.1] at this;cases this
  refine ⟨fun e=>(by rw [e] at hr;cases hr),fun j hj=> ?_⟩
  obtain rfl:=one j hj
  exact hy.wpOp hi trivial ⟨h,fun e=>hT (hback _ e)⟩
 |succ n ih=>
  intro l a w hfree hr hy hT h
  have hli:l.getD i false=false:=by
   have h0:=(mem_ready.1 hr).1
   rcases Nat.lt_or_ge i l.size with q|q
   ·simp [q] at h0⊢;exact h0
   ·simp [Array.getElem?_eq_none q]
  refine ⟨fun e=>(by rw [e] at hr;cases hr),fun j hj=> ?_⟩
  by_cases hji:j=i
  ·subst hji;exact hy.wpOp hi trivial ⟨h,fun e=>hT (hback _ e)⟩
  obtain ⟨hjl,oj,hoj,hall⟩:=mem_ready.1 hj
  have hwait:∀e∈oj.after,Region.binds md e=true→e.on≠i:=fun e he hb q=>by
   have:=hall e he hb
   rw [q,hli] at this;cases this
  have h1:=h.2 j (ready_mono hj hji)
  have h2:=wpOp_putIf hoj (hfree j oj hoj hji hjl hwait) (fun cs b=>hsel i oi cs b hi) (fun cs b=>hsel j oj cs b hoj) hQ hy h1
  refine wpOp_mono (fun b x k=> ?_) h2
  have hc:=Array.setIfInBounds_comm (xs:=l) true true hji
  have hTx:Opn st (l.setIfInBounds j true)→T x:=fun e=>k.2.2 (by rw [←hc];exact hput _ e)
  refine ⟨ih (l.setIfInBounds j true) b x (fun k' ok e1 e2 e3 e4=>hfree k' ok e1 e2 ?_ e4) (ready_mono hr (Ne.symm hji)) k.1 hTx (by rw [hc];exact k.2.1),hTx⟩
  by_cases hjk:j=k'
  ·subst hjk;exact hjl
  ·rwa [getD_set_ne true hjk] at e3
theorem Til.takeAny {i:Nat} {oi:Oper} {v:Value} {n:Nat} {l:Array Bool} {a:Act} {w:World} (hi:ops[i]? =some oi) (hs:Region.noSelect ops=true) (hf:Region.free md ops l i=true) (hr:(Region.ready md ops l).contains i=true) (hist:st.contains i=false)
 (hQ:∀c a w,Q (.panic c) (a.put oi.dst v) w→Q (.panic c) a w) (hy:YieldsIf P ops (fun _=>True) oi v a) (hT:T w) (h:Til P md ops Q T st n (l.setIfInBounds i true) (a.put oi.dst v) w):Til P md ops Q T st (n+1) l a w:=
 Til.firstAny hi (Region.noSelect_spec hs) hQ (fun e=>by rw [List.contains_iff_mem.2 e] at hist;cases hist) n l a w (Region.free_spec hi hf) (by simpa using hr) hy (fun _=>hT) h
theorem Til.takeLate {i:Nat} {oi:Oper} {v:Value} {n:Nat} {l:Array Bool} {a:Act} {w:World} (hi:ops[i]? =some oi) (hs:Region.noSelect ops=true) (hf:Region.free md ops l i=true) (hr:(Region.ready md ops l).contains i=true) (hist:(!st.contains i && st.any fun j=>l.getD j true)=true)
 (hQ:∀c a w,Q (.panic c) (a.put oi.dst v) w→Q (.panic c) a w) (hy:YieldsIf P ops (fun _=>True) oi v a) (h:Til P md ops Q T st n (l.setIfInBounds i true) (a.put oi.dst v) w):Til P md ops Q T st (n+1) l a w:=by
 rw [Bool.and_eq_true] at hist
 refine Til.firstAny hi (Region.noSelect_spec hs) hQ (fun e=>by have:=hist.1;rw [List.contains_iff_mem.2 e] at this;cases this) n l a w (Region.free_spec hi hf) (by simpa using hr) hy (fun ho=> ?_) h
 obtain ⟨k,hk,e⟩:=List.any_eq_true.1 hist.2
 rw [ho k hk] at e;cases e
def tilClB (md:Region.Mode) (ops:Array Oper) (l:Array Bool):Bool:=(List.range ops.size).all fun k=> !l.getD k false||match ops[k]? with
 |some o=>o.after.toList.all fun e=> !Region.binds md e||l.getD e.on false
 |none=>true
theorem tilClB_spec {l:Array Bool} (h:tilClB md ops l=true):TilCl md ops l:=by
 intro k o ho hk e he hb
 have hlt:k < ops.size:=(Array.getElem?_eq_some_iff.1 ho).1
 have h1:=(List.all_eq_true.1 h) k (List.mem_range.2 hlt)
 rw [hk,ho] at h1
 have h2:(o.after.toList.all fun e=> !Region.binds md e||l.getD e.on false)=true:=h1
 have h3:=(List.all_eq_true.1 h2) e (by simpa using he)
 rw [hb] at h3
 exact h3
theorem Til.take {i:Nat} {oi:Oper} {v:Value} {n:Nat} {l:Array Bool} {a:Act} {w:World} (hi:ops[i]? =some oi) (hs:Region.noSelect ops=true) (hf:Region.free md ops l i=true) (hr:(Region.ready md ops l).contains i=true) (hw:(st.all fun j=>j !=i && tilWaits md ops i 3 j)=true) (ho:(st.all (fun j=> !l.getD j true) && tilClB md ops l)=true)
 (hQ:∀c a w,Q (.panic c) (a.put oi.dst v) w→Q (.panic c) a w) (hy:YieldsIf P ops T oi v a) (hT:T w) (h:Til P md ops Q T st n (l.setIfInBounds i true) (a.put oi.dst v) w):Til P md ops Q T st (n+1) l a w:=by
 rw [Bool.and_eq_true] at ho
 refine Til.first hi (Region.noSelect_spec hs) hQ (fun j hj=> ?_) n l a w (tilClB_spec ho.2) (Region.free_spec hi hf) (by simpa using hr) (fun j hj=>by simpa using (List.all_eq_true.1 ho.1) j hj) hy hT h
 have h1:=(List.all_eq_true.1 hw) j hj
 rw [Bool.and_eq_true] at h1
 exact ⟨by simpa using h1.1,3,h1.2⟩
def TilAll (P:Program) (md:Region.Mode) (ops:Array Oper) (Q:Exit→Act→World→Prop) (T:World→Prop) (st:List Nat) (n:Nat) (l:Array Bool) (a:Act) (w:World) (rs:List Nat):Prop:=∀i,i∈rs→wpOp P ops Q i (fun b v=>Til P md ops Q T st n (l.setIfInBounds i true) b v∧(Opn st (l.setIfInBounds i true)→T v)) a w
theorem Til.ready {rs:List Nat} {n:Nat} {l:Array Bool} {a:Act} {w:World} (hr:Region.ready md ops l=rs) (hne:rs≠[]) (h:TilAll P md ops Q T st n l a w rs):Til P md ops Q T st (n+1) l a w:=
 ⟨fun e=>absurd (hr.symm.trans e) hne,fun i hi=>h i (hr▸hi)⟩
theorem TilAll.nil {n:Nat} {l:Array Bool} {a:Act} {w:World}:TilAll P md ops Q T st n l a w []:=fun _ h=>by cases h
theorem TilAll.cons {n:Nat} {l:Array Bool} {a:Act} {w:World} {i:Nat} {o:Oper} {rs:List Nat} (ho:ops[i]? =some o)
 (h:∀K:Act→World→Prop,Shut (∀b v,T v→(T v→Til P md ops Q T st n (l.setIfInBounds i true) b v)→K b v)→if Region.wanted o (yielded ops a.tmps)=true then Oper.wp P o a w K Q else K (a.put o.dst undef) w)
 (hs:TilAll P md ops Q T st n l a w rs):TilAll P md ops Q T st n l a w (i::rs):=fun j hj=>by
 rcases List.mem_cons.1 hj with rfl|hj
 ·exact wpOp_step ho (fun K hK=>h K (fun b v hT hW=>hK b v ⟨hW hT,fun _=>hT⟩))
 ·exact hs j hj
theorem TilAll.store {n:Nat} {l:Array Bool} {a:Act} {w:World} {i:Nat} {o:Oper} {rs:List Nat} (ho:ops[i]? =some o) (hc:(st.any fun j=>(l.setIfInBounds i true).getD j true)=true)
 (h:∀K:Act→World→Prop,Shut (∀b v,Til P md ops Q T st n (l.setIfInBounds i true) b v→K b v)→if Region.wanted o (yielded ops a.tmps)=true then Oper.wp P o a w K Q else K (a.put o.dst undef) w)
 (hs:TilAll P md ops Q T st n l a w rs):TilAll P md ops Q T st n l a w (i::rs):=fun j hj=>by
 rcases List.mem_cons.1 hj with rfl|hj
 ·refine wpOp_step ho (fun K hK=>h K (fun b v hW=>hK b v ⟨hW,fun ho'=> ?_⟩))
  obtain ⟨k,hk,e⟩:=List.any_eq_true.1 hc
  rw [ho' k hk] at e;cases e
 ·exact hs j hj
theorem Tt_ (i:Nat) {oi:Oper} {v:Value} {n:Nat} {l:Array Bool} {a a':Act} {w:World} (hi:ops[i]? =some oi) (h:Til P md ops Q T st n (l.setIfInBounds i true) a' w) (hs:Region.noSelect ops=true:=by kernel_rfl) (hf:Region.free md ops l i=true:=by kernel_rfl) (hr:(Region.ready md ops l).contains i=true:=by kernel_rfl) (h1:(st.all fun j=>j !=i && tilWaits md ops i 3 j)=true:=by kernel_rfl) (h2:(st.all (fun j=> !l.getD j true) && tilClB md ops l)=true:=by kernel_rfl)
 (hQ:∀c a w,Q (.panic c) (a.put oi.dst v) w→Q (.panic c) a w:=by exact fun _ _ _ h=>h) (hw:Region.wanted oi (yielded ops a.tmps)=true:=by kernel_rfl) (hy:∀w,T w→(execOp a.eval oi).run P w=.ok (.value v) w:=by (intro w hSw;(try dsimp only at hSw);go_simp;(try with_reducible rfl);done)) (hT:T w:=by assumption) (ha:a.put oi.dst v=a':=by ((try simp only [Act.put,List.setIfInBounds_toArray,List.set_cons_zero,List.set_cons_succ]);exact rfl)):Til P md ops Q T st (n+1) l a w:=by
 subst ha
 exact Til.take hi hs hf hr h1 h2 hQ (Or.inl ⟨hw,hy⟩) hT h
theorem Tf_ (i:Nat) {oi:Oper} {v:Value} {n:Nat} {l:Array Bool} {a a':Act} {w:World} (hi:ops[i]? =some oi) (h:Til P md ops Q T st n (l.setIfInBounds i true) a' w) (hs:Region.noSelect ops=true:=by kernel_rfl) (hf:Region.free md ops l i=true:=by kernel_rfl) (hr:(Region.ready md ops l).contains i=true:=by kernel_rfl) (h1:st.contains i=false:=by kernel_rfl)
 (hQ:∀c a w,Q (.panic c) (a.put oi.dst v) w→Q (.panic c) a w:=by exact fun _ _ _ h=>h) (hw:Region.wanted oi (yielded ops a.tmps)=true:=by kernel_rfl) (hy:∀w,(fun _=>True) w→(execOp a.eval oi).run P w=.ok (.value v) w:=by (intro w hSw;(try dsimp only at hSw);go_simp;(try with_reducible rfl);done)) (hT:T w:=by assumption) (ha:a.put oi.dst v=a':=by ((try simp only [Act.put,List.setIfInBounds_toArray,List.set_cons_zero,List.set_cons_succ]);exact rfl)):Til P md ops Q T st (n+1) l a w:=by
 subst ha
 exact Til.takeAny hi hs hf hr h1 hQ (Or.inl ⟨hw,hy⟩) hT h
theorem Tl_ (i:Nat) {oi:Oper} {v:Value} {n:Nat} {l:Array Bool} {a a':Act} {w:World} (hi:ops[i]? =some oi) (h:Til P md ops Q T st n (l.setIfInBounds i true) a' w) (hs:Region.noSelect ops=true:=by kernel_rfl) (hf:Region.free md ops l i=true:=by kernel_rfl) (hr:(Region.ready md ops l).contains i=true:=by kernel_rfl) (h1:(!st.contains i && st.any fun j=>l.getD j true)=true:=by kernel_rfl)
 (hQ:∀c a w,Q (.panic c) (a.put oi.dst v) w→Q (.panic c) a w:=by exact fun _ _ _ h=>h) (hw:Region.wanted oi (yielded ops a.tmps)=true:=by kernel_rfl) (hy:∀w,(fun _=>True) w→(execOp a.eval oi).run P w=.ok (.value v) w:=by (intro w hSw;(try dsimp only at hSw);go_simp;(try with_reducible rfl);done)) (ha:a.put oi.dst v=a':=by ((try simp only [Act.put,List.setIfInBounds_toArray,List.set_cons_zero,List.set_cons_succ]);exact rfl)):Til P md ops Q T st (n+1) l a w:=by
 subst ha
 exact Til.takeLate hi hs hf hr h1 hQ (Or.inl ⟨hw,hy⟩) h
end
end
namespace K22
theorem rread_any (p:S.Pc) {hi:Bool} (h0:0≤p.IS) (h1:p.IS < 256) {w:World}:Calls Tryz.prog 93 #[.agg #[.int .i64 p.St,.bool p.Le,.bool p.Fo,.bool p.Si,.bool p.Ft,.int .u8 p.Lw,.int .u8 p.Hg,.bool p.Au,.bool p.Ro,.bool p.Sp,.bool p.RI,.bool p.Po,.int .u8 p.Li,.int .u8 p.Ed,.int .u8 p.IS,.int .u8 p.IM,.int .i64 p.Lo,.int .i64 p.Sq,.int .i64 p.Sv,.bool p.Su],.bool hi] w fun e w'=>e=.returned (.tuple #[.agg (S.rdP p hi).cs,.int .u8 (S.rdW p hi)])∧Adds w w':=by
 have hh:Hid _:=And.intro h0 h1
 clear h0 h1
 cases hi
 ·by_cases hp:p.Po=true
  ·have hb:=S.pkc_bd p
   obtain ⟨n,en⟩:∃n,S.pkc p=n:=⟨_,rfl⟩
   rw [en] at hb
   have EN:Hid (S.pkc p=n):=en
   have EV:Hid (S.pkc {p with Po:=true}=n):=en
   clear en
   rcases (by omega:n= -1∨0≤n) with hn|hn
   ·subst hn
    go_enter Tryz.func93,Tryz.ntmps93
    go_wp2_with (go_at_call 115;refine ad (rpick_any {p with Po:=true} hh.out.1 hh.out.2 _) fun n1 os1=> ?_;rw [EV.out])
    exact bodyPost_ret (ret3_PIC Tryz.results93 (by simp [Act.put,S.rdW,S.pollV,hp,EN.out]) rfl (by simp [go_sem,S.rdP,S.poll,S.Pc.cs,hp,EN.out]) rfl) rfl ⟨rfl,aD⟩
   ·have n8:n < 8:=hb.2
    have hn1:¬n= -1:=by omega
    go_enter Tryz.func93,Tryz.ntmps93
    go_wp2_with (first|(go_at_call 115;refine ad (rpick_any {p with Po:=true} hh.out.1 hh.out.2 _) fun n1 os1=> ?_;rw [EV.out])|(go_at_call 119;refine ad (take_any {p with Po:=false} n hn n8) fun n2 os2=> ?_;simp only [S.Pc.cs,S.sv])|(go_at_call 120;refine ad (done_any ⟨p.St,p.Le,p.Fo,p.Si,p.Ft,p.Lw,p.Hg,true,p.Ro,p.Sp,p.RI,false,p.Li,bits .andNot .u8 p.Ed (S.bl n),bits .or .u8 p.IS (S.bl n),p.IM,p.Lo,p.Sq,p.Sv,p.Su⟩ n hn n8) fun n3 os3=> ?_;simp only [S.Pc.cs]))
    all_goals exact bodyPost_ret (ret3_PIC Tryz.results93 (by simp [Act.put,S.rdW,S.pollV,hp,EN.out,hn1]<;>omega) rfl (by simp [go_sem,S.rdP,S.poll,S.en,S.sv,S.Pc.cs,EN.out,hn1,hp, *]) rfl) rfl ⟨rfl,aD⟩
  ·by_cases hr:p.RI=true
   ·go_enter Tryz.func93,Tryz.ntmps93
    go_wp2_with fail
    go_region
    all_goals go_wp2_with fail
    all_goals exact bodyPost_ret (ret3_PIC Tryz.results93 (by simp [Act.put,S.rdW,hp,hr]) rfl (by simp [go_sem,S.rdP,S.Pc.cs,hp,hr]) rfl) rfl ⟨rfl,aD⟩
   ·go_enter Tryz.func93,Tryz.ntmps93
    go_wp2_with fail
    go_region_with (go_at_call 121;refine ad (rreq_any {p with Po:=false,RI:=false}) fun n1 os1=> ?_)
    all_goals go_wp2_with fail
    all_goals exact bodyPost_ret (ret3_PIC Tryz.results93 (by simp [Act.put,S.rdW,hp,hr];rfl) rfl (by simp [go_sem,S.rdP,S.Pc.cs,hp,hr]) rfl) rfl ⟨rfl,aD⟩
 ·go_enter Tryz.func93,Tryz.ntmps93
  go_wp2_with fail
  go_region
  all_goals go_wp2_with fail
  all_goals exact bodyPost_ret (ret3_PIC Tryz.results93 (by simp [Act.put,S.rdW]) rfl (by simp [go_sem,S.rdP,S.Pc.cs]) rfl) rfl ⟨rfl,aD⟩
end K22
namespace K22
theorem rack_any (p:S.Pc) (h0:0≤p.IS) (h1:p.IS < 256) {w:World}:Calls Tryz.prog 92 #[.agg #[.int .i64 p.St,.bool p.Le,.bool p.Fo,.bool p.Si,.bool p.Ft,.int .u8 p.Lw,.int .u8 p.Hg,.bool p.Au,.bool p.Ro,.bool p.Sp,.bool p.RI,.bool p.Po,.int .u8 p.Li,.int .u8 p.Ed,.int .u8 p.IS,.int .u8 p.IM,.int .i64 p.Lo,.int .i64 p.Sq,.int .i64 p.Sv,.bool p.Su]] w fun e w'=>e=.returned (.tuple #[.agg (S.ack p).cs,.int .u8 (S.ackV p)])∧Adds w w':=by
 have hh:Hid _:=And.intro h0 h1
 clear h0 h1
 have e7:=S.pr_and7 p.Sv
 have b0:0≤p.Sv % 8:=by omega
 have b1:p.Sv % 8 < 8:=by omega
 have hm1:¬p.Sv % 8= -1:=by omega
 by_cases hq:p.Sq=0
 ·have hb:=S.pkc_bd p
  obtain ⟨n,en⟩:∃n,S.pkc p=n:=⟨_,rfl⟩
  rw [en] at hb
  have EN:Hid (S.pkc p=n):=en
  have EV:Hid (S.pkc {p with Sq:=0}=n):=en
  clear en
  rcases (by omega:n= -1∨0≤n) with hn|hn
  ·subst hn
   go_enter Tryz.func92,Tryz.ntmps92
   go_wp2_with (go_at_call 115;refine ad (rpick_any {p with Sq:=0} hh.out.1 hh.out.2 _) fun n1 os1=> ?_;rw [EV.out])
   exact bodyPost_ret (ret3_PIC Tryz.results92 (by simp [Act.put,S.ackV,hq]) rfl (by simp [go_sem,S.ack,S.ch,S.Pc.cs,hq,EN.out]) rfl) rfl ⟨rfl,aD⟩
  ·have n8:n < 8:=hb.2
   have hn1:¬n= -1:=by omega
   go_enter Tryz.func92,Tryz.ntmps92
   go_wp2_with (first|(go_at_call 115;refine ad (rpick_any {p with Sq:=0} hh.out.1 hh.out.2 _) fun n1 os1=> ?_;rw [EV.out])|(go_at_call 119;refine ad (take_any {p with Sq:=1,Sv:=7,Su:=true} n hn n8) fun n2 os2=> ?_;simp only [S.Pc.cs,S.sv]))
   exact bodyPost_ret (ret3_PIC Tryz.results92 (by simp [Act.put,S.ackV,hq]) rfl (by simp [go_sem,S.ack,S.ch,S.sv,S.Pc.cs,hq,EN.out,hn1]) rfl) rfl ⟨rfl,aD⟩
 by_cases hq1:p.Sq=1
 ·by_cases hf:p.Fo=true
  all_goals
   go_enter Tryz.func92,Tryz.ntmps92
   go_wp2_with fail
   go_region
   all_goals go_wp2_with fail
   all_goals exact bodyPost_ret (ret3_PIC Tryz.results92 (by simp [Act.put,S.ackV,S.low,hq1,hf]<;>omega) rfl (by simp [go_sem,S.ack,S.Pc.cs,hq1,hf]) rfl) rfl ⟨rfl,aD⟩
 ·by_cases ha:p.Au=true
  ·by_cases hs:p.Su=true
   all_goals
    go_enter Tryz.func92,Tryz.ntmps92
    go_wp2_with (go_at_call 120;refine ad (done_any {p with Sq:=0,Au:=true,Su:=false} (p.Sv % 8) b0 b1) fun n3 os3=> ?_;simp only [S.Pc.cs])
    go_region
    all_goals go_wp2_with fail
    all_goals exact bodyPost_ret (ret3_PIC Tryz.results92 (by simp [Act.put,S.ackV,S.en,hm1,hq,hq1]) rfl (by simp [go_sem,S.ack,S.fin,S.en,S.Pc.cs,hq,hq1,ha,hs,hm1]) rfl) rfl ⟨rfl,aD⟩
  ·go_enter Tryz.func92,Tryz.ntmps92
   go_wp2_with fail
   go_region
   all_goals go_wp2_with fail
   all_goals exact bodyPost_ret (ret3_PIC Tryz.results92 (by simp [Act.put,S.ackV,hq,hq1]) rfl (by simp [go_sem,S.ack,S.fin,S.Pc.cs,hq,hq1,ha]) rfl) rfl ⟨rfl,aD⟩
end K22
section
section
variable {α:Type} {cs:α→List Value} {sz:Nat} {E:TypeId}
theorem Fl_setPart (hs:∀a,(cs a).length=sz) (k:Nat) (new:List Value) (hk:k+new.length≤sz):∀(d:List α) (i:Nat) (x a:α),d[i]? =some x→cs a=(cs x).take k++new++(cs x).drop (k+new.length)→
 (Fl cs d).take (i * sz+k)++new++(Fl cs d).drop (i * sz+k+new.length)=Fl cs (d.set i a)
 |[],i,x,a,h,_=>by simp at h
 |c::d,0,x,a,h,he=>by
  simp at h;subst h
  have hc:=hs c
  rw [List.set_cons_zero,Fl_cons,Fl_cons,Nat.zero_mul,Nat.zero_add,List.take_append_of_le_length (by omega),List.drop_append_of_le_length (by omega),he]
  simp [List.append_assoc]
 |c::d,i+1,x,a,h,he=>by
  have hc:=hs c
  have ih:=Fl_setPart hs k new hk d i x a (by simpa using h) he
  rw [List.set_cons_succ,Fl_cons,Fl_cons,←ih,show (i+1) * sz+k=sz+(i * sz+k) by rw [Nat.succ_mul];omega,show sz+(i * sz+k)+new.length=sz+(i * sz+k+new.length) by omega]
  rw [List.take_append,List.drop_append,List.take_of_length_le (by omega),List.drop_of_length_le (by omega),hc]
  rw [show sz+(i * sz+k) - sz=i * sz+k by omega,show sz+(i * sz+k+new.length) - sz=i * sz+k+new.length by omega]
  simp [List.append_assoc]
theorem OwnsG.part (hs:∀a,(cs a).length=sz) {w:World} {base g n cap:Nat} {d:List α} (h:OwnsG cs sz E w base (.slice (some ⟨g,0,none⟩) n cap) d) (i k:Nat) (x a:α) (new:List Value) (hi:d[i]? =some x) (hk:k+new.length≤sz) (h0:0 < new.length) (he:cs a=(cs x).take k++new++(cs x).drop (k+new.length)):
 OwnsG cs sz E (w.setRow g (put8 (i * sz+k) new.toArray (rowOf w g))) base (.slice (some ⟨g,0,none⟩) n cap) (d.set i a)∧w.grownBy (w.setRow g (put8 (i * sz+k) new.toArray (rowOf w g))) (some g)∧i * sz+k+new.length≤(rowOf w g).size:=by
 obtain ⟨cur,hg,hb,hdn,hnc,hcm,hcs,ht⟩:=h.elim
 have hrow:rowOf w g=cur:=by unfold rowOf;rw [hg];rfl
 have hin:i < n:=by have:=(List.getElem?_eq_some_iff.1 hi).1;omega
 have h1:i * sz+sz≤n * sz:=by have:=Nat.mul_le_mul_right sz (show i+1≤n by omega);rw [Nat.succ_mul] at this;exact this
 have h2:n * sz≤cap * sz:=Nat.mul_le_mul_right sz hnc
 have hsz:(put8 (i * sz+k) new.toArray cur).size=cap * sz:=by
  simp only [put8,List.size_toArray,List.length_append,List.length_take,List.length_drop,Array.length_toList];omega
 refine ⟨⟨by rw [Fl_len hs,List.length_set],.inr ⟨g,cap,put8 (i * sz+k) new.toArray cur,by rw [List.length_set,hdn],hb,?_,by rw [List.length_set,hdn];exact hnc,hcm,hsz,?_⟩⟩,grown_setRow w g _,by rw [hrow];omega⟩
 ·rw [hrow];exact setRow_heap w g cur _ E (0,0) hg
 ·rw [List.length_set,hdn]
  show ((cur.toList.take (i * sz+k)++new++cur.toList.drop (i * sz+k+new.length))).take (n * sz)=_
  rw [take_mid cur.toList new (i * sz+k) new.length (n * sz) rfl (by omega) (by simp;omega),ht]
  exact Fl_setPart hs k new hk d i x a hi he
theorem OwnsG.one (hs:∀a,(cs a).length=sz) {w:World} {base g n cap:Nat} {d:List α} (h:OwnsG cs sz E w base (.slice (some ⟨g,0,none⟩) n cap) d) (i k:Nat) (x a:α) (v:Value) (hi:d[i]? =some x) (hk:k+1≤sz) (he:cs a=(cs x).take k++[v]++(cs x).drop (k+1)):
 OwnsG cs sz E (w.setCell ⟨g,i * sz+k,none⟩ v) base (.slice (some ⟨g,0,none⟩) n cap) (d.set i a)∧w.grownBy (w.setCell ⟨g,i * sz+k,none⟩ v) (some g):=by
 obtain ⟨cur,hg,_⟩:=h.elim
 obtain ⟨h1,h2,h3⟩:=OwnsG.part hs h i k x a [v] hi hk (by simp) he
 have hrow:rowOf w g=cur:=by unfold rowOf;rw [hg];rfl
 have e:w.setCell ⟨g,i * sz+k,none⟩ v=w.setRow g (put8 (i * sz+k) [v].toArray (rowOf w g)):=by
  rw [setCell_eq_setRow w g (i * sz+k) cur E (0,0) v hg,hrow]
  congr 1
  rw [hrow] at h3
  simp only [List.length_singleton] at h3
  apply Array.toList_inj.1
  simp only [put8,Array.toList_setIfInBounds]
  rw [List.set_eq_take_append_cons_drop,if_pos (by rw [Array.length_toList];omega)]
  simp [List.append_assoc]
 rw [e];exact ⟨h1,h2⟩
end
end
section
inductive Jd where
 |box
 |nx (n:Int)
 |bo
 |sl (n:Nat) (c:Array Value)
 |ix (n:Nat) (c:Array Value)
 |st
 |ag
 |pt
def j8:Array Value:=#[.int .i64 1,.int .i64 1,.int .i64 1,.int .i64 2,.int .i64 3,.int .i64 4,.int .i64 0,.int .i64 5]
def j6:Array Value:=#[.int .i64 0,.int .i64 0,.int .i64 0,.int .i64 1,.int .i64 3,.int .i64 (-1)]
def Jd.ok (b z:Nat) (w:World) (v:Value):Jd→Prop
 | .box=>v=.pointer (some ⟨b,0,none⟩)
 | .nx n=>∃y:Int,(0≤y∧y < n)∧v=.int .i64 y
 | .bo=>∃f:Bool,v=.bool f
 | .sl n c=>∃bs,v=.slice (some ⟨bs,0,none⟩) n n∧bs≠b∧w.heap[bs]? =some (.cells c 3 (0,0))
 | .ix n c=>∃bs k,v=.pointer (some ⟨bs,k,none⟩)∧k < n∧bs≠b∧w.heap[bs]? =some (.cells c 3 (0,0))
 | .st=>∃y:Int,v=.int .i64 y
 | .ag=>∃p:S.It,v=.agg p.cs
 | .pt=>∃r,v=.pointer (some ⟨r,0,none⟩)∧r≠b∧z≤r∧w.heap[r]? =some (.cells S.It.zero.cs 65 (0,0))
def js:List Jd:=[.sl 8 j8,.box,.nx 8,.ix 8 j8,.st,.sl 6 j6,.box,.nx 6,.ix 6 j6,.st,.box,.nx 8,.st,.box,.bo,.box,.bo,.ag,.pt]
def jsl (i:Nat):Nat:=if i=18 then 6 else i+15
theorem Jd.keep {b z:Nat} {w w':World} {v:Value} (h:KeepsJ b w w'):∀{k:Jd},k.ok b z w v→k.ok b z w' v
 | .box,hk=>hk
 | .nx _,hk=>hk
 | .bo,hk=>hk
 | .sl _ _,⟨bs,h1,h2,h3⟩=>⟨bs,h1,h2,(h bs h2 (Array.getElem?_eq_some_iff.1 h3).1).trans h3⟩
 | .ix _ _,⟨bs,k,h1,h0,h2,h3⟩=>⟨bs,k,h1,h0,h2,(h bs h2 (Array.getElem?_eq_some_iff.1 h3).1).trans h3⟩
 | .st,hk=>hk
 | .ag,hk=>hk
 | .pt,⟨r,h1,h2,h4,h3⟩=>⟨r,h1,h2,h4,(h r h2 (Array.getElem?_eq_some_iff.1 h3).1).trans h3⟩
theorem Adds.setRowJ {w w':World} (h:Adds w w') {b:Nat} (hb:w.heap.size≤b) (cs:Array Value):Adds w (w'.setRow b cs):=by
 obtain ⟨⟨n,os⟩,rfl⟩:=h
 have e:(More w n os).setRow b cs=(More w n os).setRow b cs:=rfl
 conv at e=>rhs;simp only [World.setRow,More];rw [modify_right hb]
 exact ⟨⟨n,_⟩,e⟩
structure Jv (b N:Nat) (w0:World) (a0:Act) (n:Nat) (L:Array Bool) (a:Act) (w:World):Prop where
 d:a.defers=a0.defers
 z:a.tmps.size=65
 t3:a.tmps.getD 3 undef=.pointer (some ⟨b,0,none⟩)
 o:∀j,j≠6→(j < 15∨33≤j)→a.tmps.getD j undef=a0.tmps.getD j undef
 m:L.getD 19 false=false→(∃M,M≤N+2 * n∧Up w0 b M w)∧∀i k,js[i]? =some k→L.getD i false=true→k.ok b w0.heap.size w (a.tmps.getD (jsl i) undef)
 l:L.getD 19 false=true→(∀i,i < 19→L.getD i false=true)∧∃(p:S.It) (M r:Nat) (w1:World),M≤N+2 * n∧Up w0 b M w1∧(r≠b∧w0.heap.size≤r)∧a.tmps.getD 6 undef=.pointer (some ⟨r,0,none⟩)∧w1.heap[r]? =some (.cells S.It.zero.cs 65 (0,0))∧w=w1.setRow r p.cs
section
variable {b N:Nat} {w0:World} {a0:Act} {n:Nat} {L:Array Bool} {a:Act} {w w':World} {ops:Array Oper} {md:Region.Mode} {i:Nat}
theorem Jv.open (h:Jv b N w0 a0 n L a w) (hr:i∈Region.ready md ops L) (hi:i < 19):L.getD 19 false=false:=by
 cases h62:L.getD 19 false with
 |false=>rfl
 |true=>
  have h1:=(h.l h62).1 i hi
  have h2:=unlisted (mem_ready.1 hr).1
  rw [Array.getD_eq_getD_getElem?,h2] at h1
  cases h1
theorem jsl_inj {i j:Nat} (hi:i < 19) (hj:j < 19) (h:jsl i=jsl j):i=j:=by
 unfold jsl at h
 split at h<;>split at h<;>omega
theorem Jv.put (h:Jv b N w0 a0 n L a w) (hr:i∈Region.ready md ops L) (hi:i < 19) {k:Jd} (hk:js[i]? =some k) {v:Value} (hv:k.ok b w0.heap.size w' v) (hw:KeepsJ b w w') {M:Nat} (hM:M≤N+2 * (n+1)) (hU:Up w0 b M w'):
 Jv b N w0 a0 (n+1) (L.setIfInBounds i true) (a.put (some (jsl i)) v) w':=by
 have h62:=h.open hr hi
 have hne:i≠19:=by omega
 have g:∀j,j≠jsl i→(a.put (some (jsl i)) v).tmps.getD j undef=a.tmps.getD j undef:=fun j hj=>by
  simp [Act.put,Array.getElem?_setIfInBounds_ne (Ne.symm hj)]
 have hb:jsl i < 65∧jsl i≠3∧(jsl i=6∨(15≤jsl i∧jsl i < 33)):=by unfold jsl;split<;>omega
 have g':(a.put (some (jsl i)) v).tmps.getD (jsl i) undef=v:=by
  have:jsl i < a.tmps.size:=by rw [h.z];omega
  simp [Act.put,this]
 refine ⟨h.d,by simpa [Act.put] using h.z,by rw [g 3 (by omega)];exact h.t3,fun j h6 hj=>by rw [g j (by omega)];exact h.o j h6 hj,fun _=>⟨⟨M,hM,hU⟩,fun j k' hk' hl=> ?_⟩,fun h'=> ?_⟩
 ·have hj:j < 19:=(List.getElem?_eq_some_iff.1 hk').1
  rcases listed_set L i j hl with e|hl'
  ·subst e
   rw [hk] at hk'
   cases hk'
   rw [g']
   exact hv
  ·by_cases e:j=i
   ·subst e
    rw [hk] at hk'
    cases hk'
    rw [g']
    exact hv
   ·rw [g (jsl j) (fun e'=>e (jsl_inj hj hi e'))]
    exact Jd.keep hw ((h.m h62).2 j k' hk' hl')
 ·rw [listed_set_ne L i 19 hne,h62] at h'
  cases h'
theorem Jv.same (h:Jv b N w0 a0 n L a w) (hr:i∈Region.ready md ops L) (hi:i < 19) {k:Jd} (hk:js[i]? =some k) {v:Value} (hv:k.ok b w0.heap.size w v):
 Jv b N w0 a0 (n+1) (L.setIfInBounds i true) (a.put (some (jsl i)) v) w:=by
 obtain ⟨M,hM,hU⟩:=(h.m (h.open hr hi)).1
 exact h.put hr hi hk hv (fun _ _ _=>rfl) (by omega) hU
theorem Jv.get (h:Jv b N w0 a0 n L a w) (hr:i∈Region.ready md ops L) (hi:i < 19) {j:Nat} {k:Jd} (hk:js[j]? =some k) (hj:((ops[i]?).map fun o=>o.after.any fun e=>Region.binds md e && e.on==j)=some true):k.ok b w0.heap.size w (a.tmps.getD (jsl j) undef):=
 (h.m (h.open hr hi)).2 j k hk (ready_dep hr hj)
end
@[noinline] def sixthOps (f:Func):Array Oper:=match f.body with
 |some c=>(regOps c 6).getD #[]
 |_=>#[]
noncomputable abbrev mdOps:Array Oper:=sixthOps Tryz.f7
theorem mdOps_size:(mdOps).size=20:=by kernel_rfl
section
variable {b N:Nat} {w0:World} {a0:Act} {n:Nat} {L:Array Bool} {a:Act} {w:World} {i s t j:Nat} {len cap:Nat} {aa:Option Addr}
abbrev JStep (b N:Nat) (w0:World) (a0:Act) (Q:Exit→Act→World→Prop) (n:Nat) (L:Array Bool) (a:Act) (w:World) (i:Nat):Prop:=
 wpOp Tryz.prog mdOps Q i (fun a' w'=>Jv b N w0 a0 (n+1) (L.setIfInBounds i true) a' w') a w
variable {Q:Exit→Act→World→Prop}
theorem jp_move (h:Jv b N w0 a0 n L a w) (hr:i∈Region.ready .any mdOps L) (hi:i < 19) (hk:js[i]? =some .box)
 (ho:(mdOps[i]?).map (fun o=>(o.dst,o.op,o.guard))=some (some (jsl i),.move (.tmp 3),none)):JStep b N w0 a0 Q n L a w i:=
 st_move ho h.t3 (h.same hr hi hk rfl)
theorem jp_next {c:Int} (c0:1≤c∧c≤65536) (h:Jv b N w0 a0 n L a w) (hr:i∈Region.ready .any mdOps L) (hi:i < 19) (hk:js[i]? =some (.nx c))
 (ho:(mdOps[i]?).map (fun o=>(o.dst,o.op,o.guard))=some (some (jsl i),.call {callee:=.value (.func 18),args:=#[.tmp (jsl j),.const (.int .i64 c)],argTypes:=#[68,3]},none)) (hj:js[j]? =some .box) (hd:((mdOps[i]?).map fun o=>o.after.any fun e=>Region.binds .any e && e.on==j)=some true)
 (hb0:Nb w0 b aa len cap N) (hM:N≤90000000) (hn:n < 20):JStep b N w0 a0 Q n L a w i:=by
 obtain ⟨⟨M,hM1,hU⟩,_⟩:=h.m (h.open hr hi)
 refine st_call2 ho (h.get hr hi hj hd) (by simp [go_sem]) ?_
 refine (nx_any b len cap M aa c c0.1 c0.2 (by omega) _ (hb0.up hU)).mono ?_
 rintro e w2 ⟨y,M2,hy0,hy1,hM2,rfl,hU2⟩
 exact ⟨_,rfl,h.put hr hi hk ⟨y,⟨hy0,hy1⟩,rfl⟩ hU2.keepsJ (M:=M2) (by omega) (hU.then hb0.lt hU2)⟩
theorem jp_flag (h:Jv b N w0 a0 n L a w) (hr:i∈Region.ready .any mdOps L) (hi:i < 19) (hk:js[i]? =some .bo)
 (ho:(mdOps[i]?).map (fun o=>(o.dst,o.op,o.guard))=some (some (jsl i),.call {callee:=.value (.func 19),args:=#[.tmp (jsl j)],argTypes:=#[68]},none)) (hj:js[j]? =some .box) (hd:((mdOps[i]?).map fun o=>o.after.any fun e=>Region.binds .any e && e.on==j)=some true)
 (hb0:Nb w0 b aa len cap N) (hM:N≤90000000) (hn:n < 20):JStep b N w0 a0 Q n L a w i:=by
 obtain ⟨⟨M,hM1,hU⟩,_⟩:=h.m (h.open hr hi)
 refine st_call1 ho (h.get hr hi hj hd) (by simp [go_sem]) ?_
 refine (flg_any b len cap M aa (by omega) (hb0.up hU)).mono ?_
 rintro e w2 ⟨f,M2,hM2,rfl,hU2⟩
 exact ⟨_,rfl,h.put hr hi hk ⟨f,rfl⟩ hU2.keepsJ (M:=M2) (by omega) (hU.then hb0.lt hU2)⟩
end
theorem jp_slice0 {b N:Nat} {w0:World} {a0:Act} {n:Nat} {L:Array Bool} {a:Act} {w:World} {Q:Exit→Act→World→Prop} (h:Jv b N w0 a0 n L a w) (hr:0∈Region.ready .any mdOps L) {aa:Option Addr} {len cap:Nat} (hb0:Nb w0 b aa len cap N):JStep b N w0 a0 Q n L a w 0:=by
 obtain ⟨⟨M,hM1,hU⟩,_⟩:=h.m (h.open hr (by omega))
 have hbw:b < w.heap.size:=(hb0.up hU).lt
 refine st_buildSlice (xt:=23) (len:=8) (v:=.slice (some ⟨w.heap.size,0,none⟩) 8 8) (w':=w.alloc (.cells j8 3)) (parts:=#[(0,.const (.int .i64 1)),(1,.const (.int .i64 1)),(2,.const (.int .i64 1)),(3,.const (.int .i64 2)),(4,.const (.int .i64 3)),(5,.const (.int .i64 4)),(6,.const (.int .i64 0)),(7,.const (.int .i64 5))]) (t:=15) (by kernel_rfl) rfl ?_ ?_
 ·simp [go_sem,j8]
 ·exact h.put hr (by omega) (k:=.sl 8 j8) rfl ⟨w.heap.size,rfl,by omega,heap_last w _⟩ (fun c _ hc=>heap_past w _ hc) (M:=M) (by omega) (hU.alloc _)
theorem jp_slice5 {b N:Nat} {w0:World} {a0:Act} {n:Nat} {L:Array Bool} {a:Act} {w:World} {Q:Exit→Act→World→Prop} (h:Jv b N w0 a0 n L a w) (hr:5∈Region.ready .any mdOps L) {aa:Option Addr} {len cap:Nat} (hb0:Nb w0 b aa len cap N):JStep b N w0 a0 Q n L a w 5:=by
 obtain ⟨⟨M,hM1,hU⟩,_⟩:=h.m (h.open hr (by omega))
 have hbw:b < w.heap.size:=(hb0.up hU).lt
 refine st_buildSlice (xt:=23) (len:=6) (v:=.slice (some ⟨w.heap.size,0,none⟩) 6 6) (w':=w.alloc (.cells j6 3)) (parts:=#[(0,.const (.int .i64 0)),(1,.const (.int .i64 0)),(2,.const (.int .i64 0)),(3,.const (.int .i64 1)),(4,.const (.int .i64 3)),(5,.const (.int .i64 (-1)))]) (t:=20) (by kernel_rfl) rfl ?_ ?_
 ·simp [go_sem,j6]
 ·exact h.put hr (by omega) (k:=.sl 6 j6) rfl ⟨w.heap.size,rfl,by omega,heap_last w _⟩ (fun c _ hc=>heap_past w _ hc) (M:=M) (by omega) (hU.alloc _)
theorem jp_ix3 {b N:Nat} {w0:World} {a0:Act} {n:Nat} {L:Array Bool} {a:Act} {w:World} {Q:Exit→Act→World→Prop} (h:Jv b N w0 a0 n L a w) (hr:3∈Region.ready .any mdOps L):JStep b N w0 a0 Q n L a w 3:=by
 obtain ⟨bs,e,hne,hh⟩:=h.get (j:=0) (k:=.sl 8 j8) hr (by omega) rfl (by kernel_rfl)
 obtain ⟨y,hy,e'⟩:=h.get (j:=2) (k:=.nx 8) hr (by omega) rfl (by kernel_rfl)
 obtain ⟨k,rfl⟩:∃k:Nat,y=(k:Int):=⟨y.toNat,by omega⟩
 have hk:k < 8:=by omega
 refine st_indexAddr (v:=.pointer (some ⟨bs,k,none⟩)) (xt:=23) (t:=18) (by kernel_rfl) e e' ?_ (h.same hr (by omega) (k:=.ix 8 j8) rfl ⟨bs,k,rfl,hk,hne,hh⟩)
 have h6:(k:Int) < 8:=hy.2
 simp [go_sem,h6]
theorem jp_ix8 {b N:Nat} {w0:World} {a0:Act} {n:Nat} {L:Array Bool} {a:Act} {w:World} {Q:Exit→Act→World→Prop} (h:Jv b N w0 a0 n L a w) (hr:8∈Region.ready .any mdOps L):JStep b N w0 a0 Q n L a w 8:=by
 obtain ⟨bs,e,hne,hh⟩:=h.get (j:=5) (k:=.sl 6 j6) hr (by omega) rfl (by kernel_rfl)
 obtain ⟨y,hy,e'⟩:=h.get (j:=7) (k:=.nx 6) hr (by omega) rfl (by kernel_rfl)
 obtain ⟨k,rfl⟩:∃k:Nat,y=(k:Int):=⟨y.toNat,by omega⟩
 have hk:k < 6:=by omega
 refine st_indexAddr (v:=.pointer (some ⟨bs,k,none⟩)) (xt:=23) (t:=23) (by kernel_rfl) e e' ?_ (h.same hr (by omega) (k:=.ix 6 j6) rfl ⟨bs,k,rfl,hk,hne,hh⟩)
 have h6:(k:Int) < 6:=hy.2
 simp [go_sem,h6]
theorem jp_load4 {b N:Nat} {w0:World} {a0:Act} {n:Nat} {L:Array Bool} {a:Act} {w:World} {Q:Exit→Act→World→Prop} (h:Jv b N w0 a0 n L a w) (hr:4∈Region.ready .any mdOps L):JStep b N w0 a0 Q n L a w 4:=by
 obtain ⟨bs,k,e,hk,hne,hh⟩:=h.get (j:=3) (k:=.ix 8 j8) hr (by omega) rfl (by kernel_rfl)
 have hc:∃z:Int,w.cell? ⟨bs,k,none⟩=some (.int .i64 z):=by
  rw [cell_of_row w bs k _ _ _ hh]
  have hq:k=0∨k=1∨k=2∨k=3∨k=4∨k=5∨k=6∨k=7:=by omega
  repeat (first|(rcases hq with rfl|hq;exact ⟨_,rfl⟩)|(subst hq;exact ⟨_,rfl⟩))
 obtain ⟨z,hc⟩:=hc
 refine st_load (v:=.int .i64 z) (xt:=3) (t:=19) (by kernel_rfl) e ?_ (h.same hr (by omega) (k:=.st) rfl ⟨z,rfl⟩)
 simp [go_sem,hc]
theorem jp_load9 {b N:Nat} {w0:World} {a0:Act} {n:Nat} {L:Array Bool} {a:Act} {w:World} {Q:Exit→Act→World→Prop} (h:Jv b N w0 a0 n L a w) (hr:9∈Region.ready .any mdOps L):JStep b N w0 a0 Q n L a w 9:=by
 obtain ⟨bs,k,e,hk,hne,hh⟩:=h.get (j:=8) (k:=.ix 6 j6) hr (by omega) rfl (by kernel_rfl)
 have hc:∃z:Int,w.cell? ⟨bs,k,none⟩=some (.int .i64 z):=by
  rw [cell_of_row w bs k _ _ _ hh]
  have hq:k=0∨k=1∨k=2∨k=3∨k=4∨k=5:=by omega
  repeat (first|(rcases hq with rfl|hq;exact ⟨_,rfl⟩)|(subst hq;exact ⟨_,rfl⟩))
 obtain ⟨z,hc⟩:=hc
 refine st_load (v:=.int .i64 z) (xt:=3) (t:=24) (by kernel_rfl) e ?_ (h.same hr (by omega) (k:=.st) rfl ⟨z,rfl⟩)
 simp [go_sem,hc]
theorem jp_sub {b N:Nat} {w0:World} {a0:Act} {n:Nat} {L:Array Bool} {a:Act} {w:World} {Q:Exit→Act→World→Prop} (h:Jv b N w0 a0 n L a w) (hr:12∈Region.ready .any mdOps L):JStep b N w0 a0 Q n L a w 12:=by
 obtain ⟨y,hy,e⟩:=h.get (j:=11) (k:=.nx 8) hr (by omega) rfl (by kernel_rfl)
 exact st_binc (op:=.sub) (c:=.int .i64 1) (xt:=3) (yt:=3) (t:=27) (v:=.int .i64 (IntKind.i64.wrap (y - 1))) (by kernel_rfl) e (by simp [go_sem]) (h.same hr (by omega) (k:=.st) rfl ⟨_,rfl⟩)
theorem jp_build {b N:Nat} {w0:World} {a0:Act} {n:Nat} {L:Array Bool} {a:Act} {w:World} {Q:Exit→Act→World→Prop} (h:Jv b N w0 a0 n L a w) (hr:17∈Region.ready .any mdOps L):JStep b N w0 a0 Q n L a w 17:=by
 obtain ⟨yk,ek⟩:=h.get (j:=4) (k:=.st) hr (by omega) rfl (by kernel_rfl)
 obtain ⟨yw,ew⟩:=h.get (j:=9) (k:=.st) hr (by omega) rfl (by kernel_rfl)
 obtain ⟨yn,en⟩:=h.get (j:=12) (k:=.st) hr (by omega) rfl (by kernel_rfl)
 obtain ⟨ye,ee⟩:=h.get (j:=14) (k:=.bo) hr (by omega) rfl (by kernel_rfl)
 obtain ⟨yo,eo⟩:=h.get (j:=16) (k:=.bo) hr (by omega) rfl (by kernel_rfl)
 refine st_build (xt:=65) (t:=32) (parts:=#[(0,.tmp 19),(2,.tmp 24),(3,.tmp 27),(4,.tmp 29),(5,.tmp 31)]) (vs:=#[(0,.int .i64 yk),(2,.int .i64 yw),(3,.int .i64 yn),(4,.bool ye),(5,.bool yo)]) (v:=.agg (S.It.cs ⟨yk,0,0,0,0,yw,yn,ye,yo⟩)) (w':=w) (by kernel_rfl) ?_ ?_ (h.same hr (by omega) (k:=.ag) rfl ⟨_,rfl⟩)
 ·have q:∀t,a.eval (.tmp t)=a.tmps.getD t undef:=fun _=>rfl
  change a.tmps.getD 19 undef=_ at ek
  change a.tmps.getD 24 undef=_ at ew
  change a.tmps.getD 27 undef=_ at en
  change a.tmps.getD 29 undef=_ at ee
  change a.tmps.getD 31 undef=_ at eo
  simp only [List.map_toArray,List.map_cons,List.map_nil,q,ek,ew,en,ee,eo]
 ·exact run_build w _ _ _ (by kernel_rfl)
theorem jp_alloc {b N:Nat} {w0:World} {a0:Act} {n:Nat} {L:Array Bool} {a:Act} {w:World} {Q:Exit→Act→World→Prop} (h:Jv b N w0 a0 n L a w) (hr:18∈Region.ready .any mdOps L) {aa:Option Addr} {len cap:Nat} (hb0:Nb w0 b aa len cap N):JStep b N w0 a0 Q n L a w 18:=by
 obtain ⟨⟨M,hM1,hU⟩,_⟩:=h.m (h.open hr (by omega))
 have hbw:b < w.heap.size:=(hb0.up hU).lt
 obtain ⟨ty,pos,aft,ho⟩:=op_of (ops:=mdOps) (i:=18) (d:=some 6) (op:=.alloc 65) (by kernel_rfl)
 refine st_val (t:=6) (v:=.pointer (some ⟨w.heap.size,0,none⟩)) (w':=w.alloc (.cells S.It.zero.cs 65)) ho rfl rfl ?_ ?_
 ·simp [go_sem,S.It.cs,S.It.zero]
 ·exact h.put hr (by omega) (k:=.pt) rfl ⟨w.heap.size,rfl,by omega,hU.size,heap_last w _⟩ (fun c _ hc=>heap_past w _ hc) (M:=M) (by omega) (hU.alloc _)
theorem jp_store {b N:Nat} {w0:World} {a0:Act} {n:Nat} {L:Array Bool} {a:Act} {w:World} {Q:Exit→Act→World→Prop} (h:Jv b N w0 a0 n L a w) (hz:L.size=20) (hr:19∈Region.ready .any mdOps L):JStep b N w0 a0 Q n L a w 19:=by
 have h62:L.getD 19 false=false:=by
  have h2:=unlisted (mem_ready.1 hr).1
  rw [Array.getD_eq_getD_getElem?,h2]
  rfl
 obtain ⟨⟨M,hM1,hU⟩,hs⟩:=h.m h62
 have hall:∀i,i < 19→L.getD i false=true:=by
  intro i hi
  refine ready_dep hr ?_
  have key:((List.range 19).all fun i=>((mdOps[19]?).map fun o=>o.after.any fun e=>Region.binds .any e && e.on==i)==some true)=true:=by kernel_rfl
  simpa using List.all_eq_true.1 key i (List.mem_range.2 hi)
 obtain ⟨p,e⟩:=hs 17 .ag rfl (hall 17 (by omega))
 obtain ⟨r,e6,hrb,hrz,hrh⟩:=hs 18 .pt rfl (hall 18 (by omega))
 have hrow:rowOf w r=S.It.zero.cs:=by unfold rowOf;rw [hrh];rfl
 refine st_store (w':=w.setRow r p.cs) (xt:=65) (s:=6) (s':=32) (by kernel_rfl) e6 e ?_ ?_
 ·simp only [go_sem]
  exact set_all (n:=9) (by kernel_rfl) w r p.cs rfl (by decide) (by rw [hrow];rfl) rfl
 ·refine ⟨h.d,h.z,h.t3,h.o,fun h'=> ?_,fun _=>⟨fun i hi=> ?_,p,M,r,w,by omega,hU,⟨hrb,hrz⟩,e6,hrh,rfl⟩⟩
  ·rw [listed_set_same L 19 (by omega)] at h'
   cases h'
  ·rw [listed_set_ne L 19 i (by omega)]
   exact hall i hi
theorem jp_all {b N:Nat} {w0:World} {a0:Act} {n:Nat} {L:Array Bool} {a:Act} {w:World} {Q:Exit→Act→World→Prop} {len cap:Nat} {aa:Option Addr} (hb0:Nb w0 b aa len cap N) (hM:N≤90000000) (hn:n < 20) (hz:L.size=20):
 ∀i,Jv b N w0 a0 n L a w→i∈Region.ready .any mdOps L→i < 20→JStep b N w0 a0 Q n L a w i:=by
 intro i h hr hi
 match i,h,hr,hi with
 |0,h,hr,_=>exact jp_slice0 h hr hb0
 |1,h,hr,_=>exact jp_move h hr (by omega) rfl (by kernel_rfl)
 |2,h,hr,_=>exact jp_next (c:=8) (j:=1) (by omega) h hr (by omega) rfl (by kernel_rfl) rfl (by kernel_rfl) hb0 hM hn
 |3,h,hr,_=>exact jp_ix3 h hr
 |4,h,hr,_=>exact jp_load4 h hr
 |5,h,hr,_=>exact jp_slice5 h hr hb0
 |6,h,hr,_=>exact jp_move h hr (by omega) rfl (by kernel_rfl)
 |7,h,hr,_=>exact jp_next (c:=6) (j:=6) (by omega) h hr (by omega) rfl (by kernel_rfl) rfl (by kernel_rfl) hb0 hM hn
 |8,h,hr,_=>exact jp_ix8 h hr
 |9,h,hr,_=>exact jp_load9 h hr
 |10,h,hr,_=>exact jp_move h hr (by omega) rfl (by kernel_rfl)
 |11,h,hr,_=>exact jp_next (c:=8) (j:=10) (by omega) h hr (by omega) rfl (by kernel_rfl) rfl (by kernel_rfl) hb0 hM hn
 |12,h,hr,_=>exact jp_sub h hr
 |13,h,hr,_=>exact jp_move h hr (by omega) rfl (by kernel_rfl)
 |14,h,hr,_=>exact jp_flag (j:=13) h hr (by omega) rfl (by kernel_rfl) rfl (by kernel_rfl) hb0 hM hn
 |15,h,hr,_=>exact jp_move h hr (by omega) rfl (by kernel_rfl)
 |16,h,hr,_=>exact jp_flag (j:=15) h hr (by omega) rfl (by kernel_rfl) rfl (by kernel_rfl) hb0 hM hn
 |17,h,hr,_=>exact jp_build h hr
 |18,h,hr,_=>exact jp_alloc h hr hb0
 |19,h,hr,_=>exact jp_store h hz hr
 |i+20,_,_,hi=>exact absurd hi (by omega)
theorem jp_region {b N:Nat} {w0:World} {a0:Act} {len cap:Nat} {aa:Option Addr} {Q:Exit→Act→World→Prop} (hb0:Nb w0.drew b aa len cap N) (hM:N≤90000000) (hz:a0.tmps.size=65) (h3:a0.tmps.getD 3 undef=.pointer (some ⟨b,0,none⟩))
 (hK:∀(a:Act) (w:World) (p:S.It) (M r:Nat),a.defers=a0.defers→a.tmps.size=65→(∀j,j≠6→(j < 15∨33≤j)→a.tmps.getD j undef=a0.tmps.getD j undef)→a.tmps.getD 6 undef=.pointer (some ⟨r,0,none⟩)→M≤N+40→Up w0 b M w→r≠b→w0.heap.size≤r→w.heap[r]? =some (.cells p.cs 65 (0,0))→Q .normal a w):
 (Code.region 6 mdOps true).wp Tryz.prog Q a0 w0:=by
 refine wp_region_any (by kernel_rfl) ?_
 refine wpAny_inv (Jv b N w0.drew a0) (fun n L a' w' i hn hz' h hr=> ?_) (fun n L a' w' hn hz' h hr=> ?_) _ 0 _ _ _ (by rw [Nat.zero_add]) (by simp) (Nat.le_trans List.countP_le_length (by simp)) ?_
 ·rw [mdOps_size] at hn hz'
  have hi:i < 20:=by
   have h2:=(Array.getElem?_eq_some_iff.1 (unlisted (mem_ready.1 hr).1)).1
   omega
  exact jp_all hb0 hM hn hz' i h hr hi
 ·have hl:=all_listed (by kernel_rfl) hz' hr 19 (by rw [mdOps_size];omega)
  obtain ⟨_,p,M,r,w1,hM1,hU,⟨hrb,hrz⟩,e6,hrh,rfl⟩:=h.l hl
  rw [mdOps_size] at hn
  have hs:(w0.drew.setCell ⟨b,1,none⟩ (.int .i64 (M:Int))).heap.size=w0.drew.heap.size:=Array.size_modify ..
  have hU1:Up w0 b M (w1.setRow r p.cs):=Adds.setRowJ (w:=w0.setCell ⟨b,1,none⟩ (.int .i64 (M:Int))) hU (by rw [show (w0.setCell ⟨b,1,none⟩ (.int .i64 (M:Int))).heap.size=w0.heap.size from Array.size_modify ..];exact hrz) _
  exact hK a' _ p M r h.d h.z h.o e6 (by omega) hU1 hrb hrz (setRow_heap w1 r _ _ _ (0,0) hrh)
 ·exact ⟨rfl,hz,h3,fun _ _ _=>rfl,fun _=>⟨⟨N,by omega,Up.reflJ hb0⟩,fun i k _ hl=>by rw [replicate_getD] at hl;cases hl⟩,fun hl=>by rw [replicate_getD] at hl;cases hl⟩
end
end Go.Proofs.YteggjjhjmhccjaaGreat
