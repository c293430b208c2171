/- The iterator of an expansion: it yields the pins of items, one after another (a contract for every loop body that keeps what lay before). Conditions: the slice holds the items. -/
import Derived.RangeFuncNested
import Derived.RangeFuncBound
import Derived.RangeFuncCalls
import Derived.RangeFuncLeaves
import Derived.Shelf.Abstract
import Derived.Shelf.RegionOpen
import Derived.WalkKit
import Derived.OwnWalkIn
import Derived.TacticsInMore
import Derived.LoopNIn
import Derived.LoopIn
import Derived.Lib.Hide
import Derived.Test.YtfhnfakjjfjohaaC26d
import Derived.Test.YtfhnfakjjfjohaaC26k
namespace Go.Proofs.Ytfhnfakjjfjohaa
open Go.ChangeShapes Go.WideShapes Go.ChangeAt Go.RowKit Go.Shelf
set_option linter.unusedVariables false
attribute [local go_sem] Oper.semAt_some
def S.encQ (p : S.Pn) : Array Value := #[.agg p.cs]
theorem adds_abides {β : Type} {n₀ : Nat} {J : β → World → Prop} (h : AbidesFrom n₀ J) {s : β} {W W' : World} (hJ : J s W) (k : Adds W W') : J s W' :=
  h s W W' none hJ (k.grownBy none) (fun r e => by cases e)
/-- Block g is the own block of the slice in box B. -/
def OwnAt (W : World) (B g : Nat) : Prop := ∃ v, W.cell? ⟨B, 0, none⟩ = some v ∧ v.ownBlock = some g
/-- What a loop body that appends to the slice in box B keeps: every block of cells but the box and the slice's own; a new own block is a new block. -/
def Kb (B : Nat) (W W' : World) : Prop :=
  W.heap.size ≤ W'.heap.size ∧ (∀ b o, W.heap[b]? = some o → o.isCells = true → b ≠ B → ¬ OwnAt W B b → W'.heap[b]? = some o) ∧ (∀ g, OwnAt W' B g → OwnAt W B g ∨ (W.heap.size ≤ g ∧ g < W'.heap.size))
theorem Kb.trans {B : Nat} {W1 W2 W3 : World} (h : Kb B W1 W2) (k : Kb B W2 W3) : Kb B W1 W3 := by
  refine ⟨Nat.le_trans h.1 k.1, fun b o hb hc hne hn => ?_, fun g hg => ?_⟩
  · refine k.2.1 b o (h.2.1 b o hb hc hne hn) hc hne fun hw => ?_
    rcases h.2.2 b hw with e | e
    · exact hn e
    · have := (Array.getElem?_eq_some_iff.1 hb).1; omega
  · have h1 := h.1
    have k1 := k.1
    rcases k.2.2 g hg with e | e
    · rcases h.2.2 g e with e | e
      · exact .inl e
      · exact .inr ⟨e.1, by omega⟩
    · exact .inr ⟨by omega, e.2⟩
theorem Kb.adds {B : Nat} {W W' : World} (h : Adds W W') (hB : B < W.heap.size) : Kb B W W' := by
  have hb := h.below
  refine ⟨hb.size, fun b o h1 _ _ _ => (hb.block b (Array.getElem?_eq_some_iff.1 h1).1).trans h1, fun g hg => .inl ?_⟩
  obtain ⟨v, h1, h2⟩ := hg
  exact ⟨v, by rw [← h.cell (i := 0) hB]; exact h1, h2⟩
theorem Kb.refl (B : Nat) (W : World) : Kb B W W := ⟨Nat.le_refl _, fun _ _ h _ _ _ => h, fun _ h => .inl h⟩
theorem cells_of {W : World} {b i : Nat} {v : Value} (h : W.cell? ⟨b, i, none⟩ = some v) : ∃ o, W.heap[b]? = some o ∧ o.isCells = true := by
  unfold World.cell? at h
  split at h
  · rename_i c t n hh; exact ⟨_, hh, rfl⟩
  · cases h
theorem Kb.cell {B : Nat} {W W' : World} (h : Kb B W W') {b i : Nat} {v : Value} (hc : W.cell? ⟨b, i, none⟩ = some v) (hne : b ≠ B) (hn : ¬ OwnAt W B b) : W'.cell? ⟨b, i, none⟩ = some v := by
  obtain ⟨o, ho, hcl⟩ := cells_of hc
  have k := h.2.1 b o ho hcl hne hn
  rw [← hc]
  unfold World.cell?
  rw [k, ho]
theorem Kb.atG {α : Type} {cs : α → List Value} {B : Nat} {W W' : World} (h : Kb B W W') {b o : Nat} {d : List α} (hat : AtG cs W b o d) (hne : b ≠ B) (hn : ¬ OwnAt W B b) : AtG cs W' b o d := fun j u hu => h.cell (hat j u hu) hne hn
/-- Where nothing is owned at first, what is owned lies in the heap. -/
theorem Kb.own_lt {B : Nat} {W W' : World} (h : Kb B W W') (h0 : ∀ g, ¬ OwnAt W B g) {g : Nat} (hg : OwnAt W' B g) : W.heap.size ≤ g ∧ g < W'.heap.size := by
  rcases h.2.2 g hg with e | e
  · exact absurd e (h0 g)
  · exact e
theorem ownAt_adds {B g : Nat} {W W' : World} (h : Adds W W') (hB : B < W.heap.size) : OwnAt W' B g ↔ OwnAt W B g := by
  unfold OwnAt
  rw [h.cell (i := 0) hB]
set_option maxRecDepth 100000 in
set_option maxHeartbeats 4000000 in
theorem expn1_in (l bL bC Bs len cap : Nat) (a : Option Addr) (ch : Int) (d : List S.It) (hl : d.length = len) (hbig : len ≤ 1000000) (hLs : bL ≠ Bs) (hCs : bC ≠ Bs) (J Jx : List S.Pn → World → Prop) (Bd : Nat) (hJ : AbidesFrom Bd J)
    (hY : ∀ pre x W, J pre W → pre.length < (S.ex (ch == 2) d).length → YieldAt Fence.wide 5 Try.prog l (S.encQ x) W fun e W' =>
      (e = .returned (.bool true) ∧ J (pre ++ [x]) W' ∧ Kb Bs W W') ∨ (e = .returned (.bool false) ∧ Jx (pre ++ [x]) W'))
    (W : World) (hBs : Bs < W.heap.size) (hown : ∀ g, ¬ OwnAt W Bs g) (hcL : W.cell? ⟨bL, 0, none⟩ = some (.slice a len cap)) (hcC : W.cell? ⟨bC, 0, none⟩ = some (.int .i64 ch)) (hat : 0 < len → ∃ b o, a = some ⟨b, o, none⟩ ∧ b ≠ Bs ∧ AtG csT W b o d) (h0 : J [] W) :
    CallsIn Fence.wide 6 Try.prog 30 #[.func (.yield l) #[] #[], .pointer (some ⟨bL, 0, none⟩), .pointer (some ⟨bC, 0, none⟩)] W fun e W' => (∃ v, e = .returned v) ∧
      ((∃ ys, ys = S.ex (ch == 2) d ∧ J ys W') ∨ (∃ pre, True ∧ Jx pre W')) := by
  have HJ := Lib.hid hJ
  have HY := Lib.hid hY
  have HAT := Lib.hid hat
  have HOW := Lib.hid hown
  have HL := Lib.hid hl
  have HC := Lib.hid hcC
  have H0 := Lib.hid (show J (S.ex (ch == 2) (d.take 0)) W by simpa [S.ex] using h0)
  clear hJ hY hat hown hl hcC h0
  refine callsIn_of_wp Try.func30 rfl trivial ?_ rfl
  simp only [Try.ntmps30, List.size_toArray, List.length_cons, List.length_nil, Nat.reduceAdd, Nat.reduceSub, Array.replicate_succ, Array.replicate_zero, List.push_toArray, List.append_toArray, List.nil_append, List.cons_append]
  gi_wp2
  gi_loopw [11] (fun i wr => ∃ k : Nat, k ≤ len ∧ i = .int .i64 (k : Int) ∧ Hid (J (S.ex (ch == 2) (d.take k)) wr) ∧ Hid (Kb Bs W wr)) (fun i _ => len - (intOf i).toNat)
  case atStart => exact ⟨0, Nat.zero_le _, rfl, H0, Kb.refl _ _⟩
  case round =>
    obtain ⟨k, hk, rfl, HJ1, HK1⟩ := hrel
    rename World => w1
    have hwr := HK1.out.1
    by_cases hlt : k < len
    · obtain ⟨b, o, rfl, hbs, hat⟩ := HAT.out (by omega)
      obtain ⟨x, hx⟩ := get_el (d := d) (k := k) (by have := HL.out; omega)
      have HX := Lib.hid hx
      have hL : (wholeVar 44 ⟨b, o + k * 9, none⟩).run Try.prog w1 = .ok (.agg #[.int .i64 x.k, .int .i64 x.c, .int .u16 x.a, .int .u8 x.d, .int .i64 x.s, .int .i64 x.w, .int .i64 x.n, .bool x.e, .bool x.o]) w1 := AtT.load (HK1.out.atG hat hbs (HOW.out b)) hx _ rfl
      have q1 : (k : Int) < (len : Int) := by omega
      clear hat hx hcL
      gi_wp2_with (refine ⟨trivial, ?_⟩; gi_at_call 31; refine (callsIn_wide.2 (spans_any x _)).mono ?_; rintro e w2 ⟨a2, n2, c2, rfl, hlc2, hH2, hB2, hA2⟩)
      have hA12 : Adds w1 w2 := ((Adds.refl w1).alloc _).trans hA2
      have hI : w2.heap[w1.heap.size]? = some (.cells #[.int .i64 x.k, .int .i64 x.c, .int .u16 x.a, .int .u8 x.d, .int .i64 x.s, .int .i64 x.w, .int .i64 x.n, .bool x.e, .bool x.o] 44 (0, 0)) := (hA2.below.block _ (by simp)).trans (heap_last w1 _)
      have HI := Lib.hid hI
      have HK2 := Lib.hid (HK1.out.trans (Kb.adds hA12 (by omega)))
      have HO2 := Lib.hid (show ∀ g, OwnAt w2 Bs g → g < w1.heap.size from fun g hg => (HK1.out.own_lt HOW.out ((ownAt_adds hA12 (by omega)).1 hg)).2)
      have HJ2 := Lib.hid (show J (S.gotj (ch == 2) d k x 0) w2 by rw [S.gotj_zero]; exact adds_abides HJ.out HJ1.out hA12)
      have h12 : w1.heap.size < w2.heap.size := (Array.getElem?_eq_some_iff.1 hI).1
      have hP : Hid (0 < n2 → ∃ b2 o2, a2 = some ⟨b2, o2, none⟩ ∧ w1.heap.size < b2 ∧ AtG csP w2 b2 o2 (S.sps x)) := fun h => by
        obtain ⟨b2, o2, rfl, hb2, hat2⟩ := hH2.2.2 h
        exact ⟨b2, o2, rfl, by have := hB2 b2 o2 rfl; simp at this; omega, hat2⟩
      have hnl : (S.sps x).length = n2 := hH2.1
      have HN2 := Lib.hid hnl
      have hn27 : n2 ≤ 7 := by have := S.sps_len x; omega
      clear hI hA2 hA12 hH2 hB2 hL hnl
      gi_loopw [18] (fun i wr => ∃ j : Nat, j ≤ n2 ∧ i = .int .i64 (j : Int) ∧ Hid (J (S.gotj (ch == 2) d k x j) wr) ∧ Hid (Kb Bs w2 wr)) (fun i _ => n2 - (intOf i).toNat)
      case atStart => exact ⟨0, Nat.zero_le _, rfl, HJ2, Kb.refl _ _⟩
      case round =>
        obtain ⟨j, hj, rfl, HJ3, HK3⟩ := hrel
        rename World => w3
        have hw23 := HK3.out.1
        by_cases hlj : j < n2
        · obtain ⟨b2, o2, rfl, hb2, hat2⟩ := hP.out (by omega)
          obtain ⟨p, hp⟩ := get_el (d := S.sps x) (k := j) (by have := HN2.out; omega)
          have HP := Lib.hid hp
          have hfit := S.sps_fit x p (List.mem_of_getElem? hp)
          have hno : ∀ g, w1.heap.size ≤ g → ¬ OwnAt w2 Bs g := fun g hg hw => by have := HO2.out g hw; omega
          have hL2 : (wholeVar 71 ⟨b2, o2 + j * 2, none⟩).run Try.prog w3 = .ok (.agg #[.int .i64 p.1, .int .i64 p.2]) w3 := AtP.load (HK3.out.atG hat2 (by omega) (hno b2 (by omega))) hp _ rfl
          have hIx : w3.heap[w1.heap.size]? = some (.cells #[.int .i64 x.k, .int .i64 x.c, .int .u16 x.a, .int .u8 x.d, .int .i64 x.s, .int .i64 x.w, .int .i64 x.n, .bool x.e, .bool x.o] 44 (0, 0)) := HK3.out.2.1 _ _ HI.out rfl (by omega) (hno _ (Nat.le_refl _))
          have hRx : rowOf w3 w1.heap.size = #[.int .i64 x.k, .int .i64 x.c, .int .u16 x.a, .int .u8 x.d, .int .i64 x.s, .int .i64 x.w, .int .i64 x.n, .bool x.e, .bool x.o] := by unfold rowOf; rw [hIx]; rfl
          have hbx : w1.heap.size < w3.heap.size := by omega
          have hcc : w3.cell? ⟨bC, 0, none⟩ = some (.int .i64 ch) := HK3.out.cell (HK2.out.cell HC.out hCs (HOW.out _)) hCs (fun hw => by have := (HK2.out.own_lt HOW.out hw).1; have := cell_lt HC.out; simp only [] at this; omega)
          have hcb : bC < w3.heap.size := cell_lt hcc
          have HF := Lib.hid hfit.1
          have hp0 := hfit.2.1
          have q2 : (j : Int) < (n2 : Int) := by omega
          clear hat2 hp hIx hno hfit
          gi_wp2_with (refine ⟨trivial, ?_⟩; gi_at_call 32; refine (callsIn_wide.2 (pinsOf_any ch x p.1 HF.out _)).mono ?_; rintro e w4 ⟨rfl, hA4⟩; simp only [S.Pn.cs]; have hc7 : w4.cell? ⟨w3.heap.size, 1, none⟩ = some (.int .i64 p.2) := (hA4.cell (by simp)).trans (by simp [go_sem]); have hb7 : w3.heap.size < w4.heap.size := (by have := hA4.size; simp at this; omega))
          have hA34 : Adds w3 w4 := ((Adds.refl w3).alloc _).trans hA4
          obtain ⟨pv, hpv⟩ : ∃ pv, pv = S.pn (ch == 2) x p.1 := ⟨_, rfl⟩
          have HPV := Lib.hid hpv
          rw [← hpv]
          obtain ⟨w5, hw5⟩ : ∃ w5, w5 = w4.alloc (.cells #[.int .i64 pv.st, .int .u16 pv.ad, .int .u8 pv.da, .bool pv.sy, .bool pv.db, .bool pv.wa, .bool pv.it, .bool pv.al, .bool pv.im, .bool pv.s1, .bool pv.s0, .bool pv.rd, .bool pv.ia, .bool pv.so, .bool pv.wr, .bool pv.hl, .bool pv.fl] 46) := ⟨_, rfl⟩
          have hI5 : Hid (w5.heap[w4.heap.size]? = some (.cells #[.int .i64 pv.st, .int .u16 pv.ad, .int .u8 pv.da, .bool pv.sy, .bool pv.db, .bool pv.wa, .bool pv.it, .bool pv.al, .bool pv.im, .bool pv.s1, .bool pv.s0, .bool pv.rd, .bool pv.ia, .bool pv.so, .bool pv.wr, .bool pv.hl, .bool pv.fl] 46 (0, 0))) := by show _ = _; rw [hw5]; exact heap_last w4 _
          have hA35 : Adds w3 w5 := by rw [hw5]; exact hA34.alloc _
          have h45 : w5.heap.size = w4.heap.size + 1 := by rw [hw5]; simp
          have h34 := hA34.size
          rw [← hw5]
          have HA35 := Lib.hid hA35
          have HO5 := Lib.hid (show ∀ g, OwnAt w5 Bs g → g < w3.heap.size from fun g hg => by
            have h1 := (ownAt_adds hA35 (by omega)).1 hg
            rcases HK3.out.2.2 g h1 with e | e
            · have := HO2.out g e; omega
            · exact e.2)
          have HJ5 := Lib.hid (show J (S.got (ch == 2) d k x j p 0) w5 by rw [S.got_zero]; exact adds_abides HJ.out HJ3.out hA35)
          clear hc7 hA4 hA34 hA35 hw5 hpv hL2 hRx hcc
          gi_loopw [29] (fun i wr => ∃ m : Nat, (m : Int) ≤ p.2 ∧ i = .int .i64 (m : Int) ∧ Hid (J (S.got (ch == 2) d k x j p m) wr) ∧ Hid (Kb Bs w5 wr)) (fun i _ => (p.2 - intOf i).toNat)
          case atStart => exact ⟨0, by omega, rfl, HJ5, Kb.refl _ _⟩
          case round =>
            obtain ⟨m, hm, rfl, HJ6, HK6⟩ := hrel
            rename World => w6
            by_cases hlm : (m : Int) < p.2
            · have hL6 : (wholeVar 46 ⟨w4.heap.size, 0, none⟩).run Try.prog w6 = .ok (.agg #[.int .i64 pv.st, .int .u16 pv.ad, .int .u8 pv.da, .bool pv.sy, .bool pv.db, .bool pv.wa, .bool pv.it, .bool pv.al, .bool pv.im, .bool pv.s1, .bool pv.s0, .bool pv.rd, .bool pv.ia, .bool pv.so, .bool pv.wr, .bool pv.hl, .bool pv.fl]) w6 := whole_cells Try.underlying46 rfl sizeQ w6 _ 0 #[.int .i64 pv.st, .int .u16 pv.ad, .int .u8 pv.da, .bool pv.sy, .bool pv.db, .bool pv.wa, .bool pv.it, .bool pv.al, .bool pv.im, .bool pv.s1, .bool pv.s0, .bool pv.rd, .bool pv.ia, .bool pv.so, .bool pv.wr, .bool pv.hl, .bool pv.fl] rfl fun j v hj => by
                rw [Nat.zero_add, cell_of_row w6 _ j _ _ (0, 0) (HK6.out.2.1 _ _ hI5.out rfl (by omega) (fun hw => by have := HO5.out _ hw; omega))]; exact hj
              obtain ⟨fn, tmps, assign, body, hy, hR⟩ := HY.out _ pv w6 HJ6.out (S.got_lt _ d k x j p m HX.out HP.out (by omega))
              simp only [S.encQ, S.Pn.cs] at hy
              gi_wp2
              refine hR.mono ?_
              rintro e W7 (⟨rfl, hJ7, hk7⟩ | ⟨rfl, hJx7⟩)
              · have HJ7 := Lib.hid hJ7
                have HK7 := Lib.hid hk7
                have hp65 : p.2 ≤ 65536 := (S.sps_fit x p (List.mem_of_getElem? HP.out)).2.2
                clear hJ7 hk7 hy hL6
                gi_wp2
                go_roundw
                case rel => exact ⟨m + 1, by omega, by go_num, (by rw [S.got_step, ← HPV.out]; exact HJ7.out), HK6.out.trans HK7.out⟩
                case measure => simp [intOf]; omega
              · gi_wp2
                refine bodyPost_ret (results_none rfl _ _ _) rfl ?_
                exact ⟨⟨_, rfl⟩, .inr ⟨_, trivial, hJx7⟩⟩
            · have hmm : (p.2.toNat) = m := by omega
              have HE := Lib.hid (show J (S.gotj (ch == 2) d k x (j + 1)) w6 by rw [← S.got_end _ d k x j p HP.out, hmm]; exact HJ6.out)
              gi_wp2
              go_roundw
              case rel => exact ⟨j + 1, by omega, by go_num, HE, HK3.out.trans ((Kb.adds HA35.out (by omega)).trans HK6.out)⟩
              case measure => simp [intOf]; omega
        · have hjn : j = n2 := by omega
          have HE := Lib.hid (show J (S.ex (ch == 2) (d.take (k + 1))) w3 by rw [← S.gotj_end _ d k x HX.out, HN2.out, ← hjn]; exact HJ3.out)
          have q2 : ¬ (j : Int) < (n2 : Int) := by omega
          gi_wp2
          go_roundw
          case rel => exact ⟨k + 1, by omega, by go_num, HE, HK2.out.trans HK3.out⟩
          case measure => simp [intOf]; omega
    · have q1 : ¬ (k : Int) < (len : Int) := by omega
      obtain rfl : k = len := by omega
      have HE := Lib.hid (show S.ex (ch == 2) (d.take k) = S.ex (ch == 2) d by rw [List.take_of_length_le (by have := HL.out; omega)])
      gi_wp2
      go_end0
      exact ⟨⟨_, rfl⟩, .inl (by rw [← HE.out]; exact HJ1.out)⟩
end Go.Proofs.Ytfhnfakjjfjohaa
