/- What makes inputs of boards, continued: Inputs: some list of inputs within their bounds, in a slice of the call's own. Condition: the numbers' list lies in blocks below the box. -/
import Derived.Test.YtjjcahdieldmcaaC24m
namespace Go.Proofs.Ytjjcahdieldmcaa
open Go.ChangeShapes Go.WideShapes Go.ChangeAt Go.RowKit
set_option linter.unusedVariables false
theorem Up.grown {w w' : World} {b N : Nat} (u : Up w b N w') : w.grownBy w' (some b) := by
  have g1 : w.grownBy (w.setCell ⟨b, 1, none⟩ (.int .i64 (N : Int))) (some b) := ⟨rfl, rfl, rfl, by simp, fun k _ hk => heap_setCell_other w ⟨b, 1, none⟩ k _ (fun e => hk (by simp [e]))⟩
  exact g1.trans (Adds.grownBy u (some b))
theorem Nb.grown {w w' : World} {b : Nat} {a : Option Addr} {len cap N : Nat} {row : Option Nat} (h : Nb w b a len cap N) (hg : w.grownBy w' row) (hne : ∀ g, row = some g → b < g) : Nb w' b a len cap N :=
  h.of_heap fun k hk => hg.block k (by have := h.lt; omega) (fun e => by have := hne k e.symm; omega)
theorem box_adds24 {w w1 : World} {o : Obj} (h : (w.alloc o).grownBy w1 (some w.heap.size)) : Adds w w1 :=
  Adds.of_below ⟨h.os, h.tape, h.output, by have := h.size; simp at this; omega, fun k hk => by
    rw [h.block k (by simp; omega) (by simp; omega)]; exact heap_past w o hk⟩
def lenOf : Value → Nat
  | .slice _ n _ => n
  | _ => 0
/-- What Inputs leaves. -/
def InpsPost (b len cap N : Nat) (a : Option Addr) (n : Nat) (w : World) (e : Ending) (w' : World) : Prop :=
  ∃ r d N', e = .returned r ∧ OwnsI w' w.heap.size r d ∧ d.length ≤ n ∧ (∀ x ∈ d, x.ok) ∧ N' ≤ N + 1 + 12 * n ∧ Nb w' b a len cap N' ∧ w.grownBy w' (some b)
set_option maxRecDepth 100000 in
set_option maxHeartbeats 8000000 in
theorem inps_mk (b len cap N : Nat) (a : Option Addr) (n : Nat) (hn : n ≤ 1000) (hN : N ≤ 1000000) (w : World) (h : Nb w b a len cap N) :
    Calls Try.prog 21 #[.pointer (some ⟨b, 0, none⟩), .int .i64 (n : Int)] w (InpsPost b len cap N a n w) := by
  have hbw := h.lt
  have H : Hid _ := Lib.hid h
  clear h
  go_enter Try.func21, Try.ntmps21
  go_wp2_with (go_at_call 23; (with_reducible refine (nx_any b len cap N a _ (by omega) (by omega) (by omega) w H.out).mono ?_); rintro e w1 ⟨z, M1, hz0, hz1, hM1, rfl, hU1⟩)
  obtain ⟨s, rfl⟩ : ∃ s : Nat, z = (s : Int) := ⟨z.toNat, by omega⟩
  have hs : s ≤ n := by omega
  have HB1 := Lib.hid (H.out.up hU1)
  have HG1 := Lib.hid hU1.grown
  clear hU1 hz0 hz1
  go_loopw [5] (fun v wr => ∃ (m N' : Nat) (d : List S.Inp) (ad : Option Addr) (c : Nat), v = .slice ad m c ∧ m ≤ s ∧ N' ≤ N + 1 + 12 * m ∧ Hid (d.length = m) ∧ Hid (OwnsI wr w.heap.size (.slice ad m c) d) ∧ Hid (∀ x ∈ d, x.ok) ∧ Hid (Nb wr b a len cap N') ∧ Hid (w.grownBy wr (some b))) (fun v _ => s - lenOf v)
  case atStart => exact ⟨0, M1, [], none, 0, rfl, by omega, by omega, rfl, OwnsG.nil _ _, (fun x hx => by cases hx), HB1.out, HG1.out⟩
  case round =>
    obtain ⟨m, N', d, ad, c, rfl, hm, hN', HD, HO, HK, HB, HG⟩ := hrel
    by_cases hlt : m < s
    · have q1 : (m : Int) < (s : Int) := by omega
      go_wp2_with (first
        | (go_at_call 27; (with_reducible refine (inp_mk b len cap N' a (by omega) wr HB.out).mono ?_); rintro e w2 ⟨x, M2, hx, hM2, rfl, hU2⟩; have HX := Lib.hid hx; have HB2 := Lib.hid (HB.out.up hU2); have HG2 := Lib.hid hU2.grown; clear hU2 hx; simp only [S.Inp.cs])
        | (go_at_call 23; (with_reducible refine (nx_any b len cap M3 a 5 (by omega) (by omega) (by omega) w3 HB3.out).mono ?_); rintro e w4 ⟨z4, M4, hz40, hz41, hM4, rfl, hU4⟩; have HB4 := Lib.hid (HB3.out.up hU4); have HG4 := Lib.hid hU4.grown; clear hU4; obtain ⟨k0, hk0⟩ : ∃ k : Int, z3 * z4 = k := ⟨_, rfl⟩; have hk1 : 0 ≤ k0 := (by rw [← hk0]; exact Int.mul_nonneg hz30 hz40); have hk2 : k0 ≤ 12 := (by rw [← hk0]; exact Int.mul_le_mul (c := 3) (d := 4) (by omega) (by omega) hz40 (by omega)))
        | (go_at_call 23; (with_reducible refine (nx_any b len cap M2 a 4 (by omega) (by omega) (by omega) (w2.alloc (.cells #[.bool x.r, .bool x.h, .bool x.z, .bool x.s, .bool x.t, .bool x.a, .bool x.b, .bool x.c, .int .u8 x.q, .int .u8 x.p] 32)) (HB2.out.alloc _)).mono ?_); rintro e w3 ⟨z3, M3, hz30, hz31, hM3, rfl, hU3⟩; have HB3 := Lib.hid ((HB2.out.alloc (.cells #[.bool x.r, .bool x.h, .bool x.z, .bool x.s, .bool x.t, .bool x.a, .bool x.b, .bool x.c, .int .u8 x.q, .int .u8 x.p] 32)).up hU3); have HG3 := Lib.hid hU3.grown; clear hU3))
      have hbsz : b < w2.heap.size := HB2.out.lt
      have hs2 := HG2.out.size
      have HO4 := Lib.hid (show OwnsI w4 w.heap.size (.slice ad m c) d from ((((HO.out.kept HG2.out (fun g e => by injection e with e; omega)).alloc (.cells #[.bool x.r, .bool x.h, .bool x.z, .bool x.s, .bool x.t, .bool x.a, .bool x.b, .bool x.c, .int .u8 x.q, .int .u8 x.p] 32)).kept HG3.out (fun g e => by injection e with e; omega)).kept HG4.out (fun g e => by injection e with e; omega)))
      have HGG := Lib.hid ((((HG.out.trans HG2.out).trans (World.grownBy_alloc w2 (.cells #[.bool x.r, .bool x.h, .bool x.z, .bool x.s, .bool x.t, .bool x.a, .bool x.b, .bool x.c, .int .u8 x.q, .int .u8 x.p] 32) _)).trans HG3.out).trans HG4.out)
      have HI := Lib.hid (show w4.heap[w2.heap.size]? = some (.cells #[.bool x.r, .bool x.h, .bool x.z, .bool x.s, .bool x.t, .bool x.a, .bool x.b, .bool x.c, .int .u8 x.q, .int .u8 x.p] 32 (0, 0)) by
        have s3 := HG3.out.size
        have sa : (w2.alloc (.cells #[.bool x.r, .bool x.h, .bool x.z, .bool x.s, .bool x.t, .bool x.a, .bool x.b, .bool x.c, .int .u8 x.q, .int .u8 x.p] 32)).heap.size = w2.heap.size + 1 := Array.size_push ..
        rw [HG4.out.block _ (by omega) (fun e => by injection e with e; omega), HG3.out.block _ (by omega) (fun e => by injection e with e; omega)]
        exact heap_last w2 _)
      have HNE := Lib.hid (show ∀ g, (Value.slice ad m c).ownBlock = some g → g ≠ w2.heap.size from fun g hg => by have := (World.ownsRow.lt HO.out g hg).2; omega)
      clear HB2 HG2 HB3 HG3 HG4 hs2 hz30 hz31 hz40 hz41 HO HG HB
      have hw4 : w.heap.size ≤ w4.heap.size := HGG.out.size
      generalize w2.heap.size = bi at HI HNE ⊢
      clear hk0
      go_loopw [5, 8] (fun v5 v8 w' => ∃ (m' : Nat) (d' : List S.Inp) (ad' : Option Addr) (c' : Nat) (k : Int), v5 = .slice ad' m' c' ∧ v8 = .int .i64 k ∧ (m ≤ m' ∧ m' ≤ s ∧ (m < m' ∨ 0 ≤ k)) ∧ (-1 ≤ k ∧ k ≤ 12) ∧ Hid (d'.length = m') ∧ Hid (OwnsI w' w.heap.size (.slice ad' m' c') d') ∧ Hid (∀ x ∈ d', x.ok) ∧ Hid (Nb w' b a len cap M4) ∧ Hid (w.grownBy w' (some b)) ∧ Hid (w'.heap[bi]? = some (.cells #[.bool x.r, .bool x.h, .bool x.z, .bool x.s, .bool x.t, .bool x.a, .bool x.b, .bool x.c, .int .u8 x.q, .int .u8 x.p] 32 (0, 0))) ∧ Hid (∀ g, (Value.slice ad' m' c').ownBlock = some g → g ≠ bi)) (fun _ v8 _ => (intOf v8 + 1).toNat)
      case atStart => exact ⟨m, d, ad, c, k0, rfl, rfl, ⟨by omega, by omega, by omega⟩, ⟨by omega, by omega⟩, HD.out, HO4.out, HK.out, HB4.out, HGG.out, HI.out, HNE.out⟩
      case round =>
        obtain ⟨m', d', ad', c', k, rfl, rfl, ⟨hm1, hm2, hm3⟩, ⟨hk3, hk4⟩, HD', HO', HK', HB', HG', HI', HNE'⟩ := hrel
        have hL : (wholeVar 32 ⟨bi, 0, none⟩).run Try.prog wr = .ok (.agg #[.bool x.r, .bool x.h, .bool x.z, .bool x.s, .bool x.t, .bool x.a, .bool x.b, .bool x.c, .int .u8 x.q, .int .u8 x.p]) wr := whole_cells Try.underlying32 rfl sizeI wr bi 0 #[.bool x.r, .bool x.h, .bool x.z, .bool x.s, .bool x.t, .bool x.a, .bool x.b, .bool x.c, .int .u8 x.q, .int .u8 x.p] rfl fun j v hj => by rw [Nat.zero_add, cell_of_row wr bi j _ _ (0, 0) HI'.out]; exact hj
        have hbi : bi < wr.heap.size := (Array.getElem?_eq_some_iff.1 HI'.out).1
        have hw' := HG'.out.size
        have HLO := Lib.hid (show ∀ g, (Value.slice ad' m' c').ownBlock = some g → w.heap.size ≤ g from fun g e => (World.ownsRow.lt HO'.out g e).1)
        by_cases hk0 : 0 ≤ k
        · by_cases hms : m' < s
          · have q2 : (m' : Int) < (s : Int) := by omega
            go_wp2_with (at_builtin; refine wpList_appI1_at rfl _ _ rfl w.heap.size (.slice ad' m' c') _ rfl x _ _ wr.heap.size rfl rfl rfl HO'.out (by have := HD'.out; omega) hw' ?_; intro v5 w5 hO5 hG5 hN5; obtain ⟨ad5, m5, c5, rfl, hn5, -, -, -, -⟩ := hO5.form2; obtain rfl : m5 = m' + 1 := (by have := hn5.out; have h2 := HD'.out; rw [List.length_append, h2] at this; exact this.symm); have HO5 := Lib.hid hO5; have HG5 := Lib.hid hG5; have HN5 := Lib.hid hN5; clear hn5 hO5 hG5 hN5)
            go_roundw
            case rel =>
              refine ⟨m' + 1, d' ++ [x], ad5, c5, k - 1, rfl, rfl, ⟨by omega, by omega, by omega⟩, ⟨by omega, by omega⟩, (by show _ = _; rw [List.length_append, HD'.out]; rfl), HO5.out, (fun y hy => ?_), HB'.out.grown HG5.out (fun g e => by have := HLO.out g e; omega), grown_trans2 HG'.out HG5.out (fun g e => .inr (HLO.out g e)), (HG5.out.block bi hbi (fun e => HNE'.out bi e.symm rfl)).trans HI'.out, fun g hg => ?_⟩
              · rcases List.mem_append.1 hy with hy | hy
                · exact HK'.out y hy
                · simp at hy; subst hy; exact HX.out
              · rcases HN5.out g hg with e | e
                · exact HNE'.out g e
                · omega
            case measure => simp [intOf]; omega
          · have q2 : ¬ (m' : Int) < (s : Int) := by omega
            go_wp2_with fail
            go_roundw
            case rel => exact ⟨m', M4, d', ad', c', rfl, by omega, by omega, HD'.out, HO'.out, HK'.out, HB'.out, HG'.out⟩
            case measure => simp [lenOf]; omega
        · go_wp2_with fail
          go_roundw
          case rel => exact ⟨m', M4, d', ad', c', rfl, by omega, by omega, HD'.out, HO'.out, HK'.out, HB'.out, HG'.out⟩
          case measure => simp [lenOf]; omega
    · have q1 : ¬ (m : Int) < (s : Int) := by omega
      go_wp2_with fail
      go_ret
      exact ⟨_, d, N', rfl, HO.out, by have := HD.out; omega, HK.out, by omega, HB.out, HG.out⟩
end Go.Proofs.Ytjjcahdieldmcaa
