/- The statement MemoryNormalizesSaid of package tstatelaw12: for every input the law returns true, and its arguments read as before. No condition. -/
import Derived.Test.YtfddefoambakiaaRows
import Derived.Test.YtfddefoambakiaaM1
import Derived.Test.YtfddefoambakiaaCM
import Derived.Test.YtfddefoambakiaaC12u
import Derived.WalkKit
import Derived.ProofKit
import Derived.OpenShut
import Derived.ShutString
import Derived.ChangeOld
import Derived.Below
import Derived.Carry
namespace Go.Proofs.Ytfddefoambakiaa.memoryNormalizes
open Go.ChangeShapes Go.WideShapes Go.ChangeAt Go.RowKit
open Go.ChangeMaps (open_string shut_string)
set_option linter.unusedVariables false

theorem own : ownKnob Try.prog.godebug = none := by kernel_rfl
theorem laidOut : laidOutB Try.prog = true := by kernel_rfl

set_option maxHeartbeats 2000000 in
/-- The walk. -/
theorem walk (a0 : Option Addr) (len0 cap0 : Nat) (a1 : Option Addr) (len1 cap1 : Nat) (z1 : List Int) (a2 : Int) (a3 : Int) (w : World) (w0 : len0 ≤ 4611686018427387904 → ∃ l, Held w a0 len0 l) (w1 : IsRow .i64 w a1 len1 cap1 z1) (w2 : (Lit.int .u16 a2).wf = true) (w3 : (Lit.int .u8 a3).wf = true) :
    Calls Try.prog 3 #[.slice a0 len0 cap0, .slice a1 len1 cap1, .int .u16 a2, .int .u8 a3] w fun e w' => e = .returned (.bool true) ∧ Below w.heap.size w w' := by
  by_cases h60 : 60 < len0
  · clear w0
    go_enter Try.func3, Try.ntmps3
    go_wp2_with (go_at_call 10; refine (known12 _).mono ?_; rintro e w' ⟨rfl, hK⟩)
    go_ret
    exact ⟨rfl, hK.below⟩
  have hle0 : len0 ≤ 60 := by omega
  obtain ⟨l0, w0'⟩ := w0 (by omega)
  have H0 := Lib.hid w0'
  clear w0 w0'
  by_cases h100 : 100 < len1
  · go_enter Try.func3, Try.ntmps3
    go_wp2_with (go_at_call 10; refine (known12 _).mono ?_; rintro e w' ⟨rfl, hK⟩)
    go_ret
    exact ⟨rfl, hK.below⟩
  have hle : len1 ≤ 100 := by omega
  have hM := Lib.hid (made_any a1 len1 cap1 z1 w w1 hle)
  clear w1
  have i0 : ∀ (a b : Option Addr) (n m x y : Nat) (w : World), (Instr.index 29 (.agg #[.slice a n x, .slice b m y]) (.int .i64 0)).run Try.prog w = .ok (.slice a n x) w := fun _ _ _ _ _ _ _ => by kernel_rfl
  have i1 : ∀ (a b : Option Addr) (n m x y : Nat) (w : World), (Instr.index 29 (.agg #[.slice a n x, .slice b m y]) (.int .i64 1)).run Try.prog w = .ok (.slice b m y) w := fun _ _ _ _ _ _ _ => by kernel_rfl
  go_enter Try.func3, Try.ntmps3
  go_wp2_with (first
    | (go_at_call 12; (with_reducible refine (from_any a1 len1 cap1 w).mono ?_); rintro e w1 ⟨rfl, rfl⟩)
    | (go_at_call 11; (with_reducible refine hM.out.mono ?_); rintro e w2 ⟨ad, n, c, d, rfl, H2, hn2, hc2, hz2, A2⟩; have hn2' := hn2.out))
  have K0 := Lib.hid (H0.out.adds A2)
  have K1 := H2
  have AA := Lib.hid A2
  go_loopw [27] (fun i wr => ∃ k : Int, (0 ≤ k ∧ k ≤ 2) ∧ i = .int .i64 k ∧ Adds w2 wr) (fun i _ => 2 - (intOf i).toNat)
  case atStart => exact ⟨0, by omega, rfl, Adds.refl _⟩
  case round =>
    obtain ⟨k, hk, rfl, A0⟩ := hrel
    rcases (by omega : k = 0 ∨ k = 1 ∨ k = 2) with rfl | rfl | rfl
    · go_wp2_with (first
        | (go_at_call 14; (with_reducible refine (norm_h _ _ _ _ wr (K0.out.adds A0) (by omega)).mono ?_); rintro e w3 ⟨ad3, n3, c3, rfl, H3, hn3, hc3, A3⟩)
        | (go_at_call 15; (with_reducible refine (rnrm_held _ _ _ _ w3 ((K0.out.adds A0).adds A3) (by omega)).mono ?_); rintro e w4 ⟨ad4, n4, c4, rfl, H4, hn4, hc4, A4⟩)
        | (go_at_call 13; (with_reducible refine (same_h _ _ _ _ _ _ _ w4 (H3.out.adds A4) H4.out).mono ?_); rintro e w5 ⟨rfl, A5⟩)
        | (go_at_call 16; (with_reducible refine (put_h _ _ _ _ _ _ w5 ((((K0.out.adds A0).adds A3).adds A4).adds A5) (by omega)).mono ?_); rintro e w6 ⟨ad6, n6, c6, rfl, H6, hn6, hc6, A6⟩)
        | (go_at_call 17; (with_reducible refine (rput_h _ _ _ _ _ _ w6 (((((K0.out.adds A0).adds A3).adds A4).adds A5).adds A6) (by omega)).mono ?_); rintro e w7 ⟨ad7, n7, c7, rfl, H7, hn7, hc7, A7⟩)
        | (go_at_call 13; (with_reducible refine (same_h _ _ _ _ _ _ _ w7 (H6.out.adds A7) H7.out).mono ?_); rintro e w8 ⟨rfl, A8⟩)
        | (go_at_call 14; (with_reducible refine (norm_h _ _ _ _ w8 (((((((K0.out.adds A0).adds A3).adds A4).adds A5).adds A6).adds A7).adds A8) (by omega)).mono ?_); rintro e w9 ⟨ad9, n9, c9, rfl, H9, hn9, hc9, A9⟩)
        | (go_at_call 18; (with_reducible refine (valnrm _ _ _ _ w9 H9.out).mono ?_); rintro e w10 ⟨rfl, A10⟩))
      go_roundw
      case rel => exact ⟨1, by omega, rfl, (((((((A0.trans A3).trans A4).trans A5).trans A6).trans A7).trans A8).trans A9).trans A10⟩
      case measure => simp [intOf]
    · go_wp2_with (first
        | (go_at_call 14; (with_reducible refine (norm_h _ _ _ _ wr (K1.out.adds A0) (by omega)).mono ?_); rintro e w3 ⟨ad3, n3, c3, rfl, H3, hn3, hc3, A3⟩)
        | (go_at_call 15; (with_reducible refine (rnrm_held _ _ _ _ w3 ((K1.out.adds A0).adds A3) (by omega)).mono ?_); rintro e w4 ⟨ad4, n4, c4, rfl, H4, hn4, hc4, A4⟩)
        | (go_at_call 13; (with_reducible refine (same_h _ _ _ _ _ _ _ w4 (H3.out.adds A4) H4.out).mono ?_); rintro e w5 ⟨rfl, A5⟩)
        | (go_at_call 16; (with_reducible refine (put_h _ _ _ _ _ _ w5 ((((K1.out.adds A0).adds A3).adds A4).adds A5) (by omega)).mono ?_); rintro e w6 ⟨ad6, n6, c6, rfl, H6, hn6, hc6, A6⟩)
        | (go_at_call 17; (with_reducible refine (rput_h _ _ _ _ _ _ w6 (((((K1.out.adds A0).adds A3).adds A4).adds A5).adds A6) (by omega)).mono ?_); rintro e w7 ⟨ad7, n7, c7, rfl, H7, hn7, hc7, A7⟩)
        | (go_at_call 13; (with_reducible refine (same_h _ _ _ _ _ _ _ w7 (H6.out.adds A7) H7.out).mono ?_); rintro e w8 ⟨rfl, A8⟩)
        | (go_at_call 14; (with_reducible refine (norm_h _ _ _ _ w8 (((((((K1.out.adds A0).adds A3).adds A4).adds A5).adds A6).adds A7).adds A8) (by omega)).mono ?_); rintro e w9 ⟨ad9, n9, c9, rfl, H9, hn9, hc9, A9⟩)
        | (go_at_call 18; (with_reducible refine (valnrm _ _ _ _ w9 H9.out).mono ?_); rintro e w10 ⟨rfl, A10⟩))
      go_roundw
      case rel => exact ⟨2, by omega, rfl, (((((((A0.trans A3).trans A4).trans A5).trans A6).trans A7).trans A8).trans A9).trans A10⟩
      case measure => simp [intOf]
    · go_wp2_with (go_at_call 10; (with_reducible refine (known12 wr).mono ?_); rintro e w6 ⟨rfl, A6⟩)
      go_ret
      exact ⟨rfl, ((AA.out.trans A0).trans A6).below⟩

set_option maxRecDepth 100000 in
theorem lifted (os : Os) (started : os.Started) (H : Type) (enc : TypeId × Value → H) :
    ReturnsInHanded {} Try.checked os 3 .any (Rows.memoryNormalizesSpec.pre6 enc Try.prog Try.f3 Rows.memoryNormalizesRow.domain false) (Rows.memoryNormalizesSpec.post enc Try.prog Try.f3 false true false false) := by
  refine returnsInHanded_of_change (C := Try.checked) own started (by kernel_rfl) Try.func3
    (ChangeSpec.witness6 (enc := enc) (C := Try.checked) false ⟨#[], #[.slice none 0 0, .slice none 0 0, .int .u16 0, .int .u8 0], []⟩ 8 (by kernel_rfl) (by kernel_rfl) (by kernel_rfl) (by kernel_rfl)) ?_
  intro W base args ds gs before hval0 hW hcnd _
  have hval : ∀ (j : Nat) t v, Try.f3.params[j]? = some t → args[j]? = some v → Value.okWide Try.prog W .any base t v := hval0
  have hW' := hW
  obtain ⟨p, q, hA0, hV, rfl, hfz, hnd⟩ := hW
  have hA : DataW.TrodAll enc Try.prog W 0 (fun _ => true) true Try.f3.params.toList args.toList ds p := hA0
  rw [Try.params3] at hA hval
  obtain ⟨v0, vs0, d0, ds0, p0, q0, hargs, rfl, rfl, h0, r0⟩ := trodAll_cons hA
  obtain ⟨v1, vs1, d1, ds1, p1, q1, rfl, rfl, rfl, h1, r1⟩ := trodAll_cons r0
  obtain ⟨v2, vs2, d2, ds2, p2, q2, rfl, rfl, rfl, h2, r2⟩ := trodAll_cons r1
  obtain ⟨v3, vs3, d3, ds3, p3, q3, rfl, rfl, rfl, h3, r3⟩ := trodAll_cons r2
  obtain ⟨rfl, rfl, rfl⟩ := trodAll_nil r3
  obtain rfl : args = #[v0, v1, v2, v3] := by cases args; simp_all
  obtain ⟨rfl, rfl⟩ := trodVars_none hV
  have k0 := h0
  have lt0 : ∀ x ∈ p0, x.block < W.heap.size := by obtain ⟨m, hm⟩ := k0; exact DataW.trod_lt m _ _ _ hm
  obtain ⟨a0, len0, cap0, rfl⟩ := okWide_slice Try.underlying22 (hval 0 22 v0 rfl rfl)
  have w0 : len0 ≤ 4611686018427387904 → ∃ l, Held W a0 len0 l := by
    obtain ⟨fuel, hf⟩ := h0
    obtain ⟨x, l, c, hcs, hh⟩ := open_cells hf
    simp [Value.cells] at hcs
    obtain ⟨rfl, rfl, rfl⟩ := hcs
    exact hh
  have k1 := h1
  have lt1 : ∀ x ∈ p1, x.block < W.heap.size := by obtain ⟨m, hm⟩ := k1; exact DataW.trod_lt m _ _ _ hm
  obtain ⟨a1, len1, cap1, rfl⟩ := okWide_slice Try.underlying23 (hval 1 23 v1 rfl rfl)
  obtain ⟨z1, w1⟩ : ∃ zs, IsRow .i64 W a1 len1 cap1 zs := by
    obtain ⟨fuel, hf⟩ := h1
    rcases open_ints Try.underlying23 Try.underlying3 (by kernel_rfl) hf with ⟨hcs, _⟩ | ⟨x, l, c, zs, hcs, _, hl, hm, hz, _, hcell, hwz⟩
    · simp [Value.cells] at hcs
      obtain ⟨rfl, rfl, rfl⟩ := hcs
      exact ⟨[], .inl ⟨rfl, rfl, rfl, rfl⟩⟩
    · simp [Value.cells] at hcs
      obtain ⟨rfl, rfl, rfl⟩ := hcs
      exact ⟨zs, .inr ⟨_, rfl, hl, hm, by simpa using hz, hcell, hwz⟩⟩
  have k2 := h2
  have lt2 : ∀ x ∈ p2, x.block < W.heap.size := by obtain ⟨m, hm⟩ := k2; exact DataW.trod_lt m _ _ _ hm
  obtain ⟨a2, rfl, -, -, w2⟩ := open_int Try.underlying24 (hval 2 24 v2 rfl rfl) h2
  have k3 := h3
  have lt3 : ∀ x ∈ p3, x.block < W.heap.size := by obtain ⟨m, hm⟩ := k3; exact DataW.trod_lt m _ _ _ hm
  obtain ⟨a3, rfl, -, -, w3⟩ := open_int Try.underlying5 (hval 3 5 v3 rfl rfl) h3
  clear hA0 hval0
  refine (walk a0 len0 cap0 a1 len1 cap1 z1 a2 a3 W w0 w1 w2 w3).mono fun e W' ⟨he, bel⟩ => ?_
  subst he
  exact ⟨_, rfl, _, _, _, [], _, [], hW', trodAll_mk1 (shut_bool Try.underlying4 _), (trodAll_cons_mk (Below.trod laidOut (by kernel_rfl) (of_decide_eq_true (by kernel_rfl)) k0 bel lt0) (trodAll_cons_mk (Below.trod laidOut (by kernel_rfl) (of_decide_eq_true (by kernel_rfl)) k1 bel lt1) (trodAll_cons_mk (Below.trod laidOut (by kernel_rfl) (of_decide_eq_true (by kernel_rfl)) k2 bel lt2) (trodAll_cons_mk (Below.trod laidOut (by kernel_rfl) (of_decide_eq_true (by kernel_rfl)) k3 bel lt3) trodAll_mk0)))), rfl, bel.frame _, fun h => by cases h⟩

theorem over : Rows.memoryNormalizesRow.holds Try.pinned (OpenSpec.ofChange Rows.memoryNormalizesSpec) :=
  OpenClaim.holds_of_wide 3 Try.f3 rfl rfl rfl rfl rfl rfl rfl ⟨rfl, rfl, rfl, rfl, rfl⟩ rfl rfl rfl rfl rfl (by kernel_rfl) Try.func3 (by kernel_rfl)
    (of_decide_eq_true (by kernel_rfl)) (by unfold Func.isWrapper; first | (rw [if_pos (by decide +kernel)]; kernel_rfl) | (rw [if_neg (by decide +kernel)]; exact ⟨rfl, rfl⟩))
    (fun os started H enc _ => lifted os started H enc)

/-- The statement. -/
theorem proved : Rows.MemoryNormalizesSaid := over
#print axioms proved
end Go.Proofs.Ytfddefoambakiaa.memoryNormalizes
