/- The statement RegionsWritesSaid of package tstatelaw13: for every input the law returns true, and its arguments read as before. No condition. -/
import Derived.Test.YtfddefoambakiaaRows
import Derived.Test.YtfddefoambakiaaM1
import Derived.Test.YtfddefoambakiaaCM
import Derived.Test.YtfddefoambakiaaC13e
import Derived.WalkKit
import Derived.ProofKit
import Derived.OpenShut
import Derived.ShutString
import Derived.ChangeOld
import Derived.Below
import Derived.Carry
namespace Go.Proofs.Ytfddefoambakiaa.regionsWrites
open Go.ChangeShapes Go.WideShapes Go.ChangeAt Go.RowKit
open Go.ChangeMaps (open_string shut_string)
set_option linter.unusedVariables false

theorem own : ownKnob Try.prog.godebug = none := by kernel_rfl
theorem laidOut : laidOutB Try.prog = true := by kernel_rfl

set_option maxHeartbeats 2000000 in
/-- The walk. -/
theorem walk (a0 : Option Addr) (len0 cap0 : Nat) (a1 : Option Addr) (len1 cap1 : Nat) (a2 : Option Addr) (len2 cap2 : Nat) (z2 : List Int) (a3 : Int) (a4 : Int) (w : World) (w0 : len0 ≤ 2305843009213693952 → ∃ l, HeldR w a0 len0 l) (w1 : len1 ≤ 4611686018427387904 → ∃ l, Held w a1 len1 l) (w2 : IsRow .i64 w a2 len2 cap2 z2) (w3 : (Lit.int .u16 a3).wf = true) (w4 : (Lit.int .u8 a4).wf = true) :
    Calls Try.prog 7 #[.slice a0 len0 cap0, .slice a1 len1 cap1, .slice a2 len2 cap2, .int .u16 a3, .int .u8 a4] w fun e w' => e = .returned (.bool true) ∧ Below w.heap.size w w' := by
  by_cases h40 : 40 < len0
  · clear w0 w1 w2
    go_enter Try.func7, Try.ntmps7
    go_wp2_with (go_at_call 22; refine (known13 _).mono ?_; rintro e w' ⟨rfl, hK⟩)
    go_ret
    exact ⟨rfl, hK.below⟩
  by_cases h60 : 60 < len1
  · clear w0 w1 w2
    go_enter Try.func7, Try.ntmps7
    go_wp2_with (go_at_call 22; refine (known13 _).mono ?_; rintro e w' ⟨rfl, hK⟩)
    go_ret
    exact ⟨rfl, hK.below⟩
  by_cases h100 : 100 < len2
  · clear w0 w1 w2
    go_enter Try.func7, Try.ntmps7
    go_wp2_with (go_at_call 22; refine (known13 _).mono ?_; rintro e w' ⟨rfl, hK⟩)
    go_ret
    exact ⟨rfl, hK.below⟩
  obtain ⟨l0, w0'⟩ := w0 (by omega)
  obtain ⟨l1, w1'⟩ := w1 (by omega)
  have H0 := Lib.hid w0'
  have H1 := Lib.hid w1'
  have B0 := Lib.hid (bx_from w2 (by omega))
  clear w0 w1 w2 w0' w1'
  go_enter Try.func7, Try.ntmps7
  go_wp2_with (first
    | (go_at_call 12; (with_reducible refine (from_any a2 len2 cap2 w).mono ?_); rintro e w1 ⟨rfl, rfl⟩)
    | (go_at_call 23; (with_reducible refine (regs_bx w _ a2 len2 cap2 0 6 6 rfl (by omega) (by omega) B0.out).mono ?_); rintro e w2 ⟨adr, nr, cr, dr, N2, rfl, OR2, hdr, hnr, hcr, hzr, hN2, B2, G2⟩)
    | (go_at_call 11; (with_reducible refine (cells_bx w _ a2 len2 cap2 N2 10 10 rfl (by omega) (by omega) B2.out).mono ?_); rintro e w3 ⟨adc, nc, cc, dc, N3, rfl, OC3, hdc, hnc, hcc, hN3, B3, G3⟩)
    | (go_at_call 27; (with_reducible refine (word_bx w _ a2 len2 cap2 N3 (by omega) B3.out).mono ?_); rintro e w4 ⟨y, N4, hy0, hy1, rfl, hN4, B4, G4⟩; have R1 := Lib.hid ((bx_ownR (bx_ownR OR2.out G3.out) G4.out).held (by have := hdr.out; omega)); have C1 := Lib.hid ((bx_own OC3.out G4.out).held (by have := hdc.out; omega)); have AA := Lib.hid B4.out.2; have R0 := Lib.hid (H0.out.adds AA.out); have C0 := Lib.hid (H1.out.adds AA.out))
    | (go_at_call 34; (with_reducible refine (rgwrite_any _ _ _ _ _ _ _ _ _ _ w4 R0.out C0.out (by omega)).mono ?_); rintro e w5 ⟨ad5, n5, c5, rfl, H5, hn5, hc5, A5⟩)
    | (go_at_call 35; (with_reducible refine (rrgwrite_any _ _ _ _ _ _ _ _ _ _ w5 (R0.out.adds A5) (C0.out.adds A5) (by omega)).mono ?_); rintro e w6 ⟨ad6, n6, c6, rfl, H6, hn6, hc6, A6⟩)
    | (go_at_call 13; (with_reducible refine (same_h _ _ _ _ _ _ _ w6 (H5.out.adds A6) H6.out).mono ?_); rintro e w7 ⟨rfl, A7⟩; have AB := Lib.hid ((A5.trans A6).trans A7))
    | (go_at_call 34; (with_reducible refine (rgwrite_any _ _ _ _ _ _ _ _ _ _ w7 (R1.out.adds AB.out) (C1.out.adds AB.out) (by omega)).mono ?_); rintro e w8 ⟨ad8, n8, c8, rfl, H8, hn8, hc8, A8⟩)
    | (go_at_call 35; (with_reducible refine (rrgwrite_any _ _ _ _ _ _ _ _ _ _ w8 (R1.out.adds (AB.out.trans A8)) (C1.out.adds (AB.out.trans A8)) (by omega)).mono ?_); rintro e w9 ⟨ad9, n9, c9, rfl, H9, hn9, hc9, A9⟩)
    | (go_at_call 13; (with_reducible refine (same_h _ _ _ _ _ _ _ w9 (H8.out.adds A9) H9.out).mono ?_); rintro e w10 ⟨rfl, A10⟩; have AC := Lib.hid (((AB.out.trans A8).trans A9).trans A10))
    | (go_at_call 34; (with_reducible refine (rgwrite_any _ _ _ _ _ _ _ _ _ _ w10 (R1.out.adds AC.out) (C1.out.adds AC.out) (by omega)).mono ?_); rintro e w11 ⟨ad11, n11, c11, rfl, H11, hn11, hc11, A11⟩)
    | (go_at_call 35; (with_reducible refine (rrgwrite_any _ _ _ _ _ _ _ _ _ _ w11 (R1.out.adds (AC.out.trans A11)) (C1.out.adds (AC.out.trans A11)) (by omega)).mono ?_); rintro e w12 ⟨ad12, n12, c12, rfl, H12, hn12, hc12, A12⟩)
    | (go_at_call 13; (with_reducible refine (same_h _ _ _ _ _ _ _ w12 (H11.out.adds A12) H12.out).mono ?_); rintro e w13 ⟨rfl, A13⟩)
    | (go_at_call 22; (with_reducible refine (known13 w13).mono ?_); rintro e w14 ⟨rfl, A14⟩))
  go_ret
  exact ⟨rfl, (((((AA.out.trans AC.out).trans A11).trans A12).trans A13).trans A14).below⟩

set_option maxRecDepth 100000 in
theorem lifted (os : Os) (started : os.Started) (H : Type) (enc : TypeId × Value → H) :
    ReturnsInHanded {} Try.checked os 7 .any (Rows.regionsWritesSpec.pre6 enc Try.prog Try.f7 Rows.regionsWritesRow.domain false) (Rows.regionsWritesSpec.post enc Try.prog Try.f7 false true false false) := by
  refine returnsInHanded_of_change (C := Try.checked) own started (by kernel_rfl) Try.func7
    (ChangeSpec.witness6 (enc := enc) (C := Try.checked) false ⟨#[], #[.slice none 0 0, .slice none 0 0, .slice none 0 0, .int .u16 0, .int .u8 0], []⟩ 8 (by kernel_rfl) (by kernel_rfl) (by kernel_rfl) (by kernel_rfl)) ?_
  intro W base args ds gs before hval0 hW hcnd _
  have hval : ∀ (j : Nat) t v, Try.f7.params[j]? = some t → args[j]? = some v → Value.okWide Try.prog W .any base t v := hval0
  have hW' := hW
  obtain ⟨p, q, hA0, hV, rfl, hfz, hnd⟩ := hW
  have hA : DataW.TrodAll enc Try.prog W 0 (fun _ => true) true Try.f7.params.toList args.toList ds p := hA0
  rw [Try.params7] at hA hval
  obtain ⟨v0, vs0, d0, ds0, p0, q0, hargs, rfl, rfl, h0, r0⟩ := trodAll_cons hA
  obtain ⟨v1, vs1, d1, ds1, p1, q1, rfl, rfl, rfl, h1, r1⟩ := trodAll_cons r0
  obtain ⟨v2, vs2, d2, ds2, p2, q2, rfl, rfl, rfl, h2, r2⟩ := trodAll_cons r1
  obtain ⟨v3, vs3, d3, ds3, p3, q3, rfl, rfl, rfl, h3, r3⟩ := trodAll_cons r2
  obtain ⟨v4, vs4, d4, ds4, p4, q4, rfl, rfl, rfl, h4, r4⟩ := trodAll_cons r3
  obtain ⟨rfl, rfl, rfl⟩ := trodAll_nil r4
  obtain rfl : args = #[v0, v1, v2, v3, v4] := by cases args; simp_all
  obtain ⟨rfl, rfl⟩ := trodVars_none hV
  have k0 := h0
  have lt0 : ∀ x ∈ p0, x.block < W.heap.size := by obtain ⟨m, hm⟩ := k0; exact DataW.trod_lt m _ _ _ hm
  obtain ⟨a0, len0, cap0, rfl⟩ := okWide_slice Try.underlying39 (hval 0 39 v0 rfl rfl)
  have w0 : len0 ≤ 2305843009213693952 → ∃ l, HeldR W a0 len0 l := by
    obtain ⟨fuel, hf⟩ := h0
    obtain ⟨x, l, c, hcs, hh⟩ := open_regions hf
    simp [Value.cells] at hcs
    obtain ⟨rfl, rfl, rfl⟩ := hcs
    exact hh
  have k1 := h1
  have lt1 : ∀ x ∈ p1, x.block < W.heap.size := by obtain ⟨m, hm⟩ := k1; exact DataW.trod_lt m _ _ _ hm
  obtain ⟨a1, len1, cap1, rfl⟩ := okWide_slice Try.underlying22 (hval 1 22 v1 rfl rfl)
  have w1 : len1 ≤ 4611686018427387904 → ∃ l, Held W a1 len1 l := by
    obtain ⟨fuel, hf⟩ := h1
    obtain ⟨x, l, c, hcs, hh⟩ := open_cells hf
    simp [Value.cells] at hcs
    obtain ⟨rfl, rfl, rfl⟩ := hcs
    exact hh
  have k2 := h2
  have lt2 : ∀ x ∈ p2, x.block < W.heap.size := by obtain ⟨m, hm⟩ := k2; exact DataW.trod_lt m _ _ _ hm
  obtain ⟨a2, len2, cap2, rfl⟩ := okWide_slice Try.underlying23 (hval 2 23 v2 rfl rfl)
  obtain ⟨z2, w2⟩ : ∃ zs, IsRow .i64 W a2 len2 cap2 zs := by
    obtain ⟨fuel, hf⟩ := h2
    rcases open_ints Try.underlying23 Try.underlying3 (by kernel_rfl) hf with ⟨hcs, _⟩ | ⟨x, l, c, zs, hcs, _, hl, hm, hz, _, hcell, hwz⟩
    · simp [Value.cells] at hcs
      obtain ⟨rfl, rfl, rfl⟩ := hcs
      exact ⟨[], .inl ⟨rfl, rfl, rfl, rfl⟩⟩
    · simp [Value.cells] at hcs
      obtain ⟨rfl, rfl, rfl⟩ := hcs
      exact ⟨zs, .inr ⟨_, rfl, hl, hm, by simpa using hz, hcell, hwz⟩⟩
  have k3 := h3
  have lt3 : ∀ x ∈ p3, x.block < W.heap.size := by obtain ⟨m, hm⟩ := k3; exact DataW.trod_lt m _ _ _ hm
  obtain ⟨a3, rfl, -, -, w3⟩ := open_int Try.underlying24 (hval 3 24 v3 rfl rfl) h3
  have k4 := h4
  have lt4 : ∀ x ∈ p4, x.block < W.heap.size := by obtain ⟨m, hm⟩ := k4; exact DataW.trod_lt m _ _ _ hm
  obtain ⟨a4, rfl, -, -, w4⟩ := open_int Try.underlying5 (hval 4 5 v4 rfl rfl) h4
  clear hA0 hval0
  refine (walk a0 len0 cap0 a1 len1 cap1 a2 len2 cap2 z2 a3 a4 W w0 w1 w2 w3 w4).mono fun e W' ⟨he, bel⟩ => ?_
  subst he
  exact ⟨_, rfl, _, _, _, [], _, [], hW', trodAll_mk1 (shut_bool Try.underlying4 _), (trodAll_cons_mk (Below.trod laidOut (by kernel_rfl) (of_decide_eq_true (by kernel_rfl)) k0 bel lt0) (trodAll_cons_mk (Below.trod laidOut (by kernel_rfl) (of_decide_eq_true (by kernel_rfl)) k1 bel lt1) (trodAll_cons_mk (Below.trod laidOut (by kernel_rfl) (of_decide_eq_true (by kernel_rfl)) k2 bel lt2) (trodAll_cons_mk (Below.trod laidOut (by kernel_rfl) (of_decide_eq_true (by kernel_rfl)) k3 bel lt3) (trodAll_cons_mk (Below.trod laidOut (by kernel_rfl) (of_decide_eq_true (by kernel_rfl)) k4 bel lt4) trodAll_mk0))))), rfl, bel.frame _, fun h => by cases h⟩

theorem over : Rows.regionsWritesRow.holds Try.pinned (OpenSpec.ofChange Rows.regionsWritesSpec) :=
  OpenClaim.holds_of_wide 7 Try.f7 rfl rfl rfl rfl rfl rfl rfl ⟨rfl, rfl, rfl, rfl, rfl⟩ rfl rfl rfl rfl rfl (by kernel_rfl) Try.func7 (by kernel_rfl)
    (of_decide_eq_true (by kernel_rfl)) (by unfold Func.isWrapper; first | (rw [if_pos (by decide +kernel)]; kernel_rfl) | (rw [if_neg (by decide +kernel)]; exact ⟨rfl, rfl⟩))
    (fun os started H enc _ => lifted os started H enc)

/-- The statement. -/
theorem proved : Rows.RegionsWritesSaid := over
#print axioms proved
end Go.Proofs.Ytfddefoambakiaa.regionsWrites
