/- The statement MemoryExchangesSaid of package tstatelaw12: for every input the law returns true, and its arguments read as before. No condition. -/
import Derived.Test.YtbpnekigmjhkoaaRows
import Derived.Test.YtbpnekigmjhkoaaM1
import Derived.Test.YtbpnekigmjhkoaaCM
import Derived.Test.YtbpnekigmjhkoaaC12s
import Derived.WalkKit
import Derived.ProofKit
import Derived.OpenShut
import Derived.ShutString
import Derived.ChangeOld
import Derived.Below
import Derived.Carry
namespace Go.Proofs.Ytbpnekigmjhkoaa.memoryExchanges
open Go.ChangeShapes Go.WideShapes Go.ChangeAt Go.RowKit
open Go.ChangeMaps (open_string shut_string)
set_option linter.unusedVariables false

theorem own : ownKnob Try.prog.godebug = none := by kernel_rfl
theorem laidOut : laidOutB Try.prog = true := by kernel_rfl

set_option maxHeartbeats 2000000 in
/-- The walk. -/
theorem walk (a0 : Option Addr) (len0 cap0 : Nat) (z0 : List Int) (a1 : Int) (a2 : Int) (a3 : Int) (a4 : Int) (w : World) (w0 : IsRow .i64 w a0 len0 cap0 z0) (w1 : (Lit.int .u16 a1).wf = true) (w2 : (Lit.int .u16 a2).wf = true) (w3 : (Lit.int .u8 a3).wf = true) (w4 : (Lit.int .u8 a4).wf = true) :
    Calls Try.prog 7 #[.slice a0 len0 cap0, .int .u16 a1, .int .u16 a2, .int .u8 a3, .int .u8 a4] w fun e w' => e = .returned (.bool true) ∧ Below w.heap.size w w' := by
  by_cases hlt : 100 < len0
  · go_enter Try.func7, Try.ntmps7
    go_wp2_with (go_at_call 8; refine (known12 _).mono ?_; rintro e w' ⟨rfl, hK⟩)
    go_ret
    exact ⟨rfl, hK.below⟩
  have hle : len0 ≤ 100 := by omega
  have hM := Lib.hid (made_any a0 len0 cap0 z0 w w0 hle)
  clear w0
  by_cases hab : a1 = a2
  · subst hab
    go_enter Try.func7, Try.ntmps7
    go_wp2_with (first
      | (go_at_call 10; go_loud (refine (from_any a0 len0 cap0 w).mono ?_; rintro e w1 ⟨rfl, rfl⟩))
      | (go_at_call 9; go_loud (refine hM.out.mono ?_); rintro e w2 ⟨ad, n, c, d, rfl, H2, hn2, hc2, hz2, A2⟩; have hn2' := hn2.out)
      | (go_at_call 18; (with_reducible refine (put_held ad n c d a1 a3 w2 H2.out (by omega)).mono ?_); rintro e w3 ⟨ad3, n3, c3, rfl, H3, hn3, hc3, A3⟩; have hn3' := hn3.out)
      | (go_at_call 18; (with_reducible refine (put_held ad3 n3 c3 _ a1 a4 w3 H3.out (by omega)).mono ?_); rintro e w4 ⟨ad4, n4, c4, rfl, H4, hn4, hc4, A4⟩)
      | (go_at_call 18; (with_reducible refine (put_held ad n c d a1 a4 w4 ((H2.out.adds A3).adds A4) (by omega)).mono ?_); rintro e w5 ⟨ad5, n5, c5, rfl, H5, hn5, hc5, A5⟩; have hn5' := hn5.out)
      | (go_at_call 18; (with_reducible refine (put_held ad5 n5 c5 _ a1 a3 w5 H5.out (by omega)).mono ?_); rintro e w6 ⟨ad6, n6, c6, rfl, H6, hn6, hc6, A6⟩)
      | (go_at_call 18; (with_reducible refine (put_held ad n c d a1 a4 w6 ((((H2.out.adds A3).adds A4).adds A5).adds A6) (by omega)).mono ?_); rintro e w7 ⟨ad7, n7, c7, rfl, H7, hn7, hc7, A7⟩)
      | (go_at_call 16; (with_reducible refine (same_any ad4 ad7 n4 c4 n7 c7 _ _ w7 (((H4.out.adds A5).adds A6).adds A7) H7.out).mono ?_); rintro e w8 ⟨rfl, A8⟩; rw [Sm.exch_eq])
      | (go_at_call 8; (with_reducible refine (known12 w8).mono ?_); rintro e w9 ⟨rfl, A9⟩))
    go_ret
    exact ⟨rfl, (((((((A2.trans A3).trans A4).trans A5).trans A6).trans A7).trans A8).trans A9).below⟩
  · go_enter Try.func7, Try.ntmps7
    go_wp2_with (first
      | (go_at_call 10; go_loud (refine (from_any a0 len0 cap0 w).mono ?_; rintro e w1 ⟨rfl, rfl⟩))
      | (go_at_call 9; go_loud (refine hM.out.mono ?_); rintro e w2 ⟨ad, n, c, d, rfl, H2, hn2, hc2, hz2, A2⟩; have hn2' := hn2.out)
      | (go_at_call 18; (with_reducible refine (put_held ad n c d a1 a3 w2 H2.out (by omega)).mono ?_); rintro e w3 ⟨ad3, n3, c3, rfl, H3, hn3, hc3, A3⟩; have hn3' := hn3.out)
      | (go_at_call 18; (with_reducible refine (put_held ad3 n3 c3 _ a2 a4 w3 H3.out (by omega)).mono ?_); rintro e w4 ⟨ad4, n4, c4, rfl, H4, hn4, hc4, A4⟩)
      | (go_at_call 18; (with_reducible refine (put_held ad n c d a2 a4 w4 ((H2.out.adds A3).adds A4) (by omega)).mono ?_); rintro e w5 ⟨ad5, n5, c5, rfl, H5, hn5, hc5, A5⟩; have hn5' := hn5.out)
      | (go_at_call 18; (with_reducible refine (put_held ad5 n5 c5 _ a1 a3 w5 H5.out (by omega)).mono ?_); rintro e w6 ⟨ad6, n6, c6, rfl, H6, hn6, hc6, A6⟩)
      | (go_at_call 16; (with_reducible refine (same_any ad4 ad6 n4 c4 n6 c6 _ _ w6 ((H4.out.adds A5).adds A6) H6.out).mono ?_); rintro e w8 ⟨rfl, A8⟩; rw [Sm.exch_ne _ _ _ _ _ hab])
      | (go_at_call 8; (with_reducible refine (known12 w8).mono ?_); rintro e w9 ⟨rfl, A9⟩))
    go_ret
    exact ⟨rfl, ((((((A2.trans A3).trans A4).trans A5).trans A6).trans A8).trans A9).below⟩

set_option maxRecDepth 100000 in
theorem lifted (os : Os) (started : os.Started) (H : Type) (enc : TypeId × Value → H) :
    ReturnsInHanded {} Try.checked os 7 .any (Rows.memoryExchangesSpec.pre6 enc Try.prog Try.f7 Rows.memoryExchangesRow.domain false) (Rows.memoryExchangesSpec.post enc Try.prog Try.f7 false true false false) := by
  refine returnsInHanded_of_change (C := Try.checked) own started (by kernel_rfl) Try.func7
    (ChangeSpec.witness6 (enc := enc) (C := Try.checked) false ⟨#[], #[.slice none 0 0, .int .u16 0, .int .u16 0, .int .u8 0, .int .u8 0], []⟩ 8 (by kernel_rfl) (by kernel_rfl) (by kernel_rfl) (by kernel_rfl)) ?_
  intro W base args ds gs before hval0 hW hcnd _
  have hval : ∀ (j : Nat) t v, Try.f7.params[j]? = some t → args[j]? = some v → Value.okWide Try.prog W .any base t v := hval0
  have hW' := hW
  obtain ⟨p, q, hA0, hV, rfl, hfz, hnd⟩ := hW
  have hA : DataW.TrodAll enc Try.prog W 0 (fun _ => true) true Try.f7.params.toList args.toList ds p := hA0
  rw [Try.params7] at hA hval
  obtain ⟨v0, vs0, d0, ds0, p0, q0, hargs, rfl, rfl, h0, r0⟩ := trodAll_cons hA
  obtain ⟨v1, vs1, d1, ds1, p1, q1, rfl, rfl, rfl, h1, r1⟩ := trodAll_cons r0
  obtain ⟨v2, vs2, d2, ds2, p2, q2, rfl, rfl, rfl, h2, r2⟩ := trodAll_cons r1
  obtain ⟨v3, vs3, d3, ds3, p3, q3, rfl, rfl, rfl, h3, r3⟩ := trodAll_cons r2
  obtain ⟨v4, vs4, d4, ds4, p4, q4, rfl, rfl, rfl, h4, r4⟩ := trodAll_cons r3
  obtain ⟨rfl, rfl, rfl⟩ := trodAll_nil r4
  obtain rfl : args = #[v0, v1, v2, v3, v4] := by cases args; simp_all
  obtain ⟨rfl, rfl⟩ := trodVars_none hV
  have k0 := h0
  have lt0 : ∀ x ∈ p0, x.block < W.heap.size := by obtain ⟨m, hm⟩ := k0; exact DataW.trod_lt m _ _ _ hm
  obtain ⟨a0, len0, cap0, rfl⟩ := okWide_slice Try.underlying23 (hval 0 23 v0 rfl rfl)
  obtain ⟨z0, w0⟩ : ∃ zs, IsRow .i64 W a0 len0 cap0 zs := by
    obtain ⟨fuel, hf⟩ := h0
    rcases open_ints Try.underlying23 Try.underlying3 (by kernel_rfl) hf with ⟨hcs, _⟩ | ⟨x, l, c, zs, hcs, _, hl, hm, hz, _, hcell, hwz⟩
    · simp [Value.cells] at hcs
      obtain ⟨rfl, rfl, rfl⟩ := hcs
      exact ⟨[], .inl ⟨rfl, rfl, rfl, rfl⟩⟩
    · simp [Value.cells] at hcs
      obtain ⟨rfl, rfl, rfl⟩ := hcs
      exact ⟨zs, .inr ⟨_, rfl, hl, hm, by simpa using hz, hcell, hwz⟩⟩
  have k1 := h1
  have lt1 : ∀ x ∈ p1, x.block < W.heap.size := by obtain ⟨m, hm⟩ := k1; exact DataW.trod_lt m _ _ _ hm
  obtain ⟨a1, rfl, -, -, w1⟩ := open_int Try.underlying24 (hval 1 24 v1 rfl rfl) h1
  have k2 := h2
  have lt2 : ∀ x ∈ p2, x.block < W.heap.size := by obtain ⟨m, hm⟩ := k2; exact DataW.trod_lt m _ _ _ hm
  obtain ⟨a2, rfl, -, -, w2⟩ := open_int Try.underlying24 (hval 2 24 v2 rfl rfl) h2
  have k3 := h3
  have lt3 : ∀ x ∈ p3, x.block < W.heap.size := by obtain ⟨m, hm⟩ := k3; exact DataW.trod_lt m _ _ _ hm
  obtain ⟨a3, rfl, -, -, w3⟩ := open_int Try.underlying5 (hval 3 5 v3 rfl rfl) h3
  have k4 := h4
  have lt4 : ∀ x ∈ p4, x.block < W.heap.size := by obtain ⟨m, hm⟩ := k4; exact DataW.trod_lt m _ _ _ hm
  obtain ⟨a4, rfl, -, -, w4⟩ := open_int Try.underlying5 (hval 4 5 v4 rfl rfl) h4
  clear hA0 hval0
  refine (walk a0 len0 cap0 z0 a1 a2 a3 a4 W w0 w1 w2 w3 w4).mono fun e W' ⟨he, bel⟩ => ?_
  subst he
  exact ⟨_, rfl, _, _, _, [], _, [], hW', trodAll_mk1 (shut_bool Try.underlying4 _), (trodAll_cons_mk (Below.trod laidOut (by kernel_rfl) (of_decide_eq_true (by kernel_rfl)) k0 bel lt0) (trodAll_cons_mk (Below.trod laidOut (by kernel_rfl) (of_decide_eq_true (by kernel_rfl)) k1 bel lt1) (trodAll_cons_mk (Below.trod laidOut (by kernel_rfl) (of_decide_eq_true (by kernel_rfl)) k2 bel lt2) (trodAll_cons_mk (Below.trod laidOut (by kernel_rfl) (of_decide_eq_true (by kernel_rfl)) k3 bel lt3) (trodAll_cons_mk (Below.trod laidOut (by kernel_rfl) (of_decide_eq_true (by kernel_rfl)) k4 bel lt4) trodAll_mk0))))), rfl, bel.frame _, fun h => by cases h⟩

theorem over : Rows.memoryExchangesRow.holds Try.pinned (OpenSpec.ofChange Rows.memoryExchangesSpec) :=
  OpenClaim.holds_of_wide 7 Try.f7 rfl rfl rfl rfl rfl rfl rfl ⟨rfl, rfl, rfl, rfl, rfl⟩ rfl rfl rfl rfl rfl (by kernel_rfl) Try.func7 (by kernel_rfl)
    (of_decide_eq_true (by kernel_rfl)) (by unfold Func.isWrapper; first | (rw [if_pos (by decide +kernel)]; kernel_rfl) | (rw [if_neg (by decide +kernel)]; exact ⟨rfl, rfl⟩))
    (fun os started H enc _ => lifted os started H enc)

/-- The statement. -/
theorem proved : Rows.MemoryExchangesSaid := over
#print axioms proved
end Go.Proofs.Ytbpnekigmjhkoaa.memoryExchanges
