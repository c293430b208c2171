/- The statement ScriptDecodesSaid of package tstatelaw24: for every input the law returns true, and its arguments read as before. No condition. -/
import Derived.Test.YtjjcahdieldmcaaRows
import Derived.Test.YtjjcahdieldmcaaM1
import Derived.Test.YtjjcahdieldmcaaCM
import Derived.Test.YtjjcahdieldmcaaC24d
import Derived.Test.YtjjcahdieldmcaaC24e
import Derived.Test.YtjjcahdieldmcaaC24h
import Derived.Test.YtjjcahdieldmcaaC24o
import Derived.Test.YtjjcahdieldmcaaC24k
import Derived.WalkKit
import Derived.ProofKit
import Derived.OpenShut
import Derived.ShutString
import Derived.ChangeOld
import Derived.Below
import Derived.Carry
namespace Go.Proofs.Ytjjcahdieldmcaa.scriptDecodes
open Go.ChangeShapes Go.WideShapes Go.ChangeAt Go.RowKit
open Go.ChangeMaps (open_string shut_string)
set_option linter.unusedVariables false

theorem own : ownKnob Try.prog.godebug = none := by kernel_rfl
theorem laidOut : laidOutB Try.prog = true := by kernel_rfl

set_option maxRecDepth 100000 in
set_option maxHeartbeats 2000000 in
/-- The walk. -/
theorem walk (a0 : Option Addr) (len0 cap0 : Nat) (z0 : List Int) (a1 : Option Addr) (len1 cap1 : Nat) (z1 : List Int) (w : World) (w0 : IsRow .u8 w a0 len0 cap0 z0) (w1 : IsRow .i64 w a1 len1 cap1 z1) :
    Calls Try.prog 3 #[.slice a0 len0 cap0, .slice a1 len1 cap1] w fun e w' => e = .returned (.bool true) ∧ Below w.heap.size w w' := by
  have hcap := rowB_cap w0
  by_cases h400 : 400 < len0
  · clear w0 w1
    go_enter Try.func3, Try.ntmps3
    go_wp2_with (go_at_call 8; refine (known24 _).mono ?_; rintro e w' ⟨rfl, hK⟩)
    go_ret
    exact ⟨rfl, hK.below⟩
  by_cases h200 : 200 < len1
  · clear w0 w1
    go_enter Try.func3, Try.ntmps3
    go_wp2_with (go_at_call 8; refine (known24 _).mono ?_; rintro e w' ⟨rfl, hK⟩)
    go_ret
    exact ⟨rfl, hK.below⟩
  obtain ⟨zs, hz, hb⟩ := heldB_of w0 (by omega)
  have HZ := Lib.hid hz
  have HS := Lib.hid (show Calls Try.prog 9 #[.pointer (some ⟨w.heap.size, 0, none⟩), .int .i64 30] (w.alloc (.cells #[.slice a1 len1 cap1, .int .i64 0] 46)) (ScrPost w.heap.size 30 _) from scr_mk w.heap.size len1 cap1 0 a1 30 (by omega) (by omega) _ (Nb.from rfl w1 (by omega)))
  clear w0 w1 hz hb
  go_enter Try.func3, Try.ntmps3
  go_wp2_with (first
    | (go_at_call 10; (with_reducible refine (from_any a1 len1 cap1 w).mono ?_); rintro e w' ⟨rfl, rfl⟩)
    | (go_at_call 9; (with_reducible refine HS.out.mono ?_); rintro e w2 ⟨r, xs, rfl, hO2, hl2, hG2⟩; obtain ⟨ad2, n2, c2, rfl, hn2, hc21, hc22, -, -⟩ := hO2.form2; have hn2' : n2 ≤ 120 := (by have := hn2.out; omega); have A2 := Lib.hid (box_adds24 hG2); have X2 := Lib.hid (OwnsG.held hO2 (by have := hn2.out; omega)); clear hO2 hl2 hG2)
    | (go_at_call 12; (with_reducible refine (dec_any a0 len0 cap0 zs w2 (HZ.out.adds A2.out) hcap.1 hcap.2 (by omega)).mono ?_); rintro e w3 ⟨r, rfl, hO3, hA3⟩; obtain ⟨ad3, n3, c3, rfl, hn3, -, -, -, -⟩ := hO3.form2; have A3 := Lib.hid hA3; have X3 := Lib.hid (OwnsG.held hO3 (by rw [S.dec_len]; omega)); clear hO3 hA3)
    | (go_at_call 13; (with_reducible refine (rdec_any a0 len0 cap0 zs w3 ((HZ.out.adds A2.out).adds A3.out) hcap.1 hcap.2 (by omega)).mono ?_); rintro e w4 ⟨r, rfl, hO4, hA4⟩; obtain ⟨ad4, n4, c4, rfl, hn4, -, -, -, -⟩ := hO4.form2; have A4 := Lib.hid hA4; obtain rfl : n4 = n3 := hn4.out.symm.trans hn3.out; have X4 := Lib.hid (OwnsG.held hO4 (by rw [S.dec_len]; omega)); clear hO4 hA4)
    | (go_at_call 11; (with_reducible refine (sinp_any ad3 ad4 n4 c3 c4 (S.dec zs) w4 (X3.out.adds A4.out) X4.out).mono ?_); rintro e w5 ⟨rfl, hA5⟩; have A5 := Lib.hid hA5; clear hA5)
    | (go_at_call 12; (with_reducible refine (dec_any ad2 n2 c2 xs w5 (((X2.out.adds A3.out).adds A4.out).adds A5.out) hc21 hc22 (by omega)).mono ?_); rintro e w6 ⟨r, rfl, hO6, hA6⟩; obtain ⟨ad6, n6, c6, rfl, hn6, -, -, -, -⟩ := hO6.form2; have A6 := Lib.hid hA6; have X6 := Lib.hid (OwnsG.held hO6 (by rw [S.dec_len]; omega)); clear hO6 hA6)
    | (go_at_call 13; (with_reducible refine (rdec_any ad2 n2 c2 xs w6 ((((X2.out.adds A3.out).adds A4.out).adds A5.out).adds A6.out) hc21 hc22 (by omega)).mono ?_); rintro e w7 ⟨r, rfl, hO7, hA7⟩; obtain ⟨ad7, n7, c7, rfl, hn7, -, -, -, -⟩ := hO7.form2; have A7 := Lib.hid hA7; obtain rfl : n7 = n6 := hn7.out.symm.trans hn6.out; have X7 := Lib.hid (OwnsG.held hO7 (by rw [S.dec_len]; omega)); clear hO7 hA7)
    | (go_at_call 11; (with_reducible refine (sinp_any ad6 ad7 n7 c6 c7 (S.dec xs) w7 (X6.out.adds A7.out) X7.out).mono ?_); rintro e w8 ⟨rfl, hA8⟩; have A8 := Lib.hid hA8; clear hA8)
    | (go_at_call 14; (with_reducible refine (idle_any w8).mono ?_); rintro e w9 ⟨rfl, hA9⟩; have A9 := Lib.hid hA9; clear hA9; simp only [S.Inp.cs])
    | (go_at_call 15; (with_reducible refine (ridle_any w9).mono ?_); rintro e w10 ⟨rfl, hA10⟩; have A10 := Lib.hid hA10; clear hA10; simp only [S.Inp.cs])
    | (go_at_call 8; (with_reducible refine (known24 w10).mono ?_); rintro e w11 ⟨rfl, A11⟩))
  go_ret
  exact ⟨rfl, (((((((((A2.out.trans A3.out).trans A4.out).trans A5.out).trans A6.out).trans A7.out).trans A8.out).trans A9.out).trans A10.out).trans A11).below⟩

set_option maxRecDepth 100000 in
theorem lifted (os : Os) (started : os.Started) (H : Type) (enc : TypeId × Value → H) :
    ReturnsInHanded {} Try.checked os 3 .any (Rows.scriptDecodesSpec.pre6 enc Try.prog Try.f3 Rows.scriptDecodesRow.domain false) (Rows.scriptDecodesSpec.post enc Try.prog Try.f3 false true false false) := by
  refine returnsInHanded_of_change (C := Try.checked) own started (by kernel_rfl) Try.func3
    (ChangeSpec.witness6 (enc := enc) (C := Try.checked) false ⟨#[], #[.slice none 0 0, .slice none 0 0], []⟩ 8 (by kernel_rfl) (by kernel_rfl) (by kernel_rfl) (by kernel_rfl)) ?_
  intro W base args ds gs before hval0 hW hcnd _
  have hval : ∀ (j : Nat) t v, Try.f3.params[j]? = some t → args[j]? = some v → Value.okWide Try.prog W .any base t v := hval0
  have hW' := hW
  obtain ⟨p, q, hA0, hV, rfl, hfz, hnd⟩ := hW
  have hA : DataW.TrodAll enc Try.prog W 0 (fun _ => true) true Try.f3.params.toList args.toList ds p := hA0
  rw [Try.params3] at hA hval
  obtain ⟨v0, vs0, d0, ds0, p0, q0, hargs, rfl, rfl, h0, r0⟩ := trodAll_cons hA
  obtain ⟨v1, vs1, d1, ds1, p1, q1, rfl, rfl, rfl, h1, r1⟩ := trodAll_cons r0
  obtain ⟨rfl, rfl, rfl⟩ := trodAll_nil r1
  obtain rfl : args = #[v0, v1] := by cases args; simp_all
  obtain ⟨rfl, rfl⟩ := trodVars_none hV
  have k0 := h0
  have lt0 : ∀ x ∈ p0, x.block < W.heap.size := by obtain ⟨m, hm⟩ := k0; exact DataW.trod_lt m _ _ _ hm
  obtain ⟨a0, len0, cap0, rfl⟩ := okWide_slice Try.underlying22 (hval 0 22 v0 rfl rfl)
  obtain ⟨z0, w0⟩ : ∃ zs, IsRow .u8 W a0 len0 cap0 zs := by
    obtain ⟨fuel, hf⟩ := h0
    rcases open_ints Try.underlying22 Try.underlying5 (by kernel_rfl) hf with ⟨hcs, _⟩ | ⟨x, l, c, zs, hcs, _, hl, hm, hz, _, hcell, hwz⟩
    · simp [Value.cells] at hcs
      obtain ⟨rfl, rfl, rfl⟩ := hcs
      exact ⟨[], .inl ⟨rfl, rfl, rfl, rfl⟩⟩
    · simp [Value.cells] at hcs
      obtain ⟨rfl, rfl, rfl⟩ := hcs
      exact ⟨zs, .inr ⟨_, rfl, hl, hm, by simpa using hz, hcell, hwz⟩⟩
  have k1 := h1
  have lt1 : ∀ x ∈ p1, x.block < W.heap.size := by obtain ⟨m, hm⟩ := k1; exact DataW.trod_lt m _ _ _ hm
  obtain ⟨a1, len1, cap1, rfl⟩ := okWide_slice Try.underlying23 (hval 1 23 v1 rfl rfl)
  obtain ⟨z1, w1⟩ : ∃ zs, IsRow .i64 W a1 len1 cap1 zs := by
    obtain ⟨fuel, hf⟩ := h1
    rcases open_ints Try.underlying23 Try.underlying3 (by kernel_rfl) hf with ⟨hcs, _⟩ | ⟨x, l, c, zs, hcs, _, hl, hm, hz, _, hcell, hwz⟩
    · simp [Value.cells] at hcs
      obtain ⟨rfl, rfl, rfl⟩ := hcs
      exact ⟨[], .inl ⟨rfl, rfl, rfl, rfl⟩⟩
    · simp [Value.cells] at hcs
      obtain ⟨rfl, rfl, rfl⟩ := hcs
      exact ⟨zs, .inr ⟨_, rfl, hl, hm, by simpa using hz, hcell, hwz⟩⟩
  clear hA0 hval0
  refine (walk a0 len0 cap0 z0 a1 len1 cap1 z1 W w0 w1).mono fun e W' ⟨he, bel⟩ => ?_
  subst he
  exact ⟨_, rfl, _, _, _, [], _, [], hW', trodAll_mk1 (shut_bool Try.underlying4 _), (trodAll_cons_mk (Below.trod laidOut (by kernel_rfl) (of_decide_eq_true (by kernel_rfl)) k0 bel lt0) (trodAll_cons_mk (Below.trod laidOut (by kernel_rfl) (of_decide_eq_true (by kernel_rfl)) k1 bel lt1) trodAll_mk0)), rfl, bel.frame _, fun h => by cases h⟩

theorem over : Rows.scriptDecodesRow.holds Try.pinned (OpenSpec.ofChange Rows.scriptDecodesSpec) :=
  OpenClaim.holds_of_wide 3 Try.f3 rfl rfl rfl rfl rfl rfl rfl ⟨rfl, rfl, rfl, rfl, rfl⟩ rfl rfl rfl rfl rfl (by kernel_rfl) Try.func3 (by kernel_rfl)
    (of_decide_eq_true (by kernel_rfl)) (by unfold Func.isWrapper; first | (rw [if_pos (by decide +kernel)]; kernel_rfl) | (rw [if_neg (by decide +kernel)]; exact ⟨rfl, rfl⟩))
    (fun os started H enc _ => lifted os started H enc)

/-- The statement. -/
theorem proved : Rows.ScriptDecodesSaid := over
#print axioms proved
end Go.Proofs.Ytjjcahdieldmcaa.scriptDecodes
