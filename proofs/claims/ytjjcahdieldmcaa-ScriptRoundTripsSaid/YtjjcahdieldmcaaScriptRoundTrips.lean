/- The statement ScriptRoundTripsSaid of package tstatelaw24: for every input the law returns true, and its arguments read as before. No condition. -/
import Derived.Test.YtjjcahdieldmcaaRows
import Derived.Test.YtjjcahdieldmcaaM1
import Derived.Test.YtjjcahdieldmcaaCM
import Derived.Test.YtjjcahdieldmcaaC24d
import Derived.Test.YtjjcahdieldmcaaC24f
import Derived.Test.YtjjcahdieldmcaaC24h
import Derived.Test.YtjjcahdieldmcaaC24n
import Derived.Test.YtjjcahdieldmcaaC24k
import Derived.WalkKit
import Derived.ProofKit
import Derived.OpenShut
import Derived.ShutString
import Derived.ChangeOld
import Derived.Below
import Derived.Carry
namespace Go.Proofs.Ytjjcahdieldmcaa.scriptRoundTrips
open Go.ChangeShapes Go.WideShapes Go.ChangeAt Go.RowKit
open Go.ChangeMaps (open_string shut_string)
set_option linter.unusedVariables false

theorem own : ownKnob Try.prog.godebug = none := by kernel_rfl
theorem laidOut : laidOutB Try.prog = true := by kernel_rfl

set_option maxRecDepth 100000 in
set_option maxHeartbeats 2000000 in
/-- The walk. -/
theorem walk (a0 : Option Addr) (len0 cap0 : Nat) (a1 : Option Addr) (len1 cap1 : Nat) (z1 : List Int) (w : World) (w0 : (len0 ≤ cap0 ∧ cap0 ≤ 9223372036854775807) ∧ (len0 ≤ 4611686018427387904 → ∃ l, HeldI w a0 len0 l ∧ ∀ r ∈ l, r.ok)) (w1 : IsRow .i64 w a1 len1 cap1 z1) :
    Calls Try.prog 5 #[.slice a0 len0 cap0, .slice a1 len1 cap1] w fun e w' => e = .returned (.bool true) ∧ Below w.heap.size w w' := by
  by_cases h100 : 100 < len0
  · clear w0 w1
    go_enter Try.func5, Try.ntmps5
    go_wp2_with (go_at_call 8; refine (known24 _).mono ?_; rintro e w' ⟨rfl, hK⟩)
    go_ret
    exact ⟨rfl, hK.below⟩
  by_cases h200 : 200 < len1
  · clear w0 w1
    go_enter Try.func5, Try.ntmps5
    go_wp2_with (go_at_call 8; refine (known24 _).mono ?_; rintro e w' ⟨rfl, hK⟩)
    go_ret
    exact ⟨rfl, hK.below⟩
  obtain ⟨hcap, hw⟩ := w0
  obtain ⟨l, hl, hok⟩ := hw (by omega)
  have HL := Lib.hid hl
  have HE := Lib.hid (S.dec_enc l (by have := hl.1; omega))
  have HS := Lib.hid (show Calls Try.prog 21 #[.pointer (some ⟨w.heap.size, 0, none⟩), .int .i64 40] (w.alloc (.cells #[.slice a1 len1 cap1, .int .i64 0] 46)) (InpsPost w.heap.size len1 cap1 0 a1 40 _) from inps_mk w.heap.size len1 cap1 0 a1 40 (by omega) (by omega) _ (Nb.from rfl w1 (by omega)))
  clear hw hl hok w1
  go_enter Try.func5, Try.ntmps5
  go_wp2_with (first
    | (go_at_call 10; (with_reducible refine (from_any a1 len1 cap1 w).mono ?_); rintro e w' ⟨rfl, rfl⟩)
    | (go_at_call 21; (with_reducible refine HS.out.mono ?_); rintro e w2 ⟨r, xs, N2, rfl, hO2, hl2, hK2, hN2, hB2, hG2⟩; obtain ⟨ad2, n2, c2, rfl, hn2, hc21, hc22, -, -⟩ := hO2.form2; have hn2' : n2 ≤ 40 := (by have := hn2.out; omega); have A2 := Lib.hid (box_adds24 hG2); have X2 := Lib.hid (OwnsG.held hO2 (by have := hn2.out; omega)); have HE2 := Lib.hid (S.dec_enc xs (by omega)); clear hO2 hl2 hK2 hN2 hB2 hG2)
    | (go_at_call 17; (with_reducible refine (enc_any a0 len0 cap0 l w2 (HL.out.adds A2.out) hcap.1 hcap.2 (by omega)).mono ?_); rintro e w3 ⟨r, rfl, hO3, hA3⟩; obtain ⟨ad3, n3, c3, rfl, hn3, hc31, hc32, -, -⟩ := hO3.form2; have hn3' : n3 ≤ 400 := (by have h1 := hn3.out; have h2 := HL.out.1; rw [S.enc_len] at h1; omega); have A3 := Lib.hid hA3; have X3 := Lib.hid (OwnsG.held hO3 (by have := hn3.out; omega)); clear hO3 hA3)
    | (go_at_call 12; (with_reducible refine (dec_any ad3 n3 c3 (S.enc l) w3 X3.out hc31 hc32 (by omega)).mono ?_); rintro e w4 ⟨r, rfl, hO4, hA4⟩; rw [HE.out] at hO4; obtain ⟨ad4, n4, c4, rfl, hn4, -, -, -, -⟩ := hO4.form2; have A4 := Lib.hid hA4; obtain rfl : n4 = len0 := hn4.out.symm.trans HL.out.1; have X4 := Lib.hid (OwnsG.held hO4 (by have := hn4.out; omega)); clear hO4 hA4)
    | (go_at_call 11; (with_reducible refine (sinp_any ad4 a0 n4 c4 cap0 l w4 X4.out (((HL.out.adds A2.out).adds A3.out).adds A4.out)).mono ?_); rintro e w5 ⟨rfl, hA5⟩; have A5 := Lib.hid hA5; clear hA5)
    | (go_at_call 17; (with_reducible refine (enc_any ad2 n2 c2 xs w5 (((X2.out.adds A3.out).adds A4.out).adds A5.out) hc21 hc22 (by omega)).mono ?_); rintro e w6 ⟨r, rfl, hO6, hA6⟩; obtain ⟨ad6, n6, c6, rfl, hn6, hc61, hc62, -, -⟩ := hO6.form2; have hn6' : n6 ≤ 160 := (by have h1 := hn6.out; have h2 := hn2.out; rw [S.enc_len] at h1; omega); have A6 := Lib.hid hA6; have X6 := Lib.hid (OwnsG.held hO6 (by have := hn6.out; omega)); clear hO6 hA6)
    | (go_at_call 12; (with_reducible refine (dec_any ad6 n6 c6 (S.enc xs) w6 X6.out hc61 hc62 (by omega)).mono ?_); rintro e w7 ⟨r, rfl, hO7, hA7⟩; rw [HE2.out] at hO7; obtain ⟨ad7, n7, c7, rfl, hn7, -, -, -, -⟩ := hO7.form2; have A7 := Lib.hid hA7; obtain rfl : n7 = n2 := hn7.out.symm.trans hn2.out; have X7 := Lib.hid (OwnsG.held hO7 (by have := hn7.out; omega)); clear hO7 hA7)
    | (go_at_call 11; (with_reducible refine (sinp_any ad7 ad2 n7 c7 c2 xs w7 X7.out (((((X2.out.adds A3.out).adds A4.out).adds A5.out).adds A6.out).adds A7.out)).mono ?_); rintro e w8 ⟨rfl, hA8⟩; have A8 := Lib.hid hA8; clear hA8)
    | (go_at_call 8; (with_reducible refine (known24 w8).mono ?_); rintro e w9 ⟨rfl, A9⟩))
  go_ret
  exact ⟨rfl, (((((((A2.out.trans A3.out).trans A4.out).trans A5.out).trans A6.out).trans A7.out).trans A8.out).trans A9).below⟩

set_option maxRecDepth 100000 in
theorem lifted (os : Os) (started : os.Started) (H : Type) (enc : TypeId × Value → H) :
    ReturnsInHanded {} Try.checked os 5 .any (Rows.scriptRoundTripsSpec.pre6 enc Try.prog Try.f5 Rows.scriptRoundTripsRow.domain false) (Rows.scriptRoundTripsSpec.post enc Try.prog Try.f5 false true false false) := by
  refine returnsInHanded_of_change (C := Try.checked) own started (by kernel_rfl) Try.func5
    (ChangeSpec.witness6 (enc := enc) (C := Try.checked) false ⟨#[], #[.slice none 0 0, .slice none 0 0], []⟩ 8 (by kernel_rfl) (by kernel_rfl) (by kernel_rfl) (by kernel_rfl)) ?_
  intro W base args ds gs before hval0 hW hcnd _
  have hval : ∀ (j : Nat) t v, Try.f5.params[j]? = some t → args[j]? = some v → Value.okWide Try.prog W .any base t v := hval0
  have hW' := hW
  obtain ⟨p, q, hA0, hV, rfl, hfz, hnd⟩ := hW
  have hA : DataW.TrodAll enc Try.prog W 0 (fun _ => true) true Try.f5.params.toList args.toList ds p := hA0
  rw [Try.params5] at hA hval
  obtain ⟨v0, vs0, d0, ds0, p0, q0, hargs, rfl, rfl, h0, r0⟩ := trodAll_cons hA
  obtain ⟨v1, vs1, d1, ds1, p1, q1, rfl, rfl, rfl, h1, r1⟩ := trodAll_cons r0
  obtain ⟨rfl, rfl, rfl⟩ := trodAll_nil r1
  obtain rfl : args = #[v0, v1] := by cases args; simp_all
  obtain ⟨rfl, rfl⟩ := trodVars_none hV
  have k0 := h0
  have lt0 : ∀ x ∈ p0, x.block < W.heap.size := by obtain ⟨m, hm⟩ := k0; exact DataW.trod_lt m _ _ _ hm
  obtain ⟨a0, len0, cap0, rfl⟩ := okWide_slice Try.underlying29 (hval 0 29 v0 rfl rfl)
  have w0 : (len0 ≤ cap0 ∧ cap0 ≤ 9223372036854775807) ∧ (len0 ≤ 4611686018427387904 → ∃ l, HeldI W a0 len0 l ∧ ∀ r ∈ l, r.ok) := by
    obtain ⟨fuel, hf⟩ := h0
    obtain ⟨x, l, c, hcs, hcap, hh⟩ := open_inputs hf
    simp [Value.cells] at hcs
    obtain ⟨rfl, rfl, rfl⟩ := hcs
    exact ⟨hcap, hh⟩
  have k1 := h1
  have lt1 : ∀ x ∈ p1, x.block < W.heap.size := by obtain ⟨m, hm⟩ := k1; exact DataW.trod_lt m _ _ _ hm
  obtain ⟨a1, len1, cap1, rfl⟩ := okWide_slice Try.underlying23 (hval 1 23 v1 rfl rfl)
  obtain ⟨z1, w1⟩ : ∃ zs, IsRow .i64 W a1 len1 cap1 zs := by
    obtain ⟨fuel, hf⟩ := h1
    rcases open_ints Try.underlying23 Try.underlying3 (by kernel_rfl) hf with ⟨hcs, _⟩ | ⟨x, l, c, zs, hcs, _, hl, hm, hz, _, hcell, hwz⟩
    · simp [Value.cells] at hcs
      obtain ⟨rfl, rfl, rfl⟩ := hcs
      exact ⟨[], .inl ⟨rfl, rfl, rfl, rfl⟩⟩
    · simp [Value.cells] at hcs
      obtain ⟨rfl, rfl, rfl⟩ := hcs
      exact ⟨zs, .inr ⟨_, rfl, hl, hm, by simpa using hz, hcell, hwz⟩⟩
  clear hA0 hval0
  refine (walk a0 len0 cap0 a1 len1 cap1 z1 W w0 w1).mono fun e W' ⟨he, bel⟩ => ?_
  subst he
  exact ⟨_, rfl, _, _, _, [], _, [], hW', trodAll_mk1 (shut_bool Try.underlying4 _), (trodAll_cons_mk (Below.trod laidOut (by kernel_rfl) (of_decide_eq_true (by kernel_rfl)) k0 bel lt0) (trodAll_cons_mk (Below.trod laidOut (by kernel_rfl) (of_decide_eq_true (by kernel_rfl)) k1 bel lt1) trodAll_mk0)), rfl, bel.frame _, fun h => by cases h⟩

theorem over : Rows.scriptRoundTripsRow.holds Try.pinned (OpenSpec.ofChange Rows.scriptRoundTripsSpec) :=
  OpenClaim.holds_of_wide 5 Try.f5 rfl rfl rfl rfl rfl rfl rfl ⟨rfl, rfl, rfl, rfl, rfl⟩ rfl rfl rfl rfl rfl (by kernel_rfl) Try.func5 (by kernel_rfl)
    (of_decide_eq_true (by kernel_rfl)) (by unfold Func.isWrapper; first | (rw [if_pos (by decide +kernel)]; kernel_rfl) | (rw [if_neg (by decide +kernel)]; exact ⟨rfl, rfl⟩))
    (fun os started H enc _ => lifted os started H enc)

/-- The statement. -/
theorem proved : Rows.ScriptRoundTripsSaid := over
#print axioms proved
end Go.Proofs.Ytjjcahdieldmcaa.scriptRoundTrips
