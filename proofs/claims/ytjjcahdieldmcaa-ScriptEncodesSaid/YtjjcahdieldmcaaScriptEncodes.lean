/- The statement ScriptEncodesSaid of package tstatelaw24: for every input the law returns true, and its arguments read as before. No condition. -/
import Derived.Test.YtjjcahdieldmcaaRows
import Derived.Test.YtjjcahdieldmcaaM1
import Derived.Test.YtjjcahdieldmcaaCM
import Derived.Test.YtjjcahdieldmcaaC24f
import Derived.Test.YtjjcahdieldmcaaC24g
import Derived.Test.YtjjcahdieldmcaaC24h
import Derived.Test.YtjjcahdieldmcaaC24k
import Derived.WalkKit
import Derived.ProofKit
import Derived.OpenShut
import Derived.ShutString
import Derived.ChangeOld
import Derived.Below
import Derived.Carry
namespace Go.Proofs.Ytjjcahdieldmcaa.scriptEncodes
open Go.ChangeShapes Go.WideShapes Go.ChangeAt Go.RowKit
open Go.ChangeMaps (open_string shut_string)
set_option linter.unusedVariables false

theorem own : ownKnob Try.prog.godebug = none := by kernel_rfl
theorem laidOut : laidOutB Try.prog = true := by kernel_rfl

set_option maxRecDepth 100000 in
set_option maxHeartbeats 2000000 in
/-- The walk. -/
theorem walk (a0 : Option Addr) (len0 cap0 : Nat) (a1 : Int) (a2 : Int) (a3 : Int) (w : World) (w0 : (len0 ≤ cap0 ∧ cap0 ≤ 9223372036854775807) ∧ (len0 ≤ 4611686018427387904 → ∃ l, HeldI w a0 len0 l ∧ ∀ r ∈ l, r.ok)) (w1 : (Lit.int .u8 a1).wf = true) (w2 : (Lit.int .u8 a2).wf = true) (w3 : (Lit.int .u8 a3).wf = true) :
    Calls Try.prog 4 #[.slice a0 len0 cap0, .int .u8 a1, .int .u8 a2, .int .u8 a3] w fun e w' => e = .returned (.bool true) ∧ Below w.heap.size w w' := by
  by_cases h100 : 100 < len0
  · clear w0
    go_enter Try.func4, Try.ntmps4
    go_wp2_with (go_at_call 8; refine (known24 _).mono ?_; rintro e w' ⟨rfl, hK⟩)
    go_ret
    exact ⟨rfl, hK.below⟩
  obtain ⟨hcap, hw⟩ := w0
  obtain ⟨l, hl, hok⟩ := hw (by omega)
  have HL := Lib.hid hl
  clear hw hl hok
  go_enter Try.func4, Try.ntmps4
  go_wp2_with (first
    | (go_at_call 17; (with_reducible refine (enc_any a0 len0 cap0 l w HL.out hcap.1 hcap.2 (by omega)).mono ?_); rintro e w2 ⟨r, rfl, hO2, hA2⟩; obtain ⟨ad2, n2, c2, rfl, hn2, -, -, -, -⟩ := hO2.form2; have A2 := Lib.hid hA2; have X2 := Lib.hid hO2; clear hO2 hA2)
    | (go_at_call 18; (with_reducible refine (renc_any a0 len0 cap0 l w2 (HL.out.adds A2.out) hcap.1 hcap.2 (by omega)).mono ?_); rintro e w3 ⟨r, rfl, hO3, hA3⟩; obtain ⟨ad3, n3, c3, rfl, hn3, -, -, -, -⟩ := hO3.form2; have A3 := Lib.hid hA3; obtain rfl : n3 = n2 := hn3.out.symm.trans hn2.out; have X3 := Lib.hid hO3; clear hO3 hA3)
    | (go_at_call 16; (with_reducible refine (sbyt_any w.heap.size w2.heap.size ad2 ad3 n3 c2 c3 (S.enc l) w3 (X2.out.adds A3.out) X3.out).mono ?_); rintro e w' ⟨rfl, rfl⟩)
    | (go_at_call 19; refine (chk_any _ _ _ _).mono ?_; rintro e w' ⟨rfl, rfl⟩)
    | (go_at_call 20; refine (rchk_any _ _ _ _).mono ?_; rintro e w' ⟨rfl, rfl⟩)
    | (go_at_call 8; (with_reducible refine (known24 _).mono ?_); rintro e w4 ⟨rfl, A4⟩))
  go_ret
  exact ⟨rfl, ((A2.out.trans A3.out).trans A4).below⟩

set_option maxRecDepth 100000 in
theorem lifted (os : Os) (started : os.Started) (H : Type) (enc : TypeId × Value → H) :
    ReturnsInHanded {} Try.checked os 4 .any (Rows.scriptEncodesSpec.pre6 enc Try.prog Try.f4 Rows.scriptEncodesRow.domain false) (Rows.scriptEncodesSpec.post enc Try.prog Try.f4 false true false false) := by
  refine returnsInHanded_of_change (C := Try.checked) own started (by kernel_rfl) Try.func4
    (ChangeSpec.witness6 (enc := enc) (C := Try.checked) false ⟨#[], #[.slice none 0 0, .int .u8 0, .int .u8 0, .int .u8 0], []⟩ 8 (by kernel_rfl) (by kernel_rfl) (by kernel_rfl) (by kernel_rfl)) ?_
  intro W base args ds gs before hval0 hW hcnd _
  have hval : ∀ (j : Nat) t v, Try.f4.params[j]? = some t → args[j]? = some v → Value.okWide Try.prog W .any base t v := hval0
  have hW' := hW
  obtain ⟨p, q, hA0, hV, rfl, hfz, hnd⟩ := hW
  have hA : DataW.TrodAll enc Try.prog W 0 (fun _ => true) true Try.f4.params.toList args.toList ds p := hA0
  rw [Try.params4] at hA hval
  obtain ⟨v0, vs0, d0, ds0, p0, q0, hargs, rfl, rfl, h0, r0⟩ := trodAll_cons hA
  obtain ⟨v1, vs1, d1, ds1, p1, q1, rfl, rfl, rfl, h1, r1⟩ := trodAll_cons r0
  obtain ⟨v2, vs2, d2, ds2, p2, q2, rfl, rfl, rfl, h2, r2⟩ := trodAll_cons r1
  obtain ⟨v3, vs3, d3, ds3, p3, q3, rfl, rfl, rfl, h3, r3⟩ := trodAll_cons r2
  obtain ⟨rfl, rfl, rfl⟩ := trodAll_nil r3
  obtain rfl : args = #[v0, v1, v2, v3] := by cases args; simp_all
  obtain ⟨rfl, rfl⟩ := trodVars_none hV
  have k0 := h0
  have lt0 : ∀ x ∈ p0, x.block < W.heap.size := by obtain ⟨m, hm⟩ := k0; exact DataW.trod_lt m _ _ _ hm
  obtain ⟨a0, len0, cap0, rfl⟩ := okWide_slice Try.underlying29 (hval 0 29 v0 rfl rfl)
  have w0 : (len0 ≤ cap0 ∧ cap0 ≤ 9223372036854775807) ∧ (len0 ≤ 4611686018427387904 → ∃ l, HeldI W a0 len0 l ∧ ∀ r ∈ l, r.ok) := by
    obtain ⟨fuel, hf⟩ := h0
    obtain ⟨x, l, c, hcs, hcap, hh⟩ := open_inputs hf
    simp [Value.cells] at hcs
    obtain ⟨rfl, rfl, rfl⟩ := hcs
    exact ⟨hcap, hh⟩
  have k1 := h1
  have lt1 : ∀ x ∈ p1, x.block < W.heap.size := by obtain ⟨m, hm⟩ := k1; exact DataW.trod_lt m _ _ _ hm
  obtain ⟨a1, rfl, -, -, w1⟩ := open_int Try.underlying5 (hval 1 5 v1 rfl rfl) h1
  have k2 := h2
  have lt2 : ∀ x ∈ p2, x.block < W.heap.size := by obtain ⟨m, hm⟩ := k2; exact DataW.trod_lt m _ _ _ hm
  obtain ⟨a2, rfl, -, -, w2⟩ := open_int Try.underlying5 (hval 2 5 v2 rfl rfl) h2
  have k3 := h3
  have lt3 : ∀ x ∈ p3, x.block < W.heap.size := by obtain ⟨m, hm⟩ := k3; exact DataW.trod_lt m _ _ _ hm
  obtain ⟨a3, rfl, -, -, w3⟩ := open_int Try.underlying5 (hval 3 5 v3 rfl rfl) h3
  clear hA0 hval0
  refine (walk a0 len0 cap0 a1 a2 a3 W w0 w1 w2 w3).mono fun e W' ⟨he, bel⟩ => ?_
  subst he
  exact ⟨_, rfl, _, _, _, [], _, [], hW', trodAll_mk1 (shut_bool Try.underlying4 _), (trodAll_cons_mk (Below.trod laidOut (by kernel_rfl) (of_decide_eq_true (by kernel_rfl)) k0 bel lt0) (trodAll_cons_mk (Below.trod laidOut (by kernel_rfl) (of_decide_eq_true (by kernel_rfl)) k1 bel lt1) (trodAll_cons_mk (Below.trod laidOut (by kernel_rfl) (of_decide_eq_true (by kernel_rfl)) k2 bel lt2) (trodAll_cons_mk (Below.trod laidOut (by kernel_rfl) (of_decide_eq_true (by kernel_rfl)) k3 bel lt3) trodAll_mk0)))), rfl, bel.frame _, fun h => by cases h⟩

theorem over : Rows.scriptEncodesRow.holds Try.pinned (OpenSpec.ofChange Rows.scriptEncodesSpec) :=
  OpenClaim.holds_of_wide 4 Try.f4 rfl rfl rfl rfl rfl rfl rfl ⟨rfl, rfl, rfl, rfl, rfl⟩ rfl rfl rfl rfl rfl (by kernel_rfl) Try.func4 (by kernel_rfl)
    (of_decide_eq_true (by kernel_rfl)) (by unfold Func.isWrapper; first | (rw [if_pos (by decide +kernel)]; kernel_rfl) | (rw [if_neg (by decide +kernel)]; exact ⟨rfl, rfl⟩))
    (fun os started H enc _ => lifted os started H enc)

/-- The statement. -/
theorem proved : Rows.ScriptEncodesSaid := over
#print axioms proved
end Go.Proofs.Ytjjcahdieldmcaa.scriptEncodes
