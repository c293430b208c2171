/- The statement AluChipsSaid of package tstatelaw3: for every input the law returns true, and its arguments read as before. No condition. -/
import Derived.Test.YtdchbhlnehenkaaRows
import Derived.Test.YtdchbhlnehenkaaM1
import Derived.Test.YtdchbhlnehenkaaS3b
import Derived.Test.YtdchbhlnehenkaaC3d
import Derived.Test.YtdchbhlnehenkaaC3k
import Derived.WalkKit
import Derived.ProofKit
import Derived.OpenShut
import Derived.ShutString
import Derived.ChangeOld
import Derived.Below
import Derived.Carry
namespace Go.Proofs.Ytdchbhlnehenkaa.aluChips
open Go.ChangeShapes Go.WideShapes Go.ChangeAt Go.RowKit
open Go.ChangeMaps (open_string shut_string)
set_option linter.unusedVariables false

theorem own : ownKnob Try.prog.godebug = none := by kernel_rfl
theorem laidOut : laidOutB Try.prog = true := by kernel_rfl

set_option maxHeartbeats 2000000 in
/-- The walk. -/
theorem walk (a0 : Int) (a1 : Int) (a2 : Int) (a3_S : Bool) (a3_Z : Bool) (a3_K : Bool) (a3_AC : Bool) (a3_P : Bool) (a3_V : Bool) (a3_CY : Bool) (w : World) (w0 : (Lit.int .i64 a0).wf = true) (w1 : (Lit.int .u8 a1).wf = true) (w2 : (Lit.int .u8 a2).wf = true) :
    Calls Try.prog 7 #[.int .i64 a0, .int .u8 a1, .int .u8 a2, .agg #[.bool a3_S, .bool a3_Z, .bool a3_K, .bool a3_AC, .bool a3_P, .bool a3_V, .bool a3_CY]] w fun e w' => e = .returned (.bool true) ∧ Below w.heap.size w w' := by
  have b1 := bounds_u8 w1
  have b2 := bounds_u8 w2
  have h7 := S.and7 a0
  have hk := S.aK80 (c := 1) (by decide) a0 a1 a2 a3_CY
  have hv := S.aV80 (c := 1) (by decide) a0 a1 a2 a3_CY
  by_cases h4 : a0 % 8 = 4
  · rw [h4] at h7
    clear h4
    go_enter Try.func7, Try.ntmps7
    go_wp2_with (first | (go_at_call 9; refine (do_any _ _ _ _ _ _ _ _ _ _ _ (by omega) (by omega) (by omega) (by omega) _).mono ?_; rintro e w' ⟨rfl, ⟨⟨n1, os1⟩, rfl⟩⟩) | (go_at_call 11; refine (known3_any _).mono ?_; rintro e w' ⟨rfl, ⟨⟨n1, os1⟩, rfl⟩⟩))
    go_ret
    exact ⟨rfl, Adds.below (by (repeat (first | with_reducible exact Adds.refl _ | with_reducible apply Adds.drew | with_reducible apply Adds.drewN | with_reducible apply Adds.alloc | with_reducible apply Adds.more | (with_reducible refine Adds.setCell ?_ ?_ _) | (focus (simp [go_sem]; done)) | (focus (simp [go_sem]; omega)))))⟩
  · have hh := S.aH_same h4 1 2 a1 a2 a3_CY
    have hn : (bits .and .i64 a0 7 == 4) = false := by rw [h7]; simpa using h4
    clear h4 h7
    go_enter Try.func7, Try.ntmps7
    go_wp2_with (first | (go_at_call 9; refine (do_any _ _ _ _ _ _ _ _ _ _ _ (by omega) (by omega) (by omega) (by omega) _).mono ?_; rintro e w' ⟨rfl, ⟨⟨n1, os1⟩, rfl⟩⟩) | (go_at_call 11; refine (known3_any _).mono ?_; rintro e w' ⟨rfl, ⟨⟨n1, os1⟩, rfl⟩⟩))
    go_ret
    exact ⟨rfl, Adds.below (by (repeat (first | with_reducible exact Adds.refl _ | with_reducible apply Adds.drew | with_reducible apply Adds.drewN | with_reducible apply Adds.alloc | with_reducible apply Adds.more | (with_reducible refine Adds.setCell ?_ ?_ _) | (focus (simp [go_sem]; done)) | (focus (simp [go_sem]; omega)))))⟩

set_option maxRecDepth 100000 in
theorem lifted (os : Os) (started : os.Started) (H : Type) (enc : TypeId × Value → H) :
    ReturnsInHanded {} Try.checked os 7 .any (Rows.aluChipsSpec.pre6 enc Try.prog Try.f7 Rows.aluChipsRow.domain false) (Rows.aluChipsSpec.post enc Try.prog Try.f7 false true false false) := by
  refine returnsInHanded_of_change (C := Try.checked) own started (by kernel_rfl) Try.func7
    (ChangeSpec.witness6 (enc := enc) (C := Try.checked) false ⟨#[], #[.int .i64 0, .int .u8 0, .int .u8 0, .agg #[.bool false, .bool false, .bool false, .bool false, .bool false, .bool false, .bool false]], []⟩ 8 (by kernel_rfl) (by kernel_rfl) (by kernel_rfl) (by kernel_rfl)) ?_
  intro W base args ds gs before hval0 hW hcnd _
  have hval : ∀ (j : Nat) t v, Try.f7.params[j]? = some t → args[j]? = some v → Value.okWide Try.prog W .any base t v := hval0
  have hW' := hW
  obtain ⟨p, q, hA0, hV, rfl, hfz, hnd⟩ := hW
  have hA : DataW.TrodAll enc Try.prog W 0 (fun _ => true) true Try.f7.params.toList args.toList ds p := hA0
  rw [Try.params7] at hA hval
  obtain ⟨v0, vs0, d0, ds0, p0, q0, hargs, rfl, rfl, h0, r0⟩ := trodAll_cons hA
  obtain ⟨v1, vs1, d1, ds1, p1, q1, rfl, rfl, rfl, h1, r1⟩ := trodAll_cons r0
  obtain ⟨v2, vs2, d2, ds2, p2, q2, rfl, rfl, rfl, h2, r2⟩ := trodAll_cons r1
  obtain ⟨v3, vs3, d3, ds3, p3, q3, rfl, rfl, rfl, h3, r3⟩ := trodAll_cons r2
  obtain ⟨rfl, rfl, rfl⟩ := trodAll_nil r3
  obtain rfl : args = #[v0, v1, v2, v3] := by cases args; simp_all
  obtain ⟨rfl, rfl⟩ := trodVars_none hV
  have k0 := h0
  have lt0 : ∀ x ∈ p0, x.block < W.heap.size := by obtain ⟨m, hm⟩ := k0; exact DataW.trod_lt m _ _ _ hm
  obtain ⟨a0, rfl, -, -, w0⟩ := open_int Try.underlying3 (hval 0 3 v0 rfl rfl) h0
  have k1 := h1
  have lt1 : ∀ x ∈ p1, x.block < W.heap.size := by obtain ⟨m, hm⟩ := k1; exact DataW.trod_lt m _ _ _ hm
  obtain ⟨a1, rfl, -, -, w1⟩ := open_int Try.underlying5 (hval 1 5 v1 rfl rfl) h1
  have k2 := h2
  have lt2 : ∀ x ∈ p2, x.block < W.heap.size := by obtain ⟨m, hm⟩ := k2; exact DataW.trod_lt m _ _ _ hm
  obtain ⟨a2, rfl, -, -, w2⟩ := open_int Try.underlying5 (hval 2 5 v2 rfl rfl) h2
  have k3 := h3
  have lt3 : ∀ x ∈ p3, x.block < W.heap.size := by obtain ⟨m, hm⟩ := k3; exact DataW.trod_lt m _ _ _ hm
  obtain ⟨l3, rfl, g3_0⟩ := open_flat 9 [.bool, .bool, .bool, .bool, .bool, .bool, .bool] _ Try.underlying23 (by kernel_rfl) (hval 3 23 v3 rfl rfl) h3
  obtain ⟨a3_S, l3_1, rfl, g3_1⟩ := fits_bool g3_0
  obtain ⟨a3_Z, l3_2, rfl, g3_2⟩ := fits_bool g3_1
  obtain ⟨a3_K, l3_3, rfl, g3_3⟩ := fits_bool g3_2
  obtain ⟨a3_AC, l3_4, rfl, g3_4⟩ := fits_bool g3_3
  obtain ⟨a3_P, l3_5, rfl, g3_5⟩ := fits_bool g3_4
  obtain ⟨a3_V, l3_6, rfl, g3_6⟩ := fits_bool g3_5
  obtain ⟨a3_CY, l3_7, rfl, g3_7⟩ := fits_bool g3_6
  obtain rfl := fits_nil g3_7
  clear hA0 hval0
  refine (walk a0 a1 a2 a3_S a3_Z a3_K a3_AC a3_P a3_V a3_CY W w0 w1 w2).mono fun e W' ⟨he, bel⟩ => ?_
  subst he
  exact ⟨_, rfl, _, _, _, [], _, [], hW', trodAll_mk1 (shut_bool Try.underlying4 _), (trodAll_cons_mk (Below.trod laidOut (by kernel_rfl) (of_decide_eq_true (by kernel_rfl)) k0 bel lt0) (trodAll_cons_mk (Below.trod laidOut (by kernel_rfl) (of_decide_eq_true (by kernel_rfl)) k1 bel lt1) (trodAll_cons_mk (Below.trod laidOut (by kernel_rfl) (of_decide_eq_true (by kernel_rfl)) k2 bel lt2) (trodAll_cons_mk (Below.trod laidOut (by kernel_rfl) (of_decide_eq_true (by kernel_rfl)) k3 bel lt3) trodAll_mk0)))), rfl, bel.frame _, fun h => by cases h⟩

theorem over : Rows.aluChipsRow.holds Try.pinned (OpenSpec.ofChange Rows.aluChipsSpec) :=
  OpenClaim.holds_of_wide 7 Try.f7 rfl rfl rfl rfl rfl rfl rfl ⟨rfl, rfl, rfl, rfl, rfl⟩ rfl rfl rfl rfl rfl (by kernel_rfl) Try.func7 (by kernel_rfl)
    (of_decide_eq_true (by kernel_rfl)) (by unfold Func.isWrapper; first | (rw [if_pos (by decide +kernel)]; kernel_rfl) | (rw [if_neg (by decide +kernel)]; exact ⟨rfl, rfl⟩))
    (fun os started H enc _ => lifted os started H enc)

/-- The statement. -/
theorem proved : Rows.AluChipsSaid := over
#print axioms proved
end Go.Proofs.Ytdchbhlnehenkaa.aluChips
