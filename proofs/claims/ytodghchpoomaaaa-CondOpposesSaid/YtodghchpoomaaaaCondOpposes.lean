/- The statement CondOpposesSaid of package tstatelaw10: for every input the law returns true, and its arguments read as before. No condition. -/
import Derived.Test.YtodghchpoomaaaaRows
import Derived.Test.YtodghchpoomaaaaM1
import Derived.Test.YtodghchpoomaaaaC10
import Derived.Test.YtodghchpoomaaaaCM
import Derived.WalkKit
import Derived.ProofKit
import Derived.OpenShut
import Derived.ShutString
import Derived.ChangeOld
import Derived.Below
import Derived.Carry
namespace Go.Proofs.Ytodghchpoomaaaa.condOpposes
open Go.ChangeShapes Go.WideShapes Go.ChangeAt Go.RowKit
open Go.ChangeMaps (open_string shut_string)
set_option linter.unusedVariables false

theorem own : ownKnob Try.prog.godebug = none := by kernel_rfl
theorem laidOut : laidOutB Try.prog = true := by kernel_rfl

set_option maxHeartbeats 2000000 in
/-- The walk. -/
theorem walk (a0 : Int) (a1_S : Bool) (a1_Z : Bool) (a1_K : Bool) (a1_AC : Bool) (a1_P : Bool) (a1_V : Bool) (a1_CY : Bool) (w : World) (w0 : (Lit.int .i64 a0).wf = true) :
    Calls Try.prog 4 #[.int .i64 a0, .agg #[.bool a1_S, .bool a1_Z, .bool a1_K, .bool a1_AC, .bool a1_P, .bool a1_V, .bool a1_CY]] w fun e w' => e = .returned (.bool true) ∧ Below w.heap.size w w' := by
  have bk := S.plc_bd a0 5 (by omega)
  generalize hk : S.plc a0 5 = k at bk
  rcases (by omega : k = 0 ∨ k = 1 ∨ k = 2 ∨ k = 3 ∨ k = 4) with rfl | rfl | rfl | rfl | rfl
  · have e1 : S.cnd 0 a1_S a1_Z a1_K a1_P a1_V a1_CY = !a1_Z := rfl
    have e2 : S.cnd 1 a1_S a1_Z a1_K a1_P a1_V a1_CY = a1_Z := rfl
    have e3 : ((!a1_Z) == a1_Z) = false := by cases a1_Z <;> rfl
    go_enter Try.func4, Try.ntmps4
    go_wp2_with (first | (go_at_call 6; refine (mplace_any _ _ (by decide) (by decide) _).mono ?_; rintro e w' ⟨rfl, rfl⟩; rw [hk]))
    refine wp_region_adds (by kernel_rfl) (by kernel_rfl) ?_
    repeat (go_big_quiet_step (first | (go_at_call 7; exact calls_adds (holds_any _ _ _ _ _ _ _ _ _)) | (go_at_call 9; exact calls_adds (known10_any _))))
    refine wpQuiet_nil ?_
    intro _ hw1
    obtain ⟨⟨nq, osq⟩, hw2⟩ := hw1
    subst hw2
    go_wp2_with fail
    go_ret
    exact ⟨rfl, Adds.below (by (repeat (first | with_reducible exact Adds.refl _ | with_reducible apply Adds.drew | with_reducible apply Adds.drewN | with_reducible apply Adds.alloc | with_reducible apply Adds.more | (with_reducible refine Adds.setCell ?_ ?_ _) | (focus (simp [go_sem]; done)) | (focus (simp [go_sem]; omega)))))⟩
  · have e1 : S.cnd 2 a1_S a1_Z a1_K a1_P a1_V a1_CY = !a1_CY := rfl
    have e2 : S.cnd 3 a1_S a1_Z a1_K a1_P a1_V a1_CY = a1_CY := rfl
    have e3 : ((!a1_CY) == a1_CY) = false := by cases a1_CY <;> rfl
    go_enter Try.func4, Try.ntmps4
    go_wp2_with (first | (go_at_call 6; refine (mplace_any _ _ (by decide) (by decide) _).mono ?_; rintro e w' ⟨rfl, rfl⟩; rw [hk]))
    refine wp_region_adds (by kernel_rfl) (by kernel_rfl) ?_
    repeat (go_big_quiet_step (first | (go_at_call 7; exact calls_adds (holds_any _ _ _ _ _ _ _ _ _)) | (go_at_call 9; exact calls_adds (known10_any _))))
    refine wpQuiet_nil ?_
    intro _ hw1
    obtain ⟨⟨nq, osq⟩, hw2⟩ := hw1
    subst hw2
    go_wp2_with fail
    go_ret
    exact ⟨rfl, Adds.below (by (repeat (first | with_reducible exact Adds.refl _ | with_reducible apply Adds.drew | with_reducible apply Adds.drewN | with_reducible apply Adds.alloc | with_reducible apply Adds.more | (with_reducible refine Adds.setCell ?_ ?_ _) | (focus (simp [go_sem]; done)) | (focus (simp [go_sem]; omega)))))⟩
  · have e1 : S.cnd 4 a1_S a1_Z a1_K a1_P a1_V a1_CY = !a1_P := rfl
    have e2 : S.cnd 5 a1_S a1_Z a1_K a1_P a1_V a1_CY = a1_P := rfl
    have e3 : ((!a1_P) == a1_P) = false := by cases a1_P <;> rfl
    go_enter Try.func4, Try.ntmps4
    go_wp2_with (first | (go_at_call 6; refine (mplace_any _ _ (by decide) (by decide) _).mono ?_; rintro e w' ⟨rfl, rfl⟩; rw [hk]))
    refine wp_region_adds (by kernel_rfl) (by kernel_rfl) ?_
    repeat (go_big_quiet_step (first | (go_at_call 7; exact calls_adds (holds_any _ _ _ _ _ _ _ _ _)) | (go_at_call 9; exact calls_adds (known10_any _))))
    refine wpQuiet_nil ?_
    intro _ hw1
    obtain ⟨⟨nq, osq⟩, hw2⟩ := hw1
    subst hw2
    go_wp2_with fail
    go_ret
    exact ⟨rfl, Adds.below (by (repeat (first | with_reducible exact Adds.refl _ | with_reducible apply Adds.drew | with_reducible apply Adds.drewN | with_reducible apply Adds.alloc | with_reducible apply Adds.more | (with_reducible refine Adds.setCell ?_ ?_ _) | (focus (simp [go_sem]; done)) | (focus (simp [go_sem]; omega)))))⟩
  · have e1 : S.cnd 6 a1_S a1_Z a1_K a1_P a1_V a1_CY = !a1_S := rfl
    have e2 : S.cnd 7 a1_S a1_Z a1_K a1_P a1_V a1_CY = a1_S := rfl
    have e3 : ((!a1_S) == a1_S) = false := by cases a1_S <;> rfl
    go_enter Try.func4, Try.ntmps4
    go_wp2_with (first | (go_at_call 6; refine (mplace_any _ _ (by decide) (by decide) _).mono ?_; rintro e w' ⟨rfl, rfl⟩; rw [hk]))
    refine wp_region_adds (by kernel_rfl) (by kernel_rfl) ?_
    repeat (go_big_quiet_step (first | (go_at_call 7; exact calls_adds (holds_any _ _ _ _ _ _ _ _ _)) | (go_at_call 9; exact calls_adds (known10_any _))))
    refine wpQuiet_nil ?_
    intro _ hw1
    obtain ⟨⟨nq, osq⟩, hw2⟩ := hw1
    subst hw2
    go_wp2_with fail
    go_ret
    exact ⟨rfl, Adds.below (by (repeat (first | with_reducible exact Adds.refl _ | with_reducible apply Adds.drew | with_reducible apply Adds.drewN | with_reducible apply Adds.alloc | with_reducible apply Adds.more | (with_reducible refine Adds.setCell ?_ ?_ _) | (focus (simp [go_sem]; done)) | (focus (simp [go_sem]; omega)))))⟩
  · have e1 : S.cnd 8 a1_S a1_Z a1_K a1_P a1_V a1_CY = !a1_K := rfl
    have e2 : S.cnd 9 a1_S a1_Z a1_K a1_P a1_V a1_CY = a1_K := rfl
    have e3 : ((!a1_K) == a1_K) = false := by cases a1_K <;> rfl
    go_enter Try.func4, Try.ntmps4
    go_wp2_with (first | (go_at_call 6; refine (mplace_any _ _ (by decide) (by decide) _).mono ?_; rintro e w' ⟨rfl, rfl⟩; rw [hk]))
    refine wp_region_adds (by kernel_rfl) (by kernel_rfl) ?_
    repeat (go_big_quiet_step (first | (go_at_call 7; exact calls_adds (holds_any _ _ _ _ _ _ _ _ _)) | (go_at_call 9; exact calls_adds (known10_any _))))
    refine wpQuiet_nil ?_
    intro _ hw1
    obtain ⟨⟨nq, osq⟩, hw2⟩ := hw1
    subst hw2
    go_wp2_with fail
    go_ret
    exact ⟨rfl, Adds.below (by (repeat (first | with_reducible exact Adds.refl _ | with_reducible apply Adds.drew | with_reducible apply Adds.drewN | with_reducible apply Adds.alloc | with_reducible apply Adds.more | (with_reducible refine Adds.setCell ?_ ?_ _) | (focus (simp [go_sem]; done)) | (focus (simp [go_sem]; omega)))))⟩

set_option maxRecDepth 100000 in
theorem lifted (os : Os) (started : os.Started) (H : Type) (enc : TypeId × Value → H) :
    ReturnsInHanded {} Try.checked os 4 .any (Rows.condOpposesSpec.pre6 enc Try.prog Try.f4 Rows.condOpposesRow.domain false) (Rows.condOpposesSpec.post enc Try.prog Try.f4 false true false false) := by
  refine returnsInHanded_of_change (C := Try.checked) own started (by kernel_rfl) Try.func4
    (ChangeSpec.witness6 (enc := enc) (C := Try.checked) false ⟨#[], #[.int .i64 0, .agg #[.bool false, .bool false, .bool false, .bool false, .bool false, .bool false, .bool false]], []⟩ 8 (by kernel_rfl) (by kernel_rfl) (by kernel_rfl) (by kernel_rfl)) ?_
  intro W base args ds gs before hval0 hW hcnd _
  have hval : ∀ (j : Nat) t v, Try.f4.params[j]? = some t → args[j]? = some v → Value.okWide Try.prog W .any base t v := hval0
  have hW' := hW
  obtain ⟨p, q, hA0, hV, rfl, hfz, hnd⟩ := hW
  have hA : DataW.TrodAll enc Try.prog W 0 (fun _ => true) true Try.f4.params.toList args.toList ds p := hA0
  rw [Try.params4] at hA hval
  obtain ⟨v0, vs0, d0, ds0, p0, q0, hargs, rfl, rfl, h0, r0⟩ := trodAll_cons hA
  obtain ⟨v1, vs1, d1, ds1, p1, q1, rfl, rfl, rfl, h1, r1⟩ := trodAll_cons r0
  obtain ⟨rfl, rfl, rfl⟩ := trodAll_nil r1
  obtain rfl : args = #[v0, v1] := by cases args; simp_all
  obtain ⟨rfl, rfl⟩ := trodVars_none hV
  have k0 := h0
  have lt0 : ∀ x ∈ p0, x.block < W.heap.size := by obtain ⟨m, hm⟩ := k0; exact DataW.trod_lt m _ _ _ hm
  obtain ⟨a0, rfl, -, -, w0⟩ := open_int Try.underlying3 (hval 0 3 v0 rfl rfl) h0
  have k1 := h1
  have lt1 : ∀ x ∈ p1, x.block < W.heap.size := by obtain ⟨m, hm⟩ := k1; exact DataW.trod_lt m _ _ _ hm
  obtain ⟨l1, rfl, g1_0⟩ := open_flat 9 [.bool, .bool, .bool, .bool, .bool, .bool, .bool] _ Try.underlying23 (by kernel_rfl) (hval 1 23 v1 rfl rfl) h1
  obtain ⟨a1_S, l1_1, rfl, g1_1⟩ := fits_bool g1_0
  obtain ⟨a1_Z, l1_2, rfl, g1_2⟩ := fits_bool g1_1
  obtain ⟨a1_K, l1_3, rfl, g1_3⟩ := fits_bool g1_2
  obtain ⟨a1_AC, l1_4, rfl, g1_4⟩ := fits_bool g1_3
  obtain ⟨a1_P, l1_5, rfl, g1_5⟩ := fits_bool g1_4
  obtain ⟨a1_V, l1_6, rfl, g1_6⟩ := fits_bool g1_5
  obtain ⟨a1_CY, l1_7, rfl, g1_7⟩ := fits_bool g1_6
  obtain rfl := fits_nil g1_7
  clear hA0 hval0
  refine (walk a0 a1_S a1_Z a1_K a1_AC a1_P a1_V a1_CY W w0).mono fun e W' ⟨he, bel⟩ => ?_
  subst he
  exact ⟨_, rfl, _, _, _, [], _, [], hW', trodAll_mk1 (shut_bool Try.underlying4 _), (trodAll_cons_mk (Below.trod laidOut (by kernel_rfl) (of_decide_eq_true (by kernel_rfl)) k0 bel lt0) (trodAll_cons_mk (Below.trod laidOut (by kernel_rfl) (of_decide_eq_true (by kernel_rfl)) k1 bel lt1) trodAll_mk0)), rfl, bel.frame _, fun h => by cases h⟩

theorem over : Rows.condOpposesRow.holds Try.pinned (OpenSpec.ofChange Rows.condOpposesSpec) :=
  OpenClaim.holds_of_wide 4 Try.f4 rfl rfl rfl rfl rfl rfl rfl ⟨rfl, rfl, rfl, rfl, rfl⟩ rfl rfl rfl rfl rfl (by kernel_rfl) Try.func4 (by kernel_rfl)
    (of_decide_eq_true (by kernel_rfl)) (by unfold Func.isWrapper; first | (rw [if_pos (by decide +kernel)]; kernel_rfl) | (rw [if_neg (by decide +kernel)]; exact ⟨rfl, rfl⟩))
    (fun os started H enc _ => lifted os started H enc)

/-- The statement. -/
theorem proved : Rows.CondOpposesSaid := over
#print axioms proved
end Go.Proofs.Ytodghchpoomaaaa.condOpposes
