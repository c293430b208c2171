/- The statement CondDependsSaid of package tstatelaw10: for every input the law returns true, and its arguments read as before. No condition. -/
import Derived.Test.YtodghchpoomaaaaRows
import Derived.Test.YtodghchpoomaaaaM1
import Derived.Test.YtodghchpoomaaaaC10
import Derived.Test.YtodghchpoomaaaaCM
import Derived.WalkKit
import Derived.ProofKit
import Derived.OpenShut
import Derived.ShutString
import Derived.ChangeOld
import Derived.Below
import Derived.Carry
namespace Go.Proofs.Ytodghchpoomaaaa.condDepends
open Go.ChangeShapes Go.WideShapes Go.ChangeAt Go.RowKit
open Go.ChangeMaps (open_string shut_string)
set_option linter.unusedVariables false

theorem own : ownKnob Try.prog.godebug = none := by kernel_rfl
theorem laidOut : laidOutB Try.prog = true := by kernel_rfl

set_option maxHeartbeats 2000000 in
/-- The walk. -/
theorem walk (a0 : Int) (a1 : Int) (a2_S : Bool) (a2_Z : Bool) (a2_K : Bool) (a2_AC : Bool) (a2_P : Bool) (a2_V : Bool) (a2_CY : Bool) (w : World) (w0 : (Lit.int .i64 a0).wf = true) (w1 : (Lit.int .i64 a1).wf = true) :
    Calls Try.prog 5 #[.int .i64 a0, .int .i64 a1, .agg #[.bool a2_S, .bool a2_Z, .bool a2_K, .bool a2_AC, .bool a2_P, .bool a2_V, .bool a2_CY]] w fun e w' => e = .returned (.bool true) ∧ Below w.heap.size w w' := by
  have bk := S.plc_bd a0 11 (by omega)
  have bt := S.plc_bd a1 7 (by omega)
  generalize hk : S.plc a0 11 = k0 at bk
  generalize ht : S.plc a1 7 = t at bt
  obtain ⟨k, rfl⟩ : ∃ m : Nat, k0 = m := ⟨k0.toNat, by omega⟩
  have p0 : (0 : Int) ≤ k := bk.1
  have p1 : (k : Int) < 11 := bk.2
  have hz : (#[.int .i64 0, .int .i64 0, .int .i64 1, .int .i64 1, .int .i64 2, .int .i64 2, .int .i64 3, .int .i64 3, .int .i64 4, .int .i64 4, .int .i64 5] : Array Value)[k]? = some (.int .i64 ((k / 2 : Nat) : Int)) := by
    rcases (by omega : k = 0 ∨ k = 1 ∨ k = 2 ∨ k = 3 ∨ k = 4 ∨ k = 5 ∨ k = 6 ∨ k = 7 ∨ k = 8 ∨ k = 9 ∨ k = 10) with rfl | rfl | rfl | rfl | rfl | rfl | rfl | rfl | rfl | rfl | rfl <;> rfl
  generalize ho : ((k / 2 : Nat) : Int) = o at hz
  rcases (by omega : t = 0 ∨ t = 1 ∨ t = 2 ∨ t = 3 ∨ t = 4 ∨ t = 5 ∨ t = 6) with rfl | rfl | rfl | rfl | rfl | rfl | rfl
  · have e1 : (S.cnd k a2_S a2_Z a2_K a2_P a2_V a2_CY == S.cnd k (a2_S) (!a2_Z) (a2_K) (a2_P) (a2_V) (a2_CY)) = ((0 : Int) != o) := by rw [← ho]; exact S.dep_0 k a2_S a2_Z a2_K a2_P a2_V a2_CY (by omega)
    cases hb : ((0 : Int) != o) <;> rw [hb] at e1 <;> try (exfalso; simp at e1; done)
    all_goals
      clear bk bt ho
      go_enter Try.func5, Try.ntmps5
      go_wp2_with (first | (go_at_call 6; refine (mplace_any _ _ (by decide) (by decide) _).mono ?_; rintro e w' ⟨rfl, rfl⟩; first | rw [hk] | rw [ht]))
      refine wp_region_adds (by kernel_rfl) (by kernel_rfl) ?_
      repeat (go_big_quiet_step (first | (go_at_call 7; exact calls_adds (holds_any _ _ _ _ _ _ _ _ _)) | (go_at_call 9; exact calls_adds (known10_any _))))
      refine wpQuiet_nil ?_
      intro _ hw1
      obtain ⟨⟨nq, osq⟩, hw2⟩ := hw1
      subst hw2
      go_wp2_with fail
      go_ret
      exact ⟨rfl, Adds.below (by (repeat (first | with_reducible exact Adds.refl _ | with_reducible apply Adds.drew | with_reducible apply Adds.drewN | with_reducible apply Adds.alloc | with_reducible apply Adds.more | (with_reducible refine Adds.setCell ?_ ?_ _) | (focus (simp [go_sem]; done)) | (focus (simp [go_sem]; omega)))))⟩
  · have e1 : (S.cnd k a2_S a2_Z a2_K a2_P a2_V a2_CY == S.cnd k (a2_S) (a2_Z) (a2_K) (a2_P) (a2_V) (!a2_CY)) = ((1 : Int) != o) := by rw [← ho]; exact S.dep_1 k a2_S a2_Z a2_K a2_P a2_V a2_CY (by omega)
    cases hb : ((1 : Int) != o) <;> rw [hb] at e1 <;> try (exfalso; simp at e1; done)
    all_goals
      clear bk bt ho
      go_enter Try.func5, Try.ntmps5
      go_wp2_with (first | (go_at_call 6; refine (mplace_any _ _ (by decide) (by decide) _).mono ?_; rintro e w' ⟨rfl, rfl⟩; first | rw [hk] | rw [ht]))
      refine wp_region_adds (by kernel_rfl) (by kernel_rfl) ?_
      repeat (go_big_quiet_step (first | (go_at_call 7; exact calls_adds (holds_any _ _ _ _ _ _ _ _ _)) | (go_at_call 9; exact calls_adds (known10_any _))))
      refine wpQuiet_nil ?_
      intro _ hw1
      obtain ⟨⟨nq, osq⟩, hw2⟩ := hw1
      subst hw2
      go_wp2_with fail
      go_ret
      exact ⟨rfl, Adds.below (by (repeat (first | with_reducible exact Adds.refl _ | with_reducible apply Adds.drew | with_reducible apply Adds.drewN | with_reducible apply Adds.alloc | with_reducible apply Adds.more | (with_reducible refine Adds.setCell ?_ ?_ _) | (focus (simp [go_sem]; done)) | (focus (simp [go_sem]; omega)))))⟩
  · have e1 : (S.cnd k a2_S a2_Z a2_K a2_P a2_V a2_CY == S.cnd k (a2_S) (a2_Z) (a2_K) (!a2_P) (a2_V) (a2_CY)) = ((2 : Int) != o) := by rw [← ho]; exact S.dep_2 k a2_S a2_Z a2_K a2_P a2_V a2_CY (by omega)
    cases hb : ((2 : Int) != o) <;> rw [hb] at e1 <;> try (exfalso; simp at e1; done)
    all_goals
      clear bk bt ho
      go_enter Try.func5, Try.ntmps5
      go_wp2_with (first | (go_at_call 6; refine (mplace_any _ _ (by decide) (by decide) _).mono ?_; rintro e w' ⟨rfl, rfl⟩; first | rw [hk] | rw [ht]))
      refine wp_region_adds (by kernel_rfl) (by kernel_rfl) ?_
      repeat (go_big_quiet_step (first | (go_at_call 7; exact calls_adds (holds_any _ _ _ _ _ _ _ _ _)) | (go_at_call 9; exact calls_adds (known10_any _))))
      refine wpQuiet_nil ?_
      intro _ hw1
      obtain ⟨⟨nq, osq⟩, hw2⟩ := hw1
      subst hw2
      go_wp2_with fail
      go_ret
      exact ⟨rfl, Adds.below (by (repeat (first | with_reducible exact Adds.refl _ | with_reducible apply Adds.drew | with_reducible apply Adds.drewN | with_reducible apply Adds.alloc | with_reducible apply Adds.more | (with_reducible refine Adds.setCell ?_ ?_ _) | (focus (simp [go_sem]; done)) | (focus (simp [go_sem]; omega)))))⟩
  · have e1 : (S.cnd k a2_S a2_Z a2_K a2_P a2_V a2_CY == S.cnd k (!a2_S) (a2_Z) (a2_K) (a2_P) (a2_V) (a2_CY)) = ((3 : Int) != o) := by rw [← ho]; exact S.dep_3 k a2_S a2_Z a2_K a2_P a2_V a2_CY (by omega)
    cases hb : ((3 : Int) != o) <;> rw [hb] at e1 <;> try (exfalso; simp at e1; done)
    all_goals
      clear bk bt ho
      go_enter Try.func5, Try.ntmps5
      go_wp2_with (first | (go_at_call 6; refine (mplace_any _ _ (by decide) (by decide) _).mono ?_; rintro e w' ⟨rfl, rfl⟩; first | rw [hk] | rw [ht]))
      refine wp_region_adds (by kernel_rfl) (by kernel_rfl) ?_
      repeat (go_big_quiet_step (first | (go_at_call 7; exact calls_adds (holds_any _ _ _ _ _ _ _ _ _)) | (go_at_call 9; exact calls_adds (known10_any _))))
      refine wpQuiet_nil ?_
      intro _ hw1
      obtain ⟨⟨nq, osq⟩, hw2⟩ := hw1
      subst hw2
      go_wp2_with fail
      go_ret
      exact ⟨rfl, Adds.below (by (repeat (first | with_reducible exact Adds.refl _ | with_reducible apply Adds.drew | with_reducible apply Adds.drewN | with_reducible apply Adds.alloc | with_reducible apply Adds.more | (with_reducible refine Adds.setCell ?_ ?_ _) | (focus (simp [go_sem]; done)) | (focus (simp [go_sem]; omega)))))⟩
  · have e1 : (S.cnd k a2_S a2_Z a2_K a2_P a2_V a2_CY == S.cnd k (a2_S) (a2_Z) (!a2_K) (a2_P) (a2_V) (a2_CY)) = ((4 : Int) != o) := by rw [← ho]; exact S.dep_4 k a2_S a2_Z a2_K a2_P a2_V a2_CY (by omega)
    cases hb : ((4 : Int) != o) <;> rw [hb] at e1 <;> try (exfalso; simp at e1; done)
    all_goals
      clear bk bt ho
      go_enter Try.func5, Try.ntmps5
      go_wp2_with (first | (go_at_call 6; refine (mplace_any _ _ (by decide) (by decide) _).mono ?_; rintro e w' ⟨rfl, rfl⟩; first | rw [hk] | rw [ht]))
      refine wp_region_adds (by kernel_rfl) (by kernel_rfl) ?_
      repeat (go_big_quiet_step (first | (go_at_call 7; exact calls_adds (holds_any _ _ _ _ _ _ _ _ _)) | (go_at_call 9; exact calls_adds (known10_any _))))
      refine wpQuiet_nil ?_
      intro _ hw1
      obtain ⟨⟨nq, osq⟩, hw2⟩ := hw1
      subst hw2
      go_wp2_with fail
      go_ret
      exact ⟨rfl, Adds.below (by (repeat (first | with_reducible exact Adds.refl _ | with_reducible apply Adds.drew | with_reducible apply Adds.drewN | with_reducible apply Adds.alloc | with_reducible apply Adds.more | (with_reducible refine Adds.setCell ?_ ?_ _) | (focus (simp [go_sem]; done)) | (focus (simp [go_sem]; omega)))))⟩
  · have e1 : (S.cnd k a2_S a2_Z a2_K a2_P a2_V a2_CY == S.cnd k (a2_S) (a2_Z) (a2_K) (a2_P) (!a2_V) (a2_CY)) = ((5 : Int) != o) := by rw [← ho]; exact S.dep_5 k a2_S a2_Z a2_K a2_P a2_V a2_CY (by omega)
    cases hb : ((5 : Int) != o) <;> rw [hb] at e1 <;> try (exfalso; simp at e1; done)
    all_goals
      clear bk bt ho
      go_enter Try.func5, Try.ntmps5
      go_wp2_with (first | (go_at_call 6; refine (mplace_any _ _ (by decide) (by decide) _).mono ?_; rintro e w' ⟨rfl, rfl⟩; first | rw [hk] | rw [ht]))
      refine wp_region_adds (by kernel_rfl) (by kernel_rfl) ?_
      repeat (go_big_quiet_step (first | (go_at_call 7; exact calls_adds (holds_any _ _ _ _ _ _ _ _ _)) | (go_at_call 9; exact calls_adds (known10_any _))))
      refine wpQuiet_nil ?_
      intro _ hw1
      obtain ⟨⟨nq, osq⟩, hw2⟩ := hw1
      subst hw2
      go_wp2_with fail
      go_ret
      exact ⟨rfl, Adds.below (by (repeat (first | with_reducible exact Adds.refl _ | with_reducible apply Adds.drew | with_reducible apply Adds.drewN | with_reducible apply Adds.alloc | with_reducible apply Adds.more | (with_reducible refine Adds.setCell ?_ ?_ _) | (focus (simp [go_sem]; done)) | (focus (simp [go_sem]; omega)))))⟩
  · have e1 : (S.cnd k a2_S a2_Z a2_K a2_P a2_V a2_CY == S.cnd k (a2_S) (a2_Z) (a2_K) (a2_P) (a2_V) (a2_CY)) = ((6 : Int) != o) := by rw [← ho]; exact S.dep_6 k a2_S a2_Z a2_K a2_P a2_V a2_CY (by omega)
    cases hb : ((6 : Int) != o) <;> rw [hb] at e1 <;> try (exfalso; simp at e1; done)
    all_goals
      clear bk bt ho
      go_enter Try.func5, Try.ntmps5
      go_wp2_with (first | (go_at_call 6; refine (mplace_any _ _ (by decide) (by decide) _).mono ?_; rintro e w' ⟨rfl, rfl⟩; first | rw [hk] | rw [ht]))
      refine wp_region_adds (by kernel_rfl) (by kernel_rfl) ?_
      repeat (go_big_quiet_step (first | (go_at_call 7; exact calls_adds (holds_any _ _ _ _ _ _ _ _ _)) | (go_at_call 9; exact calls_adds (known10_any _))))
      refine wpQuiet_nil ?_
      intro _ hw1
      obtain ⟨⟨nq, osq⟩, hw2⟩ := hw1
      subst hw2
      go_wp2_with fail
      go_ret
      exact ⟨rfl, Adds.below (by (repeat (first | with_reducible exact Adds.refl _ | with_reducible apply Adds.drew | with_reducible apply Adds.drewN | with_reducible apply Adds.alloc | with_reducible apply Adds.more | (with_reducible refine Adds.setCell ?_ ?_ _) | (focus (simp [go_sem]; done)) | (focus (simp [go_sem]; omega)))))⟩

set_option maxRecDepth 100000 in
theorem lifted (os : Os) (started : os.Started) (H : Type) (enc : TypeId × Value → H) :
    ReturnsInHanded {} Try.checked os 5 .any (Rows.condDependsSpec.pre6 enc Try.prog Try.f5 Rows.condDependsRow.domain false) (Rows.condDependsSpec.post enc Try.prog Try.f5 false true false false) := by
  refine returnsInHanded_of_change (C := Try.checked) own started (by kernel_rfl) Try.func5
    (ChangeSpec.witness6 (enc := enc) (C := Try.checked) false ⟨#[], #[.int .i64 0, .int .i64 0, .agg #[.bool false, .bool false, .bool false, .bool false, .bool false, .bool false, .bool false]], []⟩ 8 (by kernel_rfl) (by kernel_rfl) (by kernel_rfl) (by kernel_rfl)) ?_
  intro W base args ds gs before hval0 hW hcnd _
  have hval : ∀ (j : Nat) t v, Try.f5.params[j]? = some t → args[j]? = some v → Value.okWide Try.prog W .any base t v := hval0
  have hW' := hW
  obtain ⟨p, q, hA0, hV, rfl, hfz, hnd⟩ := hW
  have hA : DataW.TrodAll enc Try.prog W 0 (fun _ => true) true Try.f5.params.toList args.toList ds p := hA0
  rw [Try.params5] at hA hval
  obtain ⟨v0, vs0, d0, ds0, p0, q0, hargs, rfl, rfl, h0, r0⟩ := trodAll_cons hA
  obtain ⟨v1, vs1, d1, ds1, p1, q1, rfl, rfl, rfl, h1, r1⟩ := trodAll_cons r0
  obtain ⟨v2, vs2, d2, ds2, p2, q2, rfl, rfl, rfl, h2, r2⟩ := trodAll_cons r1
  obtain ⟨rfl, rfl, rfl⟩ := trodAll_nil r2
  obtain rfl : args = #[v0, v1, v2] := by cases args; simp_all
  obtain ⟨rfl, rfl⟩ := trodVars_none hV
  have k0 := h0
  have lt0 : ∀ x ∈ p0, x.block < W.heap.size := by obtain ⟨m, hm⟩ := k0; exact DataW.trod_lt m _ _ _ hm
  obtain ⟨a0, rfl, -, -, w0⟩ := open_int Try.underlying3 (hval 0 3 v0 rfl rfl) h0
  have k1 := h1
  have lt1 : ∀ x ∈ p1, x.block < W.heap.size := by obtain ⟨m, hm⟩ := k1; exact DataW.trod_lt m _ _ _ hm
  obtain ⟨a1, rfl, -, -, w1⟩ := open_int Try.underlying3 (hval 1 3 v1 rfl rfl) h1
  have k2 := h2
  have lt2 : ∀ x ∈ p2, x.block < W.heap.size := by obtain ⟨m, hm⟩ := k2; exact DataW.trod_lt m _ _ _ hm
  obtain ⟨l2, rfl, g2_0⟩ := open_flat 9 [.bool, .bool, .bool, .bool, .bool, .bool, .bool] _ Try.underlying23 (by kernel_rfl) (hval 2 23 v2 rfl rfl) h2
  obtain ⟨a2_S, l2_1, rfl, g2_1⟩ := fits_bool g2_0
  obtain ⟨a2_Z, l2_2, rfl, g2_2⟩ := fits_bool g2_1
  obtain ⟨a2_K, l2_3, rfl, g2_3⟩ := fits_bool g2_2
  obtain ⟨a2_AC, l2_4, rfl, g2_4⟩ := fits_bool g2_3
  obtain ⟨a2_P, l2_5, rfl, g2_5⟩ := fits_bool g2_4
  obtain ⟨a2_V, l2_6, rfl, g2_6⟩ := fits_bool g2_5
  obtain ⟨a2_CY, l2_7, rfl, g2_7⟩ := fits_bool g2_6
  obtain rfl := fits_nil g2_7
  clear hA0 hval0
  refine (walk a0 a1 a2_S a2_Z a2_K a2_AC a2_P a2_V a2_CY W w0 w1).mono fun e W' ⟨he, bel⟩ => ?_
  subst he
  exact ⟨_, rfl, _, _, _, [], _, [], hW', trodAll_mk1 (shut_bool Try.underlying4 _), (trodAll_cons_mk (Below.trod laidOut (by kernel_rfl) (of_decide_eq_true (by kernel_rfl)) k0 bel lt0) (trodAll_cons_mk (Below.trod laidOut (by kernel_rfl) (of_decide_eq_true (by kernel_rfl)) k1 bel lt1) (trodAll_cons_mk (Below.trod laidOut (by kernel_rfl) (of_decide_eq_true (by kernel_rfl)) k2 bel lt2) trodAll_mk0))), rfl, bel.frame _, fun h => by cases h⟩

theorem over : Rows.condDependsRow.holds Try.pinned (OpenSpec.ofChange Rows.condDependsSpec) :=
  OpenClaim.holds_of_wide 5 Try.f5 rfl rfl rfl rfl rfl rfl rfl ⟨rfl, rfl, rfl, rfl, rfl⟩ rfl rfl rfl rfl rfl (by kernel_rfl) Try.func5 (by kernel_rfl)
    (of_decide_eq_true (by kernel_rfl)) (by unfold Func.isWrapper; first | (rw [if_pos (by decide +kernel)]; kernel_rfl) | (rw [if_neg (by decide +kernel)]; exact ⟨rfl, rfl⟩))
    (fun os started H enc _ => lifted os started H enc)

/-- The statement. -/
theorem proved : Rows.CondDependsSaid := over
#print axioms proved
end Go.Proofs.Ytodghchpoomaaaa.condDepends
