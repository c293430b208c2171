/- Contracts of package wide and of the reference's chapter 7: each returns the plain functions' values and leaves what was there alone. Conditions: words are from 0 to 65535. -/
import Derived.Test.YtnbkfdefkonodaaC2
import Derived.Test.YtnbkfdefkonodaaS7
import Derived.RegionTactic
import Derived.Deep.RegionWith
namespace Go.Proofs.Ytnbkfdefkonodaa
open Go.ChangeShapes Go.WideShapes Go.ChangeAt Go.RowKit
set_option linter.unusedVariables false
theorem wsigned_any (v : Int) (v0 : 0 ≤ v) (v1 : v < 65536) (w : World) : Calls Try.prog 16 #[.int .u16 v] w fun e w' => e = .returned (.int .i64 (S.sg16 v)) ∧ w = w' := by
  go_enter Try.func16, Try.ntmps16
  go_wp2
  go_ret
  exact ⟨ri (S.sg16_wrap v v0 v1), rfl⟩
theorem woverflows_any (a : Int) (w : World) : Calls Try.prog 15 #[.int .i64 a] w fun e w' => e = .returned (.bool (S.ovf16 a)) ∧ w = w' := by
  unfold S.ovf16
  go_enter Try.func15, Try.ntmps15
  go_wp2
  all_goals
    go_ret
    exact ⟨rfl, rfl⟩
theorem wsign_any (v : Int) (w : World) : Calls Try.prog 20 #[.int .u16 v] w fun e w' => e = .returned (.bool (S.b15 v)) ∧ w = w' := by
  go_enter Try.func20, Try.ntmps20
  go_wp2
  go_ret
  exact ⟨rfl, rfl⟩
set_option maxHeartbeats 1000000 in
theorem dad_any (c a b : Int) (s z k ac p v cy : Bool) (a0 : 0 ≤ a) (a1 : a < 65536) (b0 : 0 ≤ b) (b1 : b < 65536) (w : World) : Calls Try.prog 8 #[.int .i64 c, .int .u16 a, .int .u16 b, .agg #[.bool s, .bool z, .bool k, .bool ac, .bool p, .bool v, .bool cy]] w fun e w' => e = .returned (.tuple #[.int .u16 (S.wsR a b), .agg #[.bool s, .bool z, .bool k, .bool ac, .bool p, .bool (S.wsV c a b v), .bool (S.wsO a b)]]) ∧ Adds w w' := by
  have e1 := S.ws_wrap a b
  have e2 : decide (65535 < a + b) = S.wsO a b := rfl
  have sa := S.sg16_bd a a0 a1
  have sb := S.sg16_bd b b0 b1
  by_cases hc : c = 2
  · subst hc
    rw [S.wsV85]
    go_enter Try.func8, Try.ntmps8
    go_wp2_with (first | (go_at_call 16; refine (wsigned_any _ (by omega) (by omega) _).mono ?_; rintro e w' ⟨rfl, rfl⟩) | (go_at_call 15; refine (woverflows_any _ _).mono ?_; rintro e w' ⟨rfl, rfl⟩))
    go_region
    all_goals go_wp2_with fail
    all_goals exact bodyPost_ret (v := .tuple #[.int .u16 (S.wsR a b), .agg #[.bool s, .bool z, .bool k, .bool ac, .bool p, .bool (S.ovf16 (S.sg16 a + S.sg16 b)), .bool (S.wsO a b)]]) (by simp [results, Try.results8, go_sem]) rfl ⟨rfl, by (repeat (first | with_reducible exact Adds.refl _ | with_reducible apply Adds.drew | with_reducible apply Adds.drewN | with_reducible apply Adds.alloc | with_reducible apply Adds.more | (with_reducible refine Adds.setCell ?_ ?_ _) | (focus (simp [go_sem]; done)) | (focus (simp [go_sem]; omega))))⟩
  · rw [S.wsV80 hc]
    go_enter Try.func8, Try.ntmps8
    go_wp2_with fail
    go_region
    all_goals go_wp2_with fail
    all_goals exact bodyPost_ret (v := .tuple #[.int .u16 (S.wsR a b), .agg #[.bool s, .bool z, .bool k, .bool ac, .bool p, .bool v, .bool (S.wsO a b)]]) (by simp [results, Try.results8, go_sem]) rfl ⟨rfl, by (repeat (first | with_reducible exact Adds.refl _ | with_reducible apply Adds.drew | with_reducible apply Adds.drewN | with_reducible apply Adds.alloc | with_reducible apply Adds.more | (with_reducible refine Adds.setCell ?_ ?_ _) | (focus (simp [go_sem]; done)) | (focus (simp [go_sem]; omega))))⟩
set_option maxHeartbeats 1000000 in
theorem rdad_any (c a b : Int) (s z k ac p v cy : Bool) (a0 : 0 ≤ a) (a1 : a < 65536) (b0 : 0 ≤ b) (b1 : b < 65536) (w : World) : Calls Try.prog 9 #[.int .i64 c, .int .u16 a, .int .u16 b, .agg #[.bool s, .bool z, .bool k, .bool ac, .bool p, .bool v, .bool cy]] w fun e w' => e = .returned (.tuple #[.int .u16 (S.wsR a b), .agg #[.bool s, .bool z, .bool k, .bool ac, .bool p, .bool (S.wsV c a b v), .bool (S.wsO a b)]]) ∧ Adds w w' := by
  have e1 := S.ws_wrap a b
  have e2 : decide (65535 < a + b) = S.wsO a b := rfl
  have sa := S.sg16_bd a a0 a1
  have sb := S.sg16_bd b b0 b1
  have g1 := S.sg16_wrap a a0 a1
  have g2 := S.sg16_wrap b b0 b1
  by_cases hc : c = 2
  · subst hc
    rw [S.wsV85]
    obtain ⟨t, ht⟩ : ∃ t, S.sg16 a + S.sg16 b = t := ⟨_, rfl⟩
    rw [ht]
    have tb : -65536 ≤ t ∧ t < 65536 := by omega
    rcases (by omega : t < -32768 ∨ 32767 < t ∨ (¬ t < -32768 ∧ ¬ 32767 < t)) with hs | hs | hs
    · have h4 : S.ovf16 t = true := by unfold S.ovf16; rw [decide_eq_true hs]; rfl
      rw [h4]
      go_enter Try.func9, Try.ntmps9
      go_wp2_with (first | (go_at_call 17; refine (ron_any _ _).mono ?_; rintro e w' ⟨rfl, rfl⟩))
      go_region
      all_goals go_wp2_with fail
      all_goals exact bodyPost_ret (v := .tuple #[.int .u16 (S.wsR a b), .agg #[.bool s, .bool z, .bool k, .bool ac, .bool p, .bool true, .bool (S.wsO a b)]]) (by simp [results, Try.results9, go_sem]) rfl ⟨rfl, by (repeat (first | with_reducible exact Adds.refl _ | with_reducible apply Adds.drew | with_reducible apply Adds.drewN | with_reducible apply Adds.alloc | with_reducible apply Adds.more | (with_reducible refine Adds.setCell ?_ ?_ _) | (focus (simp [go_sem]; done)) | (focus (simp [go_sem]; omega))))⟩
    · have h4 : S.ovf16 t = true := by unfold S.ovf16; rw [decide_eq_true hs, Bool.or_true]
      have hn : ¬ t < -32768 := by omega
      rw [h4]
      go_enter Try.func9, Try.ntmps9
      go_wp2_with (first | (go_at_call 17; refine (ron_any _ _).mono ?_; rintro e w' ⟨rfl, rfl⟩))
      go_region
      all_goals go_wp2_with fail
      all_goals exact bodyPost_ret (v := .tuple #[.int .u16 (S.wsR a b), .agg #[.bool s, .bool z, .bool k, .bool ac, .bool p, .bool true, .bool (S.wsO a b)]]) (by simp [results, Try.results9, go_sem]) rfl ⟨rfl, by (repeat (first | with_reducible exact Adds.refl _ | with_reducible apply Adds.drew | with_reducible apply Adds.drewN | with_reducible apply Adds.alloc | with_reducible apply Adds.more | (with_reducible refine Adds.setCell ?_ ?_ _) | (focus (simp [go_sem]; done)) | (focus (simp [go_sem]; omega))))⟩
    · obtain ⟨hs1, hs2⟩ := hs
      have h4 : S.ovf16 t = false := by unfold S.ovf16; rw [decide_eq_false hs1, decide_eq_false hs2]; rfl
      rw [h4]
      go_enter Try.func9, Try.ntmps9
      go_wp2_with (first | (go_at_call 17; refine (ron_any _ _).mono ?_; rintro e w' ⟨rfl, rfl⟩))
      go_region
      all_goals go_wp2_with fail
      all_goals exact bodyPost_ret (v := .tuple #[.int .u16 (S.wsR a b), .agg #[.bool s, .bool z, .bool k, .bool ac, .bool p, .bool false, .bool (S.wsO a b)]]) (by simp [results, Try.results9, go_sem]; try omega) rfl ⟨rfl, by (repeat (first | with_reducible exact Adds.refl _ | with_reducible apply Adds.drew | with_reducible apply Adds.drewN | with_reducible apply Adds.alloc | with_reducible apply Adds.more | (with_reducible refine Adds.setCell ?_ ?_ _) | (focus (simp [go_sem]; done)) | (focus (simp [go_sem]; omega))))⟩
  · rw [S.wsV80 hc]
    go_enter Try.func9, Try.ntmps9
    go_wp2_with (first | (go_at_call 17; refine (ron_any _ _).mono ?_; rintro e w' ⟨rfl, rfl⟩))
    go_region
    all_goals go_wp2_with fail
    all_goals exact bodyPost_ret (v := .tuple #[.int .u16 (S.wsR a b), .agg #[.bool s, .bool z, .bool k, .bool ac, .bool p, .bool v, .bool (S.wsO a b)]]) (by simp [results, Try.results9, go_sem]) rfl ⟨rfl, by (repeat (first | with_reducible exact Adds.refl _ | with_reducible apply Adds.drew | with_reducible apply Adds.drewN | with_reducible apply Adds.alloc | with_reducible apply Adds.more | (with_reducible refine Adds.setCell ?_ ?_ _) | (focus (simp [go_sem]; done)) | (focus (simp [go_sem]; omega))))⟩
set_option maxHeartbeats 1000000 in
theorem dsub_any (a b : Int) (a0 : 0 ≤ a) (a1 : a < 65536) (b0 : 0 ≤ b) (b1 : b < 65536) (w : World) : Calls Try.prog 11 #[.int .u16 a, .int .u16 b] w fun e w' => e = .returned (.tuple #[.int .u16 (S.wdR a b), .agg #[.bool (S.b15 (S.wdR a b)), .bool (S.wdR a b == 0), .bool (S.wdK a b), .bool (S.wdH a b), .bool (S.par (S.wdT a b)), .bool (S.wdV a b), .bool (S.wdC a b)]]) ∧ Adds w w' := by
  have f1 : S.difO (a % 256) (b % 256) false = S.wdB a b := rfl
  have f2 : S.difR (a % 256) (b % 256) false = S.wdL a b := rfl
  have f3 : S.difR (a / 256) (b / 256) (S.wdB a b) = S.wdT a b := rfl
  have f4 : S.difH (a / 256) (b / 256) (S.wdB a b) = S.wdH a b := rfl
  have f5 : S.difV (a / 256) (b / 256) (S.wdB a b) = S.wdV a b := rfl
  have f6 : S.difO (a / 256) (b / 256) (S.wdB a b) = S.wdC a b := rfl
  have f7 : S.joi (S.wdT a b) (S.wdL a b) = S.wdR a b := rfl
  have f8 : S.maj (S.b15 a) (!S.b15 b) (S.b15 (S.wdR a b)) = S.wdK a b := rfl
  have l0 := S.wdL_bd a b
  have t0 := S.wdT_bd a b
  go_enter Try.func11, Try.ntmps11
  go_wp2_with (first | (go_at_call 18; refine (dif_any _ _ _ (by omega) (by omega) (by omega) (by omega) _).mono ?_; rintro e w' ⟨rfl, rfl⟩) | (go_at_call 19; refine (join_any _ _ t0.1 t0.2 l0.1 l0.2 _).mono ?_; rintro e w' ⟨rfl, rfl⟩) | (go_at_call 20; refine (wsign_any _ _).mono ?_; rintro e w' ⟨rfl, rfl⟩) | (go_at_call 21; refine (majority_any _ _ _ _).mono ?_; rintro e w' ⟨rfl, rfl⟩) | (go_at_call 22; refine (parity_any _ t0.1 t0.2 _).mono ?_; rintro e w' ⟨rfl, rfl⟩))
  all_goals exact bodyPost_ret (v := .tuple #[.int .u16 (S.wdR a b), .agg #[.bool (S.b15 (S.wdR a b)), .bool (S.wdR a b == 0), .bool (S.wdK a b), .bool (S.wdH a b), .bool (S.par (S.wdT a b)), .bool (S.wdV a b), .bool (S.wdC a b)]]) (by simp [results, Try.results11, go_sem]) rfl ⟨rfl, by (repeat (first | with_reducible exact Adds.refl _ | with_reducible apply Adds.drew | with_reducible apply Adds.drewN | with_reducible apply Adds.alloc | with_reducible apply Adds.more | (with_reducible refine Adds.setCell ?_ ?_ _) | (focus (simp [go_sem]; done)) | (focus (simp [go_sem]; omega))))⟩
theorem known7_any (w : World) : Calls Try.prog 10 #[] w fun e w' => e = .returned (.bool true) ∧ Adds w w' := by
  have k0 : S.wdR 0 1 = 65535 := by decide
  have k1 : S.b15 65535 = true := by decide
  have k2 : S.wdK 0 1 = true := by decide
  have k3 : S.wdH 0 1 = false := by decide
  have k4 : S.par (S.wdT 0 1) = true := by decide
  have k5 : S.wdV 0 1 = false := by decide
  have k6 : S.wdC 0 1 = true := by decide
  have k7 : S.wsR 65535 1 = 0 := by decide
  have k8 : S.wsV 1 65535 1 false = false := by decide
  have k9 : S.wsO 65535 1 = true := by decide
  go_enter Try.func10, Try.ntmps10
  go_wp2_with (first | (go_at_call 11; refine (dsub_any _ _ (by decide) (by decide) (by decide) (by decide) _).mono ?_; rintro e w' ⟨rfl, ⟨⟨n1, os1⟩, rfl⟩⟩) | (go_at_call 8; refine (dad_any _ _ _ _ _ _ _ _ _ _ (by decide) (by decide) (by decide) (by decide) _).mono ?_; rintro e w' ⟨rfl, ⟨⟨n1, os1⟩, rfl⟩⟩))
  go_ret
  exact ⟨rfl, by (repeat (first | with_reducible exact Adds.refl _ | with_reducible apply Adds.drew | with_reducible apply Adds.drewN | with_reducible apply Adds.alloc | with_reducible apply Adds.more | (with_reducible refine Adds.setCell ?_ ?_ _) | (focus (simp [go_sem]; done)) | (focus (simp [go_sem]; omega))))⟩
end Go.Proofs.Ytnbkfdefkonodaa
