/- Contracts of package decimal and of the reference's chapter 6: each returns the plain functions' values and leaves what was there alone. Conditions: bytes are from 0 to 255. -/
import Derived.Test.YthjlegljhflejaaC3q
import Derived.Test.YthjlegljhflejaaS6
namespace Go.Proofs.Ythjlegljhflejaa
open Go.ChangeShapes Go.WideShapes Go.ChangeAt Go.RowKit
set_option linter.unusedVariables false
theorem dsign_any (a : Int) (w : World) : Calls Try.prog 19 #[.int .u8 a] w fun e w' => e = .returned (.bool (S.big a)) ∧ w = w' := by
  go_enter Try.func19, Try.ntmps19
  go_wp2
  go_ret
  exact ⟨rfl, rfl⟩
theorem cor_any (h l : Int) (s z k ac p v cy : Bool) (w : World) : Calls Try.prog 15 #[.int .u8 h, .int .u8 l, .agg #[.bool s, .bool z, .bool k, .bool ac, .bool p, .bool v, .bool cy]] w fun e w' => e = .returned (.int .u8 (S.cor h l ac cy)) ∧ Adds w w' := by
  cases ac <;> cases cy <;> by_cases hl : 9 < l <;> by_cases h9 : h = 9 <;> by_cases hh : 9 < h
  all_goals try (exfalso; omega)
  all_goals
    go_enter Try.func15, Try.ntmps15
    go_wp2_with fail
    go_ret
    exact ⟨ri (by unfold S.cor; first | (simp [*]; done) | (simp [*, Int.not_lt.mpr hl]; done) | (simp [*, Int.not_lt.mpr hh]; done) | (simp [*, Int.not_lt.mpr hl, Int.not_lt.mpr hh]; done)), by (repeat (first | with_reducible exact Adds.refl _ | with_reducible apply Adds.drew | with_reducible apply Adds.drewN | with_reducible apply Adds.alloc | with_reducible apply Adds.more | (with_reducible refine Adds.setCell ?_ ?_ _) | (focus (simp [go_sem]; done)) | (focus (simp [go_sem]; omega))))⟩
set_option maxHeartbeats 1000000 in
theorem daa_any (c a : Int) (s z k ac p v cy : Bool) (a0 : 0 ≤ a) (a1 : a < 256) (w : World) : Calls Try.prog 7 #[.int .i64 c, .int .u8 a, .agg #[.bool s, .bool z, .bool k, .bool ac, .bool p, .bool v, .bool cy]] w fun e w' => e = .returned (.tuple #[.int .u8 (S.sumR a (S.dX a ac cy) false), .agg #[.bool (S.has (S.sumR a (S.dX a ac cy) false) 7), .bool (S.sumR a (S.dX a ac cy) false == 0), .bool (S.nK c a false (S.sumR a (S.dX a ac cy) false)), .bool (S.sumH a (S.dX a ac cy) false), .bool (S.par (S.sumR a (S.dX a ac cy) false)), .bool (S.nV c (S.sumV a (S.dX a ac cy) false)), .bool (S.dH a cy)]]) ∧ Adds w w' := by
  obtain ⟨e1, e2⟩ := S.cor_eq a a0 a1 ac cy
  obtain ⟨x0, x1⟩ := S.dX_bd a ac cy
  obtain ⟨r0, r1⟩ := S.sumR_bd a (S.dX a ac cy) false
  by_cases hc : c = 2
  · subst hc
    rw [S.nK85, S.nV85]
    go_enter Try.func7, Try.ntmps7
    go_wp2_with (first | (go_at_call 15; refine (cor_any _ _ _ _ _ _ _ _ _ _).mono ?_; rw [e1]; rintro e w' ⟨rfl, ⟨⟨n1, os1⟩, rfl⟩⟩) | (go_at_call 16; refine (sum_any _ _ _ a0 a1 x0 x1 _).mono ?_; rintro e w' ⟨rfl, rfl⟩) | (go_at_call 17; refine (of_any _ r0 r1 _).mono ?_; rintro e w' ⟨rfl, ⟨⟨n1, os1⟩, rfl⟩⟩) | (go_at_call 19; refine (dsign_any _ _).mono ?_; rintro e w' ⟨rfl, rfl⟩) | (go_at_call 18; refine (majority_any _ _ _ _).mono ?_; rintro e w' ⟨rfl, rfl⟩))
    go_region
    all_goals go_wp2_with fail
    all_goals exact bodyPost_ret (v := .tuple #[.int .u8 (S.sumR a (S.dX a ac cy) false), .agg #[.bool (S.has (S.sumR a (S.dX a ac cy) false) 7), .bool (S.sumR a (S.dX a ac cy) false == 0), .bool (S.maj (S.big a) false (S.big (S.sumR a (S.dX a ac cy) false))), .bool (S.sumH a (S.dX a ac cy) false), .bool (S.par (S.sumR a (S.dX a ac cy) false)), .bool (S.sumV a (S.dX a ac cy) false), .bool (S.dH a cy)]]) (by simp [results, Try.results7, go_sem]) rfl ⟨rfl, by (repeat (first | with_reducible exact Adds.refl _ | with_reducible apply Adds.drew | with_reducible apply Adds.drewN | with_reducible apply Adds.alloc | with_reducible apply Adds.more | (with_reducible refine Adds.setCell ?_ ?_ _) | (focus (simp [go_sem]; done)) | (focus (simp [go_sem]; omega))))⟩
  · rw [S.nK80 hc, S.nV80 hc]
    go_enter Try.func7, Try.ntmps7
    go_wp2_with (first | (go_at_call 15; refine (cor_any _ _ _ _ _ _ _ _ _ _).mono ?_; rw [e1]; rintro e w' ⟨rfl, ⟨⟨n1, os1⟩, rfl⟩⟩) | (go_at_call 16; refine (sum_any _ _ _ a0 a1 x0 x1 _).mono ?_; rintro e w' ⟨rfl, rfl⟩) | (go_at_call 17; refine (of_any _ r0 r1 _).mono ?_; rintro e w' ⟨rfl, ⟨⟨n1, os1⟩, rfl⟩⟩))
    go_region
    all_goals go_wp2_with fail
    all_goals exact bodyPost_ret (v := .tuple #[.int .u8 (S.sumR a (S.dX a ac cy) false), .agg #[.bool (S.has (S.sumR a (S.dX a ac cy) false) 7), .bool (S.sumR a (S.dX a ac cy) false == 0), .bool false, .bool (S.sumH a (S.dX a ac cy) false), .bool (S.par (S.sumR a (S.dX a ac cy) false)), .bool false, .bool (S.dH a cy)]]) (by simp [results, Try.results7, go_sem]) rfl ⟨rfl, by (repeat (first | with_reducible exact Adds.refl _ | with_reducible apply Adds.drew | with_reducible apply Adds.drewN | with_reducible apply Adds.alloc | with_reducible apply Adds.more | (with_reducible refine Adds.setCell ?_ ?_ _) | (focus (simp [go_sem]; done)) | (focus (simp [go_sem]; omega))))⟩
theorem known6_any (w : World) : Calls Try.prog 9 #[] w fun e w' => e = .returned (.bool true) ∧ Adds w w' := by
  have k0 : S.dX 155 false false = 102 := by decide
  have k1 : S.sumR 155 102 false = 1 := by decide
  have k2 : S.has 1 7 = false := by decide
  have k3 : S.par 1 = false := by decide
  have k4 : S.nK 1 155 false 1 = false := by decide
  have k5 : S.sumH 155 102 false = true := by decide
  have k6 : S.nV 1 (S.sumV 155 102 false) = false := by decide
  have k7 : S.dH 155 false = true := by decide
  go_enter Try.func9, Try.ntmps9
  go_wp2_with (first | (go_at_call 7; refine (daa_any _ _ _ _ _ _ _ _ _ (by decide) (by decide) _).mono ?_; rintro e w' ⟨rfl, ⟨⟨n1, os1⟩, rfl⟩⟩))
  go_ret
  exact ⟨rfl, by (repeat (first | with_reducible exact Adds.refl _ | with_reducible apply Adds.drew | with_reducible apply Adds.drewN | with_reducible apply Adds.alloc | with_reducible apply Adds.more | (with_reducible refine Adds.setCell ?_ ?_ _) | (focus (simp [go_sem]; done)) | (focus (simp [go_sem]; omega))))⟩
end Go.Proofs.Ythjlegljhflejaa
