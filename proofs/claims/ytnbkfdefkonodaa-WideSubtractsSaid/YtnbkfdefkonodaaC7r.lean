/- The reference's difference of words: it returns the plain functions' values and leaves what was there alone. Conditions: words are from 0 to 65535. -/
import Derived.Test.YtnbkfdefkonodaaC2
import Derived.Test.YtnbkfdefkonodaaS7
namespace Go.Proofs.Ytnbkfdefkonodaa
open Go.ChangeShapes Go.WideShapes Go.ChangeAt Go.RowKit
set_option linter.unusedVariables false
set_option maxHeartbeats 1000000 in
theorem rdsub_any (a b : Int) (a0 : 0 ≤ a) (a1 : a < 65536) (b0 : 0 ≤ b) (b1 : b < 65536) (w : World) : Calls Try.prog 12 #[.int .u16 a, .int .u16 b] w fun e w' => e = .returned (.tuple #[.int .u16 (S.wdR a b), .agg #[.bool (S.b15 (S.wdR a b)), .bool (S.wdR a b == 0), .bool (S.wdK a b), .bool (S.wdH a b), .bool (S.par (S.wdT a b)), .bool (S.wdV a b), .bool (S.wdC a b)]]) ∧ Adds w w' := by
  have f1 : S.difO (a % 256) (b % 256) false = S.wdB a b := rfl
  have f2 : S.difR (a % 256) (b % 256) false = S.wdL a b := rfl
  have f3 : S.difR (a / 256) (b / 256) (S.wdB a b) = S.wdT a b := rfl
  have f4 : S.difH (a / 256) (b / 256) (S.wdB a b) = S.wdH a b := rfl
  have f5 : S.difV (a / 256) (b / 256) (S.wdB a b) = S.wdV a b := rfl
  have f6 : S.difO (a / 256) (b / 256) (S.wdB a b) = S.wdC a b := rfl
  have f7 : S.joi (S.wdT a b) (S.wdL a b) = S.wdR a b := rfl
  have f8 : S.maj (S.b15 a) (!S.b15 b) (S.b15 (S.wdR a b)) = S.wdK a b := rfl
  have l0 := S.wdL_bd a b
  have t0 := S.wdT_bd a b
  have x1 : decide (128 ≤ S.wdT a b) = S.b15 (S.wdR a b) := S.wdS2 a b
  have x2 : decide (32768 ≤ a) = S.b15 a := rfl
  have x3 : decide (b < 32768) = !S.b15 b := S.lt15 b
  have x4 := S.wdZ2 a b
  by_cases hz : S.wdT a b = 0
  · rw [hz] at f3 f7 x1 x4 ⊢
    have x5 : S.b15 (S.wdR a b) = false := by rw [← x1]; decide
    have x6 : (S.wdL a b == 0) = (S.wdR a b == 0) := by rw [← x4]; simp
    rw [x5] at f8 ⊢
    clear x1 x4 t0
    go_enter Try.func12, Try.ntmps12
    go_wp2_with (first | (go_at_call 23; refine (rdif_any _ _ _ (by omega) (by omega) (by omega) (by omega) _).mono ?_; rintro e w' ⟨rfl, rfl⟩) | (go_at_call 24; refine (rjoin_any _ _ (by omega) (by omega) (by omega) (by omega) _).mono ?_; rintro e w' ⟨rfl, rfl⟩) | (go_at_call 26; refine (rmajority_any _ _ _ _).mono ?_; rintro e w' ⟨rfl, rfl⟩) | (go_at_call 25; refine (rparity_any _ (by omega) (by omega) _).mono ?_; rintro e w' ⟨rfl, rfl⟩))
    exact bodyPost_ret (v := .tuple #[.int .u16 (S.wdR a b), .agg #[.bool false, .bool (S.wdR a b == 0), .bool (S.wdK a b), .bool (S.wdH a b), .bool (S.par 0), .bool (S.wdV a b), .bool (S.wdC a b)]]) (by simp [results, Try.results12, go_sem]) rfl ⟨rfl, by (repeat (first | with_reducible exact Adds.refl _ | with_reducible apply Adds.drew | with_reducible apply Adds.drewN | with_reducible apply Adds.alloc | with_reducible apply Adds.more | (with_reducible refine Adds.setCell ?_ ?_ _) | (focus (simp [go_sem]; done)) | (focus (simp [go_sem]; omega))))⟩
  · have hy : (S.wdT a b == 0) = false := by simpa using hz
    have x6 : (S.wdR a b == 0) = false := by rw [← x4, hy]; rfl
    rw [x6]
    clear x4
    go_enter Try.func12, Try.ntmps12
    go_wp2_with (first | (go_at_call 23; refine (rdif_any _ _ _ (by omega) (by omega) (by omega) (by omega) _).mono ?_; rintro e w' ⟨rfl, rfl⟩) | (go_at_call 24; refine (rjoin_any _ _ (by omega) (by omega) (by omega) (by omega) _).mono ?_; rintro e w' ⟨rfl, rfl⟩) | (go_at_call 26; refine (rmajority_any _ _ _ _).mono ?_; rintro e w' ⟨rfl, rfl⟩) | (go_at_call 25; refine (rparity_any _ (by omega) (by omega) _).mono ?_; rintro e w' ⟨rfl, rfl⟩))
    exact bodyPost_ret (v := .tuple #[.int .u16 (S.wdR a b), .agg #[.bool (S.b15 (S.wdR a b)), .bool false, .bool (S.wdK a b), .bool (S.wdH a b), .bool (S.par (S.wdT a b)), .bool (S.wdV a b), .bool (S.wdC a b)]]) (by simp [results, Try.results12, go_sem]) rfl ⟨rfl, by (repeat (first | with_reducible exact Adds.refl _ | with_reducible apply Adds.drew | with_reducible apply Adds.drewN | with_reducible apply Adds.alloc | with_reducible apply Adds.more | (with_reducible refine Adds.setCell ?_ ?_ _) | (focus (simp [go_sem]; done)) | (focus (simp [go_sem]; omega))))⟩
end Go.Proofs.Ytnbkfdefkonodaa
