/- Contracts of package flags and of the reference's chapter 2: each returns the plain function's value and leaves what was there alone. Conditions: bytes are from 0 to 255. -/
import Derived.Test.YthjlegljhflejaaC1
import Derived.Test.YthjlegljhflejaaS2
import Derived.Test.YthjlegljhflejaaM1
namespace Go.Proofs.Ythjlegljhflejaa
open Go.ChangeShapes Go.WideShapes Go.ChangeAt Go.RowKit
set_option linter.unusedVariables false
theorem ron_any (c : Int) (w : World) : Calls Try.prog 36 #[.int .i64 c] w fun e w' => e = .returned (.bool (decide (c = 2))) ∧ w = w' := by
  go_enter Try.func36, Try.ntmps36
  go_wp2
  go_ret
  exact ⟨rfl, rfl⟩
theorem has_any (b n : Int) (b0 : 0 ≤ b) (b1 : b < 256) (n0 : 0 ≤ n) (n1 : n < 8) (w : World) : Calls Try.prog 32 #[.int .u8 b, .int .i64 n] w fun e w' => e = .returned (.bool (S.has b n)) ∧ w = w' := by
  rcases (by omega : n = 0 ∨ n = 1 ∨ n = 2 ∨ n = 3 ∨ n = 4 ∨ n = 5 ∨ n = 6 ∨ n = 7) with rfl | rfl | rfl | rfl | rfl | rfl | rfl | rfl
  all_goals
    go_enter Try.func32, Try.ntmps32
    go_wp2
    go_ret
    refine ⟨rb ?_, rfl⟩
    rw [show S.has b _ = (bits .and .u8 (b / _) 1 == 1) from (S.bit_test b b0 b1 _ (by decide)).symm]
    simp
theorem of_any (r : Int) (r0 : 0 ≤ r) (r1 : r < 256) (w : World) : Calls Try.prog 17 #[.int .u8 r] w fun e w' => e = .returned (.agg #[.bool (S.has r 7), .bool (r == 0), .bool false, .bool false, .bool (S.par r), .bool false, .bool false]) ∧ Adds w w' := by
  go_enter Try.func17, Try.ntmps17
  go_wp2_with (first | (go_at_call 32; refine (has_any _ _ r0 r1 (by decide) (by decide) _).mono ?_; rintro e w' ⟨rfl, rfl⟩) | (go_at_call 33; refine (parity_any _ r0 r1 _).mono ?_; rintro e w' ⟨rfl, rfl⟩))
  exact bodyPost_ret (v := .agg #[.bool (S.has r 7), .bool (r == 0), .bool false, .bool false, .bool (S.par r), .bool false, .bool false]) (by simp [results, Try.results17, go_sem]) rfl ⟨rfl, by (repeat (first | with_reducible exact Adds.refl _ | with_reducible apply Adds.drew | with_reducible apply Adds.drewN | with_reducible apply Adds.alloc | with_reducible apply Adds.more | (with_reducible refine Adds.setCell ?_ ?_ _) | (focus (simp [go_sem]; done)) | (focus (simp [go_sem]; omega))))⟩
theorem rof_any (r : Int) (r0 : 0 ≤ r) (r1 : r < 256) (w : World) : Calls Try.prog 21 #[.int .u8 r] w fun e w' => e = .returned (.agg #[.bool (S.has r 7), .bool (r == 0), .bool false, .bool false, .bool (S.par r), .bool false, .bool false]) ∧ Adds w w' := by
  have h7 := S.has7 r r0 r1
  go_enter Try.func21, Try.ntmps21
  go_wp2_with (first | (go_at_call 35; refine (rparity_any _ r0 r1 _).mono ?_; rintro e w' ⟨rfl, rfl⟩))
  exact bodyPost_ret (v := .agg #[.bool (S.has r 7), .bool (r == 0), .bool false, .bool false, .bool (S.par r), .bool false, .bool false]) (by simp [results, Try.results21, go_sem]; try simp [h7]) rfl ⟨rfl, by (repeat (first | with_reducible exact Adds.refl _ | with_reducible apply Adds.drew | with_reducible apply Adds.drewN | with_reducible apply Adds.alloc | with_reducible apply Adds.more | (with_reducible refine Adds.setCell ?_ ?_ _) | (focus (simp [go_sem]; done)) | (focus (simp [go_sem]; omega))))⟩
@[go_sem] theorem eq_Flags (a0 a1 a2 a3 a4 a5 a6 b0 b1 b2 b3 b4 b5 b6 : Bool) (w : World) : (Op.equalIn 10000 23 (.agg #[.bool a0, .bool a1, .bool a2, .bool a3, .bool a4, .bool a5, .bool a6]) (.agg #[.bool b0, .bool b1, .bool b2, .bool b3, .bool b4, .bool b5, .bool b6])).run Try.prog w =
    .ok (same [.bool a0, .bool a1, .bool a2, .bool a3, .bool a4, .bool a5, .bool a6] [.bool b0, .bool b1, .bool b2, .bool b3, .bool b4, .bool b5, .bool b6]) w :=
  eq_agg 4 [.bool, .bool, .bool, .bool, .bool, .bool, .bool] _ Try.underlying23 (by kernel_rfl) (by decide) _ _ w trivial trivial
end Go.Proofs.Ythjlegljhflejaa
