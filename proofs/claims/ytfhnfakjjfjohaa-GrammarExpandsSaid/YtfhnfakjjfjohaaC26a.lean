/- Contracts of the pins of a state: transferred, pins8080, pins8085, pinsOf and the reference's Pins: each returns the plain function's value and leaves what was there alone. Condition: the state is one that items of this kind have. -/
import Derived.Test.YtfhnfakjjfjohaaC18
import Derived.Test.YtfhnfakjjfjohaaMW
import Derived.Test.YtfhnfakjjfjohaaS26
import Derived.Deep.RegionWith
import Derived.Deep.RegionHeld3
import Derived.Lib.Hide
namespace Go.Proofs.Ytfhnfakjjfjohaa
open Go.ChangeShapes Go.WideShapes Go.ChangeAt Go.RowKit
set_option linter.unusedVariables false
theorem limited_any (n : Int) (w : World) : Calls Try.prog 38 #[.int .i64 n] w fun e w' => e = .returned (.int .i64 (S.lim n)) ∧ w = w' := by
  go_enter Try.func38, Try.ntmps38
  go_wp2
  all_goals first | (go_ret; exact ⟨ri (by unfold S.lim; omega), rfl⟩) | skip
theorem transferred_1 (c a d s : Int) (w : World) : Calls Try.prog 39 #[.agg #[.int .i64 c, .int .u16 a, .int .u8 d, .int .i64 s], .int .i64 1] w fun e w' => e = .returned (.int .u8 (S.tr c d 1)) ∧ Adds w w' := by
  cases hR : S.stR c <;> cases hW : S.stW c
  all_goals
    go_enter Try.func39, Try.ntmps39
    go_wp2_with (first | (go_at_call 43; refine (st_writes c _).mono ?_; rintro e w' ⟨rfl, ⟨⟨n1, os1⟩, rfl⟩⟩; rw [hW]) | (go_at_call 44; refine (st_reads c _).mono ?_; rintro e w' ⟨rfl, ⟨⟨n2, os2⟩, rfl⟩⟩; rw [hR]))
    go_ret
    exact ⟨ri (by simp [S.tr]), by (repeat (first | with_reducible exact Adds.refl _ | with_reducible apply Adds.drew | with_reducible apply Adds.drewN | with_reducible apply Adds.alloc | with_reducible apply Adds.more | (with_reducible refine Adds.setCell ?_ ?_ _) | (focus (simp [go_sem]; done)) | (focus (simp [go_sem]; omega))))⟩
theorem transferred_2 (c a d s : Int) (w : World) : Calls Try.prog 39 #[.agg #[.int .i64 c, .int .u16 a, .int .u8 d, .int .i64 s], .int .i64 2] w fun e w' => e = .returned (.int .u8 (S.tr c d 2)) ∧ Adds w w' := by
  cases hR : S.stR c <;> cases hW : S.stW c
  all_goals
    go_enter Try.func39, Try.ntmps39
    go_wp2_with (first | (go_at_call 43; refine (st_writes c _).mono ?_; rintro e w' ⟨rfl, ⟨⟨n1, os1⟩, rfl⟩⟩; rw [hW]) | (go_at_call 44; refine (st_reads c _).mono ?_; rintro e w' ⟨rfl, ⟨⟨n2, os2⟩, rfl⟩⟩; rw [hR]))
    go_ret
    exact ⟨ri (by simp [S.tr, hW]), by (repeat (first | with_reducible exact Adds.refl _ | with_reducible apply Adds.drew | with_reducible apply Adds.drewN | with_reducible apply Adds.alloc | with_reducible apply Adds.more | (with_reducible refine Adds.setCell ?_ ?_ _) | (focus (simp [go_sem]; done)) | (focus (simp [go_sem]; omega))))⟩
theorem transferred_3 (c a d s : Int) (w : World) : Calls Try.prog 39 #[.agg #[.int .i64 c, .int .u16 a, .int .u8 d, .int .i64 s], .int .i64 3] w fun e w' => e = .returned (.int .u8 (S.tr c d 3)) ∧ Adds w w' := by
  cases hR : S.stR c <;> cases hW : S.stW c
  all_goals
    go_enter Try.func39, Try.ntmps39
    go_wp2_with (first | (go_at_call 43; refine (st_writes c _).mono ?_; rintro e w' ⟨rfl, ⟨⟨n1, os1⟩, rfl⟩⟩; rw [hW]) | (go_at_call 44; refine (st_reads c _).mono ?_; rintro e w' ⟨rfl, ⟨⟨n2, os2⟩, rfl⟩⟩; rw [hR]))
    go_ret
    exact ⟨ri (by simp [S.tr, hR, hW]), by (repeat (first | with_reducible exact Adds.refl _ | with_reducible apply Adds.drew | with_reducible apply Adds.drewN | with_reducible apply Adds.alloc | with_reducible apply Adds.more | (with_reducible refine Adds.setCell ?_ ?_ _) | (focus (simp [go_sem]; done)) | (focus (simp [go_sem]; omega))))⟩
theorem transferred_4 (c a d s : Int) (w : World) : Calls Try.prog 39 #[.agg #[.int .i64 c, .int .u16 a, .int .u8 d, .int .i64 s], .int .i64 4] w fun e w' => e = .returned (.int .u8 (S.tr c d 4)) ∧ Adds w w' := by
  cases hR : S.stR c <;> cases hW : S.stW c
  all_goals
    go_enter Try.func39, Try.ntmps39
    go_wp2_with (first | (go_at_call 43; refine (st_writes c _).mono ?_; rintro e w' ⟨rfl, ⟨⟨n1, os1⟩, rfl⟩⟩; rw [hW]) | (go_at_call 44; refine (st_reads c _).mono ?_; rintro e w' ⟨rfl, ⟨⟨n2, os2⟩, rfl⟩⟩; rw [hR]))
    go_ret
    exact ⟨ri (by simp [S.tr]), by (repeat (first | with_reducible exact Adds.refl _ | with_reducible apply Adds.drew | with_reducible apply Adds.drewN | with_reducible apply Adds.alloc | with_reducible apply Adds.more | (with_reducible refine Adds.setCell ?_ ?_ _) | (focus (simp [go_sem]; done)) | (focus (simp [go_sem]; omega))))⟩
theorem transferred_5 (c a d s : Int) (w : World) : Calls Try.prog 39 #[.agg #[.int .i64 c, .int .u16 a, .int .u8 d, .int .i64 s], .int .i64 5] w fun e w' => e = .returned (.int .u8 (S.tr c d 5)) ∧ Adds w w' := by
  cases hR : S.stR c <;> cases hW : S.stW c
  all_goals
    go_enter Try.func39, Try.ntmps39
    go_wp2_with (first | (go_at_call 43; refine (st_writes c _).mono ?_; rintro e w' ⟨rfl, ⟨⟨n1, os1⟩, rfl⟩⟩; rw [hW]) | (go_at_call 44; refine (st_reads c _).mono ?_; rintro e w' ⟨rfl, ⟨⟨n2, os2⟩, rfl⟩⟩; rw [hR]))
    go_ret
    exact ⟨ri (by simp [S.tr]), by (repeat (first | with_reducible exact Adds.refl _ | with_reducible apply Adds.drew | with_reducible apply Adds.drewN | with_reducible apply Adds.alloc | with_reducible apply Adds.more | (with_reducible refine Adds.setCell ?_ ?_ _) | (focus (simp [go_sem]; done)) | (focus (simp [go_sem]; omega))))⟩
theorem transferred_6 (c a d s : Int) (w : World) : Calls Try.prog 39 #[.agg #[.int .i64 c, .int .u16 a, .int .u8 d, .int .i64 s], .int .i64 6] w fun e w' => e = .returned (.int .u8 (S.tr c d 6)) ∧ Adds w w' := by
  cases hR : S.stR c <;> cases hW : S.stW c
  all_goals
    go_enter Try.func39, Try.ntmps39
    go_wp2_with (first | (go_at_call 43; refine (st_writes c _).mono ?_; rintro e w' ⟨rfl, ⟨⟨n1, os1⟩, rfl⟩⟩; rw [hW]) | (go_at_call 44; refine (st_reads c _).mono ?_; rintro e w' ⟨rfl, ⟨⟨n2, os2⟩, rfl⟩⟩; rw [hR]))
    go_ret
    exact ⟨ri (by simp [S.tr]), by (repeat (first | with_reducible exact Adds.refl _ | with_reducible apply Adds.drew | with_reducible apply Adds.drewN | with_reducible apply Adds.alloc | with_reducible apply Adds.more | (with_reducible refine Adds.setCell ?_ ?_ _) | (focus (simp [go_sem]; done)) | (focus (simp [go_sem]; omega))))⟩
theorem transferred_7 (c a d s : Int) (w : World) : Calls Try.prog 39 #[.agg #[.int .i64 c, .int .u16 a, .int .u8 d, .int .i64 s], .int .i64 7] w fun e w' => e = .returned (.int .u8 (S.tr c d 7)) ∧ Adds w w' := by
  cases hR : S.stR c <;> cases hW : S.stW c
  all_goals
    go_enter Try.func39, Try.ntmps39
    go_wp2_with (first | (go_at_call 43; refine (st_writes c _).mono ?_; rintro e w' ⟨rfl, ⟨⟨n1, os1⟩, rfl⟩⟩; rw [hW]) | (go_at_call 44; refine (st_reads c _).mono ?_; rintro e w' ⟨rfl, ⟨⟨n2, os2⟩, rfl⟩⟩; rw [hR]))
    go_ret
    exact ⟨ri (by simp [S.tr, hW]), by (repeat (first | with_reducible exact Adds.refl _ | with_reducible apply Adds.drew | with_reducible apply Adds.drewN | with_reducible apply Adds.alloc | with_reducible apply Adds.more | (with_reducible refine Adds.setCell ?_ ?_ _) | (focus (simp [go_sem]; done)) | (focus (simp [go_sem]; omega))))⟩
theorem transferred_8 (c a d s : Int) (w : World) : Calls Try.prog 39 #[.agg #[.int .i64 c, .int .u16 a, .int .u8 d, .int .i64 s], .int .i64 8] w fun e w' => e = .returned (.int .u8 (S.tr c d 8)) ∧ Adds w w' := by
  cases hR : S.stR c <;> cases hW : S.stW c
  all_goals
    go_enter Try.func39, Try.ntmps39
    go_wp2_with (first | (go_at_call 43; refine (st_writes c _).mono ?_; rintro e w' ⟨rfl, ⟨⟨n1, os1⟩, rfl⟩⟩; rw [hW]) | (go_at_call 44; refine (st_reads c _).mono ?_; rintro e w' ⟨rfl, ⟨⟨n2, os2⟩, rfl⟩⟩; rw [hR]))
    go_ret
    exact ⟨ri (by simp [S.tr]), by (repeat (first | with_reducible exact Adds.refl _ | with_reducible apply Adds.drew | with_reducible apply Adds.drewN | with_reducible apply Adds.alloc | with_reducible apply Adds.more | (with_reducible refine Adds.setCell ?_ ?_ _) | (focus (simp [go_sem]; done)) | (focus (simp [go_sem]; omega))))⟩
theorem transferred_9 (c a d s : Int) (w : World) : Calls Try.prog 39 #[.agg #[.int .i64 c, .int .u16 a, .int .u8 d, .int .i64 s], .int .i64 9] w fun e w' => e = .returned (.int .u8 (S.tr c d 9)) ∧ Adds w w' := by
  cases hR : S.stR c <;> cases hW : S.stW c
  all_goals
    go_enter Try.func39, Try.ntmps39
    go_wp2_with (first | (go_at_call 43; refine (st_writes c _).mono ?_; rintro e w' ⟨rfl, ⟨⟨n1, os1⟩, rfl⟩⟩; rw [hW]) | (go_at_call 44; refine (st_reads c _).mono ?_; rintro e w' ⟨rfl, ⟨⟨n2, os2⟩, rfl⟩⟩; rw [hR]))
    go_ret
    exact ⟨ri (by simp [S.tr]), by (repeat (first | with_reducible exact Adds.refl _ | with_reducible apply Adds.drew | with_reducible apply Adds.drewN | with_reducible apply Adds.alloc | with_reducible apply Adds.more | (with_reducible refine Adds.setCell ?_ ?_ _) | (focus (simp [go_sem]; done)) | (focus (simp [go_sem]; omega))))⟩
theorem transferred_10 (c a d s : Int) (w : World) : Calls Try.prog 39 #[.agg #[.int .i64 c, .int .u16 a, .int .u8 d, .int .i64 s], .int .i64 10] w fun e w' => e = .returned (.int .u8 (S.tr c d 10)) ∧ Adds w w' := by
  cases hR : S.stR c <;> cases hW : S.stW c
  all_goals
    go_enter Try.func39, Try.ntmps39
    go_wp2_with (first | (go_at_call 43; refine (st_writes c _).mono ?_; rintro e w' ⟨rfl, ⟨⟨n1, os1⟩, rfl⟩⟩; rw [hW]) | (go_at_call 44; refine (st_reads c _).mono ?_; rintro e w' ⟨rfl, ⟨⟨n2, os2⟩, rfl⟩⟩; rw [hR]))
    go_ret
    exact ⟨ri (by simp [S.tr]), by (repeat (first | with_reducible exact Adds.refl _ | with_reducible apply Adds.drew | with_reducible apply Adds.drewN | with_reducible apply Adds.alloc | with_reducible apply Adds.more | (with_reducible refine Adds.setCell ?_ ?_ _) | (focus (simp [go_sem]; done)) | (focus (simp [go_sem]; omega))))⟩
end Go.Proofs.Ytfhnfakjjfjohaa
