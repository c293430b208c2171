/- The reference's decimal adjustment, on the 8080: it returns the plain functions' values and leaves what was there alone. Conditions: bytes are from 0 to 255. -/
import Derived.Test.YthjlegljhflejaaC3q
import Derived.Test.YthjlegljhflejaaS6
namespace Go.Proofs.Ythjlegljhflejaa
open Go.ChangeShapes Go.WideShapes Go.ChangeAt Go.RowKit
set_option linter.unusedVariables false
set_option maxHeartbeats 1000000 in
theorem rdaa80_0 (c : Int) (hc : ¬c = 2) (a : Int) (s z k ac p v cy : Bool) (a0 : 0 ≤ a) (a1 : a < 256) (ho : (ac = true)) (hi : (cy = true)) (w : World) : Calls Try.prog 8 #[.int .i64 c, .int .u8 a, .agg #[.bool s, .bool z, .bool k, .bool ac, .bool p, .bool v, .bool cy]] w fun e w' => e = .returned (.tuple #[.int .u8 (S.sumR a 102 false), .agg #[.bool (S.has (S.sumR a 102 false) 7), .bool ((S.sumR a 102 false) == 0), .bool false, .bool (S.sumH a 102 false), .bool (S.par (S.sumR a 102 false)), .bool false, .bool true]]) ∧ Adds w w' := by
  obtain rfl := ho
  obtain rfl := hi
  obtain ⟨r0, r1⟩ := S.sumR_bd a 102 false
  go_enter Try.func8, Try.ntmps8
  go_wp2_with (first | (go_at_call 20; refine (rsum_any _ _ _ a0 a1 (by decide) (by decide) _).mono ?_; rintro e w' ⟨rfl, rfl⟩) | (go_at_call 21; refine (rof_any _ r0 r1 _).mono ?_; rintro e w' ⟨rfl, ⟨⟨n1, os1⟩, rfl⟩⟩))
  go_region_with (first | (go_at_call 23; refine (rmajority_any _ _ _ _).mono ?_; rintro e w' ⟨rfl, rfl⟩) | (go_at_call 22; refine (ronly80 _ hc _ _ _ _ _ _ _ _ _ _).mono ?_; rintro e w' ⟨rfl, ⟨⟨n2, os2⟩, rfl⟩⟩))
  all_goals go_wp2_with fail
  all_goals exact bodyPost_ret (v := .tuple #[.int .u8 (S.sumR a 102 false), .agg #[.bool (S.has (S.sumR a 102 false) 7), .bool ((S.sumR a 102 false) == 0), .bool false, .bool (S.sumH a 102 false), .bool (S.par (S.sumR a 102 false)), .bool false, .bool true]]) (by simp [results, Try.results8, go_sem, S.big]) rfl ⟨rfl, by (repeat (first | with_reducible exact Adds.refl _ | with_reducible apply Adds.drew | with_reducible apply Adds.drewN | with_reducible apply Adds.alloc | with_reducible apply Adds.more | (with_reducible refine Adds.setCell ?_ ?_ _) | (focus (simp [go_sem]; done)) | (focus (simp [go_sem]; omega))))⟩
set_option maxHeartbeats 1000000 in
theorem rdaa80_1 (c : Int) (hc : ¬c = 2) (a : Int) (s z k ac p v cy : Bool) (a0 : 0 ≤ a) (a1 : a < 256) (ho : (ac = true)) (hi : (cy = false ∧ 153 < a)) (w : World) : Calls Try.prog 8 #[.int .i64 c, .int .u8 a, .agg #[.bool s, .bool z, .bool k, .bool ac, .bool p, .bool v, .bool cy]] w fun e w' => e = .returned (.tuple #[.int .u8 (S.sumR a 102 false), .agg #[.bool (S.has (S.sumR a 102 false) 7), .bool ((S.sumR a 102 false) == 0), .bool false, .bool (S.sumH a 102 false), .bool (S.par (S.sumR a 102 false)), .bool false, .bool true]]) ∧ Adds w w' := by
  obtain rfl := ho
  obtain ⟨rfl, hh⟩ := hi
  obtain ⟨r0, r1⟩ := S.sumR_bd a 102 false
  go_enter Try.func8, Try.ntmps8
  go_wp2_with (first | (go_at_call 20; refine (rsum_any _ _ _ a0 a1 (by decide) (by decide) _).mono ?_; rintro e w' ⟨rfl, rfl⟩) | (go_at_call 21; refine (rof_any _ r0 r1 _).mono ?_; rintro e w' ⟨rfl, ⟨⟨n1, os1⟩, rfl⟩⟩))
  go_region_with (first | (go_at_call 23; refine (rmajority_any _ _ _ _).mono ?_; rintro e w' ⟨rfl, rfl⟩) | (go_at_call 22; refine (ronly80 _ hc _ _ _ _ _ _ _ _ _ _).mono ?_; rintro e w' ⟨rfl, ⟨⟨n2, os2⟩, rfl⟩⟩))
  all_goals go_wp2_with fail
  all_goals exact bodyPost_ret (v := .tuple #[.int .u8 (S.sumR a 102 false), .agg #[.bool (S.has (S.sumR a 102 false) 7), .bool ((S.sumR a 102 false) == 0), .bool false, .bool (S.sumH a 102 false), .bool (S.par (S.sumR a 102 false)), .bool false, .bool true]]) (by simp [results, Try.results8, go_sem, S.big]) rfl ⟨rfl, by (repeat (first | with_reducible exact Adds.refl _ | with_reducible apply Adds.drew | with_reducible apply Adds.drewN | with_reducible apply Adds.alloc | with_reducible apply Adds.more | (with_reducible refine Adds.setCell ?_ ?_ _) | (focus (simp [go_sem]; done)) | (focus (simp [go_sem]; omega))))⟩
set_option maxHeartbeats 1000000 in
theorem rdaa80_2 (c : Int) (hc : ¬c = 2) (a : Int) (s z k ac p v cy : Bool) (a0 : 0 ≤ a) (a1 : a < 256) (ho : (ac = true)) (hi : (cy = false ∧ ¬153 < a)) (w : World) : Calls Try.prog 8 #[.int .i64 c, .int .u8 a, .agg #[.bool s, .bool z, .bool k, .bool ac, .bool p, .bool v, .bool cy]] w fun e w' => e = .returned (.tuple #[.int .u8 (S.sumR a 6 false), .agg #[.bool (S.has (S.sumR a 6 false) 7), .bool ((S.sumR a 6 false) == 0), .bool false, .bool (S.sumH a 6 false), .bool (S.par (S.sumR a 6 false)), .bool false, .bool false]]) ∧ Adds w w' := by
  obtain rfl := ho
  obtain ⟨rfl, hh⟩ := hi
  obtain ⟨r0, r1⟩ := S.sumR_bd a 6 false
  go_enter Try.func8, Try.ntmps8
  go_wp2_with (first | (go_at_call 20; refine (rsum_any _ _ _ a0 a1 (by decide) (by decide) _).mono ?_; rintro e w' ⟨rfl, rfl⟩) | (go_at_call 21; refine (rof_any _ r0 r1 _).mono ?_; rintro e w' ⟨rfl, ⟨⟨n1, os1⟩, rfl⟩⟩))
  go_region_with (first | (go_at_call 23; refine (rmajority_any _ _ _ _).mono ?_; rintro e w' ⟨rfl, rfl⟩) | (go_at_call 22; refine (ronly80 _ hc _ _ _ _ _ _ _ _ _ _).mono ?_; rintro e w' ⟨rfl, ⟨⟨n2, os2⟩, rfl⟩⟩))
  all_goals go_wp2_with fail
  all_goals exact bodyPost_ret (v := .tuple #[.int .u8 (S.sumR a 6 false), .agg #[.bool (S.has (S.sumR a 6 false) 7), .bool ((S.sumR a 6 false) == 0), .bool false, .bool (S.sumH a 6 false), .bool (S.par (S.sumR a 6 false)), .bool false, .bool false]]) (by simp [results, Try.results8, go_sem, S.big]) rfl ⟨rfl, by (repeat (first | with_reducible exact Adds.refl _ | with_reducible apply Adds.drew | with_reducible apply Adds.drewN | with_reducible apply Adds.alloc | with_reducible apply Adds.more | (with_reducible refine Adds.setCell ?_ ?_ _) | (focus (simp [go_sem]; done)) | (focus (simp [go_sem]; omega))))⟩
set_option maxHeartbeats 1000000 in
theorem rdaa80_3 (c : Int) (hc : ¬c = 2) (a : Int) (s z k ac p v cy : Bool) (a0 : 0 ≤ a) (a1 : a < 256) (ho : (ac = false ∧ 9 < a % 16)) (hi : (cy = true)) (w : World) : Calls Try.prog 8 #[.int .i64 c, .int .u8 a, .agg #[.bool s, .bool z, .bool k, .bool ac, .bool p, .bool v, .bool cy]] w fun e w' => e = .returned (.tuple #[.int .u8 (S.sumR a 102 false), .agg #[.bool (S.has (S.sumR a 102 false) 7), .bool ((S.sumR a 102 false) == 0), .bool false, .bool (S.sumH a 102 false), .bool (S.par (S.sumR a 102 false)), .bool false, .bool true]]) ∧ Adds w w' := by
  obtain ⟨rfl, hl⟩ := ho
  obtain rfl := hi
  obtain ⟨r0, r1⟩ := S.sumR_bd a 102 false
  go_enter Try.func8, Try.ntmps8
  go_wp2_with (first | (go_at_call 20; refine (rsum_any _ _ _ a0 a1 (by decide) (by decide) _).mono ?_; rintro e w' ⟨rfl, rfl⟩) | (go_at_call 21; refine (rof_any _ r0 r1 _).mono ?_; rintro e w' ⟨rfl, ⟨⟨n1, os1⟩, rfl⟩⟩))
  go_region_with (first | (go_at_call 23; refine (rmajority_any _ _ _ _).mono ?_; rintro e w' ⟨rfl, rfl⟩) | (go_at_call 22; refine (ronly80 _ hc _ _ _ _ _ _ _ _ _ _).mono ?_; rintro e w' ⟨rfl, ⟨⟨n2, os2⟩, rfl⟩⟩))
  all_goals go_wp2_with fail
  all_goals exact bodyPost_ret (v := .tuple #[.int .u8 (S.sumR a 102 false), .agg #[.bool (S.has (S.sumR a 102 false) 7), .bool ((S.sumR a 102 false) == 0), .bool false, .bool (S.sumH a 102 false), .bool (S.par (S.sumR a 102 false)), .bool false, .bool true]]) (by simp [results, Try.results8, go_sem, S.big]) rfl ⟨rfl, by (repeat (first | with_reducible exact Adds.refl _ | with_reducible apply Adds.drew | with_reducible apply Adds.drewN | with_reducible apply Adds.alloc | with_reducible apply Adds.more | (with_reducible refine Adds.setCell ?_ ?_ _) | (focus (simp [go_sem]; done)) | (focus (simp [go_sem]; omega))))⟩
set_option maxHeartbeats 1000000 in
theorem rdaa80_4 (c : Int) (hc : ¬c = 2) (a : Int) (s z k ac p v cy : Bool) (a0 : 0 ≤ a) (a1 : a < 256) (ho : (ac = false ∧ 9 < a % 16)) (hi : (cy = false ∧ 153 < a)) (w : World) : Calls Try.prog 8 #[.int .i64 c, .int .u8 a, .agg #[.bool s, .bool z, .bool k, .bool ac, .bool p, .bool v, .bool cy]] w fun e w' => e = .returned (.tuple #[.int .u8 (S.sumR a 102 false), .agg #[.bool (S.has (S.sumR a 102 false) 7), .bool ((S.sumR a 102 false) == 0), .bool false, .bool (S.sumH a 102 false), .bool (S.par (S.sumR a 102 false)), .bool false, .bool true]]) ∧ Adds w w' := by
  obtain ⟨rfl, hl⟩ := ho
  obtain ⟨rfl, hh⟩ := hi
  obtain ⟨r0, r1⟩ := S.sumR_bd a 102 false
  go_enter Try.func8, Try.ntmps8
  go_wp2_with (first | (go_at_call 20; refine (rsum_any _ _ _ a0 a1 (by decide) (by decide) _).mono ?_; rintro e w' ⟨rfl, rfl⟩) | (go_at_call 21; refine (rof_any _ r0 r1 _).mono ?_; rintro e w' ⟨rfl, ⟨⟨n1, os1⟩, rfl⟩⟩))
  go_region_with (first | (go_at_call 23; refine (rmajority_any _ _ _ _).mono ?_; rintro e w' ⟨rfl, rfl⟩) | (go_at_call 22; refine (ronly80 _ hc _ _ _ _ _ _ _ _ _ _).mono ?_; rintro e w' ⟨rfl, ⟨⟨n2, os2⟩, rfl⟩⟩))
  all_goals go_wp2_with fail
  all_goals exact bodyPost_ret (v := .tuple #[.int .u8 (S.sumR a 102 false), .agg #[.bool (S.has (S.sumR a 102 false) 7), .bool ((S.sumR a 102 false) == 0), .bool false, .bool (S.sumH a 102 false), .bool (S.par (S.sumR a 102 false)), .bool false, .bool true]]) (by simp [results, Try.results8, go_sem, S.big]) rfl ⟨rfl, by (repeat (first | with_reducible exact Adds.refl _ | with_reducible apply Adds.drew | with_reducible apply Adds.drewN | with_reducible apply Adds.alloc | with_reducible apply Adds.more | (with_reducible refine Adds.setCell ?_ ?_ _) | (focus (simp [go_sem]; done)) | (focus (simp [go_sem]; omega))))⟩
set_option maxHeartbeats 1000000 in
theorem rdaa80_5 (c : Int) (hc : ¬c = 2) (a : Int) (s z k ac p v cy : Bool) (a0 : 0 ≤ a) (a1 : a < 256) (ho : (ac = false ∧ 9 < a % 16)) (hi : (cy = false ∧ ¬153 < a)) (w : World) : Calls Try.prog 8 #[.int .i64 c, .int .u8 a, .agg #[.bool s, .bool z, .bool k, .bool ac, .bool p, .bool v, .bool cy]] w fun e w' => e = .returned (.tuple #[.int .u8 (S.sumR a 6 false), .agg #[.bool (S.has (S.sumR a 6 false) 7), .bool ((S.sumR a 6 false) == 0), .bool false, .bool (S.sumH a 6 false), .bool (S.par (S.sumR a 6 false)), .bool false, .bool false]]) ∧ Adds w w' := by
  obtain ⟨rfl, hl⟩ := ho
  obtain ⟨rfl, hh⟩ := hi
  obtain ⟨r0, r1⟩ := S.sumR_bd a 6 false
  go_enter Try.func8, Try.ntmps8
  go_wp2_with (first | (go_at_call 20; refine (rsum_any _ _ _ a0 a1 (by decide) (by decide) _).mono ?_; rintro e w' ⟨rfl, rfl⟩) | (go_at_call 21; refine (rof_any _ r0 r1 _).mono ?_; rintro e w' ⟨rfl, ⟨⟨n1, os1⟩, rfl⟩⟩))
  go_region_with (first | (go_at_call 23; refine (rmajority_any _ _ _ _).mono ?_; rintro e w' ⟨rfl, rfl⟩) | (go_at_call 22; refine (ronly80 _ hc _ _ _ _ _ _ _ _ _ _).mono ?_; rintro e w' ⟨rfl, ⟨⟨n2, os2⟩, rfl⟩⟩))
  all_goals go_wp2_with fail
  all_goals exact bodyPost_ret (v := .tuple #[.int .u8 (S.sumR a 6 false), .agg #[.bool (S.has (S.sumR a 6 false) 7), .bool ((S.sumR a 6 false) == 0), .bool false, .bool (S.sumH a 6 false), .bool (S.par (S.sumR a 6 false)), .bool false, .bool false]]) (by simp [results, Try.results8, go_sem, S.big]) rfl ⟨rfl, by (repeat (first | with_reducible exact Adds.refl _ | with_reducible apply Adds.drew | with_reducible apply Adds.drewN | with_reducible apply Adds.alloc | with_reducible apply Adds.more | (with_reducible refine Adds.setCell ?_ ?_ _) | (focus (simp [go_sem]; done)) | (focus (simp [go_sem]; omega))))⟩
set_option maxHeartbeats 1000000 in
theorem rdaa80_6 (c : Int) (hc : ¬c = 2) (a : Int) (s z k ac p v cy : Bool) (a0 : 0 ≤ a) (a1 : a < 256) (ho : (ac = false ∧ ¬9 < a % 16)) (hi : (cy = true)) (w : World) : Calls Try.prog 8 #[.int .i64 c, .int .u8 a, .agg #[.bool s, .bool z, .bool k, .bool ac, .bool p, .bool v, .bool cy]] w fun e w' => e = .returned (.tuple #[.int .u8 (S.sumR a 96 false), .agg #[.bool (S.has (S.sumR a 96 false) 7), .bool ((S.sumR a 96 false) == 0), .bool false, .bool (S.sumH a 96 false), .bool (S.par (S.sumR a 96 false)), .bool false, .bool true]]) ∧ Adds w w' := by
  obtain ⟨rfl, hl⟩ := ho
  obtain rfl := hi
  obtain ⟨r0, r1⟩ := S.sumR_bd a 96 false
  go_enter Try.func8, Try.ntmps8
  go_wp2_with (first | (go_at_call 20; refine (rsum_any _ _ _ a0 a1 (by decide) (by decide) _).mono ?_; rintro e w' ⟨rfl, rfl⟩) | (go_at_call 21; refine (rof_any _ r0 r1 _).mono ?_; rintro e w' ⟨rfl, ⟨⟨n1, os1⟩, rfl⟩⟩))
  go_region_with (first | (go_at_call 23; refine (rmajority_any _ _ _ _).mono ?_; rintro e w' ⟨rfl, rfl⟩) | (go_at_call 22; refine (ronly80 _ hc _ _ _ _ _ _ _ _ _ _).mono ?_; rintro e w' ⟨rfl, ⟨⟨n2, os2⟩, rfl⟩⟩))
  all_goals go_wp2_with fail
  all_goals exact bodyPost_ret (v := .tuple #[.int .u8 (S.sumR a 96 false), .agg #[.bool (S.has (S.sumR a 96 false) 7), .bool ((S.sumR a 96 false) == 0), .bool false, .bool (S.sumH a 96 false), .bool (S.par (S.sumR a 96 false)), .bool false, .bool true]]) (by simp [results, Try.results8, go_sem, S.big]) rfl ⟨rfl, by (repeat (first | with_reducible exact Adds.refl _ | with_reducible apply Adds.drew | with_reducible apply Adds.drewN | with_reducible apply Adds.alloc | with_reducible apply Adds.more | (with_reducible refine Adds.setCell ?_ ?_ _) | (focus (simp [go_sem]; done)) | (focus (simp [go_sem]; omega))))⟩
set_option maxHeartbeats 1000000 in
theorem rdaa80_7 (c : Int) (hc : ¬c = 2) (a : Int) (s z k ac p v cy : Bool) (a0 : 0 ≤ a) (a1 : a < 256) (ho : (ac = false ∧ ¬9 < a % 16)) (hi : (cy = false ∧ 153 < a)) (w : World) : Calls Try.prog 8 #[.int .i64 c, .int .u8 a, .agg #[.bool s, .bool z, .bool k, .bool ac, .bool p, .bool v, .bool cy]] w fun e w' => e = .returned (.tuple #[.int .u8 (S.sumR a 96 false), .agg #[.bool (S.has (S.sumR a 96 false) 7), .bool ((S.sumR a 96 false) == 0), .bool false, .bool (S.sumH a 96 false), .bool (S.par (S.sumR a 96 false)), .bool false, .bool true]]) ∧ Adds w w' := by
  obtain ⟨rfl, hl⟩ := ho
  obtain ⟨rfl, hh⟩ := hi
  obtain ⟨r0, r1⟩ := S.sumR_bd a 96 false
  go_enter Try.func8, Try.ntmps8
  go_wp2_with (first | (go_at_call 20; refine (rsum_any _ _ _ a0 a1 (by decide) (by decide) _).mono ?_; rintro e w' ⟨rfl, rfl⟩) | (go_at_call 21; refine (rof_any _ r0 r1 _).mono ?_; rintro e w' ⟨rfl, ⟨⟨n1, os1⟩, rfl⟩⟩))
  go_region_with (first | (go_at_call 23; refine (rmajority_any _ _ _ _).mono ?_; rintro e w' ⟨rfl, rfl⟩) | (go_at_call 22; refine (ronly80 _ hc _ _ _ _ _ _ _ _ _ _).mono ?_; rintro e w' ⟨rfl, ⟨⟨n2, os2⟩, rfl⟩⟩))
  all_goals go_wp2_with fail
  all_goals exact bodyPost_ret (v := .tuple #[.int .u8 (S.sumR a 96 false), .agg #[.bool (S.has (S.sumR a 96 false) 7), .bool ((S.sumR a 96 false) == 0), .bool false, .bool (S.sumH a 96 false), .bool (S.par (S.sumR a 96 false)), .bool false, .bool true]]) (by simp [results, Try.results8, go_sem, S.big]) rfl ⟨rfl, by (repeat (first | with_reducible exact Adds.refl _ | with_reducible apply Adds.drew | with_reducible apply Adds.drewN | with_reducible apply Adds.alloc | with_reducible apply Adds.more | (with_reducible refine Adds.setCell ?_ ?_ _) | (focus (simp [go_sem]; done)) | (focus (simp [go_sem]; omega))))⟩
set_option maxHeartbeats 1000000 in
theorem rdaa80_8 (c : Int) (hc : ¬c = 2) (a : Int) (s z k ac p v cy : Bool) (a0 : 0 ≤ a) (a1 : a < 256) (ho : (ac = false ∧ ¬9 < a % 16)) (hi : (cy = false ∧ ¬153 < a)) (w : World) : Calls Try.prog 8 #[.int .i64 c, .int .u8 a, .agg #[.bool s, .bool z, .bool k, .bool ac, .bool p, .bool v, .bool cy]] w fun e w' => e = .returned (.tuple #[.int .u8 (S.sumR a 0 false), .agg #[.bool (S.has (S.sumR a 0 false) 7), .bool ((S.sumR a 0 false) == 0), .bool false, .bool (S.sumH a 0 false), .bool (S.par (S.sumR a 0 false)), .bool false, .bool false]]) ∧ Adds w w' := by
  obtain ⟨rfl, hl⟩ := ho
  obtain ⟨rfl, hh⟩ := hi
  obtain ⟨r0, r1⟩ := S.sumR_bd a 0 false
  go_enter Try.func8, Try.ntmps8
  go_wp2_with (first | (go_at_call 20; refine (rsum_any _ _ _ a0 a1 (by decide) (by decide) _).mono ?_; rintro e w' ⟨rfl, rfl⟩) | (go_at_call 21; refine (rof_any _ r0 r1 _).mono ?_; rintro e w' ⟨rfl, ⟨⟨n1, os1⟩, rfl⟩⟩))
  go_region_with (first | (go_at_call 23; refine (rmajority_any _ _ _ _).mono ?_; rintro e w' ⟨rfl, rfl⟩) | (go_at_call 22; refine (ronly80 _ hc _ _ _ _ _ _ _ _ _ _).mono ?_; rintro e w' ⟨rfl, ⟨⟨n2, os2⟩, rfl⟩⟩))
  all_goals go_wp2_with fail
  all_goals exact bodyPost_ret (v := .tuple #[.int .u8 (S.sumR a 0 false), .agg #[.bool (S.has (S.sumR a 0 false) 7), .bool ((S.sumR a 0 false) == 0), .bool false, .bool (S.sumH a 0 false), .bool (S.par (S.sumR a 0 false)), .bool false, .bool false]]) (by simp [results, Try.results8, go_sem, S.big]) rfl ⟨rfl, by (repeat (first | with_reducible exact Adds.refl _ | with_reducible apply Adds.drew | with_reducible apply Adds.drewN | with_reducible apply Adds.alloc | with_reducible apply Adds.more | (with_reducible refine Adds.setCell ?_ ?_ _) | (focus (simp [go_sem]; done)) | (focus (simp [go_sem]; omega))))⟩
theorem rdaa80 (c : Int) (hc : ¬c = 2) (a : Int) (s z k ac p v cy : Bool) (a0 : 0 ≤ a) (a1 : a < 256) (w : World) : Calls Try.prog 8 #[.int .i64 c, .int .u8 a, .agg #[.bool s, .bool z, .bool k, .bool ac, .bool p, .bool v, .bool cy]] w fun e w' => e = .returned (.tuple #[.int .u8 (S.sumR a (S.dX a ac cy) false), .agg #[.bool (S.has (S.sumR a (S.dX a ac cy) false) 7), .bool ((S.sumR a (S.dX a ac cy) false) == 0), .bool false, .bool (S.sumH a (S.dX a ac cy) false), .bool (S.par (S.sumR a (S.dX a ac cy) false)), .bool false, .bool (S.dH a cy)]]) ∧ Adds w w' := by
  have key : ∀ (lo hi : Bool) (x : Int), (ac || decide (9 < a % 16)) = lo → (cy || decide (153 < a)) = hi → x = (if lo then 6 else 0) + (if hi then 96 else 0) → S.dX a ac cy = x ∧ S.dH a cy = hi := by
    intro lo hi x h1 h2 h3
    unfold S.dX S.dH
    rw [h1, h2, h3]
    exact ⟨rfl, rfl⟩
  rcases (by cases ac <;> simp <;> omega : ac = true ∨ (ac = false ∧ 9 < a % 16) ∨ (ac = false ∧ ¬9 < a % 16)) with ho | ho | ho
  all_goals rcases (by cases cy <;> simp <;> omega : cy = true ∨ (cy = false ∧ 153 < a) ∨ (cy = false ∧ ¬153 < a)) with hi | hi | hi
  · obtain ⟨e1, e2⟩ := key true true 102 (by simp [ho]) (by simp [hi]) rfl
    rw [e1, e2]
    exact rdaa80_0 c hc a s z k ac p v cy a0 a1 ho hi w
  · obtain ⟨e1, e2⟩ := key true true 102 (by simp [ho]) (by simp [hi]) rfl
    rw [e1, e2]
    exact rdaa80_1 c hc a s z k ac p v cy a0 a1 ho hi w
  · obtain ⟨e1, e2⟩ := key true false 6 (by simp [ho]) (by simp [hi]) rfl
    rw [e1, e2]
    exact rdaa80_2 c hc a s z k ac p v cy a0 a1 ho hi w
  · obtain ⟨e1, e2⟩ := key true true 102 (by simp [ho]) (by simp [hi]) rfl
    rw [e1, e2]
    exact rdaa80_3 c hc a s z k ac p v cy a0 a1 ho hi w
  · obtain ⟨e1, e2⟩ := key true true 102 (by simp [ho]) (by simp [hi]) rfl
    rw [e1, e2]
    exact rdaa80_4 c hc a s z k ac p v cy a0 a1 ho hi w
  · obtain ⟨e1, e2⟩ := key true false 6 (by simp [ho]) (by simp [hi]) rfl
    rw [e1, e2]
    exact rdaa80_5 c hc a s z k ac p v cy a0 a1 ho hi w
  · obtain ⟨e1, e2⟩ := key false true 96 (by simp [ho]) (by simp [hi]) rfl
    rw [e1, e2]
    exact rdaa80_6 c hc a s z k ac p v cy a0 a1 ho hi w
  · obtain ⟨e1, e2⟩ := key false true 96 (by simp [ho]) (by simp [hi]) rfl
    rw [e1, e2]
    exact rdaa80_7 c hc a s z k ac p v cy a0 a1 ho hi w
  · obtain ⟨e1, e2⟩ := key false false 0 (by simp [ho]) (by simp [hi]) rfl
    rw [e1, e2]
    exact rdaa80_8 c hc a s z k ac p v cy a0 a1 ho hi w
end Go.Proofs.Ythjlegljhflejaa
