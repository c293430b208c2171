/- Contracts of package count and of the reference's chapter 4: each returns the plain functions' values and leaves what was there alone. Conditions: bytes are from 0 to 255, words from 0 to 65535. -/
import Derived.Test.YtjidnblfpgiljaaC3q
import Derived.Test.YtjidnblfpgiljaaS4
namespace Go.Proofs.Ytjidnblfpgiljaa
open Go.ChangeShapes Go.WideShapes Go.ChangeAt Go.RowKit
set_option linter.unusedVariables false
theorem csign_any (a : Int) (w : World) : Calls Try.prog 35 #[.int .u8 a] w fun e w' => e = .returned (.bool (S.big a)) ∧ w = w' := by
  go_enter Try.func35, Try.ntmps35
  go_wp2
  go_ret
  exact ⟨rfl, rfl⟩
theorem stepped_any (c v r : Int) (d h o cy : Bool) (r0 : 0 ≤ r) (r1 : r < 256) (w : World) : Calls Try.prog 19 #[.int .i64 c, .int .u8 v, .int .u8 r, .bool d, .bool h, .bool o, .bool cy] w fun e w' => e = .returned (.agg #[.bool (S.has r 7), .bool (r == 0), .bool (S.nK c v d r), .bool h, .bool (S.par r), .bool (S.nV c o), .bool cy]) ∧ Adds w w' := by
  by_cases hc : c = 2
  · subst hc
    rw [S.nK85, S.nV85]
    go_enter Try.func19, Try.ntmps19
    go_wp2_with (first | (go_at_call 33; refine (of_any _ r0 r1 _).mono ?_; rintro e w' ⟨rfl, ⟨⟨n1, os1⟩, rfl⟩⟩) | (go_at_call 35; refine (csign_any _ _).mono ?_; rintro e w' ⟨rfl, rfl⟩) | (go_at_call 34; refine (majority_any _ _ _ _).mono ?_; rintro e w' ⟨rfl, rfl⟩))
    exact bodyPost_ret (v := .agg #[.bool (S.has r 7), .bool (r == 0), .bool (S.maj (S.big v) d (S.big r)), .bool h, .bool (S.par r), .bool o, .bool cy]) (by simp [results, Try.results19, go_sem]) rfl ⟨rfl, by (repeat (first | with_reducible exact Adds.refl _ | with_reducible apply Adds.drew | with_reducible apply Adds.drewN | with_reducible apply Adds.alloc | with_reducible apply Adds.more | (with_reducible refine Adds.setCell ?_ ?_ _) | (focus (simp [go_sem]; done)) | (focus (simp [go_sem]; omega))))⟩
  · rw [S.nK80 hc, S.nV80 hc]
    go_enter Try.func19, Try.ntmps19
    go_wp2_with (first | (go_at_call 33; refine (of_any _ r0 r1 _).mono ?_; rintro e w' ⟨rfl, ⟨⟨n1, os1⟩, rfl⟩⟩))
    exact bodyPost_ret (v := .agg #[.bool (S.has r 7), .bool (r == 0), .bool false, .bool h, .bool (S.par r), .bool false, .bool cy]) (by simp [results, Try.results19, go_sem]) rfl ⟨rfl, by (repeat (first | with_reducible exact Adds.refl _ | with_reducible apply Adds.drew | with_reducible apply Adds.drewN | with_reducible apply Adds.alloc | with_reducible apply Adds.more | (with_reducible refine Adds.setCell ?_ ?_ _) | (focus (simp [go_sem]; done)) | (focus (simp [go_sem]; omega))))⟩
set_option maxHeartbeats 1000000 in
theorem inr_any (c x : Int) (s z k ac p v cy : Bool) (x0 : 0 ≤ x) (x1 : x < 256) (w : World) : Calls Try.prog 7 #[.int .i64 c, .int .u8 x, .agg #[.bool s, .bool z, .bool k, .bool ac, .bool p, .bool v, .bool cy]] w fun e w' => e = .returned (.tuple #[.int .u8 (S.sumR x 1 false), .agg #[.bool (S.has (S.sumR x 1 false) 7), .bool ((S.sumR x 1 false) == 0), .bool (S.nK c x false (S.sumR x 1 false)), .bool (S.sumH x 1 false), .bool (S.par (S.sumR x 1 false)), .bool (S.nV c (S.sumV x 1 false)), .bool cy]]) ∧ Adds w w' := by
  obtain ⟨r0, r1⟩ := S.sumR_bd x 1 false
  go_enter Try.func7, Try.ntmps7
  go_wp2_with (first | (go_at_call 18; refine (sum_any _ _ _ x0 x1 (by decide) (by decide) _).mono ?_; rintro e w' ⟨rfl, rfl⟩) | (go_at_call 19; refine (stepped_any _ _ _ _ _ _ _ r0 r1 _).mono ?_; rintro e w' ⟨rfl, ⟨⟨n1, os1⟩, rfl⟩⟩))
  exact bodyPost_ret (v := .tuple #[.int .u8 (S.sumR x 1 false), .agg #[.bool (S.has (S.sumR x 1 false) 7), .bool ((S.sumR x 1 false) == 0), .bool (S.nK c x false (S.sumR x 1 false)), .bool (S.sumH x 1 false), .bool (S.par (S.sumR x 1 false)), .bool (S.nV c (S.sumV x 1 false)), .bool cy]]) (by simp [results, Try.results7, go_sem]) rfl ⟨rfl, by (repeat (first | with_reducible exact Adds.refl _ | with_reducible apply Adds.drew | with_reducible apply Adds.drewN | with_reducible apply Adds.alloc | with_reducible apply Adds.more | (with_reducible refine Adds.setCell ?_ ?_ _) | (focus (simp [go_sem]; done)) | (focus (simp [go_sem]; omega))))⟩
set_option maxHeartbeats 1000000 in
theorem dcr_any (c x : Int) (s z k ac p v cy : Bool) (x0 : 0 ≤ x) (x1 : x < 256) (w : World) : Calls Try.prog 9 #[.int .i64 c, .int .u8 x, .agg #[.bool s, .bool z, .bool k, .bool ac, .bool p, .bool v, .bool cy]] w fun e w' => e = .returned (.tuple #[.int .u8 (S.difR x 1 false), .agg #[.bool (S.has (S.difR x 1 false) 7), .bool ((S.difR x 1 false) == 0), .bool (S.nK c x true (S.difR x 1 false)), .bool (S.difH x 1 false), .bool (S.par (S.difR x 1 false)), .bool (S.nV c (S.difV x 1 false)), .bool cy]]) ∧ Adds w w' := by
  obtain ⟨r0, r1⟩ := S.difR_bd x 1 false
  go_enter Try.func9, Try.ntmps9
  go_wp2_with (first | (go_at_call 24; refine (dif_any _ _ _ x0 x1 (by decide) (by decide) _).mono ?_; rintro e w' ⟨rfl, rfl⟩) | (go_at_call 19; refine (stepped_any _ _ _ _ _ _ _ r0 r1 _).mono ?_; rintro e w' ⟨rfl, ⟨⟨n1, os1⟩, rfl⟩⟩))
  exact bodyPost_ret (v := .tuple #[.int .u8 (S.difR x 1 false), .agg #[.bool (S.has (S.difR x 1 false) 7), .bool ((S.difR x 1 false) == 0), .bool (S.nK c x true (S.difR x 1 false)), .bool (S.difH x 1 false), .bool (S.par (S.difR x 1 false)), .bool (S.nV c (S.difV x 1 false)), .bool cy]]) (by simp [results, Try.results9, go_sem]) rfl ⟨rfl, by (repeat (first | with_reducible exact Adds.refl _ | with_reducible apply Adds.drew | with_reducible apply Adds.drewN | with_reducible apply Adds.alloc | with_reducible apply Adds.more | (with_reducible refine Adds.setCell ?_ ?_ _) | (focus (simp [go_sem]; done)) | (focus (simp [go_sem]; omega))))⟩
set_option maxHeartbeats 1000000 in
theorem rinr_any (c x : Int) (s z k ac p v cy : Bool) (x0 : 0 ≤ x) (x1 : x < 256) (w : World) : Calls Try.prog 8 #[.int .i64 c, .int .u8 x, .agg #[.bool s, .bool z, .bool k, .bool ac, .bool p, .bool v, .bool cy]] w fun e w' => e = .returned (.tuple #[.int .u8 (S.sumR x 1 false), .agg #[.bool (S.has (S.sumR x 1 false) 7), .bool ((S.sumR x 1 false) == 0), .bool (S.nK c x false (S.sumR x 1 false)), .bool (S.sumH x 1 false), .bool (S.par (S.sumR x 1 false)), .bool (S.nV c (S.sumV x 1 false)), .bool cy]]) ∧ Adds w w' := by
  obtain ⟨r0, r1⟩ := S.sumR_bd x 1 false
  by_cases hc : c = 2
  · subst hc
    rw [S.nK85, S.nV85]
    go_enter Try.func8, Try.ntmps8
    go_wp2_with (first | (go_at_call 20; refine (rsum_any _ _ _ x0 x1 (by decide) (by decide) _).mono ?_; rintro e w' ⟨rfl, rfl⟩) | (go_at_call 21; refine (rof_any _ r0 r1 _).mono ?_; rintro e w' ⟨rfl, ⟨⟨n1, os1⟩, rfl⟩⟩))
    go_region
    all_goals go_wp2_with fail
    go_region_with (first | (go_at_call 23; refine (rmajority_any _ _ _ _).mono ?_; rintro e w' ⟨rfl, rfl⟩) | (go_at_call 22; refine (ronly85 _ _ _ _ _ _ _ _ _ _).mono ?_; rintro e w' ⟨rfl, ⟨⟨n2, os2⟩, rfl⟩⟩))
    all_goals go_wp2_with fail
    all_goals exact bodyPost_ret (v := .tuple #[.int .u8 (S.sumR x 1 false), .agg #[.bool (S.has (S.sumR x 1 false) 7), .bool ((S.sumR x 1 false) == 0), .bool (S.maj (S.big x) false (S.big (S.sumR x 1 false))), .bool (S.sumH x 1 false), .bool (S.par (S.sumR x 1 false)), .bool (S.sumV x 1 false), .bool cy]]) (by simp [results, Try.results8, go_sem, S.big]) rfl ⟨rfl, by (repeat (first | with_reducible exact Adds.refl _ | with_reducible apply Adds.drew | with_reducible apply Adds.drewN | with_reducible apply Adds.alloc | with_reducible apply Adds.more | (with_reducible refine Adds.setCell ?_ ?_ _) | (focus (simp [go_sem]; done)) | (focus (simp [go_sem]; omega))))⟩
  · rw [S.nK80 hc, S.nV80 hc]
    go_enter Try.func8, Try.ntmps8
    go_wp2_with (first | (go_at_call 20; refine (rsum_any _ _ _ x0 x1 (by decide) (by decide) _).mono ?_; rintro e w' ⟨rfl, rfl⟩) | (go_at_call 21; refine (rof_any _ r0 r1 _).mono ?_; rintro e w' ⟨rfl, ⟨⟨n1, os1⟩, rfl⟩⟩))
    go_region
    all_goals go_wp2_with fail
    go_region_with (first | (go_at_call 23; refine (rmajority_any _ _ _ _).mono ?_; rintro e w' ⟨rfl, rfl⟩) | (go_at_call 22; refine (ronly80 _ hc _ _ _ _ _ _ _ _ _ _).mono ?_; rintro e w' ⟨rfl, ⟨⟨n2, os2⟩, rfl⟩⟩))
    all_goals go_wp2_with fail
    all_goals exact bodyPost_ret (v := .tuple #[.int .u8 (S.sumR x 1 false), .agg #[.bool (S.has (S.sumR x 1 false) 7), .bool ((S.sumR x 1 false) == 0), .bool false, .bool (S.sumH x 1 false), .bool (S.par (S.sumR x 1 false)), .bool false, .bool cy]]) (by simp [results, Try.results8, go_sem, S.big]) rfl ⟨rfl, by (repeat (first | with_reducible exact Adds.refl _ | with_reducible apply Adds.drew | with_reducible apply Adds.drewN | with_reducible apply Adds.alloc | with_reducible apply Adds.more | (with_reducible refine Adds.setCell ?_ ?_ _) | (focus (simp [go_sem]; done)) | (focus (simp [go_sem]; omega))))⟩
set_option maxHeartbeats 1000000 in
theorem rdcr_any (c x : Int) (s z k ac p v cy : Bool) (x0 : 0 ≤ x) (x1 : x < 256) (w : World) : Calls Try.prog 10 #[.int .i64 c, .int .u8 x, .agg #[.bool s, .bool z, .bool k, .bool ac, .bool p, .bool v, .bool cy]] w fun e w' => e = .returned (.tuple #[.int .u8 (S.difR x 1 false), .agg #[.bool (S.has (S.difR x 1 false) 7), .bool ((S.difR x 1 false) == 0), .bool (S.nK c x true (S.difR x 1 false)), .bool (S.difH x 1 false), .bool (S.par (S.difR x 1 false)), .bool (S.nV c (S.difV x 1 false)), .bool cy]]) ∧ Adds w w' := by
  obtain ⟨r0, r1⟩ := S.difR_bd x 1 false
  by_cases hc : c = 2
  · subst hc
    rw [S.nK85, S.nV85]
    go_enter Try.func10, Try.ntmps10
    go_wp2_with (first | (go_at_call 25; refine (rdif_any _ _ _ x0 x1 (by decide) (by decide) _).mono ?_; rintro e w' ⟨rfl, rfl⟩) | (go_at_call 21; refine (rof_any _ r0 r1 _).mono ?_; rintro e w' ⟨rfl, ⟨⟨n1, os1⟩, rfl⟩⟩))
    go_region
    all_goals go_wp2_with fail
    go_region_with (first | (go_at_call 23; refine (rmajority_any _ _ _ _).mono ?_; rintro e w' ⟨rfl, rfl⟩) | (go_at_call 22; refine (ronly85 _ _ _ _ _ _ _ _ _ _).mono ?_; rintro e w' ⟨rfl, ⟨⟨n2, os2⟩, rfl⟩⟩))
    all_goals go_wp2_with fail
    all_goals exact bodyPost_ret (v := .tuple #[.int .u8 (S.difR x 1 false), .agg #[.bool (S.has (S.difR x 1 false) 7), .bool ((S.difR x 1 false) == 0), .bool (S.maj (S.big x) true (S.big (S.difR x 1 false))), .bool (S.difH x 1 false), .bool (S.par (S.difR x 1 false)), .bool (S.difV x 1 false), .bool cy]]) (by simp [results, Try.results10, go_sem, S.big]) rfl ⟨rfl, by (repeat (first | with_reducible exact Adds.refl _ | with_reducible apply Adds.drew | with_reducible apply Adds.drewN | with_reducible apply Adds.alloc | with_reducible apply Adds.more | (with_reducible refine Adds.setCell ?_ ?_ _) | (focus (simp [go_sem]; done)) | (focus (simp [go_sem]; omega))))⟩
  · rw [S.nK80 hc, S.nV80 hc]
    go_enter Try.func10, Try.ntmps10
    go_wp2_with (first | (go_at_call 25; refine (rdif_any _ _ _ x0 x1 (by decide) (by decide) _).mono ?_; rintro e w' ⟨rfl, rfl⟩) | (go_at_call 21; refine (rof_any _ r0 r1 _).mono ?_; rintro e w' ⟨rfl, ⟨⟨n1, os1⟩, rfl⟩⟩))
    go_region
    all_goals go_wp2_with fail
    go_region_with (first | (go_at_call 23; refine (rmajority_any _ _ _ _).mono ?_; rintro e w' ⟨rfl, rfl⟩) | (go_at_call 22; refine (ronly80 _ hc _ _ _ _ _ _ _ _ _ _).mono ?_; rintro e w' ⟨rfl, ⟨⟨n2, os2⟩, rfl⟩⟩))
    all_goals go_wp2_with fail
    all_goals exact bodyPost_ret (v := .tuple #[.int .u8 (S.difR x 1 false), .agg #[.bool (S.has (S.difR x 1 false) 7), .bool ((S.difR x 1 false) == 0), .bool false, .bool (S.difH x 1 false), .bool (S.par (S.difR x 1 false)), .bool false, .bool cy]]) (by simp [results, Try.results10, go_sem, S.big]) rfl ⟨rfl, by (repeat (first | with_reducible exact Adds.refl _ | with_reducible apply Adds.drew | with_reducible apply Adds.drewN | with_reducible apply Adds.alloc | with_reducible apply Adds.more | (with_reducible refine Adds.setCell ?_ ?_ _) | (focus (simp [go_sem]; done)) | (focus (simp [go_sem]; omega))))⟩
theorem wrapped_any (c : Int) (s z k ac p v cy x : Bool) (w : World) : Calls Try.prog 26 #[.int .i64 c, .agg #[.bool s, .bool z, .bool k, .bool ac, .bool p, .bool v, .bool cy], .bool x] w fun e w' => e = .returned (.agg #[.bool s, .bool z, .bool (S.wK c x k), .bool ac, .bool p, .bool v, .bool cy]) ∧ Adds w w' := by
  by_cases hc : c = 2
  · subst hc
    rw [S.wK85]
    go_enter Try.func26, Try.ntmps26
    go_wp2_with fail
    exact bodyPost_ret (v := .agg #[.bool s, .bool z, .bool x, .bool ac, .bool p, .bool v, .bool cy]) (by simp [results, Try.results26, go_sem]) rfl ⟨rfl, by (repeat (first | with_reducible exact Adds.refl _ | with_reducible apply Adds.drew | with_reducible apply Adds.drewN | with_reducible apply Adds.alloc | with_reducible apply Adds.more | (with_reducible refine Adds.setCell ?_ ?_ _) | (focus (simp [go_sem]; done)) | (focus (simp [go_sem]; omega))))⟩
  · rw [S.wK80 hc]
    go_enter Try.func26, Try.ntmps26
    go_wp2_with fail
    exact bodyPost_ret (v := .agg #[.bool s, .bool z, .bool k, .bool ac, .bool p, .bool v, .bool cy]) (by simp [results, Try.results26, go_sem]) rfl ⟨rfl, by (repeat (first | with_reducible exact Adds.refl _ | with_reducible apply Adds.drew | with_reducible apply Adds.drewN | with_reducible apply Adds.alloc | with_reducible apply Adds.more | (with_reducible refine Adds.setCell ?_ ?_ _) | (focus (simp [go_sem]; done)) | (focus (simp [go_sem]; omega))))⟩
theorem inx_any (c x : Int) (s z k ac p v cy : Bool) (x0 : 0 ≤ x) (x1 : x < 65536) (w : World) : Calls Try.prog 12 #[.int .i64 c, .int .u16 x, .agg #[.bool s, .bool z, .bool k, .bool ac, .bool p, .bool v, .bool cy]] w fun e w' => e = .returned (.tuple #[.int .u16 (S.inc x), .agg #[.bool s, .bool z, .bool (S.wK c (x == 65535) k), .bool ac, .bool p, .bool v, .bool cy]]) ∧ Adds w w' := by
  have e1 := S.inc_wrap x
  have e2 := S.inc_lt x x0 x1
  go_enter Try.func12, Try.ntmps12
  go_wp2_with (first | (go_at_call 26; refine (wrapped_any _ _ _ _ _ _ _ _ _ _).mono ?_; rintro e w' ⟨rfl, ⟨⟨n1, os1⟩, rfl⟩⟩))
  exact bodyPost_ret (v := .tuple #[.int .u16 (S.inc x), .agg #[.bool s, .bool z, .bool (S.wK c (x == 65535) k), .bool ac, .bool p, .bool v, .bool cy]]) (by simp [results, Try.results12, go_sem]) rfl ⟨rfl, by (repeat (first | with_reducible exact Adds.refl _ | with_reducible apply Adds.drew | with_reducible apply Adds.drewN | with_reducible apply Adds.alloc | with_reducible apply Adds.more | (with_reducible refine Adds.setCell ?_ ?_ _) | (focus (simp [go_sem]; done)) | (focus (simp [go_sem]; omega))))⟩
theorem dcx_any (c x : Int) (s z k ac p v cy : Bool) (x0 : 0 ≤ x) (x1 : x < 65536) (w : World) : Calls Try.prog 14 #[.int .i64 c, .int .u16 x, .agg #[.bool s, .bool z, .bool k, .bool ac, .bool p, .bool v, .bool cy]] w fun e w' => e = .returned (.tuple #[.int .u16 (S.dec x), .agg #[.bool s, .bool z, .bool (S.wK c (x == 0) k), .bool ac, .bool p, .bool v, .bool cy]]) ∧ Adds w w' := by
  have e1 := S.dec_wrap x
  have e2 := S.dec_gt x x0 x1
  go_enter Try.func14, Try.ntmps14
  go_wp2_with (first | (go_at_call 26; refine (wrapped_any _ _ _ _ _ _ _ _ _ _).mono ?_; rintro e w' ⟨rfl, ⟨⟨n1, os1⟩, rfl⟩⟩))
  exact bodyPost_ret (v := .tuple #[.int .u16 (S.dec x), .agg #[.bool s, .bool z, .bool (S.wK c (x == 0) k), .bool ac, .bool p, .bool v, .bool cy]]) (by simp [results, Try.results14, go_sem]) rfl ⟨rfl, by (repeat (first | with_reducible exact Adds.refl _ | with_reducible apply Adds.drew | with_reducible apply Adds.drewN | with_reducible apply Adds.alloc | with_reducible apply Adds.more | (with_reducible refine Adds.setCell ?_ ?_ _) | (focus (simp [go_sem]; done)) | (focus (simp [go_sem]; omega))))⟩
theorem rinx_any (c x : Int) (s z k ac p v cy : Bool) (x0 : 0 ≤ x) (x1 : x < 65536) (w : World) : Calls Try.prog 13 #[.int .i64 c, .int .u16 x, .agg #[.bool s, .bool z, .bool k, .bool ac, .bool p, .bool v, .bool cy]] w fun e w' => e = .returned (.tuple #[.int .u16 (S.inc x), .agg #[.bool s, .bool z, .bool (S.wK c (x == 65535) k), .bool ac, .bool p, .bool v, .bool cy]]) ∧ Adds w w' := by
  have e1 := S.inc_wrap x
  by_cases hc : c = 2
  · subst hc
    rw [S.wK85]
    go_enter Try.func13, Try.ntmps13
    go_wp2_with (first | (go_at_call 27; refine (ron_any _ _).mono ?_; rintro e w' ⟨rfl, rfl⟩))
    go_region
    all_goals go_wp2_with fail
    all_goals exact bodyPost_ret (v := .tuple #[.int .u16 (S.inc x), .agg #[.bool s, .bool z, .bool (x == 65535), .bool ac, .bool p, .bool v, .bool cy]]) (by simp [results, Try.results13, go_sem]) rfl ⟨rfl, by (repeat (first | with_reducible exact Adds.refl _ | with_reducible apply Adds.drew | with_reducible apply Adds.drewN | with_reducible apply Adds.alloc | with_reducible apply Adds.more | (with_reducible refine Adds.setCell ?_ ?_ _) | (focus (simp [go_sem]; done)) | (focus (simp [go_sem]; omega))))⟩
  · rw [S.wK80 hc]
    go_enter Try.func13, Try.ntmps13
    go_wp2_with (first | (go_at_call 27; refine (ron_any _ _).mono ?_; rintro e w' ⟨rfl, rfl⟩))
    go_region
    all_goals go_wp2_with fail
    all_goals exact bodyPost_ret (v := .tuple #[.int .u16 (S.inc x), .agg #[.bool s, .bool z, .bool k, .bool ac, .bool p, .bool v, .bool cy]]) (by simp [results, Try.results13, go_sem]) rfl ⟨rfl, by (repeat (first | with_reducible exact Adds.refl _ | with_reducible apply Adds.drew | with_reducible apply Adds.drewN | with_reducible apply Adds.alloc | with_reducible apply Adds.more | (with_reducible refine Adds.setCell ?_ ?_ _) | (focus (simp [go_sem]; done)) | (focus (simp [go_sem]; omega))))⟩
theorem rdcx_any (c x : Int) (s z k ac p v cy : Bool) (x0 : 0 ≤ x) (x1 : x < 65536) (w : World) : Calls Try.prog 15 #[.int .i64 c, .int .u16 x, .agg #[.bool s, .bool z, .bool k, .bool ac, .bool p, .bool v, .bool cy]] w fun e w' => e = .returned (.tuple #[.int .u16 (S.dec x), .agg #[.bool s, .bool z, .bool (S.wK c (x == 0) k), .bool ac, .bool p, .bool v, .bool cy]]) ∧ Adds w w' := by
  have e1 := S.dec_wrap x
  by_cases hc : c = 2
  · subst hc
    rw [S.wK85]
    go_enter Try.func15, Try.ntmps15
    go_wp2_with (first | (go_at_call 27; refine (ron_any _ _).mono ?_; rintro e w' ⟨rfl, rfl⟩))
    go_region
    all_goals go_wp2_with fail
    all_goals exact bodyPost_ret (v := .tuple #[.int .u16 (S.dec x), .agg #[.bool s, .bool z, .bool (x == 0), .bool ac, .bool p, .bool v, .bool cy]]) (by simp [results, Try.results15, go_sem]) rfl ⟨rfl, by (repeat (first | with_reducible exact Adds.refl _ | with_reducible apply Adds.drew | with_reducible apply Adds.drewN | with_reducible apply Adds.alloc | with_reducible apply Adds.more | (with_reducible refine Adds.setCell ?_ ?_ _) | (focus (simp [go_sem]; done)) | (focus (simp [go_sem]; omega))))⟩
  · rw [S.wK80 hc]
    go_enter Try.func15, Try.ntmps15
    go_wp2_with (first | (go_at_call 27; refine (ron_any _ _).mono ?_; rintro e w' ⟨rfl, rfl⟩))
    go_region
    all_goals go_wp2_with fail
    all_goals exact bodyPost_ret (v := .tuple #[.int .u16 (S.dec x), .agg #[.bool s, .bool z, .bool k, .bool ac, .bool p, .bool v, .bool cy]]) (by simp [results, Try.results15, go_sem]) rfl ⟨rfl, by (repeat (first | with_reducible exact Adds.refl _ | with_reducible apply Adds.drew | with_reducible apply Adds.drewN | with_reducible apply Adds.alloc | with_reducible apply Adds.more | (with_reducible refine Adds.setCell ?_ ?_ _) | (focus (simp [go_sem]; done)) | (focus (simp [go_sem]; omega))))⟩
theorem known4_any (w : World) : Calls Try.prog 11 #[] w fun e w' => e = .returned (.bool true) ∧ Adds w w' := by
  have k0 : S.difR 0 1 false = 255 := by decide
  have k1 : S.has 255 7 = true := by decide
  have k2 : S.par 255 = true := by decide
  have k3 : S.difH 0 1 false = false := by decide
  have k4 : S.nK 1 0 true 255 = false := by decide
  have k5 : S.nV 1 (S.difV 0 1 false) = false := by decide
  have k6 : S.dec 0 = 65535 := by decide
  have k7 : S.wK 2 (0 == 0) false = true := by decide
  go_enter Try.func11, Try.ntmps11
  go_wp2_with (first | (go_at_call 9; refine (dcr_any _ _ _ _ _ _ _ _ _ (by decide) (by decide) _).mono ?_; rintro e w' ⟨rfl, ⟨⟨n1, os1⟩, rfl⟩⟩) | (go_at_call 14; refine (dcx_any _ _ _ _ _ _ _ _ _ (by decide) (by decide) _).mono ?_; rintro e w' ⟨rfl, ⟨⟨n1, os1⟩, rfl⟩⟩))
  go_ret
  exact ⟨rfl, by (repeat (first | with_reducible exact Adds.refl _ | with_reducible apply Adds.drew | with_reducible apply Adds.drewN | with_reducible apply Adds.alloc | with_reducible apply Adds.more | (with_reducible refine Adds.setCell ?_ ?_ _) | (focus (simp [go_sem]; done)) | (focus (simp [go_sem]; omega))))⟩
end Go.Proofs.Ytjidnblfpgiljaa
