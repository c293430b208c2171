/- The contract of the reference's chapter 3, on any other chip. Conditions: bytes are from 0 to 255. -/
import Derived.Test.YtdchbhlnehenkaaC3q
namespace Go.Proofs.Ytdchbhlnehenkaa
open Go.ChangeShapes Go.WideShapes Go.ChangeAt Go.RowKit
set_option linter.unusedVariables false
set_option maxHeartbeats 1000000 in
set_option maxRecDepth 10000 in
theorem rdo80_0 (c op a b : Int) (s z k ac p v cy : Bool) (hc : ¬c = 2) (a0 : 0 ≤ a) (a1 : a < 256) (b0 : 0 ≤ b) (b1 : b < 256) (h8 : op % 8 = 0) (w : World) : Calls Try.prog 10 #[.int .i64 c, .int .i64 op, .int .u8 a, .int .u8 b, .agg #[.bool s, .bool z, .bool k, .bool ac, .bool p, .bool v, .bool cy]] w fun e w' => e = .returned (.tuple #[.int .u8 (S.aX op a b cy), .agg #[.bool (S.has (S.aR op a b cy) 7), .bool (S.aR op a b cy == 0), .bool (S.aK c op a b cy), .bool (S.aH c op a b cy), .bool (S.par (S.aR op a b cy)), .bool (S.aV c op a b cy), .bool (S.aO op a b cy)]]) ∧ Adds w w' := by
  have h7 := S.and7 op
  rw [h8] at h7
  obtain ⟨e1, e2, e3, e4, e5, e6⟩ := S.al0 h8 c a b cy
  have e7 := S.aK80 hc op a b cy
  have e8 := S.aV80 hc op a b cy
  rw [e1, e2, e3, e6, e7, e8]
  clear e1 e2 e3 e4 e5 e6 e7 e8 h8
  obtain ⟨r0, r1⟩ := S.sumR_bd a b false
  go_enter Try.func10, Try.ntmps10
  go_wp2_with (first | (go_at_call 20; refine (rsum_any _ _ _ a0 a1 b0 b1 _).mono ?_; rintro e w' ⟨rfl, rfl⟩) | (go_at_call 21; refine (rdif_any _ _ _ a0 a1 b0 b1 _).mono ?_; rintro e w' ⟨rfl, rfl⟩) | (go_at_call 22; refine (ron_any _ _).mono ?_; rintro e w' ⟨rfl, rfl⟩) | (go_at_call 23; refine (rof_any _ r0 r1 _).mono ?_; rintro e w' ⟨rfl, ⟨⟨n1, os1⟩, rfl⟩⟩))
  go_region_with (first | (go_at_call 25; refine (rmajority_any _ _ _ _).mono ?_; rintro e w' ⟨rfl, rfl⟩) | (go_at_call 24; refine (ronly80 _ hc _ _ _ _ _ _ _ _ _ _).mono ?_; rintro e w' ⟨rfl, ⟨⟨n2, os2⟩, rfl⟩⟩))
  all_goals go_wp2_with fail
  all_goals go_region
  all_goals go_wp2_with fail
  all_goals exact bodyPost_ret (v := .tuple #[.int .u8 (S.sumR a b false), .agg #[.bool (S.has (S.sumR a b false) 7), .bool ((S.sumR a b false) == 0), .bool false, .bool (S.sumH a b false), .bool (S.par (S.sumR a b false)), .bool false, .bool (S.sumO a b false)]]) (by simp [results, Try.results10, go_sem, hc]) rfl ⟨by first | with_reducible rfl | simp [hc], by (repeat (first | with_reducible exact Adds.refl _ | with_reducible apply Adds.drew | with_reducible apply Adds.drewN | with_reducible apply Adds.alloc | with_reducible apply Adds.more | (with_reducible refine Adds.setCell ?_ ?_ _) | (focus (simp [go_sem]; done)) | (focus (simp [go_sem]; omega))))⟩
set_option maxHeartbeats 1000000 in
set_option maxRecDepth 10000 in
theorem rdo80_1 (c op a b : Int) (s z k ac p v cy : Bool) (hc : ¬c = 2) (a0 : 0 ≤ a) (a1 : a < 256) (b0 : 0 ≤ b) (b1 : b < 256) (h8 : op % 8 = 1) (w : World) : Calls Try.prog 10 #[.int .i64 c, .int .i64 op, .int .u8 a, .int .u8 b, .agg #[.bool s, .bool z, .bool k, .bool ac, .bool p, .bool v, .bool cy]] w fun e w' => e = .returned (.tuple #[.int .u8 (S.aX op a b cy), .agg #[.bool (S.has (S.aR op a b cy) 7), .bool (S.aR op a b cy == 0), .bool (S.aK c op a b cy), .bool (S.aH c op a b cy), .bool (S.par (S.aR op a b cy)), .bool (S.aV c op a b cy), .bool (S.aO op a b cy)]]) ∧ Adds w w' := by
  have h7 := S.and7 op
  rw [h8] at h7
  obtain ⟨e1, e2, e3, e4, e5, e6⟩ := S.al1 h8 c a b cy
  have e7 := S.aK80 hc op a b cy
  have e8 := S.aV80 hc op a b cy
  rw [e1, e2, e3, e6, e7, e8]
  clear e1 e2 e3 e4 e5 e6 e7 e8 h8
  obtain ⟨r0, r1⟩ := S.sumR_bd a b cy
  go_enter Try.func10, Try.ntmps10
  go_wp2_with (first | (go_at_call 20; refine (rsum_any _ _ _ a0 a1 b0 b1 _).mono ?_; rintro e w' ⟨rfl, rfl⟩) | (go_at_call 21; refine (rdif_any _ _ _ a0 a1 b0 b1 _).mono ?_; rintro e w' ⟨rfl, rfl⟩) | (go_at_call 22; refine (ron_any _ _).mono ?_; rintro e w' ⟨rfl, rfl⟩) | (go_at_call 23; refine (rof_any _ r0 r1 _).mono ?_; rintro e w' ⟨rfl, ⟨⟨n1, os1⟩, rfl⟩⟩))
  go_region_with (first | (go_at_call 25; refine (rmajority_any _ _ _ _).mono ?_; rintro e w' ⟨rfl, rfl⟩) | (go_at_call 24; refine (ronly80 _ hc _ _ _ _ _ _ _ _ _ _).mono ?_; rintro e w' ⟨rfl, ⟨⟨n2, os2⟩, rfl⟩⟩))
  all_goals go_wp2_with fail
  all_goals go_region
  all_goals go_wp2_with fail
  all_goals exact bodyPost_ret (v := .tuple #[.int .u8 (S.sumR a b cy), .agg #[.bool (S.has (S.sumR a b cy) 7), .bool ((S.sumR a b cy) == 0), .bool false, .bool (S.sumH a b cy), .bool (S.par (S.sumR a b cy)), .bool false, .bool (S.sumO a b cy)]]) (by simp [results, Try.results10, go_sem, hc]) rfl ⟨by first | with_reducible rfl | simp [hc], by (repeat (first | with_reducible exact Adds.refl _ | with_reducible apply Adds.drew | with_reducible apply Adds.drewN | with_reducible apply Adds.alloc | with_reducible apply Adds.more | (with_reducible refine Adds.setCell ?_ ?_ _) | (focus (simp [go_sem]; done)) | (focus (simp [go_sem]; omega))))⟩
set_option maxHeartbeats 1000000 in
set_option maxRecDepth 10000 in
theorem rdo80_2 (c op a b : Int) (s z k ac p v cy : Bool) (hc : ¬c = 2) (a0 : 0 ≤ a) (a1 : a < 256) (b0 : 0 ≤ b) (b1 : b < 256) (h8 : op % 8 = 2) (w : World) : Calls Try.prog 10 #[.int .i64 c, .int .i64 op, .int .u8 a, .int .u8 b, .agg #[.bool s, .bool z, .bool k, .bool ac, .bool p, .bool v, .bool cy]] w fun e w' => e = .returned (.tuple #[.int .u8 (S.aX op a b cy), .agg #[.bool (S.has (S.aR op a b cy) 7), .bool (S.aR op a b cy == 0), .bool (S.aK c op a b cy), .bool (S.aH c op a b cy), .bool (S.par (S.aR op a b cy)), .bool (S.aV c op a b cy), .bool (S.aO op a b cy)]]) ∧ Adds w w' := by
  have h7 := S.and7 op
  rw [h8] at h7
  obtain ⟨e1, e2, e3, e4, e5, e6⟩ := S.al2 h8 c a b cy
  have e7 := S.aK80 hc op a b cy
  have e8 := S.aV80 hc op a b cy
  rw [e1, e2, e3, e6, e7, e8]
  clear e1 e2 e3 e4 e5 e6 e7 e8 h8
  obtain ⟨r0, r1⟩ := S.difR_bd a b false
  go_enter Try.func10, Try.ntmps10
  go_wp2_with (first | (go_at_call 20; refine (rsum_any _ _ _ a0 a1 b0 b1 _).mono ?_; rintro e w' ⟨rfl, rfl⟩) | (go_at_call 21; refine (rdif_any _ _ _ a0 a1 b0 b1 _).mono ?_; rintro e w' ⟨rfl, rfl⟩) | (go_at_call 22; refine (ron_any _ _).mono ?_; rintro e w' ⟨rfl, rfl⟩) | (go_at_call 23; refine (rof_any _ r0 r1 _).mono ?_; rintro e w' ⟨rfl, ⟨⟨n1, os1⟩, rfl⟩⟩))
  go_region_with (first | (go_at_call 25; refine (rmajority_any _ _ _ _).mono ?_; rintro e w' ⟨rfl, rfl⟩) | (go_at_call 24; refine (ronly80 _ hc _ _ _ _ _ _ _ _ _ _).mono ?_; rintro e w' ⟨rfl, ⟨⟨n2, os2⟩, rfl⟩⟩))
  all_goals go_wp2_with fail
  all_goals go_region
  all_goals go_wp2_with fail
  all_goals exact bodyPost_ret (v := .tuple #[.int .u8 (S.difR a b false), .agg #[.bool (S.has (S.difR a b false) 7), .bool ((S.difR a b false) == 0), .bool false, .bool (S.difH a b false), .bool (S.par (S.difR a b false)), .bool false, .bool (S.difO a b false)]]) (by simp [results, Try.results10, go_sem, hc]) rfl ⟨by first | with_reducible rfl | simp [hc], by (repeat (first | with_reducible exact Adds.refl _ | with_reducible apply Adds.drew | with_reducible apply Adds.drewN | with_reducible apply Adds.alloc | with_reducible apply Adds.more | (with_reducible refine Adds.setCell ?_ ?_ _) | (focus (simp [go_sem]; done)) | (focus (simp [go_sem]; omega))))⟩
set_option maxHeartbeats 1000000 in
set_option maxRecDepth 10000 in
theorem rdo80_3 (c op a b : Int) (s z k ac p v cy : Bool) (hc : ¬c = 2) (a0 : 0 ≤ a) (a1 : a < 256) (b0 : 0 ≤ b) (b1 : b < 256) (h8 : op % 8 = 3) (w : World) : Calls Try.prog 10 #[.int .i64 c, .int .i64 op, .int .u8 a, .int .u8 b, .agg #[.bool s, .bool z, .bool k, .bool ac, .bool p, .bool v, .bool cy]] w fun e w' => e = .returned (.tuple #[.int .u8 (S.aX op a b cy), .agg #[.bool (S.has (S.aR op a b cy) 7), .bool (S.aR op a b cy == 0), .bool (S.aK c op a b cy), .bool (S.aH c op a b cy), .bool (S.par (S.aR op a b cy)), .bool (S.aV c op a b cy), .bool (S.aO op a b cy)]]) ∧ Adds w w' := by
  have h7 := S.and7 op
  rw [h8] at h7
  obtain ⟨e1, e2, e3, e4, e5, e6⟩ := S.al3 h8 c a b cy
  have e7 := S.aK80 hc op a b cy
  have e8 := S.aV80 hc op a b cy
  rw [e1, e2, e3, e6, e7, e8]
  clear e1 e2 e3 e4 e5 e6 e7 e8 h8
  obtain ⟨r0, r1⟩ := S.difR_bd a b cy
  go_enter Try.func10, Try.ntmps10
  go_wp2_with (first | (go_at_call 20; refine (rsum_any _ _ _ a0 a1 b0 b1 _).mono ?_; rintro e w' ⟨rfl, rfl⟩) | (go_at_call 21; refine (rdif_any _ _ _ a0 a1 b0 b1 _).mono ?_; rintro e w' ⟨rfl, rfl⟩) | (go_at_call 22; refine (ron_any _ _).mono ?_; rintro e w' ⟨rfl, rfl⟩) | (go_at_call 23; refine (rof_any _ r0 r1 _).mono ?_; rintro e w' ⟨rfl, ⟨⟨n1, os1⟩, rfl⟩⟩))
  go_region_with (first | (go_at_call 25; refine (rmajority_any _ _ _ _).mono ?_; rintro e w' ⟨rfl, rfl⟩) | (go_at_call 24; refine (ronly80 _ hc _ _ _ _ _ _ _ _ _ _).mono ?_; rintro e w' ⟨rfl, ⟨⟨n2, os2⟩, rfl⟩⟩))
  all_goals go_wp2_with fail
  all_goals go_region
  all_goals go_wp2_with fail
  all_goals exact bodyPost_ret (v := .tuple #[.int .u8 (S.difR a b cy), .agg #[.bool (S.has (S.difR a b cy) 7), .bool ((S.difR a b cy) == 0), .bool false, .bool (S.difH a b cy), .bool (S.par (S.difR a b cy)), .bool false, .bool (S.difO a b cy)]]) (by simp [results, Try.results10, go_sem, hc]) rfl ⟨by first | with_reducible rfl | simp [hc], by (repeat (first | with_reducible exact Adds.refl _ | with_reducible apply Adds.drew | with_reducible apply Adds.drewN | with_reducible apply Adds.alloc | with_reducible apply Adds.more | (with_reducible refine Adds.setCell ?_ ?_ _) | (focus (simp [go_sem]; done)) | (focus (simp [go_sem]; omega))))⟩
set_option maxHeartbeats 1000000 in
set_option maxRecDepth 10000 in
theorem rdo80_4 (c op a b : Int) (s z k ac p v cy : Bool) (hc : ¬c = 2) (a0 : 0 ≤ a) (a1 : a < 256) (b0 : 0 ≤ b) (b1 : b < 256) (h8 : op % 8 = 4) (w : World) : Calls Try.prog 10 #[.int .i64 c, .int .i64 op, .int .u8 a, .int .u8 b, .agg #[.bool s, .bool z, .bool k, .bool ac, .bool p, .bool v, .bool cy]] w fun e w' => e = .returned (.tuple #[.int .u8 (S.aX op a b cy), .agg #[.bool (S.has (S.aR op a b cy) 7), .bool (S.aR op a b cy == 0), .bool (S.aK c op a b cy), .bool (S.aH c op a b cy), .bool (S.par (S.aR op a b cy)), .bool (S.aV c op a b cy), .bool (S.aO op a b cy)]]) ∧ Adds w w' := by
  have h7 := S.and7 op
  rw [h8] at h7
  obtain ⟨e1, e2, e3, e4, e5, e6⟩ := S.al4 h8 c a b cy
  have e7 := S.aK80 hc op a b cy
  have e8 := S.aV80 hc op a b cy
  rw [e1, e2, e3, e6, e7, e8]
  clear e1 e2 e3 e4 e5 e6 e7 e8 h8
  obtain ⟨r0, r1⟩ := S.and_bd a b
  go_enter Try.func10, Try.ntmps10
  go_wp2_with (first | (go_at_call 20; refine (rsum_any _ _ _ a0 a1 b0 b1 _).mono ?_; rintro e w' ⟨rfl, rfl⟩) | (go_at_call 21; refine (rdif_any _ _ _ a0 a1 b0 b1 _).mono ?_; rintro e w' ⟨rfl, rfl⟩) | (go_at_call 22; refine (ron_any _ _).mono ?_; rintro e w' ⟨rfl, rfl⟩) | (go_at_call 23; refine (rof_any _ r0 r1 _).mono ?_; rintro e w' ⟨rfl, ⟨⟨n1, os1⟩, rfl⟩⟩))
  go_region_with (first | (go_at_call 25; refine (rmajority_any _ _ _ _).mono ?_; rintro e w' ⟨rfl, rfl⟩) | (go_at_call 24; refine (ronly80 _ hc _ _ _ _ _ _ _ _ _ _).mono ?_; rintro e w' ⟨rfl, ⟨⟨n2, os2⟩, rfl⟩⟩))
  all_goals go_wp2_with fail
  all_goals go_region
  all_goals go_wp2_with fail
  all_goals exact bodyPost_ret (v := .tuple #[.int .u8 ((bits .and .u8 a b)), .agg #[.bool (S.has ((bits .and .u8 a b)) 7), .bool (((bits .and .u8 a b)) == 0), .bool false, .bool ((bits .and .u8 (bits .or .u8 a b) 8 != 0)), .bool (S.par ((bits .and .u8 a b))), .bool false, .bool (false)]]) (by simp [results, Try.results10, go_sem, hc]) rfl ⟨by first | with_reducible rfl | simp [hc], by (repeat (first | with_reducible exact Adds.refl _ | with_reducible apply Adds.drew | with_reducible apply Adds.drewN | with_reducible apply Adds.alloc | with_reducible apply Adds.more | (with_reducible refine Adds.setCell ?_ ?_ _) | (focus (simp [go_sem]; done)) | (focus (simp [go_sem]; omega))))⟩
set_option maxHeartbeats 1000000 in
set_option maxRecDepth 10000 in
theorem rdo80_5 (c op a b : Int) (s z k ac p v cy : Bool) (hc : ¬c = 2) (a0 : 0 ≤ a) (a1 : a < 256) (b0 : 0 ≤ b) (b1 : b < 256) (h8 : op % 8 = 5) (w : World) : Calls Try.prog 10 #[.int .i64 c, .int .i64 op, .int .u8 a, .int .u8 b, .agg #[.bool s, .bool z, .bool k, .bool ac, .bool p, .bool v, .bool cy]] w fun e w' => e = .returned (.tuple #[.int .u8 (S.aX op a b cy), .agg #[.bool (S.has (S.aR op a b cy) 7), .bool (S.aR op a b cy == 0), .bool (S.aK c op a b cy), .bool (S.aH c op a b cy), .bool (S.par (S.aR op a b cy)), .bool (S.aV c op a b cy), .bool (S.aO op a b cy)]]) ∧ Adds w w' := by
  have h7 := S.and7 op
  rw [h8] at h7
  obtain ⟨e1, e2, e3, e4, e5, e6⟩ := S.al5 h8 c a b cy
  have e7 := S.aK80 hc op a b cy
  have e8 := S.aV80 hc op a b cy
  rw [e1, e2, e3, e6, e7, e8]
  clear e1 e2 e3 e4 e5 e6 e7 e8 h8
  obtain ⟨r0, r1⟩ := S.xor_bd a b
  go_enter Try.func10, Try.ntmps10
  go_wp2_with (first | (go_at_call 20; refine (rsum_any _ _ _ a0 a1 b0 b1 _).mono ?_; rintro e w' ⟨rfl, rfl⟩) | (go_at_call 21; refine (rdif_any _ _ _ a0 a1 b0 b1 _).mono ?_; rintro e w' ⟨rfl, rfl⟩) | (go_at_call 22; refine (ron_any _ _).mono ?_; rintro e w' ⟨rfl, rfl⟩) | (go_at_call 23; refine (rof_any _ r0 r1 _).mono ?_; rintro e w' ⟨rfl, ⟨⟨n1, os1⟩, rfl⟩⟩))
  go_region_with (first | (go_at_call 25; refine (rmajority_any _ _ _ _).mono ?_; rintro e w' ⟨rfl, rfl⟩) | (go_at_call 24; refine (ronly80 _ hc _ _ _ _ _ _ _ _ _ _).mono ?_; rintro e w' ⟨rfl, ⟨⟨n2, os2⟩, rfl⟩⟩))
  all_goals go_wp2_with fail
  all_goals go_region
  all_goals go_wp2_with fail
  all_goals exact bodyPost_ret (v := .tuple #[.int .u8 ((bits .xor .u8 a b)), .agg #[.bool (S.has ((bits .xor .u8 a b)) 7), .bool (((bits .xor .u8 a b)) == 0), .bool false, .bool (false), .bool (S.par ((bits .xor .u8 a b))), .bool false, .bool (false)]]) (by simp [results, Try.results10, go_sem, hc]) rfl ⟨by first | with_reducible rfl | simp [hc], by (repeat (first | with_reducible exact Adds.refl _ | with_reducible apply Adds.drew | with_reducible apply Adds.drewN | with_reducible apply Adds.alloc | with_reducible apply Adds.more | (with_reducible refine Adds.setCell ?_ ?_ _) | (focus (simp [go_sem]; done)) | (focus (simp [go_sem]; omega))))⟩
set_option maxHeartbeats 1000000 in
set_option maxRecDepth 10000 in
theorem rdo80_6 (c op a b : Int) (s z k ac p v cy : Bool) (hc : ¬c = 2) (a0 : 0 ≤ a) (a1 : a < 256) (b0 : 0 ≤ b) (b1 : b < 256) (h8 : op % 8 = 6) (w : World) : Calls Try.prog 10 #[.int .i64 c, .int .i64 op, .int .u8 a, .int .u8 b, .agg #[.bool s, .bool z, .bool k, .bool ac, .bool p, .bool v, .bool cy]] w fun e w' => e = .returned (.tuple #[.int .u8 (S.aX op a b cy), .agg #[.bool (S.has (S.aR op a b cy) 7), .bool (S.aR op a b cy == 0), .bool (S.aK c op a b cy), .bool (S.aH c op a b cy), .bool (S.par (S.aR op a b cy)), .bool (S.aV c op a b cy), .bool (S.aO op a b cy)]]) ∧ Adds w w' := by
  have h7 := S.and7 op
  rw [h8] at h7
  obtain ⟨e1, e2, e3, e4, e5, e6⟩ := S.al6 h8 c a b cy
  have e7 := S.aK80 hc op a b cy
  have e8 := S.aV80 hc op a b cy
  rw [e1, e2, e3, e6, e7, e8]
  clear e1 e2 e3 e4 e5 e6 e7 e8 h8
  obtain ⟨r0, r1⟩ := S.or_bd a b
  go_enter Try.func10, Try.ntmps10
  go_wp2_with (first | (go_at_call 20; refine (rsum_any _ _ _ a0 a1 b0 b1 _).mono ?_; rintro e w' ⟨rfl, rfl⟩) | (go_at_call 21; refine (rdif_any _ _ _ a0 a1 b0 b1 _).mono ?_; rintro e w' ⟨rfl, rfl⟩) | (go_at_call 22; refine (ron_any _ _).mono ?_; rintro e w' ⟨rfl, rfl⟩) | (go_at_call 23; refine (rof_any _ r0 r1 _).mono ?_; rintro e w' ⟨rfl, ⟨⟨n1, os1⟩, rfl⟩⟩))
  go_region_with (first | (go_at_call 25; refine (rmajority_any _ _ _ _).mono ?_; rintro e w' ⟨rfl, rfl⟩) | (go_at_call 24; refine (ronly80 _ hc _ _ _ _ _ _ _ _ _ _).mono ?_; rintro e w' ⟨rfl, ⟨⟨n2, os2⟩, rfl⟩⟩))
  all_goals go_wp2_with fail
  all_goals go_region
  all_goals go_wp2_with fail
  all_goals exact bodyPost_ret (v := .tuple #[.int .u8 ((bits .or .u8 a b)), .agg #[.bool (S.has ((bits .or .u8 a b)) 7), .bool (((bits .or .u8 a b)) == 0), .bool false, .bool (false), .bool (S.par ((bits .or .u8 a b))), .bool false, .bool (false)]]) (by simp [results, Try.results10, go_sem, hc]) rfl ⟨by first | with_reducible rfl | simp [hc], by (repeat (first | with_reducible exact Adds.refl _ | with_reducible apply Adds.drew | with_reducible apply Adds.drewN | with_reducible apply Adds.alloc | with_reducible apply Adds.more | (with_reducible refine Adds.setCell ?_ ?_ _) | (focus (simp [go_sem]; done)) | (focus (simp [go_sem]; omega))))⟩
set_option maxHeartbeats 1000000 in
set_option maxRecDepth 10000 in
theorem rdo80_7 (c op a b : Int) (s z k ac p v cy : Bool) (hc : ¬c = 2) (a0 : 0 ≤ a) (a1 : a < 256) (b0 : 0 ≤ b) (b1 : b < 256) (h8 : op % 8 = 7) (w : World) : Calls Try.prog 10 #[.int .i64 c, .int .i64 op, .int .u8 a, .int .u8 b, .agg #[.bool s, .bool z, .bool k, .bool ac, .bool p, .bool v, .bool cy]] w fun e w' => e = .returned (.tuple #[.int .u8 (S.aX op a b cy), .agg #[.bool (S.has (S.aR op a b cy) 7), .bool (S.aR op a b cy == 0), .bool (S.aK c op a b cy), .bool (S.aH c op a b cy), .bool (S.par (S.aR op a b cy)), .bool (S.aV c op a b cy), .bool (S.aO op a b cy)]]) ∧ Adds w w' := by
  have h7 := S.and7 op
  rw [h8] at h7
  obtain ⟨e1, e2, e3, e4, e5, e6⟩ := S.al7 h8 c a b cy
  have e7 := S.aK80 hc op a b cy
  have e8 := S.aV80 hc op a b cy
  rw [e1, e2, e3, e6, e7, e8]
  clear e1 e2 e3 e4 e5 e6 e7 e8 h8
  obtain ⟨r0, r1⟩ := S.difR_bd a b false
  go_enter Try.func10, Try.ntmps10
  go_wp2_with (first | (go_at_call 20; refine (rsum_any _ _ _ a0 a1 b0 b1 _).mono ?_; rintro e w' ⟨rfl, rfl⟩) | (go_at_call 21; refine (rdif_any _ _ _ a0 a1 b0 b1 _).mono ?_; rintro e w' ⟨rfl, rfl⟩) | (go_at_call 22; refine (ron_any _ _).mono ?_; rintro e w' ⟨rfl, rfl⟩) | (go_at_call 23; refine (rof_any _ r0 r1 _).mono ?_; rintro e w' ⟨rfl, ⟨⟨n1, os1⟩, rfl⟩⟩))
  go_region_with (first | (go_at_call 25; refine (rmajority_any _ _ _ _).mono ?_; rintro e w' ⟨rfl, rfl⟩) | (go_at_call 24; refine (ronly80 _ hc _ _ _ _ _ _ _ _ _ _).mono ?_; rintro e w' ⟨rfl, ⟨⟨n2, os2⟩, rfl⟩⟩))
  all_goals go_wp2_with fail
  all_goals go_region
  all_goals go_wp2_with fail
  all_goals exact bodyPost_ret (v := .tuple #[.int .u8 (a), .agg #[.bool (S.has (S.difR a b false) 7), .bool ((S.difR a b false) == 0), .bool false, .bool (S.difH a b false), .bool (S.par (S.difR a b false)), .bool false, .bool (S.difO a b false)]]) (by simp [results, Try.results10, go_sem, hc]) rfl ⟨by first | with_reducible rfl | simp [hc], by (repeat (first | with_reducible exact Adds.refl _ | with_reducible apply Adds.drew | with_reducible apply Adds.drewN | with_reducible apply Adds.alloc | with_reducible apply Adds.more | (with_reducible refine Adds.setCell ?_ ?_ _) | (focus (simp [go_sem]; done)) | (focus (simp [go_sem]; omega))))⟩
end Go.Proofs.Ytdchbhlnehenkaa
