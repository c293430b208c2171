/- The contract of alu.Do: it returns the plain functions' values and leaves what was there alone. Conditions: bytes are from 0 to 255. -/
import Derived.Test.YthjlegljhflejaaC3
namespace Go.Proofs.Ythjlegljhflejaa
open Go.ChangeShapes Go.WideShapes Go.ChangeAt Go.RowKit
set_option linter.unusedVariables false
set_option maxHeartbeats 1000000 in
theorem do85_0 (op a b : Int) (s z k ac p v cy : Bool) (a0 : 0 ≤ a) (a1 : a < 256) (b0 : 0 ≤ b) (b1 : b < 256) (h8 : op % 8 = 0) (w : World) : Calls Try.prog 13 #[.int .i64 2, .int .i64 op, .int .u8 a, .int .u8 b, .agg #[.bool s, .bool z, .bool k, .bool ac, .bool p, .bool v, .bool cy]] w fun e w' => e = .returned (.tuple #[.int .u8 (S.aX op a b cy), .agg #[.bool (S.has (S.aR op a b cy) 7), .bool (S.aR op a b cy == 0), .bool (S.aK 2 op a b cy), .bool (S.aH 2 op a b cy), .bool (S.par (S.aR op a b cy)), .bool (S.aV 2 op a b cy), .bool (S.aO op a b cy)]]) ∧ Adds w w' := by
  have h7 := S.and7 op
  rw [h8] at h7
  obtain ⟨e1, e2, e3, e4, e5, e6⟩ := S.al0 h8 2 a b cy
  have e7 := S.aK85 op a b cy
  have e8 := S.aV85 op a b cy
  rw [e1, e5] at e7
  rw [e4] at e8
  rw [e1, e2, e3, e6, e7, e8]
  clear e1 e2 e3 e4 e5 e6 e7 e8 h8
  obtain ⟨r0, r1⟩ := S.sumR_bd a b false
  go_enter Try.func13, Try.ntmps13
  go_wp2_with (first | (go_at_call 44; refine (sumc_any _ _ _ _ a0 a1 b0 b1 _ (by simp [go_sem]; rfl)).mono ?_; rintro e w' ⟨rfl, rfl⟩) | (go_at_call 45; refine (difc_any _ _ _ _ a0 a1 b0 b1 _ (by simp [go_sem]; rfl)).mono ?_; rintro e w' ⟨rfl, rfl⟩) | (go_at_call 47; refine (andc_85 _ _ _ _ (by simp [go_sem]; done)).mono ?_; rintro e w' ⟨rfl, rfl⟩) | (go_at_call 48; refine (logc_xor _ _ _ _ (by simp [go_sem]; done)).mono ?_; rintro e w' ⟨rfl, rfl⟩) | (go_at_call 17; refine (of_any _ r0 r1 _).mono ?_; rintro e w' ⟨rfl, ⟨⟨n1, os1⟩, rfl⟩⟩) | (go_at_call 18; refine (majority_any _ _ _ _).mono ?_; rintro e w' ⟨rfl, rfl⟩) | (go_at_call 26; refine (sign_any _ _).mono ?_; rintro e w' ⟨rfl, rfl⟩) | (go_at_call 27; refine (subtracts_any _ false (by decide) (by decide) rfl _).mono ?_; rintro e w' ⟨rfl, rfl⟩) | go_in)
  go_region
  all_goals go_wp2_with fail
  all_goals exact bodyPost_ret (v := .tuple #[.int .u8 (S.sumR a b false), .agg #[.bool (S.has (S.sumR a b false) 7), .bool ((S.sumR a b false) == 0), .bool (S.maj (S.big a) (S.big b != false) (S.big (S.sumR a b false))), .bool (S.sumH a b false), .bool (S.par (S.sumR a b false)), .bool (S.sumV a b false), .bool (S.sumO a b false)]]) (by simp [results, Try.results13, go_sem]) rfl ⟨by first | with_reducible rfl | simp, by (repeat (first | with_reducible exact Adds.refl _ | with_reducible apply Adds.drew | with_reducible apply Adds.drewN | with_reducible apply Adds.alloc | with_reducible apply Adds.more | (with_reducible refine Adds.setCell ?_ ?_ _) | (focus (simp [go_sem]; done)) | (focus (simp [go_sem]; omega))))⟩
set_option maxHeartbeats 1000000 in
set_option maxRecDepth 10000 in
theorem do80_0 (c op a b : Int) (s z k ac p v cy : Bool) (hc : ¬c = 2) (a0 : 0 ≤ a) (a1 : a < 256) (b0 : 0 ≤ b) (b1 : b < 256) (h8 : op % 8 = 0) (w : World) : Calls Try.prog 13 #[.int .i64 c, .int .i64 op, .int .u8 a, .int .u8 b, .agg #[.bool s, .bool z, .bool k, .bool ac, .bool p, .bool v, .bool cy]] w fun e w' => e = .returned (.tuple #[.int .u8 (S.aX op a b cy), .agg #[.bool (S.has (S.aR op a b cy) 7), .bool (S.aR op a b cy == 0), .bool (S.aK c op a b cy), .bool (S.aH c op a b cy), .bool (S.par (S.aR op a b cy)), .bool (S.aV c op a b cy), .bool (S.aO op a b cy)]]) ∧ Adds w w' := by
  have h7 := S.and7 op
  rw [h8] at h7
  obtain ⟨e1, e2, e3, e4, e5, e6⟩ := S.al0 h8 c a b cy
  have e7 := S.aK80 hc op a b cy
  have e8 := S.aV80 hc op a b cy
  rw [e1, e2, e3, e6, e7, e8]
  clear e1 e2 e3 e4 e5 e6 e7 e8 h8
  obtain ⟨r0, r1⟩ := S.sumR_bd a b false
  go_enter Try.func13, Try.ntmps13
  go_wp2_with (first | (go_at_call 44; refine (sumc_any _ _ _ _ a0 a1 b0 b1 _ (by simp [go_sem]; rfl)).mono ?_; rintro e w' ⟨rfl, rfl⟩) | (go_at_call 45; refine (difc_any _ _ _ _ a0 a1 b0 b1 _ (by simp [go_sem]; rfl)).mono ?_; rintro e w' ⟨rfl, rfl⟩) | (go_at_call 47; refine (andc_80 _ _ _ hc _ _ (by simp [go_sem]; done)).mono ?_; rintro e w' ⟨rfl, rfl⟩) | (go_at_call 48; refine (logc_xor _ _ _ _ (by simp [go_sem]; done)).mono ?_; rintro e w' ⟨rfl, rfl⟩) | (go_at_call 17; refine (of_any _ r0 r1 _).mono ?_; rintro e w' ⟨rfl, ⟨⟨n1, os1⟩, rfl⟩⟩) | go_in)
  go_region
  all_goals go_wp2_with fail
  all_goals exact bodyPost_ret (v := .tuple #[.int .u8 (S.sumR a b false), .agg #[.bool (S.has (S.sumR a b false) 7), .bool ((S.sumR a b false) == 0), .bool false, .bool (S.sumH a b false), .bool (S.par (S.sumR a b false)), .bool false, .bool (S.sumO a b false)]]) (by simp [results, Try.results13, go_sem]) rfl ⟨by first | with_reducible rfl | simp [hc], by (repeat (first | with_reducible exact Adds.refl _ | with_reducible apply Adds.drew | with_reducible apply Adds.drewN | with_reducible apply Adds.alloc | with_reducible apply Adds.more | (with_reducible refine Adds.setCell ?_ ?_ _) | (focus (simp [go_sem]; done)) | (focus (simp [go_sem]; omega))))⟩
set_option maxHeartbeats 1000000 in
theorem do85_1 (op a b : Int) (s z k ac p v cy : Bool) (a0 : 0 ≤ a) (a1 : a < 256) (b0 : 0 ≤ b) (b1 : b < 256) (h8 : op % 8 = 1) (w : World) : Calls Try.prog 13 #[.int .i64 2, .int .i64 op, .int .u8 a, .int .u8 b, .agg #[.bool s, .bool z, .bool k, .bool ac, .bool p, .bool v, .bool cy]] w fun e w' => e = .returned (.tuple #[.int .u8 (S.aX op a b cy), .agg #[.bool (S.has (S.aR op a b cy) 7), .bool (S.aR op a b cy == 0), .bool (S.aK 2 op a b cy), .bool (S.aH 2 op a b cy), .bool (S.par (S.aR op a b cy)), .bool (S.aV 2 op a b cy), .bool (S.aO op a b cy)]]) ∧ Adds w w' := by
  have h7 := S.and7 op
  rw [h8] at h7
  obtain ⟨e1, e2, e3, e4, e5, e6⟩ := S.al1 h8 2 a b cy
  have e7 := S.aK85 op a b cy
  have e8 := S.aV85 op a b cy
  rw [e1, e5] at e7
  rw [e4] at e8
  rw [e1, e2, e3, e6, e7, e8]
  clear e1 e2 e3 e4 e5 e6 e7 e8 h8
  obtain ⟨r0, r1⟩ := S.sumR_bd a b cy
  go_enter Try.func13, Try.ntmps13
  go_wp2_with (first | (go_at_call 44; refine (sumc_any _ _ _ _ a0 a1 b0 b1 _ (by simp [go_sem]; rfl)).mono ?_; rintro e w' ⟨rfl, rfl⟩) | (go_at_call 45; refine (difc_any _ _ _ _ a0 a1 b0 b1 _ (by simp [go_sem]; rfl)).mono ?_; rintro e w' ⟨rfl, rfl⟩) | (go_at_call 47; refine (andc_85 _ _ _ _ (by simp [go_sem]; done)).mono ?_; rintro e w' ⟨rfl, rfl⟩) | (go_at_call 48; refine (logc_xor _ _ _ _ (by simp [go_sem]; done)).mono ?_; rintro e w' ⟨rfl, rfl⟩) | (go_at_call 17; refine (of_any _ r0 r1 _).mono ?_; rintro e w' ⟨rfl, ⟨⟨n1, os1⟩, rfl⟩⟩) | (go_at_call 18; refine (majority_any _ _ _ _).mono ?_; rintro e w' ⟨rfl, rfl⟩) | (go_at_call 26; refine (sign_any _ _).mono ?_; rintro e w' ⟨rfl, rfl⟩) | (go_at_call 27; refine (subtracts_any _ false (by decide) (by decide) rfl _).mono ?_; rintro e w' ⟨rfl, rfl⟩) | go_in)
  go_region
  all_goals go_wp2_with fail
  all_goals exact bodyPost_ret (v := .tuple #[.int .u8 (S.sumR a b cy), .agg #[.bool (S.has (S.sumR a b cy) 7), .bool ((S.sumR a b cy) == 0), .bool (S.maj (S.big a) (S.big b != false) (S.big (S.sumR a b cy))), .bool (S.sumH a b cy), .bool (S.par (S.sumR a b cy)), .bool (S.sumV a b cy), .bool (S.sumO a b cy)]]) (by simp [results, Try.results13, go_sem]) rfl ⟨by first | with_reducible rfl | simp, by (repeat (first | with_reducible exact Adds.refl _ | with_reducible apply Adds.drew | with_reducible apply Adds.drewN | with_reducible apply Adds.alloc | with_reducible apply Adds.more | (with_reducible refine Adds.setCell ?_ ?_ _) | (focus (simp [go_sem]; done)) | (focus (simp [go_sem]; omega))))⟩
set_option maxHeartbeats 1000000 in
set_option maxRecDepth 10000 in
theorem do80_1 (c op a b : Int) (s z k ac p v cy : Bool) (hc : ¬c = 2) (a0 : 0 ≤ a) (a1 : a < 256) (b0 : 0 ≤ b) (b1 : b < 256) (h8 : op % 8 = 1) (w : World) : Calls Try.prog 13 #[.int .i64 c, .int .i64 op, .int .u8 a, .int .u8 b, .agg #[.bool s, .bool z, .bool k, .bool ac, .bool p, .bool v, .bool cy]] w fun e w' => e = .returned (.tuple #[.int .u8 (S.aX op a b cy), .agg #[.bool (S.has (S.aR op a b cy) 7), .bool (S.aR op a b cy == 0), .bool (S.aK c op a b cy), .bool (S.aH c op a b cy), .bool (S.par (S.aR op a b cy)), .bool (S.aV c op a b cy), .bool (S.aO op a b cy)]]) ∧ Adds w w' := by
  have h7 := S.and7 op
  rw [h8] at h7
  obtain ⟨e1, e2, e3, e4, e5, e6⟩ := S.al1 h8 c a b cy
  have e7 := S.aK80 hc op a b cy
  have e8 := S.aV80 hc op a b cy
  rw [e1, e2, e3, e6, e7, e8]
  clear e1 e2 e3 e4 e5 e6 e7 e8 h8
  obtain ⟨r0, r1⟩ := S.sumR_bd a b cy
  go_enter Try.func13, Try.ntmps13
  go_wp2_with (first | (go_at_call 44; refine (sumc_any _ _ _ _ a0 a1 b0 b1 _ (by simp [go_sem]; rfl)).mono ?_; rintro e w' ⟨rfl, rfl⟩) | (go_at_call 45; refine (difc_any _ _ _ _ a0 a1 b0 b1 _ (by simp [go_sem]; rfl)).mono ?_; rintro e w' ⟨rfl, rfl⟩) | (go_at_call 47; refine (andc_80 _ _ _ hc _ _ (by simp [go_sem]; done)).mono ?_; rintro e w' ⟨rfl, rfl⟩) | (go_at_call 48; refine (logc_xor _ _ _ _ (by simp [go_sem]; done)).mono ?_; rintro e w' ⟨rfl, rfl⟩) | (go_at_call 17; refine (of_any _ r0 r1 _).mono ?_; rintro e w' ⟨rfl, ⟨⟨n1, os1⟩, rfl⟩⟩) | go_in)
  go_region
  all_goals go_wp2_with fail
  all_goals exact bodyPost_ret (v := .tuple #[.int .u8 (S.sumR a b cy), .agg #[.bool (S.has (S.sumR a b cy) 7), .bool ((S.sumR a b cy) == 0), .bool false, .bool (S.sumH a b cy), .bool (S.par (S.sumR a b cy)), .bool false, .bool (S.sumO a b cy)]]) (by simp [results, Try.results13, go_sem]) rfl ⟨by first | with_reducible rfl | simp [hc], by (repeat (first | with_reducible exact Adds.refl _ | with_reducible apply Adds.drew | with_reducible apply Adds.drewN | with_reducible apply Adds.alloc | with_reducible apply Adds.more | (with_reducible refine Adds.setCell ?_ ?_ _) | (focus (simp [go_sem]; done)) | (focus (simp [go_sem]; omega))))⟩
set_option maxHeartbeats 1000000 in
theorem do85_2 (op a b : Int) (s z k ac p v cy : Bool) (a0 : 0 ≤ a) (a1 : a < 256) (b0 : 0 ≤ b) (b1 : b < 256) (h8 : op % 8 = 2) (w : World) : Calls Try.prog 13 #[.int .i64 2, .int .i64 op, .int .u8 a, .int .u8 b, .agg #[.bool s, .bool z, .bool k, .bool ac, .bool p, .bool v, .bool cy]] w fun e w' => e = .returned (.tuple #[.int .u8 (S.aX op a b cy), .agg #[.bool (S.has (S.aR op a b cy) 7), .bool (S.aR op a b cy == 0), .bool (S.aK 2 op a b cy), .bool (S.aH 2 op a b cy), .bool (S.par (S.aR op a b cy)), .bool (S.aV 2 op a b cy), .bool (S.aO op a b cy)]]) ∧ Adds w w' := by
  have h7 := S.and7 op
  rw [h8] at h7
  obtain ⟨e1, e2, e3, e4, e5, e6⟩ := S.al2 h8 2 a b cy
  have e7 := S.aK85 op a b cy
  have e8 := S.aV85 op a b cy
  rw [e1, e5] at e7
  rw [e4] at e8
  rw [e1, e2, e3, e6, e7, e8]
  clear e1 e2 e3 e4 e5 e6 e7 e8 h8
  obtain ⟨r0, r1⟩ := S.difR_bd a b false
  go_enter Try.func13, Try.ntmps13
  go_wp2_with (first | (go_at_call 44; refine (sumc_any _ _ _ _ a0 a1 b0 b1 _ (by simp [go_sem]; rfl)).mono ?_; rintro e w' ⟨rfl, rfl⟩) | (go_at_call 45; refine (difc_any _ _ _ _ a0 a1 b0 b1 _ (by simp [go_sem]; rfl)).mono ?_; rintro e w' ⟨rfl, rfl⟩) | (go_at_call 47; refine (andc_85 _ _ _ _ (by simp [go_sem]; done)).mono ?_; rintro e w' ⟨rfl, rfl⟩) | (go_at_call 48; refine (logc_xor _ _ _ _ (by simp [go_sem]; done)).mono ?_; rintro e w' ⟨rfl, rfl⟩) | (go_at_call 17; refine (of_any _ r0 r1 _).mono ?_; rintro e w' ⟨rfl, ⟨⟨n1, os1⟩, rfl⟩⟩) | (go_at_call 18; refine (majority_any _ _ _ _).mono ?_; rintro e w' ⟨rfl, rfl⟩) | (go_at_call 26; refine (sign_any _ _).mono ?_; rintro e w' ⟨rfl, rfl⟩) | (go_at_call 27; refine (subtracts_any _ true (by decide) (by decide) rfl _).mono ?_; rintro e w' ⟨rfl, rfl⟩) | go_in)
  go_region
  all_goals go_wp2_with fail
  all_goals exact bodyPost_ret (v := .tuple #[.int .u8 (S.difR a b false), .agg #[.bool (S.has (S.difR a b false) 7), .bool ((S.difR a b false) == 0), .bool (S.maj (S.big a) (S.big b != true) (S.big (S.difR a b false))), .bool (S.difH a b false), .bool (S.par (S.difR a b false)), .bool (S.difV a b false), .bool (S.difO a b false)]]) (by simp [results, Try.results13, go_sem]) rfl ⟨by first | with_reducible rfl | simp, by (repeat (first | with_reducible exact Adds.refl _ | with_reducible apply Adds.drew | with_reducible apply Adds.drewN | with_reducible apply Adds.alloc | with_reducible apply Adds.more | (with_reducible refine Adds.setCell ?_ ?_ _) | (focus (simp [go_sem]; done)) | (focus (simp [go_sem]; omega))))⟩
set_option maxHeartbeats 1000000 in
set_option maxRecDepth 10000 in
theorem do80_2 (c op a b : Int) (s z k ac p v cy : Bool) (hc : ¬c = 2) (a0 : 0 ≤ a) (a1 : a < 256) (b0 : 0 ≤ b) (b1 : b < 256) (h8 : op % 8 = 2) (w : World) : Calls Try.prog 13 #[.int .i64 c, .int .i64 op, .int .u8 a, .int .u8 b, .agg #[.bool s, .bool z, .bool k, .bool ac, .bool p, .bool v, .bool cy]] w fun e w' => e = .returned (.tuple #[.int .u8 (S.aX op a b cy), .agg #[.bool (S.has (S.aR op a b cy) 7), .bool (S.aR op a b cy == 0), .bool (S.aK c op a b cy), .bool (S.aH c op a b cy), .bool (S.par (S.aR op a b cy)), .bool (S.aV c op a b cy), .bool (S.aO op a b cy)]]) ∧ Adds w w' := by
  have h7 := S.and7 op
  rw [h8] at h7
  obtain ⟨e1, e2, e3, e4, e5, e6⟩ := S.al2 h8 c a b cy
  have e7 := S.aK80 hc op a b cy
  have e8 := S.aV80 hc op a b cy
  rw [e1, e2, e3, e6, e7, e8]
  clear e1 e2 e3 e4 e5 e6 e7 e8 h8
  obtain ⟨r0, r1⟩ := S.difR_bd a b false
  go_enter Try.func13, Try.ntmps13
  go_wp2_with (first | (go_at_call 44; refine (sumc_any _ _ _ _ a0 a1 b0 b1 _ (by simp [go_sem]; rfl)).mono ?_; rintro e w' ⟨rfl, rfl⟩) | (go_at_call 45; refine (difc_any _ _ _ _ a0 a1 b0 b1 _ (by simp [go_sem]; rfl)).mono ?_; rintro e w' ⟨rfl, rfl⟩) | (go_at_call 47; refine (andc_80 _ _ _ hc _ _ (by simp [go_sem]; done)).mono ?_; rintro e w' ⟨rfl, rfl⟩) | (go_at_call 48; refine (logc_xor _ _ _ _ (by simp [go_sem]; done)).mono ?_; rintro e w' ⟨rfl, rfl⟩) | (go_at_call 17; refine (of_any _ r0 r1 _).mono ?_; rintro e w' ⟨rfl, ⟨⟨n1, os1⟩, rfl⟩⟩) | go_in)
  go_region
  all_goals go_wp2_with fail
  all_goals exact bodyPost_ret (v := .tuple #[.int .u8 (S.difR a b false), .agg #[.bool (S.has (S.difR a b false) 7), .bool ((S.difR a b false) == 0), .bool false, .bool (S.difH a b false), .bool (S.par (S.difR a b false)), .bool false, .bool (S.difO a b false)]]) (by simp [results, Try.results13, go_sem]) rfl ⟨by first | with_reducible rfl | simp [hc], by (repeat (first | with_reducible exact Adds.refl _ | with_reducible apply Adds.drew | with_reducible apply Adds.drewN | with_reducible apply Adds.alloc | with_reducible apply Adds.more | (with_reducible refine Adds.setCell ?_ ?_ _) | (focus (simp [go_sem]; done)) | (focus (simp [go_sem]; omega))))⟩
set_option maxHeartbeats 1000000 in
theorem do85_3 (op a b : Int) (s z k ac p v cy : Bool) (a0 : 0 ≤ a) (a1 : a < 256) (b0 : 0 ≤ b) (b1 : b < 256) (h8 : op % 8 = 3) (w : World) : Calls Try.prog 13 #[.int .i64 2, .int .i64 op, .int .u8 a, .int .u8 b, .agg #[.bool s, .bool z, .bool k, .bool ac, .bool p, .bool v, .bool cy]] w fun e w' => e = .returned (.tuple #[.int .u8 (S.aX op a b cy), .agg #[.bool (S.has (S.aR op a b cy) 7), .bool (S.aR op a b cy == 0), .bool (S.aK 2 op a b cy), .bool (S.aH 2 op a b cy), .bool (S.par (S.aR op a b cy)), .bool (S.aV 2 op a b cy), .bool (S.aO op a b cy)]]) ∧ Adds w w' := by
  have h7 := S.and7 op
  rw [h8] at h7
  obtain ⟨e1, e2, e3, e4, e5, e6⟩ := S.al3 h8 2 a b cy
  have e7 := S.aK85 op a b cy
  have e8 := S.aV85 op a b cy
  rw [e1, e5] at e7
  rw [e4] at e8
  rw [e1, e2, e3, e6, e7, e8]
  clear e1 e2 e3 e4 e5 e6 e7 e8 h8
  obtain ⟨r0, r1⟩ := S.difR_bd a b cy
  go_enter Try.func13, Try.ntmps13
  go_wp2_with (first | (go_at_call 44; refine (sumc_any _ _ _ _ a0 a1 b0 b1 _ (by simp [go_sem]; rfl)).mono ?_; rintro e w' ⟨rfl, rfl⟩) | (go_at_call 45; refine (difc_any _ _ _ _ a0 a1 b0 b1 _ (by simp [go_sem]; rfl)).mono ?_; rintro e w' ⟨rfl, rfl⟩) | (go_at_call 47; refine (andc_85 _ _ _ _ (by simp [go_sem]; done)).mono ?_; rintro e w' ⟨rfl, rfl⟩) | (go_at_call 48; refine (logc_xor _ _ _ _ (by simp [go_sem]; done)).mono ?_; rintro e w' ⟨rfl, rfl⟩) | (go_at_call 17; refine (of_any _ r0 r1 _).mono ?_; rintro e w' ⟨rfl, ⟨⟨n1, os1⟩, rfl⟩⟩) | (go_at_call 18; refine (majority_any _ _ _ _).mono ?_; rintro e w' ⟨rfl, rfl⟩) | (go_at_call 26; refine (sign_any _ _).mono ?_; rintro e w' ⟨rfl, rfl⟩) | (go_at_call 27; refine (subtracts_any _ true (by decide) (by decide) rfl _).mono ?_; rintro e w' ⟨rfl, rfl⟩) | go_in)
  go_region
  all_goals go_wp2_with fail
  all_goals exact bodyPost_ret (v := .tuple #[.int .u8 (S.difR a b cy), .agg #[.bool (S.has (S.difR a b cy) 7), .bool ((S.difR a b cy) == 0), .bool (S.maj (S.big a) (S.big b != true) (S.big (S.difR a b cy))), .bool (S.difH a b cy), .bool (S.par (S.difR a b cy)), .bool (S.difV a b cy), .bool (S.difO a b cy)]]) (by simp [results, Try.results13, go_sem]) rfl ⟨by first | with_reducible rfl | simp, by (repeat (first | with_reducible exact Adds.refl _ | with_reducible apply Adds.drew | with_reducible apply Adds.drewN | with_reducible apply Adds.alloc | with_reducible apply Adds.more | (with_reducible refine Adds.setCell ?_ ?_ _) | (focus (simp [go_sem]; done)) | (focus (simp [go_sem]; omega))))⟩
set_option maxHeartbeats 1000000 in
set_option maxRecDepth 10000 in
theorem do80_3 (c op a b : Int) (s z k ac p v cy : Bool) (hc : ¬c = 2) (a0 : 0 ≤ a) (a1 : a < 256) (b0 : 0 ≤ b) (b1 : b < 256) (h8 : op % 8 = 3) (w : World) : Calls Try.prog 13 #[.int .i64 c, .int .i64 op, .int .u8 a, .int .u8 b, .agg #[.bool s, .bool z, .bool k, .bool ac, .bool p, .bool v, .bool cy]] w fun e w' => e = .returned (.tuple #[.int .u8 (S.aX op a b cy), .agg #[.bool (S.has (S.aR op a b cy) 7), .bool (S.aR op a b cy == 0), .bool (S.aK c op a b cy), .bool (S.aH c op a b cy), .bool (S.par (S.aR op a b cy)), .bool (S.aV c op a b cy), .bool (S.aO op a b cy)]]) ∧ Adds w w' := by
  have h7 := S.and7 op
  rw [h8] at h7
  obtain ⟨e1, e2, e3, e4, e5, e6⟩ := S.al3 h8 c a b cy
  have e7 := S.aK80 hc op a b cy
  have e8 := S.aV80 hc op a b cy
  rw [e1, e2, e3, e6, e7, e8]
  clear e1 e2 e3 e4 e5 e6 e7 e8 h8
  obtain ⟨r0, r1⟩ := S.difR_bd a b cy
  go_enter Try.func13, Try.ntmps13
  go_wp2_with (first | (go_at_call 44; refine (sumc_any _ _ _ _ a0 a1 b0 b1 _ (by simp [go_sem]; rfl)).mono ?_; rintro e w' ⟨rfl, rfl⟩) | (go_at_call 45; refine (difc_any _ _ _ _ a0 a1 b0 b1 _ (by simp [go_sem]; rfl)).mono ?_; rintro e w' ⟨rfl, rfl⟩) | (go_at_call 47; refine (andc_80 _ _ _ hc _ _ (by simp [go_sem]; done)).mono ?_; rintro e w' ⟨rfl, rfl⟩) | (go_at_call 48; refine (logc_xor _ _ _ _ (by simp [go_sem]; done)).mono ?_; rintro e w' ⟨rfl, rfl⟩) | (go_at_call 17; refine (of_any _ r0 r1 _).mono ?_; rintro e w' ⟨rfl, ⟨⟨n1, os1⟩, rfl⟩⟩) | go_in)
  go_region
  all_goals go_wp2_with fail
  all_goals exact bodyPost_ret (v := .tuple #[.int .u8 (S.difR a b cy), .agg #[.bool (S.has (S.difR a b cy) 7), .bool ((S.difR a b cy) == 0), .bool false, .bool (S.difH a b cy), .bool (S.par (S.difR a b cy)), .bool false, .bool (S.difO a b cy)]]) (by simp [results, Try.results13, go_sem]) rfl ⟨by first | with_reducible rfl | simp [hc], by (repeat (first | with_reducible exact Adds.refl _ | with_reducible apply Adds.drew | with_reducible apply Adds.drewN | with_reducible apply Adds.alloc | with_reducible apply Adds.more | (with_reducible refine Adds.setCell ?_ ?_ _) | (focus (simp [go_sem]; done)) | (focus (simp [go_sem]; omega))))⟩
set_option maxHeartbeats 1000000 in
theorem do85_4 (op a b : Int) (s z k ac p v cy : Bool) (a0 : 0 ≤ a) (a1 : a < 256) (b0 : 0 ≤ b) (b1 : b < 256) (h8 : op % 8 = 4) (w : World) : Calls Try.prog 13 #[.int .i64 2, .int .i64 op, .int .u8 a, .int .u8 b, .agg #[.bool s, .bool z, .bool k, .bool ac, .bool p, .bool v, .bool cy]] w fun e w' => e = .returned (.tuple #[.int .u8 (S.aX op a b cy), .agg #[.bool (S.has (S.aR op a b cy) 7), .bool (S.aR op a b cy == 0), .bool (S.aK 2 op a b cy), .bool (S.aH 2 op a b cy), .bool (S.par (S.aR op a b cy)), .bool (S.aV 2 op a b cy), .bool (S.aO op a b cy)]]) ∧ Adds w w' := by
  have h7 := S.and7 op
  rw [h8] at h7
  obtain ⟨e1, e2, e3, e4, e5, e6⟩ := S.al4 h8 2 a b cy
  have e7 := S.aK85 op a b cy
  have e8 := S.aV85 op a b cy
  rw [e1, e5] at e7
  rw [e4] at e8
  rw [e1, e2, e3, e6, e7, e8]
  clear e1 e2 e3 e4 e5 e6 e7 e8 h8
  obtain ⟨r0, r1⟩ := S.and_bd a b
  go_enter Try.func13, Try.ntmps13
  go_wp2_with (first | (go_at_call 44; refine (sumc_any _ _ _ _ a0 a1 b0 b1 _ (by simp [go_sem]; rfl)).mono ?_; rintro e w' ⟨rfl, rfl⟩) | (go_at_call 45; refine (difc_any _ _ _ _ a0 a1 b0 b1 _ (by simp [go_sem]; rfl)).mono ?_; rintro e w' ⟨rfl, rfl⟩) | (go_at_call 47; refine (andc_85 _ _ _ _ (by simp [go_sem]; done)).mono ?_; rintro e w' ⟨rfl, rfl⟩) | (go_at_call 48; refine (logc_xor _ _ _ _ (by simp [go_sem]; done)).mono ?_; rintro e w' ⟨rfl, rfl⟩) | (go_at_call 17; refine (of_any _ r0 r1 _).mono ?_; rintro e w' ⟨rfl, ⟨⟨n1, os1⟩, rfl⟩⟩) | (go_at_call 18; refine (majority_any _ _ _ _).mono ?_; rintro e w' ⟨rfl, rfl⟩) | (go_at_call 26; refine (sign_any _ _).mono ?_; rintro e w' ⟨rfl, rfl⟩) | (go_at_call 27; refine (subtracts_any _ false (by decide) (by decide) rfl _).mono ?_; rintro e w' ⟨rfl, rfl⟩) | go_in)
  go_region
  all_goals go_wp2_with fail
  all_goals exact bodyPost_ret (v := .tuple #[.int .u8 ((bits .and .u8 a b)), .agg #[.bool (S.has ((bits .and .u8 a b)) 7), .bool (((bits .and .u8 a b)) == 0), .bool (S.maj (S.big a) (S.big b != false) (S.big ((bits .and .u8 a b)))), .bool (true), .bool (S.par ((bits .and .u8 a b))), .bool (false), .bool (false)]]) (by simp [results, Try.results13, go_sem]) rfl ⟨by first | with_reducible rfl | simp, by (repeat (first | with_reducible exact Adds.refl _ | with_reducible apply Adds.drew | with_reducible apply Adds.drewN | with_reducible apply Adds.alloc | with_reducible apply Adds.more | (with_reducible refine Adds.setCell ?_ ?_ _) | (focus (simp [go_sem]; done)) | (focus (simp [go_sem]; omega))))⟩
set_option maxHeartbeats 1000000 in
set_option maxRecDepth 10000 in
theorem do80_4 (c op a b : Int) (s z k ac p v cy : Bool) (hc : ¬c = 2) (a0 : 0 ≤ a) (a1 : a < 256) (b0 : 0 ≤ b) (b1 : b < 256) (h8 : op % 8 = 4) (w : World) : Calls Try.prog 13 #[.int .i64 c, .int .i64 op, .int .u8 a, .int .u8 b, .agg #[.bool s, .bool z, .bool k, .bool ac, .bool p, .bool v, .bool cy]] w fun e w' => e = .returned (.tuple #[.int .u8 (S.aX op a b cy), .agg #[.bool (S.has (S.aR op a b cy) 7), .bool (S.aR op a b cy == 0), .bool (S.aK c op a b cy), .bool (S.aH c op a b cy), .bool (S.par (S.aR op a b cy)), .bool (S.aV c op a b cy), .bool (S.aO op a b cy)]]) ∧ Adds w w' := by
  have h7 := S.and7 op
  rw [h8] at h7
  obtain ⟨e1, e2, e3, e4, e5, e6⟩ := S.al4 h8 c a b cy
  have e7 := S.aK80 hc op a b cy
  have e8 := S.aV80 hc op a b cy
  rw [e1, e2, e3, e6, e7, e8]
  clear e1 e2 e3 e4 e5 e6 e7 e8 h8
  obtain ⟨r0, r1⟩ := S.and_bd a b
  go_enter Try.func13, Try.ntmps13
  go_wp2_with (first | (go_at_call 44; refine (sumc_any _ _ _ _ a0 a1 b0 b1 _ (by simp [go_sem]; rfl)).mono ?_; rintro e w' ⟨rfl, rfl⟩) | (go_at_call 45; refine (difc_any _ _ _ _ a0 a1 b0 b1 _ (by simp [go_sem]; rfl)).mono ?_; rintro e w' ⟨rfl, rfl⟩) | (go_at_call 47; refine (andc_80 _ _ _ hc _ _ (by simp [go_sem]; done)).mono ?_; rintro e w' ⟨rfl, rfl⟩) | (go_at_call 48; refine (logc_xor _ _ _ _ (by simp [go_sem]; done)).mono ?_; rintro e w' ⟨rfl, rfl⟩) | (go_at_call 17; refine (of_any _ r0 r1 _).mono ?_; rintro e w' ⟨rfl, ⟨⟨n1, os1⟩, rfl⟩⟩) | go_in)
  go_region
  all_goals go_wp2_with fail
  all_goals exact bodyPost_ret (v := .tuple #[.int .u8 ((bits .and .u8 a b)), .agg #[.bool (S.has ((bits .and .u8 a b)) 7), .bool (((bits .and .u8 a b)) == 0), .bool false, .bool ((bits .and .u8 (bits .or .u8 a b) 8 != 0)), .bool (S.par ((bits .and .u8 a b))), .bool false, .bool (false)]]) (by simp [results, Try.results13, go_sem]) rfl ⟨by first | with_reducible rfl | simp [hc], by (repeat (first | with_reducible exact Adds.refl _ | with_reducible apply Adds.drew | with_reducible apply Adds.drewN | with_reducible apply Adds.alloc | with_reducible apply Adds.more | (with_reducible refine Adds.setCell ?_ ?_ _) | (focus (simp [go_sem]; done)) | (focus (simp [go_sem]; omega))))⟩
set_option maxHeartbeats 1000000 in
theorem do85_5 (op a b : Int) (s z k ac p v cy : Bool) (a0 : 0 ≤ a) (a1 : a < 256) (b0 : 0 ≤ b) (b1 : b < 256) (h8 : op % 8 = 5) (w : World) : Calls Try.prog 13 #[.int .i64 2, .int .i64 op, .int .u8 a, .int .u8 b, .agg #[.bool s, .bool z, .bool k, .bool ac, .bool p, .bool v, .bool cy]] w fun e w' => e = .returned (.tuple #[.int .u8 (S.aX op a b cy), .agg #[.bool (S.has (S.aR op a b cy) 7), .bool (S.aR op a b cy == 0), .bool (S.aK 2 op a b cy), .bool (S.aH 2 op a b cy), .bool (S.par (S.aR op a b cy)), .bool (S.aV 2 op a b cy), .bool (S.aO op a b cy)]]) ∧ Adds w w' := by
  have h7 := S.and7 op
  rw [h8] at h7
  obtain ⟨e1, e2, e3, e4, e5, e6⟩ := S.al5 h8 2 a b cy
  have e7 := S.aK85 op a b cy
  have e8 := S.aV85 op a b cy
  rw [e1, e5] at e7
  rw [e4] at e8
  rw [e1, e2, e3, e6, e7, e8]
  clear e1 e2 e3 e4 e5 e6 e7 e8 h8
  obtain ⟨r0, r1⟩ := S.xor_bd a b
  go_enter Try.func13, Try.ntmps13
  go_wp2_with (first | (go_at_call 44; refine (sumc_any _ _ _ _ a0 a1 b0 b1 _ (by simp [go_sem]; rfl)).mono ?_; rintro e w' ⟨rfl, rfl⟩) | (go_at_call 45; refine (difc_any _ _ _ _ a0 a1 b0 b1 _ (by simp [go_sem]; rfl)).mono ?_; rintro e w' ⟨rfl, rfl⟩) | (go_at_call 47; refine (andc_85 _ _ _ _ (by simp [go_sem]; done)).mono ?_; rintro e w' ⟨rfl, rfl⟩) | (go_at_call 48; refine (logc_xor _ _ _ _ (by simp [go_sem]; done)).mono ?_; rintro e w' ⟨rfl, rfl⟩) | (go_at_call 17; refine (of_any _ r0 r1 _).mono ?_; rintro e w' ⟨rfl, ⟨⟨n1, os1⟩, rfl⟩⟩) | (go_at_call 18; refine (majority_any _ _ _ _).mono ?_; rintro e w' ⟨rfl, rfl⟩) | (go_at_call 26; refine (sign_any _ _).mono ?_; rintro e w' ⟨rfl, rfl⟩) | (go_at_call 27; refine (subtracts_any _ false (by decide) (by decide) rfl _).mono ?_; rintro e w' ⟨rfl, rfl⟩) | go_in)
  go_region
  all_goals go_wp2_with fail
  all_goals exact bodyPost_ret (v := .tuple #[.int .u8 ((bits .xor .u8 a b)), .agg #[.bool (S.has ((bits .xor .u8 a b)) 7), .bool (((bits .xor .u8 a b)) == 0), .bool (S.maj (S.big a) (S.big b != false) (S.big ((bits .xor .u8 a b)))), .bool (false), .bool (S.par ((bits .xor .u8 a b))), .bool (false), .bool (false)]]) (by simp [results, Try.results13, go_sem]) rfl ⟨by first | with_reducible rfl | simp, by (repeat (first | with_reducible exact Adds.refl _ | with_reducible apply Adds.drew | with_reducible apply Adds.drewN | with_reducible apply Adds.alloc | with_reducible apply Adds.more | (with_reducible refine Adds.setCell ?_ ?_ _) | (focus (simp [go_sem]; done)) | (focus (simp [go_sem]; omega))))⟩
set_option maxHeartbeats 1000000 in
set_option maxRecDepth 10000 in
theorem do80_5 (c op a b : Int) (s z k ac p v cy : Bool) (hc : ¬c = 2) (a0 : 0 ≤ a) (a1 : a < 256) (b0 : 0 ≤ b) (b1 : b < 256) (h8 : op % 8 = 5) (w : World) : Calls Try.prog 13 #[.int .i64 c, .int .i64 op, .int .u8 a, .int .u8 b, .agg #[.bool s, .bool z, .bool k, .bool ac, .bool p, .bool v, .bool cy]] w fun e w' => e = .returned (.tuple #[.int .u8 (S.aX op a b cy), .agg #[.bool (S.has (S.aR op a b cy) 7), .bool (S.aR op a b cy == 0), .bool (S.aK c op a b cy), .bool (S.aH c op a b cy), .bool (S.par (S.aR op a b cy)), .bool (S.aV c op a b cy), .bool (S.aO op a b cy)]]) ∧ Adds w w' := by
  have h7 := S.and7 op
  rw [h8] at h7
  obtain ⟨e1, e2, e3, e4, e5, e6⟩ := S.al5 h8 c a b cy
  have e7 := S.aK80 hc op a b cy
  have e8 := S.aV80 hc op a b cy
  rw [e1, e2, e3, e6, e7, e8]
  clear e1 e2 e3 e4 e5 e6 e7 e8 h8
  obtain ⟨r0, r1⟩ := S.xor_bd a b
  go_enter Try.func13, Try.ntmps13
  go_wp2_with (first | (go_at_call 44; refine (sumc_any _ _ _ _ a0 a1 b0 b1 _ (by simp [go_sem]; rfl)).mono ?_; rintro e w' ⟨rfl, rfl⟩) | (go_at_call 45; refine (difc_any _ _ _ _ a0 a1 b0 b1 _ (by simp [go_sem]; rfl)).mono ?_; rintro e w' ⟨rfl, rfl⟩) | (go_at_call 47; refine (andc_80 _ _ _ hc _ _ (by simp [go_sem]; done)).mono ?_; rintro e w' ⟨rfl, rfl⟩) | (go_at_call 48; refine (logc_xor _ _ _ _ (by simp [go_sem]; done)).mono ?_; rintro e w' ⟨rfl, rfl⟩) | (go_at_call 17; refine (of_any _ r0 r1 _).mono ?_; rintro e w' ⟨rfl, ⟨⟨n1, os1⟩, rfl⟩⟩) | go_in)
  go_region
  all_goals go_wp2_with fail
  all_goals exact bodyPost_ret (v := .tuple #[.int .u8 ((bits .xor .u8 a b)), .agg #[.bool (S.has ((bits .xor .u8 a b)) 7), .bool (((bits .xor .u8 a b)) == 0), .bool false, .bool (false), .bool (S.par ((bits .xor .u8 a b))), .bool false, .bool (false)]]) (by simp [results, Try.results13, go_sem]) rfl ⟨by first | with_reducible rfl | simp [hc], by (repeat (first | with_reducible exact Adds.refl _ | with_reducible apply Adds.drew | with_reducible apply Adds.drewN | with_reducible apply Adds.alloc | with_reducible apply Adds.more | (with_reducible refine Adds.setCell ?_ ?_ _) | (focus (simp [go_sem]; done)) | (focus (simp [go_sem]; omega))))⟩
set_option maxHeartbeats 1000000 in
theorem do85_6 (op a b : Int) (s z k ac p v cy : Bool) (a0 : 0 ≤ a) (a1 : a < 256) (b0 : 0 ≤ b) (b1 : b < 256) (h8 : op % 8 = 6) (w : World) : Calls Try.prog 13 #[.int .i64 2, .int .i64 op, .int .u8 a, .int .u8 b, .agg #[.bool s, .bool z, .bool k, .bool ac, .bool p, .bool v, .bool cy]] w fun e w' => e = .returned (.tuple #[.int .u8 (S.aX op a b cy), .agg #[.bool (S.has (S.aR op a b cy) 7), .bool (S.aR op a b cy == 0), .bool (S.aK 2 op a b cy), .bool (S.aH 2 op a b cy), .bool (S.par (S.aR op a b cy)), .bool (S.aV 2 op a b cy), .bool (S.aO op a b cy)]]) ∧ Adds w w' := by
  have h7 := S.and7 op
  rw [h8] at h7
  obtain ⟨e1, e2, e3, e4, e5, e6⟩ := S.al6 h8 2 a b cy
  have e7 := S.aK85 op a b cy
  have e8 := S.aV85 op a b cy
  rw [e1, e5] at e7
  rw [e4] at e8
  rw [e1, e2, e3, e6, e7, e8]
  clear e1 e2 e3 e4 e5 e6 e7 e8 h8
  obtain ⟨r0, r1⟩ := S.or_bd a b
  go_enter Try.func13, Try.ntmps13
  go_wp2_with (first | (go_at_call 44; refine (sumc_any _ _ _ _ a0 a1 b0 b1 _ (by simp [go_sem]; rfl)).mono ?_; rintro e w' ⟨rfl, rfl⟩) | (go_at_call 45; refine (difc_any _ _ _ _ a0 a1 b0 b1 _ (by simp [go_sem]; rfl)).mono ?_; rintro e w' ⟨rfl, rfl⟩) | (go_at_call 47; refine (andc_85 _ _ _ _ (by simp [go_sem]; done)).mono ?_; rintro e w' ⟨rfl, rfl⟩) | (go_at_call 48; refine (logc_or _ _ _ _ (by simp [go_sem]; done)).mono ?_; rintro e w' ⟨rfl, rfl⟩) | (go_at_call 17; refine (of_any _ r0 r1 _).mono ?_; rintro e w' ⟨rfl, ⟨⟨n1, os1⟩, rfl⟩⟩) | (go_at_call 18; refine (majority_any _ _ _ _).mono ?_; rintro e w' ⟨rfl, rfl⟩) | (go_at_call 26; refine (sign_any _ _).mono ?_; rintro e w' ⟨rfl, rfl⟩) | (go_at_call 27; refine (subtracts_any _ false (by decide) (by decide) rfl _).mono ?_; rintro e w' ⟨rfl, rfl⟩) | go_in)
  go_region
  all_goals go_wp2_with fail
  all_goals exact bodyPost_ret (v := .tuple #[.int .u8 ((bits .or .u8 a b)), .agg #[.bool (S.has ((bits .or .u8 a b)) 7), .bool (((bits .or .u8 a b)) == 0), .bool (S.maj (S.big a) (S.big b != false) (S.big ((bits .or .u8 a b)))), .bool (false), .bool (S.par ((bits .or .u8 a b))), .bool (false), .bool (false)]]) (by simp [results, Try.results13, go_sem]) rfl ⟨by first | with_reducible rfl | simp, by (repeat (first | with_reducible exact Adds.refl _ | with_reducible apply Adds.drew | with_reducible apply Adds.drewN | with_reducible apply Adds.alloc | with_reducible apply Adds.more | (with_reducible refine Adds.setCell ?_ ?_ _) | (focus (simp [go_sem]; done)) | (focus (simp [go_sem]; omega))))⟩
set_option maxHeartbeats 1000000 in
set_option maxRecDepth 10000 in
theorem do80_6 (c op a b : Int) (s z k ac p v cy : Bool) (hc : ¬c = 2) (a0 : 0 ≤ a) (a1 : a < 256) (b0 : 0 ≤ b) (b1 : b < 256) (h8 : op % 8 = 6) (w : World) : Calls Try.prog 13 #[.int .i64 c, .int .i64 op, .int .u8 a, .int .u8 b, .agg #[.bool s, .bool z, .bool k, .bool ac, .bool p, .bool v, .bool cy]] w fun e w' => e = .returned (.tuple #[.int .u8 (S.aX op a b cy), .agg #[.bool (S.has (S.aR op a b cy) 7), .bool (S.aR op a b cy == 0), .bool (S.aK c op a b cy), .bool (S.aH c op a b cy), .bool (S.par (S.aR op a b cy)), .bool (S.aV c op a b cy), .bool (S.aO op a b cy)]]) ∧ Adds w w' := by
  have h7 := S.and7 op
  rw [h8] at h7
  obtain ⟨e1, e2, e3, e4, e5, e6⟩ := S.al6 h8 c a b cy
  have e7 := S.aK80 hc op a b cy
  have e8 := S.aV80 hc op a b cy
  rw [e1, e2, e3, e6, e7, e8]
  clear e1 e2 e3 e4 e5 e6 e7 e8 h8
  obtain ⟨r0, r1⟩ := S.or_bd a b
  go_enter Try.func13, Try.ntmps13
  go_wp2_with (first | (go_at_call 44; refine (sumc_any _ _ _ _ a0 a1 b0 b1 _ (by simp [go_sem]; rfl)).mono ?_; rintro e w' ⟨rfl, rfl⟩) | (go_at_call 45; refine (difc_any _ _ _ _ a0 a1 b0 b1 _ (by simp [go_sem]; rfl)).mono ?_; rintro e w' ⟨rfl, rfl⟩) | (go_at_call 47; refine (andc_80 _ _ _ hc _ _ (by simp [go_sem]; done)).mono ?_; rintro e w' ⟨rfl, rfl⟩) | (go_at_call 48; refine (logc_or _ _ _ _ (by simp [go_sem]; done)).mono ?_; rintro e w' ⟨rfl, rfl⟩) | (go_at_call 17; refine (of_any _ r0 r1 _).mono ?_; rintro e w' ⟨rfl, ⟨⟨n1, os1⟩, rfl⟩⟩) | go_in)
  go_region
  all_goals go_wp2_with fail
  all_goals exact bodyPost_ret (v := .tuple #[.int .u8 ((bits .or .u8 a b)), .agg #[.bool (S.has ((bits .or .u8 a b)) 7), .bool (((bits .or .u8 a b)) == 0), .bool false, .bool (false), .bool (S.par ((bits .or .u8 a b))), .bool false, .bool (false)]]) (by simp [results, Try.results13, go_sem]) rfl ⟨by first | with_reducible rfl | simp [hc], by (repeat (first | with_reducible exact Adds.refl _ | with_reducible apply Adds.drew | with_reducible apply Adds.drewN | with_reducible apply Adds.alloc | with_reducible apply Adds.more | (with_reducible refine Adds.setCell ?_ ?_ _) | (focus (simp [go_sem]; done)) | (focus (simp [go_sem]; omega))))⟩
set_option maxHeartbeats 1000000 in
theorem do85_7 (op a b : Int) (s z k ac p v cy : Bool) (a0 : 0 ≤ a) (a1 : a < 256) (b0 : 0 ≤ b) (b1 : b < 256) (h8 : op % 8 = 7) (w : World) : Calls Try.prog 13 #[.int .i64 2, .int .i64 op, .int .u8 a, .int .u8 b, .agg #[.bool s, .bool z, .bool k, .bool ac, .bool p, .bool v, .bool cy]] w fun e w' => e = .returned (.tuple #[.int .u8 (S.aX op a b cy), .agg #[.bool (S.has (S.aR op a b cy) 7), .bool (S.aR op a b cy == 0), .bool (S.aK 2 op a b cy), .bool (S.aH 2 op a b cy), .bool (S.par (S.aR op a b cy)), .bool (S.aV 2 op a b cy), .bool (S.aO op a b cy)]]) ∧ Adds w w' := by
  have h7 := S.and7 op
  rw [h8] at h7
  obtain ⟨e1, e2, e3, e4, e5, e6⟩ := S.al7 h8 2 a b cy
  have e7 := S.aK85 op a b cy
  have e8 := S.aV85 op a b cy
  rw [e1, e5] at e7
  rw [e4] at e8
  rw [e1, e2, e3, e6, e7, e8]
  clear e1 e2 e3 e4 e5 e6 e7 e8 h8
  obtain ⟨r0, r1⟩ := S.difR_bd a b false
  go_enter Try.func13, Try.ntmps13
  go_wp2_with (first | (go_at_call 44; refine (sumc_any _ _ _ _ a0 a1 b0 b1 _ (by simp [go_sem]; rfl)).mono ?_; rintro e w' ⟨rfl, rfl⟩) | (go_at_call 45; refine (difc_any _ _ _ _ a0 a1 b0 b1 _ (by simp [go_sem]; rfl)).mono ?_; rintro e w' ⟨rfl, rfl⟩) | (go_at_call 47; refine (andc_85 _ _ _ _ (by simp [go_sem]; done)).mono ?_; rintro e w' ⟨rfl, rfl⟩) | (go_at_call 48; refine (logc_xor _ _ _ _ (by simp [go_sem]; done)).mono ?_; rintro e w' ⟨rfl, rfl⟩) | (go_at_call 17; refine (of_any _ r0 r1 _).mono ?_; rintro e w' ⟨rfl, ⟨⟨n1, os1⟩, rfl⟩⟩) | (go_at_call 18; refine (majority_any _ _ _ _).mono ?_; rintro e w' ⟨rfl, rfl⟩) | (go_at_call 26; refine (sign_any _ _).mono ?_; rintro e w' ⟨rfl, rfl⟩) | (go_at_call 27; refine (subtracts_any _ true (by decide) (by decide) rfl _).mono ?_; rintro e w' ⟨rfl, rfl⟩) | go_in)
  go_region
  all_goals go_wp2_with fail
  all_goals exact bodyPost_ret (v := .tuple #[.int .u8 (a), .agg #[.bool (S.has (S.difR a b false) 7), .bool ((S.difR a b false) == 0), .bool (S.maj (S.big a) (S.big b != true) (S.big (S.difR a b false))), .bool (S.difH a b false), .bool (S.par (S.difR a b false)), .bool (S.difV a b false), .bool (S.difO a b false)]]) (by simp [results, Try.results13, go_sem]) rfl ⟨by first | with_reducible rfl | simp, by (repeat (first | with_reducible exact Adds.refl _ | with_reducible apply Adds.drew | with_reducible apply Adds.drewN | with_reducible apply Adds.alloc | with_reducible apply Adds.more | (with_reducible refine Adds.setCell ?_ ?_ _) | (focus (simp [go_sem]; done)) | (focus (simp [go_sem]; omega))))⟩
set_option maxHeartbeats 1000000 in
set_option maxRecDepth 10000 in
theorem do80_7 (c op a b : Int) (s z k ac p v cy : Bool) (hc : ¬c = 2) (a0 : 0 ≤ a) (a1 : a < 256) (b0 : 0 ≤ b) (b1 : b < 256) (h8 : op % 8 = 7) (w : World) : Calls Try.prog 13 #[.int .i64 c, .int .i64 op, .int .u8 a, .int .u8 b, .agg #[.bool s, .bool z, .bool k, .bool ac, .bool p, .bool v, .bool cy]] w fun e w' => e = .returned (.tuple #[.int .u8 (S.aX op a b cy), .agg #[.bool (S.has (S.aR op a b cy) 7), .bool (S.aR op a b cy == 0), .bool (S.aK c op a b cy), .bool (S.aH c op a b cy), .bool (S.par (S.aR op a b cy)), .bool (S.aV c op a b cy), .bool (S.aO op a b cy)]]) ∧ Adds w w' := by
  have h7 := S.and7 op
  rw [h8] at h7
  obtain ⟨e1, e2, e3, e4, e5, e6⟩ := S.al7 h8 c a b cy
  have e7 := S.aK80 hc op a b cy
  have e8 := S.aV80 hc op a b cy
  rw [e1, e2, e3, e6, e7, e8]
  clear e1 e2 e3 e4 e5 e6 e7 e8 h8
  obtain ⟨r0, r1⟩ := S.difR_bd a b false
  go_enter Try.func13, Try.ntmps13
  go_wp2_with (first | (go_at_call 44; refine (sumc_any _ _ _ _ a0 a1 b0 b1 _ (by simp [go_sem]; rfl)).mono ?_; rintro e w' ⟨rfl, rfl⟩) | (go_at_call 45; refine (difc_any _ _ _ _ a0 a1 b0 b1 _ (by simp [go_sem]; rfl)).mono ?_; rintro e w' ⟨rfl, rfl⟩) | (go_at_call 47; refine (andc_80 _ _ _ hc _ _ (by simp [go_sem]; done)).mono ?_; rintro e w' ⟨rfl, rfl⟩) | (go_at_call 48; refine (logc_xor _ _ _ _ (by simp [go_sem]; done)).mono ?_; rintro e w' ⟨rfl, rfl⟩) | (go_at_call 17; refine (of_any _ r0 r1 _).mono ?_; rintro e w' ⟨rfl, ⟨⟨n1, os1⟩, rfl⟩⟩) | go_in)
  go_region
  all_goals go_wp2_with fail
  all_goals exact bodyPost_ret (v := .tuple #[.int .u8 (a), .agg #[.bool (S.has (S.difR a b false) 7), .bool ((S.difR a b false) == 0), .bool false, .bool (S.difH a b false), .bool (S.par (S.difR a b false)), .bool false, .bool (S.difO a b false)]]) (by simp [results, Try.results13, go_sem]) rfl ⟨by first | with_reducible rfl | simp [hc], by (repeat (first | with_reducible exact Adds.refl _ | with_reducible apply Adds.drew | with_reducible apply Adds.drewN | with_reducible apply Adds.alloc | with_reducible apply Adds.more | (with_reducible refine Adds.setCell ?_ ?_ _) | (focus (simp [go_sem]; done)) | (focus (simp [go_sem]; omega))))⟩
theorem do_any (c op a b : Int) (s z k ac p v cy : Bool) (a0 : 0 ≤ a) (a1 : a < 256) (b0 : 0 ≤ b) (b1 : b < 256) (w : World) : Calls Try.prog 13 #[.int .i64 c, .int .i64 op, .int .u8 a, .int .u8 b, .agg #[.bool s, .bool z, .bool k, .bool ac, .bool p, .bool v, .bool cy]] w fun e w' => e = .returned (.tuple #[.int .u8 (S.aX op a b cy), .agg #[.bool (S.has (S.aR op a b cy) 7), .bool (S.aR op a b cy == 0), .bool (S.aK c op a b cy), .bool (S.aH c op a b cy), .bool (S.par (S.aR op a b cy)), .bool (S.aV c op a b cy), .bool (S.aO op a b cy)]]) ∧ Adds w w' := by
  by_cases hc : c = 2
  · subst hc
    rcases (by omega : op % 8 = 0 ∨ op % 8 = 1 ∨ op % 8 = 2 ∨ op % 8 = 3 ∨ op % 8 = 4 ∨ op % 8 = 5 ∨ op % 8 = 6 ∨ op % 8 = 7) with h | h | h | h | h | h | h | h
    · exact do85_0 op a b s z k ac p v cy a0 a1 b0 b1 h w
    · exact do85_1 op a b s z k ac p v cy a0 a1 b0 b1 h w
    · exact do85_2 op a b s z k ac p v cy a0 a1 b0 b1 h w
    · exact do85_3 op a b s z k ac p v cy a0 a1 b0 b1 h w
    · exact do85_4 op a b s z k ac p v cy a0 a1 b0 b1 h w
    · exact do85_5 op a b s z k ac p v cy a0 a1 b0 b1 h w
    · exact do85_6 op a b s z k ac p v cy a0 a1 b0 b1 h w
    · exact do85_7 op a b s z k ac p v cy a0 a1 b0 b1 h w
  · rcases (by omega : op % 8 = 0 ∨ op % 8 = 1 ∨ op % 8 = 2 ∨ op % 8 = 3 ∨ op % 8 = 4 ∨ op % 8 = 5 ∨ op % 8 = 6 ∨ op % 8 = 7) with h | h | h | h | h | h | h | h
    · exact do80_0 c op a b s z k ac p v cy hc a0 a1 b0 b1 h w
    · exact do80_1 c op a b s z k ac p v cy hc a0 a1 b0 b1 h w
    · exact do80_2 c op a b s z k ac p v cy hc a0 a1 b0 b1 h w
    · exact do80_3 c op a b s z k ac p v cy hc a0 a1 b0 b1 h w
    · exact do80_4 c op a b s z k ac p v cy hc a0 a1 b0 b1 h w
    · exact do80_5 c op a b s z k ac p v cy hc a0 a1 b0 b1 h w
    · exact do80_6 c op a b s z k ac p v cy hc a0 a1 b0 b1 h w
    · exact do80_7 c op a b s z k ac p v cy hc a0 a1 b0 b1 h w
end Go.Proofs.Ythjlegljhflejaa
