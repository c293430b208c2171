/- Contracts of package regs and of the reference's chapter 8 on pairs and the word of A and the flags: each returns the plain functions' values and leaves what was there alone. Conditions: bytes are from 0 to 255, words from 0 to 65535. -/
import Derived.Test.YtkoonimngcpdjaaC8g
import Derived.Test.YtkoonimngcpdjaaC8s
import Derived.Test.YtkoonimngcpdjaaC8r
namespace Go.Proofs.Ytkoonimngcpdjaa
open Go.ChangeShapes Go.WideShapes Go.ChangeAt Go.RowKit
set_option linter.unusedVariables false
theorem issp_any (n j : Int) (h : n % 4 = j) (w : World) : Calls Try.prog 22 #[.int .i64 n] w fun e w' => e = .returned (.bool (decide (j = 3))) ∧ w = w' := by
  have m := S.and3 n
  rw [h] at m
  go_enter Try.func22, Try.ntmps22
  go_wp2_with fail
  go_ret
  exact ⟨rfl, rfl⟩
theorem halves_any (n j : Int) (h : n % 4 = j) (w : World) : Calls Try.prog 23 #[.int .i64 n] w fun e w' => e = .returned (.tuple #[.int .i64 (2 * j), .int .i64 (2 * j + 1)]) ∧ w = w' := by
  have m := S.and3 n
  rw [h] at m
  have j0 : 0 ≤ j := by omega
  have j1 : j < 4 := by omega
  clear h
  go_enter Try.func23, Try.ntmps23
  go_wp2_with fail
  exact bodyPost_ret (v := .tuple #[.int .i64 (2 * j), .int .i64 (2 * j + 1)]) (by simp [results, Try.results23, go_sem]) rfl ⟨rfl, rfl⟩
set_option maxHeartbeats 1000000 in
theorem pair_any (rA rB rC rD rE rH rL : Int) (rS rZ rK rAC rP rV rCY : Bool) (rSP rPC : Int) (n : Int) (b0 : 0 ≤ rB) (b1 : rB < 256) (c0 : 0 ≤ rC) (c1 : rC < 256) (d0 : 0 ≤ rD) (d1 : rD < 256) (e0 : 0 ≤ rE) (e1 : rE < 256) (h0 : 0 ≤ rH) (h1 : rH < 256) (l0 : 0 ≤ rL) (l1 : rL < 256) (w : World) : Calls Try.prog 10 #[.agg #[.int .u8 rA, .int .u8 rB, .int .u8 rC, .int .u8 rD, .int .u8 rE, .int .u8 rH, .int .u8 rL, .bool rS, .bool rZ, .bool rK, .bool rAC, .bool rP, .bool rV, .bool rCY, .int .u16 rSP, .int .u16 rPC], .int .i64 n] w fun e w' => e = .returned (.int .u16 (S.pr n rB rC rD rE rH rL rSP)) ∧ Adds w w' := by
  rcases (by omega : n % 4 = 0 ∨ n % 4 = 1 ∨ n % 4 = 2 ∨ n % 4 = 3) with h | h | h | h
  · have g1 : S.rg 0 rA rB rC rD rE rH rL = rB := S.rg_0 rfl ..
    have g2 : S.rg 1 rA rB rC rD rE rH rL = rC := S.rg_1 rfl ..
    rw [S.pr_0 h]
    go_enter Try.func10, Try.ntmps10
    go_wp2_with (first | (go_at_call 22; refine (issp_any _ 0 h _).mono ?_; rintro e w' ⟨rfl, rfl⟩) | (go_at_call 23; refine (halves_any _ 0 h _).mono ?_; rintro e w' ⟨rfl, rfl⟩))
    refine wp_region_adds (by kernel_rfl) (by kernel_rfl) ?_
    repeat (go_big_quiet_step (first | (go_at_call 8; exact calls_adds (get_any _ _ _ _ _ _ _ _ _ _ _ _ _ _ _ _ _ _)) | (go_at_call 24; exact calls_same (join_any _ _ b0 b1 c0 c1 _))))
    refine wpQuiet_nil ?_
    intro _ hw1
    obtain ⟨⟨nq, osq⟩, hw2⟩ := hw1
    subst hw2
    go_wp2_with fail
    go_ret
    exact ⟨rfl, by (repeat (first | with_reducible exact Adds.refl _ | with_reducible apply Adds.drew | with_reducible apply Adds.drewN | with_reducible apply Adds.alloc | with_reducible apply Adds.more | (with_reducible refine Adds.setCell ?_ ?_ _) | (focus (simp [go_sem]; done)) | (focus (simp [go_sem]; omega))))⟩
  · have g1 : S.rg 2 rA rB rC rD rE rH rL = rD := S.rg_2 rfl ..
    have g2 : S.rg 3 rA rB rC rD rE rH rL = rE := S.rg_3 rfl ..
    rw [S.pr_1 h]
    go_enter Try.func10, Try.ntmps10
    go_wp2_with (first | (go_at_call 22; refine (issp_any _ 1 h _).mono ?_; rintro e w' ⟨rfl, rfl⟩) | (go_at_call 23; refine (halves_any _ 1 h _).mono ?_; rintro e w' ⟨rfl, rfl⟩))
    refine wp_region_adds (by kernel_rfl) (by kernel_rfl) ?_
    repeat (go_big_quiet_step (first | (go_at_call 8; exact calls_adds (get_any _ _ _ _ _ _ _ _ _ _ _ _ _ _ _ _ _ _)) | (go_at_call 24; exact calls_same (join_any _ _ d0 d1 e0 e1 _))))
    refine wpQuiet_nil ?_
    intro _ hw1
    obtain ⟨⟨nq, osq⟩, hw2⟩ := hw1
    subst hw2
    go_wp2_with fail
    go_ret
    exact ⟨rfl, by (repeat (first | with_reducible exact Adds.refl _ | with_reducible apply Adds.drew | with_reducible apply Adds.drewN | with_reducible apply Adds.alloc | with_reducible apply Adds.more | (with_reducible refine Adds.setCell ?_ ?_ _) | (focus (simp [go_sem]; done)) | (focus (simp [go_sem]; omega))))⟩
  · have g1 : S.rg 4 rA rB rC rD rE rH rL = rH := S.rg_4 rfl ..
    have g2 : S.rg 5 rA rB rC rD rE rH rL = rL := S.rg_5 rfl ..
    rw [S.pr_2 h]
    go_enter Try.func10, Try.ntmps10
    go_wp2_with (first | (go_at_call 22; refine (issp_any _ 2 h _).mono ?_; rintro e w' ⟨rfl, rfl⟩) | (go_at_call 23; refine (halves_any _ 2 h _).mono ?_; rintro e w' ⟨rfl, rfl⟩))
    refine wp_region_adds (by kernel_rfl) (by kernel_rfl) ?_
    repeat (go_big_quiet_step (first | (go_at_call 8; exact calls_adds (get_any _ _ _ _ _ _ _ _ _ _ _ _ _ _ _ _ _ _)) | (go_at_call 24; exact calls_same (join_any _ _ h0 h1 l0 l1 _))))
    refine wpQuiet_nil ?_
    intro _ hw1
    obtain ⟨⟨nq, osq⟩, hw2⟩ := hw1
    subst hw2
    go_wp2_with fail
    go_ret
    exact ⟨rfl, by (repeat (first | with_reducible exact Adds.refl _ | with_reducible apply Adds.drew | with_reducible apply Adds.drewN | with_reducible apply Adds.alloc | with_reducible apply Adds.more | (with_reducible refine Adds.setCell ?_ ?_ _) | (focus (simp [go_sem]; done)) | (focus (simp [go_sem]; omega))))⟩
  · rw [S.pr_3 h]
    go_enter Try.func10, Try.ntmps10
    go_wp2_with (first | (go_at_call 22; refine (issp_any _ 3 h _).mono ?_; rintro e w' ⟨rfl, rfl⟩))
    go_ret
    exact ⟨rfl, by (repeat (first | with_reducible exact Adds.refl _ | with_reducible apply Adds.drew | with_reducible apply Adds.drewN | with_reducible apply Adds.alloc | with_reducible apply Adds.more | (with_reducible refine Adds.setCell ?_ ?_ _) | (focus (simp [go_sem]; done)) | (focus (simp [go_sem]; omega))))⟩
set_option maxHeartbeats 1000000 in
theorem rpair_any (rA rB rC rD rE rH rL : Int) (rS rZ rK rAC rP rV rCY : Bool) (rSP rPC : Int) (n : Int) (b0 : 0 ≤ rB) (b1 : rB < 256) (c0 : 0 ≤ rC) (c1 : rC < 256) (d0 : 0 ≤ rD) (d1 : rD < 256) (e0 : 0 ≤ rE) (e1 : rE < 256) (h0 : 0 ≤ rH) (h1 : rH < 256) (l0 : 0 ≤ rL) (l1 : rL < 256) (w : World) : Calls Try.prog 11 #[.agg #[.int .u8 rA, .int .u8 rB, .int .u8 rC, .int .u8 rD, .int .u8 rE, .int .u8 rH, .int .u8 rL, .bool rS, .bool rZ, .bool rK, .bool rAC, .bool rP, .bool rV, .bool rCY, .int .u16 rSP, .int .u16 rPC], .int .i64 n] w fun e w' => e = .returned (.int .u16 (S.pr n rB rC rD rE rH rL rSP)) ∧ Adds w w' := by
  have m := S.and3 n
  rcases (by omega : n % 4 = 0 ∨ n % 4 = 1 ∨ n % 4 = 2 ∨ n % 4 = 3) with h | h | h | h
  · have g1 : S.rg 0 rA rB rC rD rE rH rL = rB := S.rg_0 rfl ..
    have g2 : S.rg 1 rA rB rC rD rE rH rL = rC := S.rg_1 rfl ..
    rw [S.pr_0 h]
    rw [h] at m
    clear h
    go_enter Try.func11, Try.ntmps11
    go_wp2_with fail
    refine wp_region_adds (by kernel_rfl) (by kernel_rfl) ?_
    repeat (go_big_quiet_step (first | (go_at_call 9; exact calls_adds (rget_any _ _ _ _ _ _ _ _ _ _ _ _ _ _ _ _ _ _)) | (go_at_call 25; exact calls_same (rjoin_any _ _ b0 b1 c0 c1 _))))
    refine wpQuiet_nil ?_
    intro _ hw1
    obtain ⟨⟨nq, osq⟩, hw2⟩ := hw1
    subst hw2
    go_wp2_with fail
    go_ret
    exact ⟨rfl, by (repeat (first | with_reducible exact Adds.refl _ | with_reducible apply Adds.drew | with_reducible apply Adds.drewN | with_reducible apply Adds.alloc | with_reducible apply Adds.more | (with_reducible refine Adds.setCell ?_ ?_ _) | (focus (simp [go_sem]; done)) | (focus (simp [go_sem]; omega))))⟩
  · have g1 : S.rg 2 rA rB rC rD rE rH rL = rD := S.rg_2 rfl ..
    have g2 : S.rg 3 rA rB rC rD rE rH rL = rE := S.rg_3 rfl ..
    rw [S.pr_1 h]
    rw [h] at m
    clear h
    go_enter Try.func11, Try.ntmps11
    go_wp2_with fail
    refine wp_region_adds (by kernel_rfl) (by kernel_rfl) ?_
    repeat (go_big_quiet_step (first | (go_at_call 9; exact calls_adds (rget_any _ _ _ _ _ _ _ _ _ _ _ _ _ _ _ _ _ _)) | (go_at_call 25; exact calls_same (rjoin_any _ _ d0 d1 e0 e1 _))))
    refine wpQuiet_nil ?_
    intro _ hw1
    obtain ⟨⟨nq, osq⟩, hw2⟩ := hw1
    subst hw2
    go_wp2_with fail
    go_ret
    exact ⟨rfl, by (repeat (first | with_reducible exact Adds.refl _ | with_reducible apply Adds.drew | with_reducible apply Adds.drewN | with_reducible apply Adds.alloc | with_reducible apply Adds.more | (with_reducible refine Adds.setCell ?_ ?_ _) | (focus (simp [go_sem]; done)) | (focus (simp [go_sem]; omega))))⟩
  · have g1 : S.rg 4 rA rB rC rD rE rH rL = rH := S.rg_4 rfl ..
    have g2 : S.rg 5 rA rB rC rD rE rH rL = rL := S.rg_5 rfl ..
    rw [S.pr_2 h]
    rw [h] at m
    clear h
    go_enter Try.func11, Try.ntmps11
    go_wp2_with fail
    refine wp_region_adds (by kernel_rfl) (by kernel_rfl) ?_
    repeat (go_big_quiet_step (first | (go_at_call 9; exact calls_adds (rget_any _ _ _ _ _ _ _ _ _ _ _ _ _ _ _ _ _ _)) | (go_at_call 25; exact calls_same (rjoin_any _ _ h0 h1 l0 l1 _))))
    refine wpQuiet_nil ?_
    intro _ hw1
    obtain ⟨⟨nq, osq⟩, hw2⟩ := hw1
    subst hw2
    go_wp2_with fail
    go_ret
    exact ⟨rfl, by (repeat (first | with_reducible exact Adds.refl _ | with_reducible apply Adds.drew | with_reducible apply Adds.drewN | with_reducible apply Adds.alloc | with_reducible apply Adds.more | (with_reducible refine Adds.setCell ?_ ?_ _) | (focus (simp [go_sem]; done)) | (focus (simp [go_sem]; omega))))⟩
  · rw [S.pr_3 h]
    rw [h] at m
    clear h
    go_enter Try.func11, Try.ntmps11
    go_wp2_with fail
    go_ret
    exact ⟨rfl, by (repeat (first | with_reducible exact Adds.refl _ | with_reducible apply Adds.drew | with_reducible apply Adds.drewN | with_reducible apply Adds.alloc | with_reducible apply Adds.more | (with_reducible refine Adds.setCell ?_ ?_ _) | (focus (simp [go_sem]; done)) | (focus (simp [go_sem]; omega))))⟩
set_option maxHeartbeats 1000000 in
theorem setpair_0 (rA rB rC rD rE rH rL : Int) (rS rZ rK rAC rP rV rCY : Bool) (rSP rPC : Int) (n v : Int) (v0 : 0 ≤ v) (v1 : v < 65536) (w : World) (h : n % 4 = 0) : Calls Try.prog 15 #[.agg #[.int .u8 rA, .int .u8 rB, .int .u8 rC, .int .u8 rD, .int .u8 rE, .int .u8 rH, .int .u8 rL, .bool rS, .bool rZ, .bool rK, .bool rAC, .bool rP, .bool rV, .bool rCY, .int .u16 rSP, .int .u16 rPC], .int .i64 n, .int .u16 v] w fun e w' => e = .returned (.agg #[.int .u8 rA, .int .u8 (v / 256), .int .u8 (v % 256), .int .u8 (rD), .int .u8 (rE), .int .u8 (rH), .int .u8 (rL), .bool rS, .bool rZ, .bool rK, .bool rAC, .bool rP, .bool rV, .bool rCY, .int .u16 rSP, .int .u16 rPC]) ∧ Adds w w' := by
  go_enter Try.func15, Try.ntmps15
  go_wp2_with (first | (go_at_call 22; refine (issp_any _ 0 h _).mono ?_; rintro e w' ⟨rfl, rfl⟩) | (go_at_call 23; refine (halves_any _ 0 h _).mono ?_; rintro e w' ⟨rfl, rfl⟩) | (go_at_call 13; (first | (with_reducible refine (set_0 _ _ _ _ _ _ _ _ _ _ _ _ _ _ _ _ _ _ _ rfl).mono ?_) | (with_reducible refine (set_1 _ _ _ _ _ _ _ _ _ _ _ _ _ _ _ _ _ _ _ rfl).mono ?_)); rintro e w' ⟨rfl, ⟨⟨n1, os1⟩, rfl⟩⟩))
  exact bodyPost_ret (v := .agg #[.int .u8 rA, .int .u8 (v / 256), .int .u8 (v % 256), .int .u8 (rD), .int .u8 (rE), .int .u8 (rH), .int .u8 (rL), .bool rS, .bool rZ, .bool rK, .bool rAC, .bool rP, .bool rV, .bool rCY, .int .u16 rSP, .int .u16 rPC]) (ret_Regs Try.results15 rfl (by simp [go_sem]) rfl) rfl ⟨rfl, by (repeat (first | with_reducible exact Adds.refl _ | with_reducible apply Adds.drew | with_reducible apply Adds.drewN | with_reducible apply Adds.alloc | with_reducible apply Adds.more | (with_reducible refine Adds.setCell ?_ ?_ _) | (focus (simp [go_sem]; done)) | (focus (simp [go_sem]; omega))))⟩
set_option maxHeartbeats 1000000 in
theorem setpair_1 (rA rB rC rD rE rH rL : Int) (rS rZ rK rAC rP rV rCY : Bool) (rSP rPC : Int) (n v : Int) (v0 : 0 ≤ v) (v1 : v < 65536) (w : World) (h : n % 4 = 1) : Calls Try.prog 15 #[.agg #[.int .u8 rA, .int .u8 rB, .int .u8 rC, .int .u8 rD, .int .u8 rE, .int .u8 rH, .int .u8 rL, .bool rS, .bool rZ, .bool rK, .bool rAC, .bool rP, .bool rV, .bool rCY, .int .u16 rSP, .int .u16 rPC], .int .i64 n, .int .u16 v] w fun e w' => e = .returned (.agg #[.int .u8 rA, .int .u8 (rB), .int .u8 (rC), .int .u8 (v / 256), .int .u8 (v % 256), .int .u8 (rH), .int .u8 (rL), .bool rS, .bool rZ, .bool rK, .bool rAC, .bool rP, .bool rV, .bool rCY, .int .u16 rSP, .int .u16 rPC]) ∧ Adds w w' := by
  go_enter Try.func15, Try.ntmps15
  go_wp2_with (first | (go_at_call 22; refine (issp_any _ 1 h _).mono ?_; rintro e w' ⟨rfl, rfl⟩) | (go_at_call 23; refine (halves_any _ 1 h _).mono ?_; rintro e w' ⟨rfl, rfl⟩) | (go_at_call 13; (first | (with_reducible refine (set_2 _ _ _ _ _ _ _ _ _ _ _ _ _ _ _ _ _ _ _ rfl).mono ?_) | (with_reducible refine (set_3 _ _ _ _ _ _ _ _ _ _ _ _ _ _ _ _ _ _ _ rfl).mono ?_)); rintro e w' ⟨rfl, ⟨⟨n1, os1⟩, rfl⟩⟩))
  exact bodyPost_ret (v := .agg #[.int .u8 rA, .int .u8 (rB), .int .u8 (rC), .int .u8 (v / 256), .int .u8 (v % 256), .int .u8 (rH), .int .u8 (rL), .bool rS, .bool rZ, .bool rK, .bool rAC, .bool rP, .bool rV, .bool rCY, .int .u16 rSP, .int .u16 rPC]) (ret_Regs Try.results15 rfl (by simp [go_sem]) rfl) rfl ⟨rfl, by (repeat (first | with_reducible exact Adds.refl _ | with_reducible apply Adds.drew | with_reducible apply Adds.drewN | with_reducible apply Adds.alloc | with_reducible apply Adds.more | (with_reducible refine Adds.setCell ?_ ?_ _) | (focus (simp [go_sem]; done)) | (focus (simp [go_sem]; omega))))⟩
set_option maxHeartbeats 1000000 in
theorem setpair_2 (rA rB rC rD rE rH rL : Int) (rS rZ rK rAC rP rV rCY : Bool) (rSP rPC : Int) (n v : Int) (v0 : 0 ≤ v) (v1 : v < 65536) (w : World) (h : n % 4 = 2) : Calls Try.prog 15 #[.agg #[.int .u8 rA, .int .u8 rB, .int .u8 rC, .int .u8 rD, .int .u8 rE, .int .u8 rH, .int .u8 rL, .bool rS, .bool rZ, .bool rK, .bool rAC, .bool rP, .bool rV, .bool rCY, .int .u16 rSP, .int .u16 rPC], .int .i64 n, .int .u16 v] w fun e w' => e = .returned (.agg #[.int .u8 rA, .int .u8 (rB), .int .u8 (rC), .int .u8 (rD), .int .u8 (rE), .int .u8 (v / 256), .int .u8 (v % 256), .bool rS, .bool rZ, .bool rK, .bool rAC, .bool rP, .bool rV, .bool rCY, .int .u16 rSP, .int .u16 rPC]) ∧ Adds w w' := by
  go_enter Try.func15, Try.ntmps15
  go_wp2_with (first | (go_at_call 22; refine (issp_any _ 2 h _).mono ?_; rintro e w' ⟨rfl, rfl⟩) | (go_at_call 23; refine (halves_any _ 2 h _).mono ?_; rintro e w' ⟨rfl, rfl⟩) | (go_at_call 13; (first | (with_reducible refine (set_4 _ _ _ _ _ _ _ _ _ _ _ _ _ _ _ _ _ _ _ rfl).mono ?_) | (with_reducible refine (set_5 _ _ _ _ _ _ _ _ _ _ _ _ _ _ _ _ _ _ _ rfl).mono ?_)); rintro e w' ⟨rfl, ⟨⟨n1, os1⟩, rfl⟩⟩))
  exact bodyPost_ret (v := .agg #[.int .u8 rA, .int .u8 (rB), .int .u8 (rC), .int .u8 (rD), .int .u8 (rE), .int .u8 (v / 256), .int .u8 (v % 256), .bool rS, .bool rZ, .bool rK, .bool rAC, .bool rP, .bool rV, .bool rCY, .int .u16 rSP, .int .u16 rPC]) (ret_Regs Try.results15 rfl (by simp [go_sem]) rfl) rfl ⟨rfl, by (repeat (first | with_reducible exact Adds.refl _ | with_reducible apply Adds.drew | with_reducible apply Adds.drewN | with_reducible apply Adds.alloc | with_reducible apply Adds.more | (with_reducible refine Adds.setCell ?_ ?_ _) | (focus (simp [go_sem]; done)) | (focus (simp [go_sem]; omega))))⟩
set_option maxHeartbeats 1000000 in
theorem setpair_3 (rA rB rC rD rE rH rL : Int) (rS rZ rK rAC rP rV rCY : Bool) (rSP rPC : Int) (n v : Int) (w : World) (h : n % 4 = 3) : Calls Try.prog 15 #[.agg #[.int .u8 rA, .int .u8 rB, .int .u8 rC, .int .u8 rD, .int .u8 rE, .int .u8 rH, .int .u8 rL, .bool rS, .bool rZ, .bool rK, .bool rAC, .bool rP, .bool rV, .bool rCY, .int .u16 rSP, .int .u16 rPC], .int .i64 n, .int .u16 v] w fun e w' => e = .returned (.agg #[.int .u8 rA, .int .u8 rB, .int .u8 rC, .int .u8 rD, .int .u8 rE, .int .u8 rH, .int .u8 rL, .bool rS, .bool rZ, .bool rK, .bool rAC, .bool rP, .bool rV, .bool rCY, .int .u16 v, .int .u16 rPC]) ∧ Adds w w' := by
  go_enter Try.func15, Try.ntmps15
  go_wp2_with (first | (go_at_call 22; refine (issp_any _ 3 h _).mono ?_; rintro e w' ⟨rfl, rfl⟩))
  exact bodyPost_ret (v := .agg #[.int .u8 rA, .int .u8 rB, .int .u8 rC, .int .u8 rD, .int .u8 rE, .int .u8 rH, .int .u8 rL, .bool rS, .bool rZ, .bool rK, .bool rAC, .bool rP, .bool rV, .bool rCY, .int .u16 v, .int .u16 rPC]) (ret_Regs Try.results15 rfl (by simp [go_sem]) rfl) rfl ⟨rfl, by (repeat (first | with_reducible exact Adds.refl _ | with_reducible apply Adds.drew | with_reducible apply Adds.drewN | with_reducible apply Adds.alloc | with_reducible apply Adds.more | (with_reducible refine Adds.setCell ?_ ?_ _) | (focus (simp [go_sem]; done)) | (focus (simp [go_sem]; omega))))⟩
theorem setpair_any (rA rB rC rD rE rH rL : Int) (rS rZ rK rAC rP rV rCY : Bool) (rSP rPC : Int) (n v : Int) (v0 : 0 ≤ v) (v1 : v < 65536) (w : World) : Calls Try.prog 15 #[.agg #[.int .u8 rA, .int .u8 rB, .int .u8 rC, .int .u8 rD, .int .u8 rE, .int .u8 rH, .int .u8 rL, .bool rS, .bool rZ, .bool rK, .bool rAC, .bool rP, .bool rV, .bool rCY, .int .u16 rSP, .int .u16 rPC], .int .i64 n, .int .u16 v] w fun e w' => e = .returned (.agg #[.int .u8 rA, .int .u8 (S.sq 0 n (v / 256) rB), .int .u8 (S.sq 0 n (v % 256) rC), .int .u8 (S.sq 1 n (v / 256) rD), .int .u8 (S.sq 1 n (v % 256) rE), .int .u8 (S.sq 2 n (v / 256) rH), .int .u8 (S.sq 2 n (v % 256) rL), .bool rS, .bool rZ, .bool rK, .bool rAC, .bool rP, .bool rV, .bool rCY, .int .u16 (S.sq 3 n v rSP), .int .u16 rPC]) ∧ Adds w w' := by
  rcases (by omega : n % 4 = 0 ∨ n % 4 = 1 ∨ n % 4 = 2 ∨ n % 4 = 3) with h | h | h | h
  · simp [S.sq_of h]; exact setpair_0 _ _ _ _ _ _ _ _ _ _ _ _ _ _ _ _ n v v0 v1 w h
  · simp [S.sq_of h]; exact setpair_1 _ _ _ _ _ _ _ _ _ _ _ _ _ _ _ _ n v v0 v1 w h
  · simp [S.sq_of h]; exact setpair_2 _ _ _ _ _ _ _ _ _ _ _ _ _ _ _ _ n v v0 v1 w h
  · simp [S.sq_of h]; exact setpair_3 _ _ _ _ _ _ _ _ _ _ _ _ _ _ _ _ n v w h
set_option maxHeartbeats 1000000 in
theorem rsetpair_0 (rA rB rC rD rE rH rL : Int) (rS rZ rK rAC rP rV rCY : Bool) (rSP rPC : Int) (n v : Int) (v0 : 0 ≤ v) (v1 : v < 65536) (w : World) (h : n % 4 = 0) : Calls Try.prog 16 #[.agg #[.int .u8 rA, .int .u8 rB, .int .u8 rC, .int .u8 rD, .int .u8 rE, .int .u8 rH, .int .u8 rL, .bool rS, .bool rZ, .bool rK, .bool rAC, .bool rP, .bool rV, .bool rCY, .int .u16 rSP, .int .u16 rPC], .int .i64 n, .int .u16 v] w fun e w' => e = .returned (.agg #[.int .u8 rA, .int .u8 (v / 256), .int .u8 (v % 256), .int .u8 (rD), .int .u8 (rE), .int .u8 (rH), .int .u8 (rL), .bool rS, .bool rZ, .bool rK, .bool rAC, .bool rP, .bool rV, .bool rCY, .int .u16 rSP, .int .u16 rPC]) ∧ Adds w w' := by
  have m := S.and3 n
  rw [h] at m
  clear h
  go_enter Try.func16, Try.ntmps16
  go_wp2_with (first | (go_at_call 14; (first | (with_reducible refine (rset_0 _ _ _ _ _ _ _ _ _ _ _ _ _ _ _ _ _ _ _ rfl).mono ?_) | (with_reducible refine (rset_1 _ _ _ _ _ _ _ _ _ _ _ _ _ _ _ _ _ _ _ rfl).mono ?_)); rintro e w' ⟨rfl, ⟨⟨n1, os1⟩, rfl⟩⟩))
  exact bodyPost_ret (v := .agg #[.int .u8 rA, .int .u8 (v / 256), .int .u8 (v % 256), .int .u8 (rD), .int .u8 (rE), .int .u8 (rH), .int .u8 (rL), .bool rS, .bool rZ, .bool rK, .bool rAC, .bool rP, .bool rV, .bool rCY, .int .u16 rSP, .int .u16 rPC]) (ret_Regs Try.results16 rfl (by simp [go_sem]) rfl) rfl ⟨rfl, by (repeat (first | with_reducible exact Adds.refl _ | with_reducible apply Adds.drew | with_reducible apply Adds.drewN | with_reducible apply Adds.alloc | with_reducible apply Adds.more | (with_reducible refine Adds.setCell ?_ ?_ _) | (focus (simp [go_sem]; done)) | (focus (simp [go_sem]; omega))))⟩
set_option maxHeartbeats 1000000 in
theorem rsetpair_1 (rA rB rC rD rE rH rL : Int) (rS rZ rK rAC rP rV rCY : Bool) (rSP rPC : Int) (n v : Int) (v0 : 0 ≤ v) (v1 : v < 65536) (w : World) (h : n % 4 = 1) : Calls Try.prog 16 #[.agg #[.int .u8 rA, .int .u8 rB, .int .u8 rC, .int .u8 rD, .int .u8 rE, .int .u8 rH, .int .u8 rL, .bool rS, .bool rZ, .bool rK, .bool rAC, .bool rP, .bool rV, .bool rCY, .int .u16 rSP, .int .u16 rPC], .int .i64 n, .int .u16 v] w fun e w' => e = .returned (.agg #[.int .u8 rA, .int .u8 (rB), .int .u8 (rC), .int .u8 (v / 256), .int .u8 (v % 256), .int .u8 (rH), .int .u8 (rL), .bool rS, .bool rZ, .bool rK, .bool rAC, .bool rP, .bool rV, .bool rCY, .int .u16 rSP, .int .u16 rPC]) ∧ Adds w w' := by
  have m := S.and3 n
  rw [h] at m
  clear h
  go_enter Try.func16, Try.ntmps16
  go_wp2_with (first | (go_at_call 14; (first | (with_reducible refine (rset_2 _ _ _ _ _ _ _ _ _ _ _ _ _ _ _ _ _ _ _ rfl).mono ?_) | (with_reducible refine (rset_3 _ _ _ _ _ _ _ _ _ _ _ _ _ _ _ _ _ _ _ rfl).mono ?_)); rintro e w' ⟨rfl, ⟨⟨n1, os1⟩, rfl⟩⟩))
  exact bodyPost_ret (v := .agg #[.int .u8 rA, .int .u8 (rB), .int .u8 (rC), .int .u8 (v / 256), .int .u8 (v % 256), .int .u8 (rH), .int .u8 (rL), .bool rS, .bool rZ, .bool rK, .bool rAC, .bool rP, .bool rV, .bool rCY, .int .u16 rSP, .int .u16 rPC]) (ret_Regs Try.results16 rfl (by simp [go_sem]) rfl) rfl ⟨rfl, by (repeat (first | with_reducible exact Adds.refl _ | with_reducible apply Adds.drew | with_reducible apply Adds.drewN | with_reducible apply Adds.alloc | with_reducible apply Adds.more | (with_reducible refine Adds.setCell ?_ ?_ _) | (focus (simp [go_sem]; done)) | (focus (simp [go_sem]; omega))))⟩
set_option maxHeartbeats 1000000 in
theorem rsetpair_2 (rA rB rC rD rE rH rL : Int) (rS rZ rK rAC rP rV rCY : Bool) (rSP rPC : Int) (n v : Int) (v0 : 0 ≤ v) (v1 : v < 65536) (w : World) (h : n % 4 = 2) : Calls Try.prog 16 #[.agg #[.int .u8 rA, .int .u8 rB, .int .u8 rC, .int .u8 rD, .int .u8 rE, .int .u8 rH, .int .u8 rL, .bool rS, .bool rZ, .bool rK, .bool rAC, .bool rP, .bool rV, .bool rCY, .int .u16 rSP, .int .u16 rPC], .int .i64 n, .int .u16 v] w fun e w' => e = .returned (.agg #[.int .u8 rA, .int .u8 (rB), .int .u8 (rC), .int .u8 (rD), .int .u8 (rE), .int .u8 (v / 256), .int .u8 (v % 256), .bool rS, .bool rZ, .bool rK, .bool rAC, .bool rP, .bool rV, .bool rCY, .int .u16 rSP, .int .u16 rPC]) ∧ Adds w w' := by
  have m := S.and3 n
  rw [h] at m
  clear h
  go_enter Try.func16, Try.ntmps16
  go_wp2_with (first | (go_at_call 14; (first | (with_reducible refine (rset_4 _ _ _ _ _ _ _ _ _ _ _ _ _ _ _ _ _ _ _ rfl).mono ?_) | (with_reducible refine (rset_5 _ _ _ _ _ _ _ _ _ _ _ _ _ _ _ _ _ _ _ rfl).mono ?_)); rintro e w' ⟨rfl, ⟨⟨n1, os1⟩, rfl⟩⟩))
  exact bodyPost_ret (v := .agg #[.int .u8 rA, .int .u8 (rB), .int .u8 (rC), .int .u8 (rD), .int .u8 (rE), .int .u8 (v / 256), .int .u8 (v % 256), .bool rS, .bool rZ, .bool rK, .bool rAC, .bool rP, .bool rV, .bool rCY, .int .u16 rSP, .int .u16 rPC]) (ret_Regs Try.results16 rfl (by simp [go_sem]) rfl) rfl ⟨rfl, by (repeat (first | with_reducible exact Adds.refl _ | with_reducible apply Adds.drew | with_reducible apply Adds.drewN | with_reducible apply Adds.alloc | with_reducible apply Adds.more | (with_reducible refine Adds.setCell ?_ ?_ _) | (focus (simp [go_sem]; done)) | (focus (simp [go_sem]; omega))))⟩
set_option maxHeartbeats 1000000 in
theorem rsetpair_3 (rA rB rC rD rE rH rL : Int) (rS rZ rK rAC rP rV rCY : Bool) (rSP rPC : Int) (n v : Int) (w : World) (h : n % 4 = 3) : Calls Try.prog 16 #[.agg #[.int .u8 rA, .int .u8 rB, .int .u8 rC, .int .u8 rD, .int .u8 rE, .int .u8 rH, .int .u8 rL, .bool rS, .bool rZ, .bool rK, .bool rAC, .bool rP, .bool rV, .bool rCY, .int .u16 rSP, .int .u16 rPC], .int .i64 n, .int .u16 v] w fun e w' => e = .returned (.agg #[.int .u8 rA, .int .u8 rB, .int .u8 rC, .int .u8 rD, .int .u8 rE, .int .u8 rH, .int .u8 rL, .bool rS, .bool rZ, .bool rK, .bool rAC, .bool rP, .bool rV, .bool rCY, .int .u16 v, .int .u16 rPC]) ∧ Adds w w' := by
  have m := S.and3 n
  rw [h] at m
  clear h
  go_enter Try.func16, Try.ntmps16
  go_wp2_with fail
  exact bodyPost_ret (v := .agg #[.int .u8 rA, .int .u8 rB, .int .u8 rC, .int .u8 rD, .int .u8 rE, .int .u8 rH, .int .u8 rL, .bool rS, .bool rZ, .bool rK, .bool rAC, .bool rP, .bool rV, .bool rCY, .int .u16 v, .int .u16 rPC]) (ret_Regs Try.results16 rfl (by simp [go_sem]) rfl) rfl ⟨rfl, by (repeat (first | with_reducible exact Adds.refl _ | with_reducible apply Adds.drew | with_reducible apply Adds.drewN | with_reducible apply Adds.alloc | with_reducible apply Adds.more | (with_reducible refine Adds.setCell ?_ ?_ _) | (focus (simp [go_sem]; done)) | (focus (simp [go_sem]; omega))))⟩
theorem rsetpair_any (rA rB rC rD rE rH rL : Int) (rS rZ rK rAC rP rV rCY : Bool) (rSP rPC : Int) (n v : Int) (v0 : 0 ≤ v) (v1 : v < 65536) (w : World) : Calls Try.prog 16 #[.agg #[.int .u8 rA, .int .u8 rB, .int .u8 rC, .int .u8 rD, .int .u8 rE, .int .u8 rH, .int .u8 rL, .bool rS, .bool rZ, .bool rK, .bool rAC, .bool rP, .bool rV, .bool rCY, .int .u16 rSP, .int .u16 rPC], .int .i64 n, .int .u16 v] w fun e w' => e = .returned (.agg #[.int .u8 rA, .int .u8 (S.sq 0 n (v / 256) rB), .int .u8 (S.sq 0 n (v % 256) rC), .int .u8 (S.sq 1 n (v / 256) rD), .int .u8 (S.sq 1 n (v % 256) rE), .int .u8 (S.sq 2 n (v / 256) rH), .int .u8 (S.sq 2 n (v % 256) rL), .bool rS, .bool rZ, .bool rK, .bool rAC, .bool rP, .bool rV, .bool rCY, .int .u16 (S.sq 3 n v rSP), .int .u16 rPC]) ∧ Adds w w' := by
  rcases (by omega : n % 4 = 0 ∨ n % 4 = 1 ∨ n % 4 = 2 ∨ n % 4 = 3) with h | h | h | h
  · simp [S.sq_of h]; exact rsetpair_0 _ _ _ _ _ _ _ _ _ _ _ _ _ _ _ _ n v v0 v1 w h
  · simp [S.sq_of h]; exact rsetpair_1 _ _ _ _ _ _ _ _ _ _ _ _ _ _ _ _ n v v0 v1 w h
  · simp [S.sq_of h]; exact rsetpair_2 _ _ _ _ _ _ _ _ _ _ _ _ _ _ _ _ n v v0 v1 w h
  · simp [S.sq_of h]; exact rsetpair_3 _ _ _ _ _ _ _ _ _ _ _ _ _ _ _ _ n v w h
set_option maxHeartbeats 1000000 in
theorem psw_any (c : Int) (rA rB rC rD rE rH rL : Int) (rS rZ rK rAC rP rV rCY : Bool) (rSP rPC : Int) (a0 : 0 ≤ rA) (a1 : rA < 256) (w : World) : Calls Try.prog 17 #[.int .i64 c, .agg #[.int .u8 rA, .int .u8 rB, .int .u8 rC, .int .u8 rD, .int .u8 rE, .int .u8 rH, .int .u8 rL, .bool rS, .bool rZ, .bool rK, .bool rAC, .bool rP, .bool rV, .bool rCY, .int .u16 rSP, .int .u16 rPC]] w fun e w' => e = .returned (.int .u16 (S.joi rA (S.pack c rS rZ rK rAC rP rV rCY))) ∧ Adds w w' := by
  obtain ⟨p0, p1⟩ := S.pack_bd c rS rZ rK rAC rP rV rCY
  go_enter Try.func17, Try.ntmps17
  go_wp2_with fail
  refine wp_region_adds (by kernel_rfl) (by kernel_rfl) ?_
  repeat (go_big_quiet_step (first | (go_at_call 26; exact calls_adds (pack_any _ _ _ _ _ _ _ _ _)) | (go_at_call 24; exact calls_same (join_any _ _ a0 a1 p0 p1 _))))
  refine wpQuiet_nil ?_
  intro _ hw1
  obtain ⟨⟨nq, osq⟩, hw2⟩ := hw1
  subst hw2
  go_wp2_with fail
  go_ret
  exact ⟨rfl, by (repeat (first | with_reducible exact Adds.refl _ | with_reducible apply Adds.drew | with_reducible apply Adds.drewN | with_reducible apply Adds.alloc | with_reducible apply Adds.more | (with_reducible refine Adds.setCell ?_ ?_ _) | (focus (simp [go_sem]; done)) | (focus (simp [go_sem]; omega))))⟩
set_option maxHeartbeats 1000000 in
theorem rpsw_any (c : Int) (rA rB rC rD rE rH rL : Int) (rS rZ rK rAC rP rV rCY : Bool) (rSP rPC : Int) (a0 : 0 ≤ rA) (a1 : rA < 256) (w : World) : Calls Try.prog 18 #[.int .i64 c, .agg #[.int .u8 rA, .int .u8 rB, .int .u8 rC, .int .u8 rD, .int .u8 rE, .int .u8 rH, .int .u8 rL, .bool rS, .bool rZ, .bool rK, .bool rAC, .bool rP, .bool rV, .bool rCY, .int .u16 rSP, .int .u16 rPC]] w fun e w' => e = .returned (.int .u16 (S.joi rA (S.pack c rS rZ rK rAC rP rV rCY))) ∧ Adds w w' := by
  obtain ⟨p0, p1⟩ := S.pack_bd c rS rZ rK rAC rP rV rCY
  go_enter Try.func18, Try.ntmps18
  go_wp2_with fail
  refine wp_region_adds (by kernel_rfl) (by kernel_rfl) ?_
  repeat (go_big_quiet_step (first | (go_at_call 27; exact calls_adds (rpack_any _ _ _ _ _ _ _ _ _)) | (go_at_call 25; exact calls_same (rjoin_any _ _ a0 a1 p0 p1 _))))
  refine wpQuiet_nil ?_
  intro _ hw1
  obtain ⟨⟨nq, osq⟩, hw2⟩ := hw1
  subst hw2
  go_wp2_with fail
  go_ret
  exact ⟨rfl, by (repeat (first | with_reducible exact Adds.refl _ | with_reducible apply Adds.drew | with_reducible apply Adds.drewN | with_reducible apply Adds.alloc | with_reducible apply Adds.more | (with_reducible refine Adds.setCell ?_ ?_ _) | (focus (simp [go_sem]; done)) | (focus (simp [go_sem]; omega))))⟩
set_option maxHeartbeats 1000000 in
theorem setpsw_any (c : Int) (rA rB rC rD rE rH rL : Int) (rS rZ rK rAC rP rV rCY : Bool) (rSP rPC : Int) (v : Int) (v0 : 0 ≤ v) (v1 : v < 65536) (w : World) : Calls Try.prog 19 #[.int .i64 c, .agg #[.int .u8 rA, .int .u8 rB, .int .u8 rC, .int .u8 rD, .int .u8 rE, .int .u8 rH, .int .u8 rL, .bool rS, .bool rZ, .bool rK, .bool rAC, .bool rP, .bool rV, .bool rCY, .int .u16 rSP, .int .u16 rPC], .int .u16 v] w fun e w' => e = .returned (.agg #[.int .u8 (v / 256), .int .u8 rB, .int .u8 rC, .int .u8 rD, .int .u8 rE, .int .u8 rH, .int .u8 rL, .bool (S.has (v % 256) 7), .bool (S.has (v % 256) 6), .bool (S.uk c (v % 256)), .bool (S.has (v % 256) 4), .bool (S.has (v % 256) 2), .bool (S.uv c (v % 256)), .bool (S.has (v % 256) 0), .int .u16 rSP, .int .u16 rPC]) ∧ Adds w w' := by
  go_enter Try.func19, Try.ntmps19
  go_wp2_with (first | (go_at_call 28; refine (unpack_any _ _ (by omega) (by omega) _).mono ?_; rintro e w' ⟨rfl, ⟨⟨n1, os1⟩, rfl⟩⟩))
  exact bodyPost_ret (v := .agg #[.int .u8 (v / 256), .int .u8 rB, .int .u8 rC, .int .u8 rD, .int .u8 rE, .int .u8 rH, .int .u8 rL, .bool (S.has (v % 256) 7), .bool (S.has (v % 256) 6), .bool (S.uk c (v % 256)), .bool (S.has (v % 256) 4), .bool (S.has (v % 256) 2), .bool (S.uv c (v % 256)), .bool (S.has (v % 256) 0), .int .u16 rSP, .int .u16 rPC]) (ret_Regs Try.results19 rfl (by simp [go_sem]) rfl) rfl ⟨rfl, by (repeat (first | with_reducible exact Adds.refl _ | with_reducible apply Adds.drew | with_reducible apply Adds.drewN | with_reducible apply Adds.alloc | with_reducible apply Adds.more | (with_reducible refine Adds.setCell ?_ ?_ _) | (focus (simp [go_sem]; done)) | (focus (simp [go_sem]; omega))))⟩
set_option maxHeartbeats 1000000 in
theorem rsetpsw_any (c : Int) (rA rB rC rD rE rH rL : Int) (rS rZ rK rAC rP rV rCY : Bool) (rSP rPC : Int) (v : Int) (v0 : 0 ≤ v) (v1 : v < 65536) (w : World) : Calls Try.prog 20 #[.int .i64 c, .agg #[.int .u8 rA, .int .u8 rB, .int .u8 rC, .int .u8 rD, .int .u8 rE, .int .u8 rH, .int .u8 rL, .bool rS, .bool rZ, .bool rK, .bool rAC, .bool rP, .bool rV, .bool rCY, .int .u16 rSP, .int .u16 rPC], .int .u16 v] w fun e w' => e = .returned (.agg #[.int .u8 (v / 256), .int .u8 rB, .int .u8 rC, .int .u8 rD, .int .u8 rE, .int .u8 rH, .int .u8 rL, .bool (S.has (v % 256) 7), .bool (S.has (v % 256) 6), .bool (S.uk c (v % 256)), .bool (S.has (v % 256) 4), .bool (S.has (v % 256) 2), .bool (S.uv c (v % 256)), .bool (S.has (v % 256) 0), .int .u16 rSP, .int .u16 rPC]) ∧ Adds w w' := by
  go_enter Try.func20, Try.ntmps20
  go_wp2_with (first | (go_at_call 29; refine (runpack_any _ _ (by omega) (by omega) _).mono ?_; rintro e w' ⟨rfl, ⟨⟨n1, os1⟩, rfl⟩⟩))
  exact bodyPost_ret (v := .agg #[.int .u8 (v / 256), .int .u8 rB, .int .u8 rC, .int .u8 rD, .int .u8 rE, .int .u8 rH, .int .u8 rL, .bool (S.has (v % 256) 7), .bool (S.has (v % 256) 6), .bool (S.uk c (v % 256)), .bool (S.has (v % 256) 4), .bool (S.has (v % 256) 2), .bool (S.uv c (v % 256)), .bool (S.has (v % 256) 0), .int .u16 rSP, .int .u16 rPC]) (ret_Regs Try.results20 rfl (by simp [go_sem]) rfl) rfl ⟨rfl, by (repeat (first | with_reducible exact Adds.refl _ | with_reducible apply Adds.drew | with_reducible apply Adds.drewN | with_reducible apply Adds.alloc | with_reducible apply Adds.more | (with_reducible refine Adds.setCell ?_ ?_ _) | (focus (simp [go_sem]; done)) | (focus (simp [go_sem]; omega))))⟩
@[go_sem] theorem eq_Regs (rA rB rC rD rE rH rL : Int) (rS rZ rK rAC rP rV rCY : Bool) (rSP rPC : Int) (qA qB qC qD qE qH qL : Int) (qS qZ qK qAC qP qV qCY : Bool) (qSP qPC : Int) (w : World) : (Op.equalIn 10000 26 (.agg #[.int .u8 rA, .int .u8 rB, .int .u8 rC, .int .u8 rD, .int .u8 rE, .int .u8 rH, .int .u8 rL, .bool rS, .bool rZ, .bool rK, .bool rAC, .bool rP, .bool rV, .bool rCY, .int .u16 rSP, .int .u16 rPC]) (.agg #[.int .u8 qA, .int .u8 qB, .int .u8 qC, .int .u8 qD, .int .u8 qE, .int .u8 qH, .int .u8 qL, .bool qS, .bool qZ, .bool qK, .bool qAC, .bool qP, .bool qV, .bool qCY, .int .u16 qSP, .int .u16 qPC])).run Try.prog w =
    .ok (same [.int .u8 rA, .int .u8 rB, .int .u8 rC, .int .u8 rD, .int .u8 rE, .int .u8 rH, .int .u8 rL, .bool rS, .bool rZ, .bool rK, .bool rAC, .bool rP, .bool rV, .bool rCY, .int .u16 rSP, .int .u16 rPC] [.int .u8 qA, .int .u8 qB, .int .u8 qC, .int .u8 qD, .int .u8 qE, .int .u8 qH, .int .u8 qL, .bool qS, .bool qZ, .bool qK, .bool qAC, .bool qP, .bool qV, .bool qCY, .int .u16 qSP, .int .u16 qPC]) w :=
  eq_agg 6 [.int .u8, .int .u8, .int .u8, .int .u8, .int .u8, .int .u8, .int .u8, .bool, .bool, .bool, .bool, .bool, .bool, .bool, .int .u16, .int .u16] _ Try.underlying26 (by kernel_rfl) (by decide) _ _ w (by simp [shaped]) (by simp [shaped])
set_option maxHeartbeats 1000000 in
theorem known8_any (w : World) : Calls Try.prog 12 #[] w fun e w' => e = .returned (.bool true) ∧ Adds w w' := by
  have k1 : S.pr 0 18 52 0 0 0 0 0 = 4660 := by decide
  have k2 : S.joi 85 (S.pack 1 false false false false false false false) = 21762 := by decide
  have k3 : S.rg 6 0 18 52 0 0 0 0 = 0 := by decide
  go_enter Try.func12, Try.ntmps12
  go_wp2_with (first | (go_at_call 13; refine (set_1 _ _ _ _ _ _ _ _ _ _ _ _ _ _ _ _ _ _ _ rfl).mono ?_; rintro e w' ⟨rfl, ⟨⟨n1, os1⟩, rfl⟩⟩) | (go_at_call 10; refine (pair_any _ _ _ _ _ _ _ _ _ _ _ _ _ _ _ _ _ (by decide) (by decide) (by decide) (by decide) (by decide) (by decide) (by decide) (by decide) (by decide) (by decide) (by decide) (by decide) _).mono ?_; rintro e w' ⟨rfl, ⟨⟨n1, os1⟩, rfl⟩⟩) | (go_at_call 17; refine (psw_any _ _ _ _ _ _ _ _ _ _ _ _ _ _ _ _ _ (by decide) (by decide) _).mono ?_; rintro e w' ⟨rfl, ⟨⟨n1, os1⟩, rfl⟩⟩) | (go_at_call 8; refine (get_any _ _ _ _ _ _ _ _ _ _ _ _ _ _ _ _ _ _).mono ?_; rintro e w' ⟨rfl, ⟨⟨n1, os1⟩, rfl⟩⟩))
  go_ret
  exact ⟨rfl, by (repeat (first | with_reducible exact Adds.refl _ | with_reducible apply Adds.drew | with_reducible apply Adds.drewN | with_reducible apply Adds.alloc | with_reducible apply Adds.more | (with_reducible refine Adds.setCell ?_ ?_ _) | (focus (simp [go_sem]; done)) | (focus (simp [go_sem]; omega))))⟩
end Go.Proofs.Ytkoonimngcpdjaa
