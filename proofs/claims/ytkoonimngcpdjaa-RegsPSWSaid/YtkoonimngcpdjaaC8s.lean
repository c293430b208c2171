/- The contract of Set of package regs: it returns the plain functions' values and leaves what was there alone. No condition. -/
import Derived.Test.YtkoonimngcpdjaaC2
import Derived.Test.YtkoonimngcpdjaaS8
import Derived.Test.YtkoonimngcpdjaaMW
namespace Go.Proofs.Ytkoonimngcpdjaa
open Go.ChangeShapes Go.WideShapes Go.ChangeAt Go.RowKit
set_option linter.unusedVariables false
set_option maxHeartbeats 1000000 in
theorem set_0 (rA rB rC rD rE rH rL : Int) (rS rZ rK rAC rP rV rCY : Bool) (rSP rPC : Int) (n v : Int) (w : World) (h : n % 8 = 0) : Calls Try.prog 13 #[.agg #[.int .u8 rA, .int .u8 rB, .int .u8 rC, .int .u8 rD, .int .u8 rE, .int .u8 rH, .int .u8 rL, .bool rS, .bool rZ, .bool rK, .bool rAC, .bool rP, .bool rV, .bool rCY, .int .u16 rSP, .int .u16 rPC], .int .i64 n, .int .u8 v] w fun e w' => e = .returned (.agg #[.int .u8 rA, .int .u8 v, .int .u8 rC, .int .u8 rD, .int .u8 rE, .int .u8 rH, .int .u8 rL, .bool rS, .bool rZ, .bool rK, .bool rAC, .bool rP, .bool rV, .bool rCY, .int .u16 rSP, .int .u16 rPC]) ∧ Adds w w' := by
  have m := S.and7 n
  rw [h] at m
  clear h
  go_enter Try.func13, Try.ntmps13
  go_wp2_with fail
  exact bodyPost_ret (v := .agg #[.int .u8 rA, .int .u8 v, .int .u8 rC, .int .u8 rD, .int .u8 rE, .int .u8 rH, .int .u8 rL, .bool rS, .bool rZ, .bool rK, .bool rAC, .bool rP, .bool rV, .bool rCY, .int .u16 rSP, .int .u16 rPC]) (ret_Regs Try.results13 rfl (by simp [go_sem]) rfl) rfl ⟨rfl, by (repeat (first | with_reducible exact Adds.refl _ | with_reducible apply Adds.drew | with_reducible apply Adds.drewN | with_reducible apply Adds.alloc | with_reducible apply Adds.more | (with_reducible refine Adds.setCell ?_ ?_ _) | (focus (simp [go_sem]; done)) | (focus (simp [go_sem]; omega))))⟩
set_option maxHeartbeats 1000000 in
theorem set_1 (rA rB rC rD rE rH rL : Int) (rS rZ rK rAC rP rV rCY : Bool) (rSP rPC : Int) (n v : Int) (w : World) (h : n % 8 = 1) : Calls Try.prog 13 #[.agg #[.int .u8 rA, .int .u8 rB, .int .u8 rC, .int .u8 rD, .int .u8 rE, .int .u8 rH, .int .u8 rL, .bool rS, .bool rZ, .bool rK, .bool rAC, .bool rP, .bool rV, .bool rCY, .int .u16 rSP, .int .u16 rPC], .int .i64 n, .int .u8 v] w fun e w' => e = .returned (.agg #[.int .u8 rA, .int .u8 rB, .int .u8 v, .int .u8 rD, .int .u8 rE, .int .u8 rH, .int .u8 rL, .bool rS, .bool rZ, .bool rK, .bool rAC, .bool rP, .bool rV, .bool rCY, .int .u16 rSP, .int .u16 rPC]) ∧ Adds w w' := by
  have m := S.and7 n
  rw [h] at m
  clear h
  go_enter Try.func13, Try.ntmps13
  go_wp2_with fail
  exact bodyPost_ret (v := .agg #[.int .u8 rA, .int .u8 rB, .int .u8 v, .int .u8 rD, .int .u8 rE, .int .u8 rH, .int .u8 rL, .bool rS, .bool rZ, .bool rK, .bool rAC, .bool rP, .bool rV, .bool rCY, .int .u16 rSP, .int .u16 rPC]) (ret_Regs Try.results13 rfl (by simp [go_sem]) rfl) rfl ⟨rfl, by (repeat (first | with_reducible exact Adds.refl _ | with_reducible apply Adds.drew | with_reducible apply Adds.drewN | with_reducible apply Adds.alloc | with_reducible apply Adds.more | (with_reducible refine Adds.setCell ?_ ?_ _) | (focus (simp [go_sem]; done)) | (focus (simp [go_sem]; omega))))⟩
set_option maxHeartbeats 1000000 in
theorem set_2 (rA rB rC rD rE rH rL : Int) (rS rZ rK rAC rP rV rCY : Bool) (rSP rPC : Int) (n v : Int) (w : World) (h : n % 8 = 2) : Calls Try.prog 13 #[.agg #[.int .u8 rA, .int .u8 rB, .int .u8 rC, .int .u8 rD, .int .u8 rE, .int .u8 rH, .int .u8 rL, .bool rS, .bool rZ, .bool rK, .bool rAC, .bool rP, .bool rV, .bool rCY, .int .u16 rSP, .int .u16 rPC], .int .i64 n, .int .u8 v] w fun e w' => e = .returned (.agg #[.int .u8 rA, .int .u8 rB, .int .u8 rC, .int .u8 v, .int .u8 rE, .int .u8 rH, .int .u8 rL, .bool rS, .bool rZ, .bool rK, .bool rAC, .bool rP, .bool rV, .bool rCY, .int .u16 rSP, .int .u16 rPC]) ∧ Adds w w' := by
  have m := S.and7 n
  rw [h] at m
  clear h
  go_enter Try.func13, Try.ntmps13
  go_wp2_with fail
  exact bodyPost_ret (v := .agg #[.int .u8 rA, .int .u8 rB, .int .u8 rC, .int .u8 v, .int .u8 rE, .int .u8 rH, .int .u8 rL, .bool rS, .bool rZ, .bool rK, .bool rAC, .bool rP, .bool rV, .bool rCY, .int .u16 rSP, .int .u16 rPC]) (ret_Regs Try.results13 rfl (by simp [go_sem]) rfl) rfl ⟨rfl, by (repeat (first | with_reducible exact Adds.refl _ | with_reducible apply Adds.drew | with_reducible apply Adds.drewN | with_reducible apply Adds.alloc | with_reducible apply Adds.more | (with_reducible refine Adds.setCell ?_ ?_ _) | (focus (simp [go_sem]; done)) | (focus (simp [go_sem]; omega))))⟩
set_option maxHeartbeats 1000000 in
theorem set_3 (rA rB rC rD rE rH rL : Int) (rS rZ rK rAC rP rV rCY : Bool) (rSP rPC : Int) (n v : Int) (w : World) (h : n % 8 = 3) : Calls Try.prog 13 #[.agg #[.int .u8 rA, .int .u8 rB, .int .u8 rC, .int .u8 rD, .int .u8 rE, .int .u8 rH, .int .u8 rL, .bool rS, .bool rZ, .bool rK, .bool rAC, .bool rP, .bool rV, .bool rCY, .int .u16 rSP, .int .u16 rPC], .int .i64 n, .int .u8 v] w fun e w' => e = .returned (.agg #[.int .u8 rA, .int .u8 rB, .int .u8 rC, .int .u8 rD, .int .u8 v, .int .u8 rH, .int .u8 rL, .bool rS, .bool rZ, .bool rK, .bool rAC, .bool rP, .bool rV, .bool rCY, .int .u16 rSP, .int .u16 rPC]) ∧ Adds w w' := by
  have m := S.and7 n
  rw [h] at m
  clear h
  go_enter Try.func13, Try.ntmps13
  go_wp2_with fail
  exact bodyPost_ret (v := .agg #[.int .u8 rA, .int .u8 rB, .int .u8 rC, .int .u8 rD, .int .u8 v, .int .u8 rH, .int .u8 rL, .bool rS, .bool rZ, .bool rK, .bool rAC, .bool rP, .bool rV, .bool rCY, .int .u16 rSP, .int .u16 rPC]) (ret_Regs Try.results13 rfl (by simp [go_sem]) rfl) rfl ⟨rfl, by (repeat (first | with_reducible exact Adds.refl _ | with_reducible apply Adds.drew | with_reducible apply Adds.drewN | with_reducible apply Adds.alloc | with_reducible apply Adds.more | (with_reducible refine Adds.setCell ?_ ?_ _) | (focus (simp [go_sem]; done)) | (focus (simp [go_sem]; omega))))⟩
set_option maxHeartbeats 1000000 in
theorem set_4 (rA rB rC rD rE rH rL : Int) (rS rZ rK rAC rP rV rCY : Bool) (rSP rPC : Int) (n v : Int) (w : World) (h : n % 8 = 4) : Calls Try.prog 13 #[.agg #[.int .u8 rA, .int .u8 rB, .int .u8 rC, .int .u8 rD, .int .u8 rE, .int .u8 rH, .int .u8 rL, .bool rS, .bool rZ, .bool rK, .bool rAC, .bool rP, .bool rV, .bool rCY, .int .u16 rSP, .int .u16 rPC], .int .i64 n, .int .u8 v] w fun e w' => e = .returned (.agg #[.int .u8 rA, .int .u8 rB, .int .u8 rC, .int .u8 rD, .int .u8 rE, .int .u8 v, .int .u8 rL, .bool rS, .bool rZ, .bool rK, .bool rAC, .bool rP, .bool rV, .bool rCY, .int .u16 rSP, .int .u16 rPC]) ∧ Adds w w' := by
  have m := S.and7 n
  rw [h] at m
  clear h
  go_enter Try.func13, Try.ntmps13
  go_wp2_with fail
  exact bodyPost_ret (v := .agg #[.int .u8 rA, .int .u8 rB, .int .u8 rC, .int .u8 rD, .int .u8 rE, .int .u8 v, .int .u8 rL, .bool rS, .bool rZ, .bool rK, .bool rAC, .bool rP, .bool rV, .bool rCY, .int .u16 rSP, .int .u16 rPC]) (ret_Regs Try.results13 rfl (by simp [go_sem]) rfl) rfl ⟨rfl, by (repeat (first | with_reducible exact Adds.refl _ | with_reducible apply Adds.drew | with_reducible apply Adds.drewN | with_reducible apply Adds.alloc | with_reducible apply Adds.more | (with_reducible refine Adds.setCell ?_ ?_ _) | (focus (simp [go_sem]; done)) | (focus (simp [go_sem]; omega))))⟩
set_option maxHeartbeats 1000000 in
theorem set_5 (rA rB rC rD rE rH rL : Int) (rS rZ rK rAC rP rV rCY : Bool) (rSP rPC : Int) (n v : Int) (w : World) (h : n % 8 = 5) : Calls Try.prog 13 #[.agg #[.int .u8 rA, .int .u8 rB, .int .u8 rC, .int .u8 rD, .int .u8 rE, .int .u8 rH, .int .u8 rL, .bool rS, .bool rZ, .bool rK, .bool rAC, .bool rP, .bool rV, .bool rCY, .int .u16 rSP, .int .u16 rPC], .int .i64 n, .int .u8 v] w fun e w' => e = .returned (.agg #[.int .u8 rA, .int .u8 rB, .int .u8 rC, .int .u8 rD, .int .u8 rE, .int .u8 rH, .int .u8 v, .bool rS, .bool rZ, .bool rK, .bool rAC, .bool rP, .bool rV, .bool rCY, .int .u16 rSP, .int .u16 rPC]) ∧ Adds w w' := by
  have m := S.and7 n
  rw [h] at m
  clear h
  go_enter Try.func13, Try.ntmps13
  go_wp2_with fail
  exact bodyPost_ret (v := .agg #[.int .u8 rA, .int .u8 rB, .int .u8 rC, .int .u8 rD, .int .u8 rE, .int .u8 rH, .int .u8 v, .bool rS, .bool rZ, .bool rK, .bool rAC, .bool rP, .bool rV, .bool rCY, .int .u16 rSP, .int .u16 rPC]) (ret_Regs Try.results13 rfl (by simp [go_sem]) rfl) rfl ⟨rfl, by (repeat (first | with_reducible exact Adds.refl _ | with_reducible apply Adds.drew | with_reducible apply Adds.drewN | with_reducible apply Adds.alloc | with_reducible apply Adds.more | (with_reducible refine Adds.setCell ?_ ?_ _) | (focus (simp [go_sem]; done)) | (focus (simp [go_sem]; omega))))⟩
set_option maxHeartbeats 1000000 in
theorem set_6 (rA rB rC rD rE rH rL : Int) (rS rZ rK rAC rP rV rCY : Bool) (rSP rPC : Int) (n v : Int) (w : World) (h : n % 8 = 6) : Calls Try.prog 13 #[.agg #[.int .u8 rA, .int .u8 rB, .int .u8 rC, .int .u8 rD, .int .u8 rE, .int .u8 rH, .int .u8 rL, .bool rS, .bool rZ, .bool rK, .bool rAC, .bool rP, .bool rV, .bool rCY, .int .u16 rSP, .int .u16 rPC], .int .i64 n, .int .u8 v] w fun e w' => e = .returned (.agg #[.int .u8 rA, .int .u8 rB, .int .u8 rC, .int .u8 rD, .int .u8 rE, .int .u8 rH, .int .u8 rL, .bool rS, .bool rZ, .bool rK, .bool rAC, .bool rP, .bool rV, .bool rCY, .int .u16 rSP, .int .u16 rPC]) ∧ Adds w w' := by
  have m := S.and7 n
  rw [h] at m
  clear h
  go_enter Try.func13, Try.ntmps13
  go_wp2_with fail
  exact bodyPost_ret (v := .agg #[.int .u8 rA, .int .u8 rB, .int .u8 rC, .int .u8 rD, .int .u8 rE, .int .u8 rH, .int .u8 rL, .bool rS, .bool rZ, .bool rK, .bool rAC, .bool rP, .bool rV, .bool rCY, .int .u16 rSP, .int .u16 rPC]) (ret_Regs Try.results13 rfl (by simp [go_sem]) rfl) rfl ⟨rfl, by (repeat (first | with_reducible exact Adds.refl _ | with_reducible apply Adds.drew | with_reducible apply Adds.drewN | with_reducible apply Adds.alloc | with_reducible apply Adds.more | (with_reducible refine Adds.setCell ?_ ?_ _) | (focus (simp [go_sem]; done)) | (focus (simp [go_sem]; omega))))⟩
set_option maxHeartbeats 1000000 in
theorem set_7 (rA rB rC rD rE rH rL : Int) (rS rZ rK rAC rP rV rCY : Bool) (rSP rPC : Int) (n v : Int) (w : World) (h : n % 8 = 7) : Calls Try.prog 13 #[.agg #[.int .u8 rA, .int .u8 rB, .int .u8 rC, .int .u8 rD, .int .u8 rE, .int .u8 rH, .int .u8 rL, .bool rS, .bool rZ, .bool rK, .bool rAC, .bool rP, .bool rV, .bool rCY, .int .u16 rSP, .int .u16 rPC], .int .i64 n, .int .u8 v] w fun e w' => e = .returned (.agg #[.int .u8 v, .int .u8 rB, .int .u8 rC, .int .u8 rD, .int .u8 rE, .int .u8 rH, .int .u8 rL, .bool rS, .bool rZ, .bool rK, .bool rAC, .bool rP, .bool rV, .bool rCY, .int .u16 rSP, .int .u16 rPC]) ∧ Adds w w' := by
  have m := S.and7 n
  rw [h] at m
  clear h
  go_enter Try.func13, Try.ntmps13
  go_wp2_with fail
  exact bodyPost_ret (v := .agg #[.int .u8 v, .int .u8 rB, .int .u8 rC, .int .u8 rD, .int .u8 rE, .int .u8 rH, .int .u8 rL, .bool rS, .bool rZ, .bool rK, .bool rAC, .bool rP, .bool rV, .bool rCY, .int .u16 rSP, .int .u16 rPC]) (ret_Regs Try.results13 rfl (by simp [go_sem]) rfl) rfl ⟨rfl, by (repeat (first | with_reducible exact Adds.refl _ | with_reducible apply Adds.drew | with_reducible apply Adds.drewN | with_reducible apply Adds.alloc | with_reducible apply Adds.more | (with_reducible refine Adds.setCell ?_ ?_ _) | (focus (simp [go_sem]; done)) | (focus (simp [go_sem]; omega))))⟩
theorem set_any (rA rB rC rD rE rH rL : Int) (rS rZ rK rAC rP rV rCY : Bool) (rSP rPC : Int) (n v : Int) (w : World) : Calls Try.prog 13 #[.agg #[.int .u8 rA, .int .u8 rB, .int .u8 rC, .int .u8 rD, .int .u8 rE, .int .u8 rH, .int .u8 rL, .bool rS, .bool rZ, .bool rK, .bool rAC, .bool rP, .bool rV, .bool rCY, .int .u16 rSP, .int .u16 rPC], .int .i64 n, .int .u8 v] w fun e w' => e = .returned (.agg #[.int .u8 (S.st 7 n v rA), .int .u8 (S.st 0 n v rB), .int .u8 (S.st 1 n v rC), .int .u8 (S.st 2 n v rD), .int .u8 (S.st 3 n v rE), .int .u8 (S.st 4 n v rH), .int .u8 (S.st 5 n v rL), .bool rS, .bool rZ, .bool rK, .bool rAC, .bool rP, .bool rV, .bool rCY, .int .u16 rSP, .int .u16 rPC]) ∧ Adds w w' := by
  rcases (by omega : n % 8 = 0 ∨ n % 8 = 1 ∨ n % 8 = 2 ∨ n % 8 = 3 ∨ n % 8 = 4 ∨ n % 8 = 5 ∨ n % 8 = 6 ∨ n % 8 = 7) with h | h | h | h | h | h | h | h
  · simp [S.st_of h]
    exact set_0 _ _ _ _ _ _ _ _ _ _ _ _ _ _ _ _ n v w h
  · simp [S.st_of h]
    exact set_1 _ _ _ _ _ _ _ _ _ _ _ _ _ _ _ _ n v w h
  · simp [S.st_of h]
    exact set_2 _ _ _ _ _ _ _ _ _ _ _ _ _ _ _ _ n v w h
  · simp [S.st_of h]
    exact set_3 _ _ _ _ _ _ _ _ _ _ _ _ _ _ _ _ n v w h
  · simp [S.st_of h]
    exact set_4 _ _ _ _ _ _ _ _ _ _ _ _ _ _ _ _ n v w h
  · simp [S.st_of h]
    exact set_5 _ _ _ _ _ _ _ _ _ _ _ _ _ _ _ _ n v w h
  · simp [S.st_of h]
    exact set_6 _ _ _ _ _ _ _ _ _ _ _ _ _ _ _ _ n v w h
  · simp [S.st_of h]
    exact set_7 _ _ _ _ _ _ _ _ _ _ _ _ _ _ _ _ n v w h
end Go.Proofs.Ytkoonimngcpdjaa
