/- Contracts of Get of package regs and of the reference: each returns the plain function's value and leaves what was there alone. No condition. -/
import Derived.Test.YtkoonimngcpdjaaC2
import Derived.Test.YtkoonimngcpdjaaS8
import Derived.Test.YtkoonimngcpdjaaMW
namespace Go.Proofs.Ytkoonimngcpdjaa
open Go.ChangeShapes Go.WideShapes Go.ChangeAt Go.RowKit
set_option linter.unusedVariables false
set_option maxHeartbeats 1000000 in
theorem get_any (rA rB rC rD rE rH rL : Int) (rS rZ rK rAC rP rV rCY : Bool) (rSP rPC : Int) (n : Int) (w : World) : Calls Try.prog 8 #[.agg #[.int .u8 rA, .int .u8 rB, .int .u8 rC, .int .u8 rD, .int .u8 rE, .int .u8 rH, .int .u8 rL, .bool rS, .bool rZ, .bool rK, .bool rAC, .bool rP, .bool rV, .bool rCY, .int .u16 rSP, .int .u16 rPC], .int .i64 n] w fun e w' => e = .returned (.int .u8 (S.rg n rA rB rC rD rE rH rL)) ∧ Adds w w' := by
  have m := S.and7 n
  rcases (by omega : n % 8 = 0 ∨ n % 8 = 1 ∨ n % 8 = 2 ∨ n % 8 = 3 ∨ n % 8 = 4 ∨ n % 8 = 5 ∨ n % 8 = 6 ∨ n % 8 = 7) with h | h | h | h | h | h | h | h
  · rw [S.rg_0 h]
    rw [h] at m
    clear h
    go_enter Try.func8, Try.ntmps8
    go_wp2_with fail
    go_ret
    exact ⟨rfl, by (repeat (first | with_reducible exact Adds.refl _ | with_reducible apply Adds.drew | with_reducible apply Adds.drewN | with_reducible apply Adds.alloc | with_reducible apply Adds.more | (with_reducible refine Adds.setCell ?_ ?_ _) | (focus (simp [go_sem]; done)) | (focus (simp [go_sem]; omega))))⟩
  · rw [S.rg_1 h]
    rw [h] at m
    clear h
    go_enter Try.func8, Try.ntmps8
    go_wp2_with fail
    go_ret
    exact ⟨rfl, by (repeat (first | with_reducible exact Adds.refl _ | with_reducible apply Adds.drew | with_reducible apply Adds.drewN | with_reducible apply Adds.alloc | with_reducible apply Adds.more | (with_reducible refine Adds.setCell ?_ ?_ _) | (focus (simp [go_sem]; done)) | (focus (simp [go_sem]; omega))))⟩
  · rw [S.rg_2 h]
    rw [h] at m
    clear h
    go_enter Try.func8, Try.ntmps8
    go_wp2_with fail
    go_ret
    exact ⟨rfl, by (repeat (first | with_reducible exact Adds.refl _ | with_reducible apply Adds.drew | with_reducible apply Adds.drewN | with_reducible apply Adds.alloc | with_reducible apply Adds.more | (with_reducible refine Adds.setCell ?_ ?_ _) | (focus (simp [go_sem]; done)) | (focus (simp [go_sem]; omega))))⟩
  · rw [S.rg_3 h]
    rw [h] at m
    clear h
    go_enter Try.func8, Try.ntmps8
    go_wp2_with fail
    go_ret
    exact ⟨rfl, by (repeat (first | with_reducible exact Adds.refl _ | with_reducible apply Adds.drew | with_reducible apply Adds.drewN | with_reducible apply Adds.alloc | with_reducible apply Adds.more | (with_reducible refine Adds.setCell ?_ ?_ _) | (focus (simp [go_sem]; done)) | (focus (simp [go_sem]; omega))))⟩
  · rw [S.rg_4 h]
    rw [h] at m
    clear h
    go_enter Try.func8, Try.ntmps8
    go_wp2_with fail
    go_ret
    exact ⟨rfl, by (repeat (first | with_reducible exact Adds.refl _ | with_reducible apply Adds.drew | with_reducible apply Adds.drewN | with_reducible apply Adds.alloc | with_reducible apply Adds.more | (with_reducible refine Adds.setCell ?_ ?_ _) | (focus (simp [go_sem]; done)) | (focus (simp [go_sem]; omega))))⟩
  · rw [S.rg_5 h]
    rw [h] at m
    clear h
    go_enter Try.func8, Try.ntmps8
    go_wp2_with fail
    go_ret
    exact ⟨rfl, by (repeat (first | with_reducible exact Adds.refl _ | with_reducible apply Adds.drew | with_reducible apply Adds.drewN | with_reducible apply Adds.alloc | with_reducible apply Adds.more | (with_reducible refine Adds.setCell ?_ ?_ _) | (focus (simp [go_sem]; done)) | (focus (simp [go_sem]; omega))))⟩
  · rw [S.rg_6 h]
    rw [h] at m
    clear h
    go_enter Try.func8, Try.ntmps8
    go_wp2_with fail
    go_ret
    exact ⟨rfl, by (repeat (first | with_reducible exact Adds.refl _ | with_reducible apply Adds.drew | with_reducible apply Adds.drewN | with_reducible apply Adds.alloc | with_reducible apply Adds.more | (with_reducible refine Adds.setCell ?_ ?_ _) | (focus (simp [go_sem]; done)) | (focus (simp [go_sem]; omega))))⟩
  · rw [S.rg_7 h]
    rw [h] at m
    clear h
    go_enter Try.func8, Try.ntmps8
    go_wp2_with fail
    go_ret
    exact ⟨rfl, by (repeat (first | with_reducible exact Adds.refl _ | with_reducible apply Adds.drew | with_reducible apply Adds.drewN | with_reducible apply Adds.alloc | with_reducible apply Adds.more | (with_reducible refine Adds.setCell ?_ ?_ _) | (focus (simp [go_sem]; done)) | (focus (simp [go_sem]; omega))))⟩
set_option maxHeartbeats 1000000 in
theorem rget_any (rA rB rC rD rE rH rL : Int) (rS rZ rK rAC rP rV rCY : Bool) (rSP rPC : Int) (n : Int) (w : World) : Calls Try.prog 9 #[.agg #[.int .u8 rA, .int .u8 rB, .int .u8 rC, .int .u8 rD, .int .u8 rE, .int .u8 rH, .int .u8 rL, .bool rS, .bool rZ, .bool rK, .bool rAC, .bool rP, .bool rV, .bool rCY, .int .u16 rSP, .int .u16 rPC], .int .i64 n] w fun e w' => e = .returned (.int .u8 (S.rg n rA rB rC rD rE rH rL)) ∧ Adds w w' := by
  have m := S.and7 n
  have i0 : ∀ w : World, (Instr.index 42 (.agg #[.int .u8 rB, .int .u8 rC, .int .u8 rD, .int .u8 rE, .int .u8 rH, .int .u8 rL, .int .u8 0, .int .u8 rA]) (.int .i64 0)).run Try.prog w = .ok (.int .u8 rB) w := fun _ => by kernel_rfl
  have i1 : ∀ w : World, (Instr.index 42 (.agg #[.int .u8 rB, .int .u8 rC, .int .u8 rD, .int .u8 rE, .int .u8 rH, .int .u8 rL, .int .u8 0, .int .u8 rA]) (.int .i64 1)).run Try.prog w = .ok (.int .u8 rC) w := fun _ => by kernel_rfl
  have i2 : ∀ w : World, (Instr.index 42 (.agg #[.int .u8 rB, .int .u8 rC, .int .u8 rD, .int .u8 rE, .int .u8 rH, .int .u8 rL, .int .u8 0, .int .u8 rA]) (.int .i64 2)).run Try.prog w = .ok (.int .u8 rD) w := fun _ => by kernel_rfl
  have i3 : ∀ w : World, (Instr.index 42 (.agg #[.int .u8 rB, .int .u8 rC, .int .u8 rD, .int .u8 rE, .int .u8 rH, .int .u8 rL, .int .u8 0, .int .u8 rA]) (.int .i64 3)).run Try.prog w = .ok (.int .u8 rE) w := fun _ => by kernel_rfl
  have i4 : ∀ w : World, (Instr.index 42 (.agg #[.int .u8 rB, .int .u8 rC, .int .u8 rD, .int .u8 rE, .int .u8 rH, .int .u8 rL, .int .u8 0, .int .u8 rA]) (.int .i64 4)).run Try.prog w = .ok (.int .u8 rH) w := fun _ => by kernel_rfl
  have i5 : ∀ w : World, (Instr.index 42 (.agg #[.int .u8 rB, .int .u8 rC, .int .u8 rD, .int .u8 rE, .int .u8 rH, .int .u8 rL, .int .u8 0, .int .u8 rA]) (.int .i64 5)).run Try.prog w = .ok (.int .u8 rL) w := fun _ => by kernel_rfl
  have i6 : ∀ w : World, (Instr.index 42 (.agg #[.int .u8 rB, .int .u8 rC, .int .u8 rD, .int .u8 rE, .int .u8 rH, .int .u8 rL, .int .u8 0, .int .u8 rA]) (.int .i64 6)).run Try.prog w = .ok (.int .u8 0) w := fun _ => by kernel_rfl
  have i7 : ∀ w : World, (Instr.index 42 (.agg #[.int .u8 rB, .int .u8 rC, .int .u8 rD, .int .u8 rE, .int .u8 rH, .int .u8 rL, .int .u8 0, .int .u8 rA]) (.int .i64 7)).run Try.prog w = .ok (.int .u8 rA) w := fun _ => by kernel_rfl
  rcases (by omega : n % 8 = 0 ∨ n % 8 = 1 ∨ n % 8 = 2 ∨ n % 8 = 3 ∨ n % 8 = 4 ∨ n % 8 = 5 ∨ n % 8 = 6 ∨ n % 8 = 7) with h | h | h | h | h | h | h | h
  · rw [S.rg_0 h]
    rw [h] at m
    clear h
    go_enter Try.func9, Try.ntmps9
    go_wp2_with fail
    go_ret
    exact ⟨rfl, by (repeat (first | with_reducible exact Adds.refl _ | with_reducible apply Adds.drew | with_reducible apply Adds.drewN | with_reducible apply Adds.alloc | with_reducible apply Adds.more | (with_reducible refine Adds.setCell ?_ ?_ _) | (focus (simp [go_sem]; done)) | (focus (simp [go_sem]; omega))))⟩
  · rw [S.rg_1 h]
    rw [h] at m
    clear h
    go_enter Try.func9, Try.ntmps9
    go_wp2_with fail
    go_ret
    exact ⟨rfl, by (repeat (first | with_reducible exact Adds.refl _ | with_reducible apply Adds.drew | with_reducible apply Adds.drewN | with_reducible apply Adds.alloc | with_reducible apply Adds.more | (with_reducible refine Adds.setCell ?_ ?_ _) | (focus (simp [go_sem]; done)) | (focus (simp [go_sem]; omega))))⟩
  · rw [S.rg_2 h]
    rw [h] at m
    clear h
    go_enter Try.func9, Try.ntmps9
    go_wp2_with fail
    go_ret
    exact ⟨rfl, by (repeat (first | with_reducible exact Adds.refl _ | with_reducible apply Adds.drew | with_reducible apply Adds.drewN | with_reducible apply Adds.alloc | with_reducible apply Adds.more | (with_reducible refine Adds.setCell ?_ ?_ _) | (focus (simp [go_sem]; done)) | (focus (simp [go_sem]; omega))))⟩
  · rw [S.rg_3 h]
    rw [h] at m
    clear h
    go_enter Try.func9, Try.ntmps9
    go_wp2_with fail
    go_ret
    exact ⟨rfl, by (repeat (first | with_reducible exact Adds.refl _ | with_reducible apply Adds.drew | with_reducible apply Adds.drewN | with_reducible apply Adds.alloc | with_reducible apply Adds.more | (with_reducible refine Adds.setCell ?_ ?_ _) | (focus (simp [go_sem]; done)) | (focus (simp [go_sem]; omega))))⟩
  · rw [S.rg_4 h]
    rw [h] at m
    clear h
    go_enter Try.func9, Try.ntmps9
    go_wp2_with fail
    go_ret
    exact ⟨rfl, by (repeat (first | with_reducible exact Adds.refl _ | with_reducible apply Adds.drew | with_reducible apply Adds.drewN | with_reducible apply Adds.alloc | with_reducible apply Adds.more | (with_reducible refine Adds.setCell ?_ ?_ _) | (focus (simp [go_sem]; done)) | (focus (simp [go_sem]; omega))))⟩
  · rw [S.rg_5 h]
    rw [h] at m
    clear h
    go_enter Try.func9, Try.ntmps9
    go_wp2_with fail
    go_ret
    exact ⟨rfl, by (repeat (first | with_reducible exact Adds.refl _ | with_reducible apply Adds.drew | with_reducible apply Adds.drewN | with_reducible apply Adds.alloc | with_reducible apply Adds.more | (with_reducible refine Adds.setCell ?_ ?_ _) | (focus (simp [go_sem]; done)) | (focus (simp [go_sem]; omega))))⟩
  · rw [S.rg_6 h]
    rw [h] at m
    clear h
    go_enter Try.func9, Try.ntmps9
    go_wp2_with fail
    go_ret
    exact ⟨rfl, by (repeat (first | with_reducible exact Adds.refl _ | with_reducible apply Adds.drew | with_reducible apply Adds.drewN | with_reducible apply Adds.alloc | with_reducible apply Adds.more | (with_reducible refine Adds.setCell ?_ ?_ _) | (focus (simp [go_sem]; done)) | (focus (simp [go_sem]; omega))))⟩
  · rw [S.rg_7 h]
    rw [h] at m
    clear h
    go_enter Try.func9, Try.ntmps9
    go_wp2_with fail
    go_ret
    exact ⟨rfl, by (repeat (first | with_reducible exact Adds.refl _ | with_reducible apply Adds.drew | with_reducible apply Adds.drewN | with_reducible apply Adds.alloc | with_reducible apply Adds.more | (with_reducible refine Adds.setCell ?_ ?_ _) | (focus (simp [go_sem]; done)) | (focus (simp [go_sem]; omega))))⟩
end Go.Proofs.Ytkoonimngcpdjaa
