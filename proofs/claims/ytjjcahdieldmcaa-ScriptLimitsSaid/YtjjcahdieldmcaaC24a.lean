/- Contracts of package script and of the reference's chapter 24 on one entry: Check, Idle, has, when, bit, check, input, controlOf, entryOf: each returns the plain functions' values and leaves what was there alone. Conditions: bytes are from 0 to 255. -/
import Derived.Test.YtjjcahdieldmcaaMI
import Derived.Deep.RegionWith
import Derived.StillTailTactics
namespace Go.Proofs.Ytjjcahdieldmcaa
open Go.ChangeShapes Go.WideShapes Go.ChangeAt Go.RowKit
set_option linter.unusedVariables false
theorem chk_any (c r p : Int) (w : World) : Calls Try.prog 19 #[.int .u8 c, .int .u8 r, .int .u8 p] w fun e w' => e = .returned (.int .u8 (S.chk c r p)) ∧ w = w' := by
  go_enter Try.func19, Try.ntmps19
  go_wp2
  go_ret
  exact ⟨rfl, rfl⟩
theorem rchk_any (c r p : Int) (w : World) : Calls Try.prog 20 #[.int .u8 c, .int .u8 r, .int .u8 p] w fun e w' => e = .returned (.int .u8 (S.chk c r p)) ∧ w = w' := by
  go_enter Try.func20, Try.ntmps20
  go_wp2
  go_ret
  exact ⟨rfl, rfl⟩
theorem idle_any (w : World) : Calls Try.prog 14 #[] w fun e w' => e = .returned (.agg S.idle.cs) ∧ Adds w w' := by
  go_enter Try.func14, Try.ntmps14
  go_wp2
  exact bodyPost_ret (v := .agg S.idle.cs) (ret_Input Try.results14 rfl (by simp [go_sem]; rfl) rfl) rfl ⟨rfl, by (repeat (first | with_reducible exact Adds.refl _ | with_reducible apply Adds.drew | with_reducible apply Adds.drewN | with_reducible apply Adds.alloc | with_reducible apply Adds.more | (with_reducible refine Adds.setCell ?_ ?_ _) | (focus (simp [go_sem]; done)) | (focus (simp [go_sem]; omega))))⟩
theorem ridle_any (w : World) : Calls Try.prog 15 #[] w fun e w' => e = .returned (.agg S.idle.cs) ∧ Adds w w' := by
  go_enter Try.func15, Try.ntmps15
  go_wp2
  exact bodyPost_ret (v := .agg S.idle.cs) (ret_Input Try.results15 rfl (by simp [go_sem]; rfl) rfl) rfl ⟨rfl, by (repeat (first | with_reducible exact Adds.refl _ | with_reducible apply Adds.drew | with_reducible apply Adds.drewN | with_reducible apply Adds.alloc | with_reducible apply Adds.more | (with_reducible refine Adds.setCell ?_ ?_ _) | (focus (simp [go_sem]; done)) | (focus (simp [go_sem]; omega))))⟩
theorem has_any (b m : Int) (w : World) : Calls Try.prog 29 #[.int .u8 b, .int .u8 m] w fun e w' => e = .returned (.bool (S.btm b m)) ∧ w = w' := by
  go_enter Try.func29, Try.ntmps29
  go_wp2
  go_ret
  exact ⟨rfl, rfl⟩
theorem when_any (c : Bool) (m : Int) (w : World) : Calls Try.prog 33 #[.bool c, .int .u8 m] w fun e w' => e = .returned (.int .u8 (S.wh c m)) ∧ w = w' := by
  cases c
  all_goals
    go_enter Try.func33, Try.ntmps33
    go_wp2
    go_ret
    exact ⟨rfl, rfl⟩
theorem rbit_0 (c : Bool) (w : World) : Calls Try.prog 26 #[.bool c, .int .i64 0] w fun e w' => e = .returned (.int .u8 (S.wh c 1)) ∧ w = w' := by
  have hs : ∀ w : World, Sem.run Try.prog (Op.shift BinOp.shl IntKind.u8 1 IntKind.i64 0) w = .ok (.int .u8 1) w := fun _ => by kernel_rfl
  cases c
  all_goals
    go_enter Try.func26, Try.ntmps26
    go_wp2
    go_ret
    exact ⟨rfl, rfl⟩
theorem rbit_1 (c : Bool) (w : World) : Calls Try.prog 26 #[.bool c, .int .i64 1] w fun e w' => e = .returned (.int .u8 (S.wh c 2)) ∧ w = w' := by
  have hs : ∀ w : World, Sem.run Try.prog (Op.shift BinOp.shl IntKind.u8 1 IntKind.i64 1) w = .ok (.int .u8 2) w := fun _ => by kernel_rfl
  cases c
  all_goals
    go_enter Try.func26, Try.ntmps26
    go_wp2
    go_ret
    exact ⟨rfl, rfl⟩
theorem rbit_2 (c : Bool) (w : World) : Calls Try.prog 26 #[.bool c, .int .i64 2] w fun e w' => e = .returned (.int .u8 (S.wh c 4)) ∧ w = w' := by
  have hs : ∀ w : World, Sem.run Try.prog (Op.shift BinOp.shl IntKind.u8 1 IntKind.i64 2) w = .ok (.int .u8 4) w := fun _ => by kernel_rfl
  cases c
  all_goals
    go_enter Try.func26, Try.ntmps26
    go_wp2
    go_ret
    exact ⟨rfl, rfl⟩
theorem rbit_3 (c : Bool) (w : World) : Calls Try.prog 26 #[.bool c, .int .i64 3] w fun e w' => e = .returned (.int .u8 (S.wh c 8)) ∧ w = w' := by
  have hs : ∀ w : World, Sem.run Try.prog (Op.shift BinOp.shl IntKind.u8 1 IntKind.i64 3) w = .ok (.int .u8 8) w := fun _ => by kernel_rfl
  cases c
  all_goals
    go_enter Try.func26, Try.ntmps26
    go_wp2
    go_ret
    exact ⟨rfl, rfl⟩
theorem rbit_4 (c : Bool) (w : World) : Calls Try.prog 26 #[.bool c, .int .i64 4] w fun e w' => e = .returned (.int .u8 (S.wh c 16)) ∧ w = w' := by
  have hs : ∀ w : World, Sem.run Try.prog (Op.shift BinOp.shl IntKind.u8 1 IntKind.i64 4) w = .ok (.int .u8 16) w := fun _ => by kernel_rfl
  cases c
  all_goals
    go_enter Try.func26, Try.ntmps26
    go_wp2
    go_ret
    exact ⟨rfl, rfl⟩
theorem rbit_5 (c : Bool) (w : World) : Calls Try.prog 26 #[.bool c, .int .i64 5] w fun e w' => e = .returned (.int .u8 (S.wh c 32)) ∧ w = w' := by
  have hs : ∀ w : World, Sem.run Try.prog (Op.shift BinOp.shl IntKind.u8 1 IntKind.i64 5) w = .ok (.int .u8 32) w := fun _ => by kernel_rfl
  cases c
  all_goals
    go_enter Try.func26, Try.ntmps26
    go_wp2
    go_ret
    exact ⟨rfl, rfl⟩
theorem rbit_6 (c : Bool) (w : World) : Calls Try.prog 26 #[.bool c, .int .i64 6] w fun e w' => e = .returned (.int .u8 (S.wh c 64)) ∧ w = w' := by
  have hs : ∀ w : World, Sem.run Try.prog (Op.shift BinOp.shl IntKind.u8 1 IntKind.i64 6) w = .ok (.int .u8 64) w := fun _ => by kernel_rfl
  cases c
  all_goals
    go_enter Try.func26, Try.ntmps26
    go_wp2
    go_ret
    exact ⟨rfl, rfl⟩
theorem rbit_7 (c : Bool) (w : World) : Calls Try.prog 26 #[.bool c, .int .i64 7] w fun e w' => e = .returned (.int .u8 (S.wh c 128)) ∧ w = w' := by
  have hs : ∀ w : World, Sem.run Try.prog (Op.shift BinOp.shl IntKind.u8 1 IntKind.i64 7) w = .ok (.int .u8 128) w := fun _ => by kernel_rfl
  cases c
  all_goals
    go_enter Try.func26, Try.ntmps26
    go_wp2
    go_ret
    exact ⟨rfl, rfl⟩
theorem rbit_any (c : Bool) (k : Int) (k0 : 0 ≤ k) (k8 : k < 8) (w : World) : Calls Try.prog 26 #[.bool c, .int .i64 k] w fun e w' => e = .returned (.int .u8 (S.wh c (S.pw k))) ∧ w = w' := by
  rcases (by omega : k = 0 ∨ k = 1 ∨ k = 2 ∨ k = 3 ∨ k = 4 ∨ k = 5 ∨ k = 6 ∨ k = 7) with rfl | rfl | rfl | rfl | rfl | rfl | rfl | rfl
  · exact rbit_0 c w
  · exact rbit_1 c w
  · exact rbit_2 c w
  · exact rbit_3 c w
  · exact rbit_4 c w
  · exact rbit_5 c w
  · exact rbit_6 c w
  · exact rbit_7 c w
theorem echk_any (c r p k : Int) (w : World) : Calls Try.prog 28 #[.agg #[.int .u8 c, .int .u8 r, .int .u8 p, .int .u8 k]] w fun e w' => e = .returned (.int .u8 (S.chk c r p)) ∧ Adds w w' := by
  go_enter Try.func28, Try.ntmps28
  go_wp2_with (go_at_call 19; refine (chk_any _ _ _ _).mono ?_; rintro e w' ⟨rfl, rfl⟩)
  go_ret
  exact ⟨rfl, by (repeat (first | with_reducible exact Adds.refl _ | with_reducible apply Adds.drew | with_reducible apply Adds.drewN | with_reducible apply Adds.alloc | with_reducible apply Adds.more | (with_reducible refine Adds.setCell ?_ ?_ _) | (focus (simp [go_sem]; done)) | (focus (simp [go_sem]; omega))))⟩
end Go.Proofs.Ytjjcahdieldmcaa
