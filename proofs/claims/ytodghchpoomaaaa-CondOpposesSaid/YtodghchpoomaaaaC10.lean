/- Contracts of package cond and of the reference's Holds: each returns the plain function's value and leaves what was there alone. No condition. -/
import Derived.Test.YtodghchpoomaaaaC1
import Derived.Test.YtodghchpoomaaaaM1
import Derived.Test.YtodghchpoomaaaaS10
namespace Go.Proofs.Ytodghchpoomaaaa
open Go.ChangeShapes Go.WideShapes Go.ChangeAt Go.RowKit
set_option linter.unusedVariables false
theorem lv_zero (s z k ac p v c : Bool) (w : World) : Calls Try.prog 10 #[.agg #[.bool s, .bool z, .bool k, .bool ac, .bool p, .bool v, .bool c]] w fun e w' => e = .returned (.bool z) ∧ Adds w w' := by
  go_enter Try.func10, Try.ntmps10
  go_wp2
  go_ret
  exact ⟨rfl, by (repeat (first | with_reducible exact Adds.refl _ | with_reducible apply Adds.drew | with_reducible apply Adds.drewN | with_reducible apply Adds.alloc | with_reducible apply Adds.more | (with_reducible refine Adds.setCell ?_ ?_ _) | (focus (simp [go_sem]; done)) | (focus (simp [go_sem]; omega))))⟩
theorem lv_carry (s z k ac p v c : Bool) (w : World) : Calls Try.prog 11 #[.agg #[.bool s, .bool z, .bool k, .bool ac, .bool p, .bool v, .bool c]] w fun e w' => e = .returned (.bool c) ∧ Adds w w' := by
  go_enter Try.func11, Try.ntmps11
  go_wp2
  go_ret
  exact ⟨rfl, by (repeat (first | with_reducible exact Adds.refl _ | with_reducible apply Adds.drew | with_reducible apply Adds.drewN | with_reducible apply Adds.alloc | with_reducible apply Adds.more | (with_reducible refine Adds.setCell ?_ ?_ _) | (focus (simp [go_sem]; done)) | (focus (simp [go_sem]; omega))))⟩
theorem lv_parity (s z k ac p v c : Bool) (w : World) : Calls Try.prog 12 #[.agg #[.bool s, .bool z, .bool k, .bool ac, .bool p, .bool v, .bool c]] w fun e w' => e = .returned (.bool p) ∧ Adds w w' := by
  go_enter Try.func12, Try.ntmps12
  go_wp2
  go_ret
  exact ⟨rfl, by (repeat (first | with_reducible exact Adds.refl _ | with_reducible apply Adds.drew | with_reducible apply Adds.drewN | with_reducible apply Adds.alloc | with_reducible apply Adds.more | (with_reducible refine Adds.setCell ?_ ?_ _) | (focus (simp [go_sem]; done)) | (focus (simp [go_sem]; omega))))⟩
theorem lv_sign (s z k ac p v c : Bool) (w : World) : Calls Try.prog 13 #[.agg #[.bool s, .bool z, .bool k, .bool ac, .bool p, .bool v, .bool c]] w fun e w' => e = .returned (.bool s) ∧ Adds w w' := by
  go_enter Try.func13, Try.ntmps13
  go_wp2
  go_ret
  exact ⟨rfl, by (repeat (first | with_reducible exact Adds.refl _ | with_reducible apply Adds.drew | with_reducible apply Adds.drewN | with_reducible apply Adds.alloc | with_reducible apply Adds.more | (with_reducible refine Adds.setCell ?_ ?_ _) | (focus (simp [go_sem]; done)) | (focus (simp [go_sem]; omega))))⟩
theorem lv_k (s z k ac p v c : Bool) (w : World) : Calls Try.prog 14 #[.agg #[.bool s, .bool z, .bool k, .bool ac, .bool p, .bool v, .bool c]] w fun e w' => e = .returned (.bool k) ∧ Adds w w' := by
  go_enter Try.func14, Try.ntmps14
  go_wp2
  go_ret
  exact ⟨rfl, by (repeat (first | with_reducible exact Adds.refl _ | with_reducible apply Adds.drew | with_reducible apply Adds.drewN | with_reducible apply Adds.alloc | with_reducible apply Adds.more | (with_reducible refine Adds.setCell ?_ ?_ _) | (focus (simp [go_sem]; done)) | (focus (simp [go_sem]; omega))))⟩
theorem lv_overflow (s z k ac p v c : Bool) (w : World) : Calls Try.prog 15 #[.agg #[.bool s, .bool z, .bool k, .bool ac, .bool p, .bool v, .bool c]] w fun e w' => e = .returned (.bool v) ∧ Adds w w' := by
  go_enter Try.func15, Try.ntmps15
  go_wp2
  go_ret
  exact ⟨rfl, by (repeat (first | with_reducible exact Adds.refl _ | with_reducible apply Adds.drew | with_reducible apply Adds.drewN | with_reducible apply Adds.alloc | with_reducible apply Adds.more | (with_reducible refine Adds.setCell ?_ ?_ _) | (focus (simp [go_sem]; done)) | (focus (simp [go_sem]; omega))))⟩
theorem neg_any (n : Int) (n0 : 0 ≤ n) (n1 : n ≤ 10) (w : World) : Calls Try.prog 16 #[.int .i64 n] w fun e w' => e = .returned (.bool (S.neg n)) ∧ Adds w w' := by
  rcases (by omega : n = 0 ∨ n = 1 ∨ n = 2 ∨ n = 3 ∨ n = 4 ∨ n = 5 ∨ n = 6 ∨ n = 7 ∨ n = 8 ∨ n = 9 ∨ n = 10) with rfl | rfl | rfl | rfl | rfl | rfl | rfl | rfl | rfl | rfl | rfl
  all_goals
    go_enter Try.func16, Try.ntmps16
    go_wp2
    go_ret
    exact ⟨rfl, by (repeat (first | with_reducible exact Adds.refl _ | with_reducible apply Adds.drew | with_reducible apply Adds.drewN | with_reducible apply Adds.alloc | with_reducible apply Adds.more | (with_reducible refine Adds.setCell ?_ ?_ _) | (focus (simp [go_sem]; done)) | (focus (simp [go_sem]; omega))))⟩
theorem holds_0 (s z k ac p v c : Bool) (w : World) : Calls Try.prog 7 #[.int .i64 0, .agg #[.bool s, .bool z, .bool k, .bool ac, .bool p, .bool v, .bool c]] w fun e w' => e = .returned (.bool (S.cnd 0 s z k p v c)) ∧ Adds w w' := by
  have hmf : ∀ (fn : Fn) (first cap : Array Value) (w : World), (Instr.makeFunc fn first cap).run Try.prog w = .ok (.func fn first cap) w := fun _ _ _ _ => rfl
  go_enter Try.func7, Try.ntmps7
  go_wp2_with (first | (go_at_call 10; refine (lv_zero _ _ _ _ _ _ _ _).mono ?_; rintro e w' ⟨rfl, ⟨⟨n1, os1⟩, rfl⟩⟩) | (go_at_call 11; refine (lv_carry _ _ _ _ _ _ _ _).mono ?_; rintro e w' ⟨rfl, ⟨⟨n1, os1⟩, rfl⟩⟩) | (go_at_call 12; refine (lv_parity _ _ _ _ _ _ _ _).mono ?_; rintro e w' ⟨rfl, ⟨⟨n1, os1⟩, rfl⟩⟩) | (go_at_call 13; refine (lv_sign _ _ _ _ _ _ _ _).mono ?_; rintro e w' ⟨rfl, ⟨⟨n1, os1⟩, rfl⟩⟩) | (go_at_call 14; refine (lv_k _ _ _ _ _ _ _ _).mono ?_; rintro e w' ⟨rfl, ⟨⟨n1, os1⟩, rfl⟩⟩) | (go_at_call 15; refine (lv_overflow _ _ _ _ _ _ _ _).mono ?_; rintro e w' ⟨rfl, ⟨⟨n1, os1⟩, rfl⟩⟩) | (go_at_call 16; refine (neg_any _ (by decide) (by decide) _).mono ?_; rintro e w' ⟨rfl, ⟨⟨n2, os2⟩, rfl⟩⟩))
  go_ret
  exact ⟨rb (by clear hmf; revert s z k p v c; decide), by (repeat (first | with_reducible exact Adds.refl _ | with_reducible apply Adds.drew | with_reducible apply Adds.drewN | with_reducible apply Adds.alloc | with_reducible apply Adds.more | (with_reducible refine Adds.setCell ?_ ?_ _) | (focus (simp [go_sem]; done)) | (focus (simp [go_sem]; omega))))⟩
theorem holds_1 (s z k ac p v c : Bool) (w : World) : Calls Try.prog 7 #[.int .i64 1, .agg #[.bool s, .bool z, .bool k, .bool ac, .bool p, .bool v, .bool c]] w fun e w' => e = .returned (.bool (S.cnd 1 s z k p v c)) ∧ Adds w w' := by
  have hmf : ∀ (fn : Fn) (first cap : Array Value) (w : World), (Instr.makeFunc fn first cap).run Try.prog w = .ok (.func fn first cap) w := fun _ _ _ _ => rfl
  go_enter Try.func7, Try.ntmps7
  go_wp2_with (first | (go_at_call 10; refine (lv_zero _ _ _ _ _ _ _ _).mono ?_; rintro e w' ⟨rfl, ⟨⟨n1, os1⟩, rfl⟩⟩) | (go_at_call 11; refine (lv_carry _ _ _ _ _ _ _ _).mono ?_; rintro e w' ⟨rfl, ⟨⟨n1, os1⟩, rfl⟩⟩) | (go_at_call 12; refine (lv_parity _ _ _ _ _ _ _ _).mono ?_; rintro e w' ⟨rfl, ⟨⟨n1, os1⟩, rfl⟩⟩) | (go_at_call 13; refine (lv_sign _ _ _ _ _ _ _ _).mono ?_; rintro e w' ⟨rfl, ⟨⟨n1, os1⟩, rfl⟩⟩) | (go_at_call 14; refine (lv_k _ _ _ _ _ _ _ _).mono ?_; rintro e w' ⟨rfl, ⟨⟨n1, os1⟩, rfl⟩⟩) | (go_at_call 15; refine (lv_overflow _ _ _ _ _ _ _ _).mono ?_; rintro e w' ⟨rfl, ⟨⟨n1, os1⟩, rfl⟩⟩) | (go_at_call 16; refine (neg_any _ (by decide) (by decide) _).mono ?_; rintro e w' ⟨rfl, ⟨⟨n2, os2⟩, rfl⟩⟩))
  go_ret
  exact ⟨rb (by clear hmf; revert s z k p v c; decide), by (repeat (first | with_reducible exact Adds.refl _ | with_reducible apply Adds.drew | with_reducible apply Adds.drewN | with_reducible apply Adds.alloc | with_reducible apply Adds.more | (with_reducible refine Adds.setCell ?_ ?_ _) | (focus (simp [go_sem]; done)) | (focus (simp [go_sem]; omega))))⟩
theorem holds_2 (s z k ac p v c : Bool) (w : World) : Calls Try.prog 7 #[.int .i64 2, .agg #[.bool s, .bool z, .bool k, .bool ac, .bool p, .bool v, .bool c]] w fun e w' => e = .returned (.bool (S.cnd 2 s z k p v c)) ∧ Adds w w' := by
  have hmf : ∀ (fn : Fn) (first cap : Array Value) (w : World), (Instr.makeFunc fn first cap).run Try.prog w = .ok (.func fn first cap) w := fun _ _ _ _ => rfl
  go_enter Try.func7, Try.ntmps7
  go_wp2_with (first | (go_at_call 10; refine (lv_zero _ _ _ _ _ _ _ _).mono ?_; rintro e w' ⟨rfl, ⟨⟨n1, os1⟩, rfl⟩⟩) | (go_at_call 11; refine (lv_carry _ _ _ _ _ _ _ _).mono ?_; rintro e w' ⟨rfl, ⟨⟨n1, os1⟩, rfl⟩⟩) | (go_at_call 12; refine (lv_parity _ _ _ _ _ _ _ _).mono ?_; rintro e w' ⟨rfl, ⟨⟨n1, os1⟩, rfl⟩⟩) | (go_at_call 13; refine (lv_sign _ _ _ _ _ _ _ _).mono ?_; rintro e w' ⟨rfl, ⟨⟨n1, os1⟩, rfl⟩⟩) | (go_at_call 14; refine (lv_k _ _ _ _ _ _ _ _).mono ?_; rintro e w' ⟨rfl, ⟨⟨n1, os1⟩, rfl⟩⟩) | (go_at_call 15; refine (lv_overflow _ _ _ _ _ _ _ _).mono ?_; rintro e w' ⟨rfl, ⟨⟨n1, os1⟩, rfl⟩⟩) | (go_at_call 16; refine (neg_any _ (by decide) (by decide) _).mono ?_; rintro e w' ⟨rfl, ⟨⟨n2, os2⟩, rfl⟩⟩))
  go_ret
  exact ⟨rb (by clear hmf; revert s z k p v c; decide), by (repeat (first | with_reducible exact Adds.refl _ | with_reducible apply Adds.drew | with_reducible apply Adds.drewN | with_reducible apply Adds.alloc | with_reducible apply Adds.more | (with_reducible refine Adds.setCell ?_ ?_ _) | (focus (simp [go_sem]; done)) | (focus (simp [go_sem]; omega))))⟩
theorem holds_3 (s z k ac p v c : Bool) (w : World) : Calls Try.prog 7 #[.int .i64 3, .agg #[.bool s, .bool z, .bool k, .bool ac, .bool p, .bool v, .bool c]] w fun e w' => e = .returned (.bool (S.cnd 3 s z k p v c)) ∧ Adds w w' := by
  have hmf : ∀ (fn : Fn) (first cap : Array Value) (w : World), (Instr.makeFunc fn first cap).run Try.prog w = .ok (.func fn first cap) w := fun _ _ _ _ => rfl
  go_enter Try.func7, Try.ntmps7
  go_wp2_with (first | (go_at_call 10; refine (lv_zero _ _ _ _ _ _ _ _).mono ?_; rintro e w' ⟨rfl, ⟨⟨n1, os1⟩, rfl⟩⟩) | (go_at_call 11; refine (lv_carry _ _ _ _ _ _ _ _).mono ?_; rintro e w' ⟨rfl, ⟨⟨n1, os1⟩, rfl⟩⟩) | (go_at_call 12; refine (lv_parity _ _ _ _ _ _ _ _).mono ?_; rintro e w' ⟨rfl, ⟨⟨n1, os1⟩, rfl⟩⟩) | (go_at_call 13; refine (lv_sign _ _ _ _ _ _ _ _).mono ?_; rintro e w' ⟨rfl, ⟨⟨n1, os1⟩, rfl⟩⟩) | (go_at_call 14; refine (lv_k _ _ _ _ _ _ _ _).mono ?_; rintro e w' ⟨rfl, ⟨⟨n1, os1⟩, rfl⟩⟩) | (go_at_call 15; refine (lv_overflow _ _ _ _ _ _ _ _).mono ?_; rintro e w' ⟨rfl, ⟨⟨n1, os1⟩, rfl⟩⟩) | (go_at_call 16; refine (neg_any _ (by decide) (by decide) _).mono ?_; rintro e w' ⟨rfl, ⟨⟨n2, os2⟩, rfl⟩⟩))
  go_ret
  exact ⟨rb (by clear hmf; revert s z k p v c; decide), by (repeat (first | with_reducible exact Adds.refl _ | with_reducible apply Adds.drew | with_reducible apply Adds.drewN | with_reducible apply Adds.alloc | with_reducible apply Adds.more | (with_reducible refine Adds.setCell ?_ ?_ _) | (focus (simp [go_sem]; done)) | (focus (simp [go_sem]; omega))))⟩
theorem holds_4 (s z k ac p v c : Bool) (w : World) : Calls Try.prog 7 #[.int .i64 4, .agg #[.bool s, .bool z, .bool k, .bool ac, .bool p, .bool v, .bool c]] w fun e w' => e = .returned (.bool (S.cnd 4 s z k p v c)) ∧ Adds w w' := by
  have hmf : ∀ (fn : Fn) (first cap : Array Value) (w : World), (Instr.makeFunc fn first cap).run Try.prog w = .ok (.func fn first cap) w := fun _ _ _ _ => rfl
  go_enter Try.func7, Try.ntmps7
  go_wp2_with (first | (go_at_call 10; refine (lv_zero _ _ _ _ _ _ _ _).mono ?_; rintro e w' ⟨rfl, ⟨⟨n1, os1⟩, rfl⟩⟩) | (go_at_call 11; refine (lv_carry _ _ _ _ _ _ _ _).mono ?_; rintro e w' ⟨rfl, ⟨⟨n1, os1⟩, rfl⟩⟩) | (go_at_call 12; refine (lv_parity _ _ _ _ _ _ _ _).mono ?_; rintro e w' ⟨rfl, ⟨⟨n1, os1⟩, rfl⟩⟩) | (go_at_call 13; refine (lv_sign _ _ _ _ _ _ _ _).mono ?_; rintro e w' ⟨rfl, ⟨⟨n1, os1⟩, rfl⟩⟩) | (go_at_call 14; refine (lv_k _ _ _ _ _ _ _ _).mono ?_; rintro e w' ⟨rfl, ⟨⟨n1, os1⟩, rfl⟩⟩) | (go_at_call 15; refine (lv_overflow _ _ _ _ _ _ _ _).mono ?_; rintro e w' ⟨rfl, ⟨⟨n1, os1⟩, rfl⟩⟩) | (go_at_call 16; refine (neg_any _ (by decide) (by decide) _).mono ?_; rintro e w' ⟨rfl, ⟨⟨n2, os2⟩, rfl⟩⟩))
  go_ret
  exact ⟨rb (by clear hmf; revert s z k p v c; decide), by (repeat (first | with_reducible exact Adds.refl _ | with_reducible apply Adds.drew | with_reducible apply Adds.drewN | with_reducible apply Adds.alloc | with_reducible apply Adds.more | (with_reducible refine Adds.setCell ?_ ?_ _) | (focus (simp [go_sem]; done)) | (focus (simp [go_sem]; omega))))⟩
theorem holds_5 (s z k ac p v c : Bool) (w : World) : Calls Try.prog 7 #[.int .i64 5, .agg #[.bool s, .bool z, .bool k, .bool ac, .bool p, .bool v, .bool c]] w fun e w' => e = .returned (.bool (S.cnd 5 s z k p v c)) ∧ Adds w w' := by
  have hmf : ∀ (fn : Fn) (first cap : Array Value) (w : World), (Instr.makeFunc fn first cap).run Try.prog w = .ok (.func fn first cap) w := fun _ _ _ _ => rfl
  go_enter Try.func7, Try.ntmps7
  go_wp2_with (first | (go_at_call 10; refine (lv_zero _ _ _ _ _ _ _ _).mono ?_; rintro e w' ⟨rfl, ⟨⟨n1, os1⟩, rfl⟩⟩) | (go_at_call 11; refine (lv_carry _ _ _ _ _ _ _ _).mono ?_; rintro e w' ⟨rfl, ⟨⟨n1, os1⟩, rfl⟩⟩) | (go_at_call 12; refine (lv_parity _ _ _ _ _ _ _ _).mono ?_; rintro e w' ⟨rfl, ⟨⟨n1, os1⟩, rfl⟩⟩) | (go_at_call 13; refine (lv_sign _ _ _ _ _ _ _ _).mono ?_; rintro e w' ⟨rfl, ⟨⟨n1, os1⟩, rfl⟩⟩) | (go_at_call 14; refine (lv_k _ _ _ _ _ _ _ _).mono ?_; rintro e w' ⟨rfl, ⟨⟨n1, os1⟩, rfl⟩⟩) | (go_at_call 15; refine (lv_overflow _ _ _ _ _ _ _ _).mono ?_; rintro e w' ⟨rfl, ⟨⟨n1, os1⟩, rfl⟩⟩) | (go_at_call 16; refine (neg_any _ (by decide) (by decide) _).mono ?_; rintro e w' ⟨rfl, ⟨⟨n2, os2⟩, rfl⟩⟩))
  go_ret
  exact ⟨rb (by clear hmf; revert s z k p v c; decide), by (repeat (first | with_reducible exact Adds.refl _ | with_reducible apply Adds.drew | with_reducible apply Adds.drewN | with_reducible apply Adds.alloc | with_reducible apply Adds.more | (with_reducible refine Adds.setCell ?_ ?_ _) | (focus (simp [go_sem]; done)) | (focus (simp [go_sem]; omega))))⟩
theorem holds_6 (s z k ac p v c : Bool) (w : World) : Calls Try.prog 7 #[.int .i64 6, .agg #[.bool s, .bool z, .bool k, .bool ac, .bool p, .bool v, .bool c]] w fun e w' => e = .returned (.bool (S.cnd 6 s z k p v c)) ∧ Adds w w' := by
  have hmf : ∀ (fn : Fn) (first cap : Array Value) (w : World), (Instr.makeFunc fn first cap).run Try.prog w = .ok (.func fn first cap) w := fun _ _ _ _ => rfl
  go_enter Try.func7, Try.ntmps7
  go_wp2_with (first | (go_at_call 10; refine (lv_zero _ _ _ _ _ _ _ _).mono ?_; rintro e w' ⟨rfl, ⟨⟨n1, os1⟩, rfl⟩⟩) | (go_at_call 11; refine (lv_carry _ _ _ _ _ _ _ _).mono ?_; rintro e w' ⟨rfl, ⟨⟨n1, os1⟩, rfl⟩⟩) | (go_at_call 12; refine (lv_parity _ _ _ _ _ _ _ _).mono ?_; rintro e w' ⟨rfl, ⟨⟨n1, os1⟩, rfl⟩⟩) | (go_at_call 13; refine (lv_sign _ _ _ _ _ _ _ _).mono ?_; rintro e w' ⟨rfl, ⟨⟨n1, os1⟩, rfl⟩⟩) | (go_at_call 14; refine (lv_k _ _ _ _ _ _ _ _).mono ?_; rintro e w' ⟨rfl, ⟨⟨n1, os1⟩, rfl⟩⟩) | (go_at_call 15; refine (lv_overflow _ _ _ _ _ _ _ _).mono ?_; rintro e w' ⟨rfl, ⟨⟨n1, os1⟩, rfl⟩⟩) | (go_at_call 16; refine (neg_any _ (by decide) (by decide) _).mono ?_; rintro e w' ⟨rfl, ⟨⟨n2, os2⟩, rfl⟩⟩))
  go_ret
  exact ⟨rb (by clear hmf; revert s z k p v c; decide), by (repeat (first | with_reducible exact Adds.refl _ | with_reducible apply Adds.drew | with_reducible apply Adds.drewN | with_reducible apply Adds.alloc | with_reducible apply Adds.more | (with_reducible refine Adds.setCell ?_ ?_ _) | (focus (simp [go_sem]; done)) | (focus (simp [go_sem]; omega))))⟩
theorem holds_7 (s z k ac p v c : Bool) (w : World) : Calls Try.prog 7 #[.int .i64 7, .agg #[.bool s, .bool z, .bool k, .bool ac, .bool p, .bool v, .bool c]] w fun e w' => e = .returned (.bool (S.cnd 7 s z k p v c)) ∧ Adds w w' := by
  have hmf : ∀ (fn : Fn) (first cap : Array Value) (w : World), (Instr.makeFunc fn first cap).run Try.prog w = .ok (.func fn first cap) w := fun _ _ _ _ => rfl
  go_enter Try.func7, Try.ntmps7
  go_wp2_with (first | (go_at_call 10; refine (lv_zero _ _ _ _ _ _ _ _).mono ?_; rintro e w' ⟨rfl, ⟨⟨n1, os1⟩, rfl⟩⟩) | (go_at_call 11; refine (lv_carry _ _ _ _ _ _ _ _).mono ?_; rintro e w' ⟨rfl, ⟨⟨n1, os1⟩, rfl⟩⟩) | (go_at_call 12; refine (lv_parity _ _ _ _ _ _ _ _).mono ?_; rintro e w' ⟨rfl, ⟨⟨n1, os1⟩, rfl⟩⟩) | (go_at_call 13; refine (lv_sign _ _ _ _ _ _ _ _).mono ?_; rintro e w' ⟨rfl, ⟨⟨n1, os1⟩, rfl⟩⟩) | (go_at_call 14; refine (lv_k _ _ _ _ _ _ _ _).mono ?_; rintro e w' ⟨rfl, ⟨⟨n1, os1⟩, rfl⟩⟩) | (go_at_call 15; refine (lv_overflow _ _ _ _ _ _ _ _).mono ?_; rintro e w' ⟨rfl, ⟨⟨n1, os1⟩, rfl⟩⟩) | (go_at_call 16; refine (neg_any _ (by decide) (by decide) _).mono ?_; rintro e w' ⟨rfl, ⟨⟨n2, os2⟩, rfl⟩⟩))
  go_ret
  exact ⟨rb (by clear hmf; revert s z k p v c; decide), by (repeat (first | with_reducible exact Adds.refl _ | with_reducible apply Adds.drew | with_reducible apply Adds.drewN | with_reducible apply Adds.alloc | with_reducible apply Adds.more | (with_reducible refine Adds.setCell ?_ ?_ _) | (focus (simp [go_sem]; done)) | (focus (simp [go_sem]; omega))))⟩
theorem holds_8 (s z k ac p v c : Bool) (w : World) : Calls Try.prog 7 #[.int .i64 8, .agg #[.bool s, .bool z, .bool k, .bool ac, .bool p, .bool v, .bool c]] w fun e w' => e = .returned (.bool (S.cnd 8 s z k p v c)) ∧ Adds w w' := by
  have hmf : ∀ (fn : Fn) (first cap : Array Value) (w : World), (Instr.makeFunc fn first cap).run Try.prog w = .ok (.func fn first cap) w := fun _ _ _ _ => rfl
  go_enter Try.func7, Try.ntmps7
  go_wp2_with (first | (go_at_call 10; refine (lv_zero _ _ _ _ _ _ _ _).mono ?_; rintro e w' ⟨rfl, ⟨⟨n1, os1⟩, rfl⟩⟩) | (go_at_call 11; refine (lv_carry _ _ _ _ _ _ _ _).mono ?_; rintro e w' ⟨rfl, ⟨⟨n1, os1⟩, rfl⟩⟩) | (go_at_call 12; refine (lv_parity _ _ _ _ _ _ _ _).mono ?_; rintro e w' ⟨rfl, ⟨⟨n1, os1⟩, rfl⟩⟩) | (go_at_call 13; refine (lv_sign _ _ _ _ _ _ _ _).mono ?_; rintro e w' ⟨rfl, ⟨⟨n1, os1⟩, rfl⟩⟩) | (go_at_call 14; refine (lv_k _ _ _ _ _ _ _ _).mono ?_; rintro e w' ⟨rfl, ⟨⟨n1, os1⟩, rfl⟩⟩) | (go_at_call 15; refine (lv_overflow _ _ _ _ _ _ _ _).mono ?_; rintro e w' ⟨rfl, ⟨⟨n1, os1⟩, rfl⟩⟩) | (go_at_call 16; refine (neg_any _ (by decide) (by decide) _).mono ?_; rintro e w' ⟨rfl, ⟨⟨n2, os2⟩, rfl⟩⟩))
  go_ret
  exact ⟨rb (by clear hmf; revert s z k p v c; decide), by (repeat (first | with_reducible exact Adds.refl _ | with_reducible apply Adds.drew | with_reducible apply Adds.drewN | with_reducible apply Adds.alloc | with_reducible apply Adds.more | (with_reducible refine Adds.setCell ?_ ?_ _) | (focus (simp [go_sem]; done)) | (focus (simp [go_sem]; omega))))⟩
theorem holds_9 (s z k ac p v c : Bool) (w : World) : Calls Try.prog 7 #[.int .i64 9, .agg #[.bool s, .bool z, .bool k, .bool ac, .bool p, .bool v, .bool c]] w fun e w' => e = .returned (.bool (S.cnd 9 s z k p v c)) ∧ Adds w w' := by
  have hmf : ∀ (fn : Fn) (first cap : Array Value) (w : World), (Instr.makeFunc fn first cap).run Try.prog w = .ok (.func fn first cap) w := fun _ _ _ _ => rfl
  go_enter Try.func7, Try.ntmps7
  go_wp2_with (first | (go_at_call 10; refine (lv_zero _ _ _ _ _ _ _ _).mono ?_; rintro e w' ⟨rfl, ⟨⟨n1, os1⟩, rfl⟩⟩) | (go_at_call 11; refine (lv_carry _ _ _ _ _ _ _ _).mono ?_; rintro e w' ⟨rfl, ⟨⟨n1, os1⟩, rfl⟩⟩) | (go_at_call 12; refine (lv_parity _ _ _ _ _ _ _ _).mono ?_; rintro e w' ⟨rfl, ⟨⟨n1, os1⟩, rfl⟩⟩) | (go_at_call 13; refine (lv_sign _ _ _ _ _ _ _ _).mono ?_; rintro e w' ⟨rfl, ⟨⟨n1, os1⟩, rfl⟩⟩) | (go_at_call 14; refine (lv_k _ _ _ _ _ _ _ _).mono ?_; rintro e w' ⟨rfl, ⟨⟨n1, os1⟩, rfl⟩⟩) | (go_at_call 15; refine (lv_overflow _ _ _ _ _ _ _ _).mono ?_; rintro e w' ⟨rfl, ⟨⟨n1, os1⟩, rfl⟩⟩) | (go_at_call 16; refine (neg_any _ (by decide) (by decide) _).mono ?_; rintro e w' ⟨rfl, ⟨⟨n2, os2⟩, rfl⟩⟩))
  go_ret
  exact ⟨rb (by clear hmf; revert s z k p v c; decide), by (repeat (first | with_reducible exact Adds.refl _ | with_reducible apply Adds.drew | with_reducible apply Adds.drewN | with_reducible apply Adds.alloc | with_reducible apply Adds.more | (with_reducible refine Adds.setCell ?_ ?_ _) | (focus (simp [go_sem]; done)) | (focus (simp [go_sem]; omega))))⟩
theorem holds_10 (s z k ac p v c : Bool) (w : World) : Calls Try.prog 7 #[.int .i64 10, .agg #[.bool s, .bool z, .bool k, .bool ac, .bool p, .bool v, .bool c]] w fun e w' => e = .returned (.bool (S.cnd 10 s z k p v c)) ∧ Adds w w' := by
  have hmf : ∀ (fn : Fn) (first cap : Array Value) (w : World), (Instr.makeFunc fn first cap).run Try.prog w = .ok (.func fn first cap) w := fun _ _ _ _ => rfl
  go_enter Try.func7, Try.ntmps7
  go_wp2_with (first | (go_at_call 10; refine (lv_zero _ _ _ _ _ _ _ _).mono ?_; rintro e w' ⟨rfl, ⟨⟨n1, os1⟩, rfl⟩⟩) | (go_at_call 11; refine (lv_carry _ _ _ _ _ _ _ _).mono ?_; rintro e w' ⟨rfl, ⟨⟨n1, os1⟩, rfl⟩⟩) | (go_at_call 12; refine (lv_parity _ _ _ _ _ _ _ _).mono ?_; rintro e w' ⟨rfl, ⟨⟨n1, os1⟩, rfl⟩⟩) | (go_at_call 13; refine (lv_sign _ _ _ _ _ _ _ _).mono ?_; rintro e w' ⟨rfl, ⟨⟨n1, os1⟩, rfl⟩⟩) | (go_at_call 14; refine (lv_k _ _ _ _ _ _ _ _).mono ?_; rintro e w' ⟨rfl, ⟨⟨n1, os1⟩, rfl⟩⟩) | (go_at_call 15; refine (lv_overflow _ _ _ _ _ _ _ _).mono ?_; rintro e w' ⟨rfl, ⟨⟨n1, os1⟩, rfl⟩⟩) | (go_at_call 16; refine (neg_any _ (by decide) (by decide) _).mono ?_; rintro e w' ⟨rfl, ⟨⟨n2, os2⟩, rfl⟩⟩))
  go_ret
  exact ⟨rb (by clear hmf; revert s z k p v c; decide), by (repeat (first | with_reducible exact Adds.refl _ | with_reducible apply Adds.drew | with_reducible apply Adds.drewN | with_reducible apply Adds.alloc | with_reducible apply Adds.more | (with_reducible refine Adds.setCell ?_ ?_ _) | (focus (simp [go_sem]; done)) | (focus (simp [go_sem]; omega))))⟩
theorem holds_11 (s z k ac p v c : Bool) (w : World) : Calls Try.prog 7 #[.int .i64 11, .agg #[.bool s, .bool z, .bool k, .bool ac, .bool p, .bool v, .bool c]] w fun e w' => e = .returned (.bool (S.cnd 11 s z k p v c)) ∧ Adds w w' := by
  go_enter Try.func7, Try.ntmps7
  go_wp2_with fail
  go_ret
  exact ⟨rfl, by (repeat (first | with_reducible exact Adds.refl _ | with_reducible apply Adds.drew | with_reducible apply Adds.drewN | with_reducible apply Adds.alloc | with_reducible apply Adds.more | (with_reducible refine Adds.setCell ?_ ?_ _) | (focus (simp [go_sem]; done)) | (focus (simp [go_sem]; omega))))⟩
theorem holds_any (n : Int) (s z k ac p v c : Bool) (w : World) : Calls Try.prog 7 #[.int .i64 n, .agg #[.bool s, .bool z, .bool k, .bool ac, .bool p, .bool v, .bool c]] w fun e w' => e = .returned (.bool (S.cnd n s z k p v c)) ∧ Adds w w' := by
  by_cases h0 : n = 0
  · subst h0; exact holds_0 s z k ac p v c w
  by_cases h1 : n = 1
  · subst h1; exact holds_1 s z k ac p v c w
  by_cases h2 : n = 2
  · subst h2; exact holds_2 s z k ac p v c w
  by_cases h3 : n = 3
  · subst h3; exact holds_3 s z k ac p v c w
  by_cases h4 : n = 4
  · subst h4; exact holds_4 s z k ac p v c w
  by_cases h5 : n = 5
  · subst h5; exact holds_5 s z k ac p v c w
  by_cases h6 : n = 6
  · subst h6; exact holds_6 s z k ac p v c w
  by_cases h7 : n = 7
  · subst h7; exact holds_7 s z k ac p v c w
  by_cases h8 : n = 8
  · subst h8; exact holds_8 s z k ac p v c w
  by_cases h9 : n = 9
  · subst h9; exact holds_9 s z k ac p v c w
  by_cases h10 : n = 10
  · subst h10; exact holds_10 s z k ac p v c w
  by_cases h11 : n = 11
  · subst h11; exact holds_11 s z k ac p v c w
  · rw [S.cnd_no n s z k p v c h0 h1 h2 h3 h4 h5 h6 h7 h8 h9 h10 h11]
    go_enter Try.func7, Try.ntmps7
    go_wp2_with fail
    go_ret
    exact ⟨rb (beq_false_of_ne h11), by (repeat (first | with_reducible exact Adds.refl _ | with_reducible apply Adds.drew | with_reducible apply Adds.drewN | with_reducible apply Adds.alloc | with_reducible apply Adds.more | (with_reducible refine Adds.setCell ?_ ?_ _) | (focus (simp [go_sem]; done)) | (focus (simp [go_sem]; omega))))⟩
theorem rholds_0 (s z k ac p v c : Bool) (w : World) : Calls Try.prog 8 #[.int .i64 0, .agg #[.bool s, .bool z, .bool k, .bool ac, .bool p, .bool v, .bool c]] w fun e w' => e = .returned (.bool (S.cnd 0 s z k p v c)) ∧ Adds w w' := by
  go_enter Try.func8, Try.ntmps8
  go_wp2_with fail
  go_ret
  exact ⟨rfl, by (repeat (first | with_reducible exact Adds.refl _ | with_reducible apply Adds.drew | with_reducible apply Adds.drewN | with_reducible apply Adds.alloc | with_reducible apply Adds.more | (with_reducible refine Adds.setCell ?_ ?_ _) | (focus (simp [go_sem]; done)) | (focus (simp [go_sem]; omega))))⟩
theorem rholds_1 (s z k ac p v c : Bool) (w : World) : Calls Try.prog 8 #[.int .i64 1, .agg #[.bool s, .bool z, .bool k, .bool ac, .bool p, .bool v, .bool c]] w fun e w' => e = .returned (.bool (S.cnd 1 s z k p v c)) ∧ Adds w w' := by
  go_enter Try.func8, Try.ntmps8
  go_wp2_with fail
  go_ret
  exact ⟨rfl, by (repeat (first | with_reducible exact Adds.refl _ | with_reducible apply Adds.drew | with_reducible apply Adds.drewN | with_reducible apply Adds.alloc | with_reducible apply Adds.more | (with_reducible refine Adds.setCell ?_ ?_ _) | (focus (simp [go_sem]; done)) | (focus (simp [go_sem]; omega))))⟩
theorem rholds_2 (s z k ac p v c : Bool) (w : World) : Calls Try.prog 8 #[.int .i64 2, .agg #[.bool s, .bool z, .bool k, .bool ac, .bool p, .bool v, .bool c]] w fun e w' => e = .returned (.bool (S.cnd 2 s z k p v c)) ∧ Adds w w' := by
  go_enter Try.func8, Try.ntmps8
  go_wp2_with fail
  go_ret
  exact ⟨rfl, by (repeat (first | with_reducible exact Adds.refl _ | with_reducible apply Adds.drew | with_reducible apply Adds.drewN | with_reducible apply Adds.alloc | with_reducible apply Adds.more | (with_reducible refine Adds.setCell ?_ ?_ _) | (focus (simp [go_sem]; done)) | (focus (simp [go_sem]; omega))))⟩
theorem rholds_3 (s z k ac p v c : Bool) (w : World) : Calls Try.prog 8 #[.int .i64 3, .agg #[.bool s, .bool z, .bool k, .bool ac, .bool p, .bool v, .bool c]] w fun e w' => e = .returned (.bool (S.cnd 3 s z k p v c)) ∧ Adds w w' := by
  go_enter Try.func8, Try.ntmps8
  go_wp2_with fail
  go_ret
  exact ⟨rfl, by (repeat (first | with_reducible exact Adds.refl _ | with_reducible apply Adds.drew | with_reducible apply Adds.drewN | with_reducible apply Adds.alloc | with_reducible apply Adds.more | (with_reducible refine Adds.setCell ?_ ?_ _) | (focus (simp [go_sem]; done)) | (focus (simp [go_sem]; omega))))⟩
theorem rholds_4 (s z k ac p v c : Bool) (w : World) : Calls Try.prog 8 #[.int .i64 4, .agg #[.bool s, .bool z, .bool k, .bool ac, .bool p, .bool v, .bool c]] w fun e w' => e = .returned (.bool (S.cnd 4 s z k p v c)) ∧ Adds w w' := by
  go_enter Try.func8, Try.ntmps8
  go_wp2_with fail
  go_ret
  exact ⟨rfl, by (repeat (first | with_reducible exact Adds.refl _ | with_reducible apply Adds.drew | with_reducible apply Adds.drewN | with_reducible apply Adds.alloc | with_reducible apply Adds.more | (with_reducible refine Adds.setCell ?_ ?_ _) | (focus (simp [go_sem]; done)) | (focus (simp [go_sem]; omega))))⟩
theorem rholds_5 (s z k ac p v c : Bool) (w : World) : Calls Try.prog 8 #[.int .i64 5, .agg #[.bool s, .bool z, .bool k, .bool ac, .bool p, .bool v, .bool c]] w fun e w' => e = .returned (.bool (S.cnd 5 s z k p v c)) ∧ Adds w w' := by
  go_enter Try.func8, Try.ntmps8
  go_wp2_with fail
  go_ret
  exact ⟨rfl, by (repeat (first | with_reducible exact Adds.refl _ | with_reducible apply Adds.drew | with_reducible apply Adds.drewN | with_reducible apply Adds.alloc | with_reducible apply Adds.more | (with_reducible refine Adds.setCell ?_ ?_ _) | (focus (simp [go_sem]; done)) | (focus (simp [go_sem]; omega))))⟩
theorem rholds_6 (s z k ac p v c : Bool) (w : World) : Calls Try.prog 8 #[.int .i64 6, .agg #[.bool s, .bool z, .bool k, .bool ac, .bool p, .bool v, .bool c]] w fun e w' => e = .returned (.bool (S.cnd 6 s z k p v c)) ∧ Adds w w' := by
  go_enter Try.func8, Try.ntmps8
  go_wp2_with fail
  go_ret
  exact ⟨rfl, by (repeat (first | with_reducible exact Adds.refl _ | with_reducible apply Adds.drew | with_reducible apply Adds.drewN | with_reducible apply Adds.alloc | with_reducible apply Adds.more | (with_reducible refine Adds.setCell ?_ ?_ _) | (focus (simp [go_sem]; done)) | (focus (simp [go_sem]; omega))))⟩
theorem rholds_7 (s z k ac p v c : Bool) (w : World) : Calls Try.prog 8 #[.int .i64 7, .agg #[.bool s, .bool z, .bool k, .bool ac, .bool p, .bool v, .bool c]] w fun e w' => e = .returned (.bool (S.cnd 7 s z k p v c)) ∧ Adds w w' := by
  go_enter Try.func8, Try.ntmps8
  go_wp2_with fail
  go_ret
  exact ⟨rfl, by (repeat (first | with_reducible exact Adds.refl _ | with_reducible apply Adds.drew | with_reducible apply Adds.drewN | with_reducible apply Adds.alloc | with_reducible apply Adds.more | (with_reducible refine Adds.setCell ?_ ?_ _) | (focus (simp [go_sem]; done)) | (focus (simp [go_sem]; omega))))⟩
theorem rholds_8 (s z k ac p v c : Bool) (w : World) : Calls Try.prog 8 #[.int .i64 8, .agg #[.bool s, .bool z, .bool k, .bool ac, .bool p, .bool v, .bool c]] w fun e w' => e = .returned (.bool (S.cnd 8 s z k p v c)) ∧ Adds w w' := by
  go_enter Try.func8, Try.ntmps8
  go_wp2_with fail
  go_ret
  exact ⟨rfl, by (repeat (first | with_reducible exact Adds.refl _ | with_reducible apply Adds.drew | with_reducible apply Adds.drewN | with_reducible apply Adds.alloc | with_reducible apply Adds.more | (with_reducible refine Adds.setCell ?_ ?_ _) | (focus (simp [go_sem]; done)) | (focus (simp [go_sem]; omega))))⟩
theorem rholds_9 (s z k ac p v c : Bool) (w : World) : Calls Try.prog 8 #[.int .i64 9, .agg #[.bool s, .bool z, .bool k, .bool ac, .bool p, .bool v, .bool c]] w fun e w' => e = .returned (.bool (S.cnd 9 s z k p v c)) ∧ Adds w w' := by
  go_enter Try.func8, Try.ntmps8
  go_wp2_with fail
  go_ret
  exact ⟨rfl, by (repeat (first | with_reducible exact Adds.refl _ | with_reducible apply Adds.drew | with_reducible apply Adds.drewN | with_reducible apply Adds.alloc | with_reducible apply Adds.more | (with_reducible refine Adds.setCell ?_ ?_ _) | (focus (simp [go_sem]; done)) | (focus (simp [go_sem]; omega))))⟩
theorem rholds_10 (s z k ac p v c : Bool) (w : World) : Calls Try.prog 8 #[.int .i64 10, .agg #[.bool s, .bool z, .bool k, .bool ac, .bool p, .bool v, .bool c]] w fun e w' => e = .returned (.bool (S.cnd 10 s z k p v c)) ∧ Adds w w' := by
  go_enter Try.func8, Try.ntmps8
  go_wp2_with fail
  go_ret
  exact ⟨rfl, by (repeat (first | with_reducible exact Adds.refl _ | with_reducible apply Adds.drew | with_reducible apply Adds.drewN | with_reducible apply Adds.alloc | with_reducible apply Adds.more | (with_reducible refine Adds.setCell ?_ ?_ _) | (focus (simp [go_sem]; done)) | (focus (simp [go_sem]; omega))))⟩
theorem rholds_11 (s z k ac p v c : Bool) (w : World) : Calls Try.prog 8 #[.int .i64 11, .agg #[.bool s, .bool z, .bool k, .bool ac, .bool p, .bool v, .bool c]] w fun e w' => e = .returned (.bool (S.cnd 11 s z k p v c)) ∧ Adds w w' := by
  go_enter Try.func8, Try.ntmps8
  go_wp2_with fail
  go_ret
  exact ⟨rfl, by (repeat (first | with_reducible exact Adds.refl _ | with_reducible apply Adds.drew | with_reducible apply Adds.drewN | with_reducible apply Adds.alloc | with_reducible apply Adds.more | (with_reducible refine Adds.setCell ?_ ?_ _) | (focus (simp [go_sem]; done)) | (focus (simp [go_sem]; omega))))⟩
theorem rholds_any (n : Int) (s z k ac p v c : Bool) (w : World) : Calls Try.prog 8 #[.int .i64 n, .agg #[.bool s, .bool z, .bool k, .bool ac, .bool p, .bool v, .bool c]] w fun e w' => e = .returned (.bool (S.cnd n s z k p v c)) ∧ Adds w w' := by
  by_cases h0 : n = 0
  · subst h0; exact rholds_0 s z k ac p v c w
  by_cases h1 : n = 1
  · subst h1; exact rholds_1 s z k ac p v c w
  by_cases h2 : n = 2
  · subst h2; exact rholds_2 s z k ac p v c w
  by_cases h3 : n = 3
  · subst h3; exact rholds_3 s z k ac p v c w
  by_cases h4 : n = 4
  · subst h4; exact rholds_4 s z k ac p v c w
  by_cases h5 : n = 5
  · subst h5; exact rholds_5 s z k ac p v c w
  by_cases h6 : n = 6
  · subst h6; exact rholds_6 s z k ac p v c w
  by_cases h7 : n = 7
  · subst h7; exact rholds_7 s z k ac p v c w
  by_cases h8 : n = 8
  · subst h8; exact rholds_8 s z k ac p v c w
  by_cases h9 : n = 9
  · subst h9; exact rholds_9 s z k ac p v c w
  by_cases h10 : n = 10
  · subst h10; exact rholds_10 s z k ac p v c w
  by_cases h11 : n = 11
  · subst h11; exact rholds_11 s z k ac p v c w
  · rw [S.cnd_no n s z k p v c h0 h1 h2 h3 h4 h5 h6 h7 h8 h9 h10 h11]
    go_enter Try.func8, Try.ntmps8
    go_wp2_with fail
    go_ret
    exact ⟨rb (beq_false_of_ne h11), by (repeat (first | with_reducible exact Adds.refl _ | with_reducible apply Adds.drew | with_reducible apply Adds.drewN | with_reducible apply Adds.alloc | with_reducible apply Adds.more | (with_reducible refine Adds.setCell ?_ ?_ _) | (focus (simp [go_sem]; done)) | (focus (simp [go_sem]; omega))))⟩
theorem known10_any (w : World) : Calls Try.prog 9 #[] w fun e w' => e = .returned (.bool true) ∧ Adds w w' := by
  go_enter Try.func9, Try.ntmps9
  go_wp2_with (first | (go_at_call 7; refine (holds_any _ _ _ _ _ _ _ _ _).mono ?_; rintro e w' ⟨rfl, ⟨⟨n1, os1⟩, rfl⟩⟩))
  go_ret
  exact ⟨rfl, by (repeat (first | with_reducible exact Adds.refl _ | with_reducible apply Adds.drew | with_reducible apply Adds.drewN | with_reducible apply Adds.alloc | with_reducible apply Adds.more | (with_reducible refine Adds.setCell ?_ ?_ _) | (focus (simp [go_sem]; done)) | (focus (simp [go_sem]; omega))))⟩
end Go.Proofs.Ytodghchpoomaaaa
