/- Contracts of package flags and of the reference's chapter 2: each returns the plain function's value and leaves what was there alone. Conditions: bytes are from 0 to 255. -/
import Derived.Test.YtkoonimngcpdjaaC1
import Derived.Test.YtkoonimngcpdjaaS2
import Derived.Test.YtkoonimngcpdjaaM1
namespace Go.Proofs.Ytkoonimngcpdjaa
open Go.ChangeShapes Go.WideShapes Go.ChangeAt Go.RowKit
set_option linter.unusedVariables false
theorem place_any (f : Bool) (n : Int) (n0 : 0 ≤ n) (n1 : n < 8) (w : World) : Calls Try.prog 30 #[.bool f, .int .i64 n] w fun e w' => e = .returned (.int .u8 (S.pl f n)) ∧ w = w' := by
  rcases (by omega : n = 0 ∨ n = 1 ∨ n = 2 ∨ n = 3 ∨ n = 4 ∨ n = 5 ∨ n = 6 ∨ n = 7) with rfl | rfl | rfl | rfl | rfl | rfl | rfl | rfl
  all_goals
    cases f
    all_goals
      go_enter Try.func30, Try.ntmps30
      go_wp2
      go_ret
      exact ⟨rfl, rfl⟩
theorem rbit_any (f : Bool) (n : Int) (n0 : 0 ≤ n) (n1 : n < 8) (w : World) : Calls Try.prog 31 #[.bool f, .int .i64 n] w fun e w' => e = .returned (.int .u8 (S.pl f n)) ∧ w = w' := by
  rcases (by omega : n = 0 ∨ n = 1 ∨ n = 2 ∨ n = 3 ∨ n = 4 ∨ n = 5 ∨ n = 6 ∨ n = 7) with rfl | rfl | rfl | rfl | rfl | rfl | rfl | rfl
  all_goals
    cases f
    all_goals
      go_enter Try.func31, Try.ntmps31
      go_wp2
      go_ret
      exact ⟨rfl, rfl⟩
theorem ron_any (c : Int) (w : World) : Calls Try.prog 32 #[.int .i64 c] w fun e w' => e = .returned (.bool (decide (c = 2))) ∧ w = w' := by
  go_enter Try.func32, Try.ntmps32
  go_wp2
  go_ret
  exact ⟨rfl, rfl⟩
theorem has_any (b n : Int) (b0 : 0 ≤ b) (b1 : b < 256) (n0 : 0 ≤ n) (n1 : n < 8) (w : World) : Calls Try.prog 33 #[.int .u8 b, .int .i64 n] w fun e w' => e = .returned (.bool (S.has b n)) ∧ w = w' := by
  rcases (by omega : n = 0 ∨ n = 1 ∨ n = 2 ∨ n = 3 ∨ n = 4 ∨ n = 5 ∨ n = 6 ∨ n = 7) with rfl | rfl | rfl | rfl | rfl | rfl | rfl | rfl
  all_goals
    go_enter Try.func33, Try.ntmps33
    go_wp2
    go_ret
    refine ⟨rb ?_, rfl⟩
    rw [show S.has b _ = (bits .and .u8 (b / _) 1 == 1) from (S.bit_test b b0 b1 _ (by decide)).symm]
    simp
theorem pack_any (c : Int) (s z k ac p v cy : Bool) (w : World) : Calls Try.prog 26 #[.int .i64 c, .agg #[.bool s, .bool z, .bool k, .bool ac, .bool p, .bool v, .bool cy]] w fun e w' => e = .returned (.int .u8 (S.pack c s z k ac p v cy)) ∧ Adds w w' := by
  have e5 := S.pk_or s z ac p cy
  by_cases hc : c = 2
  · have e7 := S.pack_or s z k ac p v cy
    have ep' := S.pack_85 hc s z k ac p v cy
    subst hc
    have ep : Hid _ := ep'
    clear ep'
    go_enter Try.func26, Try.ntmps26
    go_wp2_with fail
    refine wp_region_adds (by kernel_rfl) (by kernel_rfl) ?_
    repeat (go_big_quiet_step (first | (go_at_call 30; exact calls_same (place_any _ _ (by decide) (by decide) _))))
    refine wpQuiet_nil ?_
    intro _ hw1
    obtain ⟨⟨nq, osq⟩, hw2⟩ := hw1
    subst hw2
    go_wp2_with fail
    refine wp_region_adds (by kernel_rfl) (by kernel_rfl) ?_
    repeat (go_big_quiet_step (first | (go_at_call 30; exact calls_same (place_any _ _ (by decide) (by decide) _))))
    refine wpQuiet_nil ?_
    intro _ hw1
    obtain ⟨⟨nq, osq⟩, hw2⟩ := hw1
    subst hw2
    go_wp2_with fail
    go_ret
    exact ⟨ri ep.out.symm, by (repeat (first | with_reducible exact Adds.refl _ | with_reducible apply Adds.drew | with_reducible apply Adds.drewN | with_reducible apply Adds.alloc | with_reducible apply Adds.more | (with_reducible refine Adds.setCell ?_ ?_ _) | (focus (simp [go_sem]; done)) | (focus (simp [go_sem]; omega))))⟩
  · have e7 := S.pack_or2 s z ac p cy
    have ep' := S.pack_80 hc s z k ac p v cy
    have ep : Hid _ := ep'
    clear ep'
    have e1 := S.pl1
    go_enter Try.func26, Try.ntmps26
    go_wp2_with fail
    refine wp_region_adds (by kernel_rfl) (by kernel_rfl) ?_
    repeat (go_big_quiet_step (first | (go_at_call 30; exact calls_same (place_any _ _ (by decide) (by decide) _))))
    refine wpQuiet_nil ?_
    intro _ hw1
    obtain ⟨⟨nq, osq⟩, hw2⟩ := hw1
    subst hw2
    go_wp2_with (first | (go_at_call 30; refine (place_any _ _ (by decide) (by decide) _).mono ?_; rintro e w' ⟨rfl, rfl⟩))
    go_ret
    exact ⟨ri ep.out.symm, by (repeat (first | with_reducible exact Adds.refl _ | with_reducible apply Adds.drew | with_reducible apply Adds.drewN | with_reducible apply Adds.alloc | with_reducible apply Adds.more | (with_reducible refine Adds.setCell ?_ ?_ _) | (focus (simp [go_sem]; done)) | (focus (simp [go_sem]; omega))))⟩
theorem rpack_any (c : Int) (s z k ac p v cy : Bool) (w : World) : Calls Try.prog 27 #[.int .i64 c, .agg #[.bool s, .bool z, .bool k, .bool ac, .bool p, .bool v, .bool cy]] w fun e w' => e = .returned (.int .u8 (S.pack c s z k ac p v cy)) ∧ Adds w w' := by
  have e5 := S.pk_or s z ac p cy
  by_cases hc : c = 2
  · have e7 := S.pack_or s z k ac p v cy
    have ep' := S.pack_85 hc s z k ac p v cy
    subst hc
    have ep : Hid _ := ep'
    clear ep'
    go_enter Try.func27, Try.ntmps27
    go_wp2_with fail
    refine wp_region_adds (by kernel_rfl) (by kernel_rfl) ?_
    repeat (go_big_quiet_step (first | (go_at_call 31; exact calls_same (rbit_any _ _ (by decide) (by decide) _))))
    refine wpQuiet_nil ?_
    intro _ hw1
    obtain ⟨⟨nq, osq⟩, hw2⟩ := hw1
    subst hw2
    go_wp2_with (first | (go_at_call 32; refine (ron_any _ _).mono ?_; rintro e w' ⟨rfl, rfl⟩))
    refine wp_region_adds (by kernel_rfl) (by kernel_rfl) ?_
    repeat (go_big_quiet_step (first | (go_at_call 31; exact calls_same (rbit_any _ _ (by decide) (by decide) _))))
    refine wpQuiet_nil ?_
    intro _ hw1
    obtain ⟨⟨nq, osq⟩, hw2⟩ := hw1
    subst hw2
    go_wp2_with fail
    go_ret
    exact ⟨ri ep.out.symm, by (repeat (first | with_reducible exact Adds.refl _ | with_reducible apply Adds.drew | with_reducible apply Adds.drewN | with_reducible apply Adds.alloc | with_reducible apply Adds.more | (with_reducible refine Adds.setCell ?_ ?_ _) | (focus (simp [go_sem]; done)) | (focus (simp [go_sem]; omega))))⟩
  · have e7 := S.pack_or2 s z ac p cy
    have ep' := S.pack_80 hc s z k ac p v cy
    have ep : Hid _ := ep'
    clear ep'
    go_enter Try.func27, Try.ntmps27
    go_wp2_with fail
    refine wp_region_adds (by kernel_rfl) (by kernel_rfl) ?_
    repeat (go_big_quiet_step (first | (go_at_call 31; exact calls_same (rbit_any _ _ (by decide) (by decide) _))))
    refine wpQuiet_nil ?_
    intro _ hw1
    obtain ⟨⟨nq, osq⟩, hw2⟩ := hw1
    subst hw2
    go_wp2_with (first | (go_at_call 32; refine (ron_any _ _).mono ?_; rintro e w' ⟨rfl, rfl⟩))
    go_ret
    exact ⟨ri ep.out.symm, by (repeat (first | with_reducible exact Adds.refl _ | with_reducible apply Adds.drew | with_reducible apply Adds.drewN | with_reducible apply Adds.alloc | with_reducible apply Adds.more | (with_reducible refine Adds.setCell ?_ ?_ _) | (focus (simp [go_sem]; done)) | (focus (simp [go_sem]; omega))))⟩
theorem unpack_any (c b : Int) (b0 : 0 ≤ b) (b1 : b < 256) (w : World) : Calls Try.prog 28 #[.int .i64 c, .int .u8 b] w fun e w' => e = .returned (.agg #[.bool (S.has b 7), .bool (S.has b 6), .bool (S.uk c b), .bool (S.has b 4), .bool (S.has b 2), .bool (S.uv c b), .bool (S.has b 0)]) ∧ Adds w w' := by
  by_cases hc : c = 2
  · have u1 := S.uk85 hc b
    have u2 := S.uv85 hc b
    subst hc
    go_enter Try.func28, Try.ntmps28
    go_wp2_with (first | (go_at_call 33; refine (has_any _ _ b0 b1 (by decide) (by decide) _).mono ?_; rintro e w' ⟨rfl, rfl⟩))
    exact bodyPost_ret (v := .agg #[.bool (S.has b 7), .bool (S.has b 6), .bool (S.uk 2 b), .bool (S.has b 4), .bool (S.has b 2), .bool (S.uv 2 b), .bool (S.has b 0)]) (by simp [results, Try.results28, go_sem]; try simp [u1, u2]) rfl ⟨rfl, by (repeat (first | with_reducible exact Adds.refl _ | with_reducible apply Adds.drew | with_reducible apply Adds.drewN | with_reducible apply Adds.alloc | with_reducible apply Adds.more | (with_reducible refine Adds.setCell ?_ ?_ _) | (focus (simp [go_sem]; done)) | (focus (simp [go_sem]; omega))))⟩
  · have u1 := S.uk80 hc b
    have u2 := S.uv80 hc b
    go_enter Try.func28, Try.ntmps28
    go_wp2_with (first | (go_at_call 33; refine (has_any _ _ b0 b1 (by decide) (by decide) _).mono ?_; rintro e w' ⟨rfl, rfl⟩))
    exact bodyPost_ret (v := .agg #[.bool (S.has b 7), .bool (S.has b 6), .bool (S.uk c b), .bool (S.has b 4), .bool (S.has b 2), .bool (S.uv c b), .bool (S.has b 0)]) (by simp [results, Try.results28, go_sem]; try simp [u1, u2]) rfl ⟨rfl, by (repeat (first | with_reducible exact Adds.refl _ | with_reducible apply Adds.drew | with_reducible apply Adds.drewN | with_reducible apply Adds.alloc | with_reducible apply Adds.more | (with_reducible refine Adds.setCell ?_ ?_ _) | (focus (simp [go_sem]; done)) | (focus (simp [go_sem]; omega))))⟩
theorem runpack_any (c b : Int) (b0 : 0 ≤ b) (b1 : b < 256) (w : World) : Calls Try.prog 29 #[.int .i64 c, .int .u8 b] w fun e w' => e = .returned (.agg #[.bool (S.has b 7), .bool (S.has b 6), .bool (S.uk c b), .bool (S.has b 4), .bool (S.has b 2), .bool (S.uv c b), .bool (S.has b 0)]) ∧ Adds w w' := by
  have hm := S.mask b b0 b1
  obtain ⟨m7, m6, m5, m4, m2, m1, m0⟩ := hm
  by_cases hc : c = 2
  · have u1 := S.uk85 hc b
    have u2 := S.uv85 hc b
    subst hc
    go_enter Try.func29, Try.ntmps29
    go_wp2_with (first | (go_at_call 32; refine (ron_any _ _).mono ?_; rintro e w' ⟨rfl, rfl⟩))
    exact bodyPost_ret (v := .agg #[.bool (S.has b 7), .bool (S.has b 6), .bool (S.uk 2 b), .bool (S.has b 4), .bool (S.has b 2), .bool (S.uv 2 b), .bool (S.has b 0)]) (by simp [results, Try.results29, go_sem]; try simp [u1, u2]) rfl ⟨rfl, by (repeat (first | with_reducible exact Adds.refl _ | with_reducible apply Adds.drew | with_reducible apply Adds.drewN | with_reducible apply Adds.alloc | with_reducible apply Adds.more | (with_reducible refine Adds.setCell ?_ ?_ _) | (focus (simp [go_sem]; done)) | (focus (simp [go_sem]; omega))))⟩
  · have u1 := S.uk80 hc b
    have u2 := S.uv80 hc b
    go_enter Try.func29, Try.ntmps29
    go_wp2_with (first | (go_at_call 32; refine (ron_any _ _).mono ?_; rintro e w' ⟨rfl, rfl⟩))
    exact bodyPost_ret (v := .agg #[.bool (S.has b 7), .bool (S.has b 6), .bool (S.uk c b), .bool (S.has b 4), .bool (S.has b 2), .bool (S.uv c b), .bool (S.has b 0)]) (by simp [results, Try.results29, go_sem]; try simp [u1, u2]) rfl ⟨rfl, by (repeat (first | with_reducible exact Adds.refl _ | with_reducible apply Adds.drew | with_reducible apply Adds.drewN | with_reducible apply Adds.alloc | with_reducible apply Adds.more | (with_reducible refine Adds.setCell ?_ ?_ _) | (focus (simp [go_sem]; done)) | (focus (simp [go_sem]; omega))))⟩
@[go_sem] theorem eq_Flags (a0 a1 a2 a3 a4 a5 a6 b0 b1 b2 b3 b4 b5 b6 : Bool) (w : World) : (Op.equalIn 10000 23 (.agg #[.bool a0, .bool a1, .bool a2, .bool a3, .bool a4, .bool a5, .bool a6]) (.agg #[.bool b0, .bool b1, .bool b2, .bool b3, .bool b4, .bool b5, .bool b6])).run Try.prog w =
    .ok (same [.bool a0, .bool a1, .bool a2, .bool a3, .bool a4, .bool a5, .bool a6] [.bool b0, .bool b1, .bool b2, .bool b3, .bool b4, .bool b5, .bool b6]) w :=
  eq_agg 4 [.bool, .bool, .bool, .bool, .bool, .bool, .bool] _ Try.underlying23 (by kernel_rfl) (by decide) _ _ w trivial trivial
end Go.Proofs.Ytkoonimngcpdjaa
