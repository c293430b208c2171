/- Contracts of package flags and of the reference's chapter 2: each returns the plain function's value and leaves what was there alone. Conditions: bytes are from 0 to 255. -/
import Derived.Test.YtgfcdgmcmdjoiaaC1
import Derived.Test.YtgfcdgmcmdjoiaaS2
import Derived.Test.YtgfcdgmcmdjoiaaM1
namespace Go.Proofs.Ytgfcdgmcmdjoiaa
open Go.ChangeShapes Go.WideShapes Go.ChangeAt Go.RowKit
set_option linter.unusedVariables false
theorem place_any (f : Bool) (n : Int) (n0 : 0 ≤ n) (n1 : n < 8) (w : World) : Calls Try.prog 15 #[.bool f, .int .i64 n] w fun e w' => e = .returned (.int .u8 (S.pl f n)) ∧ w = w' := by
  rcases (by omega : n = 0 ∨ n = 1 ∨ n = 2 ∨ n = 3 ∨ n = 4 ∨ n = 5 ∨ n = 6 ∨ n = 7) with rfl | rfl | rfl | rfl | rfl | rfl | rfl | rfl
  all_goals
    cases f
    all_goals
      go_enter Try.func15, Try.ntmps15
      go_wp2
      go_ret
      exact ⟨rfl, rfl⟩
theorem rbit_any (f : Bool) (n : Int) (n0 : 0 ≤ n) (n1 : n < 8) (w : World) : Calls Try.prog 16 #[.bool f, .int .i64 n] w fun e w' => e = .returned (.int .u8 (S.pl f n)) ∧ w = w' := by
  rcases (by omega : n = 0 ∨ n = 1 ∨ n = 2 ∨ n = 3 ∨ n = 4 ∨ n = 5 ∨ n = 6 ∨ n = 7) with rfl | rfl | rfl | rfl | rfl | rfl | rfl | rfl
  all_goals
    cases f
    all_goals
      go_enter Try.func16, Try.ntmps16
      go_wp2
      go_ret
      exact ⟨rfl, rfl⟩
theorem ron_any (c : Int) (w : World) : Calls Try.prog 17 #[.int .i64 c] w fun e w' => e = .returned (.bool (decide (c = 2))) ∧ w = w' := by
  go_enter Try.func17, Try.ntmps17
  go_wp2
  go_ret
  exact ⟨rfl, rfl⟩
theorem has_any (b n : Int) (b0 : 0 ≤ b) (b1 : b < 256) (n0 : 0 ≤ n) (n1 : n < 8) (w : World) : Calls Try.prog 18 #[.int .u8 b, .int .i64 n] w fun e w' => e = .returned (.bool (S.has b n)) ∧ w = w' := by
  rcases (by omega : n = 0 ∨ n = 1 ∨ n = 2 ∨ n = 3 ∨ n = 4 ∨ n = 5 ∨ n = 6 ∨ n = 7) with rfl | rfl | rfl | rfl | rfl | rfl | rfl | rfl
  all_goals
    go_enter Try.func18, Try.ntmps18
    go_wp2
    go_ret
    refine ⟨rb ?_, rfl⟩
    rw [show S.has b _ = (bits .and .u8 (b / _) 1 == 1) from (S.bit_test b b0 b1 _ (by decide)).symm]
    simp
theorem pack_any (c : Int) (s z k ac p v cy : Bool) (w : World) : Calls Try.prog 8 #[.int .i64 c, .agg #[.bool s, .bool z, .bool k, .bool ac, .bool p, .bool v, .bool cy]] w fun e w' => e = .returned (.int .u8 (S.pack c s z k ac p v cy)) ∧ Adds w w' := by
  have e5 := S.pk_or s z ac p cy
  by_cases hc : c = 2
  · have e7 := S.pack_or s z k ac p v cy
    have ep' := S.pack_85 hc s z k ac p v cy
    subst hc
    have ep : Hid _ := ep'
    clear ep'
    go_enter Try.func8, Try.ntmps8
    go_wp2_with fail
    refine wp_region_adds (by kernel_rfl) (by kernel_rfl) ?_
    repeat (go_big_quiet_step (first | (go_at_call 15; exact calls_same (place_any _ _ (by decide) (by decide) _))))
    refine wpQuiet_nil ?_
    intro _ hw1
    obtain ⟨⟨nq, osq⟩, hw2⟩ := hw1
    subst hw2
    go_wp2_with fail
    refine wp_region_adds (by kernel_rfl) (by kernel_rfl) ?_
    repeat (go_big_quiet_step (first | (go_at_call 15; exact calls_same (place_any _ _ (by decide) (by decide) _))))
    refine wpQuiet_nil ?_
    intro _ hw1
    obtain ⟨⟨nq, osq⟩, hw2⟩ := hw1
    subst hw2
    go_wp2_with fail
    go_ret
    exact ⟨ri ep.out.symm, by (repeat (first | exact Adds.refl _ | apply Adds.drew | apply Adds.drewN | apply Adds.alloc | apply Adds.more | (refine Adds.setCell ?_ (by first | (simp [go_sem]; done) | (simp [go_sem]; omega)) _)))⟩
  · have e7 := S.pack_or2 s z ac p cy
    have ep' := S.pack_80 hc s z k ac p v cy
    have ep : Hid _ := ep'
    clear ep'
    have e1 := S.pl1
    go_enter Try.func8, Try.ntmps8
    go_wp2_with fail
    refine wp_region_adds (by kernel_rfl) (by kernel_rfl) ?_
    repeat (go_big_quiet_step (first | (go_at_call 15; exact calls_same (place_any _ _ (by decide) (by decide) _))))
    refine wpQuiet_nil ?_
    intro _ hw1
    obtain ⟨⟨nq, osq⟩, hw2⟩ := hw1
    subst hw2
    go_wp2_with (first | (go_at_call 15; refine (place_any _ _ (by decide) (by decide) _).mono ?_; rintro e w' ⟨rfl, rfl⟩))
    go_ret
    exact ⟨ri ep.out.symm, by (repeat (first | exact Adds.refl _ | apply Adds.drew | apply Adds.drewN | apply Adds.alloc | apply Adds.more | (refine Adds.setCell ?_ (by first | (simp [go_sem]; done) | (simp [go_sem]; omega)) _)))⟩
theorem rpack_any (c : Int) (s z k ac p v cy : Bool) (w : World) : Calls Try.prog 9 #[.int .i64 c, .agg #[.bool s, .bool z, .bool k, .bool ac, .bool p, .bool v, .bool cy]] w fun e w' => e = .returned (.int .u8 (S.pack c s z k ac p v cy)) ∧ Adds w w' := by
  have e5 := S.pk_or s z ac p cy
  by_cases hc : c = 2
  · have e7 := S.pack_or s z k ac p v cy
    have ep' := S.pack_85 hc s z k ac p v cy
    subst hc
    have ep : Hid _ := ep'
    clear ep'
    go_enter Try.func9, Try.ntmps9
    go_wp2_with fail
    refine wp_region_adds (by kernel_rfl) (by kernel_rfl) ?_
    repeat (go_big_quiet_step (first | (go_at_call 16; exact calls_same (rbit_any _ _ (by decide) (by decide) _))))
    refine wpQuiet_nil ?_
    intro _ hw1
    obtain ⟨⟨nq, osq⟩, hw2⟩ := hw1
    subst hw2
    go_wp2_with (first | (go_at_call 17; refine (ron_any _ _).mono ?_; rintro e w' ⟨rfl, rfl⟩))
    refine wp_region_adds (by kernel_rfl) (by kernel_rfl) ?_
    repeat (go_big_quiet_step (first | (go_at_call 16; exact calls_same (rbit_any _ _ (by decide) (by decide) _))))
    refine wpQuiet_nil ?_
    intro _ hw1
    obtain ⟨⟨nq, osq⟩, hw2⟩ := hw1
    subst hw2
    go_wp2_with fail
    go_ret
    exact ⟨ri ep.out.symm, by (repeat (first | exact Adds.refl _ | apply Adds.drew | apply Adds.drewN | apply Adds.alloc | apply Adds.more | (refine Adds.setCell ?_ (by first | (simp [go_sem]; done) | (simp [go_sem]; omega)) _)))⟩
  · have e7 := S.pack_or2 s z ac p cy
    have ep' := S.pack_80 hc s z k ac p v cy
    have ep : Hid _ := ep'
    clear ep'
    go_enter Try.func9, Try.ntmps9
    go_wp2_with fail
    refine wp_region_adds (by kernel_rfl) (by kernel_rfl) ?_
    repeat (go_big_quiet_step (first | (go_at_call 16; exact calls_same (rbit_any _ _ (by decide) (by decide) _))))
    refine wpQuiet_nil ?_
    intro _ hw1
    obtain ⟨⟨nq, osq⟩, hw2⟩ := hw1
    subst hw2
    go_wp2_with (first | (go_at_call 17; refine (ron_any _ _).mono ?_; rintro e w' ⟨rfl, rfl⟩))
    go_ret
    exact ⟨ri ep.out.symm, by (repeat (first | exact Adds.refl _ | apply Adds.drew | apply Adds.drewN | apply Adds.alloc | apply Adds.more | (refine Adds.setCell ?_ (by first | (simp [go_sem]; done) | (simp [go_sem]; omega)) _)))⟩
theorem unpack_any (c b : Int) (b0 : 0 ≤ b) (b1 : b < 256) (w : World) : Calls Try.prog 11 #[.int .i64 c, .int .u8 b] w fun e w' => e = .returned (.agg #[.bool (S.has b 7), .bool (S.has b 6), .bool (S.uk c b), .bool (S.has b 4), .bool (S.has b 2), .bool (S.uv c b), .bool (S.has b 0)]) ∧ Adds w w' := by
  by_cases hc : c = 2
  · have u1 := S.uk85 hc b
    have u2 := S.uv85 hc b
    subst hc
    go_enter Try.func11, Try.ntmps11
    go_wp2_with (first | (go_at_call 18; refine (has_any _ _ b0 b1 (by decide) (by decide) _).mono ?_; rintro e w' ⟨rfl, rfl⟩))
    exact bodyPost_ret (v := .agg #[.bool (S.has b 7), .bool (S.has b 6), .bool (S.uk 2 b), .bool (S.has b 4), .bool (S.has b 2), .bool (S.uv 2 b), .bool (S.has b 0)]) (by simp [results, Try.results11, go_sem]; try simp [u1, u2]) rfl ⟨rfl, by (repeat (first | exact Adds.refl _ | apply Adds.drew | apply Adds.drewN | apply Adds.alloc | apply Adds.more | (refine Adds.setCell ?_ (by first | (simp [go_sem]; done) | (simp [go_sem]; omega)) _)))⟩
  · have u1 := S.uk80 hc b
    have u2 := S.uv80 hc b
    go_enter Try.func11, Try.ntmps11
    go_wp2_with (first | (go_at_call 18; refine (has_any _ _ b0 b1 (by decide) (by decide) _).mono ?_; rintro e w' ⟨rfl, rfl⟩))
    exact bodyPost_ret (v := .agg #[.bool (S.has b 7), .bool (S.has b 6), .bool (S.uk c b), .bool (S.has b 4), .bool (S.has b 2), .bool (S.uv c b), .bool (S.has b 0)]) (by simp [results, Try.results11, go_sem]; try simp [u1, u2]) rfl ⟨rfl, by (repeat (first | exact Adds.refl _ | apply Adds.drew | apply Adds.drewN | apply Adds.alloc | apply Adds.more | (refine Adds.setCell ?_ (by first | (simp [go_sem]; done) | (simp [go_sem]; omega)) _)))⟩
theorem runpack_any (c b : Int) (b0 : 0 ≤ b) (b1 : b < 256) (w : World) : Calls Try.prog 12 #[.int .i64 c, .int .u8 b] w fun e w' => e = .returned (.agg #[.bool (S.has b 7), .bool (S.has b 6), .bool (S.uk c b), .bool (S.has b 4), .bool (S.has b 2), .bool (S.uv c b), .bool (S.has b 0)]) ∧ Adds w w' := by
  have hm := S.mask b b0 b1
  obtain ⟨m7, m6, m5, m4, m2, m1, m0⟩ := hm
  by_cases hc : c = 2
  · have u1 := S.uk85 hc b
    have u2 := S.uv85 hc b
    subst hc
    go_enter Try.func12, Try.ntmps12
    go_wp2_with (first | (go_at_call 17; refine (ron_any _ _).mono ?_; rintro e w' ⟨rfl, rfl⟩))
    exact bodyPost_ret (v := .agg #[.bool (S.has b 7), .bool (S.has b 6), .bool (S.uk 2 b), .bool (S.has b 4), .bool (S.has b 2), .bool (S.uv 2 b), .bool (S.has b 0)]) (by simp [results, Try.results12, go_sem]; try simp [u1, u2]) rfl ⟨rfl, by (repeat (first | exact Adds.refl _ | apply Adds.drew | apply Adds.drewN | apply Adds.alloc | apply Adds.more | (refine Adds.setCell ?_ (by first | (simp [go_sem]; done) | (simp [go_sem]; omega)) _)))⟩
  · have u1 := S.uk80 hc b
    have u2 := S.uv80 hc b
    go_enter Try.func12, Try.ntmps12
    go_wp2_with (first | (go_at_call 17; refine (ron_any _ _).mono ?_; rintro e w' ⟨rfl, rfl⟩))
    exact bodyPost_ret (v := .agg #[.bool (S.has b 7), .bool (S.has b 6), .bool (S.uk c b), .bool (S.has b 4), .bool (S.has b 2), .bool (S.uv c b), .bool (S.has b 0)]) (by simp [results, Try.results12, go_sem]; try simp [u1, u2]) rfl ⟨rfl, by (repeat (first | exact Adds.refl _ | apply Adds.drew | apply Adds.drewN | apply Adds.alloc | apply Adds.more | (refine Adds.setCell ?_ (by first | (simp [go_sem]; done) | (simp [go_sem]; omega)) _)))⟩
theorem of_any (r : Int) (r0 : 0 ≤ r) (r1 : r < 256) (w : World) : Calls Try.prog 13 #[.int .u8 r] w fun e w' => e = .returned (.agg #[.bool (S.has r 7), .bool (r == 0), .bool false, .bool false, .bool (S.par r), .bool false, .bool false]) ∧ Adds w w' := by
  go_enter Try.func13, Try.ntmps13
  go_wp2_with (first | (go_at_call 18; refine (has_any _ _ r0 r1 (by decide) (by decide) _).mono ?_; rintro e w' ⟨rfl, rfl⟩) | (go_at_call 19; refine (parity_any _ r0 r1 _).mono ?_; rintro e w' ⟨rfl, rfl⟩))
  exact bodyPost_ret (v := .agg #[.bool (S.has r 7), .bool (r == 0), .bool false, .bool false, .bool (S.par r), .bool false, .bool false]) (by simp [results, Try.results13, go_sem]) rfl ⟨rfl, by (repeat (first | exact Adds.refl _ | apply Adds.drew | apply Adds.drewN | apply Adds.alloc | apply Adds.more | (refine Adds.setCell ?_ (by first | (simp [go_sem]; done) | (simp [go_sem]; omega)) _)))⟩
theorem rof_any (r : Int) (r0 : 0 ≤ r) (r1 : r < 256) (w : World) : Calls Try.prog 14 #[.int .u8 r] w fun e w' => e = .returned (.agg #[.bool (S.has r 7), .bool (r == 0), .bool false, .bool false, .bool (S.par r), .bool false, .bool false]) ∧ Adds w w' := by
  have h7 := S.has7 r r0 r1
  go_enter Try.func14, Try.ntmps14
  go_wp2_with (first | (go_at_call 20; refine (rparity_any _ r0 r1 _).mono ?_; rintro e w' ⟨rfl, rfl⟩))
  exact bodyPost_ret (v := .agg #[.bool (S.has r 7), .bool (r == 0), .bool false, .bool false, .bool (S.par r), .bool false, .bool false]) (by simp [results, Try.results14, go_sem]; try simp [h7]) rfl ⟨rfl, by (repeat (first | exact Adds.refl _ | apply Adds.drew | apply Adds.drewN | apply Adds.alloc | apply Adds.more | (refine Adds.setCell ?_ (by first | (simp [go_sem]; done) | (simp [go_sem]; omega)) _)))⟩
@[go_sem] theorem eq_Flags (a0 a1 a2 a3 a4 a5 a6 b0 b1 b2 b3 b4 b5 b6 : Bool) (w : World) : (Op.equalIn 10000 23 (.agg #[.bool a0, .bool a1, .bool a2, .bool a3, .bool a4, .bool a5, .bool a6]) (.agg #[.bool b0, .bool b1, .bool b2, .bool b3, .bool b4, .bool b5, .bool b6])).run Try.prog w =
    .ok (same [.bool a0, .bool a1, .bool a2, .bool a3, .bool a4, .bool a5, .bool a6] [.bool b0, .bool b1, .bool b2, .bool b3, .bool b4, .bool b5, .bool b6]) w :=
  eq_agg 4 [.bool, .bool, .bool, .bool, .bool, .bool, .bool] _ Try.underlying23 (by kernel_rfl) (by decide) _ _ w trivial trivial
theorem known2_any (w : World) : Calls Try.prog 10 #[] w fun e w' => e = .returned (.bool true) ∧ Adds w w' := by
  have k1 : S.pack 1 false false false false false false false = 2 := by decide
  have k2 : S.pack 2 false true false false false false false = 64 := by decide
  have k3 : S.has 255 7 = true ∧ S.has 255 6 = true ∧ S.uk 2 255 = true ∧ S.has 255 4 = true ∧ S.has 255 2 = true ∧ S.uv 2 255 = true ∧ S.has 255 0 = true := by decide
  obtain ⟨k3, k4, k5, k6, k7, k8, k9⟩ := k3
  go_enter Try.func10, Try.ntmps10
  go_wp2_with (first | (go_at_call 8; refine (pack_any _ _ _ _ _ _ _ _ _).mono ?_; rintro e w' ⟨rfl, ⟨⟨n1, os1⟩, rfl⟩⟩) | (go_at_call 11; refine (unpack_any _ _ (by decide) (by decide) _).mono ?_; rintro e w' ⟨rfl, ⟨⟨n1, os1⟩, rfl⟩⟩))
  go_ret
  exact ⟨rfl, by (repeat (first | exact Adds.refl _ | apply Adds.drew | apply Adds.drewN | apply Adds.alloc | apply Adds.more | (refine Adds.setCell ?_ (by first | (simp [go_sem]; done) | (simp [go_sem]; omega)) _)))⟩
end Go.Proofs.Ytgfcdgmcmdjoiaa
