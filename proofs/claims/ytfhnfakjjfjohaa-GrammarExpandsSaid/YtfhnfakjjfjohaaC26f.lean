/- Contract of the reference's Pins in the states T2 and T3. No condition. -/
import Derived.Test.YtfhnfakjjfjohaaC26e
namespace Go.Proofs.Ytfhnfakjjfjohaa
open Go.ChangeShapes Go.WideShapes Go.ChangeAt Go.RowKit
set_option linter.unusedVariables false
set_option maxRecDepth 100000 in
set_option maxHeartbeats 2000000 in
theorem rpins_2_true (ch c a d s : Int) (e o : Bool) (x : S.It) (hx : x.c = c ∧ x.a = a ∧ x.d = d ∧ x.e = e ∧ x.o = o) (hc : (ch == 2) = true) (w : World) : Calls Try.prog 26 #[.int .i64 ch, .int .i64 2, .agg #[.int .i64 c, .int .u16 a, .int .u8 d, .int .i64 s], .int .u8 d, .bool e, .bool o] w fun r w' => r = .returned (.agg (S.pn true x 2).cs) ∧ Adds w w' := by
  obtain ⟨k, c', a', d', s', ww, n, e', o'⟩ := x
  obtain ⟨rfl, rfl, rfl, rfl, rfl⟩ := hx
  simp only []
  have HC := Lib.hid hc
  clear hc
  by_cases h8 : c' = 8
  · subst h8
    go_enter Try.func26, Try.ntmps26
    go_wp2_with (go_at_call 33; refine (on85_is ch true HC.out _).mono ?_; rintro e w' ⟨rfl, rfl⟩)
    refine wp_region_adds (by kernel_rfl) (by kernel_rfl) ?_
    repeat (go_big_quiet_step (first | (go_at_call 18; exact calls_adds (rreads_is 8 true rfl _)) | (go_at_call 19; exact calls_adds (rwrites_is 8 false rfl _))))
    refine wpQuiet_nil ?_
    intro _ hw1
    obtain ⟨⟨nq, osq⟩, hw2⟩ := hw1
    subst hw2
    go_wp2_with (first | (go_at_call 34; refine (rst_lines 8 _).mono ?_; rintro e w' ⟨rfl, ⟨⟨n1, os1⟩, rfl⟩⟩) | (go_at_call 35; refine (rst_byte 8 _).mono ?_; rintro e w' ⟨rfl, ⟨⟨n2, os2⟩, rfl⟩⟩))
    exact bodyPost_ret (v := .agg (S.pn true _ 2).cs) (ret_Pins Try.results26 rfl (by simp [go_sem, S.pn, S.Pn.cs, S.tr, stR_8, stW_8, ack_8]) rfl) rfl ⟨rfl, by (repeat (first | with_reducible exact Adds.refl _ | with_reducible apply Adds.drew | with_reducible apply Adds.drewN | with_reducible apply Adds.alloc | with_reducible apply Adds.more | (with_reducible refine Adds.setCell ?_ ?_ _) | (focus (simp [go_sem]; done)) | (focus (simp [go_sem]; omega))))⟩
  by_cases h9 : c' = 9
  · subst h9
    go_enter Try.func26, Try.ntmps26
    go_wp2_with (go_at_call 33; refine (on85_is ch true HC.out _).mono ?_; rintro e w' ⟨rfl, rfl⟩)
    refine wp_region_adds (by kernel_rfl) (by kernel_rfl) ?_
    repeat (go_big_quiet_step (first | (go_at_call 18; exact calls_adds (rreads_is 9 true rfl _)) | (go_at_call 19; exact calls_adds (rwrites_is 9 false rfl _))))
    refine wpQuiet_nil ?_
    intro _ hw1
    obtain ⟨⟨nq, osq⟩, hw2⟩ := hw1
    subst hw2
    go_wp2_with (first | (go_at_call 34; refine (rst_lines 9 _).mono ?_; rintro e w' ⟨rfl, ⟨⟨n1, os1⟩, rfl⟩⟩) | (go_at_call 35; refine (rst_byte 9 _).mono ?_; rintro e w' ⟨rfl, ⟨⟨n2, os2⟩, rfl⟩⟩))
    exact bodyPost_ret (v := .agg (S.pn true _ 2).cs) (ret_Pins Try.results26 rfl (by simp [go_sem, S.pn, S.Pn.cs, S.tr, stR_9, stW_9, ack_9]) rfl) rfl ⟨rfl, by (repeat (first | with_reducible exact Adds.refl _ | with_reducible apply Adds.drew | with_reducible apply Adds.drewN | with_reducible apply Adds.alloc | with_reducible apply Adds.more | (with_reducible refine Adds.setCell ?_ ?_ _) | (focus (simp [go_sem]; done)) | (focus (simp [go_sem]; omega))))⟩
  · have hA : S.ack c' = false := by simp [S.ack, h8, h9]
    have g8 : (c' == 8) = false := by simpa using h8
    have g9 : (c' == 9) = false := by simpa using h9
    clear h8 h9
    cases hR : S.stR c' <;> cases hW : S.stW c'
    all_goals
      have HR := Lib.hid hR
      have HW := Lib.hid hW
      go_enter Try.func26, Try.ntmps26
      go_wp2_with (go_at_call 33; refine (on85_is ch true HC.out _).mono ?_; rintro e w' ⟨rfl, rfl⟩)
      refine wp_region_adds (by kernel_rfl) (by kernel_rfl) ?_
      repeat (go_big_quiet_step (first | (go_at_call 18; exact calls_adds (rreads_is c' _ HR.out _)) | (go_at_call 19; exact calls_adds (rwrites_is c' _ HW.out _))))
      refine wpQuiet_nil ?_
      intro _ hw1
      obtain ⟨⟨nq, osq⟩, hw2⟩ := hw1
      subst hw2
      go_wp2_with (first | (go_at_call 34; refine (rst_lines c' _).mono ?_; rintro e w' ⟨rfl, ⟨⟨n1, os1⟩, rfl⟩⟩) | (go_at_call 35; refine (rst_byte c' _).mono ?_; rintro e w' ⟨rfl, ⟨⟨n2, os2⟩, rfl⟩⟩))
      exact bodyPost_ret (v := .agg (S.pn true _ 2).cs) (ret_Pins Try.results26 rfl (by simp [go_sem, S.pn, S.Pn.cs, S.tr, hR, hW, hA]) rfl) rfl ⟨rfl, by (repeat (first | with_reducible exact Adds.refl _ | with_reducible apply Adds.drew | with_reducible apply Adds.drewN | with_reducible apply Adds.alloc | with_reducible apply Adds.more | (with_reducible refine Adds.setCell ?_ ?_ _) | (focus (simp [go_sem]; done)) | (focus (simp [go_sem]; omega))))⟩
set_option maxRecDepth 100000 in
set_option maxHeartbeats 2000000 in
theorem rpins_2_false (ch c a d s : Int) (e o : Bool) (x : S.It) (hx : x.c = c ∧ x.a = a ∧ x.d = d ∧ x.e = e ∧ x.o = o) (hc : (ch == 2) = false) (w : World) : Calls Try.prog 26 #[.int .i64 ch, .int .i64 2, .agg #[.int .i64 c, .int .u16 a, .int .u8 d, .int .i64 s], .int .u8 d, .bool e, .bool o] w fun r w' => r = .returned (.agg (S.pn false x 2).cs) ∧ Adds w w' := by
  obtain ⟨k, c', a', d', s', ww, n, e', o'⟩ := x
  obtain ⟨rfl, rfl, rfl, rfl, rfl⟩ := hx
  simp only []
  have HC := Lib.hid hc
  clear hc
  by_cases h8 : c' = 8
  · subst h8
    go_enter Try.func26, Try.ntmps26
    go_wp2_with (go_at_call 33; refine (on85_is ch false HC.out _).mono ?_; rintro e w' ⟨rfl, rfl⟩)
    refine wp_region_adds (by kernel_rfl) (by kernel_rfl) ?_
    repeat (go_big_quiet_step (first | (go_at_call 18; exact calls_adds (rreads_is 8 true rfl _)) | (go_at_call 19; exact calls_adds (rwrites_is 8 false rfl _))))
    refine wpQuiet_nil ?_
    intro _ hw1
    obtain ⟨⟨nq, osq⟩, hw2⟩ := hw1
    subst hw2
    go_wp2_with (first | (go_at_call 34; refine (rst_lines 8 _).mono ?_; rintro e w' ⟨rfl, ⟨⟨n1, os1⟩, rfl⟩⟩) | (go_at_call 35; refine (rst_byte 8 _).mono ?_; rintro e w' ⟨rfl, ⟨⟨n2, os2⟩, rfl⟩⟩))
    exact bodyPost_ret (v := .agg (S.pn false _ 2).cs) (ret_Pins Try.results26 rfl (by simp [go_sem, S.pn, S.Pn.cs, S.tr, stR_8, stW_8]) rfl) rfl ⟨rfl, by (repeat (first | with_reducible exact Adds.refl _ | with_reducible apply Adds.drew | with_reducible apply Adds.drewN | with_reducible apply Adds.alloc | with_reducible apply Adds.more | (with_reducible refine Adds.setCell ?_ ?_ _) | (focus (simp [go_sem]; done)) | (focus (simp [go_sem]; omega))))⟩
  by_cases h9 : c' = 9
  · subst h9
    go_enter Try.func26, Try.ntmps26
    go_wp2_with (go_at_call 33; refine (on85_is ch false HC.out _).mono ?_; rintro e w' ⟨rfl, rfl⟩)
    refine wp_region_adds (by kernel_rfl) (by kernel_rfl) ?_
    repeat (go_big_quiet_step (first | (go_at_call 18; exact calls_adds (rreads_is 9 true rfl _)) | (go_at_call 19; exact calls_adds (rwrites_is 9 false rfl _))))
    refine wpQuiet_nil ?_
    intro _ hw1
    obtain ⟨⟨nq, osq⟩, hw2⟩ := hw1
    subst hw2
    go_wp2_with (first | (go_at_call 34; refine (rst_lines 9 _).mono ?_; rintro e w' ⟨rfl, ⟨⟨n1, os1⟩, rfl⟩⟩) | (go_at_call 35; refine (rst_byte 9 _).mono ?_; rintro e w' ⟨rfl, ⟨⟨n2, os2⟩, rfl⟩⟩))
    exact bodyPost_ret (v := .agg (S.pn false _ 2).cs) (ret_Pins Try.results26 rfl (by simp [go_sem, S.pn, S.Pn.cs, S.tr, stR_9, stW_9]) rfl) rfl ⟨rfl, by (repeat (first | with_reducible exact Adds.refl _ | with_reducible apply Adds.drew | with_reducible apply Adds.drewN | with_reducible apply Adds.alloc | with_reducible apply Adds.more | (with_reducible refine Adds.setCell ?_ ?_ _) | (focus (simp [go_sem]; done)) | (focus (simp [go_sem]; omega))))⟩
  · have hA : S.ack c' = false := by simp [S.ack, h8, h9]
    have g8 : (c' == 8) = false := by simpa using h8
    have g9 : (c' == 9) = false := by simpa using h9
    clear h8 h9
    cases hR : S.stR c' <;> cases hW : S.stW c'
    all_goals
      have HR := Lib.hid hR
      have HW := Lib.hid hW
      go_enter Try.func26, Try.ntmps26
      go_wp2_with (go_at_call 33; refine (on85_is ch false HC.out _).mono ?_; rintro e w' ⟨rfl, rfl⟩)
      refine wp_region_adds (by kernel_rfl) (by kernel_rfl) ?_
      repeat (go_big_quiet_step (first | (go_at_call 18; exact calls_adds (rreads_is c' _ HR.out _)) | (go_at_call 19; exact calls_adds (rwrites_is c' _ HW.out _))))
      refine wpQuiet_nil ?_
      intro _ hw1
      obtain ⟨⟨nq, osq⟩, hw2⟩ := hw1
      subst hw2
      go_wp2_with (first | (go_at_call 34; refine (rst_lines c' _).mono ?_; rintro e w' ⟨rfl, ⟨⟨n1, os1⟩, rfl⟩⟩) | (go_at_call 35; refine (rst_byte c' _).mono ?_; rintro e w' ⟨rfl, ⟨⟨n2, os2⟩, rfl⟩⟩))
      exact bodyPost_ret (v := .agg (S.pn false _ 2).cs) (ret_Pins Try.results26 rfl (by simp [go_sem, S.pn, S.Pn.cs, S.tr, hR, hW]) rfl) rfl ⟨rfl, by (repeat (first | with_reducible exact Adds.refl _ | with_reducible apply Adds.drew | with_reducible apply Adds.drewN | with_reducible apply Adds.alloc | with_reducible apply Adds.more | (with_reducible refine Adds.setCell ?_ ?_ _) | (focus (simp [go_sem]; done)) | (focus (simp [go_sem]; omega))))⟩
set_option maxRecDepth 100000 in
set_option maxHeartbeats 2000000 in
theorem rpins_3_true (ch c a d s : Int) (e o : Bool) (x : S.It) (hx : x.c = c ∧ x.a = a ∧ x.d = d ∧ x.e = e ∧ x.o = o) (hc : (ch == 2) = true) (w : World) : Calls Try.prog 26 #[.int .i64 ch, .int .i64 3, .agg #[.int .i64 c, .int .u16 a, .int .u8 d, .int .i64 s], .int .u8 d, .bool e, .bool o] w fun r w' => r = .returned (.agg (S.pn true x 3).cs) ∧ Adds w w' := by
  obtain ⟨k, c', a', d', s', ww, n, e', o'⟩ := x
  obtain ⟨rfl, rfl, rfl, rfl, rfl⟩ := hx
  simp only []
  have HC := Lib.hid hc
  clear hc
  by_cases h8 : c' = 8
  · subst h8
    go_enter Try.func26, Try.ntmps26
    go_wp2_with (go_at_call 33; refine (on85_is ch true HC.out _).mono ?_; rintro e w' ⟨rfl, rfl⟩)
    refine wp_region_adds (by kernel_rfl) (by kernel_rfl) ?_
    repeat (go_big_quiet_step (first | (go_at_call 18; exact calls_adds (rreads_is 8 true rfl _)) | (go_at_call 19; exact calls_adds (rwrites_is 8 false rfl _))))
    refine wpQuiet_nil ?_
    intro _ hw1
    obtain ⟨⟨nq, osq⟩, hw2⟩ := hw1
    subst hw2
    go_wp2_with (first | (go_at_call 34; refine (rst_lines 8 _).mono ?_; rintro e w' ⟨rfl, ⟨⟨n1, os1⟩, rfl⟩⟩) | (go_at_call 35; refine (rst_byte 8 _).mono ?_; rintro e w' ⟨rfl, ⟨⟨n2, os2⟩, rfl⟩⟩))
    exact bodyPost_ret (v := .agg (S.pn true _ 3).cs) (ret_Pins Try.results26 rfl (by simp [go_sem, S.pn, S.Pn.cs, S.tr, stR_8, stW_8, ack_8]) rfl) rfl ⟨rfl, by (repeat (first | with_reducible exact Adds.refl _ | with_reducible apply Adds.drew | with_reducible apply Adds.drewN | with_reducible apply Adds.alloc | with_reducible apply Adds.more | (with_reducible refine Adds.setCell ?_ ?_ _) | (focus (simp [go_sem]; done)) | (focus (simp [go_sem]; omega))))⟩
  by_cases h9 : c' = 9
  · subst h9
    go_enter Try.func26, Try.ntmps26
    go_wp2_with (go_at_call 33; refine (on85_is ch true HC.out _).mono ?_; rintro e w' ⟨rfl, rfl⟩)
    refine wp_region_adds (by kernel_rfl) (by kernel_rfl) ?_
    repeat (go_big_quiet_step (first | (go_at_call 18; exact calls_adds (rreads_is 9 true rfl _)) | (go_at_call 19; exact calls_adds (rwrites_is 9 false rfl _))))
    refine wpQuiet_nil ?_
    intro _ hw1
    obtain ⟨⟨nq, osq⟩, hw2⟩ := hw1
    subst hw2
    go_wp2_with (first | (go_at_call 34; refine (rst_lines 9 _).mono ?_; rintro e w' ⟨rfl, ⟨⟨n1, os1⟩, rfl⟩⟩) | (go_at_call 35; refine (rst_byte 9 _).mono ?_; rintro e w' ⟨rfl, ⟨⟨n2, os2⟩, rfl⟩⟩))
    exact bodyPost_ret (v := .agg (S.pn true _ 3).cs) (ret_Pins Try.results26 rfl (by simp [go_sem, S.pn, S.Pn.cs, S.tr, stR_9, stW_9, ack_9]) rfl) rfl ⟨rfl, by (repeat (first | with_reducible exact Adds.refl _ | with_reducible apply Adds.drew | with_reducible apply Adds.drewN | with_reducible apply Adds.alloc | with_reducible apply Adds.more | (with_reducible refine Adds.setCell ?_ ?_ _) | (focus (simp [go_sem]; done)) | (focus (simp [go_sem]; omega))))⟩
  · have hA : S.ack c' = false := by simp [S.ack, h8, h9]
    have g8 : (c' == 8) = false := by simpa using h8
    have g9 : (c' == 9) = false := by simpa using h9
    clear h8 h9
    cases hR : S.stR c' <;> cases hW : S.stW c'
    all_goals
      have HR := Lib.hid hR
      have HW := Lib.hid hW
      go_enter Try.func26, Try.ntmps26
      go_wp2_with (go_at_call 33; refine (on85_is ch true HC.out _).mono ?_; rintro e w' ⟨rfl, rfl⟩)
      refine wp_region_adds (by kernel_rfl) (by kernel_rfl) ?_
      repeat (go_big_quiet_step (first | (go_at_call 18; exact calls_adds (rreads_is c' _ HR.out _)) | (go_at_call 19; exact calls_adds (rwrites_is c' _ HW.out _))))
      refine wpQuiet_nil ?_
      intro _ hw1
      obtain ⟨⟨nq, osq⟩, hw2⟩ := hw1
      subst hw2
      go_wp2_with (first | (go_at_call 34; refine (rst_lines c' _).mono ?_; rintro e w' ⟨rfl, ⟨⟨n1, os1⟩, rfl⟩⟩) | (go_at_call 35; refine (rst_byte c' _).mono ?_; rintro e w' ⟨rfl, ⟨⟨n2, os2⟩, rfl⟩⟩))
      exact bodyPost_ret (v := .agg (S.pn true _ 3).cs) (ret_Pins Try.results26 rfl (by simp [go_sem, S.pn, S.Pn.cs, S.tr, hR, hW, hA]) rfl) rfl ⟨rfl, by (repeat (first | with_reducible exact Adds.refl _ | with_reducible apply Adds.drew | with_reducible apply Adds.drewN | with_reducible apply Adds.alloc | with_reducible apply Adds.more | (with_reducible refine Adds.setCell ?_ ?_ _) | (focus (simp [go_sem]; done)) | (focus (simp [go_sem]; omega))))⟩
set_option maxRecDepth 100000 in
set_option maxHeartbeats 2000000 in
theorem rpins_3_false (ch c a d s : Int) (e o : Bool) (x : S.It) (hx : x.c = c ∧ x.a = a ∧ x.d = d ∧ x.e = e ∧ x.o = o) (hc : (ch == 2) = false) (w : World) : Calls Try.prog 26 #[.int .i64 ch, .int .i64 3, .agg #[.int .i64 c, .int .u16 a, .int .u8 d, .int .i64 s], .int .u8 d, .bool e, .bool o] w fun r w' => r = .returned (.agg (S.pn false x 3).cs) ∧ Adds w w' := by
  obtain ⟨k, c', a', d', s', ww, n, e', o'⟩ := x
  obtain ⟨rfl, rfl, rfl, rfl, rfl⟩ := hx
  simp only []
  have HC := Lib.hid hc
  clear hc
  by_cases h8 : c' = 8
  · subst h8
    go_enter Try.func26, Try.ntmps26
    go_wp2_with (go_at_call 33; refine (on85_is ch false HC.out _).mono ?_; rintro e w' ⟨rfl, rfl⟩)
    refine wp_region_adds (by kernel_rfl) (by kernel_rfl) ?_
    repeat (go_big_quiet_step (first | (go_at_call 18; exact calls_adds (rreads_is 8 true rfl _)) | (go_at_call 19; exact calls_adds (rwrites_is 8 false rfl _))))
    refine wpQuiet_nil ?_
    intro _ hw1
    obtain ⟨⟨nq, osq⟩, hw2⟩ := hw1
    subst hw2
    go_wp2_with (first | (go_at_call 34; refine (rst_lines 8 _).mono ?_; rintro e w' ⟨rfl, ⟨⟨n1, os1⟩, rfl⟩⟩) | (go_at_call 35; refine (rst_byte 8 _).mono ?_; rintro e w' ⟨rfl, ⟨⟨n2, os2⟩, rfl⟩⟩))
    exact bodyPost_ret (v := .agg (S.pn false _ 3).cs) (ret_Pins Try.results26 rfl (by simp [go_sem, S.pn, S.Pn.cs, S.tr, stR_8, stW_8]) rfl) rfl ⟨rfl, by (repeat (first | with_reducible exact Adds.refl _ | with_reducible apply Adds.drew | with_reducible apply Adds.drewN | with_reducible apply Adds.alloc | with_reducible apply Adds.more | (with_reducible refine Adds.setCell ?_ ?_ _) | (focus (simp [go_sem]; done)) | (focus (simp [go_sem]; omega))))⟩
  by_cases h9 : c' = 9
  · subst h9
    go_enter Try.func26, Try.ntmps26
    go_wp2_with (go_at_call 33; refine (on85_is ch false HC.out _).mono ?_; rintro e w' ⟨rfl, rfl⟩)
    refine wp_region_adds (by kernel_rfl) (by kernel_rfl) ?_
    repeat (go_big_quiet_step (first | (go_at_call 18; exact calls_adds (rreads_is 9 true rfl _)) | (go_at_call 19; exact calls_adds (rwrites_is 9 false rfl _))))
    refine wpQuiet_nil ?_
    intro _ hw1
    obtain ⟨⟨nq, osq⟩, hw2⟩ := hw1
    subst hw2
    go_wp2_with (first | (go_at_call 34; refine (rst_lines 9 _).mono ?_; rintro e w' ⟨rfl, ⟨⟨n1, os1⟩, rfl⟩⟩) | (go_at_call 35; refine (rst_byte 9 _).mono ?_; rintro e w' ⟨rfl, ⟨⟨n2, os2⟩, rfl⟩⟩))
    exact bodyPost_ret (v := .agg (S.pn false _ 3).cs) (ret_Pins Try.results26 rfl (by simp [go_sem, S.pn, S.Pn.cs, S.tr, stR_9, stW_9]) rfl) rfl ⟨rfl, by (repeat (first | with_reducible exact Adds.refl _ | with_reducible apply Adds.drew | with_reducible apply Adds.drewN | with_reducible apply Adds.alloc | with_reducible apply Adds.more | (with_reducible refine Adds.setCell ?_ ?_ _) | (focus (simp [go_sem]; done)) | (focus (simp [go_sem]; omega))))⟩
  · have hA : S.ack c' = false := by simp [S.ack, h8, h9]
    have g8 : (c' == 8) = false := by simpa using h8
    have g9 : (c' == 9) = false := by simpa using h9
    clear h8 h9
    cases hR : S.stR c' <;> cases hW : S.stW c'
    all_goals
      have HR := Lib.hid hR
      have HW := Lib.hid hW
      go_enter Try.func26, Try.ntmps26
      go_wp2_with (go_at_call 33; refine (on85_is ch false HC.out _).mono ?_; rintro e w' ⟨rfl, rfl⟩)
      refine wp_region_adds (by kernel_rfl) (by kernel_rfl) ?_
      repeat (go_big_quiet_step (first | (go_at_call 18; exact calls_adds (rreads_is c' _ HR.out _)) | (go_at_call 19; exact calls_adds (rwrites_is c' _ HW.out _))))
      refine wpQuiet_nil ?_
      intro _ hw1
      obtain ⟨⟨nq, osq⟩, hw2⟩ := hw1
      subst hw2
      go_wp2_with (first | (go_at_call 34; refine (rst_lines c' _).mono ?_; rintro e w' ⟨rfl, ⟨⟨n1, os1⟩, rfl⟩⟩) | (go_at_call 35; refine (rst_byte c' _).mono ?_; rintro e w' ⟨rfl, ⟨⟨n2, os2⟩, rfl⟩⟩))
      exact bodyPost_ret (v := .agg (S.pn false _ 3).cs) (ret_Pins Try.results26 rfl (by simp [go_sem, S.pn, S.Pn.cs, S.tr, hR, hW]) rfl) rfl ⟨rfl, by (repeat (first | with_reducible exact Adds.refl _ | with_reducible apply Adds.drew | with_reducible apply Adds.drewN | with_reducible apply Adds.alloc | with_reducible apply Adds.more | (with_reducible refine Adds.setCell ?_ ?_ _) | (focus (simp [go_sem]; done)) | (focus (simp [go_sem]; omega))))⟩
end Go.Proofs.Ytfhnfakjjfjohaa
