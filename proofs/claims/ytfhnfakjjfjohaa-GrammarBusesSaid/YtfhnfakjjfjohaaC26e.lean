/- Contracts of the reference's On8085, and of its Pins in hold, halt and reset states. No condition. -/
import Derived.Test.YtfhnfakjjfjohaaC26a
namespace Go.Proofs.Ytfhnfakjjfjohaa
open Go.ChangeShapes Go.WideShapes Go.ChangeAt Go.RowKit
set_option linter.unusedVariables false
theorem on85_any (ch : Int) (w : World) : Calls Try.prog 33 #[.int .i64 ch] w fun e w' => e = .returned (.bool (ch == 2)) ∧ w = w' := by
  go_enter Try.func33, Try.ntmps33
  go_wp2
  go_ret
  exact ⟨rfl, rfl⟩
theorem on85_is (ch : Int) (r : Bool) (h : (ch == 2) = r) (w : World) : Calls Try.prog 33 #[.int .i64 ch] w fun e w' => e = .returned (.bool r) ∧ w = w' := h ▸ on85_any ch w
theorem rreads_is (c : Int) (r : Bool) (h : S.stR c = r) (w : World) : Calls Try.prog 18 #[.int .i64 c] w fun e w' => e = .returned (.bool r) ∧ Adds w w' := h ▸ rst_reads c w
theorem rwrites_is (c : Int) (r : Bool) (h : S.stW c = r) (w : World) : Calls Try.prog 19 #[.int .i64 c] w fun e w' => e = .returned (.bool r) ∧ Adds w w' := h ▸ rst_writes c w
theorem stR_8 : S.stR 8 = true := rfl
theorem stW_8 : S.stW 8 = false := rfl
theorem ack_8 : S.ack 8 = true := rfl
theorem stR_9 : S.stR 9 = true := rfl
theorem stW_9 : S.stW 9 = false := rfl
theorem ack_9 : S.ack 9 = true := rfl
set_option maxRecDepth 100000 in
set_option maxHeartbeats 1000000 in
theorem rpins_8_true (ch c a d s : Int) (e o : Bool) (x : S.It) (hx : x.c = c ∧ x.a = a ∧ x.d = d ∧ x.e = e ∧ x.o = o) (hc : (ch == 2) = true) (w : World) : Calls Try.prog 26 #[.int .i64 ch, .int .i64 8, .agg #[.int .i64 c, .int .u16 a, .int .u8 d, .int .i64 s], .int .u8 d, .bool e, .bool o] w fun r w' => r = .returned (.agg (S.pn true x 8).cs) ∧ Adds w w' := by
  obtain ⟨k, c', a', d', s', ww, n, e', o'⟩ := x
  obtain ⟨rfl, rfl, rfl, rfl, rfl⟩ := hx
  simp only []
  have HC := Lib.hid hc
  clear hc
  by_cases h8 : c' = 8
  · subst h8
    go_enter Try.func26, Try.ntmps26
    go_wp2_with (go_at_call 33; refine (on85_is ch true HC.out _).mono ?_; rintro e w' ⟨rfl, rfl⟩)
    refine wp_region_adds (by kernel_rfl) (by kernel_rfl) ?_
    repeat (go_big_quiet_step (first | (go_at_call 18; exact calls_adds (rst_reads _ _)) | (go_at_call 19; exact calls_adds (rst_writes _ _))))
    refine wpQuiet_nil ?_
    intro _ hw1
    obtain ⟨⟨nq, osq⟩, hw2⟩ := hw1
    subst hw2
    go_wp2_with fail
    exact bodyPost_ret (v := .agg (S.pn true _ 8).cs) (ret_Pins Try.results26 rfl (by simp [go_sem, S.pn, S.Pn.cs]) rfl) rfl ⟨rfl, by (repeat (first | with_reducible exact Adds.refl _ | with_reducible apply Adds.drew | with_reducible apply Adds.drewN | with_reducible apply Adds.alloc | with_reducible apply Adds.more | (with_reducible refine Adds.setCell ?_ ?_ _) | (focus (simp [go_sem]; done)) | (focus (simp [go_sem]; omega))))⟩
  by_cases h9 : c' = 9
  · subst h9
    go_enter Try.func26, Try.ntmps26
    go_wp2_with (go_at_call 33; refine (on85_is ch true HC.out _).mono ?_; rintro e w' ⟨rfl, rfl⟩)
    refine wp_region_adds (by kernel_rfl) (by kernel_rfl) ?_
    repeat (go_big_quiet_step (first | (go_at_call 18; exact calls_adds (rst_reads _ _)) | (go_at_call 19; exact calls_adds (rst_writes _ _))))
    refine wpQuiet_nil ?_
    intro _ hw1
    obtain ⟨⟨nq, osq⟩, hw2⟩ := hw1
    subst hw2
    go_wp2_with fail
    exact bodyPost_ret (v := .agg (S.pn true _ 8).cs) (ret_Pins Try.results26 rfl (by simp [go_sem, S.pn, S.Pn.cs]) rfl) rfl ⟨rfl, by (repeat (first | with_reducible exact Adds.refl _ | with_reducible apply Adds.drew | with_reducible apply Adds.drewN | with_reducible apply Adds.alloc | with_reducible apply Adds.more | (with_reducible refine Adds.setCell ?_ ?_ _) | (focus (simp [go_sem]; done)) | (focus (simp [go_sem]; omega))))⟩
  · have g8 : (c' == 8) = false := by simpa using h8
    have g9 : (c' == 9) = false := by simpa using h9
    clear h8 h9
    go_enter Try.func26, Try.ntmps26
    go_wp2_with (go_at_call 33; refine (on85_is ch true HC.out _).mono ?_; rintro e w' ⟨rfl, rfl⟩)
    refine wp_region_adds (by kernel_rfl) (by kernel_rfl) ?_
    repeat (go_big_quiet_step (first | (go_at_call 18; exact calls_adds (rst_reads _ _)) | (go_at_call 19; exact calls_adds (rst_writes _ _))))
    refine wpQuiet_nil ?_
    intro _ hw1
    obtain ⟨⟨nq, osq⟩, hw2⟩ := hw1
    subst hw2
    go_wp2_with fail
    exact bodyPost_ret (v := .agg (S.pn true _ 8).cs) (ret_Pins Try.results26 rfl (by simp [go_sem, S.pn, S.Pn.cs]) rfl) rfl ⟨rfl, by (repeat (first | with_reducible exact Adds.refl _ | with_reducible apply Adds.drew | with_reducible apply Adds.drewN | with_reducible apply Adds.alloc | with_reducible apply Adds.more | (with_reducible refine Adds.setCell ?_ ?_ _) | (focus (simp [go_sem]; done)) | (focus (simp [go_sem]; omega))))⟩
set_option maxRecDepth 100000 in
set_option maxHeartbeats 1000000 in
theorem rpins_8_false (ch c a d s : Int) (e o : Bool) (x : S.It) (hx : x.c = c ∧ x.a = a ∧ x.d = d ∧ x.e = e ∧ x.o = o) (hc : (ch == 2) = false) (w : World) : Calls Try.prog 26 #[.int .i64 ch, .int .i64 8, .agg #[.int .i64 c, .int .u16 a, .int .u8 d, .int .i64 s], .int .u8 d, .bool e, .bool o] w fun r w' => r = .returned (.agg (S.pn false x 8).cs) ∧ Adds w w' := by
  obtain ⟨k, c', a', d', s', ww, n, e', o'⟩ := x
  obtain ⟨rfl, rfl, rfl, rfl, rfl⟩ := hx
  simp only []
  have HC := Lib.hid hc
  clear hc
  by_cases h8 : c' = 8
  · subst h8
    go_enter Try.func26, Try.ntmps26
    go_wp2_with (go_at_call 33; refine (on85_is ch false HC.out _).mono ?_; rintro e w' ⟨rfl, rfl⟩)
    refine wp_region_adds (by kernel_rfl) (by kernel_rfl) ?_
    repeat (go_big_quiet_step (first | (go_at_call 18; exact calls_adds (rst_reads _ _)) | (go_at_call 19; exact calls_adds (rst_writes _ _))))
    refine wpQuiet_nil ?_
    intro _ hw1
    obtain ⟨⟨nq, osq⟩, hw2⟩ := hw1
    subst hw2
    go_wp2_with fail
    exact bodyPost_ret (v := .agg (S.pn false _ 8).cs) (ret_Pins Try.results26 rfl (by simp [go_sem, S.pn, S.Pn.cs]) rfl) rfl ⟨rfl, by (repeat (first | with_reducible exact Adds.refl _ | with_reducible apply Adds.drew | with_reducible apply Adds.drewN | with_reducible apply Adds.alloc | with_reducible apply Adds.more | (with_reducible refine Adds.setCell ?_ ?_ _) | (focus (simp [go_sem]; done)) | (focus (simp [go_sem]; omega))))⟩
  by_cases h9 : c' = 9
  · subst h9
    go_enter Try.func26, Try.ntmps26
    go_wp2_with (go_at_call 33; refine (on85_is ch false HC.out _).mono ?_; rintro e w' ⟨rfl, rfl⟩)
    refine wp_region_adds (by kernel_rfl) (by kernel_rfl) ?_
    repeat (go_big_quiet_step (first | (go_at_call 18; exact calls_adds (rst_reads _ _)) | (go_at_call 19; exact calls_adds (rst_writes _ _))))
    refine wpQuiet_nil ?_
    intro _ hw1
    obtain ⟨⟨nq, osq⟩, hw2⟩ := hw1
    subst hw2
    go_wp2_with fail
    exact bodyPost_ret (v := .agg (S.pn false _ 8).cs) (ret_Pins Try.results26 rfl (by simp [go_sem, S.pn, S.Pn.cs]) rfl) rfl ⟨rfl, by (repeat (first | with_reducible exact Adds.refl _ | with_reducible apply Adds.drew | with_reducible apply Adds.drewN | with_reducible apply Adds.alloc | with_reducible apply Adds.more | (with_reducible refine Adds.setCell ?_ ?_ _) | (focus (simp [go_sem]; done)) | (focus (simp [go_sem]; omega))))⟩
  · have g8 : (c' == 8) = false := by simpa using h8
    have g9 : (c' == 9) = false := by simpa using h9
    clear h8 h9
    go_enter Try.func26, Try.ntmps26
    go_wp2_with (go_at_call 33; refine (on85_is ch false HC.out _).mono ?_; rintro e w' ⟨rfl, rfl⟩)
    refine wp_region_adds (by kernel_rfl) (by kernel_rfl) ?_
    repeat (go_big_quiet_step (first | (go_at_call 18; exact calls_adds (rst_reads _ _)) | (go_at_call 19; exact calls_adds (rst_writes _ _))))
    refine wpQuiet_nil ?_
    intro _ hw1
    obtain ⟨⟨nq, osq⟩, hw2⟩ := hw1
    subst hw2
    go_wp2_with fail
    exact bodyPost_ret (v := .agg (S.pn false _ 8).cs) (ret_Pins Try.results26 rfl (by simp [go_sem, S.pn, S.Pn.cs]) rfl) rfl ⟨rfl, by (repeat (first | with_reducible exact Adds.refl _ | with_reducible apply Adds.drew | with_reducible apply Adds.drewN | with_reducible apply Adds.alloc | with_reducible apply Adds.more | (with_reducible refine Adds.setCell ?_ ?_ _) | (focus (simp [go_sem]; done)) | (focus (simp [go_sem]; omega))))⟩
set_option maxRecDepth 100000 in
set_option maxHeartbeats 1000000 in
theorem rpins_9_true (ch c a d s : Int) (e o : Bool) (x : S.It) (hx : x.c = c ∧ x.a = a ∧ x.d = d ∧ x.e = e ∧ x.o = o) (hc : (ch == 2) = true) (w : World) : Calls Try.prog 26 #[.int .i64 ch, .int .i64 9, .agg #[.int .i64 c, .int .u16 a, .int .u8 d, .int .i64 s], .int .u8 d, .bool e, .bool o] w fun r w' => r = .returned (.agg (S.pn true x 9).cs) ∧ Adds w w' := by
  obtain ⟨k, c', a', d', s', ww, n, e', o'⟩ := x
  obtain ⟨rfl, rfl, rfl, rfl, rfl⟩ := hx
  simp only []
  have HC := Lib.hid hc
  clear hc
  by_cases h8 : c' = 8
  · subst h8
    go_enter Try.func26, Try.ntmps26
    go_wp2_with (go_at_call 33; refine (on85_is ch true HC.out _).mono ?_; rintro e w' ⟨rfl, rfl⟩)
    refine wp_region_adds (by kernel_rfl) (by kernel_rfl) ?_
    repeat (go_big_quiet_step (first | (go_at_call 18; exact calls_adds (rst_reads _ _)) | (go_at_call 19; exact calls_adds (rst_writes _ _))))
    refine wpQuiet_nil ?_
    intro _ hw1
    obtain ⟨⟨nq, osq⟩, hw2⟩ := hw1
    subst hw2
    go_wp2_with fail
    exact bodyPost_ret (v := .agg (S.pn true _ 9).cs) (ret_Pins Try.results26 rfl (by simp [go_sem, S.pn, S.Pn.cs]) rfl) rfl ⟨rfl, by (repeat (first | with_reducible exact Adds.refl _ | with_reducible apply Adds.drew | with_reducible apply Adds.drewN | with_reducible apply Adds.alloc | with_reducible apply Adds.more | (with_reducible refine Adds.setCell ?_ ?_ _) | (focus (simp [go_sem]; done)) | (focus (simp [go_sem]; omega))))⟩
  by_cases h9 : c' = 9
  · subst h9
    go_enter Try.func26, Try.ntmps26
    go_wp2_with (go_at_call 33; refine (on85_is ch true HC.out _).mono ?_; rintro e w' ⟨rfl, rfl⟩)
    refine wp_region_adds (by kernel_rfl) (by kernel_rfl) ?_
    repeat (go_big_quiet_step (first | (go_at_call 18; exact calls_adds (rst_reads _ _)) | (go_at_call 19; exact calls_adds (rst_writes _ _))))
    refine wpQuiet_nil ?_
    intro _ hw1
    obtain ⟨⟨nq, osq⟩, hw2⟩ := hw1
    subst hw2
    go_wp2_with fail
    exact bodyPost_ret (v := .agg (S.pn true _ 9).cs) (ret_Pins Try.results26 rfl (by simp [go_sem, S.pn, S.Pn.cs]) rfl) rfl ⟨rfl, by (repeat (first | with_reducible exact Adds.refl _ | with_reducible apply Adds.drew | with_reducible apply Adds.drewN | with_reducible apply Adds.alloc | with_reducible apply Adds.more | (with_reducible refine Adds.setCell ?_ ?_ _) | (focus (simp [go_sem]; done)) | (focus (simp [go_sem]; omega))))⟩
  · have g8 : (c' == 8) = false := by simpa using h8
    have g9 : (c' == 9) = false := by simpa using h9
    clear h8 h9
    go_enter Try.func26, Try.ntmps26
    go_wp2_with (go_at_call 33; refine (on85_is ch true HC.out _).mono ?_; rintro e w' ⟨rfl, rfl⟩)
    refine wp_region_adds (by kernel_rfl) (by kernel_rfl) ?_
    repeat (go_big_quiet_step (first | (go_at_call 18; exact calls_adds (rst_reads _ _)) | (go_at_call 19; exact calls_adds (rst_writes _ _))))
    refine wpQuiet_nil ?_
    intro _ hw1
    obtain ⟨⟨nq, osq⟩, hw2⟩ := hw1
    subst hw2
    go_wp2_with fail
    exact bodyPost_ret (v := .agg (S.pn true _ 9).cs) (ret_Pins Try.results26 rfl (by simp [go_sem, S.pn, S.Pn.cs]) rfl) rfl ⟨rfl, by (repeat (first | with_reducible exact Adds.refl _ | with_reducible apply Adds.drew | with_reducible apply Adds.drewN | with_reducible apply Adds.alloc | with_reducible apply Adds.more | (with_reducible refine Adds.setCell ?_ ?_ _) | (focus (simp [go_sem]; done)) | (focus (simp [go_sem]; omega))))⟩
set_option maxRecDepth 100000 in
set_option maxHeartbeats 1000000 in
theorem rpins_9_false (ch c a d s : Int) (e o : Bool) (x : S.It) (hx : x.c = c ∧ x.a = a ∧ x.d = d ∧ x.e = e ∧ x.o = o) (hc : (ch == 2) = false) (w : World) : Calls Try.prog 26 #[.int .i64 ch, .int .i64 9, .agg #[.int .i64 c, .int .u16 a, .int .u8 d, .int .i64 s], .int .u8 d, .bool e, .bool o] w fun r w' => r = .returned (.agg (S.pn false x 9).cs) ∧ Adds w w' := by
  obtain ⟨k, c', a', d', s', ww, n, e', o'⟩ := x
  obtain ⟨rfl, rfl, rfl, rfl, rfl⟩ := hx
  simp only []
  have HC := Lib.hid hc
  clear hc
  by_cases h8 : c' = 8
  · subst h8
    go_enter Try.func26, Try.ntmps26
    go_wp2_with (go_at_call 33; refine (on85_is ch false HC.out _).mono ?_; rintro e w' ⟨rfl, rfl⟩)
    refine wp_region_adds (by kernel_rfl) (by kernel_rfl) ?_
    repeat (go_big_quiet_step (first | (go_at_call 18; exact calls_adds (rst_reads _ _)) | (go_at_call 19; exact calls_adds (rst_writes _ _))))
    refine wpQuiet_nil ?_
    intro _ hw1
    obtain ⟨⟨nq, osq⟩, hw2⟩ := hw1
    subst hw2
    go_wp2_with fail
    exact bodyPost_ret (v := .agg (S.pn false _ 9).cs) (ret_Pins Try.results26 rfl (by simp [go_sem, S.pn, S.Pn.cs]) rfl) rfl ⟨rfl, by (repeat (first | with_reducible exact Adds.refl _ | with_reducible apply Adds.drew | with_reducible apply Adds.drewN | with_reducible apply Adds.alloc | with_reducible apply Adds.more | (with_reducible refine Adds.setCell ?_ ?_ _) | (focus (simp [go_sem]; done)) | (focus (simp [go_sem]; omega))))⟩
  by_cases h9 : c' = 9
  · subst h9
    go_enter Try.func26, Try.ntmps26
    go_wp2_with (go_at_call 33; refine (on85_is ch false HC.out _).mono ?_; rintro e w' ⟨rfl, rfl⟩)
    refine wp_region_adds (by kernel_rfl) (by kernel_rfl) ?_
    repeat (go_big_quiet_step (first | (go_at_call 18; exact calls_adds (rst_reads _ _)) | (go_at_call 19; exact calls_adds (rst_writes _ _))))
    refine wpQuiet_nil ?_
    intro _ hw1
    obtain ⟨⟨nq, osq⟩, hw2⟩ := hw1
    subst hw2
    go_wp2_with fail
    exact bodyPost_ret (v := .agg (S.pn false _ 9).cs) (ret_Pins Try.results26 rfl (by simp [go_sem, S.pn, S.Pn.cs]) rfl) rfl ⟨rfl, by (repeat (first | with_reducible exact Adds.refl _ | with_reducible apply Adds.drew | with_reducible apply Adds.drewN | with_reducible apply Adds.alloc | with_reducible apply Adds.more | (with_reducible refine Adds.setCell ?_ ?_ _) | (focus (simp [go_sem]; done)) | (focus (simp [go_sem]; omega))))⟩
  · have g8 : (c' == 8) = false := by simpa using h8
    have g9 : (c' == 9) = false := by simpa using h9
    clear h8 h9
    go_enter Try.func26, Try.ntmps26
    go_wp2_with (go_at_call 33; refine (on85_is ch false HC.out _).mono ?_; rintro e w' ⟨rfl, rfl⟩)
    refine wp_region_adds (by kernel_rfl) (by kernel_rfl) ?_
    repeat (go_big_quiet_step (first | (go_at_call 18; exact calls_adds (rst_reads _ _)) | (go_at_call 19; exact calls_adds (rst_writes _ _))))
    refine wpQuiet_nil ?_
    intro _ hw1
    obtain ⟨⟨nq, osq⟩, hw2⟩ := hw1
    subst hw2
    go_wp2_with fail
    exact bodyPost_ret (v := .agg (S.pn false _ 9).cs) (ret_Pins Try.results26 rfl (by simp [go_sem, S.pn, S.Pn.cs]) rfl) rfl ⟨rfl, by (repeat (first | with_reducible exact Adds.refl _ | with_reducible apply Adds.drew | with_reducible apply Adds.drewN | with_reducible apply Adds.alloc | with_reducible apply Adds.more | (with_reducible refine Adds.setCell ?_ ?_ _) | (focus (simp [go_sem]; done)) | (focus (simp [go_sem]; omega))))⟩
set_option maxRecDepth 100000 in
set_option maxHeartbeats 1000000 in
theorem rpins_10_true (ch c a d s : Int) (e o : Bool) (x : S.It) (hx : x.c = c ∧ x.a = a ∧ x.d = d ∧ x.e = e ∧ x.o = o) (hc : (ch == 2) = true) (w : World) : Calls Try.prog 26 #[.int .i64 ch, .int .i64 10, .agg #[.int .i64 c, .int .u16 a, .int .u8 d, .int .i64 s], .int .u8 d, .bool e, .bool o] w fun r w' => r = .returned (.agg (S.pn true x 10).cs) ∧ Adds w w' := by
  obtain ⟨k, c', a', d', s', ww, n, e', o'⟩ := x
  obtain ⟨rfl, rfl, rfl, rfl, rfl⟩ := hx
  simp only []
  have HC := Lib.hid hc
  clear hc
  by_cases h8 : c' = 8
  · subst h8
    go_enter Try.func26, Try.ntmps26
    go_wp2_with (go_at_call 33; refine (on85_is ch true HC.out _).mono ?_; rintro e w' ⟨rfl, rfl⟩)
    refine wp_region_adds (by kernel_rfl) (by kernel_rfl) ?_
    repeat (go_big_quiet_step (first | (go_at_call 18; exact calls_adds (rst_reads _ _)) | (go_at_call 19; exact calls_adds (rst_writes _ _))))
    refine wpQuiet_nil ?_
    intro _ hw1
    obtain ⟨⟨nq, osq⟩, hw2⟩ := hw1
    subst hw2
    go_wp2_with fail
    exact bodyPost_ret (v := .agg (S.pn true _ 10).cs) (ret_Pins Try.results26 rfl (by simp [go_sem, S.pn, S.Pn.cs]) rfl) rfl ⟨rfl, by (repeat (first | with_reducible exact Adds.refl _ | with_reducible apply Adds.drew | with_reducible apply Adds.drewN | with_reducible apply Adds.alloc | with_reducible apply Adds.more | (with_reducible refine Adds.setCell ?_ ?_ _) | (focus (simp [go_sem]; done)) | (focus (simp [go_sem]; omega))))⟩
  by_cases h9 : c' = 9
  · subst h9
    go_enter Try.func26, Try.ntmps26
    go_wp2_with (go_at_call 33; refine (on85_is ch true HC.out _).mono ?_; rintro e w' ⟨rfl, rfl⟩)
    refine wp_region_adds (by kernel_rfl) (by kernel_rfl) ?_
    repeat (go_big_quiet_step (first | (go_at_call 18; exact calls_adds (rst_reads _ _)) | (go_at_call 19; exact calls_adds (rst_writes _ _))))
    refine wpQuiet_nil ?_
    intro _ hw1
    obtain ⟨⟨nq, osq⟩, hw2⟩ := hw1
    subst hw2
    go_wp2_with fail
    exact bodyPost_ret (v := .agg (S.pn true _ 10).cs) (ret_Pins Try.results26 rfl (by simp [go_sem, S.pn, S.Pn.cs]) rfl) rfl ⟨rfl, by (repeat (first | with_reducible exact Adds.refl _ | with_reducible apply Adds.drew | with_reducible apply Adds.drewN | with_reducible apply Adds.alloc | with_reducible apply Adds.more | (with_reducible refine Adds.setCell ?_ ?_ _) | (focus (simp [go_sem]; done)) | (focus (simp [go_sem]; omega))))⟩
  · have g8 : (c' == 8) = false := by simpa using h8
    have g9 : (c' == 9) = false := by simpa using h9
    clear h8 h9
    go_enter Try.func26, Try.ntmps26
    go_wp2_with (go_at_call 33; refine (on85_is ch true HC.out _).mono ?_; rintro e w' ⟨rfl, rfl⟩)
    refine wp_region_adds (by kernel_rfl) (by kernel_rfl) ?_
    repeat (go_big_quiet_step (first | (go_at_call 18; exact calls_adds (rst_reads _ _)) | (go_at_call 19; exact calls_adds (rst_writes _ _))))
    refine wpQuiet_nil ?_
    intro _ hw1
    obtain ⟨⟨nq, osq⟩, hw2⟩ := hw1
    subst hw2
    go_wp2_with fail
    exact bodyPost_ret (v := .agg (S.pn true _ 10).cs) (ret_Pins Try.results26 rfl (by simp [go_sem, S.pn, S.Pn.cs]) rfl) rfl ⟨rfl, by (repeat (first | with_reducible exact Adds.refl _ | with_reducible apply Adds.drew | with_reducible apply Adds.drewN | with_reducible apply Adds.alloc | with_reducible apply Adds.more | (with_reducible refine Adds.setCell ?_ ?_ _) | (focus (simp [go_sem]; done)) | (focus (simp [go_sem]; omega))))⟩
set_option maxRecDepth 100000 in
set_option maxHeartbeats 1000000 in
theorem rpins_10_false (ch c a d s : Int) (e o : Bool) (x : S.It) (hx : x.c = c ∧ x.a = a ∧ x.d = d ∧ x.e = e ∧ x.o = o) (hc : (ch == 2) = false) (w : World) : Calls Try.prog 26 #[.int .i64 ch, .int .i64 10, .agg #[.int .i64 c, .int .u16 a, .int .u8 d, .int .i64 s], .int .u8 d, .bool e, .bool o] w fun r w' => r = .returned (.agg (S.pn false x 10).cs) ∧ Adds w w' := by
  obtain ⟨k, c', a', d', s', ww, n, e', o'⟩ := x
  obtain ⟨rfl, rfl, rfl, rfl, rfl⟩ := hx
  simp only []
  have HC := Lib.hid hc
  clear hc
  by_cases h8 : c' = 8
  · subst h8
    go_enter Try.func26, Try.ntmps26
    go_wp2_with (go_at_call 33; refine (on85_is ch false HC.out _).mono ?_; rintro e w' ⟨rfl, rfl⟩)
    refine wp_region_adds (by kernel_rfl) (by kernel_rfl) ?_
    repeat (go_big_quiet_step (first | (go_at_call 18; exact calls_adds (rst_reads _ _)) | (go_at_call 19; exact calls_adds (rst_writes _ _))))
    refine wpQuiet_nil ?_
    intro _ hw1
    obtain ⟨⟨nq, osq⟩, hw2⟩ := hw1
    subst hw2
    go_wp2_with fail
    exact bodyPost_ret (v := .agg (S.pn false _ 10).cs) (ret_Pins Try.results26 rfl (by simp [go_sem, S.pn, S.Pn.cs]) rfl) rfl ⟨rfl, by (repeat (first | with_reducible exact Adds.refl _ | with_reducible apply Adds.drew | with_reducible apply Adds.drewN | with_reducible apply Adds.alloc | with_reducible apply Adds.more | (with_reducible refine Adds.setCell ?_ ?_ _) | (focus (simp [go_sem]; done)) | (focus (simp [go_sem]; omega))))⟩
  by_cases h9 : c' = 9
  · subst h9
    go_enter Try.func26, Try.ntmps26
    go_wp2_with (go_at_call 33; refine (on85_is ch false HC.out _).mono ?_; rintro e w' ⟨rfl, rfl⟩)
    refine wp_region_adds (by kernel_rfl) (by kernel_rfl) ?_
    repeat (go_big_quiet_step (first | (go_at_call 18; exact calls_adds (rst_reads _ _)) | (go_at_call 19; exact calls_adds (rst_writes _ _))))
    refine wpQuiet_nil ?_
    intro _ hw1
    obtain ⟨⟨nq, osq⟩, hw2⟩ := hw1
    subst hw2
    go_wp2_with fail
    exact bodyPost_ret (v := .agg (S.pn false _ 10).cs) (ret_Pins Try.results26 rfl (by simp [go_sem, S.pn, S.Pn.cs]) rfl) rfl ⟨rfl, by (repeat (first | with_reducible exact Adds.refl _ | with_reducible apply Adds.drew | with_reducible apply Adds.drewN | with_reducible apply Adds.alloc | with_reducible apply Adds.more | (with_reducible refine Adds.setCell ?_ ?_ _) | (focus (simp [go_sem]; done)) | (focus (simp [go_sem]; omega))))⟩
  · have g8 : (c' == 8) = false := by simpa using h8
    have g9 : (c' == 9) = false := by simpa using h9
    clear h8 h9
    go_enter Try.func26, Try.ntmps26
    go_wp2_with (go_at_call 33; refine (on85_is ch false HC.out _).mono ?_; rintro e w' ⟨rfl, rfl⟩)
    refine wp_region_adds (by kernel_rfl) (by kernel_rfl) ?_
    repeat (go_big_quiet_step (first | (go_at_call 18; exact calls_adds (rst_reads _ _)) | (go_at_call 19; exact calls_adds (rst_writes _ _))))
    refine wpQuiet_nil ?_
    intro _ hw1
    obtain ⟨⟨nq, osq⟩, hw2⟩ := hw1
    subst hw2
    go_wp2_with fail
    exact bodyPost_ret (v := .agg (S.pn false _ 10).cs) (ret_Pins Try.results26 rfl (by simp [go_sem, S.pn, S.Pn.cs]) rfl) rfl ⟨rfl, by (repeat (first | with_reducible exact Adds.refl _ | with_reducible apply Adds.drew | with_reducible apply Adds.drewN | with_reducible apply Adds.alloc | with_reducible apply Adds.more | (with_reducible refine Adds.setCell ?_ ?_ _) | (focus (simp [go_sem]; done)) | (focus (simp [go_sem]; omega))))⟩
end Go.Proofs.Ytfhnfakjjfjohaa
