/- Contracts of the pins of a state, continued: pins8085. Condition: the state is one that items of this kind have. -/
import Derived.Test.YtfhnfakjjfjohaaC26a
namespace Go.Proofs.Ytfhnfakjjfjohaa
open Go.ChangeShapes Go.WideShapes Go.ChangeAt Go.RowKit
set_option linter.unusedVariables false
set_option maxHeartbeats 1000000 in
theorem pins85_1 (x : S.It) (hk : x.k = 1) (w : World) : Calls Try.prog 40 #[.agg #[.int .i64 1, .int .u16 (x.a), .int .u8 ((S.tr x.c x.d 1)), .bool false, .bool false, .bool false, .bool false, .bool false, .bool false, .bool false, .bool false, .bool false, .bool false, .bool false, .bool false, .bool false, .bool false], .agg #[.int .i64 x.k, .int .i64 x.c, .int .u16 x.a, .int .u8 x.d, .int .i64 x.s, .int .i64 x.w, .int .i64 x.n, .bool x.e, .bool x.o]] w fun e w' => e = .returned (.agg (S.pn true x 1).cs) ∧ Adds w w' := by
  obtain ⟨k, c, a, d, s, ww, n, e, o⟩ := x
  obtain rfl : k = 1 := hk
  simp only []
  go_enter Try.func40, Try.ntmps40
  go_wp2_with (first | (go_at_call 45; refine (st_lines c _).mono ?_; rintro e w' ⟨rfl, ⟨⟨n0, os0⟩, rfl⟩⟩))
  try go_region
  all_goals go_wp2_with fail
  exact bodyPost_ret (v := .agg (S.pn true _ 1).cs) (ret_Pins Try.results40 rfl (by simp [go_sem, S.pn, S.Pn.cs]) rfl) rfl ⟨rfl, by (repeat (first | with_reducible exact Adds.refl _ | with_reducible apply Adds.drew | with_reducible apply Adds.drewN | with_reducible apply Adds.alloc | with_reducible apply Adds.more | (with_reducible refine Adds.setCell ?_ ?_ _) | (focus (simp [go_sem]; done)) | (focus (simp [go_sem]; omega))))⟩
set_option maxHeartbeats 1000000 in
theorem pins85_4 (x : S.It) (hk : x.k = 1) (w : World) : Calls Try.prog 40 #[.agg #[.int .i64 4, .int .u16 (x.a), .int .u8 ((S.tr x.c x.d 4)), .bool false, .bool false, .bool false, .bool false, .bool false, .bool false, .bool false, .bool false, .bool false, .bool false, .bool false, .bool false, .bool false, .bool false], .agg #[.int .i64 x.k, .int .i64 x.c, .int .u16 x.a, .int .u8 x.d, .int .i64 x.s, .int .i64 x.w, .int .i64 x.n, .bool x.e, .bool x.o]] w fun e w' => e = .returned (.agg (S.pn true x 4).cs) ∧ Adds w w' := by
  obtain ⟨k, c, a, d, s, ww, n, e, o⟩ := x
  obtain rfl : k = 1 := hk
  simp only []
  go_enter Try.func40, Try.ntmps40
  go_wp2_with (first | (go_at_call 45; refine (st_lines c _).mono ?_; rintro e w' ⟨rfl, ⟨⟨n0, os0⟩, rfl⟩⟩))
  try go_region
  all_goals go_wp2_with fail
  exact bodyPost_ret (v := .agg (S.pn true _ 4).cs) (ret_Pins Try.results40 rfl (by simp [go_sem, S.pn, S.Pn.cs, S.tr]) rfl) rfl ⟨rfl, by (repeat (first | with_reducible exact Adds.refl _ | with_reducible apply Adds.drew | with_reducible apply Adds.drewN | with_reducible apply Adds.alloc | with_reducible apply Adds.more | (with_reducible refine Adds.setCell ?_ ?_ _) | (focus (simp [go_sem]; done)) | (focus (simp [go_sem]; omega))))⟩
set_option maxHeartbeats 1000000 in
theorem pins85_5 (x : S.It) (hk : x.k = 1) (w : World) : Calls Try.prog 40 #[.agg #[.int .i64 5, .int .u16 (x.a), .int .u8 ((S.tr x.c x.d 5)), .bool false, .bool false, .bool false, .bool false, .bool false, .bool false, .bool false, .bool false, .bool false, .bool false, .bool false, .bool false, .bool false, .bool false], .agg #[.int .i64 x.k, .int .i64 x.c, .int .u16 x.a, .int .u8 x.d, .int .i64 x.s, .int .i64 x.w, .int .i64 x.n, .bool x.e, .bool x.o]] w fun e w' => e = .returned (.agg (S.pn true x 5).cs) ∧ Adds w w' := by
  obtain ⟨k, c, a, d, s, ww, n, e, o⟩ := x
  obtain rfl : k = 1 := hk
  simp only []
  go_enter Try.func40, Try.ntmps40
  go_wp2_with (first | (go_at_call 45; refine (st_lines c _).mono ?_; rintro e w' ⟨rfl, ⟨⟨n0, os0⟩, rfl⟩⟩))
  try go_region
  all_goals go_wp2_with fail
  exact bodyPost_ret (v := .agg (S.pn true _ 5).cs) (ret_Pins Try.results40 rfl (by simp [go_sem, S.pn, S.Pn.cs, S.tr]) rfl) rfl ⟨rfl, by (repeat (first | with_reducible exact Adds.refl _ | with_reducible apply Adds.drew | with_reducible apply Adds.drewN | with_reducible apply Adds.alloc | with_reducible apply Adds.more | (with_reducible refine Adds.setCell ?_ ?_ _) | (focus (simp [go_sem]; done)) | (focus (simp [go_sem]; omega))))⟩
set_option maxHeartbeats 1000000 in
theorem pins85_6 (x : S.It) (hk : x.k = 1) (w : World) : Calls Try.prog 40 #[.agg #[.int .i64 6, .int .u16 (x.a), .int .u8 ((S.tr x.c x.d 6)), .bool false, .bool false, .bool false, .bool false, .bool false, .bool false, .bool false, .bool false, .bool false, .bool false, .bool false, .bool false, .bool false, .bool false], .agg #[.int .i64 x.k, .int .i64 x.c, .int .u16 x.a, .int .u8 x.d, .int .i64 x.s, .int .i64 x.w, .int .i64 x.n, .bool x.e, .bool x.o]] w fun e w' => e = .returned (.agg (S.pn true x 6).cs) ∧ Adds w w' := by
  obtain ⟨k, c, a, d, s, ww, n, e, o⟩ := x
  obtain rfl : k = 1 := hk
  simp only []
  go_enter Try.func40, Try.ntmps40
  go_wp2_with (first | (go_at_call 45; refine (st_lines c _).mono ?_; rintro e w' ⟨rfl, ⟨⟨n0, os0⟩, rfl⟩⟩))
  try go_region
  all_goals go_wp2_with fail
  exact bodyPost_ret (v := .agg (S.pn true _ 6).cs) (ret_Pins Try.results40 rfl (by simp [go_sem, S.pn, S.Pn.cs, S.tr]) rfl) rfl ⟨rfl, by (repeat (first | with_reducible exact Adds.refl _ | with_reducible apply Adds.drew | with_reducible apply Adds.drewN | with_reducible apply Adds.alloc | with_reducible apply Adds.more | (with_reducible refine Adds.setCell ?_ ?_ _) | (focus (simp [go_sem]; done)) | (focus (simp [go_sem]; omega))))⟩
set_option maxHeartbeats 1000000 in
theorem pins85_8 (x : S.It) (hk : x.k = 2) (w : World) : Calls Try.prog 40 #[.agg #[.int .i64 8, .int .u16 (0), .int .u8 (0), .bool false, .bool false, .bool false, .bool false, .bool false, .bool false, .bool false, .bool false, .bool false, .bool false, .bool false, .bool false, .bool true, .bool true], .agg #[.int .i64 x.k, .int .i64 x.c, .int .u16 x.a, .int .u8 x.d, .int .i64 x.s, .int .i64 x.w, .int .i64 x.n, .bool x.e, .bool x.o]] w fun e w' => e = .returned (.agg (S.pn true x 8).cs) ∧ Adds w w' := by
  obtain ⟨k, c, a, d, s, ww, n, e, o⟩ := x
  obtain rfl : k = 2 := hk
  simp only []
  go_enter Try.func40, Try.ntmps40
  go_wp2_with (first | (go_at_call 45; refine (st_lines c _).mono ?_; rintro e w' ⟨rfl, ⟨⟨n0, os0⟩, rfl⟩⟩))
  try go_region
  all_goals go_wp2_with fail
  exact bodyPost_ret (v := .agg (S.pn true _ 8).cs) (ret_Pins Try.results40 rfl (by simp [go_sem, S.pn, S.Pn.cs]) rfl) rfl ⟨rfl, by (repeat (first | with_reducible exact Adds.refl _ | with_reducible apply Adds.drew | with_reducible apply Adds.drewN | with_reducible apply Adds.alloc | with_reducible apply Adds.more | (with_reducible refine Adds.setCell ?_ ?_ _) | (focus (simp [go_sem]; done)) | (focus (simp [go_sem]; omega))))⟩
set_option maxHeartbeats 1000000 in
theorem pins85_9 (x : S.It) (hk : x.k = 3) (w : World) : Calls Try.prog 40 #[.agg #[.int .i64 9, .int .u16 (0), .int .u8 (0), .bool false, .bool false, .bool false, .bool false, .bool false, .bool false, .bool false, .bool false, .bool false, .bool false, .bool false, .bool false, .bool false, .bool false], .agg #[.int .i64 x.k, .int .i64 x.c, .int .u16 x.a, .int .u8 x.d, .int .i64 x.s, .int .i64 x.w, .int .i64 x.n, .bool x.e, .bool x.o]] w fun e w' => e = .returned (.agg (S.pn true x 9).cs) ∧ Adds w w' := by
  obtain ⟨k, c, a, d, s, ww, n, e, o⟩ := x
  obtain rfl : k = 3 := hk
  simp only []
  go_enter Try.func40, Try.ntmps40
  go_wp2_with (first | (go_at_call 45; refine (st_lines c _).mono ?_; rintro e w' ⟨rfl, ⟨⟨n0, os0⟩, rfl⟩⟩))
  try go_region
  all_goals go_wp2_with fail
  exact bodyPost_ret (v := .agg (S.pn true _ 9).cs) (ret_Pins Try.results40 rfl (by simp [go_sem, S.pn, S.Pn.cs]) rfl) rfl ⟨rfl, by (repeat (first | with_reducible exact Adds.refl _ | with_reducible apply Adds.drew | with_reducible apply Adds.drewN | with_reducible apply Adds.alloc | with_reducible apply Adds.more | (with_reducible refine Adds.setCell ?_ ?_ _) | (focus (simp [go_sem]; done)) | (focus (simp [go_sem]; omega))))⟩
set_option maxHeartbeats 1000000 in
theorem pins85_10 (x : S.It) (hk : x.k = 4) (w : World) : Calls Try.prog 40 #[.agg #[.int .i64 10, .int .u16 (0), .int .u8 (0), .bool false, .bool false, .bool false, .bool false, .bool false, .bool false, .bool false, .bool false, .bool false, .bool false, .bool false, .bool false, .bool false, .bool false], .agg #[.int .i64 x.k, .int .i64 x.c, .int .u16 x.a, .int .u8 x.d, .int .i64 x.s, .int .i64 x.w, .int .i64 x.n, .bool x.e, .bool x.o]] w fun e w' => e = .returned (.agg (S.pn true x 10).cs) ∧ Adds w w' := by
  obtain ⟨k, c, a, d, s, ww, n, e, o⟩ := x
  obtain rfl : k = 4 := hk
  simp only []
  go_enter Try.func40, Try.ntmps40
  go_wp2_with (first | (go_at_call 45; refine (st_lines c _).mono ?_; rintro e w' ⟨rfl, ⟨⟨n0, os0⟩, rfl⟩⟩))
  try go_region
  all_goals go_wp2_with fail
  exact bodyPost_ret (v := .agg (S.pn true _ 10).cs) (ret_Pins Try.results40 rfl (by simp [go_sem, S.pn, S.Pn.cs]) rfl) rfl ⟨rfl, by (repeat (first | with_reducible exact Adds.refl _ | with_reducible apply Adds.drew | with_reducible apply Adds.drewN | with_reducible apply Adds.alloc | with_reducible apply Adds.more | (with_reducible refine Adds.setCell ?_ ?_ _) | (focus (simp [go_sem]; done)) | (focus (simp [go_sem]; omega))))⟩
set_option maxHeartbeats 1000000 in
theorem pins85_2 (x : S.It) (hk : x.k = 1) (w : World) : Calls Try.prog 40 #[.agg #[.int .i64 2, .int .u16 x.a, .int .u8 (S.tr x.c x.d 2), .bool false, .bool false, .bool false, .bool false, .bool false, .bool false, .bool false, .bool false, .bool false, .bool false, .bool false, .bool false, .bool false, .bool false], .agg #[.int .i64 x.k, .int .i64 x.c, .int .u16 x.a, .int .u8 x.d, .int .i64 x.s, .int .i64 x.w, .int .i64 x.n, .bool x.e, .bool x.o]] w fun e w' => e = .returned (.agg (S.pn true x 2).cs) ∧ Adds w w' := by
  obtain ⟨k, c, a, d, s, ww, n, e, o⟩ := x
  obtain rfl : k = 1 := hk
  simp only []
  by_cases h8 : c = 8
  · subst h8
    go_enter Try.func40, Try.ntmps40
    go_wp2_with (first | (go_at_call 45; refine (st_lines 8 _).mono ?_; rintro e w' ⟨rfl, ⟨⟨n0, os0⟩, rfl⟩⟩) | (go_at_call 43; refine (st_writes 8 _).mono ?_; rintro e w' ⟨rfl, ⟨⟨n1, os1⟩, rfl⟩⟩; rw [show S.stW 8 = false from rfl]) | (go_at_call 44; refine (st_reads 8 _).mono ?_; rintro e w' ⟨rfl, ⟨⟨n2, os2⟩, rfl⟩⟩; rw [show S.stR 8 = true from rfl]))
    exact bodyPost_ret (v := .agg (S.pn true _ 2).cs) (ret_Pins Try.results40 rfl (by simp [go_sem, S.pn, S.Pn.cs, show S.ack 8 = true from rfl, show S.stW 8 = false from rfl]) rfl) rfl ⟨rfl, by (repeat (first | with_reducible exact Adds.refl _ | with_reducible apply Adds.drew | with_reducible apply Adds.drewN | with_reducible apply Adds.alloc | with_reducible apply Adds.more | (with_reducible refine Adds.setCell ?_ ?_ _) | (focus (simp [go_sem]; done)) | (focus (simp [go_sem]; omega))))⟩
  by_cases h9 : c = 9
  · subst h9
    go_enter Try.func40, Try.ntmps40
    go_wp2_with (first | (go_at_call 45; refine (st_lines 9 _).mono ?_; rintro e w' ⟨rfl, ⟨⟨n0, os0⟩, rfl⟩⟩) | (go_at_call 43; refine (st_writes 9 _).mono ?_; rintro e w' ⟨rfl, ⟨⟨n1, os1⟩, rfl⟩⟩; rw [show S.stW 9 = false from rfl]) | (go_at_call 44; refine (st_reads 9 _).mono ?_; rintro e w' ⟨rfl, ⟨⟨n2, os2⟩, rfl⟩⟩; rw [show S.stR 9 = true from rfl]))
    exact bodyPost_ret (v := .agg (S.pn true _ 2).cs) (ret_Pins Try.results40 rfl (by simp [go_sem, S.pn, S.Pn.cs, show S.ack 9 = true from rfl, show S.stW 9 = false from rfl]) rfl) rfl ⟨rfl, by (repeat (first | with_reducible exact Adds.refl _ | with_reducible apply Adds.drew | with_reducible apply Adds.drewN | with_reducible apply Adds.alloc | with_reducible apply Adds.more | (with_reducible refine Adds.setCell ?_ ?_ _) | (focus (simp [go_sem]; done)) | (focus (simp [go_sem]; omega))))⟩
  · have hA : S.ack c = false := by simp [S.ack, h8, h9]
    have g8 : (c == 8) = false := by simpa using h8
    have g9 : (c == 9) = false := by simpa using h9
    clear h8 h9
    cases hR : S.stR c
    all_goals
      go_enter Try.func40, Try.ntmps40
      go_wp2_with (first | (go_at_call 45; refine (st_lines c _).mono ?_; rintro e w' ⟨rfl, ⟨⟨n0, os0⟩, rfl⟩⟩) | (go_at_call 43; refine (st_writes c _).mono ?_; rintro e w' ⟨rfl, ⟨⟨n1, os1⟩, rfl⟩⟩) | (go_at_call 44; refine (st_reads c _).mono ?_; rintro e w' ⟨rfl, ⟨⟨n2, os2⟩, rfl⟩⟩; rw [hR]))
      exact bodyPost_ret (v := .agg (S.pn true _ 2).cs) (ret_Pins Try.results40 rfl (by simp [go_sem, S.pn, S.Pn.cs, hA, hR]) rfl) rfl ⟨rfl, by (repeat (first | with_reducible exact Adds.refl _ | with_reducible apply Adds.drew | with_reducible apply Adds.drewN | with_reducible apply Adds.alloc | with_reducible apply Adds.more | (with_reducible refine Adds.setCell ?_ ?_ _) | (focus (simp [go_sem]; done)) | (focus (simp [go_sem]; omega))))⟩
set_option maxHeartbeats 1000000 in
theorem pins85_3 (x : S.It) (hk : x.k = 1) (w : World) : Calls Try.prog 40 #[.agg #[.int .i64 3, .int .u16 x.a, .int .u8 (S.tr x.c x.d 3), .bool false, .bool false, .bool false, .bool false, .bool false, .bool false, .bool false, .bool false, .bool false, .bool false, .bool false, .bool false, .bool false, .bool false], .agg #[.int .i64 x.k, .int .i64 x.c, .int .u16 x.a, .int .u8 x.d, .int .i64 x.s, .int .i64 x.w, .int .i64 x.n, .bool x.e, .bool x.o]] w fun e w' => e = .returned (.agg (S.pn true x 3).cs) ∧ Adds w w' := by
  obtain ⟨k, c, a, d, s, ww, n, e, o⟩ := x
  obtain rfl : k = 1 := hk
  simp only []
  by_cases h8 : c = 8
  · subst h8
    go_enter Try.func40, Try.ntmps40
    go_wp2_with (first | (go_at_call 45; refine (st_lines 8 _).mono ?_; rintro e w' ⟨rfl, ⟨⟨n0, os0⟩, rfl⟩⟩) | (go_at_call 43; refine (st_writes 8 _).mono ?_; rintro e w' ⟨rfl, ⟨⟨n1, os1⟩, rfl⟩⟩; rw [show S.stW 8 = false from rfl]) | (go_at_call 44; refine (st_reads 8 _).mono ?_; rintro e w' ⟨rfl, ⟨⟨n2, os2⟩, rfl⟩⟩; rw [show S.stR 8 = true from rfl]))
    exact bodyPost_ret (v := .agg (S.pn true _ 3).cs) (ret_Pins Try.results40 rfl (by simp [go_sem, S.pn, S.Pn.cs, show S.ack 8 = true from rfl, show S.stW 8 = false from rfl]) rfl) rfl ⟨rfl, by (repeat (first | with_reducible exact Adds.refl _ | with_reducible apply Adds.drew | with_reducible apply Adds.drewN | with_reducible apply Adds.alloc | with_reducible apply Adds.more | (with_reducible refine Adds.setCell ?_ ?_ _) | (focus (simp [go_sem]; done)) | (focus (simp [go_sem]; omega))))⟩
  by_cases h9 : c = 9
  · subst h9
    go_enter Try.func40, Try.ntmps40
    go_wp2_with (first | (go_at_call 45; refine (st_lines 9 _).mono ?_; rintro e w' ⟨rfl, ⟨⟨n0, os0⟩, rfl⟩⟩) | (go_at_call 43; refine (st_writes 9 _).mono ?_; rintro e w' ⟨rfl, ⟨⟨n1, os1⟩, rfl⟩⟩; rw [show S.stW 9 = false from rfl]) | (go_at_call 44; refine (st_reads 9 _).mono ?_; rintro e w' ⟨rfl, ⟨⟨n2, os2⟩, rfl⟩⟩; rw [show S.stR 9 = true from rfl]))
    exact bodyPost_ret (v := .agg (S.pn true _ 3).cs) (ret_Pins Try.results40 rfl (by simp [go_sem, S.pn, S.Pn.cs, show S.ack 9 = true from rfl, show S.stW 9 = false from rfl]) rfl) rfl ⟨rfl, by (repeat (first | with_reducible exact Adds.refl _ | with_reducible apply Adds.drew | with_reducible apply Adds.drewN | with_reducible apply Adds.alloc | with_reducible apply Adds.more | (with_reducible refine Adds.setCell ?_ ?_ _) | (focus (simp [go_sem]; done)) | (focus (simp [go_sem]; omega))))⟩
  · have hA : S.ack c = false := by simp [S.ack, h8, h9]
    have g8 : (c == 8) = false := by simpa using h8
    have g9 : (c == 9) = false := by simpa using h9
    clear h8 h9
    cases hR : S.stR c
    all_goals
      go_enter Try.func40, Try.ntmps40
      go_wp2_with (first | (go_at_call 45; refine (st_lines c _).mono ?_; rintro e w' ⟨rfl, ⟨⟨n0, os0⟩, rfl⟩⟩) | (go_at_call 43; refine (st_writes c _).mono ?_; rintro e w' ⟨rfl, ⟨⟨n1, os1⟩, rfl⟩⟩) | (go_at_call 44; refine (st_reads c _).mono ?_; rintro e w' ⟨rfl, ⟨⟨n2, os2⟩, rfl⟩⟩; rw [hR]))
      exact bodyPost_ret (v := .agg (S.pn true _ 3).cs) (ret_Pins Try.results40 rfl (by simp [go_sem, S.pn, S.Pn.cs, hA, hR]) rfl) rfl ⟨rfl, by (repeat (first | with_reducible exact Adds.refl _ | with_reducible apply Adds.drew | with_reducible apply Adds.drewN | with_reducible apply Adds.alloc | with_reducible apply Adds.more | (with_reducible refine Adds.setCell ?_ ?_ _) | (focus (simp [go_sem]; done)) | (focus (simp [go_sem]; omega))))⟩
set_option maxHeartbeats 1000000 in
theorem pins85_7 (x : S.It) (hk : x.k = 1) (w : World) : Calls Try.prog 40 #[.agg #[.int .i64 7, .int .u16 x.a, .int .u8 (S.tr x.c x.d 7), .bool false, .bool false, .bool false, .bool false, .bool false, .bool false, .bool false, .bool false, .bool false, .bool false, .bool false, .bool false, .bool false, .bool false], .agg #[.int .i64 x.k, .int .i64 x.c, .int .u16 x.a, .int .u8 x.d, .int .i64 x.s, .int .i64 x.w, .int .i64 x.n, .bool x.e, .bool x.o]] w fun e w' => e = .returned (.agg (S.pn true x 7).cs) ∧ Adds w w' := by
  obtain ⟨k, c, a, d, s, ww, n, e, o⟩ := x
  obtain rfl : k = 1 := hk
  simp only []
  by_cases h8 : c = 8
  · subst h8
    go_enter Try.func40, Try.ntmps40
    go_wp2_with (first | (go_at_call 45; refine (st_lines 8 _).mono ?_; rintro e w' ⟨rfl, ⟨⟨n0, os0⟩, rfl⟩⟩) | (go_at_call 43; refine (st_writes 8 _).mono ?_; rintro e w' ⟨rfl, ⟨⟨n1, os1⟩, rfl⟩⟩; rw [show S.stW 8 = false from rfl]) | (go_at_call 44; refine (st_reads 8 _).mono ?_; rintro e w' ⟨rfl, ⟨⟨n2, os2⟩, rfl⟩⟩; rw [show S.stR 8 = true from rfl]))
    exact bodyPost_ret (v := .agg (S.pn true _ 7).cs) (ret_Pins Try.results40 rfl (by simp [go_sem, S.pn, S.Pn.cs, show S.ack 8 = true from rfl, show S.stW 8 = false from rfl]) rfl) rfl ⟨rfl, by (repeat (first | with_reducible exact Adds.refl _ | with_reducible apply Adds.drew | with_reducible apply Adds.drewN | with_reducible apply Adds.alloc | with_reducible apply Adds.more | (with_reducible refine Adds.setCell ?_ ?_ _) | (focus (simp [go_sem]; done)) | (focus (simp [go_sem]; omega))))⟩
  by_cases h9 : c = 9
  · subst h9
    go_enter Try.func40, Try.ntmps40
    go_wp2_with (first | (go_at_call 45; refine (st_lines 9 _).mono ?_; rintro e w' ⟨rfl, ⟨⟨n0, os0⟩, rfl⟩⟩) | (go_at_call 43; refine (st_writes 9 _).mono ?_; rintro e w' ⟨rfl, ⟨⟨n1, os1⟩, rfl⟩⟩; rw [show S.stW 9 = false from rfl]) | (go_at_call 44; refine (st_reads 9 _).mono ?_; rintro e w' ⟨rfl, ⟨⟨n2, os2⟩, rfl⟩⟩; rw [show S.stR 9 = true from rfl]))
    exact bodyPost_ret (v := .agg (S.pn true _ 7).cs) (ret_Pins Try.results40 rfl (by simp [go_sem, S.pn, S.Pn.cs, show S.ack 9 = true from rfl, show S.stW 9 = false from rfl]) rfl) rfl ⟨rfl, by (repeat (first | with_reducible exact Adds.refl _ | with_reducible apply Adds.drew | with_reducible apply Adds.drewN | with_reducible apply Adds.alloc | with_reducible apply Adds.more | (with_reducible refine Adds.setCell ?_ ?_ _) | (focus (simp [go_sem]; done)) | (focus (simp [go_sem]; omega))))⟩
  · have hA : S.ack c = false := by simp [S.ack, h8, h9]
    have g8 : (c == 8) = false := by simpa using h8
    have g9 : (c == 9) = false := by simpa using h9
    clear h8 h9
    cases hR : S.stR c
    all_goals
      go_enter Try.func40, Try.ntmps40
      go_wp2_with (first | (go_at_call 45; refine (st_lines c _).mono ?_; rintro e w' ⟨rfl, ⟨⟨n0, os0⟩, rfl⟩⟩) | (go_at_call 43; refine (st_writes c _).mono ?_; rintro e w' ⟨rfl, ⟨⟨n1, os1⟩, rfl⟩⟩) | (go_at_call 44; refine (st_reads c _).mono ?_; rintro e w' ⟨rfl, ⟨⟨n2, os2⟩, rfl⟩⟩; rw [hR]))
      exact bodyPost_ret (v := .agg (S.pn true _ 7).cs) (ret_Pins Try.results40 rfl (by simp [go_sem, S.pn, S.Pn.cs, hA, hR]) rfl) rfl ⟨rfl, by (repeat (first | with_reducible exact Adds.refl _ | with_reducible apply Adds.drew | with_reducible apply Adds.drewN | with_reducible apply Adds.alloc | with_reducible apply Adds.more | (with_reducible refine Adds.setCell ?_ ?_ _) | (focus (simp [go_sem]; done)) | (focus (simp [go_sem]; omega))))⟩
end Go.Proofs.Ytfhnfakjjfjohaa
