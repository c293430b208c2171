/- Contracts of the pins of a state, continued: pins8080. Condition: the state is one that items of this kind have. -/
import Derived.Test.YtfhnfakjjfjohaaC26a
namespace Go.Proofs.Ytfhnfakjjfjohaa
open Go.ChangeShapes Go.WideShapes Go.ChangeAt Go.RowKit
set_option linter.unusedVariables false
set_option maxHeartbeats 1000000 in
theorem pins80_2 (x : S.It) (hk : x.k = 1) (w : World) : Calls Try.prog 41 #[.agg #[.int .i64 2, .int .u16 (x.a), .int .u8 ((S.tr x.c x.d 2)), .bool false, .bool false, .bool false, .bool false, .bool false, .bool false, .bool false, .bool false, .bool false, .bool false, .bool false, .bool false, .bool false, .bool false], .agg #[.int .i64 x.k, .int .i64 x.c, .int .u16 x.a, .int .u8 x.d, .int .i64 x.s, .int .i64 x.w, .int .i64 x.n, .bool x.e, .bool x.o]] w fun e w' => e = .returned (.agg (S.pn false x 2).cs) ∧ Adds w w' := by
  obtain ⟨k, c, a, d, s, ww, n, e, o⟩ := x
  obtain rfl : k = 1 := hk
  simp only []
  go_enter Try.func41, Try.ntmps41
  go_wp2_with (first | (go_at_call 43; refine (st_writes c _).mono ?_; rintro e w' ⟨rfl, ⟨⟨n1, os1⟩, rfl⟩⟩) | (go_at_call 44; refine (st_reads c _).mono ?_; rintro e w' ⟨rfl, ⟨⟨n2, os2⟩, rfl⟩⟩))
  exact bodyPost_ret (v := .agg (S.pn false _ 2).cs) (ret_Pins Try.results41 rfl (by simp [go_sem, S.pn, S.Pn.cs, S.tr]) rfl) rfl ⟨rfl, by (repeat (first | with_reducible exact Adds.refl _ | with_reducible apply Adds.drew | with_reducible apply Adds.drewN | with_reducible apply Adds.alloc | with_reducible apply Adds.more | (with_reducible refine Adds.setCell ?_ ?_ _) | (focus (simp [go_sem]; done)) | (focus (simp [go_sem]; omega))))⟩
set_option maxHeartbeats 1000000 in
theorem pins80_3 (x : S.It) (hk : x.k = 1) (w : World) : Calls Try.prog 41 #[.agg #[.int .i64 3, .int .u16 (x.a), .int .u8 ((S.tr x.c x.d 3)), .bool false, .bool false, .bool false, .bool false, .bool false, .bool false, .bool false, .bool false, .bool false, .bool false, .bool false, .bool false, .bool false, .bool false], .agg #[.int .i64 x.k, .int .i64 x.c, .int .u16 x.a, .int .u8 x.d, .int .i64 x.s, .int .i64 x.w, .int .i64 x.n, .bool x.e, .bool x.o]] w fun e w' => e = .returned (.agg (S.pn false x 3).cs) ∧ Adds w w' := by
  obtain ⟨k, c, a, d, s, ww, n, e, o⟩ := x
  obtain rfl : k = 1 := hk
  simp only []
  go_enter Try.func41, Try.ntmps41
  go_wp2_with (first | (go_at_call 43; refine (st_writes c _).mono ?_; rintro e w' ⟨rfl, ⟨⟨n1, os1⟩, rfl⟩⟩) | (go_at_call 44; refine (st_reads c _).mono ?_; rintro e w' ⟨rfl, ⟨⟨n2, os2⟩, rfl⟩⟩))
  exact bodyPost_ret (v := .agg (S.pn false _ 3).cs) (ret_Pins Try.results41 rfl (by simp [go_sem, S.pn, S.Pn.cs, S.tr]) rfl) rfl ⟨rfl, by (repeat (first | with_reducible exact Adds.refl _ | with_reducible apply Adds.drew | with_reducible apply Adds.drewN | with_reducible apply Adds.alloc | with_reducible apply Adds.more | (with_reducible refine Adds.setCell ?_ ?_ _) | (focus (simp [go_sem]; done)) | (focus (simp [go_sem]; omega))))⟩
set_option maxHeartbeats 1000000 in
theorem pins80_4 (x : S.It) (hk : x.k = 1) (w : World) : Calls Try.prog 41 #[.agg #[.int .i64 4, .int .u16 (x.a), .int .u8 ((S.tr x.c x.d 4)), .bool false, .bool false, .bool false, .bool false, .bool false, .bool false, .bool false, .bool false, .bool false, .bool false, .bool false, .bool false, .bool false, .bool false], .agg #[.int .i64 x.k, .int .i64 x.c, .int .u16 x.a, .int .u8 x.d, .int .i64 x.s, .int .i64 x.w, .int .i64 x.n, .bool x.e, .bool x.o]] w fun e w' => e = .returned (.agg (S.pn false x 4).cs) ∧ Adds w w' := by
  obtain ⟨k, c, a, d, s, ww, n, e, o⟩ := x
  obtain rfl : k = 1 := hk
  simp only []
  go_enter Try.func41, Try.ntmps41
  go_wp2_with (first | (go_at_call 43; refine (st_writes c _).mono ?_; rintro e w' ⟨rfl, ⟨⟨n1, os1⟩, rfl⟩⟩) | (go_at_call 44; refine (st_reads c _).mono ?_; rintro e w' ⟨rfl, ⟨⟨n2, os2⟩, rfl⟩⟩))
  exact bodyPost_ret (v := .agg (S.pn false _ 4).cs) (ret_Pins Try.results41 rfl (by simp [go_sem, S.pn, S.Pn.cs, S.tr]) rfl) rfl ⟨rfl, by (repeat (first | with_reducible exact Adds.refl _ | with_reducible apply Adds.drew | with_reducible apply Adds.drewN | with_reducible apply Adds.alloc | with_reducible apply Adds.more | (with_reducible refine Adds.setCell ?_ ?_ _) | (focus (simp [go_sem]; done)) | (focus (simp [go_sem]; omega))))⟩
set_option maxHeartbeats 1000000 in
theorem pins80_5 (x : S.It) (hk : x.k = 1) (w : World) : Calls Try.prog 41 #[.agg #[.int .i64 5, .int .u16 (x.a), .int .u8 ((S.tr x.c x.d 5)), .bool false, .bool false, .bool false, .bool false, .bool false, .bool false, .bool false, .bool false, .bool false, .bool false, .bool false, .bool false, .bool false, .bool false], .agg #[.int .i64 x.k, .int .i64 x.c, .int .u16 x.a, .int .u8 x.d, .int .i64 x.s, .int .i64 x.w, .int .i64 x.n, .bool x.e, .bool x.o]] w fun e w' => e = .returned (.agg (S.pn false x 5).cs) ∧ Adds w w' := by
  obtain ⟨k, c, a, d, s, ww, n, e, o⟩ := x
  obtain rfl : k = 1 := hk
  simp only []
  go_enter Try.func41, Try.ntmps41
  go_wp2_with (first | (go_at_call 43; refine (st_writes c _).mono ?_; rintro e w' ⟨rfl, ⟨⟨n1, os1⟩, rfl⟩⟩) | (go_at_call 44; refine (st_reads c _).mono ?_; rintro e w' ⟨rfl, ⟨⟨n2, os2⟩, rfl⟩⟩))
  exact bodyPost_ret (v := .agg (S.pn false _ 5).cs) (ret_Pins Try.results41 rfl (by simp [go_sem, S.pn, S.Pn.cs, S.tr]) rfl) rfl ⟨rfl, by (repeat (first | with_reducible exact Adds.refl _ | with_reducible apply Adds.drew | with_reducible apply Adds.drewN | with_reducible apply Adds.alloc | with_reducible apply Adds.more | (with_reducible refine Adds.setCell ?_ ?_ _) | (focus (simp [go_sem]; done)) | (focus (simp [go_sem]; omega))))⟩
set_option maxHeartbeats 1000000 in
theorem pins80_6 (x : S.It) (hk : x.k = 1) (w : World) : Calls Try.prog 41 #[.agg #[.int .i64 6, .int .u16 (x.a), .int .u8 ((S.tr x.c x.d 6)), .bool false, .bool false, .bool false, .bool false, .bool false, .bool false, .bool false, .bool false, .bool false, .bool false, .bool false, .bool false, .bool false, .bool false], .agg #[.int .i64 x.k, .int .i64 x.c, .int .u16 x.a, .int .u8 x.d, .int .i64 x.s, .int .i64 x.w, .int .i64 x.n, .bool x.e, .bool x.o]] w fun e w' => e = .returned (.agg (S.pn false x 6).cs) ∧ Adds w w' := by
  obtain ⟨k, c, a, d, s, ww, n, e, o⟩ := x
  obtain rfl : k = 1 := hk
  simp only []
  go_enter Try.func41, Try.ntmps41
  go_wp2_with (first | (go_at_call 43; refine (st_writes c _).mono ?_; rintro e w' ⟨rfl, ⟨⟨n1, os1⟩, rfl⟩⟩) | (go_at_call 44; refine (st_reads c _).mono ?_; rintro e w' ⟨rfl, ⟨⟨n2, os2⟩, rfl⟩⟩))
  exact bodyPost_ret (v := .agg (S.pn false _ 6).cs) (ret_Pins Try.results41 rfl (by simp [go_sem, S.pn, S.Pn.cs, S.tr]) rfl) rfl ⟨rfl, by (repeat (first | with_reducible exact Adds.refl _ | with_reducible apply Adds.drew | with_reducible apply Adds.drewN | with_reducible apply Adds.alloc | with_reducible apply Adds.more | (with_reducible refine Adds.setCell ?_ ?_ _) | (focus (simp [go_sem]; done)) | (focus (simp [go_sem]; omega))))⟩
set_option maxHeartbeats 1000000 in
theorem pins80_7 (x : S.It) (hk : x.k = 1) (w : World) : Calls Try.prog 41 #[.agg #[.int .i64 7, .int .u16 (x.a), .int .u8 ((S.tr x.c x.d 7)), .bool false, .bool false, .bool false, .bool false, .bool false, .bool false, .bool false, .bool false, .bool false, .bool false, .bool false, .bool false, .bool false, .bool false], .agg #[.int .i64 x.k, .int .i64 x.c, .int .u16 x.a, .int .u8 x.d, .int .i64 x.s, .int .i64 x.w, .int .i64 x.n, .bool x.e, .bool x.o]] w fun e w' => e = .returned (.agg (S.pn false x 7).cs) ∧ Adds w w' := by
  obtain ⟨k, c, a, d, s, ww, n, e, o⟩ := x
  obtain rfl : k = 1 := hk
  simp only []
  go_enter Try.func41, Try.ntmps41
  go_wp2_with (first | (go_at_call 43; refine (st_writes c _).mono ?_; rintro e w' ⟨rfl, ⟨⟨n1, os1⟩, rfl⟩⟩) | (go_at_call 44; refine (st_reads c _).mono ?_; rintro e w' ⟨rfl, ⟨⟨n2, os2⟩, rfl⟩⟩))
  exact bodyPost_ret (v := .agg (S.pn false _ 7).cs) (ret_Pins Try.results41 rfl (by simp [go_sem, S.pn, S.Pn.cs, S.tr]) rfl) rfl ⟨rfl, by (repeat (first | with_reducible exact Adds.refl _ | with_reducible apply Adds.drew | with_reducible apply Adds.drewN | with_reducible apply Adds.alloc | with_reducible apply Adds.more | (with_reducible refine Adds.setCell ?_ ?_ _) | (focus (simp [go_sem]; done)) | (focus (simp [go_sem]; omega))))⟩
set_option maxHeartbeats 1000000 in
theorem pins80_8 (x : S.It) (hk : x.k = 2) (w : World) : Calls Try.prog 41 #[.agg #[.int .i64 8, .int .u16 (0), .int .u8 (0), .bool false, .bool false, .bool false, .bool false, .bool false, .bool false, .bool false, .bool false, .bool false, .bool false, .bool false, .bool false, .bool true, .bool true], .agg #[.int .i64 x.k, .int .i64 x.c, .int .u16 x.a, .int .u8 x.d, .int .i64 x.s, .int .i64 x.w, .int .i64 x.n, .bool x.e, .bool x.o]] w fun e w' => e = .returned (.agg (S.pn false x 8).cs) ∧ Adds w w' := by
  obtain ⟨k, c, a, d, s, ww, n, e, o⟩ := x
  obtain rfl : k = 2 := hk
  simp only []
  go_enter Try.func41, Try.ntmps41
  go_wp2_with (first | (go_at_call 43; refine (st_writes c _).mono ?_; rintro e w' ⟨rfl, ⟨⟨n1, os1⟩, rfl⟩⟩) | (go_at_call 44; refine (st_reads c _).mono ?_; rintro e w' ⟨rfl, ⟨⟨n2, os2⟩, rfl⟩⟩))
  exact bodyPost_ret (v := .agg (S.pn false _ 8).cs) (ret_Pins Try.results41 rfl (by simp [go_sem, S.pn, S.Pn.cs]) rfl) rfl ⟨rfl, by (repeat (first | with_reducible exact Adds.refl _ | with_reducible apply Adds.drew | with_reducible apply Adds.drewN | with_reducible apply Adds.alloc | with_reducible apply Adds.more | (with_reducible refine Adds.setCell ?_ ?_ _) | (focus (simp [go_sem]; done)) | (focus (simp [go_sem]; omega))))⟩
set_option maxHeartbeats 1000000 in
theorem pins80_9 (x : S.It) (hk : x.k = 3) (w : World) : Calls Try.prog 41 #[.agg #[.int .i64 9, .int .u16 (0), .int .u8 (0), .bool false, .bool false, .bool false, .bool false, .bool false, .bool false, .bool false, .bool false, .bool false, .bool false, .bool false, .bool false, .bool false, .bool false], .agg #[.int .i64 x.k, .int .i64 x.c, .int .u16 x.a, .int .u8 x.d, .int .i64 x.s, .int .i64 x.w, .int .i64 x.n, .bool x.e, .bool x.o]] w fun e w' => e = .returned (.agg (S.pn false x 9).cs) ∧ Adds w w' := by
  obtain ⟨k, c, a, d, s, ww, n, e, o⟩ := x
  obtain rfl : k = 3 := hk
  simp only []
  go_enter Try.func41, Try.ntmps41
  go_wp2_with (first | (go_at_call 43; refine (st_writes c _).mono ?_; rintro e w' ⟨rfl, ⟨⟨n1, os1⟩, rfl⟩⟩) | (go_at_call 44; refine (st_reads c _).mono ?_; rintro e w' ⟨rfl, ⟨⟨n2, os2⟩, rfl⟩⟩))
  exact bodyPost_ret (v := .agg (S.pn false _ 9).cs) (ret_Pins Try.results41 rfl (by simp [go_sem, S.pn, S.Pn.cs]) rfl) rfl ⟨rfl, by (repeat (first | with_reducible exact Adds.refl _ | with_reducible apply Adds.drew | with_reducible apply Adds.drewN | with_reducible apply Adds.alloc | with_reducible apply Adds.more | (with_reducible refine Adds.setCell ?_ ?_ _) | (focus (simp [go_sem]; done)) | (focus (simp [go_sem]; omega))))⟩
set_option maxHeartbeats 1000000 in
theorem pins80_10 (x : S.It) (hk : x.k = 4) (w : World) : Calls Try.prog 41 #[.agg #[.int .i64 10, .int .u16 (0), .int .u8 (0), .bool false, .bool false, .bool false, .bool false, .bool false, .bool false, .bool false, .bool false, .bool false, .bool false, .bool false, .bool false, .bool false, .bool false], .agg #[.int .i64 x.k, .int .i64 x.c, .int .u16 x.a, .int .u8 x.d, .int .i64 x.s, .int .i64 x.w, .int .i64 x.n, .bool x.e, .bool x.o]] w fun e w' => e = .returned (.agg (S.pn false x 10).cs) ∧ Adds w w' := by
  obtain ⟨k, c, a, d, s, ww, n, e, o⟩ := x
  obtain rfl : k = 4 := hk
  simp only []
  go_enter Try.func41, Try.ntmps41
  go_wp2_with (first | (go_at_call 43; refine (st_writes c _).mono ?_; rintro e w' ⟨rfl, ⟨⟨n1, os1⟩, rfl⟩⟩) | (go_at_call 44; refine (st_reads c _).mono ?_; rintro e w' ⟨rfl, ⟨⟨n2, os2⟩, rfl⟩⟩))
  exact bodyPost_ret (v := .agg (S.pn false _ 10).cs) (ret_Pins Try.results41 rfl (by simp [go_sem, S.pn, S.Pn.cs]) rfl) rfl ⟨rfl, by (repeat (first | with_reducible exact Adds.refl _ | with_reducible apply Adds.drew | with_reducible apply Adds.drewN | with_reducible apply Adds.alloc | with_reducible apply Adds.more | (with_reducible refine Adds.setCell ?_ ?_ _) | (focus (simp [go_sem]; done)) | (focus (simp [go_sem]; omega))))⟩
set_option maxHeartbeats 1000000 in
theorem pins80_1 (x : S.It) (hk : x.k = 1) (w : World) : Calls Try.prog 41 #[.agg #[.int .i64 1, .int .u16 x.a, .int .u8 (S.tr x.c x.d 1), .bool false, .bool false, .bool false, .bool false, .bool false, .bool false, .bool false, .bool false, .bool false, .bool false, .bool false, .bool false, .bool false, .bool false], .agg #[.int .i64 x.k, .int .i64 x.c, .int .u16 x.a, .int .u8 x.d, .int .i64 x.s, .int .i64 x.w, .int .i64 x.n, .bool x.e, .bool x.o]] w fun e w' => e = .returned (.agg (S.pn false x 1).cs) ∧ Adds w w' := by
  obtain ⟨k, c, a, d, s, ww, n, e, o⟩ := x
  obtain rfl : k = 1 := hk
  simp only []
  by_cases h11 : c = 11
  · subst h11
    go_enter Try.func41, Try.ntmps41
    go_wp2_with (first | (go_at_call 43; refine (st_writes 11 _).mono ?_; rintro e w' ⟨rfl, ⟨⟨n1, os1⟩, rfl⟩⟩) | (go_at_call 44; refine (st_reads 11 _).mono ?_; rintro e w' ⟨rfl, ⟨⟨n2, os2⟩, rfl⟩⟩) | (go_at_call 46; refine (st_byte 11 _).mono ?_; rintro e w' ⟨rfl, ⟨⟨n2, os2⟩, rfl⟩⟩))
    exact bodyPost_ret (v := .agg (S.pn false _ 1).cs) (ret_Pins Try.results41 rfl (by simp [go_sem, S.pn, S.Pn.cs]) rfl) rfl ⟨rfl, by (repeat (first | with_reducible exact Adds.refl _ | with_reducible apply Adds.drew | with_reducible apply Adds.drewN | with_reducible apply Adds.alloc | with_reducible apply Adds.more | (with_reducible refine Adds.setCell ?_ ?_ _) | (focus (simp [go_sem]; done)) | (focus (simp [go_sem]; omega))))⟩
  by_cases h12 : c = 12
  · subst h12
    go_enter Try.func41, Try.ntmps41
    go_wp2_with (first | (go_at_call 43; refine (st_writes 12 _).mono ?_; rintro e w' ⟨rfl, ⟨⟨n1, os1⟩, rfl⟩⟩) | (go_at_call 44; refine (st_reads 12 _).mono ?_; rintro e w' ⟨rfl, ⟨⟨n2, os2⟩, rfl⟩⟩) | (go_at_call 46; refine (st_byte 12 _).mono ?_; rintro e w' ⟨rfl, ⟨⟨n2, os2⟩, rfl⟩⟩))
    exact bodyPost_ret (v := .agg (S.pn false _ 1).cs) (ret_Pins Try.results41 rfl (by simp [go_sem, S.pn, S.Pn.cs]) rfl) rfl ⟨rfl, by (repeat (first | with_reducible exact Adds.refl _ | with_reducible apply Adds.drew | with_reducible apply Adds.drewN | with_reducible apply Adds.alloc | with_reducible apply Adds.more | (with_reducible refine Adds.setCell ?_ ?_ _) | (focus (simp [go_sem]; done)) | (focus (simp [go_sem]; omega))))⟩
  · have g11 : (c != 11) = true := by simpa using h11
    have g12 : (c != 12) = true := by simpa using h12
    clear h11 h12
    go_enter Try.func41, Try.ntmps41
    go_wp2_with (first | (go_at_call 43; refine (st_writes c _).mono ?_; rintro e w' ⟨rfl, ⟨⟨n1, os1⟩, rfl⟩⟩) | (go_at_call 44; refine (st_reads c _).mono ?_; rintro e w' ⟨rfl, ⟨⟨n2, os2⟩, rfl⟩⟩) | (go_at_call 46; refine (st_byte c _).mono ?_; rintro e w' ⟨rfl, ⟨⟨n2, os2⟩, rfl⟩⟩))
    exact bodyPost_ret (v := .agg (S.pn false _ 1).cs) (ret_Pins Try.results41 rfl (by simp [go_sem, S.pn, S.Pn.cs, g11, g12]) rfl) rfl ⟨rfl, by (repeat (first | with_reducible exact Adds.refl _ | with_reducible apply Adds.drew | with_reducible apply Adds.drewN | with_reducible apply Adds.alloc | with_reducible apply Adds.more | (with_reducible refine Adds.setCell ?_ ?_ _) | (focus (simp [go_sem]; done)) | (focus (simp [go_sem]; omega))))⟩
end Go.Proofs.Ytfhnfakjjfjohaa
