/- Contract of pinsOf. Condition: the state is one that items of this kind have. -/
import Derived.Test.YtfhnfakjjfjohaaC26b
import Derived.Test.YtfhnfakjjfjohaaC26c
namespace Go.Proofs.Ytfhnfakjjfjohaa
open Go.ChangeShapes Go.WideShapes Go.ChangeAt Go.RowKit
set_option linter.unusedVariables false
set_option maxHeartbeats 1000000 in
theorem pinsOf_1 (ch : Int) (x : S.It) (hk : x.k = 1) (w : World) : Calls Try.prog 32 #[.int .i64 ch, .agg #[.int .i64 x.k, .int .i64 x.c, .int .u16 x.a, .int .u8 x.d, .int .i64 x.s, .int .i64 x.w, .int .i64 x.n, .bool x.e, .bool x.o], .int .i64 1] w fun e w' => e = .returned (.agg (S.pn (ch == 2) x 1).cs) ∧ Adds w w' := by
  have H5 := Lib.hid (pins85_1 x hk)
  have H0 := Lib.hid (pins80_1 x hk)
  obtain ⟨k, c, a, d, s, ww, n, e, o⟩ := x
  obtain rfl : k = 1 := hk
  simp only [] at H5 H0 ⊢
  by_cases h2 : ch = 2
  · subst h2
    rw [show ((2 : Int) == 2) = true from rfl]
    go_enter Try.func32, Try.ntmps32
    go_wp2_with fail
    try go_region_with (go_at_call 39; refine (transferred_1 c a d s _).mono ?_; rintro e w' ⟨rfl, ⟨⟨n1, os1⟩, rfl⟩⟩)
    all_goals
      go_wp2_with (go_at_call 40; refine (H5.out _).mono ?_; rintro e w' ⟨rfl, ⟨⟨n2, os2⟩, rfl⟩⟩; simp only [S.Pn.cs])
      exact bodyPost_ret (v := .agg (S.pn true ⟨1, c, a, d, s, ww, n, e, o⟩ 1).cs) (ret_Pins Try.results32 rfl (by simp [go_sem, S.Pn.cs]) rfl) rfl ⟨rfl, by (repeat (first | with_reducible exact Adds.refl _ | with_reducible apply Adds.drew | with_reducible apply Adds.drewN | with_reducible apply Adds.alloc | with_reducible apply Adds.more | (with_reducible refine Adds.setCell ?_ ?_ _) | (focus (simp [go_sem]; done)) | (focus (simp [go_sem]; omega))))⟩
  · have g2 : (ch == 2) = false := by simpa using h2
    clear h2
    rw [g2]
    go_enter Try.func32, Try.ntmps32
    go_wp2_with fail
    try go_region_with (go_at_call 39; refine (transferred_1 c a d s _).mono ?_; rintro e w' ⟨rfl, ⟨⟨n1, os1⟩, rfl⟩⟩)
    all_goals
      go_wp2_with (go_at_call 41; refine (H0.out _).mono ?_; rintro e w' ⟨rfl, ⟨⟨n2, os2⟩, rfl⟩⟩; simp only [S.Pn.cs])
      exact bodyPost_ret (v := .agg (S.pn false ⟨1, c, a, d, s, ww, n, e, o⟩ 1).cs) (ret_Pins Try.results32 rfl (by simp [go_sem, S.Pn.cs]) rfl) rfl ⟨rfl, by (repeat (first | with_reducible exact Adds.refl _ | with_reducible apply Adds.drew | with_reducible apply Adds.drewN | with_reducible apply Adds.alloc | with_reducible apply Adds.more | (with_reducible refine Adds.setCell ?_ ?_ _) | (focus (simp [go_sem]; done)) | (focus (simp [go_sem]; omega))))⟩
set_option maxHeartbeats 1000000 in
theorem pinsOf_2 (ch : Int) (x : S.It) (hk : x.k = 1) (w : World) : Calls Try.prog 32 #[.int .i64 ch, .agg #[.int .i64 x.k, .int .i64 x.c, .int .u16 x.a, .int .u8 x.d, .int .i64 x.s, .int .i64 x.w, .int .i64 x.n, .bool x.e, .bool x.o], .int .i64 2] w fun e w' => e = .returned (.agg (S.pn (ch == 2) x 2).cs) ∧ Adds w w' := by
  have H5 := Lib.hid (pins85_2 x hk)
  have H0 := Lib.hid (pins80_2 x hk)
  obtain ⟨k, c, a, d, s, ww, n, e, o⟩ := x
  obtain rfl : k = 1 := hk
  simp only [] at H5 H0 ⊢
  by_cases h2 : ch = 2
  · subst h2
    rw [show ((2 : Int) == 2) = true from rfl]
    go_enter Try.func32, Try.ntmps32
    go_wp2_with fail
    try go_region_with (go_at_call 39; refine (transferred_2 c a d s _).mono ?_; rintro e w' ⟨rfl, ⟨⟨n1, os1⟩, rfl⟩⟩)
    all_goals
      go_wp2_with (go_at_call 40; refine (H5.out _).mono ?_; rintro e w' ⟨rfl, ⟨⟨n2, os2⟩, rfl⟩⟩; simp only [S.Pn.cs])
      exact bodyPost_ret (v := .agg (S.pn true ⟨1, c, a, d, s, ww, n, e, o⟩ 2).cs) (ret_Pins Try.results32 rfl (by simp [go_sem, S.Pn.cs]) rfl) rfl ⟨rfl, by (repeat (first | with_reducible exact Adds.refl _ | with_reducible apply Adds.drew | with_reducible apply Adds.drewN | with_reducible apply Adds.alloc | with_reducible apply Adds.more | (with_reducible refine Adds.setCell ?_ ?_ _) | (focus (simp [go_sem]; done)) | (focus (simp [go_sem]; omega))))⟩
  · have g2 : (ch == 2) = false := by simpa using h2
    clear h2
    rw [g2]
    go_enter Try.func32, Try.ntmps32
    go_wp2_with fail
    try go_region_with (go_at_call 39; refine (transferred_2 c a d s _).mono ?_; rintro e w' ⟨rfl, ⟨⟨n1, os1⟩, rfl⟩⟩)
    all_goals
      go_wp2_with (go_at_call 41; refine (H0.out _).mono ?_; rintro e w' ⟨rfl, ⟨⟨n2, os2⟩, rfl⟩⟩; simp only [S.Pn.cs])
      exact bodyPost_ret (v := .agg (S.pn false ⟨1, c, a, d, s, ww, n, e, o⟩ 2).cs) (ret_Pins Try.results32 rfl (by simp [go_sem, S.Pn.cs]) rfl) rfl ⟨rfl, by (repeat (first | with_reducible exact Adds.refl _ | with_reducible apply Adds.drew | with_reducible apply Adds.drewN | with_reducible apply Adds.alloc | with_reducible apply Adds.more | (with_reducible refine Adds.setCell ?_ ?_ _) | (focus (simp [go_sem]; done)) | (focus (simp [go_sem]; omega))))⟩
set_option maxHeartbeats 1000000 in
theorem pinsOf_3 (ch : Int) (x : S.It) (hk : x.k = 1) (w : World) : Calls Try.prog 32 #[.int .i64 ch, .agg #[.int .i64 x.k, .int .i64 x.c, .int .u16 x.a, .int .u8 x.d, .int .i64 x.s, .int .i64 x.w, .int .i64 x.n, .bool x.e, .bool x.o], .int .i64 3] w fun e w' => e = .returned (.agg (S.pn (ch == 2) x 3).cs) ∧ Adds w w' := by
  have H5 := Lib.hid (pins85_3 x hk)
  have H0 := Lib.hid (pins80_3 x hk)
  obtain ⟨k, c, a, d, s, ww, n, e, o⟩ := x
  obtain rfl : k = 1 := hk
  simp only [] at H5 H0 ⊢
  by_cases h2 : ch = 2
  · subst h2
    rw [show ((2 : Int) == 2) = true from rfl]
    go_enter Try.func32, Try.ntmps32
    go_wp2_with fail
    try go_region_with (go_at_call 39; refine (transferred_3 c a d s _).mono ?_; rintro e w' ⟨rfl, ⟨⟨n1, os1⟩, rfl⟩⟩)
    all_goals
      go_wp2_with (go_at_call 40; refine (H5.out _).mono ?_; rintro e w' ⟨rfl, ⟨⟨n2, os2⟩, rfl⟩⟩; simp only [S.Pn.cs])
      exact bodyPost_ret (v := .agg (S.pn true ⟨1, c, a, d, s, ww, n, e, o⟩ 3).cs) (ret_Pins Try.results32 rfl (by simp [go_sem, S.Pn.cs]) rfl) rfl ⟨rfl, by (repeat (first | with_reducible exact Adds.refl _ | with_reducible apply Adds.drew | with_reducible apply Adds.drewN | with_reducible apply Adds.alloc | with_reducible apply Adds.more | (with_reducible refine Adds.setCell ?_ ?_ _) | (focus (simp [go_sem]; done)) | (focus (simp [go_sem]; omega))))⟩
  · have g2 : (ch == 2) = false := by simpa using h2
    clear h2
    rw [g2]
    go_enter Try.func32, Try.ntmps32
    go_wp2_with fail
    try go_region_with (go_at_call 39; refine (transferred_3 c a d s _).mono ?_; rintro e w' ⟨rfl, ⟨⟨n1, os1⟩, rfl⟩⟩)
    all_goals
      go_wp2_with (go_at_call 41; refine (H0.out _).mono ?_; rintro e w' ⟨rfl, ⟨⟨n2, os2⟩, rfl⟩⟩; simp only [S.Pn.cs])
      exact bodyPost_ret (v := .agg (S.pn false ⟨1, c, a, d, s, ww, n, e, o⟩ 3).cs) (ret_Pins Try.results32 rfl (by simp [go_sem, S.Pn.cs]) rfl) rfl ⟨rfl, by (repeat (first | with_reducible exact Adds.refl _ | with_reducible apply Adds.drew | with_reducible apply Adds.drewN | with_reducible apply Adds.alloc | with_reducible apply Adds.more | (with_reducible refine Adds.setCell ?_ ?_ _) | (focus (simp [go_sem]; done)) | (focus (simp [go_sem]; omega))))⟩
set_option maxHeartbeats 1000000 in
theorem pinsOf_4 (ch : Int) (x : S.It) (hk : x.k = 1) (w : World) : Calls Try.prog 32 #[.int .i64 ch, .agg #[.int .i64 x.k, .int .i64 x.c, .int .u16 x.a, .int .u8 x.d, .int .i64 x.s, .int .i64 x.w, .int .i64 x.n, .bool x.e, .bool x.o], .int .i64 4] w fun e w' => e = .returned (.agg (S.pn (ch == 2) x 4).cs) ∧ Adds w w' := by
  have H5 := Lib.hid (pins85_4 x hk)
  have H0 := Lib.hid (pins80_4 x hk)
  obtain ⟨k, c, a, d, s, ww, n, e, o⟩ := x
  obtain rfl : k = 1 := hk
  simp only [] at H5 H0 ⊢
  by_cases h2 : ch = 2
  · subst h2
    rw [show ((2 : Int) == 2) = true from rfl]
    go_enter Try.func32, Try.ntmps32
    go_wp2_with fail
    try go_region_with (go_at_call 39; refine (transferred_4 c a d s _).mono ?_; rintro e w' ⟨rfl, ⟨⟨n1, os1⟩, rfl⟩⟩)
    all_goals
      go_wp2_with (go_at_call 40; refine (H5.out _).mono ?_; rintro e w' ⟨rfl, ⟨⟨n2, os2⟩, rfl⟩⟩; simp only [S.Pn.cs])
      exact bodyPost_ret (v := .agg (S.pn true ⟨1, c, a, d, s, ww, n, e, o⟩ 4).cs) (ret_Pins Try.results32 rfl (by simp [go_sem, S.Pn.cs]) rfl) rfl ⟨rfl, by (repeat (first | with_reducible exact Adds.refl _ | with_reducible apply Adds.drew | with_reducible apply Adds.drewN | with_reducible apply Adds.alloc | with_reducible apply Adds.more | (with_reducible refine Adds.setCell ?_ ?_ _) | (focus (simp [go_sem]; done)) | (focus (simp [go_sem]; omega))))⟩
  · have g2 : (ch == 2) = false := by simpa using h2
    clear h2
    rw [g2]
    go_enter Try.func32, Try.ntmps32
    go_wp2_with fail
    try go_region_with (go_at_call 39; refine (transferred_4 c a d s _).mono ?_; rintro e w' ⟨rfl, ⟨⟨n1, os1⟩, rfl⟩⟩)
    all_goals
      go_wp2_with (go_at_call 41; refine (H0.out _).mono ?_; rintro e w' ⟨rfl, ⟨⟨n2, os2⟩, rfl⟩⟩; simp only [S.Pn.cs])
      exact bodyPost_ret (v := .agg (S.pn false ⟨1, c, a, d, s, ww, n, e, o⟩ 4).cs) (ret_Pins Try.results32 rfl (by simp [go_sem, S.Pn.cs]) rfl) rfl ⟨rfl, by (repeat (first | with_reducible exact Adds.refl _ | with_reducible apply Adds.drew | with_reducible apply Adds.drewN | with_reducible apply Adds.alloc | with_reducible apply Adds.more | (with_reducible refine Adds.setCell ?_ ?_ _) | (focus (simp [go_sem]; done)) | (focus (simp [go_sem]; omega))))⟩
set_option maxHeartbeats 1000000 in
theorem pinsOf_5 (ch : Int) (x : S.It) (hk : x.k = 1) (w : World) : Calls Try.prog 32 #[.int .i64 ch, .agg #[.int .i64 x.k, .int .i64 x.c, .int .u16 x.a, .int .u8 x.d, .int .i64 x.s, .int .i64 x.w, .int .i64 x.n, .bool x.e, .bool x.o], .int .i64 5] w fun e w' => e = .returned (.agg (S.pn (ch == 2) x 5).cs) ∧ Adds w w' := by
  have H5 := Lib.hid (pins85_5 x hk)
  have H0 := Lib.hid (pins80_5 x hk)
  obtain ⟨k, c, a, d, s, ww, n, e, o⟩ := x
  obtain rfl : k = 1 := hk
  simp only [] at H5 H0 ⊢
  by_cases h2 : ch = 2
  · subst h2
    rw [show ((2 : Int) == 2) = true from rfl]
    go_enter Try.func32, Try.ntmps32
    go_wp2_with fail
    try go_region_with (go_at_call 39; refine (transferred_5 c a d s _).mono ?_; rintro e w' ⟨rfl, ⟨⟨n1, os1⟩, rfl⟩⟩)
    all_goals
      go_wp2_with (go_at_call 40; refine (H5.out _).mono ?_; rintro e w' ⟨rfl, ⟨⟨n2, os2⟩, rfl⟩⟩; simp only [S.Pn.cs])
      exact bodyPost_ret (v := .agg (S.pn true ⟨1, c, a, d, s, ww, n, e, o⟩ 5).cs) (ret_Pins Try.results32 rfl (by simp [go_sem, S.Pn.cs]) rfl) rfl ⟨rfl, by (repeat (first | with_reducible exact Adds.refl _ | with_reducible apply Adds.drew | with_reducible apply Adds.drewN | with_reducible apply Adds.alloc | with_reducible apply Adds.more | (with_reducible refine Adds.setCell ?_ ?_ _) | (focus (simp [go_sem]; done)) | (focus (simp [go_sem]; omega))))⟩
  · have g2 : (ch == 2) = false := by simpa using h2
    clear h2
    rw [g2]
    go_enter Try.func32, Try.ntmps32
    go_wp2_with fail
    try go_region_with (go_at_call 39; refine (transferred_5 c a d s _).mono ?_; rintro e w' ⟨rfl, ⟨⟨n1, os1⟩, rfl⟩⟩)
    all_goals
      go_wp2_with (go_at_call 41; refine (H0.out _).mono ?_; rintro e w' ⟨rfl, ⟨⟨n2, os2⟩, rfl⟩⟩; simp only [S.Pn.cs])
      exact bodyPost_ret (v := .agg (S.pn false ⟨1, c, a, d, s, ww, n, e, o⟩ 5).cs) (ret_Pins Try.results32 rfl (by simp [go_sem, S.Pn.cs]) rfl) rfl ⟨rfl, by (repeat (first | with_reducible exact Adds.refl _ | with_reducible apply Adds.drew | with_reducible apply Adds.drewN | with_reducible apply Adds.alloc | with_reducible apply Adds.more | (with_reducible refine Adds.setCell ?_ ?_ _) | (focus (simp [go_sem]; done)) | (focus (simp [go_sem]; omega))))⟩
set_option maxHeartbeats 1000000 in
theorem pinsOf_6 (ch : Int) (x : S.It) (hk : x.k = 1) (w : World) : Calls Try.prog 32 #[.int .i64 ch, .agg #[.int .i64 x.k, .int .i64 x.c, .int .u16 x.a, .int .u8 x.d, .int .i64 x.s, .int .i64 x.w, .int .i64 x.n, .bool x.e, .bool x.o], .int .i64 6] w fun e w' => e = .returned (.agg (S.pn (ch == 2) x 6).cs) ∧ Adds w w' := by
  have H5 := Lib.hid (pins85_6 x hk)
  have H0 := Lib.hid (pins80_6 x hk)
  obtain ⟨k, c, a, d, s, ww, n, e, o⟩ := x
  obtain rfl : k = 1 := hk
  simp only [] at H5 H0 ⊢
  by_cases h2 : ch = 2
  · subst h2
    rw [show ((2 : Int) == 2) = true from rfl]
    go_enter Try.func32, Try.ntmps32
    go_wp2_with fail
    try go_region_with (go_at_call 39; refine (transferred_6 c a d s _).mono ?_; rintro e w' ⟨rfl, ⟨⟨n1, os1⟩, rfl⟩⟩)
    all_goals
      go_wp2_with (go_at_call 40; refine (H5.out _).mono ?_; rintro e w' ⟨rfl, ⟨⟨n2, os2⟩, rfl⟩⟩; simp only [S.Pn.cs])
      exact bodyPost_ret (v := .agg (S.pn true ⟨1, c, a, d, s, ww, n, e, o⟩ 6).cs) (ret_Pins Try.results32 rfl (by simp [go_sem, S.Pn.cs]) rfl) rfl ⟨rfl, by (repeat (first | with_reducible exact Adds.refl _ | with_reducible apply Adds.drew | with_reducible apply Adds.drewN | with_reducible apply Adds.alloc | with_reducible apply Adds.more | (with_reducible refine Adds.setCell ?_ ?_ _) | (focus (simp [go_sem]; done)) | (focus (simp [go_sem]; omega))))⟩
  · have g2 : (ch == 2) = false := by simpa using h2
    clear h2
    rw [g2]
    go_enter Try.func32, Try.ntmps32
    go_wp2_with fail
    try go_region_with (go_at_call 39; refine (transferred_6 c a d s _).mono ?_; rintro e w' ⟨rfl, ⟨⟨n1, os1⟩, rfl⟩⟩)
    all_goals
      go_wp2_with (go_at_call 41; refine (H0.out _).mono ?_; rintro e w' ⟨rfl, ⟨⟨n2, os2⟩, rfl⟩⟩; simp only [S.Pn.cs])
      exact bodyPost_ret (v := .agg (S.pn false ⟨1, c, a, d, s, ww, n, e, o⟩ 6).cs) (ret_Pins Try.results32 rfl (by simp [go_sem, S.Pn.cs]) rfl) rfl ⟨rfl, by (repeat (first | with_reducible exact Adds.refl _ | with_reducible apply Adds.drew | with_reducible apply Adds.drewN | with_reducible apply Adds.alloc | with_reducible apply Adds.more | (with_reducible refine Adds.setCell ?_ ?_ _) | (focus (simp [go_sem]; done)) | (focus (simp [go_sem]; omega))))⟩
set_option maxHeartbeats 1000000 in
theorem pinsOf_7 (ch : Int) (x : S.It) (hk : x.k = 1) (w : World) : Calls Try.prog 32 #[.int .i64 ch, .agg #[.int .i64 x.k, .int .i64 x.c, .int .u16 x.a, .int .u8 x.d, .int .i64 x.s, .int .i64 x.w, .int .i64 x.n, .bool x.e, .bool x.o], .int .i64 7] w fun e w' => e = .returned (.agg (S.pn (ch == 2) x 7).cs) ∧ Adds w w' := by
  have H5 := Lib.hid (pins85_7 x hk)
  have H0 := Lib.hid (pins80_7 x hk)
  obtain ⟨k, c, a, d, s, ww, n, e, o⟩ := x
  obtain rfl : k = 1 := hk
  simp only [] at H5 H0 ⊢
  by_cases h2 : ch = 2
  · subst h2
    rw [show ((2 : Int) == 2) = true from rfl]
    go_enter Try.func32, Try.ntmps32
    go_wp2_with fail
    try go_region_with (go_at_call 39; refine (transferred_7 c a d s _).mono ?_; rintro e w' ⟨rfl, ⟨⟨n1, os1⟩, rfl⟩⟩)
    all_goals
      go_wp2_with (go_at_call 40; refine (H5.out _).mono ?_; rintro e w' ⟨rfl, ⟨⟨n2, os2⟩, rfl⟩⟩; simp only [S.Pn.cs])
      exact bodyPost_ret (v := .agg (S.pn true ⟨1, c, a, d, s, ww, n, e, o⟩ 7).cs) (ret_Pins Try.results32 rfl (by simp [go_sem, S.Pn.cs]) rfl) rfl ⟨rfl, by (repeat (first | with_reducible exact Adds.refl _ | with_reducible apply Adds.drew | with_reducible apply Adds.drewN | with_reducible apply Adds.alloc | with_reducible apply Adds.more | (with_reducible refine Adds.setCell ?_ ?_ _) | (focus (simp [go_sem]; done)) | (focus (simp [go_sem]; omega))))⟩
  · have g2 : (ch == 2) = false := by simpa using h2
    clear h2
    rw [g2]
    go_enter Try.func32, Try.ntmps32
    go_wp2_with fail
    try go_region_with (go_at_call 39; refine (transferred_7 c a d s _).mono ?_; rintro e w' ⟨rfl, ⟨⟨n1, os1⟩, rfl⟩⟩)
    all_goals
      go_wp2_with (go_at_call 41; refine (H0.out _).mono ?_; rintro e w' ⟨rfl, ⟨⟨n2, os2⟩, rfl⟩⟩; simp only [S.Pn.cs])
      exact bodyPost_ret (v := .agg (S.pn false ⟨1, c, a, d, s, ww, n, e, o⟩ 7).cs) (ret_Pins Try.results32 rfl (by simp [go_sem, S.Pn.cs]) rfl) rfl ⟨rfl, by (repeat (first | with_reducible exact Adds.refl _ | with_reducible apply Adds.drew | with_reducible apply Adds.drewN | with_reducible apply Adds.alloc | with_reducible apply Adds.more | (with_reducible refine Adds.setCell ?_ ?_ _) | (focus (simp [go_sem]; done)) | (focus (simp [go_sem]; omega))))⟩
set_option maxHeartbeats 1000000 in
theorem pinsOf_8 (ch : Int) (x : S.It) (hk : x.k = 2) (w : World) : Calls Try.prog 32 #[.int .i64 ch, .agg #[.int .i64 x.k, .int .i64 x.c, .int .u16 x.a, .int .u8 x.d, .int .i64 x.s, .int .i64 x.w, .int .i64 x.n, .bool x.e, .bool x.o], .int .i64 8] w fun e w' => e = .returned (.agg (S.pn (ch == 2) x 8).cs) ∧ Adds w w' := by
  have H5 := Lib.hid (pins85_8 x hk)
  have H0 := Lib.hid (pins80_8 x hk)
  obtain ⟨k, c, a, d, s, ww, n, e, o⟩ := x
  obtain rfl : k = 2 := hk
  simp only [] at H5 H0 ⊢
  by_cases h2 : ch = 2
  · subst h2
    rw [show ((2 : Int) == 2) = true from rfl]
    go_enter Try.func32, Try.ntmps32
    go_wp2_with fail
    try go_region_with (go_at_call 39; refine (transferred_8 c a d s _).mono ?_; rintro e w' ⟨rfl, ⟨⟨n1, os1⟩, rfl⟩⟩)
    all_goals
      go_wp2_with (go_at_call 40; refine (H5.out _).mono ?_; rintro e w' ⟨rfl, ⟨⟨n2, os2⟩, rfl⟩⟩; simp only [S.Pn.cs])
      exact bodyPost_ret (v := .agg (S.pn true ⟨2, c, a, d, s, ww, n, e, o⟩ 8).cs) (ret_Pins Try.results32 rfl (by simp [go_sem, S.Pn.cs]) rfl) rfl ⟨rfl, by (repeat (first | with_reducible exact Adds.refl _ | with_reducible apply Adds.drew | with_reducible apply Adds.drewN | with_reducible apply Adds.alloc | with_reducible apply Adds.more | (with_reducible refine Adds.setCell ?_ ?_ _) | (focus (simp [go_sem]; done)) | (focus (simp [go_sem]; omega))))⟩
  · have g2 : (ch == 2) = false := by simpa using h2
    clear h2
    rw [g2]
    go_enter Try.func32, Try.ntmps32
    go_wp2_with fail
    try go_region_with (go_at_call 39; refine (transferred_8 c a d s _).mono ?_; rintro e w' ⟨rfl, ⟨⟨n1, os1⟩, rfl⟩⟩)
    all_goals
      go_wp2_with (go_at_call 41; refine (H0.out _).mono ?_; rintro e w' ⟨rfl, ⟨⟨n2, os2⟩, rfl⟩⟩; simp only [S.Pn.cs])
      exact bodyPost_ret (v := .agg (S.pn false ⟨2, c, a, d, s, ww, n, e, o⟩ 8).cs) (ret_Pins Try.results32 rfl (by simp [go_sem, S.Pn.cs]) rfl) rfl ⟨rfl, by (repeat (first | with_reducible exact Adds.refl _ | with_reducible apply Adds.drew | with_reducible apply Adds.drewN | with_reducible apply Adds.alloc | with_reducible apply Adds.more | (with_reducible refine Adds.setCell ?_ ?_ _) | (focus (simp [go_sem]; done)) | (focus (simp [go_sem]; omega))))⟩
set_option maxHeartbeats 1000000 in
theorem pinsOf_9 (ch : Int) (x : S.It) (hk : x.k = 3) (w : World) : Calls Try.prog 32 #[.int .i64 ch, .agg #[.int .i64 x.k, .int .i64 x.c, .int .u16 x.a, .int .u8 x.d, .int .i64 x.s, .int .i64 x.w, .int .i64 x.n, .bool x.e, .bool x.o], .int .i64 9] w fun e w' => e = .returned (.agg (S.pn (ch == 2) x 9).cs) ∧ Adds w w' := by
  have H5 := Lib.hid (pins85_9 x hk)
  have H0 := Lib.hid (pins80_9 x hk)
  obtain ⟨k, c, a, d, s, ww, n, e, o⟩ := x
  obtain rfl : k = 3 := hk
  simp only [] at H5 H0 ⊢
  by_cases h2 : ch = 2
  · subst h2
    rw [show ((2 : Int) == 2) = true from rfl]
    go_enter Try.func32, Try.ntmps32
    go_wp2_with fail
    try go_region_with (go_at_call 39; refine (transferred_9 c a d s _).mono ?_; rintro e w' ⟨rfl, ⟨⟨n1, os1⟩, rfl⟩⟩)
    all_goals
      go_wp2_with (go_at_call 40; refine (H5.out _).mono ?_; rintro e w' ⟨rfl, ⟨⟨n2, os2⟩, rfl⟩⟩; simp only [S.Pn.cs])
      exact bodyPost_ret (v := .agg (S.pn true ⟨3, c, a, d, s, ww, n, e, o⟩ 9).cs) (ret_Pins Try.results32 rfl (by simp [go_sem, S.Pn.cs]) rfl) rfl ⟨rfl, by (repeat (first | with_reducible exact Adds.refl _ | with_reducible apply Adds.drew | with_reducible apply Adds.drewN | with_reducible apply Adds.alloc | with_reducible apply Adds.more | (with_reducible refine Adds.setCell ?_ ?_ _) | (focus (simp [go_sem]; done)) | (focus (simp [go_sem]; omega))))⟩
  · have g2 : (ch == 2) = false := by simpa using h2
    clear h2
    rw [g2]
    go_enter Try.func32, Try.ntmps32
    go_wp2_with fail
    try go_region_with (go_at_call 39; refine (transferred_9 c a d s _).mono ?_; rintro e w' ⟨rfl, ⟨⟨n1, os1⟩, rfl⟩⟩)
    all_goals
      go_wp2_with (go_at_call 41; refine (H0.out _).mono ?_; rintro e w' ⟨rfl, ⟨⟨n2, os2⟩, rfl⟩⟩; simp only [S.Pn.cs])
      exact bodyPost_ret (v := .agg (S.pn false ⟨3, c, a, d, s, ww, n, e, o⟩ 9).cs) (ret_Pins Try.results32 rfl (by simp [go_sem, S.Pn.cs]) rfl) rfl ⟨rfl, by (repeat (first | with_reducible exact Adds.refl _ | with_reducible apply Adds.drew | with_reducible apply Adds.drewN | with_reducible apply Adds.alloc | with_reducible apply Adds.more | (with_reducible refine Adds.setCell ?_ ?_ _) | (focus (simp [go_sem]; done)) | (focus (simp [go_sem]; omega))))⟩
set_option maxHeartbeats 1000000 in
theorem pinsOf_10 (ch : Int) (x : S.It) (hk : x.k = 4) (w : World) : Calls Try.prog 32 #[.int .i64 ch, .agg #[.int .i64 x.k, .int .i64 x.c, .int .u16 x.a, .int .u8 x.d, .int .i64 x.s, .int .i64 x.w, .int .i64 x.n, .bool x.e, .bool x.o], .int .i64 10] w fun e w' => e = .returned (.agg (S.pn (ch == 2) x 10).cs) ∧ Adds w w' := by
  have H5 := Lib.hid (pins85_10 x hk)
  have H0 := Lib.hid (pins80_10 x hk)
  obtain ⟨k, c, a, d, s, ww, n, e, o⟩ := x
  obtain rfl : k = 4 := hk
  simp only [] at H5 H0 ⊢
  by_cases h2 : ch = 2
  · subst h2
    rw [show ((2 : Int) == 2) = true from rfl]
    go_enter Try.func32, Try.ntmps32
    go_wp2_with fail
    try go_region_with (go_at_call 39; refine (transferred_10 c a d s _).mono ?_; rintro e w' ⟨rfl, ⟨⟨n1, os1⟩, rfl⟩⟩)
    all_goals
      go_wp2_with (go_at_call 40; refine (H5.out _).mono ?_; rintro e w' ⟨rfl, ⟨⟨n2, os2⟩, rfl⟩⟩; simp only [S.Pn.cs])
      exact bodyPost_ret (v := .agg (S.pn true ⟨4, c, a, d, s, ww, n, e, o⟩ 10).cs) (ret_Pins Try.results32 rfl (by simp [go_sem, S.Pn.cs]) rfl) rfl ⟨rfl, by (repeat (first | with_reducible exact Adds.refl _ | with_reducible apply Adds.drew | with_reducible apply Adds.drewN | with_reducible apply Adds.alloc | with_reducible apply Adds.more | (with_reducible refine Adds.setCell ?_ ?_ _) | (focus (simp [go_sem]; done)) | (focus (simp [go_sem]; omega))))⟩
  · have g2 : (ch == 2) = false := by simpa using h2
    clear h2
    rw [g2]
    go_enter Try.func32, Try.ntmps32
    go_wp2_with fail
    try go_region_with (go_at_call 39; refine (transferred_10 c a d s _).mono ?_; rintro e w' ⟨rfl, ⟨⟨n1, os1⟩, rfl⟩⟩)
    all_goals
      go_wp2_with (go_at_call 41; refine (H0.out _).mono ?_; rintro e w' ⟨rfl, ⟨⟨n2, os2⟩, rfl⟩⟩; simp only [S.Pn.cs])
      exact bodyPost_ret (v := .agg (S.pn false ⟨4, c, a, d, s, ww, n, e, o⟩ 10).cs) (ret_Pins Try.results32 rfl (by simp [go_sem, S.Pn.cs]) rfl) rfl ⟨rfl, by (repeat (first | with_reducible exact Adds.refl _ | with_reducible apply Adds.drew | with_reducible apply Adds.drewN | with_reducible apply Adds.alloc | with_reducible apply Adds.more | (with_reducible refine Adds.setCell ?_ ?_ _) | (focus (simp [go_sem]; done)) | (focus (simp [go_sem]; omega))))⟩
theorem pinsOf_any (ch : Int) (x : S.It) (s : Int) (hf : S.fit x.k s) (w : World) : Calls Try.prog 32 #[.int .i64 ch, .agg #[.int .i64 x.k, .int .i64 x.c, .int .u16 x.a, .int .u8 x.d, .int .i64 x.s, .int .i64 x.w, .int .i64 x.n, .bool x.e, .bool x.o], .int .i64 s] w fun e w' => e = .returned (.agg (S.pn (ch == 2) x s).cs) ∧ Adds w w' := by
  rcases hf with ⟨hk, h1, h7⟩ | ⟨hk, rfl⟩ | ⟨hk, rfl⟩ | ⟨hk, rfl⟩
  · rcases (by omega : s = 1 ∨ s = 2 ∨ s = 3 ∨ s = 4 ∨ s = 5 ∨ s = 6 ∨ s = 7) with rfl | rfl | rfl | rfl | rfl | rfl | rfl
    · exact pinsOf_1 ch x hk w
    · exact pinsOf_2 ch x hk w
    · exact pinsOf_3 ch x hk w
    · exact pinsOf_4 ch x hk w
    · exact pinsOf_5 ch x hk w
    · exact pinsOf_6 ch x hk w
    · exact pinsOf_7 ch x hk w
  · exact pinsOf_8 ch x hk w
  · exact pinsOf_9 ch x hk w
  · exact pinsOf_10 ch x hk w
end Go.Proofs.Ytfhnfakjjfjohaa
