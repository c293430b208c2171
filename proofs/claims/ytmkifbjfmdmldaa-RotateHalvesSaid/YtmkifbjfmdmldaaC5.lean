/- Contracts of package rotate and of the reference's chapter 5: each returns the plain functions' values and leaves what was there alone. Conditions: bytes are from 0 to 255, words from 0 to 65535. -/
import Derived.Test.YtmkifbjfmdmldaaC2
import Derived.Test.YtmkifbjfmdmldaaS5
namespace Go.Proofs.Ytmkifbjfmdmldaa
open Go.ChangeShapes Go.WideShapes Go.ChangeAt Go.RowKit
set_option linter.unusedVariables false
/-- A function value is stored in one cell, a nil one too. -/
@[go_sem] theorem store_fn (P : Program) (w : World) (a : Addr) (f : Fn) (x y : Array Value) (m : Mode) : Sem.run P (store a (.func f x y) m) w = stored P w a (.func f x y) m := run_store P w a _ m rfl
theorem rt2 {k : IntKind} {a b : Int} {c d : Bool} (h : a = b) (g : c = d) : Ending.returned (.tuple #[.int k a, .bool c]) = .returned (.tuple #[.int k b, .bool d]) := by rw [h, g]
theorem rt3 {k : IntKind} {a b : Int} {c d e f : Bool} (h : a = b) (g : c = d) (i : e = f) : Ending.returned (.tuple #[.int k a, .bool c, .bool e]) = .returned (.tuple #[.int k b, .bool d, .bool f]) := by rw [h, g, i]
theorem bit7_any (a : Int) (a0 : 0 ≤ a) (a1 : a < 256) (w : World) : Calls Try.prog 18 #[.int .u8 a] w fun e w' => e = .returned (.bool (S.b7 a)) ∧ w = w' := by
  have e1 : Hid _ := (S.bit7_eq a a0 a1).1
  go_enter Try.func18, Try.ntmps18
  go_wp2
  go_ret
  exact ⟨rb e1.out, rfl⟩
theorem bit0_any (a : Int) (a0 : 0 ≤ a) (a1 : a < 256) (w : World) : Calls Try.prog 21 #[.int .u8 a] w fun e w' => e = .returned (.bool (S.b0 a)) ∧ w = w' := by
  have e1 : Hid _ := (S.bit7_eq a a0 a1).2.1
  go_enter Try.func21, Try.ntmps21
  go_wp2
  go_ret
  exact ⟨rb e1.out, rfl⟩
theorem up_any (a : Int) (c : Bool) (a0 : 0 ≤ a) (a1 : a < 256) (w : World) : Calls Try.prog 17 #[.int .u8 a, .bool c] w fun e w' => e = .returned (.tuple #[.int .u8 (S.up a c), .bool (S.b7 a)]) ∧ w = w' := by
  obtain ⟨f1, f2, f3, f4, f5, f6, f7⟩ := S.ups a a0 a1
  have e1 : Hid _ := f1
  have e2 : Hid _ := f3
  clear f1 f2 f3 f4 f5 f6 f7
  cases c
  · go_enter Try.func17, Try.ntmps17
    go_wp2_with (first | (go_at_call 18; refine (bit7_any _ a0 a1 _).mono ?_; rintro e w' ⟨rfl, rfl⟩))
    exact bodyPost_ret (v := .tuple #[.int .u8 (a * 2 % 256), .bool (S.b7 a)]) (by simp [results, Try.results17, go_sem]) rfl ⟨rt2 e2.out rfl, rfl⟩
  · go_enter Try.func17, Try.ntmps17
    go_wp2_with (first | (go_at_call 18; refine (bit7_any _ a0 a1 _).mono ?_; rintro e w' ⟨rfl, rfl⟩))
    exact bodyPost_ret (v := .tuple #[.int .u8 (bits .or .u8 (a * 2 % 256) 1), .bool (S.b7 a)]) (by simp [results, Try.results17, go_sem]) rfl ⟨rt2 e1.out rfl, rfl⟩
theorem down_any (a : Int) (c : Bool) (a0 : 0 ≤ a) (a1 : a < 256) (w : World) : Calls Try.prog 20 #[.int .u8 a, .bool c] w fun e w' => e = .returned (.tuple #[.int .u8 (S.dn a c), .bool (S.b0 a)]) ∧ w = w' := by
  obtain ⟨f1, f2, f3, f4, f5, f6, f7⟩ := S.ups a a0 a1
  have e1 : Hid _ := f2
  have e2 : Hid _ := f4
  clear f1 f2 f3 f4 f5 f6 f7
  cases c
  · go_enter Try.func20, Try.ntmps20
    go_wp2_with (first | (go_at_call 21; refine (bit0_any _ a0 a1 _).mono ?_; rintro e w' ⟨rfl, rfl⟩))
    exact bodyPost_ret (v := .tuple #[.int .u8 (a / 2), .bool (S.b0 a)]) (by simp [results, Try.results20, go_sem]) rfl ⟨rt2 e2.out rfl, rfl⟩
  · go_enter Try.func20, Try.ntmps20
    go_wp2_with (first | (go_at_call 21; refine (bit0_any _ a0 a1 _).mono ?_; rintro e w' ⟨rfl, rfl⟩))
    exact bodyPost_ret (v := .tuple #[.int .u8 (bits .or .u8 (a / 2) 128), .bool (S.b0 a)]) (by simp [results, Try.results20, go_sem]) rfl ⟨rt2 e1.out rfl, rfl⟩
theorem rlc_any (a : Int) (c : Bool) (a0 : 0 ≤ a) (a1 : a < 256) (w : World) : Calls Try.prog 16 #[.int .u8 a, .bool c] w fun e w' => e = .returned (.tuple #[.int .u8 (S.up a (S.b7 a)), .bool (S.b7 a)]) ∧ w = w' := by
  go_enter Try.func16, Try.ntmps16
  go_wp2_with (first | (go_at_call 18; refine (bit7_any _ a0 a1 _).mono ?_; rintro e w' ⟨rfl, rfl⟩) | (go_at_call 17; refine (up_any _ _ a0 a1 _).mono ?_; rintro e w' ⟨rfl, rfl⟩))
  exact bodyPost_ret (v := .tuple #[.int .u8 (S.up a (S.b7 a)), .bool (S.b7 a)]) (by simp [results, Try.results16, go_sem]) rfl ⟨rfl, rfl⟩
theorem rrc_any (a : Int) (c : Bool) (a0 : 0 ≤ a) (a1 : a < 256) (w : World) : Calls Try.prog 19 #[.int .u8 a, .bool c] w fun e w' => e = .returned (.tuple #[.int .u8 (S.dn a (S.b0 a)), .bool (S.b0 a)]) ∧ w = w' := by
  go_enter Try.func19, Try.ntmps19
  go_wp2_with (first | (go_at_call 21; refine (bit0_any _ a0 a1 _).mono ?_; rintro e w' ⟨rfl, rfl⟩) | (go_at_call 20; refine (down_any _ _ a0 a1 _).mono ?_; rintro e w' ⟨rfl, rfl⟩))
  exact bodyPost_ret (v := .tuple #[.int .u8 (S.dn a (S.b0 a)), .bool (S.b0 a)]) (by simp [results, Try.results19, go_sem]) rfl ⟨rfl, rfl⟩
set_option maxHeartbeats 1000000 in
theorem byte_0 (op a : Int) (c : Bool) (h4 : op % 4 = 0) (a0 : 0 ≤ a) (a1 : a < 256) (w : World) : Calls Try.prog 8 #[.int .i64 op, .int .u8 a, .bool c] w fun e w' => e = .returned (.tuple #[.int .u8 (S.rotR op a c), .bool (S.rotO op a)]) ∧ Adds w w' := by
  have h3 := S.and3 op
  rw [h4] at h3
  obtain ⟨e1, e2⟩ := S.ro0 h4 a c
  rw [e1, e2]
  clear e1 e2 h4
  go_enter Try.func8, Try.ntmps8
  go_wp2_with (first | (go_at_call 16; refine (rlc_any _ _ a0 a1 _).mono ?_; rintro e w' ⟨rfl, rfl⟩) | (go_at_call 19; refine (rrc_any _ _ a0 a1 _).mono ?_; rintro e w' ⟨rfl, rfl⟩) | (go_at_call 17; refine (up_any _ _ a0 a1 _).mono ?_; rintro e w' ⟨rfl, rfl⟩) | (go_at_call 20; refine (down_any _ _ a0 a1 _).mono ?_; rintro e w' ⟨rfl, rfl⟩))
  all_goals exact bodyPost_ret (v := .tuple #[.int .u8 (S.up a (S.b7 a)), .bool (S.b7 a)]) (by simp [results, Try.results8, go_sem]) rfl ⟨rfl, by (repeat (first | with_reducible exact Adds.refl _ | with_reducible apply Adds.drew | with_reducible apply Adds.drewN | with_reducible apply Adds.alloc | with_reducible apply Adds.more | (with_reducible refine Adds.setCell ?_ ?_ _) | (focus (simp [go_sem]; done)) | (focus (simp [go_sem]; omega))))⟩
set_option maxHeartbeats 1000000 in
theorem byte_1 (op a : Int) (c : Bool) (h4 : op % 4 = 1) (a0 : 0 ≤ a) (a1 : a < 256) (w : World) : Calls Try.prog 8 #[.int .i64 op, .int .u8 a, .bool c] w fun e w' => e = .returned (.tuple #[.int .u8 (S.rotR op a c), .bool (S.rotO op a)]) ∧ Adds w w' := by
  have h3 := S.and3 op
  rw [h4] at h3
  obtain ⟨e1, e2⟩ := S.ro1 h4 a c
  rw [e1, e2]
  clear e1 e2 h4
  go_enter Try.func8, Try.ntmps8
  go_wp2_with (first | (go_at_call 16; refine (rlc_any _ _ a0 a1 _).mono ?_; rintro e w' ⟨rfl, rfl⟩) | (go_at_call 19; refine (rrc_any _ _ a0 a1 _).mono ?_; rintro e w' ⟨rfl, rfl⟩) | (go_at_call 17; refine (up_any _ _ a0 a1 _).mono ?_; rintro e w' ⟨rfl, rfl⟩) | (go_at_call 20; refine (down_any _ _ a0 a1 _).mono ?_; rintro e w' ⟨rfl, rfl⟩))
  all_goals exact bodyPost_ret (v := .tuple #[.int .u8 (S.dn a (S.b0 a)), .bool (S.b0 a)]) (by simp [results, Try.results8, go_sem]) rfl ⟨rfl, by (repeat (first | with_reducible exact Adds.refl _ | with_reducible apply Adds.drew | with_reducible apply Adds.drewN | with_reducible apply Adds.alloc | with_reducible apply Adds.more | (with_reducible refine Adds.setCell ?_ ?_ _) | (focus (simp [go_sem]; done)) | (focus (simp [go_sem]; omega))))⟩
set_option maxHeartbeats 1000000 in
theorem byte_2 (op a : Int) (c : Bool) (h4 : op % 4 = 2) (a0 : 0 ≤ a) (a1 : a < 256) (w : World) : Calls Try.prog 8 #[.int .i64 op, .int .u8 a, .bool c] w fun e w' => e = .returned (.tuple #[.int .u8 (S.rotR op a c), .bool (S.rotO op a)]) ∧ Adds w w' := by
  have h3 := S.and3 op
  rw [h4] at h3
  obtain ⟨e1, e2⟩ := S.ro2 h4 a c
  rw [e1, e2]
  clear e1 e2 h4
  go_enter Try.func8, Try.ntmps8
  go_wp2_with (first | (go_at_call 16; refine (rlc_any _ _ a0 a1 _).mono ?_; rintro e w' ⟨rfl, rfl⟩) | (go_at_call 19; refine (rrc_any _ _ a0 a1 _).mono ?_; rintro e w' ⟨rfl, rfl⟩) | (go_at_call 17; refine (up_any _ _ a0 a1 _).mono ?_; rintro e w' ⟨rfl, rfl⟩) | (go_at_call 20; refine (down_any _ _ a0 a1 _).mono ?_; rintro e w' ⟨rfl, rfl⟩))
  all_goals exact bodyPost_ret (v := .tuple #[.int .u8 (S.up a c), .bool (S.b7 a)]) (by simp [results, Try.results8, go_sem]) rfl ⟨rfl, by (repeat (first | with_reducible exact Adds.refl _ | with_reducible apply Adds.drew | with_reducible apply Adds.drewN | with_reducible apply Adds.alloc | with_reducible apply Adds.more | (with_reducible refine Adds.setCell ?_ ?_ _) | (focus (simp [go_sem]; done)) | (focus (simp [go_sem]; omega))))⟩
set_option maxHeartbeats 1000000 in
theorem byte_3 (op a : Int) (c : Bool) (h4 : op % 4 = 3) (a0 : 0 ≤ a) (a1 : a < 256) (w : World) : Calls Try.prog 8 #[.int .i64 op, .int .u8 a, .bool c] w fun e w' => e = .returned (.tuple #[.int .u8 (S.rotR op a c), .bool (S.rotO op a)]) ∧ Adds w w' := by
  have h3 := S.and3 op
  rw [h4] at h3
  obtain ⟨e1, e2⟩ := S.ro3 h4 a c
  rw [e1, e2]
  clear e1 e2 h4
  go_enter Try.func8, Try.ntmps8
  go_wp2_with (first | (go_at_call 16; refine (rlc_any _ _ a0 a1 _).mono ?_; rintro e w' ⟨rfl, rfl⟩) | (go_at_call 19; refine (rrc_any _ _ a0 a1 _).mono ?_; rintro e w' ⟨rfl, rfl⟩) | (go_at_call 17; refine (up_any _ _ a0 a1 _).mono ?_; rintro e w' ⟨rfl, rfl⟩) | (go_at_call 20; refine (down_any _ _ a0 a1 _).mono ?_; rintro e w' ⟨rfl, rfl⟩))
  all_goals exact bodyPost_ret (v := .tuple #[.int .u8 (S.dn a c), .bool (S.b0 a)]) (by simp [results, Try.results8, go_sem]) rfl ⟨rfl, by (repeat (first | with_reducible exact Adds.refl _ | with_reducible apply Adds.drew | with_reducible apply Adds.drewN | with_reducible apply Adds.alloc | with_reducible apply Adds.more | (with_reducible refine Adds.setCell ?_ ?_ _) | (focus (simp [go_sem]; done)) | (focus (simp [go_sem]; omega))))⟩
theorem byte_any (op a : Int) (c : Bool) (a0 : 0 ≤ a) (a1 : a < 256) (w : World) : Calls Try.prog 8 #[.int .i64 op, .int .u8 a, .bool c] w fun e w' => e = .returned (.tuple #[.int .u8 (S.rotR op a c), .bool (S.rotO op a)]) ∧ Adds w w' := by
  rcases (by omega : op % 4 = 0 ∨ op % 4 = 1 ∨ op % 4 = 2 ∨ op % 4 = 3) with h | h | h | h
  · exact byte_0 op a c h a0 a1 w
  · exact byte_1 op a c h a0 a1 w
  · exact byte_2 op a c h a0 a1 w
  · exact byte_3 op a c h a0 a1 w
set_option maxHeartbeats 1000000 in
theorem rbyte_0 (op a : Int) (c : Bool) (h4 : op % 4 = 0) (a0 : 0 ≤ a) (a1 : a < 256) (w : World) : Calls Try.prog 9 #[.int .i64 op, .int .u8 a, .bool c] w fun e w' => e = .returned (.tuple #[.int .u8 (S.rotR op a c), .bool (S.rotO op a)]) ∧ w = w' := by
  have h3 := S.and3 op
  rw [h4] at h3
  obtain ⟨e1, e2⟩ := S.ro0 h4 a c
  rw [e1, e2]
  clear e1 e2 h4
  obtain ⟨g1, g2, g3', g4, g5, g6, g7⟩ := S.ups a a0 a1
  have g3 : Hid _ := (S.bit7_eq a a0 a1).2.2
  have h5 : Hid _ := g5
  have h6 : Hid _ := g6
  have h7 : Hid _ := (g7 c).1
  have h8 : Hid _ := (g7 c).2
  clear g1 g2 g3' g4 g5 g6 g7
  go_enter Try.func9, Try.ntmps9
  go_wp2_with (first | (go_at_call 22; refine (rbit_any _ _ (by decide) (by decide) _).mono ?_; rintro e w' ⟨rfl, rfl⟩))
  have f5 := h5.out
  have f6 := h6.out
  have f7 := h7.out
  have f8 := h8.out
  exact bodyPost_ret (v := .tuple #[.int .u8 (bits .or .u8 (a * 2 % 256) (a / 128)), .bool (decide (128 ≤ a))]) (by simp [results, Try.results9, go_sem]) rfl ⟨rt2 f5 rfl, rfl⟩
set_option maxHeartbeats 1000000 in
theorem rbyte_1 (op a : Int) (c : Bool) (h4 : op % 4 = 1) (a0 : 0 ≤ a) (a1 : a < 256) (w : World) : Calls Try.prog 9 #[.int .i64 op, .int .u8 a, .bool c] w fun e w' => e = .returned (.tuple #[.int .u8 (S.rotR op a c), .bool (S.rotO op a)]) ∧ w = w' := by
  have h3 := S.and3 op
  rw [h4] at h3
  obtain ⟨e1, e2⟩ := S.ro1 h4 a c
  rw [e1, e2]
  clear e1 e2 h4
  obtain ⟨g1, g2, g3', g4, g5, g6, g7⟩ := S.ups a a0 a1
  have g3 : Hid _ := (S.bit7_eq a a0 a1).2.2
  have h5 : Hid _ := g5
  have h6 : Hid _ := g6
  have h7 : Hid _ := (g7 c).1
  have h8 : Hid _ := (g7 c).2
  clear g1 g2 g3' g4 g5 g6 g7
  go_enter Try.func9, Try.ntmps9
  go_wp2_with (first | (go_at_call 22; refine (rbit_any _ _ (by decide) (by decide) _).mono ?_; rintro e w' ⟨rfl, rfl⟩))
  have f5 := h5.out
  have f6 := h6.out
  have f7 := h7.out
  have f8 := h8.out
  exact bodyPost_ret (v := .tuple #[.int .u8 (bits .or .u8 (a / 2) (a * 128 % 256)), .bool (bits .and .u8 a 1 == 1)]) (by simp [results, Try.results9, go_sem]) rfl ⟨rt2 f6 g3.out, rfl⟩
set_option maxHeartbeats 1000000 in
theorem rbyte_2 (op a : Int) (c : Bool) (h4 : op % 4 = 2) (a0 : 0 ≤ a) (a1 : a < 256) (w : World) : Calls Try.prog 9 #[.int .i64 op, .int .u8 a, .bool c] w fun e w' => e = .returned (.tuple #[.int .u8 (S.rotR op a c), .bool (S.rotO op a)]) ∧ w = w' := by
  have h3 := S.and3 op
  rw [h4] at h3
  obtain ⟨e1, e2⟩ := S.ro2 h4 a c
  rw [e1, e2]
  clear e1 e2 h4
  obtain ⟨g1, g2, g3', g4, g5, g6, g7⟩ := S.ups a a0 a1
  have g3 : Hid _ := (S.bit7_eq a a0 a1).2.2
  have h5 : Hid _ := g5
  have h6 : Hid _ := g6
  have h7 : Hid _ := (g7 c).1
  have h8 : Hid _ := (g7 c).2
  clear g1 g2 g3' g4 g5 g6 g7
  go_enter Try.func9, Try.ntmps9
  go_wp2_with (first | (go_at_call 22; refine (rbit_any _ _ (by decide) (by decide) _).mono ?_; rintro e w' ⟨rfl, rfl⟩))
  have f5 := h5.out
  have f6 := h6.out
  have f7 := h7.out
  have f8 := h8.out
  exact bodyPost_ret (v := .tuple #[.int .u8 (bits .or .u8 (a * 2 % 256) (S.pl c 0)), .bool (decide (128 ≤ a))]) (by simp [results, Try.results9, go_sem]) rfl ⟨rt2 f7 rfl, rfl⟩
set_option maxHeartbeats 1000000 in
theorem rbyte_3 (op a : Int) (c : Bool) (h4 : op % 4 = 3) (a0 : 0 ≤ a) (a1 : a < 256) (w : World) : Calls Try.prog 9 #[.int .i64 op, .int .u8 a, .bool c] w fun e w' => e = .returned (.tuple #[.int .u8 (S.rotR op a c), .bool (S.rotO op a)]) ∧ w = w' := by
  have h3 := S.and3 op
  rw [h4] at h3
  obtain ⟨e1, e2⟩ := S.ro3 h4 a c
  rw [e1, e2]
  clear e1 e2 h4
  obtain ⟨g1, g2, g3', g4, g5, g6, g7⟩ := S.ups a a0 a1
  have g3 : Hid _ := (S.bit7_eq a a0 a1).2.2
  have h5 : Hid _ := g5
  have h6 : Hid _ := g6
  have h7 : Hid _ := (g7 c).1
  have h8 : Hid _ := (g7 c).2
  clear g1 g2 g3' g4 g5 g6 g7
  go_enter Try.func9, Try.ntmps9
  go_wp2_with (first | (go_at_call 22; refine (rbit_any _ _ (by decide) (by decide) _).mono ?_; rintro e w' ⟨rfl, rfl⟩))
  have f5 := h5.out
  have f6 := h6.out
  have f7 := h7.out
  have f8 := h8.out
  exact bodyPost_ret (v := .tuple #[.int .u8 (bits .or .u8 (a / 2) (S.pl c 7)), .bool (bits .and .u8 a 1 == 1)]) (by simp [results, Try.results9, go_sem]) rfl ⟨rt2 f8 g3.out, rfl⟩
theorem rbyte_any (op a : Int) (c : Bool) (a0 : 0 ≤ a) (a1 : a < 256) (w : World) : Calls Try.prog 9 #[.int .i64 op, .int .u8 a, .bool c] w fun e w' => e = .returned (.tuple #[.int .u8 (S.rotR op a c), .bool (S.rotO op a)]) ∧ w = w' := by
  rcases (by omega : op % 4 = 0 ∨ op % 4 = 1 ∨ op % 4 = 2 ∨ op % 4 = 3) with h | h | h | h
  · exact rbyte_0 op a c h a0 a1 w
  · exact rbyte_1 op a c h a0 a1 w
  · exact rbyte_2 op a c h a0 a1 w
  · exact rbyte_3 op a c h a0 a1 w
theorem arhl_any (v : Int) (v0 : 0 ≤ v) (v1 : v < 65536) (w : World) : Calls Try.prog 11 #[.int .u16 v] w fun e w' => e = .returned (.tuple #[.int .u16 (S.arR v), .bool (S.b0 v)]) ∧ w = w' := by
  have e1 : Hid _ := S.w_ar v v0 v1
  have e2 : Hid _ := (S.w_low v v0 v1).1
  go_enter Try.func11, Try.ntmps11
  go_wp2
  exact bodyPost_ret (v := .tuple #[.int .u16 (bits .or .u16 (v / 2) (bits .and .u16 v 32768)), .bool (bits .and .u16 v 1 != 0)]) (by simp [results, Try.results11, go_sem]) rfl ⟨rt2 e1.out e2.out, rfl⟩
theorem rarhl_any (v : Int) (v0 : 0 ≤ v) (v1 : v < 65536) (w : World) : Calls Try.prog 12 #[.int .u16 v] w fun e w' => e = .returned (.tuple #[.int .u16 (S.arR v), .bool (S.b0 v)]) ∧ w = w' := by
  have e1 : Hid _ := S.w_ar v v0 v1
  have e2 : Hid _ := (S.w_low v v0 v1).2
  go_enter Try.func12, Try.ntmps12
  go_wp2
  exact bodyPost_ret (v := .tuple #[.int .u16 (bits .or .u16 (v / 2) (bits .and .u16 v 32768)), .bool (bits .and .u16 v 1 == 1)]) (by simp [results, Try.results12, go_sem]) rfl ⟨rt2 e1.out e2.out, rfl⟩
theorem rdel_any (v : Int) (c : Bool) (v0 : 0 ≤ v) (v1 : v < 65536) (w : World) : Calls Try.prog 13 #[.int .u16 v, .bool c] w fun e w' => e = .returned (.tuple #[.int .u16 (S.rdR v c), .bool (S.b15 v), .bool (S.rdV v)]) ∧ w = w' := by
  have e2 : Hid _ := S.w_top v v0 v1
  cases c
  · have e1 := S.w_up0 v
    have e3 : Hid _ := S.w_rd v false v0 v1
    go_enter Try.func13, Try.ntmps13
    go_wp2
    exact bodyPost_ret (v := .tuple #[.int .u16 (S.rdR v false), .bool (bits .and .u16 v 32768 != 0), .bool (bits .and .u16 (bits .xor .u16 (S.rdR v false) v) 32768 != 0)]) (by simp [results, Try.results13, go_sem]) rfl ⟨rt3 rfl e2.out e3.out, rfl⟩
  · have e1 : bits .or .u16 (IntKind.u16.wrap (v * 2)) 1 = S.rdR v true := S.w_up v v0 v1 true
    have e3 : Hid _ := S.w_rd v true v0 v1
    go_enter Try.func13, Try.ntmps13
    go_wp2
    exact bodyPost_ret (v := .tuple #[.int .u16 (S.rdR v true), .bool (bits .and .u16 v 32768 != 0), .bool (bits .and .u16 (bits .xor .u16 (S.rdR v true) v) 32768 != 0)]) (by simp [results, Try.results13, go_sem]) rfl ⟨rt3 rfl e2.out e3.out, rfl⟩
theorem rrdel_any (v : Int) (c : Bool) (v0 : 0 ≤ v) (v1 : v < 65536) (w : World) : Calls Try.prog 14 #[.int .u16 v, .bool c] w fun e w' => e = .returned (.tuple #[.int .u16 (S.rdR v c), .bool (S.b15 v), .bool (S.rdV v)]) ∧ w = w' := by
  have hp : S.pl c 0 = S.one c := by cases c <;> rfl
  have e1 := S.w_up v v0 v1 c
  have e3 : Hid _ := S.w_rdr v c v0 v1
  have hc := S.one_bd c
  go_enter Try.func14, Try.ntmps14
  go_wp2_with (first | (go_at_call 22; refine (rbit_any _ _ (by decide) (by decide) _).mono ?_; rintro e w' ⟨rfl, rfl⟩))
  exact bodyPost_ret (v := .tuple #[.int .u16 (S.rdR v c), .bool (decide (32768 ≤ v)), .bool (bits .and .u16 (S.rdR v c) 32768 != bits .and .u16 v 32768)]) (by simp [results, Try.results14, go_sem]) rfl ⟨rt3 rfl rfl e3.out, rfl⟩
theorem known5_any (w : World) : Calls Try.prog 10 #[] w fun e w' => e = .returned (.bool true) ∧ Adds w w' := by
  go_enter Try.func10, Try.ntmps10
  go_wp2_with (first | (go_at_call 8; refine (byte_any 0 129 false (by decide) (by decide) _).mono ?_; rintro e w' ⟨rfl, ⟨⟨n1, os1⟩, rfl⟩⟩) | (go_at_call 11; refine (arhl_any 32769 (by decide) (by decide) _).mono ?_; rintro e w' ⟨rfl, rfl⟩))
  go_ret
  exact ⟨rfl, by (repeat (first | with_reducible exact Adds.refl _ | with_reducible apply Adds.drew | with_reducible apply Adds.drewN | with_reducible apply Adds.alloc | with_reducible apply Adds.more | (with_reducible refine Adds.setCell ?_ ?_ _) | (focus (simp [go_sem]; done)) | (focus (simp [go_sem]; omega))))⟩
end Go.Proofs.Ytmkifbjfmdmldaa
