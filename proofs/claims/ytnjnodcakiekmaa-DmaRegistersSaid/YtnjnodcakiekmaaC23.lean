/- Contracts of package dma and of the reference's WriteDMA, ReadDMA, Request, Transfer: each returns the plain functions' values and leaves what was there alone. Conditions: bytes are from 0 to 255, words from 0 to 65535, Left is an int. -/
import Derived.Test.YtnjnodcakiekmaaC1
import Derived.Test.YtnjnodcakiekmaaM1
import Derived.Test.YtnjnodcakiekmaaS23
import Derived.Deep.RegionWith
namespace Go.Proofs.Ytnjnodcakiekmaa
open Go.ChangeShapes Go.WideShapes Go.ChangeAt Go.RowKit
set_option linter.unusedVariables false
theorem dm_eq (x v l y u m : Int) (w : World) : (Op.equalIn 10000 24 (.agg #[.int .u16 x, .int .u8 v, .int .i64 l]) (.agg #[.int .u16 y, .int .u8 u, .int .i64 m])).run Try.prog w = .ok (same [.int .u16 x, .int .u8 v, .int .i64 l] [.int .u16 y, .int .u8 u, .int .i64 m]) w :=
  eq_agg 3 [.int .u16, .int .u8, .int .i64] _ Try.underlying24 (by kernel_rfl) (by decide) _ _ w (by simp [shaped]) (by simp [shaped])
attribute [go_sem] dm_eq
@[go_sem] theorem eq_Cell23 (x v y u : Int) (w : World) : (Op.equalIn 10000 32 (.agg #[.int .u16 x, .int .u8 v]) (.agg #[.int .u16 y, .int .u8 u])).run Try.prog w = .ok (same [.int .u16 x, .int .u8 v] [.int .u16 y, .int .u8 u]) w :=
  eq_agg 2 [.int .u16, .int .u8] _ Try.underlying32 (by kernel_rfl) (by decide) _ _ w (by simp [shaped]) (by simp [shaped])
theorem dm_high (a x l : Int) (a0 : 0 ≤ a) (a1 : a < 65536) (w : World) : Calls Try.prog 22 #[.agg #[.int .u16 a, .int .u8 x, .int .i64 l]] w fun e w' => e = .returned (.int .u8 (a / 256)) ∧ Adds w w' := by
  go_enter Try.func22, Try.ntmps22
  go_wp2_with fail
  go_ret
  exact ⟨ri (by simp <;> omega), by (repeat (first | with_reducible exact Adds.refl _ | with_reducible apply Adds.drew | with_reducible apply Adds.drewN | with_reducible apply Adds.alloc | with_reducible apply Adds.more | (with_reducible refine Adds.setCell ?_ ?_ _) | (focus (simp [go_sem]; done)) | (focus (simp [go_sem]; omega))))⟩
theorem dm_low (a x l : Int) (a0 : 0 ≤ a) (a1 : a < 65536) (w : World) : Calls Try.prog 23 #[.agg #[.int .u16 a, .int .u8 x, .int .i64 l]] w fun e w' => e = .returned (.int .u8 (a % 256)) ∧ Adds w w' := by
  go_enter Try.func23, Try.ntmps23
  go_wp2_with fail
  go_ret
  exact ⟨ri (by simp <;> omega), by (repeat (first | with_reducible exact Adds.refl _ | with_reducible apply Adds.drew | with_reducible apply Adds.drewN | with_reducible apply Adds.alloc | with_reducible apply Adds.more | (with_reducible refine Adds.setCell ?_ ?_ _) | (focus (simp [go_sem]; done)) | (focus (simp [go_sem]; omega))))⟩
theorem dm_reqs (a x l : Int) (w : World) : Calls Try.prog 18 #[.agg #[.int .u16 a, .int .u8 x, .int .i64 l]] w fun e w' => e = .returned (.bool (decide (0 < l))) ∧ Adds w w' := by
  go_enter Try.func18, Try.ntmps18
  go_wp2_with fail
  go_ret
  exact ⟨rfl, by (repeat (first | with_reducible exact Adds.refl _ | with_reducible apply Adds.drew | with_reducible apply Adds.drewN | with_reducible apply Adds.alloc | with_reducible apply Adds.more | (with_reducible refine Adds.setCell ?_ ?_ _) | (focus (simp [go_sem]; done)) | (focus (simp [go_sem]; omega))))⟩
theorem dm_req (a x l : Int) (w : World) : Calls Try.prog 14 #[.agg #[.int .u16 a, .int .u8 x, .int .i64 l]] w fun e w' => e = .returned (.bool (decide (0 < l))) ∧ Adds w w' := by
  go_enter Try.func14, Try.ntmps14
  go_wp2_with (go_at_call 18; refine (dm_reqs _ _ _ _).mono ?_; rintro e w' ⟨rfl, ⟨⟨n1, os1⟩, rfl⟩⟩)
  go_ret
  exact ⟨rfl, by (repeat (first | with_reducible exact Adds.refl _ | with_reducible apply Adds.drew | with_reducible apply Adds.drewN | with_reducible apply Adds.alloc | with_reducible apply Adds.more | (with_reducible refine Adds.setCell ?_ ?_ _) | (focus (simp [go_sem]; done)) | (focus (simp [go_sem]; omega))))⟩
theorem rdm_req (a x l : Int) (w : World) : Calls Try.prog 15 #[.agg #[.int .u16 a, .int .u8 x, .int .i64 l]] w fun e w' => e = .returned (.bool (decide (0 < l))) ∧ Adds w w' := by
  go_enter Try.func15, Try.ntmps15
  go_wp2_with fail
  go_ret
  exact ⟨rfl, by (repeat (first | with_reducible exact Adds.refl _ | with_reducible apply Adds.drew | with_reducible apply Adds.drewN | with_reducible apply Adds.alloc | with_reducible apply Adds.more | (with_reducible refine Adds.setCell ?_ ?_ _) | (focus (simp [go_sem]; done)) | (focus (simp [go_sem]; omega))))⟩
theorem dm_cell (a x l : Int) (w : World) : Calls Try.prog 20 #[.agg #[.int .u16 a, .int .u8 x, .int .i64 l]] w fun e w' => e = .returned (.agg #[.int .u16 a, .int .u8 x]) ∧ Adds w w' := by
  go_enter Try.func20, Try.ntmps20
  go_wp2_with fail
  exact bodyPost_ret (v := .agg #[.int .u16 a, .int .u8 x]) (by simp [results, Try.results20, go_sem]) rfl ⟨rfl, by (repeat (first | with_reducible exact Adds.refl _ | with_reducible apply Adds.drew | with_reducible apply Adds.drewN | with_reducible apply Adds.alloc | with_reducible apply Adds.more | (with_reducible refine Adds.setCell ?_ ?_ _) | (focus (simp [go_sem]; done)) | (focus (simp [go_sem]; omega))))⟩
theorem dm_adv (a x l : Int) (l0 : 0 < l) (l1 : l < 9223372036854775808) (w : World) : Calls Try.prog 19 #[.agg #[.int .u16 a, .int .u8 x, .int .i64 l]] w fun e w' => e = .returned (.agg #[.int .u16 (IntKind.u16.wrap (a + 1)), .int .u8 x, .int .i64 (l - 1)]) ∧ Adds w w' := by
  go_enter Try.func19, Try.ntmps19
  go_wp2_with fail
  exact bodyPost_ret (v := .agg #[.int .u16 (IntKind.u16.wrap (a + 1)), .int .u8 x, .int .i64 (l - 1)]) (by simp [results, Try.results19, go_sem]) rfl ⟨rfl, by (repeat (first | with_reducible exact Adds.refl _ | with_reducible apply Adds.drew | with_reducible apply Adds.drewN | with_reducible apply Adds.alloc | with_reducible apply Adds.more | (with_reducible refine Adds.setCell ?_ ?_ _) | (focus (simp [go_sem]; done)) | (focus (simp [go_sem]; omega))))⟩
@[go_sem] theorem dm_field (x v l : Int) (w : World) : (Instr.field 39 (.agg #[.int .u16 x, .int .u8 v, .int .i64 l]) 0).run Try.prog w = .ok (.agg #[.int .u16 x, .int .u8 v, .int .i64 l]) w := by kernel_rfl
@[go_sem] theorem dm_idx0 (p q r s : Int) (w : World) : (Instr.index 43 (.agg #[.int .u8 p, .int .u8 q, .int .u8 r, .int .u8 s]) (.int .i64 0)).run Try.prog w = .ok (.int .u8 p) w := by kernel_rfl
@[go_sem] theorem dm_idx1 (p q r s : Int) (w : World) : (Instr.index 43 (.agg #[.int .u8 p, .int .u8 q, .int .u8 r, .int .u8 s]) (.int .i64 1)).run Try.prog w = .ok (.int .u8 q) w := by kernel_rfl
@[go_sem] theorem dm_idx2 (p q r s : Int) (w : World) : (Instr.index 43 (.agg #[.int .u8 p, .int .u8 q, .int .u8 r, .int .u8 s]) (.int .i64 2)).run Try.prog w = .ok (.int .u8 r) w := by kernel_rfl
@[go_sem] theorem dm_idx3 (p q r s : Int) (w : World) : (Instr.index 43 (.agg #[.int .u8 p, .int .u8 q, .int .u8 r, .int .u8 s]) (.int .i64 3)).run Try.prog w = .ok (.int .u8 s) w := by kernel_rfl
theorem dm_w0 (a x l r v : Int) (a0 : 0 ≤ a) (a1 : a < 65536) (v0 : 0 ≤ v) (v1 : v < 256) (hr : r % 4 = 0) (w : World) : Calls Try.prog 16 #[.agg #[.int .u16 a, .int .u8 x, .int .i64 l], .int .i64 r, .int .u8 v] w fun e w' => e = .returned (.agg #[.int .u16 (S.joi (a / 256) v), .int .u8 x, .int .i64 l]) ∧ Adds w w' := by
  have hb : bits .and .i64 r 3 = 0 := by rw [S.dm_and3, hr]
  clear hr
  go_enter Try.func16, Try.ntmps16
  go_wp2_with (first | (go_at_call 22; refine (dm_high _ _ _ a0 a1 _).mono ?_; rintro e w' ⟨rfl, ⟨⟨n1, os1⟩, rfl⟩⟩) | (go_at_call 23; refine (dm_low _ _ _ a0 a1 _).mono ?_; rintro e w' ⟨rfl, ⟨⟨n1, os1⟩, rfl⟩⟩) | (go_at_call 21; refine (join_any _ _ (by omega) (by omega) (by omega) (by omega) _).mono ?_; rintro e w' ⟨rfl, rfl⟩))
  exact bodyPost_ret (v := .agg #[.int .u16 (S.joi (a / 256) v), .int .u8 x, .int .i64 l]) (by simp [results, Try.results16, go_sem]) rfl ⟨rfl, by (repeat (first | with_reducible exact Adds.refl _ | with_reducible apply Adds.drew | with_reducible apply Adds.drewN | with_reducible apply Adds.alloc | with_reducible apply Adds.more | (with_reducible refine Adds.setCell ?_ ?_ _) | (focus (simp [go_sem]; done)) | (focus (simp [go_sem]; omega))))⟩
theorem rdm_w0 (a x l r v : Int) (a0 : 0 ≤ a) (a1 : a < 65536) (v0 : 0 ≤ v) (v1 : v < 256) (hr : r % 4 = 0) (w : World) : Calls Try.prog 7 #[.agg #[.int .u16 a, .int .u8 x, .int .i64 l], .int .i64 r, .int .u8 v] w fun e w' => e = .returned (.agg #[.int .u16 (S.joi (a / 256) v), .int .u8 x, .int .i64 l]) ∧ Adds w w' := by
  have hb : bits .and .i64 r 3 = 0 := by rw [S.dm_and3, hr]
  have h2 := S.dm_or0 a v a0 a1
  have h3 := S.dm_or1 a v a0 a1 v0 v1
  clear hr
  go_enter Try.func7, Try.ntmps7
  go_wp2_with fail
  exact bodyPost_ret (v := .agg #[.int .u16 (S.joi (a / 256) v), .int .u8 x, .int .i64 l]) (by simp [results, Try.results7, go_sem]) rfl ⟨rfl, by (repeat (first | with_reducible exact Adds.refl _ | with_reducible apply Adds.drew | with_reducible apply Adds.drewN | with_reducible apply Adds.alloc | with_reducible apply Adds.more | (with_reducible refine Adds.setCell ?_ ?_ _) | (focus (simp [go_sem]; done)) | (focus (simp [go_sem]; omega))))⟩
theorem dm_wr0 (a x l r v : Int) (a0 : 0 ≤ a) (a1 : a < 65536) (v0 : 0 ≤ v) (v1 : v < 256) (hr : r % 4 = 0) (w : World) : Calls Try.prog 6 #[.agg #[.int .u16 a, .int .u8 x, .int .i64 l], .int .i64 r, .int .u8 v] w fun e w' => e = .returned (.agg #[.int .u16 (S.joi (a / 256) v), .int .u8 x, .int .i64 l]) ∧ Adds w w' := by
  go_enter Try.func6, Try.ntmps6
  go_wp2_with (go_at_call 16; refine (dm_w0 _ _ _ _ _ a0 a1 v0 v1 hr _).mono ?_; rintro e w' ⟨rfl, ⟨⟨n1, os1⟩, rfl⟩⟩)
  exact bodyPost_ret (v := .agg #[.int .u16 (S.joi (a / 256) v), .int .u8 x, .int .i64 l]) (by simp [results, Try.results6, go_sem]) rfl ⟨rfl, by (repeat (first | with_reducible exact Adds.refl _ | with_reducible apply Adds.drew | with_reducible apply Adds.drewN | with_reducible apply Adds.alloc | with_reducible apply Adds.more | (with_reducible refine Adds.setCell ?_ ?_ _) | (focus (simp [go_sem]; done)) | (focus (simp [go_sem]; omega))))⟩
theorem dm_w1 (a x l r v : Int) (a0 : 0 ≤ a) (a1 : a < 65536) (v0 : 0 ≤ v) (v1 : v < 256) (hr : r % 4 = 1) (w : World) : Calls Try.prog 16 #[.agg #[.int .u16 a, .int .u8 x, .int .i64 l], .int .i64 r, .int .u8 v] w fun e w' => e = .returned (.agg #[.int .u16 (S.joi v (a % 256)), .int .u8 x, .int .i64 l]) ∧ Adds w w' := by
  have hb : bits .and .i64 r 3 = 1 := by rw [S.dm_and3, hr]
  clear hr
  go_enter Try.func16, Try.ntmps16
  go_wp2_with (first | (go_at_call 22; refine (dm_high _ _ _ a0 a1 _).mono ?_; rintro e w' ⟨rfl, ⟨⟨n1, os1⟩, rfl⟩⟩) | (go_at_call 23; refine (dm_low _ _ _ a0 a1 _).mono ?_; rintro e w' ⟨rfl, ⟨⟨n1, os1⟩, rfl⟩⟩) | (go_at_call 21; refine (join_any _ _ (by omega) (by omega) (by omega) (by omega) _).mono ?_; rintro e w' ⟨rfl, rfl⟩))
  exact bodyPost_ret (v := .agg #[.int .u16 (S.joi v (a % 256)), .int .u8 x, .int .i64 l]) (by simp [results, Try.results16, go_sem]) rfl ⟨rfl, by (repeat (first | with_reducible exact Adds.refl _ | with_reducible apply Adds.drew | with_reducible apply Adds.drewN | with_reducible apply Adds.alloc | with_reducible apply Adds.more | (with_reducible refine Adds.setCell ?_ ?_ _) | (focus (simp [go_sem]; done)) | (focus (simp [go_sem]; omega))))⟩
theorem rdm_w1 (a x l r v : Int) (a0 : 0 ≤ a) (a1 : a < 65536) (v0 : 0 ≤ v) (v1 : v < 256) (hr : r % 4 = 1) (w : World) : Calls Try.prog 7 #[.agg #[.int .u16 a, .int .u8 x, .int .i64 l], .int .i64 r, .int .u8 v] w fun e w' => e = .returned (.agg #[.int .u16 (S.joi v (a % 256)), .int .u8 x, .int .i64 l]) ∧ Adds w w' := by
  have hb : bits .and .i64 r 3 = 1 := by rw [S.dm_and3, hr]
  have h2 := S.dm_or0 a v a0 a1
  have h3 := S.dm_or1 a v a0 a1 v0 v1
  clear hr
  go_enter Try.func7, Try.ntmps7
  go_wp2_with fail
  exact bodyPost_ret (v := .agg #[.int .u16 (S.joi v (a % 256)), .int .u8 x, .int .i64 l]) (by simp [results, Try.results7, go_sem]) rfl ⟨rfl, by (repeat (first | with_reducible exact Adds.refl _ | with_reducible apply Adds.drew | with_reducible apply Adds.drewN | with_reducible apply Adds.alloc | with_reducible apply Adds.more | (with_reducible refine Adds.setCell ?_ ?_ _) | (focus (simp [go_sem]; done)) | (focus (simp [go_sem]; omega))))⟩
theorem dm_wr1 (a x l r v : Int) (a0 : 0 ≤ a) (a1 : a < 65536) (v0 : 0 ≤ v) (v1 : v < 256) (hr : r % 4 = 1) (w : World) : Calls Try.prog 6 #[.agg #[.int .u16 a, .int .u8 x, .int .i64 l], .int .i64 r, .int .u8 v] w fun e w' => e = .returned (.agg #[.int .u16 (S.joi v (a % 256)), .int .u8 x, .int .i64 l]) ∧ Adds w w' := by
  go_enter Try.func6, Try.ntmps6
  go_wp2_with (go_at_call 16; refine (dm_w1 _ _ _ _ _ a0 a1 v0 v1 hr _).mono ?_; rintro e w' ⟨rfl, ⟨⟨n1, os1⟩, rfl⟩⟩)
  exact bodyPost_ret (v := .agg #[.int .u16 (S.joi v (a % 256)), .int .u8 x, .int .i64 l]) (by simp [results, Try.results6, go_sem]) rfl ⟨rfl, by (repeat (first | with_reducible exact Adds.refl _ | with_reducible apply Adds.drew | with_reducible apply Adds.drewN | with_reducible apply Adds.alloc | with_reducible apply Adds.more | (with_reducible refine Adds.setCell ?_ ?_ _) | (focus (simp [go_sem]; done)) | (focus (simp [go_sem]; omega))))⟩
theorem dm_w2 (a x l r v : Int) (a0 : 0 ≤ a) (a1 : a < 65536) (v0 : 0 ≤ v) (v1 : v < 256) (hr : r % 4 = 2) (w : World) : Calls Try.prog 16 #[.agg #[.int .u16 a, .int .u8 x, .int .i64 l], .int .i64 r, .int .u8 v] w fun e w' => e = .returned (.agg #[.int .u16 a, .int .u8 v, .int .i64 l]) ∧ Adds w w' := by
  have hb : bits .and .i64 r 3 = 2 := by rw [S.dm_and3, hr]
  clear hr
  go_enter Try.func16, Try.ntmps16
  go_wp2_with (first | (go_at_call 22; refine (dm_high _ _ _ a0 a1 _).mono ?_; rintro e w' ⟨rfl, ⟨⟨n1, os1⟩, rfl⟩⟩) | (go_at_call 23; refine (dm_low _ _ _ a0 a1 _).mono ?_; rintro e w' ⟨rfl, ⟨⟨n1, os1⟩, rfl⟩⟩) | (go_at_call 21; refine (join_any _ _ (by omega) (by omega) (by omega) (by omega) _).mono ?_; rintro e w' ⟨rfl, rfl⟩))
  exact bodyPost_ret (v := .agg #[.int .u16 a, .int .u8 v, .int .i64 l]) (by simp [results, Try.results16, go_sem]) rfl ⟨rfl, by (repeat (first | with_reducible exact Adds.refl _ | with_reducible apply Adds.drew | with_reducible apply Adds.drewN | with_reducible apply Adds.alloc | with_reducible apply Adds.more | (with_reducible refine Adds.setCell ?_ ?_ _) | (focus (simp [go_sem]; done)) | (focus (simp [go_sem]; omega))))⟩
theorem rdm_w2 (a x l r v : Int) (a0 : 0 ≤ a) (a1 : a < 65536) (v0 : 0 ≤ v) (v1 : v < 256) (hr : r % 4 = 2) (w : World) : Calls Try.prog 7 #[.agg #[.int .u16 a, .int .u8 x, .int .i64 l], .int .i64 r, .int .u8 v] w fun e w' => e = .returned (.agg #[.int .u16 a, .int .u8 v, .int .i64 l]) ∧ Adds w w' := by
  have hb : bits .and .i64 r 3 = 2 := by rw [S.dm_and3, hr]
  have h2 := S.dm_or0 a v a0 a1
  have h3 := S.dm_or1 a v a0 a1 v0 v1
  clear hr
  go_enter Try.func7, Try.ntmps7
  go_wp2_with fail
  exact bodyPost_ret (v := .agg #[.int .u16 a, .int .u8 v, .int .i64 l]) (by simp [results, Try.results7, go_sem]) rfl ⟨rfl, by (repeat (first | with_reducible exact Adds.refl _ | with_reducible apply Adds.drew | with_reducible apply Adds.drewN | with_reducible apply Adds.alloc | with_reducible apply Adds.more | (with_reducible refine Adds.setCell ?_ ?_ _) | (focus (simp [go_sem]; done)) | (focus (simp [go_sem]; omega))))⟩
theorem dm_wr2 (a x l r v : Int) (a0 : 0 ≤ a) (a1 : a < 65536) (v0 : 0 ≤ v) (v1 : v < 256) (hr : r % 4 = 2) (w : World) : Calls Try.prog 6 #[.agg #[.int .u16 a, .int .u8 x, .int .i64 l], .int .i64 r, .int .u8 v] w fun e w' => e = .returned (.agg #[.int .u16 a, .int .u8 v, .int .i64 l]) ∧ Adds w w' := by
  go_enter Try.func6, Try.ntmps6
  go_wp2_with (go_at_call 16; refine (dm_w2 _ _ _ _ _ a0 a1 v0 v1 hr _).mono ?_; rintro e w' ⟨rfl, ⟨⟨n1, os1⟩, rfl⟩⟩)
  exact bodyPost_ret (v := .agg #[.int .u16 a, .int .u8 v, .int .i64 l]) (by simp [results, Try.results6, go_sem]) rfl ⟨rfl, by (repeat (first | with_reducible exact Adds.refl _ | with_reducible apply Adds.drew | with_reducible apply Adds.drewN | with_reducible apply Adds.alloc | with_reducible apply Adds.more | (with_reducible refine Adds.setCell ?_ ?_ _) | (focus (simp [go_sem]; done)) | (focus (simp [go_sem]; omega))))⟩
theorem dm_w3 (a x l r v : Int) (a0 : 0 ≤ a) (a1 : a < 65536) (v0 : 0 ≤ v) (v1 : v < 256) (hr : r % 4 = 3) (w : World) : Calls Try.prog 16 #[.agg #[.int .u16 a, .int .u8 x, .int .i64 l], .int .i64 r, .int .u8 v] w fun e w' => e = .returned (.agg #[.int .u16 a, .int .u8 x, .int .i64 v]) ∧ Adds w w' := by
  have hb : bits .and .i64 r 3 = 3 := by rw [S.dm_and3, hr]
  clear hr
  go_enter Try.func16, Try.ntmps16
  go_wp2_with (first | (go_at_call 22; refine (dm_high _ _ _ a0 a1 _).mono ?_; rintro e w' ⟨rfl, ⟨⟨n1, os1⟩, rfl⟩⟩) | (go_at_call 23; refine (dm_low _ _ _ a0 a1 _).mono ?_; rintro e w' ⟨rfl, ⟨⟨n1, os1⟩, rfl⟩⟩) | (go_at_call 21; refine (join_any _ _ (by omega) (by omega) (by omega) (by omega) _).mono ?_; rintro e w' ⟨rfl, rfl⟩))
  exact bodyPost_ret (v := .agg #[.int .u16 a, .int .u8 x, .int .i64 v]) (by simp [results, Try.results16, go_sem]) rfl ⟨rfl, by (repeat (first | with_reducible exact Adds.refl _ | with_reducible apply Adds.drew | with_reducible apply Adds.drewN | with_reducible apply Adds.alloc | with_reducible apply Adds.more | (with_reducible refine Adds.setCell ?_ ?_ _) | (focus (simp [go_sem]; done)) | (focus (simp [go_sem]; omega))))⟩
theorem rdm_w3 (a x l r v : Int) (a0 : 0 ≤ a) (a1 : a < 65536) (v0 : 0 ≤ v) (v1 : v < 256) (hr : r % 4 = 3) (w : World) : Calls Try.prog 7 #[.agg #[.int .u16 a, .int .u8 x, .int .i64 l], .int .i64 r, .int .u8 v] w fun e w' => e = .returned (.agg #[.int .u16 a, .int .u8 x, .int .i64 v]) ∧ Adds w w' := by
  have hb : bits .and .i64 r 3 = 3 := by rw [S.dm_and3, hr]
  have h2 := S.dm_or0 a v a0 a1
  have h3 := S.dm_or1 a v a0 a1 v0 v1
  clear hr
  go_enter Try.func7, Try.ntmps7
  go_wp2_with fail
  exact bodyPost_ret (v := .agg #[.int .u16 a, .int .u8 x, .int .i64 v]) (by simp [results, Try.results7, go_sem]) rfl ⟨rfl, by (repeat (first | with_reducible exact Adds.refl _ | with_reducible apply Adds.drew | with_reducible apply Adds.drewN | with_reducible apply Adds.alloc | with_reducible apply Adds.more | (with_reducible refine Adds.setCell ?_ ?_ _) | (focus (simp [go_sem]; done)) | (focus (simp [go_sem]; omega))))⟩
theorem dm_wr3 (a x l r v : Int) (a0 : 0 ≤ a) (a1 : a < 65536) (v0 : 0 ≤ v) (v1 : v < 256) (hr : r % 4 = 3) (w : World) : Calls Try.prog 6 #[.agg #[.int .u16 a, .int .u8 x, .int .i64 l], .int .i64 r, .int .u8 v] w fun e w' => e = .returned (.agg #[.int .u16 a, .int .u8 x, .int .i64 v]) ∧ Adds w w' := by
  go_enter Try.func6, Try.ntmps6
  go_wp2_with (go_at_call 16; refine (dm_w3 _ _ _ _ _ a0 a1 v0 v1 hr _).mono ?_; rintro e w' ⟨rfl, ⟨⟨n1, os1⟩, rfl⟩⟩)
  exact bodyPost_ret (v := .agg #[.int .u16 a, .int .u8 x, .int .i64 v]) (by simp [results, Try.results6, go_sem]) rfl ⟨rfl, by (repeat (first | with_reducible exact Adds.refl _ | with_reducible apply Adds.drew | with_reducible apply Adds.drewN | with_reducible apply Adds.alloc | with_reducible apply Adds.more | (with_reducible refine Adds.setCell ?_ ?_ _) | (focus (simp [go_sem]; done)) | (focus (simp [go_sem]; omega))))⟩
theorem dm_r0 (a x l r : Int) (a0 : 0 ≤ a) (a1 : a < 65536) (hr : r % 4 = 0) (w : World) : Calls Try.prog 17 #[.agg #[.int .u16 a, .int .u8 x, .int .i64 l], .int .i64 r] w fun e w' => e = .returned (.int .u8 (a % 256)) ∧ Adds w w' := by
  have hb : bits .and .i64 r 3 = 0 := by rw [S.dm_and3, hr]
  clear hr
  go_enter Try.func17, Try.ntmps17
  go_wp2_with (first | (go_at_call 22; refine (dm_high _ _ _ a0 a1 _).mono ?_; rintro e w' ⟨rfl, ⟨⟨n1, os1⟩, rfl⟩⟩) | (go_at_call 23; refine (dm_low _ _ _ a0 a1 _).mono ?_; rintro e w' ⟨rfl, ⟨⟨n1, os1⟩, rfl⟩⟩))
  go_ret
  exact ⟨rfl, by (repeat (first | with_reducible exact Adds.refl _ | with_reducible apply Adds.drew | with_reducible apply Adds.drewN | with_reducible apply Adds.alloc | with_reducible apply Adds.more | (with_reducible refine Adds.setCell ?_ ?_ _) | (focus (simp [go_sem]; done)) | (focus (simp [go_sem]; omega))))⟩
theorem rdm_r0 (a x l r : Int) (a0 : 0 ≤ a) (a1 : a < 65536) (hr : r % 4 = 0) (w : World) : Calls Try.prog 9 #[.agg #[.int .u16 a, .int .u8 x, .int .i64 l], .int .i64 r] w fun e w' => e = .returned (.int .u8 (a % 256)) ∧ Adds w w' := by
  have hb : bits .and .i64 r 3 = 0 := by rw [S.dm_and3, hr]
  clear hr
  go_enter Try.func9, Try.ntmps9
  go_wp2_with fail
  go_ret
  exact ⟨ri (by simp <;> omega), by (repeat (first | with_reducible exact Adds.refl _ | with_reducible apply Adds.drew | with_reducible apply Adds.drewN | with_reducible apply Adds.alloc | with_reducible apply Adds.more | (with_reducible refine Adds.setCell ?_ ?_ _) | (focus (simp [go_sem]; done)) | (focus (simp [go_sem]; omega))))⟩
theorem dm_rd0 (a x l r : Int) (a0 : 0 ≤ a) (a1 : a < 65536) (hr : r % 4 = 0) (w : World) : Calls Try.prog 8 #[.agg #[.int .u16 a, .int .u8 x, .int .i64 l], .int .i64 r] w fun e w' => e = .returned (.int .u8 (a % 256)) ∧ Adds w w' := by
  go_enter Try.func8, Try.ntmps8
  go_wp2_with (go_at_call 17; refine (dm_r0 _ _ _ _ a0 a1 hr _).mono ?_; rintro e w' ⟨rfl, ⟨⟨n1, os1⟩, rfl⟩⟩)
  go_ret
  exact ⟨rfl, by (repeat (first | with_reducible exact Adds.refl _ | with_reducible apply Adds.drew | with_reducible apply Adds.drewN | with_reducible apply Adds.alloc | with_reducible apply Adds.more | (with_reducible refine Adds.setCell ?_ ?_ _) | (focus (simp [go_sem]; done)) | (focus (simp [go_sem]; omega))))⟩
theorem dm_r1 (a x l r : Int) (a0 : 0 ≤ a) (a1 : a < 65536) (hr : r % 4 = 1) (w : World) : Calls Try.prog 17 #[.agg #[.int .u16 a, .int .u8 x, .int .i64 l], .int .i64 r] w fun e w' => e = .returned (.int .u8 (a / 256)) ∧ Adds w w' := by
  have hb : bits .and .i64 r 3 = 1 := by rw [S.dm_and3, hr]
  clear hr
  go_enter Try.func17, Try.ntmps17
  go_wp2_with (first | (go_at_call 22; refine (dm_high _ _ _ a0 a1 _).mono ?_; rintro e w' ⟨rfl, ⟨⟨n1, os1⟩, rfl⟩⟩) | (go_at_call 23; refine (dm_low _ _ _ a0 a1 _).mono ?_; rintro e w' ⟨rfl, ⟨⟨n1, os1⟩, rfl⟩⟩))
  go_ret
  exact ⟨rfl, by (repeat (first | with_reducible exact Adds.refl _ | with_reducible apply Adds.drew | with_reducible apply Adds.drewN | with_reducible apply Adds.alloc | with_reducible apply Adds.more | (with_reducible refine Adds.setCell ?_ ?_ _) | (focus (simp [go_sem]; done)) | (focus (simp [go_sem]; omega))))⟩
theorem rdm_r1 (a x l r : Int) (a0 : 0 ≤ a) (a1 : a < 65536) (hr : r % 4 = 1) (w : World) : Calls Try.prog 9 #[.agg #[.int .u16 a, .int .u8 x, .int .i64 l], .int .i64 r] w fun e w' => e = .returned (.int .u8 (a / 256)) ∧ Adds w w' := by
  have hb : bits .and .i64 r 3 = 1 := by rw [S.dm_and3, hr]
  clear hr
  go_enter Try.func9, Try.ntmps9
  go_wp2_with fail
  go_ret
  exact ⟨ri (by simp <;> omega), by (repeat (first | with_reducible exact Adds.refl _ | with_reducible apply Adds.drew | with_reducible apply Adds.drewN | with_reducible apply Adds.alloc | with_reducible apply Adds.more | (with_reducible refine Adds.setCell ?_ ?_ _) | (focus (simp [go_sem]; done)) | (focus (simp [go_sem]; omega))))⟩
theorem dm_rd1 (a x l r : Int) (a0 : 0 ≤ a) (a1 : a < 65536) (hr : r % 4 = 1) (w : World) : Calls Try.prog 8 #[.agg #[.int .u16 a, .int .u8 x, .int .i64 l], .int .i64 r] w fun e w' => e = .returned (.int .u8 (a / 256)) ∧ Adds w w' := by
  go_enter Try.func8, Try.ntmps8
  go_wp2_with (go_at_call 17; refine (dm_r1 _ _ _ _ a0 a1 hr _).mono ?_; rintro e w' ⟨rfl, ⟨⟨n1, os1⟩, rfl⟩⟩)
  go_ret
  exact ⟨rfl, by (repeat (first | with_reducible exact Adds.refl _ | with_reducible apply Adds.drew | with_reducible apply Adds.drewN | with_reducible apply Adds.alloc | with_reducible apply Adds.more | (with_reducible refine Adds.setCell ?_ ?_ _) | (focus (simp [go_sem]; done)) | (focus (simp [go_sem]; omega))))⟩
theorem dm_r2 (a x l r : Int) (a0 : 0 ≤ a) (a1 : a < 65536) (hr : r % 4 = 2) (w : World) : Calls Try.prog 17 #[.agg #[.int .u16 a, .int .u8 x, .int .i64 l], .int .i64 r] w fun e w' => e = .returned (.int .u8 x) ∧ Adds w w' := by
  have hb : bits .and .i64 r 3 = 2 := by rw [S.dm_and3, hr]
  clear hr
  go_enter Try.func17, Try.ntmps17
  go_wp2_with (first | (go_at_call 22; refine (dm_high _ _ _ a0 a1 _).mono ?_; rintro e w' ⟨rfl, ⟨⟨n1, os1⟩, rfl⟩⟩) | (go_at_call 23; refine (dm_low _ _ _ a0 a1 _).mono ?_; rintro e w' ⟨rfl, ⟨⟨n1, os1⟩, rfl⟩⟩))
  go_ret
  exact ⟨rfl, by (repeat (first | with_reducible exact Adds.refl _ | with_reducible apply Adds.drew | with_reducible apply Adds.drewN | with_reducible apply Adds.alloc | with_reducible apply Adds.more | (with_reducible refine Adds.setCell ?_ ?_ _) | (focus (simp [go_sem]; done)) | (focus (simp [go_sem]; omega))))⟩
theorem rdm_r2 (a x l r : Int) (a0 : 0 ≤ a) (a1 : a < 65536) (hr : r % 4 = 2) (w : World) : Calls Try.prog 9 #[.agg #[.int .u16 a, .int .u8 x, .int .i64 l], .int .i64 r] w fun e w' => e = .returned (.int .u8 x) ∧ Adds w w' := by
  have hb : bits .and .i64 r 3 = 2 := by rw [S.dm_and3, hr]
  clear hr
  go_enter Try.func9, Try.ntmps9
  go_wp2_with fail
  go_ret
  exact ⟨ri (by simp <;> omega), by (repeat (first | with_reducible exact Adds.refl _ | with_reducible apply Adds.drew | with_reducible apply Adds.drewN | with_reducible apply Adds.alloc | with_reducible apply Adds.more | (with_reducible refine Adds.setCell ?_ ?_ _) | (focus (simp [go_sem]; done)) | (focus (simp [go_sem]; omega))))⟩
theorem dm_rd2 (a x l r : Int) (a0 : 0 ≤ a) (a1 : a < 65536) (hr : r % 4 = 2) (w : World) : Calls Try.prog 8 #[.agg #[.int .u16 a, .int .u8 x, .int .i64 l], .int .i64 r] w fun e w' => e = .returned (.int .u8 x) ∧ Adds w w' := by
  go_enter Try.func8, Try.ntmps8
  go_wp2_with (go_at_call 17; refine (dm_r2 _ _ _ _ a0 a1 hr _).mono ?_; rintro e w' ⟨rfl, ⟨⟨n1, os1⟩, rfl⟩⟩)
  go_ret
  exact ⟨rfl, by (repeat (first | with_reducible exact Adds.refl _ | with_reducible apply Adds.drew | with_reducible apply Adds.drewN | with_reducible apply Adds.alloc | with_reducible apply Adds.more | (with_reducible refine Adds.setCell ?_ ?_ _) | (focus (simp [go_sem]; done)) | (focus (simp [go_sem]; omega))))⟩
theorem dm_r3 (a x l r : Int) (a0 : 0 ≤ a) (a1 : a < 65536) (hr : r % 4 = 3) (w : World) : Calls Try.prog 17 #[.agg #[.int .u16 a, .int .u8 x, .int .i64 l], .int .i64 r] w fun e w' => e = .returned (.int .u8 (l % 256)) ∧ Adds w w' := by
  have hb : bits .and .i64 r 3 = 3 := by rw [S.dm_and3, hr]
  clear hr
  go_enter Try.func17, Try.ntmps17
  go_wp2_with (first | (go_at_call 22; refine (dm_high _ _ _ a0 a1 _).mono ?_; rintro e w' ⟨rfl, ⟨⟨n1, os1⟩, rfl⟩⟩) | (go_at_call 23; refine (dm_low _ _ _ a0 a1 _).mono ?_; rintro e w' ⟨rfl, ⟨⟨n1, os1⟩, rfl⟩⟩))
  go_ret
  exact ⟨rfl, by (repeat (first | with_reducible exact Adds.refl _ | with_reducible apply Adds.drew | with_reducible apply Adds.drewN | with_reducible apply Adds.alloc | with_reducible apply Adds.more | (with_reducible refine Adds.setCell ?_ ?_ _) | (focus (simp [go_sem]; done)) | (focus (simp [go_sem]; omega))))⟩
theorem rdm_r3 (a x l r : Int) (a0 : 0 ≤ a) (a1 : a < 65536) (hr : r % 4 = 3) (w : World) : Calls Try.prog 9 #[.agg #[.int .u16 a, .int .u8 x, .int .i64 l], .int .i64 r] w fun e w' => e = .returned (.int .u8 (l % 256)) ∧ Adds w w' := by
  have hb : bits .and .i64 r 3 = 3 := by rw [S.dm_and3, hr]
  clear hr
  go_enter Try.func9, Try.ntmps9
  go_wp2_with fail
  go_ret
  exact ⟨ri (by simp <;> omega), by (repeat (first | with_reducible exact Adds.refl _ | with_reducible apply Adds.drew | with_reducible apply Adds.drewN | with_reducible apply Adds.alloc | with_reducible apply Adds.more | (with_reducible refine Adds.setCell ?_ ?_ _) | (focus (simp [go_sem]; done)) | (focus (simp [go_sem]; omega))))⟩
theorem dm_rd3 (a x l r : Int) (a0 : 0 ≤ a) (a1 : a < 65536) (hr : r % 4 = 3) (w : World) : Calls Try.prog 8 #[.agg #[.int .u16 a, .int .u8 x, .int .i64 l], .int .i64 r] w fun e w' => e = .returned (.int .u8 (l % 256)) ∧ Adds w w' := by
  go_enter Try.func8, Try.ntmps8
  go_wp2_with (go_at_call 17; refine (dm_r3 _ _ _ _ a0 a1 hr _).mono ?_; rintro e w' ⟨rfl, ⟨⟨n1, os1⟩, rfl⟩⟩)
  go_ret
  exact ⟨rfl, by (repeat (first | with_reducible exact Adds.refl _ | with_reducible apply Adds.drew | with_reducible apply Adds.drewN | with_reducible apply Adds.alloc | with_reducible apply Adds.more | (with_reducible refine Adds.setCell ?_ ?_ _) | (focus (simp [go_sem]; done)) | (focus (simp [go_sem]; omega))))⟩
theorem dm_four (r : Int) : r % 4 = 0 ∨ r % 4 = 1 ∨ r % 4 = 2 ∨ r % 4 = 3 := by omega
theorem dma_wr (a x l r v : Int) (a0 : 0 ≤ a) (a1 : a < 65536) (v0 : 0 ≤ v) (v1 : v < 256) (w : World) : Calls Try.prog 6 #[.agg #[.int .u16 a, .int .u8 x, .int .i64 l], .int .i64 r, .int .u8 v] w fun e w' => e = .returned (.agg #[.int .u16 (S.dmA r a v), .int .u8 (S.dmV r x v), .int .i64 (S.dmL r l v)]) ∧ Adds w w' := by
  rcases dm_four r with h | h | h | h
  · simpa [S.dmA, S.dmV, S.dmL, h] using dm_wr0 a x l r v a0 a1 v0 v1 h w
  · simpa [S.dmA, S.dmV, S.dmL, h] using dm_wr1 a x l r v a0 a1 v0 v1 h w
  · simpa [S.dmA, S.dmV, S.dmL, h] using dm_wr2 a x l r v a0 a1 v0 v1 h w
  · simpa [S.dmA, S.dmV, S.dmL, h] using dm_wr3 a x l r v a0 a1 v0 v1 h w
theorem dma_rwr (a x l r v : Int) (a0 : 0 ≤ a) (a1 : a < 65536) (v0 : 0 ≤ v) (v1 : v < 256) (w : World) : Calls Try.prog 7 #[.agg #[.int .u16 a, .int .u8 x, .int .i64 l], .int .i64 r, .int .u8 v] w fun e w' => e = .returned (.agg #[.int .u16 (S.dmA r a v), .int .u8 (S.dmV r x v), .int .i64 (S.dmL r l v)]) ∧ Adds w w' := by
  rcases dm_four r with h | h | h | h
  · simpa [S.dmA, S.dmV, S.dmL, h] using rdm_w0 a x l r v a0 a1 v0 v1 h w
  · simpa [S.dmA, S.dmV, S.dmL, h] using rdm_w1 a x l r v a0 a1 v0 v1 h w
  · simpa [S.dmA, S.dmV, S.dmL, h] using rdm_w2 a x l r v a0 a1 v0 v1 h w
  · simpa [S.dmA, S.dmV, S.dmL, h] using rdm_w3 a x l r v a0 a1 v0 v1 h w
theorem dma_rd (a x l r : Int) (a0 : 0 ≤ a) (a1 : a < 65536) (w : World) : Calls Try.prog 8 #[.agg #[.int .u16 a, .int .u8 x, .int .i64 l], .int .i64 r] w fun e w' => e = .returned (.int .u8 (S.dmR r a x l)) ∧ Adds w w' := by
  rcases dm_four r with h | h | h | h
  · simpa [S.dmR, h] using dm_rd0 a x l r a0 a1 h w
  · simpa [S.dmR, h] using dm_rd1 a x l r a0 a1 h w
  · simpa [S.dmR, h] using dm_rd2 a x l r a0 a1 h w
  · simpa [S.dmR, h] using dm_rd3 a x l r a0 a1 h w
theorem dma_rrd (a x l r : Int) (a0 : 0 ≤ a) (a1 : a < 65536) (w : World) : Calls Try.prog 9 #[.agg #[.int .u16 a, .int .u8 x, .int .i64 l], .int .i64 r] w fun e w' => e = .returned (.int .u8 (S.dmR r a x l)) ∧ Adds w w' := by
  rcases dm_four r with h | h | h | h
  · simpa [S.dmR, h] using rdm_r0 a x l r a0 a1 h w
  · simpa [S.dmR, h] using rdm_r1 a x l r a0 a1 h w
  · simpa [S.dmR, h] using rdm_r2 a x l r a0 a1 h w
  · simpa [S.dmR, h] using rdm_r3 a x l r a0 a1 h w
set_option maxHeartbeats 4000000 in
theorem dma_tr (a x l : Int) (l0 : 0 < l) (l1 : l < 9223372036854775808) (w : World) : Calls Try.prog 12 #[.agg #[.int .u16 a, .int .u8 x, .int .i64 l]] w fun e w' => e = .returned (.tuple #[.agg #[.int .u16 (IntKind.u16.wrap (a + 1)), .int .u8 x, .int .i64 (l - 1)], .agg #[.int .u16 a, .int .u8 x], .bool true]) ∧ Adds w w' := by
  have hd : decide (0 < l) = true := decide_eq_true l0
  go_enter Try.func12, Try.ntmps12
  go_wp2_with (go_at_call 18; refine (dm_reqs _ _ _ _).mono ?_; rintro e w' ⟨rfl, ⟨⟨n1, os1⟩, rfl⟩⟩)
  go_region_with (first | (go_at_call 19; refine (dm_adv _ _ _ l0 l1 _).mono ?_; rintro e w' ⟨rfl, ⟨⟨n2, os2⟩, rfl⟩⟩) | (go_at_call 20; refine (dm_cell _ _ _ _).mono ?_; rintro e w' ⟨rfl, ⟨⟨n3, os3⟩, rfl⟩⟩))
  all_goals go_wp2_with fail
  all_goals exact bodyPost_ret (v := .tuple #[.agg #[.int .u16 (IntKind.u16.wrap (a + 1)), .int .u8 x, .int .i64 (l - 1)], .agg #[.int .u16 a, .int .u8 x], .bool true]) (by simp [results, Try.results12, go_sem]) rfl ⟨rfl, by (repeat (first | with_reducible exact Adds.refl _ | with_reducible apply Adds.drew | with_reducible apply Adds.drewN | with_reducible apply Adds.alloc | with_reducible apply Adds.more | (with_reducible refine Adds.setCell ?_ ?_ _) | (focus (simp [go_sem]; done)) | (focus (simp [go_sem]; omega))))⟩
theorem dma_tr0 (a x l : Int) (l0 : ¬0 < l) (w : World) : Calls Try.prog 12 #[.agg #[.int .u16 a, .int .u8 x, .int .i64 l]] w fun e w' => e = .returned (.tuple #[.agg #[.int .u16 0, .int .u8 0, .int .i64 0], .agg #[.int .u16 0, .int .u8 0], .bool false]) ∧ Adds w w' := by
  have hd : decide (0 < l) = false := decide_eq_false l0
  go_enter Try.func12, Try.ntmps12
  go_wp2_with (go_at_call 18; refine (dm_reqs _ _ _ _).mono ?_; rintro e w' ⟨rfl, ⟨⟨n1, os1⟩, rfl⟩⟩)
  all_goals exact bodyPost_ret (v := .tuple #[.agg #[.int .u16 0, .int .u8 0, .int .i64 0], .agg #[.int .u16 0, .int .u8 0], .bool false]) (by simp [results, Try.results12, go_sem]) rfl ⟨rfl, by (repeat (first | with_reducible exact Adds.refl _ | with_reducible apply Adds.drew | with_reducible apply Adds.drewN | with_reducible apply Adds.alloc | with_reducible apply Adds.more | (with_reducible refine Adds.setCell ?_ ?_ _) | (focus (simp [go_sem]; done)) | (focus (simp [go_sem]; omega))))⟩
set_option maxHeartbeats 4000000 in
theorem dma_rtr (a x l : Int) (l0 : 0 < l) (l1 : l < 9223372036854775808) (w : World) : Calls Try.prog 13 #[.agg #[.int .u16 a, .int .u8 x, .int .i64 l]] w fun e w' => e = .returned (.tuple #[.agg #[.int .u16 (IntKind.u16.wrap (a + 1)), .int .u8 x, .int .i64 (l - 1)], .agg #[.int .u16 a, .int .u8 x], .bool true]) ∧ Adds w w' := by
  have hd : decide (0 < l) = true := decide_eq_true l0
  go_enter Try.func13, Try.ntmps13
  go_wp2_with (go_at_call 15; refine (rdm_req _ _ _ _).mono ?_; rintro e w' ⟨rfl, ⟨⟨n1, os1⟩, rfl⟩⟩)
  go_region
  all_goals go_wp2_with fail
  all_goals exact bodyPost_ret (v := .tuple #[.agg #[.int .u16 (IntKind.u16.wrap (a + 1)), .int .u8 x, .int .i64 (l - 1)], .agg #[.int .u16 a, .int .u8 x], .bool true]) (by simp [results, Try.results13, go_sem]) rfl ⟨rfl, by (repeat (first | with_reducible exact Adds.refl _ | with_reducible apply Adds.drew | with_reducible apply Adds.drewN | with_reducible apply Adds.alloc | with_reducible apply Adds.more | (with_reducible refine Adds.setCell ?_ ?_ _) | (focus (simp [go_sem]; done)) | (focus (simp [go_sem]; omega))))⟩
theorem dma_rtr0 (a x l : Int) (l0 : ¬0 < l) (w : World) : Calls Try.prog 13 #[.agg #[.int .u16 a, .int .u8 x, .int .i64 l]] w fun e w' => e = .returned (.tuple #[.agg #[.int .u16 0, .int .u8 0, .int .i64 0], .agg #[.int .u16 0, .int .u8 0], .bool false]) ∧ Adds w w' := by
  have hd : decide (0 < l) = false := decide_eq_false l0
  go_enter Try.func13, Try.ntmps13
  go_wp2_with (go_at_call 15; refine (rdm_req _ _ _ _).mono ?_; rintro e w' ⟨rfl, ⟨⟨n1, os1⟩, rfl⟩⟩)
  all_goals exact bodyPost_ret (v := .tuple #[.agg #[.int .u16 0, .int .u8 0, .int .i64 0], .agg #[.int .u16 0, .int .u8 0], .bool false]) (by simp [results, Try.results13, go_sem]) rfl ⟨rfl, by (repeat (first | with_reducible exact Adds.refl _ | with_reducible apply Adds.drew | with_reducible apply Adds.drewN | with_reducible apply Adds.alloc | with_reducible apply Adds.more | (with_reducible refine Adds.setCell ?_ ?_ _) | (focus (simp [go_sem]; done)) | (focus (simp [go_sem]; omega))))⟩
end Go.Proofs.Ytnjnodcakiekmaa
