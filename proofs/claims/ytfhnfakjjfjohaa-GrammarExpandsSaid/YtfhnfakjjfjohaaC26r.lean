/- Contract of the reference's states at every item. No condition. -/
import Derived.Test.YtfhnfakjjfjohaaC26p
namespace Go.Proofs.Ytfhnfakjjfjohaa
open Go.ChangeShapes Go.WideShapes Go.ChangeAt Go.RowKit
set_option linter.unusedVariables false
@[go_sem] theorem index_st0 (w : World) : (Instr.index 27 (.agg #[.int .i64 8, .int .i64 9, .int .i64 10]) (.int .i64 0)).run Try.prog w = .ok (.int .i64 8) w := by kernel_rfl
@[go_sem] theorem index_st1 (w : World) : (Instr.index 27 (.agg #[.int .i64 8, .int .i64 9, .int .i64 10]) (.int .i64 1)).run Try.prog w = .ok (.int .i64 9) w := by kernel_rfl
@[go_sem] theorem index_st2 (w : World) : (Instr.index 27 (.agg #[.int .i64 8, .int .i64 9, .int .i64 10]) (.int .i64 2)).run Try.prog w = .ok (.int .i64 10) w := by kernel_rfl
set_option maxRecDepth 100000 in
set_option maxHeartbeats 4000000 in
theorem rstates_k2 (k c a d s ww n : Int) (e o : Bool) (hk : k = 2) (w : World) :
    Calls Try.prog 25 #[.agg #[.int .i64 k, .int .i64 c, .int .u16 a, .int .u8 d, .int .i64 s, .int .i64 ww, .int .i64 n, .bool e, .bool o]] w fun r w' =>
      ∃ v, r = .returned v ∧ OwnsZ w' w.heap.size v (List.replicate (S.lim n).toNat 8) ∧ Adds w w' := by
  subst hk
  obtain ⟨w1, e5⟩ : ∃ z, (if 65536 < n then 65536 else n) = z := ⟨_, rfl⟩
  obtain ⟨hlw, hw1⟩ := lim_if n w1 e5
  obtain ⟨lw, hl⟩ : ∃ z, (S.lim n).toNat = z := ⟨_, rfl⟩
  have hlb := S.lim_bd n
  rw [hl] at hlw ⊢
  have hl6 : lw ≤ 65536 := by omega
  have HLW := Lib.hid hlw
  clear hl hlw hlb
  go_enter Try.func25, Try.ntmps25
  go_wp2_with fail
  have HW := Lib.hid (show (w.alloc (.cells #[.int .i64 2, .int .i64 c, .int .u16 a, .int .u8 d, .int .i64 s, .int .i64 ww, .int .i64 n, .bool e, .bool o] 44)).cell? ⟨w.heap.size, 6, none⟩ = some (.int .i64 n) ∧ (w.alloc (.cells #[.int .i64 2, .int .i64 c, .int .u16 a, .int .u8 d, .int .i64 s, .int .i64 ww, .int .i64 n, .bool e, .bool o] 44)).cell? ⟨w.heap.size, 0, none⟩ = some (.int .i64 2) by simp [go_sem])
  have h1w : (w.alloc (.cells #[.int .i64 2, .int .i64 c, .int .u16 a, .int .u8 d, .int .i64 s, .int .i64 ww, .int .i64 n, .bool e, .bool o] 44)).heap.size = w.heap.size + 1 := World.size_alloc ..
  go_loopw [3, 8] (fun v i wr => ∃ (t nn : Nat) (ad : Option Addr) (cc : Nat), t ≤ lw ∧ v = .slice ad nn cc ∧ i = .int .i64 (t : Int) ∧ Hid (OwnsZ wr (w.heap.size + 1) (.slice ad nn cc) (List.replicate t 8)) ∧ Hid (Adds (w.alloc (.cells #[.int .i64 2, .int .i64 c, .int .u16 a, .int .u8 d, .int .i64 s, .int .i64 ww, .int .i64 n, .bool e, .bool o] 44)) wr)) (fun _ i _ => lw - (intOf i).toNat)
  case atStart => exact ⟨0, 0, none, 0, Nat.zero_le _, rfl, rfl, OwnsG.nil _ _, Adds.refl _⟩
  case round =>
    obtain ⟨t, nn, ad, cc, ht, rfl, rfl, HO5, HA5⟩ := hrel
    rename World => w5
    have hw5 := HA5.out.size
    have hcw : w5.cell? ⟨w.heap.size, 6, none⟩ = some (.int .i64 n) := (HA5.out.cell (by omega)).trans HW.out.1
    have hck : w5.cell? ⟨w.heap.size, 0, none⟩ = some (.int .i64 2) := (HA5.out.cell (by omega)).trans HW.out.2
    have hwl : w.heap.size < w5.heap.size := by omega
    have hlw := HLW.out
    have HUL := Lib.hid (show (List.replicate t (8 : Int)).length ≤ 1000000 by simp; omega)
    by_cases hlt2 : t < lw
    · have q2 : (t : Int) < w1 := by omega
      clear hlw
      go_wp2_with (at_builtin; refine wpList_appZ1 rfl _ _ rfl (w.heap.size + 1) (.slice ad nn cc) _ rfl 8 _ _ w5.heap.size rfl rfl rfl HO5.out (by have := HO5.out.len; have := HUL.out; simp at *; omega) (by omega) ?_; intro v6 w6 hO6 hG6; obtain ⟨ad6, n6, c6, rfl, -, -, -, -, -⟩ := hO6.form2; have HO6 := Lib.hid hO6; have HG6 := Lib.hid hG6; clear hO6 hG6)
      have HA6 := Lib.hid (AddsG.grown HA5.out HG6.out (show OwnsZ w5 (w.alloc (.cells #[.int .i64 2, .int .i64 c, .int .u16 a, .int .u8 d, .int .i64 s, .int .i64 ww, .int .i64 n, .bool e, .bool o] 44)).heap.size _ _ by rw [h1w]; exact HO5.out))
      go_roundw
      case rel => exact ⟨t + 1, n6, ad6, c6, by omega, rfl, by go_num, by rw [List.replicate_succ']; exact HO6.out, HA6⟩
      case measure => simp [intOf]; omega
    · have q2 : ¬ (t : Int) < w1 := by omega
      obtain rfl : t = lw := by omega
      clear hlw
      go_wp2_with fail
      go_ret
      exact ⟨_, rfl, HO5.out.mono (by omega), Adds.trans (by (repeat (first | with_reducible exact Adds.refl _ | with_reducible apply Adds.drew | with_reducible apply Adds.drewN | with_reducible apply Adds.alloc | with_reducible apply Adds.more | (with_reducible refine Adds.setCell ?_ ?_ _) | (focus (simp [go_sem]; done)) | (focus (simp [go_sem]; omega))))) HA5.out⟩
set_option maxRecDepth 100000 in
set_option maxHeartbeats 4000000 in
theorem rstates_k3 (k c a d s ww n : Int) (e o : Bool) (hk : k = 3) (w : World) :
    Calls Try.prog 25 #[.agg #[.int .i64 k, .int .i64 c, .int .u16 a, .int .u8 d, .int .i64 s, .int .i64 ww, .int .i64 n, .bool e, .bool o]] w fun r w' =>
      ∃ v, r = .returned v ∧ OwnsZ w' w.heap.size v (List.replicate (S.lim n).toNat 9) ∧ Adds w w' := by
  subst hk
  obtain ⟨w1, e5⟩ : ∃ z, (if 65536 < n then 65536 else n) = z := ⟨_, rfl⟩
  obtain ⟨hlw, hw1⟩ := lim_if n w1 e5
  obtain ⟨lw, hl⟩ : ∃ z, (S.lim n).toNat = z := ⟨_, rfl⟩
  have hlb := S.lim_bd n
  rw [hl] at hlw ⊢
  have hl6 : lw ≤ 65536 := by omega
  have HLW := Lib.hid hlw
  clear hl hlw hlb
  go_enter Try.func25, Try.ntmps25
  go_wp2_with fail
  have HW := Lib.hid (show (w.alloc (.cells #[.int .i64 3, .int .i64 c, .int .u16 a, .int .u8 d, .int .i64 s, .int .i64 ww, .int .i64 n, .bool e, .bool o] 44)).cell? ⟨w.heap.size, 6, none⟩ = some (.int .i64 n) ∧ (w.alloc (.cells #[.int .i64 3, .int .i64 c, .int .u16 a, .int .u8 d, .int .i64 s, .int .i64 ww, .int .i64 n, .bool e, .bool o] 44)).cell? ⟨w.heap.size, 0, none⟩ = some (.int .i64 3) by simp [go_sem])
  have h1w : (w.alloc (.cells #[.int .i64 3, .int .i64 c, .int .u16 a, .int .u8 d, .int .i64 s, .int .i64 ww, .int .i64 n, .bool e, .bool o] 44)).heap.size = w.heap.size + 1 := World.size_alloc ..
  go_loopw [3, 8] (fun v i wr => ∃ (t nn : Nat) (ad : Option Addr) (cc : Nat), t ≤ lw ∧ v = .slice ad nn cc ∧ i = .int .i64 (t : Int) ∧ Hid (OwnsZ wr (w.heap.size + 1) (.slice ad nn cc) (List.replicate t 9)) ∧ Hid (Adds (w.alloc (.cells #[.int .i64 3, .int .i64 c, .int .u16 a, .int .u8 d, .int .i64 s, .int .i64 ww, .int .i64 n, .bool e, .bool o] 44)) wr)) (fun _ i _ => lw - (intOf i).toNat)
  case atStart => exact ⟨0, 0, none, 0, Nat.zero_le _, rfl, rfl, OwnsG.nil _ _, Adds.refl _⟩
  case round =>
    obtain ⟨t, nn, ad, cc, ht, rfl, rfl, HO5, HA5⟩ := hrel
    rename World => w5
    have hw5 := HA5.out.size
    have hcw : w5.cell? ⟨w.heap.size, 6, none⟩ = some (.int .i64 n) := (HA5.out.cell (by omega)).trans HW.out.1
    have hck : w5.cell? ⟨w.heap.size, 0, none⟩ = some (.int .i64 3) := (HA5.out.cell (by omega)).trans HW.out.2
    have hwl : w.heap.size < w5.heap.size := by omega
    have hlw := HLW.out
    have HUL := Lib.hid (show (List.replicate t (9 : Int)).length ≤ 1000000 by simp; omega)
    by_cases hlt2 : t < lw
    · have q2 : (t : Int) < w1 := by omega
      clear hlw
      go_wp2_with (at_builtin; refine wpList_appZ1 rfl _ _ rfl (w.heap.size + 1) (.slice ad nn cc) _ rfl 9 _ _ w5.heap.size rfl rfl rfl HO5.out (by have := HO5.out.len; have := HUL.out; simp at *; omega) (by omega) ?_; intro v6 w6 hO6 hG6; obtain ⟨ad6, n6, c6, rfl, -, -, -, -, -⟩ := hO6.form2; have HO6 := Lib.hid hO6; have HG6 := Lib.hid hG6; clear hO6 hG6)
      have HA6 := Lib.hid (AddsG.grown HA5.out HG6.out (show OwnsZ w5 (w.alloc (.cells #[.int .i64 3, .int .i64 c, .int .u16 a, .int .u8 d, .int .i64 s, .int .i64 ww, .int .i64 n, .bool e, .bool o] 44)).heap.size _ _ by rw [h1w]; exact HO5.out))
      go_roundw
      case rel => exact ⟨t + 1, n6, ad6, c6, by omega, rfl, by go_num, by rw [List.replicate_succ']; exact HO6.out, HA6⟩
      case measure => simp [intOf]; omega
    · have q2 : ¬ (t : Int) < w1 := by omega
      obtain rfl : t = lw := by omega
      clear hlw
      go_wp2_with fail
      go_ret
      exact ⟨_, rfl, HO5.out.mono (by omega), Adds.trans (by (repeat (first | with_reducible exact Adds.refl _ | with_reducible apply Adds.drew | with_reducible apply Adds.drewN | with_reducible apply Adds.alloc | with_reducible apply Adds.more | (with_reducible refine Adds.setCell ?_ ?_ _) | (focus (simp [go_sem]; done)) | (focus (simp [go_sem]; omega))))) HA5.out⟩
set_option maxRecDepth 100000 in
set_option maxHeartbeats 4000000 in
theorem rstates_k4 (k c a d s ww n : Int) (e o : Bool) (hk : k = 4) (w : World) :
    Calls Try.prog 25 #[.agg #[.int .i64 k, .int .i64 c, .int .u16 a, .int .u8 d, .int .i64 s, .int .i64 ww, .int .i64 n, .bool e, .bool o]] w fun r w' =>
      ∃ v, r = .returned v ∧ OwnsZ w' w.heap.size v (List.replicate (S.lim n).toNat 10) ∧ Adds w w' := by
  subst hk
  obtain ⟨w1, e5⟩ : ∃ z, (if 65536 < n then 65536 else n) = z := ⟨_, rfl⟩
  obtain ⟨hlw, hw1⟩ := lim_if n w1 e5
  obtain ⟨lw, hl⟩ : ∃ z, (S.lim n).toNat = z := ⟨_, rfl⟩
  have hlb := S.lim_bd n
  rw [hl] at hlw ⊢
  have hl6 : lw ≤ 65536 := by omega
  have HLW := Lib.hid hlw
  clear hl hlw hlb
  go_enter Try.func25, Try.ntmps25
  go_wp2_with fail
  have HW := Lib.hid (show (w.alloc (.cells #[.int .i64 4, .int .i64 c, .int .u16 a, .int .u8 d, .int .i64 s, .int .i64 ww, .int .i64 n, .bool e, .bool o] 44)).cell? ⟨w.heap.size, 6, none⟩ = some (.int .i64 n) ∧ (w.alloc (.cells #[.int .i64 4, .int .i64 c, .int .u16 a, .int .u8 d, .int .i64 s, .int .i64 ww, .int .i64 n, .bool e, .bool o] 44)).cell? ⟨w.heap.size, 0, none⟩ = some (.int .i64 4) by simp [go_sem])
  have h1w : (w.alloc (.cells #[.int .i64 4, .int .i64 c, .int .u16 a, .int .u8 d, .int .i64 s, .int .i64 ww, .int .i64 n, .bool e, .bool o] 44)).heap.size = w.heap.size + 1 := World.size_alloc ..
  go_loopw [3, 8] (fun v i wr => ∃ (t nn : Nat) (ad : Option Addr) (cc : Nat), t ≤ lw ∧ v = .slice ad nn cc ∧ i = .int .i64 (t : Int) ∧ Hid (OwnsZ wr (w.heap.size + 1) (.slice ad nn cc) (List.replicate t 10)) ∧ Hid (Adds (w.alloc (.cells #[.int .i64 4, .int .i64 c, .int .u16 a, .int .u8 d, .int .i64 s, .int .i64 ww, .int .i64 n, .bool e, .bool o] 44)) wr)) (fun _ i _ => lw - (intOf i).toNat)
  case atStart => exact ⟨0, 0, none, 0, Nat.zero_le _, rfl, rfl, OwnsG.nil _ _, Adds.refl _⟩
  case round =>
    obtain ⟨t, nn, ad, cc, ht, rfl, rfl, HO5, HA5⟩ := hrel
    rename World => w5
    have hw5 := HA5.out.size
    have hcw : w5.cell? ⟨w.heap.size, 6, none⟩ = some (.int .i64 n) := (HA5.out.cell (by omega)).trans HW.out.1
    have hck : w5.cell? ⟨w.heap.size, 0, none⟩ = some (.int .i64 4) := (HA5.out.cell (by omega)).trans HW.out.2
    have hwl : w.heap.size < w5.heap.size := by omega
    have hlw := HLW.out
    have HUL := Lib.hid (show (List.replicate t (10 : Int)).length ≤ 1000000 by simp; omega)
    by_cases hlt2 : t < lw
    · have q2 : (t : Int) < w1 := by omega
      clear hlw
      go_wp2_with (at_builtin; refine wpList_appZ1 rfl _ _ rfl (w.heap.size + 1) (.slice ad nn cc) _ rfl 10 _ _ w5.heap.size rfl rfl rfl HO5.out (by have := HO5.out.len; have := HUL.out; simp at *; omega) (by omega) ?_; intro v6 w6 hO6 hG6; obtain ⟨ad6, n6, c6, rfl, -, -, -, -, -⟩ := hO6.form2; have HO6 := Lib.hid hO6; have HG6 := Lib.hid hG6; clear hO6 hG6)
      have HA6 := Lib.hid (AddsG.grown HA5.out HG6.out (show OwnsZ w5 (w.alloc (.cells #[.int .i64 4, .int .i64 c, .int .u16 a, .int .u8 d, .int .i64 s, .int .i64 ww, .int .i64 n, .bool e, .bool o] 44)).heap.size _ _ by rw [h1w]; exact HO5.out))
      go_roundw
      case rel => exact ⟨t + 1, n6, ad6, c6, by omega, rfl, by go_num, by rw [List.replicate_succ']; exact HO6.out, HA6⟩
      case measure => simp [intOf]; omega
    · have q2 : ¬ (t : Int) < w1 := by omega
      obtain rfl : t = lw := by omega
      clear hlw
      go_wp2_with fail
      go_ret
      exact ⟨_, rfl, HO5.out.mono (by omega), Adds.trans (by (repeat (first | with_reducible exact Adds.refl _ | with_reducible apply Adds.drew | with_reducible apply Adds.drewN | with_reducible apply Adds.alloc | with_reducible apply Adds.more | (with_reducible refine Adds.setCell ?_ ?_ _) | (focus (simp [go_sem]; done)) | (focus (simp [go_sem]; omega))))) HA5.out⟩
theorem rstates_any (x : S.It) (w : World) : Calls Try.prog 25 #[.agg #[.int .i64 x.k, .int .i64 x.c, .int .u16 x.a, .int .u8 x.d, .int .i64 x.s, .int .i64 x.w, .int .i64 x.n, .bool x.e, .bool x.o]] w fun r w' => ∃ v, r = .returned v ∧ OwnsZ w' w.heap.size v (S.sts x) ∧ Adds w w' := by
  by_cases h1 : x.k = 1
  · have he : S.sts x = S.upto (S.lim x.w) (S.cnt x.n x.s).toNat := by unfold S.sts S.sps S.upto; rw [if_pos h1]
    have hb := S.cnt_bd x.n x.s
    have hq := S.cst_bd x.s
    rw [he]
    exact rstates_at x.k x.c x.a x.d x.s x.w x.n x.e x.o (S.cst x.s).toNat (S.cnt x.n x.s).toNat (by omega) (by omega) h1 (by omega) (by omega) w
  by_cases h2 : x.k = 2
  · have he : S.sts x = List.replicate (S.lim x.n).toNat 8 := by
      unfold S.sts S.sps
      rw [h2]
      simp [S.reps, S.rep]
    rw [he]
    exact rstates_k2 x.k x.c x.a x.d x.s x.w x.n x.e x.o h2 w
  by_cases h3 : x.k = 3
  · have he : S.sts x = List.replicate (S.lim x.n).toNat 9 := by
      unfold S.sts S.sps
      rw [h3]
      simp [S.reps, S.rep]
    rw [he]
    exact rstates_k3 x.k x.c x.a x.d x.s x.w x.n x.e x.o h3 w
  by_cases h4 : x.k = 4
  · have he : S.sts x = List.replicate (S.lim x.n).toNat 10 := by
      unfold S.sts S.sps
      rw [h4]
      simp [S.reps, S.rep]
    rw [he]
    exact rstates_k4 x.k x.c x.a x.d x.s x.w x.n x.e x.o h4 w
  · have HE := Lib.hid (show S.sts x = [] by unfold S.sts S.sps; rw [if_neg h1, if_neg h2, if_neg h3, if_neg h4]; rfl)
    go_enter Try.func25, Try.ntmps25
    go_wp2_with fail
    go_ret
    exact ⟨_, rfl, by rw [HE.out]; exact OwnsG.nil _ _, by (repeat (first | with_reducible exact Adds.refl _ | with_reducible apply Adds.drew | with_reducible apply Adds.drewN | with_reducible apply Adds.alloc | with_reducible apply Adds.more | (with_reducible refine Adds.setCell ?_ ?_ _) | (focus (simp [go_sem]; done)) | (focus (simp [go_sem]; omega))))⟩
end Go.Proofs.Ytfhnfakjjfjohaa
