/- Contract of the reference's states: a slice of the call's own that holds the states of an item. No condition. -/
import Derived.Test.YtfhnfakjjfjohaaC26a
import Derived.Test.YtfhnfakjjfjohaaMT
namespace Go.Proofs.Ytfhnfakjjfjohaa
open Go.ChangeShapes Go.WideShapes Go.ChangeAt Go.RowKit
set_option linter.unusedVariables false
/-- The states of a cycle's first j states, and t wait states more. -/
def S.upto (lw : Int) (j : Nat) : List Int := S.reps (S.part7 lw j)
theorem upto_0 (lw : Int) : S.upto lw 0 ++ [1] = S.upto lw 1 := by
  simp [S.upto, S.reps, S.part7, S.all7, S.rep]
theorem upto_2 (lw : Int) : S.upto lw 2 ++ [3] = S.upto lw 3 := by
  simp [S.upto, S.reps, S.part7, S.all7, S.rep]
theorem upto_3 (lw : Int) : S.upto lw 3 ++ [4] = S.upto lw 4 := by
  simp [S.upto, S.reps, S.part7, S.all7, S.rep]
theorem upto_4 (lw : Int) : S.upto lw 4 ++ [5] = S.upto lw 5 := by
  simp [S.upto, S.reps, S.part7, S.all7, S.rep]
theorem upto_5 (lw : Int) : S.upto lw 5 ++ [6] = S.upto lw 6 := by
  simp [S.upto, S.reps, S.part7, S.all7, S.rep]
theorem upto_1 (lw : Int) : S.upto lw 1 ++ [2] ++ List.replicate lw.toNat 7 = S.upto lw 2 := by
  simp [S.upto, S.reps, S.part7, S.all7, S.rep]
theorem upto_zero (lw : Int) : S.upto lw 0 = [] := rfl
theorem rep_step {α : Type} (t : Nat) (x : α) (l : List α) : l ++ List.replicate t x ++ [x] = l ++ List.replicate (t + 1) x := by rw [List.replicate_succ', List.append_assoc]
theorem lim_if (w w1 : Int) (h : (if 65536 < w then 65536 else w) = w1) : (S.lim w).toNat = w1.toNat ∧ w1 ≤ 65536 := by
  unfold S.lim
  split at h <;> omega
set_option maxRecDepth 100000 in
set_option maxHeartbeats 4000000 in
theorem rstates_at (k c a d s ww n : Int) (e o : Bool) (q m : Nat) (hs : S.cst s = (q : Int)) (hm : S.cnt n s = (m : Int)) (hk : k = 1) (hm1 : 1 ≤ m) (hm6 : m ≤ 6) (w : World) :
    Calls Try.prog 25 #[.agg #[.int .i64 k, .int .i64 c, .int .u16 a, .int .u8 d, .int .i64 s, .int .i64 ww, .int .i64 n, .bool e, .bool o]] w fun r w' =>
      ∃ v, r = .returned v ∧ OwnsZ w' w.heap.size v (S.upto (S.lim ww) m) ∧ Adds w w' := by
  subst hk
  obtain ⟨s6, e1⟩ : ∃ z, (if 6 < s then 6 else s) = z := ⟨_, rfl⟩
  have e2 : (if 3 < s6 then s6 else 3) = (q : Int) := by rw [← hs]; unfold S.cst; split at e1 <;> split <;> omega
  obtain ⟨n1, e3⟩ : ∃ z, (if (q : Int) < n then (q : Int) else n) = z := ⟨_, rfl⟩
  have e4 : (if 1 < n1 then n1 else 1) = (m : Int) := by
    have hq := S.cst_bd s
    rw [← hm]; unfold S.cnt; rw [hs]; split at e3 <;> split <;> omega
  obtain ⟨w1, e5⟩ : ∃ z, (if 65536 < ww then 65536 else ww) = z := ⟨_, rfl⟩
  obtain ⟨hlw, hw1⟩ := lim_if ww w1 e5
  obtain ⟨lw, hl⟩ : ∃ z, S.lim ww = z := ⟨_, rfl⟩
  rw [hl] at hlw ⊢
  have HLW := Lib.hid hlw
  have hlb := S.lim_bd ww
  rw [hl] at hlb
  clear hs hm hl hlw
  go_enter Try.func25, Try.ntmps25
  go_wp2_with fail
  have HW := Lib.hid (show (w.alloc (.cells #[.int .i64 1, .int .i64 c, .int .u16 a, .int .u8 d, .int .i64 s, .int .i64 ww, .int .i64 n, .bool e, .bool o] 44)).cell? ⟨w.heap.size, 5, none⟩ = some (.int .i64 ww) by simp [go_sem])
  have h1w : (w.alloc (.cells #[.int .i64 1, .int .i64 c, .int .u16 a, .int .u8 d, .int .i64 s, .int .i64 ww, .int .i64 n, .bool e, .bool o] 44)).heap.size = w.heap.size + 1 := World.size_alloc ..
  go_loopw [3, 6] (fun v i wr => ∃ (j nn : Nat) (ad : Option Addr) (cc : Nat) (z : Int), j ≤ m ∧ Hid (z = (j : Int) + 1) ∧ v = .slice ad nn cc ∧ i = .int .i64 z ∧ Hid (OwnsZ wr (w.heap.size + 1) (.slice ad nn cc) (S.upto lw j)) ∧ Hid (Adds (w.alloc (.cells #[.int .i64 1, .int .i64 c, .int .u16 a, .int .u8 d, .int .i64 s, .int .i64 ww, .int .i64 n, .bool e, .bool o] 44)) wr)) (fun _ i _ => m + 1 - (intOf i).toNat)
  case atStart => exact ⟨0, 0, none, 0, 1, Nat.zero_le _, rfl, rfl, rfl, OwnsG.nil _ _, Adds.refl _⟩
  case round =>
    obtain ⟨j, nn, ad, cc, z, hj, HZ, rfl, rfl, HO, HA⟩ := hrel
    rename World => w3
    have hw3 := HA.out.size
    by_cases hlt : j < m
    · have hul : (S.upto lw j).length ≤ 458752 := by
        have h1 := S.reps_len (S.part7 lw j) (fun p hp => by
          have := S.part7_mem _ _ p hp
          simp only [S.all7, List.mem_cons, List.not_mem_nil, or_false] at this
          rcases this with rfl | rfl | rfl | rfl | rfl | rfl | rfl <;> (simp only []; omega))
        have h2 : (S.part7 lw j).length ≤ 7 := by simp only [S.part7, S.all7, List.length_take]; simp; omega
        unfold S.upto; omega
      have HUL := Lib.hid hul
      clear hul
      rcases (by omega : j = 0 ∨ j = 1 ∨ j = 2 ∨ j = 3 ∨ j = 4 ∨ j = 5) with rfl | rfl | rfl | rfl | rfl | rfl
      · obtain rfl : z = 1 := by have := HZ.out; omega
        have q1 : (1 : Int) ≤ (m : Int) := by omega
        have HU := Lib.hid (upto_0 lw)
        go_wp2_with (at_builtin; refine wpList_appZ1 rfl _ _ rfl (w.heap.size + 1) (.slice ad nn cc) _ rfl 1 _ _ w3.heap.size rfl rfl rfl HO.out (by have := HO.out.len; have := HUL.out; simp at *; omega) (by omega) ?_; intro v4 w4 hO4 hG4; obtain ⟨ad4, n4, c4, rfl, -, -, -, -, -⟩ := hO4.form2; have HO4 := Lib.hid hO4; have HG4 := Lib.hid hG4; clear hO4 hG4)
        have HA4 := Lib.hid (AddsG.grown HA.out HG4.out (show OwnsZ w3 (w.alloc (.cells #[.int .i64 1, .int .i64 c, .int .u16 a, .int .u8 d, .int .i64 s, .int .i64 ww, .int .i64 n, .bool e, .bool o] 44)).heap.size _ _ by rw [h1w]; exact HO.out))
        have HO4' := Lib.hid (show OwnsZ w4 (w.heap.size + 1) (.slice ad4 n4 c4) (S.upto lw 1) by rw [← HU.out]; exact HO4.out)
        clear HO4 HG4 HO
        go_loopw [3, 7] (fun v i wr => v = .slice ad4 n4 c4 ∧ i = .int .i64 0 ∧ Hid (OwnsZ wr (w.heap.size + 1) (.slice ad4 n4 c4) (S.upto lw 1)) ∧ Hid (Adds (w.alloc (.cells #[.int .i64 1, .int .i64 c, .int .u16 a, .int .u8 d, .int .i64 s, .int .i64 ww, .int .i64 n, .bool e, .bool o] 44)) wr)) (fun _ _ _ => 0)
        case atStart => exact ⟨rfl, rfl, HO4', HA4⟩
        case round =>
          obtain ⟨rfl, rfl, HO5, HA5⟩ := hrel
          go_wp2_with fail
          go_roundw
          case rel => exact ⟨1, n4, ad4, c4, 1 + 1, by omega, rfl, rfl, rfl, HO5, HA5⟩
          case measure => simp [intOf]; omega
      · obtain rfl : z = 2 := by have := HZ.out; omega
        have q1 : (2 : Int) ≤ (m : Int) := by omega
        have HU := Lib.hid (upto_1 lw)
        go_wp2_with (at_builtin; refine wpList_appZ1 rfl _ _ rfl (w.heap.size + 1) (.slice ad nn cc) _ rfl 2 _ _ w3.heap.size rfl rfl rfl HO.out (by have := HO.out.len; have := HUL.out; simp at *; omega) (by omega) ?_; intro v4 w4 hO4 hG4; obtain ⟨ad4, n4, c4, rfl, -, -, -, -, -⟩ := hO4.form2; have HO4 := Lib.hid hO4; have HG4 := Lib.hid hG4; clear hO4 hG4)
        have HA4 := Lib.hid (AddsG.grown HA.out HG4.out (show OwnsZ w3 (w.alloc (.cells #[.int .i64 1, .int .i64 c, .int .u16 a, .int .u8 d, .int .i64 s, .int .i64 ww, .int .i64 n, .bool e, .bool o] 44)).heap.size _ _ by rw [h1w]; exact HO.out))
        clear HG4 HO
        go_loopw [3, 7] (fun v i wr => ∃ (t nn : Nat) (ad : Option Addr) (cc : Nat), (t : Int) ≤ lw ∧ v = .slice ad nn cc ∧ i = .int .i64 (t : Int) ∧ Hid (OwnsZ wr (w.heap.size + 1) (.slice ad nn cc) (S.upto lw 1 ++ [2] ++ List.replicate t 7)) ∧ Hid (Adds (w.alloc (.cells #[.int .i64 1, .int .i64 c, .int .u16 a, .int .u8 d, .int .i64 s, .int .i64 ww, .int .i64 n, .bool e, .bool o] 44)) wr)) (fun _ i _ => (lw - intOf i).toNat)
        case atStart => exact ⟨0, n4, ad4, c4, by omega, rfl, rfl, by rw [List.replicate_zero, List.append_nil]; exact HO4, HA4⟩
        case round =>
          obtain ⟨t, nn, ad, cc, ht, rfl, rfl, HO5, HA5⟩ := hrel
          rename World => w5
          have hw5 := HA5.out.size
          have hcw : w5.cell? ⟨w.heap.size, 5, none⟩ = some (.int .i64 ww) := (HA5.out.cell (by omega)).trans HW.out
          have hwl : w.heap.size < w5.heap.size := by omega
          have hlw := HLW.out
          have HUL := Lib.hid (show (S.upto lw 1 ++ [2] ++ List.replicate t 7).length ≤ 1000000 by have := HUL.out; simp at *; omega)
          by_cases hlt2 : (t : Int) < lw
          · have q2 : (t : Int) < w1 := by omega
            clear hlw
            go_wp2_with (at_builtin; refine wpList_appZ1 rfl _ _ rfl (w.heap.size + 1) (.slice ad nn cc) _ rfl 7 _ _ w5.heap.size rfl rfl rfl HO5.out (by have := HO5.out.len; have := HUL.out; simp at *; omega) (by omega) ?_; intro v6 w6 hO6 hG6; obtain ⟨ad6, n6, c6, rfl, -, -, -, -, -⟩ := hO6.form2; have HO6 := Lib.hid hO6; have HG6 := Lib.hid hG6; clear hO6 hG6)
            have HA6 := Lib.hid (AddsG.grown HA5.out HG6.out (show OwnsZ w5 (w.alloc (.cells #[.int .i64 1, .int .i64 c, .int .u16 a, .int .u8 d, .int .i64 s, .int .i64 ww, .int .i64 n, .bool e, .bool o] 44)).heap.size _ _ by rw [h1w]; exact HO5.out))
            go_roundw
            case rel => exact ⟨t + 1, n6, ad6, c6, by omega, rfl, by go_num, by rw [← rep_step]; exact HO6.out, HA6⟩
            case measure => simp [intOf]; omega
          · have q2 : ¬ (t : Int) < w1 := by omega
            have htl : t = lw.toNat := by omega
            have HO7 := Lib.hid (show OwnsZ w5 (w.heap.size + 1) (.slice ad nn cc) (S.upto lw 2) by rw [← HU.out, ← htl]; exact HO5.out)
            clear hlw
            go_wp2_with fail
            go_roundw
            case rel => exact ⟨2, nn, ad, cc, 2 + 1, by omega, rfl, rfl, rfl, HO7, HA5⟩
            case measure => simp [intOf]; omega
      · obtain rfl : z = 3 := by have := HZ.out; omega
        have q1 : (3 : Int) ≤ (m : Int) := by omega
        have HU := Lib.hid (upto_2 lw)
        go_wp2_with (at_builtin; refine wpList_appZ1 rfl _ _ rfl (w.heap.size + 1) (.slice ad nn cc) _ rfl 3 _ _ w3.heap.size rfl rfl rfl HO.out (by have := HO.out.len; have := HUL.out; simp at *; omega) (by omega) ?_; intro v4 w4 hO4 hG4; obtain ⟨ad4, n4, c4, rfl, -, -, -, -, -⟩ := hO4.form2; have HO4 := Lib.hid hO4; have HG4 := Lib.hid hG4; clear hO4 hG4)
        have HA4 := Lib.hid (AddsG.grown HA.out HG4.out (show OwnsZ w3 (w.alloc (.cells #[.int .i64 1, .int .i64 c, .int .u16 a, .int .u8 d, .int .i64 s, .int .i64 ww, .int .i64 n, .bool e, .bool o] 44)).heap.size _ _ by rw [h1w]; exact HO.out))
        have HO4' := Lib.hid (show OwnsZ w4 (w.heap.size + 1) (.slice ad4 n4 c4) (S.upto lw 3) by rw [← HU.out]; exact HO4.out)
        clear HO4 HG4 HO
        go_loopw [3, 7] (fun v i wr => v = .slice ad4 n4 c4 ∧ i = .int .i64 0 ∧ Hid (OwnsZ wr (w.heap.size + 1) (.slice ad4 n4 c4) (S.upto lw 3)) ∧ Hid (Adds (w.alloc (.cells #[.int .i64 1, .int .i64 c, .int .u16 a, .int .u8 d, .int .i64 s, .int .i64 ww, .int .i64 n, .bool e, .bool o] 44)) wr)) (fun _ _ _ => 0)
        case atStart => exact ⟨rfl, rfl, HO4', HA4⟩
        case round =>
          obtain ⟨rfl, rfl, HO5, HA5⟩ := hrel
          go_wp2_with fail
          go_roundw
          case rel => exact ⟨3, n4, ad4, c4, 3 + 1, by omega, rfl, rfl, rfl, HO5, HA5⟩
          case measure => simp [intOf]; omega
      · obtain rfl : z = 4 := by have := HZ.out; omega
        have q1 : (4 : Int) ≤ (m : Int) := by omega
        have HU := Lib.hid (upto_3 lw)
        go_wp2_with (at_builtin; refine wpList_appZ1 rfl _ _ rfl (w.heap.size + 1) (.slice ad nn cc) _ rfl 4 _ _ w3.heap.size rfl rfl rfl HO.out (by have := HO.out.len; have := HUL.out; simp at *; omega) (by omega) ?_; intro v4 w4 hO4 hG4; obtain ⟨ad4, n4, c4, rfl, -, -, -, -, -⟩ := hO4.form2; have HO4 := Lib.hid hO4; have HG4 := Lib.hid hG4; clear hO4 hG4)
        have HA4 := Lib.hid (AddsG.grown HA.out HG4.out (show OwnsZ w3 (w.alloc (.cells #[.int .i64 1, .int .i64 c, .int .u16 a, .int .u8 d, .int .i64 s, .int .i64 ww, .int .i64 n, .bool e, .bool o] 44)).heap.size _ _ by rw [h1w]; exact HO.out))
        have HO4' := Lib.hid (show OwnsZ w4 (w.heap.size + 1) (.slice ad4 n4 c4) (S.upto lw 4) by rw [← HU.out]; exact HO4.out)
        clear HO4 HG4 HO
        go_loopw [3, 7] (fun v i wr => v = .slice ad4 n4 c4 ∧ i = .int .i64 0 ∧ Hid (OwnsZ wr (w.heap.size + 1) (.slice ad4 n4 c4) (S.upto lw 4)) ∧ Hid (Adds (w.alloc (.cells #[.int .i64 1, .int .i64 c, .int .u16 a, .int .u8 d, .int .i64 s, .int .i64 ww, .int .i64 n, .bool e, .bool o] 44)) wr)) (fun _ _ _ => 0)
        case atStart => exact ⟨rfl, rfl, HO4', HA4⟩
        case round =>
          obtain ⟨rfl, rfl, HO5, HA5⟩ := hrel
          go_wp2_with fail
          go_roundw
          case rel => exact ⟨4, n4, ad4, c4, 4 + 1, by omega, rfl, rfl, rfl, HO5, HA5⟩
          case measure => simp [intOf]; omega
      · obtain rfl : z = 5 := by have := HZ.out; omega
        have q1 : (5 : Int) ≤ (m : Int) := by omega
        have HU := Lib.hid (upto_4 lw)
        go_wp2_with (at_builtin; refine wpList_appZ1 rfl _ _ rfl (w.heap.size + 1) (.slice ad nn cc) _ rfl 5 _ _ w3.heap.size rfl rfl rfl HO.out (by have := HO.out.len; have := HUL.out; simp at *; omega) (by omega) ?_; intro v4 w4 hO4 hG4; obtain ⟨ad4, n4, c4, rfl, -, -, -, -, -⟩ := hO4.form2; have HO4 := Lib.hid hO4; have HG4 := Lib.hid hG4; clear hO4 hG4)
        have HA4 := Lib.hid (AddsG.grown HA.out HG4.out (show OwnsZ w3 (w.alloc (.cells #[.int .i64 1, .int .i64 c, .int .u16 a, .int .u8 d, .int .i64 s, .int .i64 ww, .int .i64 n, .bool e, .bool o] 44)).heap.size _ _ by rw [h1w]; exact HO.out))
        have HO4' := Lib.hid (show OwnsZ w4 (w.heap.size + 1) (.slice ad4 n4 c4) (S.upto lw 5) by rw [← HU.out]; exact HO4.out)
        clear HO4 HG4 HO
        go_loopw [3, 7] (fun v i wr => v = .slice ad4 n4 c4 ∧ i = .int .i64 0 ∧ Hid (OwnsZ wr (w.heap.size + 1) (.slice ad4 n4 c4) (S.upto lw 5)) ∧ Hid (Adds (w.alloc (.cells #[.int .i64 1, .int .i64 c, .int .u16 a, .int .u8 d, .int .i64 s, .int .i64 ww, .int .i64 n, .bool e, .bool o] 44)) wr)) (fun _ _ _ => 0)
        case atStart => exact ⟨rfl, rfl, HO4', HA4⟩
        case round =>
          obtain ⟨rfl, rfl, HO5, HA5⟩ := hrel
          go_wp2_with fail
          go_roundw
          case rel => exact ⟨5, n4, ad4, c4, 5 + 1, by omega, rfl, rfl, rfl, HO5, HA5⟩
          case measure => simp [intOf]; omega
      · obtain rfl : z = 6 := by have := HZ.out; omega
        have q1 : (6 : Int) ≤ (m : Int) := by omega
        have HU := Lib.hid (upto_5 lw)
        go_wp2_with (at_builtin; refine wpList_appZ1 rfl _ _ rfl (w.heap.size + 1) (.slice ad nn cc) _ rfl 6 _ _ w3.heap.size rfl rfl rfl HO.out (by have := HO.out.len; have := HUL.out; simp at *; omega) (by omega) ?_; intro v4 w4 hO4 hG4; obtain ⟨ad4, n4, c4, rfl, -, -, -, -, -⟩ := hO4.form2; have HO4 := Lib.hid hO4; have HG4 := Lib.hid hG4; clear hO4 hG4)
        have HA4 := Lib.hid (AddsG.grown HA.out HG4.out (show OwnsZ w3 (w.alloc (.cells #[.int .i64 1, .int .i64 c, .int .u16 a, .int .u8 d, .int .i64 s, .int .i64 ww, .int .i64 n, .bool e, .bool o] 44)).heap.size _ _ by rw [h1w]; exact HO.out))
        have HO4' := Lib.hid (show OwnsZ w4 (w.heap.size + 1) (.slice ad4 n4 c4) (S.upto lw 6) by rw [← HU.out]; exact HO4.out)
        clear HO4 HG4 HO
        go_loopw [3, 7] (fun v i wr => v = .slice ad4 n4 c4 ∧ i = .int .i64 0 ∧ Hid (OwnsZ wr (w.heap.size + 1) (.slice ad4 n4 c4) (S.upto lw 6)) ∧ Hid (Adds (w.alloc (.cells #[.int .i64 1, .int .i64 c, .int .u16 a, .int .u8 d, .int .i64 s, .int .i64 ww, .int .i64 n, .bool e, .bool o] 44)) wr)) (fun _ _ _ => 0)
        case atStart => exact ⟨rfl, rfl, HO4', HA4⟩
        case round =>
          obtain ⟨rfl, rfl, HO5, HA5⟩ := hrel
          go_wp2_with fail
          go_roundw
          case rel => exact ⟨6, n4, ad4, c4, 6 + 1, by omega, rfl, rfl, rfl, HO5, HA5⟩
          case measure => simp [intOf]; omega
    · obtain rfl : j = m := by omega
      have q1 : ¬ z ≤ (j : Int) := by have := HZ.out; omega
      go_wp2_with fail
      go_ret
      exact ⟨_, rfl, HO.out.mono (by omega), Adds.trans (by (repeat (first | with_reducible exact Adds.refl _ | with_reducible apply Adds.drew | with_reducible apply Adds.drewN | with_reducible apply Adds.alloc | with_reducible apply Adds.more | (with_reducible refine Adds.setCell ?_ ?_ _) | (focus (simp [go_sem]; done)) | (focus (simp [go_sem]; omega))))) HA.out⟩
end Go.Proofs.Ytfhnfakjjfjohaa
