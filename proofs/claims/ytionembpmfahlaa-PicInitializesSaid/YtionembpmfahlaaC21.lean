/- Contracts of package priority and of the reference's Rank, on, Highest, blocking, Pick: each returns the plain function's value. Conditions: bytes are from 0 to 255, lines from 0 to 7 where they are shifted by. -/
import Derived.Test.YtionembpmfahlaaC1
import Derived.Test.YtionembpmfahlaaM1
import Derived.Test.YtionembpmfahlaaS21
namespace Go.Proofs.Ytionembpmfahlaa
open Go.ChangeShapes Go.WideShapes Go.ChangeAt Go.RowKit
set_option linter.unusedVariables false
theorem pr_rank (l n : Int) (w : World) : Calls Try.prog 59 #[.int .i64 l, .int .i64 n] w fun e w' => e = .returned (.int .i64 (S.rk l n)) ∧ w = w' := by
  go_enter Try.func59, Try.ntmps59
  go_wp2_with fail
  go_ret
  refine ⟨?_, rfl⟩
  refine ri ?_
  rw [S.pr_and7]
  unfold S.rk wrap64
  omega
theorem rpr_rank (l n : Int) (w : World) : Calls Try.prog 31 #[.int .i64 l, .int .i64 n] w fun e w' => e = .returned (.int .i64 (S.rk l n)) ∧ w = w' := by
  go_enter Try.func31, Try.ntmps31
  go_wp2_with fail
  go_ret
  refine ⟨?_, rfl⟩
  refine ri ?_
  simp only [S.pr_and7]
  unfold S.rk wrap64
  omega
theorem rpr_on (s i : Int) (s0 : 0 ≤ s) (s1 : s < 256) (i0 : 0 ≤ i) (i1 : i < 8) (w : World) : Calls Try.prog 57 #[.int .u8 s, .int .i64 i] w fun e w' => e = .returned (.bool (S.onB s i)) ∧ w = w' := by
  go_enter Try.func57, Try.ntmps57
  go_wp2_with fail
  go_ret
  exact ⟨rb (S.bit_test s s0 s1 (2 ^ i.toNat) (Int.pow_pos (by decide))), rfl⟩
theorem tz_at (x : Int) (h0 : 0 ≤ x) (h1 : x < 256) (h2 : x.toNat < Lib.ntz8tab.size) : wrap64 ((Lib.ntz8tab[x.toNat]'h2).toNat : Int) = (Lib.trailingZeros8 x.toNat : Int) := by
  have h3 : Lib.ntz8 x = ((Lib.ntz8tab[x.toNat]'h2).toNat : Int) := by simp only [Lib.ntz8, ByteArray.getElem?_lt' _ _ h2, Option.getD_some]
  rw [← Lib.ntz8_int x h0 (by omega), h3, wrap64]
set_option maxRecDepth 100000 in
theorem pr_tz (x : Int) (w : World) (h0 : 0 ≤ x) (h1 : x < 256) : Calls Try.prog 61 #[.int .u8 x] w fun e w' => e = .returned (.int .i64 (Lib.trailingZeros8 x.toNat)) ∧ w = w' := by
  go_enter Try.func61, Try.ntmps61
  go_wp2
  go_ret
  refine ⟨ri ?_, rfl⟩
  exact tz_at x h0 h1 _
theorem pr_rot_0 (x : Int) (w : World) (h0 : 0 ≤ x) (h1 : x < 256) : Calls Try.prog 60 #[.int .u8 x, .int .i64 0] w fun e w' => e = .returned (.int .u8 (S.rot x 0)) ∧ w = w' := by
  have e : bits .and .u64 0 7 = 0 := by decide +kernel
  go_enter Try.func60, Try.ntmps60
  go_wp2
  go_ret
  refine ⟨ri ?_, rfl⟩
  have h := S.rot0_fin ⟨x.toNat, by omega⟩
  simp only [Int.toNat_of_nonneg h0] at h
  exact h
theorem pr_rot_1 (x : Int) (w : World) (h0 : 0 ≤ x) (h1 : x < 256) : Calls Try.prog 60 #[.int .u8 x, .int .i64 (-1)] w fun e w' => e = .returned (.int .u8 (S.rot x 1)) ∧ w = w' := by
  have e : bits .and .u64 (IntKind.u64.wrap (-1)) 7 = 7 := by decide +kernel
  go_enter Try.func60, Try.ntmps60
  go_wp2
  go_ret
  refine ⟨ri ?_, rfl⟩
  have h := S.rot_fin ⟨x.toNat, by omega⟩ ⟨1, by omega⟩
  simp only [Int.toNat_of_nonneg h0] at h
  exact h
theorem pr_rot_2 (x : Int) (w : World) (h0 : 0 ≤ x) (h1 : x < 256) : Calls Try.prog 60 #[.int .u8 x, .int .i64 (-2)] w fun e w' => e = .returned (.int .u8 (S.rot x 2)) ∧ w = w' := by
  have e : bits .and .u64 (IntKind.u64.wrap (-2)) 7 = 6 := by decide +kernel
  go_enter Try.func60, Try.ntmps60
  go_wp2
  go_ret
  refine ⟨ri ?_, rfl⟩
  have h := S.rot_fin ⟨x.toNat, by omega⟩ ⟨2, by omega⟩
  simp only [Int.toNat_of_nonneg h0] at h
  exact h
theorem pr_rot_3 (x : Int) (w : World) (h0 : 0 ≤ x) (h1 : x < 256) : Calls Try.prog 60 #[.int .u8 x, .int .i64 (-3)] w fun e w' => e = .returned (.int .u8 (S.rot x 3)) ∧ w = w' := by
  have e : bits .and .u64 (IntKind.u64.wrap (-3)) 7 = 5 := by decide +kernel
  go_enter Try.func60, Try.ntmps60
  go_wp2
  go_ret
  refine ⟨ri ?_, rfl⟩
  have h := S.rot_fin ⟨x.toNat, by omega⟩ ⟨3, by omega⟩
  simp only [Int.toNat_of_nonneg h0] at h
  exact h
theorem pr_rot_4 (x : Int) (w : World) (h0 : 0 ≤ x) (h1 : x < 256) : Calls Try.prog 60 #[.int .u8 x, .int .i64 (-4)] w fun e w' => e = .returned (.int .u8 (S.rot x 4)) ∧ w = w' := by
  have e : bits .and .u64 (IntKind.u64.wrap (-4)) 7 = 4 := by decide +kernel
  go_enter Try.func60, Try.ntmps60
  go_wp2
  go_ret
  refine ⟨ri ?_, rfl⟩
  have h := S.rot_fin ⟨x.toNat, by omega⟩ ⟨4, by omega⟩
  simp only [Int.toNat_of_nonneg h0] at h
  exact h
theorem pr_rot_5 (x : Int) (w : World) (h0 : 0 ≤ x) (h1 : x < 256) : Calls Try.prog 60 #[.int .u8 x, .int .i64 (-5)] w fun e w' => e = .returned (.int .u8 (S.rot x 5)) ∧ w = w' := by
  have e : bits .and .u64 (IntKind.u64.wrap (-5)) 7 = 3 := by decide +kernel
  go_enter Try.func60, Try.ntmps60
  go_wp2
  go_ret
  refine ⟨ri ?_, rfl⟩
  have h := S.rot_fin ⟨x.toNat, by omega⟩ ⟨5, by omega⟩
  simp only [Int.toNat_of_nonneg h0] at h
  exact h
theorem pr_rot_6 (x : Int) (w : World) (h0 : 0 ≤ x) (h1 : x < 256) : Calls Try.prog 60 #[.int .u8 x, .int .i64 (-6)] w fun e w' => e = .returned (.int .u8 (S.rot x 6)) ∧ w = w' := by
  have e : bits .and .u64 (IntKind.u64.wrap (-6)) 7 = 2 := by decide +kernel
  go_enter Try.func60, Try.ntmps60
  go_wp2
  go_ret
  refine ⟨ri ?_, rfl⟩
  have h := S.rot_fin ⟨x.toNat, by omega⟩ ⟨6, by omega⟩
  simp only [Int.toNat_of_nonneg h0] at h
  exact h
theorem pr_rot_7 (x : Int) (w : World) (h0 : 0 ≤ x) (h1 : x < 256) : Calls Try.prog 60 #[.int .u8 x, .int .i64 (-7)] w fun e w' => e = .returned (.int .u8 (S.rot x 7)) ∧ w = w' := by
  have e : bits .and .u64 (IntKind.u64.wrap (-7)) 7 = 1 := by decide +kernel
  go_enter Try.func60, Try.ntmps60
  go_wp2
  go_ret
  refine ⟨ri ?_, rfl⟩
  have h := S.rot_fin ⟨x.toNat, by omega⟩ ⟨7, by omega⟩
  simp only [Int.toNat_of_nonneg h0] at h
  exact h
theorem and_first (n f : Int) (h : (n + 1) % 8 = f) : bits .and .i64 (wrap64 (n + 1)) 7 = f := by
  rw [S.pr_and7]
  unfold wrap64
  omega
theorem pr_hi (s n : Int) (s0 : 0 ≤ s) (s1 : s < 256) (w : World) : Calls Try.prog 58 #[.int .u8 s, .int .i64 n] w fun e w' => e = .returned (.int .i64 (S.hi s n)) ∧ w = w' := by
  by_cases hs : s = 0
  · subst hs
    go_enter Try.func58, Try.ntmps58
    go_wp2_with fail
    go_ret
    exact ⟨ri (S.hi_zero n).symm, rfl⟩
  · rcases (by omega : (n + 1) % 8 = 0 ∨ (n + 1) % 8 = 1 ∨ (n + 1) % 8 = 2 ∨ (n + 1) % 8 = 3 ∨ (n + 1) % 8 = 4 ∨ (n + 1) % 8 = 5 ∨ (n + 1) % 8 = 6 ∨ (n + 1) % 8 = 7) with h | h | h | h | h | h | h | h
    · have e := and_first n 0 h
      have r : Hid _ := S.hi_rot s n 0 s0 s1 hs (by omega) h
      have b := S.rot_bd s 0
      clear h
      go_enter Try.func58, Try.ntmps58
      go_wp2_with (first | (go_at_call 60; refine (pr_rot_0 _ _ s0 s1).mono ?_; rintro e w' ⟨rfl, rfl⟩) | (go_at_call 61; refine (pr_tz _ _ b.1 b.2).mono ?_; rintro e w' ⟨rfl, rfl⟩))
      go_ret
      refine ⟨ri ?_, rfl⟩
      rw [← r.out, S.pr_and7]
      unfold wrap64
      omega
    · have e := and_first n 1 h
      have r : Hid _ := S.hi_rot s n 1 s0 s1 hs (by omega) h
      have b := S.rot_bd s 1
      clear h
      go_enter Try.func58, Try.ntmps58
      go_wp2_with (first | (go_at_call 60; refine (pr_rot_1 _ _ s0 s1).mono ?_; rintro e w' ⟨rfl, rfl⟩) | (go_at_call 61; refine (pr_tz _ _ b.1 b.2).mono ?_; rintro e w' ⟨rfl, rfl⟩))
      go_ret
      refine ⟨ri ?_, rfl⟩
      rw [← r.out, S.pr_and7]
      unfold wrap64
      omega
    · have e := and_first n 2 h
      have r : Hid _ := S.hi_rot s n 2 s0 s1 hs (by omega) h
      have b := S.rot_bd s 2
      clear h
      go_enter Try.func58, Try.ntmps58
      go_wp2_with (first | (go_at_call 60; refine (pr_rot_2 _ _ s0 s1).mono ?_; rintro e w' ⟨rfl, rfl⟩) | (go_at_call 61; refine (pr_tz _ _ b.1 b.2).mono ?_; rintro e w' ⟨rfl, rfl⟩))
      go_ret
      refine ⟨ri ?_, rfl⟩
      rw [← r.out, S.pr_and7]
      unfold wrap64
      omega
    · have e := and_first n 3 h
      have r : Hid _ := S.hi_rot s n 3 s0 s1 hs (by omega) h
      have b := S.rot_bd s 3
      clear h
      go_enter Try.func58, Try.ntmps58
      go_wp2_with (first | (go_at_call 60; refine (pr_rot_3 _ _ s0 s1).mono ?_; rintro e w' ⟨rfl, rfl⟩) | (go_at_call 61; refine (pr_tz _ _ b.1 b.2).mono ?_; rintro e w' ⟨rfl, rfl⟩))
      go_ret
      refine ⟨ri ?_, rfl⟩
      rw [← r.out, S.pr_and7]
      unfold wrap64
      omega
    · have e := and_first n 4 h
      have r : Hid _ := S.hi_rot s n 4 s0 s1 hs (by omega) h
      have b := S.rot_bd s 4
      clear h
      go_enter Try.func58, Try.ntmps58
      go_wp2_with (first | (go_at_call 60; refine (pr_rot_4 _ _ s0 s1).mono ?_; rintro e w' ⟨rfl, rfl⟩) | (go_at_call 61; refine (pr_tz _ _ b.1 b.2).mono ?_; rintro e w' ⟨rfl, rfl⟩))
      go_ret
      refine ⟨ri ?_, rfl⟩
      rw [← r.out, S.pr_and7]
      unfold wrap64
      omega
    · have e := and_first n 5 h
      have r : Hid _ := S.hi_rot s n 5 s0 s1 hs (by omega) h
      have b := S.rot_bd s 5
      clear h
      go_enter Try.func58, Try.ntmps58
      go_wp2_with (first | (go_at_call 60; refine (pr_rot_5 _ _ s0 s1).mono ?_; rintro e w' ⟨rfl, rfl⟩) | (go_at_call 61; refine (pr_tz _ _ b.1 b.2).mono ?_; rintro e w' ⟨rfl, rfl⟩))
      go_ret
      refine ⟨ri ?_, rfl⟩
      rw [← r.out, S.pr_and7]
      unfold wrap64
      omega
    · have e := and_first n 6 h
      have r : Hid _ := S.hi_rot s n 6 s0 s1 hs (by omega) h
      have b := S.rot_bd s 6
      clear h
      go_enter Try.func58, Try.ntmps58
      go_wp2_with (first | (go_at_call 60; refine (pr_rot_6 _ _ s0 s1).mono ?_; rintro e w' ⟨rfl, rfl⟩) | (go_at_call 61; refine (pr_tz _ _ b.1 b.2).mono ?_; rintro e w' ⟨rfl, rfl⟩))
      go_ret
      refine ⟨ri ?_, rfl⟩
      rw [← r.out, S.pr_and7]
      unfold wrap64
      omega
    · have e := and_first n 7 h
      have r : Hid _ := S.hi_rot s n 7 s0 s1 hs (by omega) h
      have b := S.rot_bd s 7
      clear h
      go_enter Try.func58, Try.ntmps58
      go_wp2_with (first | (go_at_call 60; refine (pr_rot_7 _ _ s0 s1).mono ?_; rintro e w' ⟨rfl, rfl⟩) | (go_at_call 61; refine (pr_tz _ _ b.1 b.2).mono ?_; rintro e w' ⟨rfl, rfl⟩))
      go_ret
      refine ⟨ri ?_, rfl⟩
      rw [← r.out, S.pr_and7]
      unfold wrap64
      omega
theorem rpr_hi (s n : Int) (s0 : 0 ≤ s) (s1 : s < 256) (w : World) : Calls Try.prog 49 #[.int .u8 s, .int .i64 n] w fun e w' => e = .returned (.int .i64 (S.hi s n)) ∧ w = w' := by
  go_enter Try.func49, Try.ntmps49
  go_wp2_with fail
  go_loopw [5, 6] (fun x i wr => ∃ j : Nat, j ≤ 8 ∧ i = .int .i64 j ∧ x = .int .i64 (S.bst s n j) ∧ w = wr) (fun _ i _ => 8 - (intOf i).toNat)
  case atStart => exact ⟨0, by omega, rfl, rfl, rfl⟩
  case round =>
    obtain ⟨j, hj, rfl, rfl, rfl⟩ := hrel
    by_cases hj8 : j = 8
    · subst hj8
      go_wp2_with fail
      go_ret
      exact ⟨ri (S.bst_hi s n), rfl⟩
    · have j0 : (0 : Int) ≤ j := by omega
      have j1 : (j : Int) < 8 := by omega
      cases ho : S.onB s j with
      | false =>
        have e1 : Hid (S.bst s n (j + 1) = S.bst s n j) := S.bst_off (by simp [ho])
        generalize S.bst s n j = x at e1
        go_wp2_with (go_at_call 57; refine (rpr_on _ _ s0 s1 j0 j1 _).mono ?_; rintro e w' ⟨rfl, rfl⟩; rw [ho])
        go_roundw
        case rel => exact ⟨j + 1, by omega, by go_num, by rw [e1.out], trivial⟩
        case measure => simp [intOf] <;> omega
      | true =>
        by_cases hx : S.bst s n j < 0
        · have e1 : Hid (S.bst s n (j + 1) = j) := S.bst_on ⟨ho, .inl hx⟩
          generalize S.bst s n j = x at hx
          go_wp2_with (go_at_call 57; refine (rpr_on _ _ s0 s1 j0 j1 _).mono ?_; rintro e w' ⟨rfl, rfl⟩; rw [ho])
          go_roundw
          case rel => exact ⟨j + 1, by omega, by go_num, by rw [e1.out], trivial⟩
          case measure => simp [intOf] <;> omega
        · by_cases hl : S.rk j n < S.rk (S.bst s n j) n
          · have e1 : Hid (S.bst s n (j + 1) = j) := S.bst_on ⟨ho, .inr hl⟩
            generalize S.bst s n j = x at hx hl
            go_wp2_with (first | (go_at_call 57; refine (rpr_on _ _ s0 s1 j0 j1 _).mono ?_; rintro e w' ⟨rfl, rfl⟩; rw [ho]) | (go_at_call 31; refine (rpr_rank _ _ _).mono ?_; rintro e w' ⟨rfl, rfl⟩))
            go_roundw
            case rel => exact ⟨j + 1, by omega, by go_num, by rw [e1.out], trivial⟩
            case measure => simp [intOf] <;> omega
          · have e1 : Hid (S.bst s n (j + 1) = S.bst s n j) := S.bst_off (fun h => h.2.elim hx hl)
            generalize S.bst s n j = x at hx hl e1
            go_wp2_with (first | (go_at_call 57; refine (rpr_on _ _ s0 s1 j0 j1 _).mono ?_; rintro e w' ⟨rfl, rfl⟩; rw [ho]) | (go_at_call 31; refine (rpr_rank _ _ _).mono ?_; rintro e w' ⟨rfl, rfl⟩))
            go_roundw
            case rel => exact ⟨j + 1, by omega, by go_num, by rw [e1.out], trivial⟩
            case measure => simp [intOf] <;> omega
theorem rpr_blk (m s : Int) (sp : Bool) (w : World) : Calls Try.prog 50 #[.int .u8 m, .int .u8 s, .bool sp] w fun e w' => e = .returned (.int .u8 (S.blk m s sp)) ∧ w = w' := by
  cases sp
  all_goals
    go_enter Try.func50, Try.ntmps50
    go_wp2_with fail
    go_ret
    exact ⟨rfl, rfl⟩
theorem pr_pick_on (q m s n x y : Int) (bb : Hid (0 ≤ bits .andNot .u8 s m ∧ bits .andNot .u8 s m < 256)) (HX : Hid (S.hi (bits .andNot .u8 q m) n = x)) (HY : Hid (S.hi (bits .andNot .u8 s m) n = y)) (w : World) : Calls Try.prog 51 #[.int .u8 q, .int .u8 m, .int .u8 s, .int .i64 n, .bool true] w fun e w' => e = .returned (.int .i64 (if 0 ≤ x ∧ (y < 0 ∨ S.rk x n < S.rk y n) then x else -1)) ∧ w = w' := by
  have bq : Hid _ := S.andNot_bd q m
  have bx := S.hi_bd (bits .andNot .u8 q m) n
  have by' := S.hi_bd (bits .andNot .u8 s m) n
  rw [HX.out] at bx
  rw [HY.out] at by'
  by_cases h1 : x = -1
  · subst h1
    by_cases h2 : y = -1
    · subst h2
      go_enter Try.func51, Try.ntmps51
      go_wp2_with (first | (go_at_call 58; refine (pr_hi _ _ (by first | with_reducible exact bq.out.1 | with_reducible exact bb.out.1) (by first | with_reducible exact bq.out.2 | with_reducible exact bb.out.2) _).mono ?_; rintro e w' ⟨rfl, rfl⟩; first | rw [HX.out] | rw [HY.out]) | (go_at_call 59; refine (pr_rank _ _ _).mono ?_; rintro e w' ⟨rfl, rfl⟩) | (go_at_call 50; refine (rpr_blk _ _ _ _).mono ?_; rintro e w' ⟨rfl, rfl⟩; rw [show S.blk m s true = bits .andNot .u8 s m from rfl]))
      go_ret
      exact ⟨rfl, rfl⟩
    · go_enter Try.func51, Try.ntmps51
      go_wp2_with (first | (go_at_call 58; refine (pr_hi _ _ (by first | with_reducible exact bq.out.1 | with_reducible exact bb.out.1) (by first | with_reducible exact bq.out.2 | with_reducible exact bb.out.2) _).mono ?_; rintro e w' ⟨rfl, rfl⟩; first | rw [HX.out] | rw [HY.out]) | (go_at_call 59; refine (pr_rank _ _ _).mono ?_; rintro e w' ⟨rfl, rfl⟩) | (go_at_call 50; refine (rpr_blk _ _ _ _).mono ?_; rintro e w' ⟨rfl, rfl⟩; rw [show S.blk m s true = bits .andNot .u8 s m from rfl]))
      go_ret
      exact ⟨rfl, rfl⟩
  · have h3 : 0 ≤ x := by omega
    have g1 : (x == -1) = false := by simpa using h1
    have g3 : decide (0 ≤ x) = true := by simpa using h3
    by_cases h2 : y = -1
    · subst h2
      rw [if_pos ⟨h3, .inl (by omega)⟩]
      go_enter Try.func51, Try.ntmps51
      go_wp2_with (first | (go_at_call 58; refine (pr_hi _ _ (by first | with_reducible exact bq.out.1 | with_reducible exact bb.out.1) (by first | with_reducible exact bq.out.2 | with_reducible exact bb.out.2) _).mono ?_; rintro e w' ⟨rfl, rfl⟩; first | rw [HX.out] | rw [HY.out]) | (go_at_call 59; refine (pr_rank _ _ _).mono ?_; rintro e w' ⟨rfl, rfl⟩) | (go_at_call 50; refine (rpr_blk _ _ _ _).mono ?_; rintro e w' ⟨rfl, rfl⟩; rw [show S.blk m s true = bits .andNot .u8 s m from rfl]))
      go_ret
      exact ⟨rfl, rfl⟩
    · have h4 : ¬y < 0 := by omega
      have g2 : (y != -1) = true := by simpa using h2
      have g4 : decide (y < 0) = false := by simpa using h4
      by_cases h5 : S.rk x n < S.rk y n
      · rw [if_pos ⟨h3, .inr h5⟩]
        have g5 : decide (S.rk x n < S.rk y n) = true := by simpa using h5
        have g6 : decide (S.rk y n ≤ S.rk x n) = false := decide_eq_false (by omega)
        go_enter Try.func51, Try.ntmps51
        go_wp2_with (first | (go_at_call 58; refine (pr_hi _ _ (by first | with_reducible exact bq.out.1 | with_reducible exact bb.out.1) (by first | with_reducible exact bq.out.2 | with_reducible exact bb.out.2) _).mono ?_; rintro e w' ⟨rfl, rfl⟩; first | rw [HX.out] | rw [HY.out]) | (go_at_call 59; refine (pr_rank _ _ _).mono ?_; rintro e w' ⟨rfl, rfl⟩) | (go_at_call 50; refine (rpr_blk _ _ _ _).mono ?_; rintro e w' ⟨rfl, rfl⟩; rw [show S.blk m s true = bits .andNot .u8 s m from rfl]))
        go_ret
        exact ⟨rfl, rfl⟩
      · rw [if_neg (fun h => h.2.elim h4 h5)]
        have g5 : decide (S.rk x n < S.rk y n) = false := by simpa using h5
        have g6 : decide (S.rk y n ≤ S.rk x n) = true := decide_eq_true (by omega)
        go_enter Try.func51, Try.ntmps51
        go_wp2_with (first | (go_at_call 58; refine (pr_hi _ _ (by first | with_reducible exact bq.out.1 | with_reducible exact bb.out.1) (by first | with_reducible exact bq.out.2 | with_reducible exact bb.out.2) _).mono ?_; rintro e w' ⟨rfl, rfl⟩; first | rw [HX.out] | rw [HY.out]) | (go_at_call 59; refine (pr_rank _ _ _).mono ?_; rintro e w' ⟨rfl, rfl⟩) | (go_at_call 50; refine (rpr_blk _ _ _ _).mono ?_; rintro e w' ⟨rfl, rfl⟩; rw [show S.blk m s true = bits .andNot .u8 s m from rfl]))
        go_ret
        exact ⟨rfl, rfl⟩
theorem pr_pick_off (q m s n x y : Int) (bb : Hid (0 ≤ s ∧ s < 256)) (HX : Hid (S.hi (bits .andNot .u8 q m) n = x)) (HY : Hid (S.hi (s) n = y)) (w : World) : Calls Try.prog 51 #[.int .u8 q, .int .u8 m, .int .u8 s, .int .i64 n, .bool false] w fun e w' => e = .returned (.int .i64 (if 0 ≤ x ∧ (y < 0 ∨ S.rk x n < S.rk y n) then x else -1)) ∧ w = w' := by
  have bq : Hid _ := S.andNot_bd q m
  have bx := S.hi_bd (bits .andNot .u8 q m) n
  have by' := S.hi_bd (s) n
  rw [HX.out] at bx
  rw [HY.out] at by'
  by_cases h1 : x = -1
  · subst h1
    by_cases h2 : y = -1
    · subst h2
      go_enter Try.func51, Try.ntmps51
      go_wp2_with (first | (go_at_call 58; refine (pr_hi _ _ (by first | with_reducible exact bq.out.1 | with_reducible exact bb.out.1) (by first | with_reducible exact bq.out.2 | with_reducible exact bb.out.2) _).mono ?_; rintro e w' ⟨rfl, rfl⟩; first | rw [HX.out] | rw [HY.out]) | (go_at_call 59; refine (pr_rank _ _ _).mono ?_; rintro e w' ⟨rfl, rfl⟩) | (go_at_call 50; refine (rpr_blk _ _ _ _).mono ?_; rintro e w' ⟨rfl, rfl⟩; rw [show S.blk m s false = s from rfl]))
      go_ret
      exact ⟨rfl, rfl⟩
    · go_enter Try.func51, Try.ntmps51
      go_wp2_with (first | (go_at_call 58; refine (pr_hi _ _ (by first | with_reducible exact bq.out.1 | with_reducible exact bb.out.1) (by first | with_reducible exact bq.out.2 | with_reducible exact bb.out.2) _).mono ?_; rintro e w' ⟨rfl, rfl⟩; first | rw [HX.out] | rw [HY.out]) | (go_at_call 59; refine (pr_rank _ _ _).mono ?_; rintro e w' ⟨rfl, rfl⟩) | (go_at_call 50; refine (rpr_blk _ _ _ _).mono ?_; rintro e w' ⟨rfl, rfl⟩; rw [show S.blk m s false = s from rfl]))
      go_ret
      exact ⟨rfl, rfl⟩
  · have h3 : 0 ≤ x := by omega
    have g1 : (x == -1) = false := by simpa using h1
    have g3 : decide (0 ≤ x) = true := by simpa using h3
    by_cases h2 : y = -1
    · subst h2
      rw [if_pos ⟨h3, .inl (by omega)⟩]
      go_enter Try.func51, Try.ntmps51
      go_wp2_with (first | (go_at_call 58; refine (pr_hi _ _ (by first | with_reducible exact bq.out.1 | with_reducible exact bb.out.1) (by first | with_reducible exact bq.out.2 | with_reducible exact bb.out.2) _).mono ?_; rintro e w' ⟨rfl, rfl⟩; first | rw [HX.out] | rw [HY.out]) | (go_at_call 59; refine (pr_rank _ _ _).mono ?_; rintro e w' ⟨rfl, rfl⟩) | (go_at_call 50; refine (rpr_blk _ _ _ _).mono ?_; rintro e w' ⟨rfl, rfl⟩; rw [show S.blk m s false = s from rfl]))
      go_ret
      exact ⟨rfl, rfl⟩
    · have h4 : ¬y < 0 := by omega
      have g2 : (y != -1) = true := by simpa using h2
      have g4 : decide (y < 0) = false := by simpa using h4
      by_cases h5 : S.rk x n < S.rk y n
      · rw [if_pos ⟨h3, .inr h5⟩]
        have g5 : decide (S.rk x n < S.rk y n) = true := by simpa using h5
        have g6 : decide (S.rk y n ≤ S.rk x n) = false := decide_eq_false (by omega)
        go_enter Try.func51, Try.ntmps51
        go_wp2_with (first | (go_at_call 58; refine (pr_hi _ _ (by first | with_reducible exact bq.out.1 | with_reducible exact bb.out.1) (by first | with_reducible exact bq.out.2 | with_reducible exact bb.out.2) _).mono ?_; rintro e w' ⟨rfl, rfl⟩; first | rw [HX.out] | rw [HY.out]) | (go_at_call 59; refine (pr_rank _ _ _).mono ?_; rintro e w' ⟨rfl, rfl⟩) | (go_at_call 50; refine (rpr_blk _ _ _ _).mono ?_; rintro e w' ⟨rfl, rfl⟩; rw [show S.blk m s false = s from rfl]))
        go_ret
        exact ⟨rfl, rfl⟩
      · rw [if_neg (fun h => h.2.elim h4 h5)]
        have g5 : decide (S.rk x n < S.rk y n) = false := by simpa using h5
        have g6 : decide (S.rk y n ≤ S.rk x n) = true := decide_eq_true (by omega)
        go_enter Try.func51, Try.ntmps51
        go_wp2_with (first | (go_at_call 58; refine (pr_hi _ _ (by first | with_reducible exact bq.out.1 | with_reducible exact bb.out.1) (by first | with_reducible exact bq.out.2 | with_reducible exact bb.out.2) _).mono ?_; rintro e w' ⟨rfl, rfl⟩; first | rw [HX.out] | rw [HY.out]) | (go_at_call 59; refine (pr_rank _ _ _).mono ?_; rintro e w' ⟨rfl, rfl⟩) | (go_at_call 50; refine (rpr_blk _ _ _ _).mono ?_; rintro e w' ⟨rfl, rfl⟩; rw [show S.blk m s false = s from rfl]))
        go_ret
        exact ⟨rfl, rfl⟩
theorem rpr_pick_on (q m s n x y : Int) (bb : Hid (0 ≤ bits .andNot .u8 s m ∧ bits .andNot .u8 s m < 256)) (HX : Hid (S.hi (bits .andNot .u8 q m) n = x)) (HY : Hid (S.hi (bits .andNot .u8 s m) n = y)) (w : World) : Calls Try.prog 30 #[.int .u8 q, .int .u8 m, .int .u8 s, .int .i64 n, .bool true] w fun e w' => e = .returned (.int .i64 (if 0 ≤ x ∧ (y < 0 ∨ S.rk x n < S.rk y n) then x else -1)) ∧ w = w' := by
  have bq : Hid _ := S.andNot_bd q m
  have bx := S.hi_bd (bits .andNot .u8 q m) n
  have by' := S.hi_bd (bits .andNot .u8 s m) n
  rw [HX.out] at bx
  rw [HY.out] at by'
  by_cases h1 : x = -1
  · subst h1
    by_cases h2 : y = -1
    · subst h2
      go_enter Try.func30, Try.ntmps30
      go_wp2_with (first | (go_at_call 49; refine (rpr_hi _ _ (by first | with_reducible exact bq.out.1 | with_reducible exact bb.out.1) (by first | with_reducible exact bq.out.2 | with_reducible exact bb.out.2) _).mono ?_; rintro e w' ⟨rfl, rfl⟩; first | rw [HX.out] | rw [HY.out]) | (go_at_call 31; refine (rpr_rank _ _ _).mono ?_; rintro e w' ⟨rfl, rfl⟩) | (go_at_call 50; refine (rpr_blk _ _ _ _).mono ?_; rintro e w' ⟨rfl, rfl⟩; rw [show S.blk m s true = bits .andNot .u8 s m from rfl]))
      go_ret
      exact ⟨rfl, rfl⟩
    · go_enter Try.func30, Try.ntmps30
      go_wp2_with (first | (go_at_call 49; refine (rpr_hi _ _ (by first | with_reducible exact bq.out.1 | with_reducible exact bb.out.1) (by first | with_reducible exact bq.out.2 | with_reducible exact bb.out.2) _).mono ?_; rintro e w' ⟨rfl, rfl⟩; first | rw [HX.out] | rw [HY.out]) | (go_at_call 31; refine (rpr_rank _ _ _).mono ?_; rintro e w' ⟨rfl, rfl⟩) | (go_at_call 50; refine (rpr_blk _ _ _ _).mono ?_; rintro e w' ⟨rfl, rfl⟩; rw [show S.blk m s true = bits .andNot .u8 s m from rfl]))
      go_ret
      exact ⟨rfl, rfl⟩
  · have h3 : 0 ≤ x := by omega
    have g1 : (x == -1) = false := by simpa using h1
    have g3 : decide (0 ≤ x) = true := by simpa using h3
    by_cases h2 : y = -1
    · subst h2
      rw [if_pos ⟨h3, .inl (by omega)⟩]
      go_enter Try.func30, Try.ntmps30
      go_wp2_with (first | (go_at_call 49; refine (rpr_hi _ _ (by first | with_reducible exact bq.out.1 | with_reducible exact bb.out.1) (by first | with_reducible exact bq.out.2 | with_reducible exact bb.out.2) _).mono ?_; rintro e w' ⟨rfl, rfl⟩; first | rw [HX.out] | rw [HY.out]) | (go_at_call 31; refine (rpr_rank _ _ _).mono ?_; rintro e w' ⟨rfl, rfl⟩) | (go_at_call 50; refine (rpr_blk _ _ _ _).mono ?_; rintro e w' ⟨rfl, rfl⟩; rw [show S.blk m s true = bits .andNot .u8 s m from rfl]))
      go_ret
      exact ⟨rfl, rfl⟩
    · have h4 : ¬y < 0 := by omega
      have g2 : (y != -1) = true := by simpa using h2
      have g4 : decide (y < 0) = false := by simpa using h4
      by_cases h5 : S.rk x n < S.rk y n
      · rw [if_pos ⟨h3, .inr h5⟩]
        have g5 : decide (S.rk x n < S.rk y n) = true := by simpa using h5
        have g6 : decide (S.rk y n ≤ S.rk x n) = false := decide_eq_false (by omega)
        go_enter Try.func30, Try.ntmps30
        go_wp2_with (first | (go_at_call 49; refine (rpr_hi _ _ (by first | with_reducible exact bq.out.1 | with_reducible exact bb.out.1) (by first | with_reducible exact bq.out.2 | with_reducible exact bb.out.2) _).mono ?_; rintro e w' ⟨rfl, rfl⟩; first | rw [HX.out] | rw [HY.out]) | (go_at_call 31; refine (rpr_rank _ _ _).mono ?_; rintro e w' ⟨rfl, rfl⟩) | (go_at_call 50; refine (rpr_blk _ _ _ _).mono ?_; rintro e w' ⟨rfl, rfl⟩; rw [show S.blk m s true = bits .andNot .u8 s m from rfl]))
        go_ret
        exact ⟨rfl, rfl⟩
      · rw [if_neg (fun h => h.2.elim h4 h5)]
        have g5 : decide (S.rk x n < S.rk y n) = false := by simpa using h5
        have g6 : decide (S.rk y n ≤ S.rk x n) = true := decide_eq_true (by omega)
        go_enter Try.func30, Try.ntmps30
        go_wp2_with (first | (go_at_call 49; refine (rpr_hi _ _ (by first | with_reducible exact bq.out.1 | with_reducible exact bb.out.1) (by first | with_reducible exact bq.out.2 | with_reducible exact bb.out.2) _).mono ?_; rintro e w' ⟨rfl, rfl⟩; first | rw [HX.out] | rw [HY.out]) | (go_at_call 31; refine (rpr_rank _ _ _).mono ?_; rintro e w' ⟨rfl, rfl⟩) | (go_at_call 50; refine (rpr_blk _ _ _ _).mono ?_; rintro e w' ⟨rfl, rfl⟩; rw [show S.blk m s true = bits .andNot .u8 s m from rfl]))
        go_ret
        exact ⟨rfl, rfl⟩
theorem rpr_pick_off (q m s n x y : Int) (bb : Hid (0 ≤ s ∧ s < 256)) (HX : Hid (S.hi (bits .andNot .u8 q m) n = x)) (HY : Hid (S.hi (s) n = y)) (w : World) : Calls Try.prog 30 #[.int .u8 q, .int .u8 m, .int .u8 s, .int .i64 n, .bool false] w fun e w' => e = .returned (.int .i64 (if 0 ≤ x ∧ (y < 0 ∨ S.rk x n < S.rk y n) then x else -1)) ∧ w = w' := by
  have bq : Hid _ := S.andNot_bd q m
  have bx := S.hi_bd (bits .andNot .u8 q m) n
  have by' := S.hi_bd (s) n
  rw [HX.out] at bx
  rw [HY.out] at by'
  by_cases h1 : x = -1
  · subst h1
    by_cases h2 : y = -1
    · subst h2
      go_enter Try.func30, Try.ntmps30
      go_wp2_with (first | (go_at_call 49; refine (rpr_hi _ _ (by first | with_reducible exact bq.out.1 | with_reducible exact bb.out.1) (by first | with_reducible exact bq.out.2 | with_reducible exact bb.out.2) _).mono ?_; rintro e w' ⟨rfl, rfl⟩; first | rw [HX.out] | rw [HY.out]) | (go_at_call 31; refine (rpr_rank _ _ _).mono ?_; rintro e w' ⟨rfl, rfl⟩) | (go_at_call 50; refine (rpr_blk _ _ _ _).mono ?_; rintro e w' ⟨rfl, rfl⟩; rw [show S.blk m s false = s from rfl]))
      go_ret
      exact ⟨rfl, rfl⟩
    · go_enter Try.func30, Try.ntmps30
      go_wp2_with (first | (go_at_call 49; refine (rpr_hi _ _ (by first | with_reducible exact bq.out.1 | with_reducible exact bb.out.1) (by first | with_reducible exact bq.out.2 | with_reducible exact bb.out.2) _).mono ?_; rintro e w' ⟨rfl, rfl⟩; first | rw [HX.out] | rw [HY.out]) | (go_at_call 31; refine (rpr_rank _ _ _).mono ?_; rintro e w' ⟨rfl, rfl⟩) | (go_at_call 50; refine (rpr_blk _ _ _ _).mono ?_; rintro e w' ⟨rfl, rfl⟩; rw [show S.blk m s false = s from rfl]))
      go_ret
      exact ⟨rfl, rfl⟩
  · have h3 : 0 ≤ x := by omega
    have g1 : (x == -1) = false := by simpa using h1
    have g3 : decide (0 ≤ x) = true := by simpa using h3
    by_cases h2 : y = -1
    · subst h2
      rw [if_pos ⟨h3, .inl (by omega)⟩]
      go_enter Try.func30, Try.ntmps30
      go_wp2_with (first | (go_at_call 49; refine (rpr_hi _ _ (by first | with_reducible exact bq.out.1 | with_reducible exact bb.out.1) (by first | with_reducible exact bq.out.2 | with_reducible exact bb.out.2) _).mono ?_; rintro e w' ⟨rfl, rfl⟩; first | rw [HX.out] | rw [HY.out]) | (go_at_call 31; refine (rpr_rank _ _ _).mono ?_; rintro e w' ⟨rfl, rfl⟩) | (go_at_call 50; refine (rpr_blk _ _ _ _).mono ?_; rintro e w' ⟨rfl, rfl⟩; rw [show S.blk m s false = s from rfl]))
      go_ret
      exact ⟨rfl, rfl⟩
    · have h4 : ¬y < 0 := by omega
      have g2 : (y != -1) = true := by simpa using h2
      have g4 : decide (y < 0) = false := by simpa using h4
      by_cases h5 : S.rk x n < S.rk y n
      · rw [if_pos ⟨h3, .inr h5⟩]
        have g5 : decide (S.rk x n < S.rk y n) = true := by simpa using h5
        have g6 : decide (S.rk y n ≤ S.rk x n) = false := decide_eq_false (by omega)
        go_enter Try.func30, Try.ntmps30
        go_wp2_with (first | (go_at_call 49; refine (rpr_hi _ _ (by first | with_reducible exact bq.out.1 | with_reducible exact bb.out.1) (by first | with_reducible exact bq.out.2 | with_reducible exact bb.out.2) _).mono ?_; rintro e w' ⟨rfl, rfl⟩; first | rw [HX.out] | rw [HY.out]) | (go_at_call 31; refine (rpr_rank _ _ _).mono ?_; rintro e w' ⟨rfl, rfl⟩) | (go_at_call 50; refine (rpr_blk _ _ _ _).mono ?_; rintro e w' ⟨rfl, rfl⟩; rw [show S.blk m s false = s from rfl]))
        go_ret
        exact ⟨rfl, rfl⟩
      · rw [if_neg (fun h => h.2.elim h4 h5)]
        have g5 : decide (S.rk x n < S.rk y n) = false := by simpa using h5
        have g6 : decide (S.rk y n ≤ S.rk x n) = true := decide_eq_true (by omega)
        go_enter Try.func30, Try.ntmps30
        go_wp2_with (first | (go_at_call 49; refine (rpr_hi _ _ (by first | with_reducible exact bq.out.1 | with_reducible exact bb.out.1) (by first | with_reducible exact bq.out.2 | with_reducible exact bb.out.2) _).mono ?_; rintro e w' ⟨rfl, rfl⟩; first | rw [HX.out] | rw [HY.out]) | (go_at_call 31; refine (rpr_rank _ _ _).mono ?_; rintro e w' ⟨rfl, rfl⟩) | (go_at_call 50; refine (rpr_blk _ _ _ _).mono ?_; rintro e w' ⟨rfl, rfl⟩; rw [show S.blk m s false = s from rfl]))
        go_ret
        exact ⟨rfl, rfl⟩
theorem pr_pick (q m s n : Int) (sp : Bool) (s0 : 0 ≤ s) (s1 : s < 256) (w : World) : Calls Try.prog 51 #[.int .u8 q, .int .u8 m, .int .u8 s, .int .i64 n, .bool sp] w fun e w' => e = .returned (.int .i64 (S.pk (bits .andNot .u8 q m) (S.blk m s sp) n)) ∧ w = w' := by
  cases sp
  · exact pr_pick_off q m s n _ _ ⟨s0, s1⟩ rfl rfl w
  · exact pr_pick_on q m s n _ _ (S.andNot_bd s m) rfl rfl w
theorem rpr_pick (q m s n : Int) (sp : Bool) (s0 : 0 ≤ s) (s1 : s < 256) (w : World) : Calls Try.prog 30 #[.int .u8 q, .int .u8 m, .int .u8 s, .int .i64 n, .bool sp] w fun e w' => e = .returned (.int .i64 (S.pk (bits .andNot .u8 q m) (S.blk m s sp) n)) ∧ w = w' := by
  cases sp
  · exact rpr_pick_off q m s n _ _ ⟨s0, s1⟩ rfl rfl w
  · exact rpr_pick_on q m s n _ _ (S.andNot_bd s m) rfl rfl w
end Go.Proofs.Ytionembpmfahlaa
