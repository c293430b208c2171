/- Contracts of package bits and of the reference's chapter 1: each returns the plain function's value and leaves the world alone. Conditions: bytes are from 0 to 255. -/
import Derived.Test.YtnbkfdefkonodaaChecked
import Derived.Test.YtnbkfdefkonodaaShelf
import Derived.Test.YtnbkfdefkonodaaS1
import Derived.WalkKit
import Derived.ProofKit
import Derived.OpenShut
namespace Go.Proofs.Ytnbkfdefkonodaa
open Go.ChangeShapes Go.WideShapes Go.ChangeAt Go.RowKit
set_option linter.unusedVariables false
theorem ri {k : IntKind} {a b : Int} (h : a = b) : Ending.returned (.int k a) = .returned (.int k b) := by rw [h]
theorem rb {a b : Bool} (h : a = b) : Ending.returned (.bool a) = .returned (.bool b) := by rw [h]
theorem number_any (b : Bool) (w : World) : Calls Try.prog 28 #[.bool b] w fun e w' => e = .returned (.int .i64 (S.one b)) ∧ w = w' := by
  cases b
  all_goals
    go_enter Try.func28, Try.ntmps28
    go_wp2
    go_ret
    exact ⟨rfl, rfl⟩
theorem one_any (b : Bool) (w : World) : Calls Try.prog 33 #[.bool b] w fun e w' => e = .returned (.int .i64 (S.one b)) ∧ w = w' := by
  cases b
  all_goals
    go_enter Try.func33, Try.ntmps33
    go_wp2
    go_ret
    exact ⟨rfl, rfl⟩
theorem nibble_any (a : Int) (h0 : 0 ≤ a) (h1 : a < 256) (w : World) : Calls Try.prog 29 #[.int .u8 a] w fun e w' => e = .returned (.int .i64 (a % 16)) ∧ w = w' := by
  go_enter Try.func29, Try.ntmps29
  go_wp2
  go_ret
  exact ⟨rfl, rfl⟩
theorem signed_any (a : Int) (h0 : 0 ≤ a) (h1 : a < 256) (w : World) : Calls Try.prog 31 #[.int .u8 a] w fun e w' => e = .returned (.int .i64 (S.sgn a)) ∧ w = w' := by
  go_enter Try.func31, Try.ntmps31
  go_wp2
  go_ret
  exact ⟨ri (S.sgn_wrap a h0 h1), rfl⟩
theorem rsigned_any (a : Int) (h0 : 0 ≤ a) (h1 : a < 256) (w : World) : Calls Try.prog 34 #[.int .u8 a] w fun e w' => e = .returned (.int .i64 (S.sgn a)) ∧ w = w' := by
  go_enter Try.func34, Try.ntmps34
  go_wp2
  go_ret
  exact ⟨ri (S.sgn_wrap a h0 h1), rfl⟩
theorem overflows_any (a : Int) (w : World) : Calls Try.prog 30 #[.int .i64 a] w fun e w' => e = .returned (.bool (S.ovf a)) ∧ w = w' := by
  unfold S.ovf
  go_enter Try.func30, Try.ntmps30
  go_wp2
  all_goals
    go_ret
    exact ⟨rfl, rfl⟩
theorem dif_any (a b : Int) (c : Bool) (a0 : 0 ≤ a) (a1 : a < 256) (b0 : 0 ≤ b) (b1 : b < 256) (w : World) :
    Calls Try.prog 18 #[.int .u8 a, .int .u8 b, .bool c] w fun e w' => e = .returned (.tuple #[.int .u8 (S.difR a b c), .bool (S.difO a b c), .bool (S.difH a b c), .bool (S.difV a b c)]) ∧ w = w' := by
  have hc := S.one_bd c
  have sa := S.sgn_bd a a0 a1
  have sb := S.sgn_bd b b0 b1
  go_enter Try.func18, Try.ntmps18
  go_wp2_with (first | (go_at_call 28; refine (number_any _ _).mono ?_; rintro e w' ⟨rfl, rfl⟩) | (go_at_call 29; refine (nibble_any _ (by assumption) (by assumption) _).mono ?_; rintro e w' ⟨rfl, rfl⟩) | (go_at_call 31; refine (signed_any _ (by assumption) (by assumption) _).mono ?_; rintro e w' ⟨rfl, rfl⟩) | (go_at_call 30; refine (overflows_any _ _).mono ?_; rintro e w' ⟨rfl, rfl⟩))
  exact bodyPost_ret (v := .tuple #[.int .u8 (S.difR a b c), .bool (S.difO a b c), .bool (S.difH a b c), .bool (S.difV a b c)]) (by simp [results, Try.results18, go_sem]; exact ⟨rfl, rfl, rfl, rfl⟩) rfl ⟨rfl, rfl⟩
theorem rdif_any (a b : Int) (c : Bool) (a0 : 0 ≤ a) (a1 : a < 256) (b0 : 0 ≤ b) (b1 : b < 256) (w : World) :
    Calls Try.prog 23 #[.int .u8 a, .int .u8 b, .bool c] w fun e w' => e = .returned (.tuple #[.int .u8 (S.difR a b c), .bool (S.difO a b c), .bool (S.difH a b c), .bool (S.difV a b c)]) ∧ w = w' := by
  have hc := S.one_bd c
  have sa := S.sgn_bd a a0 a1
  have sb := S.sgn_bd b b0 b1
  go_enter Try.func23, Try.ntmps23
  go_wp2_with (first | (go_at_call 33; refine (one_any _ _).mono ?_; rintro e w' ⟨rfl, rfl⟩) | (go_at_call 34; refine (rsigned_any _ (by assumption) (by assumption) _).mono ?_; rintro e w' ⟨rfl, rfl⟩))
  all_goals exact bodyPost_ret (v := .tuple #[.int .u8 (S.difR a b c), .bool (S.difO a b c), .bool (S.difH a b c), .bool (S.difV a b c)]) (by simp [results, Try.results23, go_sem]; simp [S.difR, S.difO, S.difH, S.difV, S.ovf, *]; omega) rfl ⟨rfl, rfl⟩
theorem parity_any (a : Int) (a0 : 0 ≤ a) (a1 : a < 256) (w : World) : Calls Try.prog 22 #[.int .u8 a] w fun e w' => e = .returned (.bool (S.par a)) ∧ w = w' := by
  go_enter Try.func22, Try.ntmps22
  go_wp2_with (first | (go_at_call 32; refine (Try.bits_OnesCount8 _ _ (by omega) (by omega)).mono ?_; rintro e w' ⟨rfl, rfl⟩))
  go_ret
  exact ⟨rb (S.par_ones a a0 a1), rfl⟩
theorem rparity_any (a : Int) (a0 : 0 ≤ a) (a1 : a < 256) (w : World) : Calls Try.prog 25 #[.int .u8 a] w fun e w' => e = .returned (.bool (S.par a)) ∧ w = w' := by
  go_enter Try.func25, Try.ntmps25
  go_wp2
  go_loop [3, 4] (fun e i => ∃ k : Nat, k ≤ 8 ∧ i = .int .i64 k ∧ e = .bool (S.parN a k)) (fun _ i => 8 - (intOf i).toNat)
  case atStart => exact ⟨0, by omega, rfl, rfl⟩
  case round =>
    obtain ⟨k, hk, rfl, rfl⟩ := hrel
    by_cases hlt : k < 8
    · have hs : S.parN a (k + 1) = if a / 2 ^ k % 2 = 1 then !S.parN a k else S.parN a k := rfl
      have ht := S.bit_test a a0 a1 (2 ^ k) (by exact Int.pow_pos (by decide))
      by_cases hb : a / 2 ^ k % 2 = 1
      all_goals
        first | rw [if_pos hb] at hs | rw [if_neg hb] at hs
        first | rw [decide_eq_true hb] at ht | rw [decide_eq_false hb] at ht
        clear hb
        have hs' : Hid _ := hs
        clear hs
        rcases (by omega : k = 0 ∨ k = 1 ∨ k = 2 ∨ k = 3 ∨ k = 4 ∨ k = 5 ∨ k = 6 ∨ k = 7) with rfl | rfl | rfl | rfl | rfl | rfl | rfl | rfl
        all_goals
          simp only [Int.reducePow, Int.ediv_one] at ht
          go_wp2
          go_round
          case rel => first | exact ⟨1, by omega, rfl, by rw [hs'.out]⟩ | exact ⟨2, by omega, rfl, by rw [hs'.out]⟩ | exact ⟨3, by omega, rfl, by rw [hs'.out]⟩ | exact ⟨4, by omega, rfl, by rw [hs'.out]⟩ | exact ⟨5, by omega, rfl, by rw [hs'.out]⟩ | exact ⟨6, by omega, rfl, by rw [hs'.out]⟩ | exact ⟨7, by omega, rfl, by rw [hs'.out]⟩ | exact ⟨8, by omega, rfl, by rw [hs'.out]⟩
          case measure => simp [intOf]
    · have : k = 8 := by omega
      subst this
      go_wp2
      go_ret
      exact ⟨rfl, rfl⟩
theorem majority_any (a b c : Bool) (w : World) : Calls Try.prog 21 #[.bool a, .bool b, .bool c] w fun e w' => e = .returned (.bool (S.maj a b c)) ∧ w = w' := by
  cases a <;> cases b <;> cases c
  all_goals
    go_enter Try.func21, Try.ntmps21
    go_wp2
    go_ret
    exact ⟨rfl, rfl⟩
theorem rmajority_any (a b c : Bool) (w : World) : Calls Try.prog 26 #[.bool a, .bool b, .bool c] w fun e w' => e = .returned (.bool (S.maj a b c)) ∧ w = w' := by
  cases a <;> cases b <;> cases c
  all_goals
    go_enter Try.func26, Try.ntmps26
    go_wp2
    go_ret
    exact ⟨rfl, rfl⟩
theorem join_any (a b : Int) (a0 : 0 ≤ a) (a1 : a < 256) (b0 : 0 ≤ b) (b1 : b < 256) (w : World) : Calls Try.prog 19 #[.int .u8 a, .int .u8 b] w fun e w' => e = .returned (.int .u16 (S.joi a b)) ∧ w = w' := by
  go_enter Try.func19, Try.ntmps19
  go_wp2
  go_ret
  exact ⟨rfl, rfl⟩
theorem rjoin_any (a b : Int) (a0 : 0 ≤ a) (a1 : a < 256) (b0 : 0 ≤ b) (b1 : b < 256) (w : World) : Calls Try.prog 24 #[.int .u8 a, .int .u8 b] w fun e w' => e = .returned (.int .u16 (S.joi a b)) ∧ w = w' := by
  go_enter Try.func24, Try.ntmps24
  go_wp2
  go_ret
  exact ⟨rfl, rfl⟩
end Go.Proofs.Ytnbkfdefkonodaa
