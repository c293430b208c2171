/- Contracts of package bits and of the reference's chapter 1: each returns the plain function's value and leaves the world alone. Conditions: bytes are from 0 to 255. -/
import Derived.Test.YtgfcdgmcmdjoiaaChecked
import Derived.Test.YtgfcdgmcmdjoiaaShelf
import Derived.Test.YtgfcdgmcmdjoiaaS1
import Derived.WalkKit
import Derived.ProofKit
import Derived.OpenShut
namespace Go.Proofs.Ytgfcdgmcmdjoiaa
open Go.ChangeShapes Go.WideShapes Go.ChangeAt Go.RowKit
set_option linter.unusedVariables false
theorem ri {k : IntKind} {a b : Int} (h : a = b) : Ending.returned (.int k a) = .returned (.int k b) := by rw [h]
theorem rb {a b : Bool} (h : a = b) : Ending.returned (.bool a) = .returned (.bool b) := by rw [h]
theorem parity_any (a : Int) (a0 : 0 ≤ a) (a1 : a < 256) (w : World) : Calls Try.prog 19 #[.int .u8 a] w fun e w' => e = .returned (.bool (S.par a)) ∧ w = w' := by
  go_enter Try.func19, Try.ntmps19
  go_wp2_with (first | (go_at_call 21; refine (Try.bits_OnesCount8 _ _ (by omega) (by omega)).mono ?_; rintro e w' ⟨rfl, rfl⟩))
  go_ret
  exact ⟨rb (S.par_ones a a0 a1), rfl⟩
theorem rparity_any (a : Int) (a0 : 0 ≤ a) (a1 : a < 256) (w : World) : Calls Try.prog 20 #[.int .u8 a] w fun e w' => e = .returned (.bool (S.par a)) ∧ w = w' := by
  go_enter Try.func20, Try.ntmps20
  go_wp2
  go_loop [3, 4] (fun e i => ∃ k : Nat, k ≤ 8 ∧ i = .int .i64 k ∧ e = .bool (S.parN a k)) (fun _ i => 8 - (intOf i).toNat)
  case atStart => exact ⟨0, by omega, rfl, rfl⟩
  case round =>
    obtain ⟨k, hk, rfl, rfl⟩ := hrel
    by_cases hlt : k < 8
    · have hs : S.parN a (k + 1) = if a / 2 ^ k % 2 = 1 then !S.parN a k else S.parN a k := rfl
      have ht := S.bit_test a a0 a1 (2 ^ k) (by exact Int.pow_pos (by decide))
      by_cases hb : a / 2 ^ k % 2 = 1
      all_goals
        first | rw [if_pos hb] at hs | rw [if_neg hb] at hs
        first | rw [decide_eq_true hb] at ht | rw [decide_eq_false hb] at ht
        clear hb
        have hs' : Hid _ := hs
        clear hs
        rcases (by omega : k = 0 ∨ k = 1 ∨ k = 2 ∨ k = 3 ∨ k = 4 ∨ k = 5 ∨ k = 6 ∨ k = 7) with rfl | rfl | rfl | rfl | rfl | rfl | rfl | rfl
        all_goals
          simp only [Int.reducePow, Int.ediv_one] at ht
          go_wp2
          go_round
          case rel => first | exact ⟨1, by omega, rfl, by rw [hs'.out]⟩ | exact ⟨2, by omega, rfl, by rw [hs'.out]⟩ | exact ⟨3, by omega, rfl, by rw [hs'.out]⟩ | exact ⟨4, by omega, rfl, by rw [hs'.out]⟩ | exact ⟨5, by omega, rfl, by rw [hs'.out]⟩ | exact ⟨6, by omega, rfl, by rw [hs'.out]⟩ | exact ⟨7, by omega, rfl, by rw [hs'.out]⟩ | exact ⟨8, by omega, rfl, by rw [hs'.out]⟩
          case measure => simp [intOf]
    · have : k = 8 := by omega
      subst this
      go_wp2
      go_ret
      exact ⟨rfl, rfl⟩
end Go.Proofs.Ytgfcdgmcmdjoiaa
