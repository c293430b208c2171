/- Contracts of the numbers that make inputs: Place, From, Next, Chip. Conditions: a list's cells lie below the box of its numbers; n is from 1 to 65536. -/
import Derived.Test.YtodghchpoomaaaaC1
import Derived.Test.YtodghchpoomaaaaM1
import Derived.Deep.Cut
namespace Go.Proofs.Ytodghchpoomaaaa
open Go.ChangeShapes Go.WideShapes Go.ChangeAt Go.RowKit
set_option linter.unusedVariables false
/-- The place of a number among n. -/
def S.plc (z n : Int) : Int := z % 18446744073709551616 % n
theorem S.plc_bd (z n : Int) (n0 : 1 ≤ n) : 0 ≤ S.plc z n ∧ S.plc z n < n := by
  unfold S.plc
  exact ⟨Int.emod_nonneg _ (by omega), Int.emod_lt_of_pos _ (by omega)⟩
theorem S.plc_eq (z n : Int) (n0 : 1 ≤ n) (n1 : n ≤ 9223372036854775807) : wrap64 ((IntKind.u64.wrap z).tmod n) = S.plc z n := by
  have h0 : IntKind.u64.wrap z = z % 18446744073709551616 := by simp [IntKind.wrap, IntKind.bits, IntKind.signed]
  obtain ⟨b0, b1⟩ := S.plc_bd z n n0
  rw [h0, Int.tmod_eq_emod_of_nonneg (by omega)]
  exact IntWalk.wrap64_in _ ⟨by unfold S.plc at b0; omega, by unfold S.plc at b1; omega⟩
theorem mplace_any (z n : Int) (n0 : 1 ≤ n) (n1 : n ≤ 9223372036854775807) (w : World) : Calls Try.prog 6 #[.int .i64 z, .int .i64 n] w fun e w' => e = .returned (.int .i64 (S.plc z n)) ∧ w = w' := by
  go_enter Try.func6, Try.ntmps6
  go_wp2
  go_ret
  exact ⟨ri (S.plc_eq z n n0 n1), rfl⟩
end Go.Proofs.Ytodghchpoomaaaa
