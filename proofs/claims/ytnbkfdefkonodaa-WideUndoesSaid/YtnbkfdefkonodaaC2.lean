/- Contracts of package flags and of the reference's chapter 2: each returns the plain function's value and leaves what was there alone. Conditions: bytes are from 0 to 255. -/
import Derived.Test.YtnbkfdefkonodaaC1
import Derived.Test.YtnbkfdefkonodaaS2
import Derived.Test.YtnbkfdefkonodaaM1
namespace Go.Proofs.Ytnbkfdefkonodaa
open Go.ChangeShapes Go.WideShapes Go.ChangeAt Go.RowKit
set_option linter.unusedVariables false
theorem ron_any (c : Int) (w : World) : Calls Try.prog 17 #[.int .i64 c] w fun e w' => e = .returned (.bool (decide (c = 2))) ∧ w = w' := by
  go_enter Try.func17, Try.ntmps17
  go_wp2
  go_ret
  exact ⟨rfl, rfl⟩
@[go_sem] theorem eq_Flags (a0 a1 a2 a3 a4 a5 a6 b0 b1 b2 b3 b4 b5 b6 : Bool) (w : World) : (Op.equalIn 10000 24 (.agg #[.bool a0, .bool a1, .bool a2, .bool a3, .bool a4, .bool a5, .bool a6]) (.agg #[.bool b0, .bool b1, .bool b2, .bool b3, .bool b4, .bool b5, .bool b6])).run Try.prog w =
    .ok (same [.bool a0, .bool a1, .bool a2, .bool a3, .bool a4, .bool a5, .bool a6] [.bool b0, .bool b1, .bool b2, .bool b3, .bool b4, .bool b5, .bool b6]) w :=
  eq_agg 4 [.bool, .bool, .bool, .bool, .bool, .bool, .bool] _ Try.underlying24 (by kernel_rfl) (by decide) _ _ w trivial trivial
end Go.Proofs.Ytnbkfdefkonodaa
