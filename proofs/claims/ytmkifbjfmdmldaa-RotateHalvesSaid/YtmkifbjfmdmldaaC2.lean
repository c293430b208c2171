/- Contracts of package flags and of the reference's chapter 2: each returns the plain function's value and leaves what was there alone. Conditions: bytes are from 0 to 255. -/
import Derived.Test.YtmkifbjfmdmldaaC1
import Derived.Test.YtmkifbjfmdmldaaS2
import Derived.Test.YtmkifbjfmdmldaaM1
namespace Go.Proofs.Ytmkifbjfmdmldaa
open Go.ChangeShapes Go.WideShapes Go.ChangeAt Go.RowKit
set_option linter.unusedVariables false
theorem rbit_any (f : Bool) (n : Int) (n0 : 0 ≤ n) (n1 : n < 8) (w : World) : Calls Try.prog 22 #[.bool f, .int .i64 n] w fun e w' => e = .returned (.int .u8 (S.pl f n)) ∧ w = w' := by
  rcases (by omega : n = 0 ∨ n = 1 ∨ n = 2 ∨ n = 3 ∨ n = 4 ∨ n = 5 ∨ n = 6 ∨ n = 7) with rfl | rfl | rfl | rfl | rfl | rfl | rfl | rfl
  all_goals
    cases f
    all_goals
      go_enter Try.func22, Try.ntmps22
      go_wp2
      go_ret
      exact ⟨rfl, rfl⟩
end Go.Proofs.Ytmkifbjfmdmldaa
