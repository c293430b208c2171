/- The reference's decimal adjustment, on any chip: it returns the plain functions' values and leaves what was there alone. Conditions: bytes are from 0 to 255. -/
import Derived.Test.YthjlegljhflejaaC6r
import Derived.Test.YthjlegljhflejaaC6s
namespace Go.Proofs.Ythjlegljhflejaa
open Go.ChangeShapes Go.WideShapes Go.ChangeAt Go.RowKit
set_option linter.unusedVariables false
theorem rdaa_any (c a : Int) (s z k ac p v cy : Bool) (a0 : 0 ≤ a) (a1 : a < 256) (w : World) : Calls Try.prog 8 #[.int .i64 c, .int .u8 a, .agg #[.bool s, .bool z, .bool k, .bool ac, .bool p, .bool v, .bool cy]] w fun e w' => e = .returned (.tuple #[.int .u8 (S.sumR a (S.dX a ac cy) false), .agg #[.bool (S.has (S.sumR a (S.dX a ac cy) false) 7), .bool ((S.sumR a (S.dX a ac cy) false) == 0), .bool (S.nK c a false (S.sumR a (S.dX a ac cy) false)), .bool (S.sumH a (S.dX a ac cy) false), .bool (S.par (S.sumR a (S.dX a ac cy) false)), .bool (S.nV c (S.sumV a (S.dX a ac cy) false)), .bool (S.dH a cy)]]) ∧ Adds w w' := by
  by_cases hc : c = 2
  · subst hc
    rw [S.nK85, S.nV85]
    exact rdaa85 a s z k ac p v cy a0 a1 w
  · rw [S.nK80 hc, S.nV80 hc]
    exact rdaa80 c hc a s z k ac p v cy a0 a1 w
end Go.Proofs.Ythjlegljhflejaa
