/- Contract of the reference's Pins: the plain function's value. Condition: the state is from 1 to 10. -/
import Derived.Test.YtfhnfakjjfjohaaC26f
import Derived.Test.YtfhnfakjjfjohaaC26g
import Derived.Test.YtfhnfakjjfjohaaC26h
import Derived.Test.YtfhnfakjjfjohaaC26j
namespace Go.Proofs.Ytfhnfakjjfjohaa
open Go.ChangeShapes Go.WideShapes Go.ChangeAt Go.RowKit
set_option linter.unusedVariables false
theorem rpins_any (ch s : Int) (x : S.It) (h1 : 1 ≤ s) (h10 : s ≤ 10) (w : World) : Calls Try.prog 26 #[.int .i64 ch, .int .i64 s, .agg #[.int .i64 x.c, .int .u16 x.a, .int .u8 x.d, .int .i64 x.s], .int .u8 x.d, .bool x.e, .bool x.o] w fun r w' => r = .returned (.agg (S.pn (ch == 2) x s).cs) ∧ Adds w w' := by
  rcases (by omega : s = 1 ∨ s = 2 ∨ s = 3 ∨ s = 4 ∨ s = 5 ∨ s = 6 ∨ s = 7 ∨ s = 8 ∨ s = 9 ∨ s = 10) with rfl | rfl | rfl | rfl | rfl | rfl | rfl | rfl | rfl | rfl <;> cases hc : (ch == 2)
  · exact rpins_1_false ch x.c x.a x.d x.s x.e x.o x ⟨rfl, rfl, rfl, rfl, rfl⟩ hc w
  · exact rpins_1_true ch x.c x.a x.d x.s x.e x.o x ⟨rfl, rfl, rfl, rfl, rfl⟩ hc w
  · exact rpins_2_false ch x.c x.a x.d x.s x.e x.o x ⟨rfl, rfl, rfl, rfl, rfl⟩ hc w
  · exact rpins_2_true ch x.c x.a x.d x.s x.e x.o x ⟨rfl, rfl, rfl, rfl, rfl⟩ hc w
  · exact rpins_3_false ch x.c x.a x.d x.s x.e x.o x ⟨rfl, rfl, rfl, rfl, rfl⟩ hc w
  · exact rpins_3_true ch x.c x.a x.d x.s x.e x.o x ⟨rfl, rfl, rfl, rfl, rfl⟩ hc w
  · exact rpins_4_false ch x.c x.a x.d x.s x.e x.o x ⟨rfl, rfl, rfl, rfl, rfl⟩ hc w
  · exact rpins_4_true ch x.c x.a x.d x.s x.e x.o x ⟨rfl, rfl, rfl, rfl, rfl⟩ hc w
  · exact rpins_5_false ch x.c x.a x.d x.s x.e x.o x ⟨rfl, rfl, rfl, rfl, rfl⟩ hc w
  · exact rpins_5_true ch x.c x.a x.d x.s x.e x.o x ⟨rfl, rfl, rfl, rfl, rfl⟩ hc w
  · exact rpins_6_false ch x.c x.a x.d x.s x.e x.o x ⟨rfl, rfl, rfl, rfl, rfl⟩ hc w
  · exact rpins_6_true ch x.c x.a x.d x.s x.e x.o x ⟨rfl, rfl, rfl, rfl, rfl⟩ hc w
  · exact rpins_7_false ch x.c x.a x.d x.s x.e x.o x ⟨rfl, rfl, rfl, rfl, rfl⟩ hc w
  · exact rpins_7_true ch x.c x.a x.d x.s x.e x.o x ⟨rfl, rfl, rfl, rfl, rfl⟩ hc w
  · exact rpins_8_false ch x.c x.a x.d x.s x.e x.o x ⟨rfl, rfl, rfl, rfl, rfl⟩ hc w
  · exact rpins_8_true ch x.c x.a x.d x.s x.e x.o x ⟨rfl, rfl, rfl, rfl, rfl⟩ hc w
  · exact rpins_9_false ch x.c x.a x.d x.s x.e x.o x ⟨rfl, rfl, rfl, rfl, rfl⟩ hc w
  · exact rpins_9_true ch x.c x.a x.d x.s x.e x.o x ⟨rfl, rfl, rfl, rfl, rfl⟩ hc w
  · exact rpins_10_false ch x.c x.a x.d x.s x.e x.o x ⟨rfl, rfl, rfl, rfl, rfl⟩ hc w
  · exact rpins_10_true ch x.c x.a x.d x.s x.e x.o x ⟨rfl, rfl, rfl, rfl, rfl⟩ hc w
end Go.Proofs.Ytfhnfakjjfjohaa
