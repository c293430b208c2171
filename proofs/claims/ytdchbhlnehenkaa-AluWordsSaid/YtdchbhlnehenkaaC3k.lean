/- The statements' fixed example of chapter 3. No condition. -/
import Derived.Test.YtdchbhlnehenkaaC3d
namespace Go.Proofs.Ytdchbhlnehenkaa
open Go.ChangeShapes Go.WideShapes Go.ChangeAt Go.RowKit
set_option linter.unusedVariables false
theorem known3_any (w : World) : Calls Try.prog 11 #[] w fun e w' => e = .returned (.bool true) ∧ Adds w w' := by
  have k0 : S.aR 0 127 1 false = 128 := by decide
  have k1 : S.aX 0 127 1 false = 128 := by decide
  have k2 : S.has 128 7 = true := by decide
  have k3 : S.par 128 = false := by decide
  have k4 : S.aK 2 0 127 1 false = false := by decide
  have k5 : S.aH 2 0 127 1 false = true := by decide
  have k6 : S.aV 2 0 127 1 false = true := by decide
  have k7 : S.aO 0 127 1 false = false := by decide
  go_enter Try.func11, Try.ntmps11
  go_wp2_with (first | (go_at_call 9; refine (do_any _ _ _ _ _ _ _ _ _ _ _ (by decide) (by decide) (by decide) (by decide) _).mono ?_; rintro e w' ⟨rfl, ⟨⟨n1, os1⟩, rfl⟩⟩))
  go_ret
  exact ⟨rfl, by (repeat (first | with_reducible exact Adds.refl _ | with_reducible apply Adds.drew | with_reducible apply Adds.drewN | with_reducible apply Adds.alloc | with_reducible apply Adds.more | (with_reducible refine Adds.setCell ?_ ?_ _) | (focus (simp [go_sem]; done)) | (focus (simp [go_sem]; omega))))⟩
end Go.Proofs.Ytdchbhlnehenkaa
