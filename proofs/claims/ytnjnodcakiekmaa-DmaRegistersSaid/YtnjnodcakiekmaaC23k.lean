/- Contract of chapter 23's fixed example: it holds. No condition. -/
import Derived.Test.YtnjnodcakiekmaaC1
import Derived.Test.YtnjnodcakiekmaaM1
import Derived.Test.YtnjnodcakiekmaaC23
import Derived.Deep.RegionWith
namespace Go.Proofs.Ytnjnodcakiekmaa
open Go.ChangeShapes Go.WideShapes Go.ChangeAt Go.RowKit
set_option linter.unusedVariables false
theorem known23_any (w : World) : Calls Try.prog 10 #[] w fun e w' => e = .returned (.bool true) ∧ Adds w w' := by
  have k1 : IntKind.u16.wrap (8191 + 1) = 8192 := by decide
  go_enter Try.func10, Try.ntmps10
  go_wp2_with (first | (go_at_call 6; first | (with_reducible refine (dm_wr2 _ _ _ 2 _ (by decide) (by decide) (by decide) (by decide) (by decide) _).mono ?_); rintro e w' ⟨rfl, ⟨⟨n1, os1⟩, rfl⟩⟩ | (with_reducible refine (dm_wr3 _ _ _ 3 _ (by decide) (by decide) (by decide) (by decide) (by decide) _).mono ?_); rintro e w' ⟨rfl, ⟨⟨n2, os2⟩, rfl⟩⟩) | (go_at_call 12; refine (dma_tr _ _ _ (by decide) (by decide) _).mono ?_; rintro e w' ⟨rfl, ⟨⟨n3, os3⟩, rfl⟩⟩))
  go_ret
  exact ⟨rfl, by (repeat (first | with_reducible exact Adds.refl _ | with_reducible apply Adds.drew | with_reducible apply Adds.drewN | with_reducible apply Adds.alloc | with_reducible apply Adds.more | (with_reducible refine Adds.setCell ?_ ?_ _) | (focus (simp [go_sem]; done)) | (focus (simp [go_sem]; omega))))⟩
end Go.Proofs.Ytnjnodcakiekmaa
