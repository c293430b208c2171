/- The contract of the reference's chapter 3: it returns the plain functions' values and leaves what was there alone. Conditions: bytes are from 0 to 255. -/
import Derived.Test.YthjlegljhflejaaC2
import Derived.Test.YthjlegljhflejaaS3
import Derived.RegionTactic
import Derived.Deep.RegionWith
namespace Go.Proofs.Ythjlegljhflejaa
open Go.ChangeShapes Go.WideShapes Go.ChangeAt Go.RowKit
set_option linter.unusedVariables false
theorem ronly85 (s z k ac p v cy x y : Bool) (w : World) : Calls Try.prog 22 #[.int .i64 2, .agg #[.bool s, .bool z, .bool k, .bool ac, .bool p, .bool v, .bool cy], .bool x, .bool y] w fun e w' => e = .returned (.agg #[.bool s, .bool z, .bool x, .bool ac, .bool p, .bool y, .bool cy]) ∧ Adds w w' := by
  go_enter Try.func22, Try.ntmps22
  go_wp2_with (first | (go_at_call 36; refine (ron_any _ _).mono ?_; rintro e w' ⟨rfl, rfl⟩))
  exact bodyPost_ret (v := .agg #[.bool s, .bool z, .bool x, .bool ac, .bool p, .bool y, .bool cy]) (by simp [results, Try.results22, go_sem]) rfl ⟨rfl, by (repeat (first | with_reducible exact Adds.refl _ | with_reducible apply Adds.drew | with_reducible apply Adds.drewN | with_reducible apply Adds.alloc | with_reducible apply Adds.more | (with_reducible refine Adds.setCell ?_ ?_ _) | (focus (simp [go_sem]; done)) | (focus (simp [go_sem]; omega))))⟩
theorem ronly80 (c : Int) (hc : ¬c = 2) (s z k ac p v cy x y : Bool) (w : World) : Calls Try.prog 22 #[.int .i64 c, .agg #[.bool s, .bool z, .bool k, .bool ac, .bool p, .bool v, .bool cy], .bool x, .bool y] w fun e w' => e = .returned (.agg #[.bool s, .bool z, .bool false, .bool ac, .bool p, .bool false, .bool cy]) ∧ Adds w w' := by
  go_enter Try.func22, Try.ntmps22
  go_wp2_with (first | (go_at_call 36; refine (ron_any _ _).mono ?_; rintro e w' ⟨rfl, rfl⟩))
  exact bodyPost_ret (v := .agg #[.bool s, .bool z, .bool false, .bool ac, .bool p, .bool false, .bool cy]) (by simp [results, Try.results22, go_sem]) rfl ⟨rfl, by (repeat (first | with_reducible exact Adds.refl _ | with_reducible apply Adds.drew | with_reducible apply Adds.drewN | with_reducible apply Adds.alloc | with_reducible apply Adds.more | (with_reducible refine Adds.setCell ?_ ?_ _) | (focus (simp [go_sem]; done)) | (focus (simp [go_sem]; omega))))⟩
end Go.Proofs.Ythjlegljhflejaa
