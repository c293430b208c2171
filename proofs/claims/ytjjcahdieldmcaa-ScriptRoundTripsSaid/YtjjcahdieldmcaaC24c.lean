/- Contracts of an input's control byte and entry. Conditions: none. -/
import Derived.Test.YtjjcahdieldmcaaC24b
import Derived.Deep.RegionHeld3
namespace Go.Proofs.Ytjjcahdieldmcaa
open Go.ChangeShapes Go.WideShapes Go.ChangeAt Go.RowKit
set_option linter.unusedVariables false
set_option maxHeartbeats 1000000 in
theorem ctl_any (x : S.Inp) (w : World) : Calls Try.prog 30 #[.agg #[.bool x.r, .bool x.h, .bool x.z, .bool x.s, .bool x.t, .bool x.a, .bool x.b, .bool x.c, .int .u8 x.q, .int .u8 x.p]] w fun e w' => e = .returned (.int .u8 (S.ctl x)) ∧ Adds w w' := by
  go_enter Try.func30, Try.ntmps30
  go_wp2_with fail
  refine wp_region_adds (by kernel_rfl) (by kernel_rfl) ?_
  repeat (go_big_quiet_step ((go_at_call 33; exact calls_same (when_any _ _ _))))
  refine wpQuiet_nil ?_
  intro _ hw1
  obtain ⟨⟨nq, osq⟩, hw2⟩ := hw1
  subst hw2
  go_wp2_with fail
  go_ret
  exact ⟨rfl, by (repeat (first | with_reducible exact Adds.refl _ | with_reducible apply Adds.drew | with_reducible apply Adds.drewN | with_reducible apply Adds.alloc | with_reducible apply Adds.more | (with_reducible refine Adds.setCell ?_ ?_ _) | (focus (simp [go_sem]; done)) | (focus (simp [go_sem]; omega))))⟩
set_option maxHeartbeats 1000000 in
theorem entry_any (x : S.Inp) (w : World) : Calls Try.prog 25 #[.agg #[.bool x.r, .bool x.h, .bool x.z, .bool x.s, .bool x.t, .bool x.a, .bool x.b, .bool x.c, .int .u8 x.q, .int .u8 x.p]] w fun e w' => e = .returned (.agg #[.int .u8 (S.ctl x), .int .u8 x.q, .int .u8 x.p, .int .u8 (S.chk (S.ctl x) x.q x.p)]) ∧ Adds w w' := by
  go_enter Try.func25, Try.ntmps25
  go_wp2_with fail
  go_region_held3 (fun w' => rowOf w' w.heap.size = #[.bool x.r, .bool x.h, .bool x.z, .bool x.s, .bool x.t, .bool x.a, .bool x.b, .bool x.c, .int .u8 x.q, .int .u8 x.p] ∧ w'.cell? ⟨w.heap.size, 8, none⟩ = some (.int .u8 x.q) ∧ w'.cell? ⟨w.heap.size, 9, none⟩ = some (.int .u8 x.p)) (simp [go_sem])
    (first | (go_at_call 30; (with_reducible refine (ctl_any x _).mono ?_); rintro e w' ⟨rfl, ⟨⟨n1, os1⟩, rfl⟩⟩))
  all_goals
    go_wp2_with (go_at_call 28; refine (echk_any _ _ _ _ _).mono ?_; rintro e w' ⟨rfl, ⟨⟨n2, os2⟩, rfl⟩⟩)
    exact bodyPost_ret (v := .agg #[.int .u8 (S.ctl x), .int .u8 x.q, .int .u8 x.p, .int .u8 (S.chk (S.ctl x) x.q x.p)]) (ret_entry Try.results25 rfl (by simp [go_sem]) rfl) rfl ⟨rfl, by (repeat (first | with_reducible exact Adds.refl _ | with_reducible apply Adds.drew | with_reducible apply Adds.drewN | with_reducible apply Adds.alloc | with_reducible apply Adds.more | (with_reducible refine Adds.setCell ?_ ?_ _) | (focus (simp [go_sem]; done)) | (focus (simp [go_sem]; omega))))⟩
end Go.Proofs.Ytjjcahdieldmcaa
