/- Contracts of an entry's input, of an input's control byte and entry, of the reference's Encode's parts. Conditions: none. -/
import Derived.Test.YtjjcahdieldmcaaC24a
namespace Go.Proofs.Ytjjcahdieldmcaa
open Go.ChangeShapes Go.WideShapes Go.ChangeAt Go.RowKit
set_option linter.unusedVariables false
theorem still_of {P : Program} {f : FuncId} {args : Array Value} {w : World} {v : Value} (h : Calls P f args w fun e w' => e = .returned v ∧ w = w') : Calls P f args w fun e w' => e = .returned v ∧ w' = w := h.mono fun _ _ ⟨he, hw⟩ => ⟨he, hw.symm⟩
set_option maxHeartbeats 1000000 in
theorem input_no (c r p k : Int) (hk : k ≠ S.chk c r p) (w : World) : Calls Try.prog 24 #[.agg #[.int .u8 c, .int .u8 r, .int .u8 p, .int .u8 k]] w fun e w' => e = .returned (.agg S.idle.cs) ∧ Adds w w' := by
  have hd : (k != S.chk c r p) = true := by simpa using hk
  clear hk
  go_enter Try.func24, Try.ntmps24
  go_wp2_with fail
  refine wp_region_adds (by kernel_rfl) (by kernel_rfl) ?_
  repeat (go_big_quiet_step ((go_at_call 28; exact calls_adds (echk_any _ _ _ _ _))))
  refine wpQuiet_nil ?_
  intro _ hw1
  obtain ⟨⟨nq, osq⟩, hw2⟩ := hw1
  subst hw2
  go_wp2_with (go_at_call 14; refine (idle_any _).mono ?_; rintro e w' ⟨rfl, ⟨⟨n1, os1⟩, rfl⟩⟩; simp only [S.Inp.cs])
  exact bodyPost_ret (v := .agg S.idle.cs) (ret_Input Try.results24 rfl (by simp [go_sem]; rfl) rfl) rfl ⟨rfl, by (repeat (first | with_reducible exact Adds.refl _ | with_reducible apply Adds.drew | with_reducible apply Adds.drewN | with_reducible apply Adds.alloc | with_reducible apply Adds.more | (with_reducible refine Adds.setCell ?_ ?_ _) | (focus (simp [go_sem]; done)) | (focus (simp [go_sem]; omega))))⟩
set_option maxHeartbeats 2000000 in
theorem input_yes (c r p k : Int) (hk : k = S.chk c r p) (w : World) : Calls Try.prog 24 #[.agg #[.int .u8 c, .int .u8 r, .int .u8 p, .int .u8 k]] w fun e w' => e = .returned (.agg (S.inp c r p).cs) ∧ Adds w w' := by
  have hd : (k != S.chk c r p) = false := by simpa using hk
  clear hk
  go_enter Try.func24, Try.ntmps24
  go_wp2_with fail
  refine wp_region_adds (by kernel_rfl) (by kernel_rfl) ?_
  repeat (go_big_quiet_step ((go_at_call 28; exact calls_adds (echk_any _ _ _ _ _))))
  refine wpQuiet_nil ?_
  intro _ hw1
  obtain ⟨⟨nq, osq⟩, hw2⟩ := hw1
  subst hw2
  go_wp2_with fail
  refine wp_region_still_tail 22 (by kernel_rfl) (by kernel_rfl) ?_
  simp only [List.take_succ_cons, List.take_zero, List.drop_succ_cons, List.drop_zero]
  change wpStill _ _ (World.drew _) (fun a => wpList _ _ _ _ a (World.drew _)) _ _
  repeat (first | still_step | still_call (still_of (has_any _ _ _)))
  try refine wpStill_nil ?_
  go_wp2_with fail
  exact bodyPost_ret (v := .agg (S.inp c r p).cs) (ret_Input Try.results24 rfl (by simp [go_sem]; rfl) rfl) rfl ⟨rfl, by (repeat (first | with_reducible exact Adds.refl _ | with_reducible apply Adds.drew | with_reducible apply Adds.drewN | with_reducible apply Adds.alloc | with_reducible apply Adds.more | (with_reducible refine Adds.setCell ?_ ?_ _) | (focus (simp [go_sem]; done)) | (focus (simp [go_sem]; omega))))⟩
theorem input_any (c r p k : Int) (w : World) : Calls Try.prog 24 #[.agg #[.int .u8 c, .int .u8 r, .int .u8 p, .int .u8 k]] w fun e w' => e = .returned (.agg (S.ent c r p k).cs) ∧ Adds w w' := by
  by_cases h : k = S.chk c r p
  · have := input_yes c r p k h w
    rwa [show S.inp c r p = S.ent c r p k from (if_pos h).symm] at this
  · have := input_no c r p k h w
    rwa [show S.idle = S.ent c r p k from (if_neg h).symm] at this
end Go.Proofs.Ytjjcahdieldmcaa
