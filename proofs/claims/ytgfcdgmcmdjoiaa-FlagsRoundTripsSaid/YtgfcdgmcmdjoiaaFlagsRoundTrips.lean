/- The statement FlagsRoundTripsSaid of package tstatelaw2: for every input the law returns true, and its arguments read as before. No condition. -/
import Derived.Test.YtgfcdgmcmdjoiaaRows
import Derived.Test.YtgfcdgmcmdjoiaaM1
import Derived.Test.YtgfcdgmcmdjoiaaC2
import Derived.WalkKit
import Derived.ProofKit
import Derived.OpenShut
import Derived.ShutString
import Derived.ChangeOld
import Derived.Below
import Derived.Carry
namespace Go.Proofs.Ytgfcdgmcmdjoiaa.flagsRoundTrips
open Go.ChangeShapes Go.WideShapes Go.ChangeAt Go.RowKit
open Go.ChangeMaps (open_string shut_string)
set_option linter.unusedVariables false

theorem own : ownKnob Try.prog.godebug = none := by kernel_rfl
theorem laidOut : laidOutB Try.prog = true := by kernel_rfl

/-- The walk. -/
theorem walk (a0_S : Bool) (a0_Z : Bool) (a0_K : Bool) (a0_AC : Bool) (a0_P : Bool) (a0_V : Bool) (a0_CY : Bool) (w : World)  :
    Calls Try.prog 6 #[.agg #[.bool a0_S, .bool a0_Z, .bool a0_K, .bool a0_AC, .bool a0_P, .bool a0_V, .bool a0_CY]] w fun e w' => e = .returned (.bool true) ∧ Below w.heap.size w w' := by
  obtain ⟨p1, p2, p3, p4, p5, p6, p7⟩ := S.unpack_pack85 a0_S a0_Z a0_K a0_AC a0_P a0_V a0_CY
  obtain ⟨q1, q2, q3, q4, q5, q6, q7⟩ := S.unpack_pack80 a0_S a0_Z a0_K a0_AC a0_P a0_V a0_CY
  go_enter Try.func6, Try.ntmps6
  go_wp2_with fail
  refine wp_region_adds (by kernel_rfl) (by kernel_rfl) ?_
  repeat (go_big_quiet_step (first | (go_at_call 8; exact calls_adds (pack_any _ _ _ _ _ _ _ _ _)) | (go_at_call 11; exact calls_adds (unpack_any _ _ (S.pack_bd _ _ _ _ _ _ _ _).1 (S.pack_bd _ _ _ _ _ _ _ _).2 _)) | (go_at_call 10; exact calls_adds (known2_any _))))
  refine wpQuiet_nil ?_
  intro _ hw1
  obtain ⟨⟨nq, osq⟩, hw2⟩ := hw1
  subst hw2
  go_wp2_with fail
  go_ret
  exact ⟨rfl, Adds.below (by (repeat (first | exact Adds.refl _ | apply Adds.drew | apply Adds.drewN | apply Adds.alloc | apply Adds.more | (refine Adds.setCell ?_ (by first | (simp [go_sem]; done) | (simp [go_sem]; omega)) _))))⟩

set_option maxRecDepth 100000 in
theorem lifted (os : Os) (started : os.Started) (H : Type) (enc : TypeId × Value → H) :
    ReturnsInHanded {} Try.checked os 6 .any (Rows.flagsRoundTripsSpec.pre6 enc Try.prog Try.f6 Rows.flagsRoundTripsRow.domain false) (Rows.flagsRoundTripsSpec.post enc Try.prog Try.f6 false true false false) := by
  refine returnsInHanded_of_change (C := Try.checked) own started (by kernel_rfl) Try.func6
    (ChangeSpec.witness6 (enc := enc) (C := Try.checked) false ⟨#[], #[.agg #[.bool false, .bool false, .bool false, .bool false, .bool false, .bool false, .bool false]], []⟩ 8 (by kernel_rfl) (by kernel_rfl) (by kernel_rfl) (by kernel_rfl)) ?_
  intro W base args ds gs before hval0 hW hcnd _
  have hval : ∀ (j : Nat) t v, Try.f6.params[j]? = some t → args[j]? = some v → Value.okWide Try.prog W .any base t v := hval0
  have hW' := hW
  obtain ⟨p, q, hA0, hV, rfl, hfz, hnd⟩ := hW
  have hA : DataW.TrodAll enc Try.prog W 0 (fun _ => true) true Try.f6.params.toList args.toList ds p := hA0
  rw [Try.params6] at hA hval
  obtain ⟨v0, vs0, d0, ds0, p0, q0, hargs, rfl, rfl, h0, r0⟩ := trodAll_cons hA
  obtain ⟨rfl, rfl, rfl⟩ := trodAll_nil r0
  obtain rfl : args = #[v0] := by cases args; simp_all
  obtain ⟨rfl, rfl⟩ := trodVars_none hV
  have k0 := h0
  have lt0 : ∀ x ∈ p0, x.block < W.heap.size := by obtain ⟨m, hm⟩ := k0; exact DataW.trod_lt m _ _ _ hm
  obtain ⟨l0, rfl, g0_0⟩ := open_flat 9 [.bool, .bool, .bool, .bool, .bool, .bool, .bool] _ Try.underlying23 (by kernel_rfl) (hval 0 23 v0 rfl rfl) h0
  obtain ⟨a0_S, l0_1, rfl, g0_1⟩ := fits_bool g0_0
  obtain ⟨a0_Z, l0_2, rfl, g0_2⟩ := fits_bool g0_1
  obtain ⟨a0_K, l0_3, rfl, g0_3⟩ := fits_bool g0_2
  obtain ⟨a0_AC, l0_4, rfl, g0_4⟩ := fits_bool g0_3
  obtain ⟨a0_P, l0_5, rfl, g0_5⟩ := fits_bool g0_4
  obtain ⟨a0_V, l0_6, rfl, g0_6⟩ := fits_bool g0_5
  obtain ⟨a0_CY, l0_7, rfl, g0_7⟩ := fits_bool g0_6
  obtain rfl := fits_nil g0_7
  clear hA0 hval0
  refine (walk a0_S a0_Z a0_K a0_AC a0_P a0_V a0_CY W ).mono fun e W' ⟨he, bel⟩ => ?_
  subst he
  exact ⟨_, rfl, _, _, _, [], _, [], hW', trodAll_mk1 (shut_bool Try.underlying4 _), (trodAll_cons_mk (Below.trod laidOut (by kernel_rfl) (of_decide_eq_true (by kernel_rfl)) k0 bel lt0) trodAll_mk0), rfl, bel.frame _, fun h => by cases h⟩

theorem over : Rows.flagsRoundTripsRow.holds Try.pinned (OpenSpec.ofChange Rows.flagsRoundTripsSpec) :=
  OpenClaim.holds_of_wide 6 Try.f6 rfl rfl rfl rfl rfl rfl rfl ⟨rfl, rfl, rfl, rfl, rfl⟩ rfl rfl rfl rfl rfl (by kernel_rfl) Try.func6 (by kernel_rfl)
    (of_decide_eq_true (by kernel_rfl)) (by unfold Func.isWrapper; first | (rw [if_pos (by decide +kernel)]; kernel_rfl) | (rw [if_neg (by decide +kernel)]; exact ⟨rfl, rfl⟩))
    (fun os started H enc _ => lifted os started H enc)

/-- The statement. -/
theorem proved : Rows.FlagsRoundTripsSaid := over
#print axioms proved
end Go.Proofs.Ytgfcdgmcmdjoiaa.flagsRoundTrips
