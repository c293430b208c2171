/- The statement CountEndsSaid of package tstatelaw4: for every input the law returns true, and its arguments read as before. No condition. -/
import Derived.Test.YtjidnblfpgiljaaRows
import Derived.Test.YtjidnblfpgiljaaM1
import Derived.Test.YtjidnblfpgiljaaC4
import Derived.WalkKit
import Derived.ProofKit
import Derived.OpenShut
import Derived.ShutString
import Derived.ChangeOld
import Derived.Below
import Derived.Carry
namespace Go.Proofs.Ytjidnblfpgiljaa.countEnds
open Go.ChangeShapes Go.WideShapes Go.ChangeAt Go.RowKit
open Go.ChangeMaps (open_string shut_string)
set_option linter.unusedVariables false

theorem own : ownKnob Try.prog.godebug = none := by kernel_rfl
theorem laidOut : laidOutB Try.prog = true := by kernel_rfl

set_option maxHeartbeats 2000000 in
/-- The walk. -/
theorem walk (a0 : Int) (a1_S : Bool) (a1_Z : Bool) (a1_K : Bool) (a1_AC : Bool) (a1_P : Bool) (a1_V : Bool) (a1_CY : Bool) (w : World) (w0 : (Lit.int .u16 a0).wf = true) :
    Calls Try.prog 6 #[.int .u16 a0, .agg #[.bool a1_S, .bool a1_Z, .bool a1_K, .bool a1_AC, .bool a1_P, .bool a1_V, .bool a1_CY]] w fun e w' => e = .returned (.bool true) ∧ Below w.heap.size w w' := by
  have b0 := bounds_u16 w0
  have i0 : ∀ w : World, (Instr.index 30 (.agg #[.int .u16 a0, .int .u16 0, .int .u16 65535]) (.int .i64 0)).run Try.prog w = .ok (.int .u16 a0) w := fun _ => by kernel_rfl
  have i1 : ∀ w : World, (Instr.index 30 (.agg #[.int .u16 a0, .int .u16 0, .int .u16 65535]) (.int .i64 1)).run Try.prog w = .ok (.int .u16 0) w := fun _ => by kernel_rfl
  have i2 : ∀ w : World, (Instr.index 30 (.agg #[.int .u16 a0, .int .u16 0, .int .u16 65535]) (.int .i64 2)).run Try.prog w = .ok (.int .u16 65535) w := fun _ => by kernel_rfl
  have wk : ∀ x k, S.wK 2 x k = x := S.wK85
  go_enter Try.func6, Try.ntmps6
  go_wp2_with fail
  go_loopw [13] (fun i wr => ∃ k : Nat, k ≤ 3 ∧ i = .int .i64 k ∧ Adds (w.alloc (.cells #[.bool a1_S, .bool a1_Z, .bool a1_K, .bool a1_AC, .bool a1_P, .bool a1_V, .bool a1_CY] 23)) wr) (fun i _ => 3 - (intOf i).toNat)
  case atStart => exact ⟨0, by omega, rfl, by (repeat (first | with_reducible exact Adds.refl _ | with_reducible apply Adds.drew | with_reducible apply Adds.drewN | with_reducible apply Adds.alloc | with_reducible apply Adds.more | (with_reducible refine Adds.setCell ?_ ?_ _) | (focus (simp [go_sem]; done)) | (focus (simp [go_sem]; omega))))⟩
  case round =>
    obtain ⟨k, hk, rfl, ⟨⟨n0, os0⟩, rfl⟩⟩ := hrel
    rcases (by omega : k = 0 ∨ k = 1 ∨ k = 2 ∨ k = 3) with rfl | rfl | rfl | rfl
    · have e1 := S.inc_zero a0 (by omega) (by omega)
      have e2 := S.dec_ones a0 (by omega) (by omega)
      go_wp2_with (first | (go_at_call 12; refine (inx_any _ _ _ _ _ _ _ _ _ (by omega) (by omega) _).mono ?_; rintro e w' ⟨rfl, ⟨⟨n1, os1⟩, rfl⟩⟩) | (go_at_call 14; refine (dcx_any _ _ _ _ _ _ _ _ _ (by omega) (by omega) _).mono ?_; rintro e w' ⟨rfl, ⟨⟨n1, os1⟩, rfl⟩⟩))
      go_region
      all_goals go_wp2_with fail
      all_goals go_roundw
      all_goals first | exact ⟨1, by omega, rfl, by (repeat (first | with_reducible exact Adds.refl _ | with_reducible apply Adds.drew | with_reducible apply Adds.drewN | with_reducible apply Adds.alloc | with_reducible apply Adds.more | (with_reducible refine Adds.setCell ?_ ?_ _) | (focus (simp [go_sem]; done)) | (focus (simp [go_sem]; omega))))⟩ | (simp [intOf]; done)
    · have e1 := S.inc_zero 0 (by omega) (by omega)
      have e2 := S.dec_ones 0 (by omega) (by omega)
      go_wp2_with (first | (go_at_call 12; refine (inx_any _ _ _ _ _ _ _ _ _ (by omega) (by omega) _).mono ?_; rintro e w' ⟨rfl, ⟨⟨n1, os1⟩, rfl⟩⟩) | (go_at_call 14; refine (dcx_any _ _ _ _ _ _ _ _ _ (by omega) (by omega) _).mono ?_; rintro e w' ⟨rfl, ⟨⟨n1, os1⟩, rfl⟩⟩))
      go_region
      all_goals go_wp2_with fail
      all_goals go_roundw
      all_goals first | exact ⟨2, by omega, rfl, by (repeat (first | with_reducible exact Adds.refl _ | with_reducible apply Adds.drew | with_reducible apply Adds.drewN | with_reducible apply Adds.alloc | with_reducible apply Adds.more | (with_reducible refine Adds.setCell ?_ ?_ _) | (focus (simp [go_sem]; done)) | (focus (simp [go_sem]; omega))))⟩ | (simp [intOf]; done)
    · have e1 := S.inc_zero 65535 (by omega) (by omega)
      have e2 := S.dec_ones 65535 (by omega) (by omega)
      go_wp2_with (first | (go_at_call 12; refine (inx_any _ _ _ _ _ _ _ _ _ (by omega) (by omega) _).mono ?_; rintro e w' ⟨rfl, ⟨⟨n1, os1⟩, rfl⟩⟩) | (go_at_call 14; refine (dcx_any _ _ _ _ _ _ _ _ _ (by omega) (by omega) _).mono ?_; rintro e w' ⟨rfl, ⟨⟨n1, os1⟩, rfl⟩⟩))
      go_region
      all_goals go_wp2_with fail
      all_goals go_roundw
      all_goals first | exact ⟨3, by omega, rfl, by (repeat (first | with_reducible exact Adds.refl _ | with_reducible apply Adds.drew | with_reducible apply Adds.drewN | with_reducible apply Adds.alloc | with_reducible apply Adds.more | (with_reducible refine Adds.setCell ?_ ?_ _) | (focus (simp [go_sem]; done)) | (focus (simp [go_sem]; omega))))⟩ | (simp [intOf]; done)
    · go_wp2_with (first | (go_at_call 11; refine (known4_any _).mono ?_; rintro e w' ⟨rfl, ⟨⟨n1, os1⟩, rfl⟩⟩))
      go_ret
      exact ⟨rfl, Adds.below (by (repeat (first | with_reducible exact Adds.refl _ | with_reducible apply Adds.drew | with_reducible apply Adds.drewN | with_reducible apply Adds.alloc | with_reducible apply Adds.more | (with_reducible refine Adds.setCell ?_ ?_ _) | (focus (simp [go_sem]; done)) | (focus (simp [go_sem]; omega)))))⟩

set_option maxRecDepth 100000 in
theorem lifted (os : Os) (started : os.Started) (H : Type) (enc : TypeId × Value → H) :
    ReturnsInHanded {} Try.checked os 6 .any (Rows.countEndsSpec.pre6 enc Try.prog Try.f6 Rows.countEndsRow.domain false) (Rows.countEndsSpec.post enc Try.prog Try.f6 false true false false) := by
  refine returnsInHanded_of_change (C := Try.checked) own started (by kernel_rfl) Try.func6
    (ChangeSpec.witness6 (enc := enc) (C := Try.checked) false ⟨#[], #[.int .u16 0, .agg #[.bool false, .bool false, .bool false, .bool false, .bool false, .bool false, .bool false]], []⟩ 8 (by kernel_rfl) (by kernel_rfl) (by kernel_rfl) (by kernel_rfl)) ?_
  intro W base args ds gs before hval0 hW hcnd _
  have hval : ∀ (j : Nat) t v, Try.f6.params[j]? = some t → args[j]? = some v → Value.okWide Try.prog W .any base t v := hval0
  have hW' := hW
  obtain ⟨p, q, hA0, hV, rfl, hfz, hnd⟩ := hW
  have hA : DataW.TrodAll enc Try.prog W 0 (fun _ => true) true Try.f6.params.toList args.toList ds p := hA0
  rw [Try.params6] at hA hval
  obtain ⟨v0, vs0, d0, ds0, p0, q0, hargs, rfl, rfl, h0, r0⟩ := trodAll_cons hA
  obtain ⟨v1, vs1, d1, ds1, p1, q1, rfl, rfl, rfl, h1, r1⟩ := trodAll_cons r0
  obtain ⟨rfl, rfl, rfl⟩ := trodAll_nil r1
  obtain rfl : args = #[v0, v1] := by cases args; simp_all
  obtain ⟨rfl, rfl⟩ := trodVars_none hV
  have k0 := h0
  have lt0 : ∀ x ∈ p0, x.block < W.heap.size := by obtain ⟨m, hm⟩ := k0; exact DataW.trod_lt m _ _ _ hm
  obtain ⟨a0, rfl, -, -, w0⟩ := open_int Try.underlying29 (hval 0 29 v0 rfl rfl) h0
  have k1 := h1
  have lt1 : ∀ x ∈ p1, x.block < W.heap.size := by obtain ⟨m, hm⟩ := k1; exact DataW.trod_lt m _ _ _ hm
  obtain ⟨l1, rfl, g1_0⟩ := open_flat 9 [.bool, .bool, .bool, .bool, .bool, .bool, .bool] _ Try.underlying23 (by kernel_rfl) (hval 1 23 v1 rfl rfl) h1
  obtain ⟨a1_S, l1_1, rfl, g1_1⟩ := fits_bool g1_0
  obtain ⟨a1_Z, l1_2, rfl, g1_2⟩ := fits_bool g1_1
  obtain ⟨a1_K, l1_3, rfl, g1_3⟩ := fits_bool g1_2
  obtain ⟨a1_AC, l1_4, rfl, g1_4⟩ := fits_bool g1_3
  obtain ⟨a1_P, l1_5, rfl, g1_5⟩ := fits_bool g1_4
  obtain ⟨a1_V, l1_6, rfl, g1_6⟩ := fits_bool g1_5
  obtain ⟨a1_CY, l1_7, rfl, g1_7⟩ := fits_bool g1_6
  obtain rfl := fits_nil g1_7
  clear hA0 hval0
  refine (walk a0 a1_S a1_Z a1_K a1_AC a1_P a1_V a1_CY W w0).mono fun e W' ⟨he, bel⟩ => ?_
  subst he
  exact ⟨_, rfl, _, _, _, [], _, [], hW', trodAll_mk1 (shut_bool Try.underlying4 _), (trodAll_cons_mk (Below.trod laidOut (by kernel_rfl) (of_decide_eq_true (by kernel_rfl)) k0 bel lt0) (trodAll_cons_mk (Below.trod laidOut (by kernel_rfl) (of_decide_eq_true (by kernel_rfl)) k1 bel lt1) trodAll_mk0)), rfl, bel.frame _, fun h => by cases h⟩

theorem over : Rows.countEndsRow.holds Try.pinned (OpenSpec.ofChange Rows.countEndsSpec) :=
  OpenClaim.holds_of_wide 6 Try.f6 rfl rfl rfl rfl rfl rfl rfl ⟨rfl, rfl, rfl, rfl, rfl⟩ rfl rfl rfl rfl rfl (by kernel_rfl) Try.func6 (by kernel_rfl)
    (of_decide_eq_true (by kernel_rfl)) (by unfold Func.isWrapper; first | (rw [if_pos (by decide +kernel)]; kernel_rfl) | (rw [if_neg (by decide +kernel)]; exact ⟨rfl, rfl⟩))
    (fun os started H enc _ => lifted os started H enc)

/-- The statement. -/
theorem proved : Rows.CountEndsSaid := over
#print axioms proved
end Go.Proofs.Ytjidnblfpgiljaa.countEnds
