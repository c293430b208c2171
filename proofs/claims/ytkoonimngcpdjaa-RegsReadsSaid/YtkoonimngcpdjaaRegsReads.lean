/- The statement RegsReadsSaid of package tstatelaw8: for every input the law returns true, and its arguments read as before. No condition. -/
import Derived.Test.YtkoonimngcpdjaaRows
import Derived.Test.YtkoonimngcpdjaaM1
import Derived.Test.YtkoonimngcpdjaaC8
import Derived.WalkKit
import Derived.ProofKit
import Derived.OpenShut
import Derived.ShutString
import Derived.ChangeOld
import Derived.Below
import Derived.Carry
namespace Go.Proofs.Ytkoonimngcpdjaa.regsReads
open Go.ChangeShapes Go.WideShapes Go.ChangeAt Go.RowKit
open Go.ChangeMaps (open_string shut_string)
set_option linter.unusedVariables false

theorem own : ownKnob Try.prog.godebug = none := by kernel_rfl
theorem laidOut : laidOutB Try.prog = true := by kernel_rfl

set_option maxHeartbeats 2000000 in
/-- The walk. -/
theorem walk (a0_A : Int) (a0_B : Int) (a0_C : Int) (a0_D : Int) (a0_E : Int) (a0_H : Int) (a0_L : Int) (a0_F_S : Bool) (a0_F_Z : Bool) (a0_F_K : Bool) (a0_F_AC : Bool) (a0_F_P : Bool) (a0_F_V : Bool) (a0_F_CY : Bool) (a0_SP : Int) (a0_PC : Int) (a1 : Int) (w : World) (w0_A : (Lit.int .u8 a0_A).wf = true) (w0_B : (Lit.int .u8 a0_B).wf = true) (w0_C : (Lit.int .u8 a0_C).wf = true) (w0_D : (Lit.int .u8 a0_D).wf = true) (w0_E : (Lit.int .u8 a0_E).wf = true) (w0_H : (Lit.int .u8 a0_H).wf = true) (w0_L : (Lit.int .u8 a0_L).wf = true) (w0_SP : (Lit.int .u16 a0_SP).wf = true) (w0_PC : (Lit.int .u16 a0_PC).wf = true) (w1 : (Lit.int .i64 a1).wf = true) :
    Calls Try.prog 3 #[.agg #[.int .u8 a0_A, .int .u8 a0_B, .int .u8 a0_C, .int .u8 a0_D, .int .u8 a0_E, .int .u8 a0_H, .int .u8 a0_L, .bool a0_F_S, .bool a0_F_Z, .bool a0_F_K, .bool a0_F_AC, .bool a0_F_P, .bool a0_F_V, .bool a0_F_CY, .int .u16 a0_SP, .int .u16 a0_PC], .int .i64 a1] w fun e w' => e = .returned (.bool true) ∧ Below w.heap.size w w' := by
  have bA := bounds_u8 w0_A
  have hA : a0_A < 256 := by omega
  have bB := bounds_u8 w0_B
  have hB : a0_B < 256 := by omega
  have bC := bounds_u8 w0_C
  have hC : a0_C < 256 := by omega
  have bD := bounds_u8 w0_D
  have hD : a0_D < 256 := by omega
  have bE := bounds_u8 w0_E
  have hE : a0_E < 256 := by omega
  have bH := bounds_u8 w0_H
  have hH : a0_H < 256 := by omega
  have bL := bounds_u8 w0_L
  have hL : a0_L < 256 := by omega
  have i0 : ∀ (x y z : Int) (w : World), (Instr.index 27 (.agg #[.int .i64 x, .int .i64 y, .int .i64 z]) (.int .i64 0)).run Try.prog w = .ok (.int .i64 x) w := fun _ _ _ _ => by kernel_rfl
  have i1 : ∀ (x y z : Int) (w : World), (Instr.index 27 (.agg #[.int .i64 x, .int .i64 y, .int .i64 z]) (.int .i64 1)).run Try.prog w = .ok (.int .i64 y) w := fun _ _ _ _ => by kernel_rfl
  have i2 : ∀ (x y z : Int) (w : World), (Instr.index 27 (.agg #[.int .i64 x, .int .i64 y, .int .i64 z]) (.int .i64 2)).run Try.prog w = .ok (.int .i64 z) w := fun _ _ _ _ => by kernel_rfl
  go_enter Try.func3, Try.ntmps3
  go_wp2_with fail
  go_loopw [13] (fun i wr => ∃ k : Int, (0 ≤ k ∧ k ≤ 3) ∧ i = .int .i64 k ∧ Adds (w.alloc (.cells #[.int .u8 a0_A, .int .u8 a0_B, .int .u8 a0_C, .int .u8 a0_D, .int .u8 a0_E, .int .u8 a0_H, .int .u8 a0_L, .bool a0_F_S, .bool a0_F_Z, .bool a0_F_K, .bool a0_F_AC, .bool a0_F_P, .bool a0_F_V, .bool a0_F_CY, .int .u16 a0_SP, .int .u16 a0_PC] 26)) wr) (fun i _ => 3 - (intOf i).toNat)
  case atStart => exact ⟨0, by omega, rfl, by (repeat (first | with_reducible exact Adds.refl _ | with_reducible apply Adds.drew | with_reducible apply Adds.drewN | with_reducible apply Adds.alloc | with_reducible apply Adds.more | (with_reducible refine Adds.setCell ?_ ?_ _) | (focus (simp [go_sem]; done)) | (focus (simp [go_sem]; omega))))⟩
  case round =>
    obtain ⟨k, hk, rfl, ⟨⟨n0, os0⟩, rfl⟩⟩ := hrel
    rcases (by omega : k = 0 ∨ k = 1 ∨ k = 2 ∨ k = 3) with rfl | rfl | rfl | rfl
    · go_wp2_with fail
      refine wp_region_adds (by kernel_rfl) (by kernel_rfl) ?_
      repeat (go_big_quiet_step (first | (go_at_call 8; exact calls_adds (get_any _ _ _ _ _ _ _ _ _ _ _ _ _ _ _ _ _ _)) | (go_at_call 9; exact calls_adds (rget_any _ _ _ _ _ _ _ _ _ _ _ _ _ _ _ _ _ _)) | (go_at_call 10; exact calls_adds (pair_any _ _ _ _ _ _ _ _ _ _ _ _ _ _ _ _ _ bB.1 hB bC.1 hC bD.1 hD bE.1 hE bH.1 hH bL.1 hL _)) | (go_at_call 11; exact calls_adds (rpair_any _ _ _ _ _ _ _ _ _ _ _ _ _ _ _ _ _ bB.1 hB bC.1 hC bD.1 hD bE.1 hE bH.1 hH bL.1 hL _))))
      refine wpQuiet_nil ?_
      intro _ hw1
      obtain ⟨⟨nq, osq⟩, hw2⟩ := hw1
      subst hw2
      go_wp2_with fail
      go_roundw
      case rel => exact ⟨1, by omega, rfl, by (repeat (first | with_reducible exact Adds.refl _ | with_reducible apply Adds.drew | with_reducible apply Adds.drewN | with_reducible apply Adds.alloc | with_reducible apply Adds.more | (with_reducible refine Adds.setCell ?_ ?_ _) | (focus (simp [go_sem]; done)) | (focus (simp [go_sem]; omega))))⟩
      case measure => simp [intOf]
    · go_wp2_with fail
      refine wp_region_adds (by kernel_rfl) (by kernel_rfl) ?_
      repeat (go_big_quiet_step (first | (go_at_call 8; exact calls_adds (get_any _ _ _ _ _ _ _ _ _ _ _ _ _ _ _ _ _ _)) | (go_at_call 9; exact calls_adds (rget_any _ _ _ _ _ _ _ _ _ _ _ _ _ _ _ _ _ _)) | (go_at_call 10; exact calls_adds (pair_any _ _ _ _ _ _ _ _ _ _ _ _ _ _ _ _ _ bB.1 hB bC.1 hC bD.1 hD bE.1 hE bH.1 hH bL.1 hL _)) | (go_at_call 11; exact calls_adds (rpair_any _ _ _ _ _ _ _ _ _ _ _ _ _ _ _ _ _ bB.1 hB bC.1 hC bD.1 hD bE.1 hE bH.1 hH bL.1 hL _))))
      refine wpQuiet_nil ?_
      intro _ hw1
      obtain ⟨⟨nq, osq⟩, hw2⟩ := hw1
      subst hw2
      go_wp2_with fail
      go_roundw
      case rel => exact ⟨2, by omega, rfl, by (repeat (first | with_reducible exact Adds.refl _ | with_reducible apply Adds.drew | with_reducible apply Adds.drewN | with_reducible apply Adds.alloc | with_reducible apply Adds.more | (with_reducible refine Adds.setCell ?_ ?_ _) | (focus (simp [go_sem]; done)) | (focus (simp [go_sem]; omega))))⟩
      case measure => simp [intOf]
    · go_wp2_with fail
      refine wp_region_adds (by kernel_rfl) (by kernel_rfl) ?_
      repeat (go_big_quiet_step (first | (go_at_call 8; exact calls_adds (get_any _ _ _ _ _ _ _ _ _ _ _ _ _ _ _ _ _ _)) | (go_at_call 9; exact calls_adds (rget_any _ _ _ _ _ _ _ _ _ _ _ _ _ _ _ _ _ _)) | (go_at_call 10; exact calls_adds (pair_any _ _ _ _ _ _ _ _ _ _ _ _ _ _ _ _ _ bB.1 hB bC.1 hC bD.1 hD bE.1 hE bH.1 hH bL.1 hL _)) | (go_at_call 11; exact calls_adds (rpair_any _ _ _ _ _ _ _ _ _ _ _ _ _ _ _ _ _ bB.1 hB bC.1 hC bD.1 hD bE.1 hE bH.1 hH bL.1 hL _))))
      refine wpQuiet_nil ?_
      intro _ hw1
      obtain ⟨⟨nq, osq⟩, hw2⟩ := hw1
      subst hw2
      go_wp2_with fail
      go_roundw
      case rel => exact ⟨3, by omega, rfl, by (repeat (first | with_reducible exact Adds.refl _ | with_reducible apply Adds.drew | with_reducible apply Adds.drewN | with_reducible apply Adds.alloc | with_reducible apply Adds.more | (with_reducible refine Adds.setCell ?_ ?_ _) | (focus (simp [go_sem]; done)) | (focus (simp [go_sem]; omega))))⟩
      case measure => simp [intOf]
    · go_wp2_with (first | (go_at_call 12; refine (known8_any _).mono ?_; rintro e w' ⟨rfl, ⟨⟨n1, os1⟩, rfl⟩⟩))
      go_ret
      exact ⟨rfl, Adds.below (by (repeat (first | with_reducible exact Adds.refl _ | with_reducible apply Adds.drew | with_reducible apply Adds.drewN | with_reducible apply Adds.alloc | with_reducible apply Adds.more | (with_reducible refine Adds.setCell ?_ ?_ _) | (focus (simp [go_sem]; done)) | (focus (simp [go_sem]; omega)))))⟩

set_option maxRecDepth 100000 in
theorem lifted (os : Os) (started : os.Started) (H : Type) (enc : TypeId × Value → H) :
    ReturnsInHanded {} Try.checked os 3 .any (Rows.regsReadsSpec.pre6 enc Try.prog Try.f3 Rows.regsReadsRow.domain false) (Rows.regsReadsSpec.post enc Try.prog Try.f3 false true false false) := by
  refine returnsInHanded_of_change (C := Try.checked) own started (by kernel_rfl) Try.func3
    (ChangeSpec.witness6 (enc := enc) (C := Try.checked) false ⟨#[], #[.agg #[.int .u8 0, .int .u8 0, .int .u8 0, .int .u8 0, .int .u8 0, .int .u8 0, .int .u8 0, .bool false, .bool false, .bool false, .bool false, .bool false, .bool false, .bool false, .int .u16 0, .int .u16 0], .int .i64 0], []⟩ 8 (by kernel_rfl) (by kernel_rfl) (by kernel_rfl) (by kernel_rfl)) ?_
  intro W base args ds gs before hval0 hW hcnd _
  have hval : ∀ (j : Nat) t v, Try.f3.params[j]? = some t → args[j]? = some v → Value.okWide Try.prog W .any base t v := hval0
  have hW' := hW
  obtain ⟨p, q, hA0, hV, rfl, hfz, hnd⟩ := hW
  have hA : DataW.TrodAll enc Try.prog W 0 (fun _ => true) true Try.f3.params.toList args.toList ds p := hA0
  rw [Try.params3] at hA hval
  obtain ⟨v0, vs0, d0, ds0, p0, q0, hargs, rfl, rfl, h0, r0⟩ := trodAll_cons hA
  obtain ⟨v1, vs1, d1, ds1, p1, q1, rfl, rfl, rfl, h1, r1⟩ := trodAll_cons r0
  obtain ⟨rfl, rfl, rfl⟩ := trodAll_nil r1
  obtain rfl : args = #[v0, v1] := by cases args; simp_all
  obtain ⟨rfl, rfl⟩ := trodVars_none hV
  have k0 := h0
  have lt0 : ∀ x ∈ p0, x.block < W.heap.size := by obtain ⟨m, hm⟩ := k0; exact DataW.trod_lt m _ _ _ hm
  obtain ⟨l0, rfl, g0_0⟩ := open_flat 9 [.int .u8, .int .u8, .int .u8, .int .u8, .int .u8, .int .u8, .int .u8, .bool, .bool, .bool, .bool, .bool, .bool, .bool, .int .u16, .int .u16] _ Try.underlying26 (by kernel_rfl) (hval 0 26 v0 rfl rfl) h0
  obtain ⟨a0_A, l0_1, rfl, w0_A, g0_1⟩ := fits_int g0_0
  obtain ⟨a0_B, l0_2, rfl, w0_B, g0_2⟩ := fits_int g0_1
  obtain ⟨a0_C, l0_3, rfl, w0_C, g0_3⟩ := fits_int g0_2
  obtain ⟨a0_D, l0_4, rfl, w0_D, g0_4⟩ := fits_int g0_3
  obtain ⟨a0_E, l0_5, rfl, w0_E, g0_5⟩ := fits_int g0_4
  obtain ⟨a0_H, l0_6, rfl, w0_H, g0_6⟩ := fits_int g0_5
  obtain ⟨a0_L, l0_7, rfl, w0_L, g0_7⟩ := fits_int g0_6
  obtain ⟨a0_F_S, l0_8, rfl, g0_8⟩ := fits_bool g0_7
  obtain ⟨a0_F_Z, l0_9, rfl, g0_9⟩ := fits_bool g0_8
  obtain ⟨a0_F_K, l0_10, rfl, g0_10⟩ := fits_bool g0_9
  obtain ⟨a0_F_AC, l0_11, rfl, g0_11⟩ := fits_bool g0_10
  obtain ⟨a0_F_P, l0_12, rfl, g0_12⟩ := fits_bool g0_11
  obtain ⟨a0_F_V, l0_13, rfl, g0_13⟩ := fits_bool g0_12
  obtain ⟨a0_F_CY, l0_14, rfl, g0_14⟩ := fits_bool g0_13
  obtain ⟨a0_SP, l0_15, rfl, w0_SP, g0_15⟩ := fits_int g0_14
  obtain ⟨a0_PC, l0_16, rfl, w0_PC, g0_16⟩ := fits_int g0_15
  obtain rfl := fits_nil g0_16
  have k1 := h1
  have lt1 : ∀ x ∈ p1, x.block < W.heap.size := by obtain ⟨m, hm⟩ := k1; exact DataW.trod_lt m _ _ _ hm
  obtain ⟨a1, rfl, -, -, w1⟩ := open_int Try.underlying3 (hval 1 3 v1 rfl rfl) h1
  clear hA0 hval0
  refine (walk a0_A a0_B a0_C a0_D a0_E a0_H a0_L a0_F_S a0_F_Z a0_F_K a0_F_AC a0_F_P a0_F_V a0_F_CY a0_SP a0_PC a1 W w0_A w0_B w0_C w0_D w0_E w0_H w0_L w0_SP w0_PC w1).mono fun e W' ⟨he, bel⟩ => ?_
  subst he
  exact ⟨_, rfl, _, _, _, [], _, [], hW', trodAll_mk1 (shut_bool Try.underlying4 _), (trodAll_cons_mk (Below.trod laidOut (by kernel_rfl) (of_decide_eq_true (by kernel_rfl)) k0 bel lt0) (trodAll_cons_mk (Below.trod laidOut (by kernel_rfl) (of_decide_eq_true (by kernel_rfl)) k1 bel lt1) trodAll_mk0)), rfl, bel.frame _, fun h => by cases h⟩

theorem over : Rows.regsReadsRow.holds Try.pinned (OpenSpec.ofChange Rows.regsReadsSpec) :=
  OpenClaim.holds_of_wide 3 Try.f3 rfl rfl rfl rfl rfl rfl rfl ⟨rfl, rfl, rfl, rfl, rfl⟩ rfl rfl rfl rfl rfl (by kernel_rfl) Try.func3 (by kernel_rfl)
    (of_decide_eq_true (by kernel_rfl)) (by unfold Func.isWrapper; first | (rw [if_pos (by decide +kernel)]; kernel_rfl) | (rw [if_neg (by decide +kernel)]; exact ⟨rfl, rfl⟩))
    (fun os started H enc _ => lifted os started H enc)

/-- The statement. -/
theorem proved : Rows.RegsReadsSaid := over
#print axioms proved
end Go.Proofs.Ytkoonimngcpdjaa.regsReads
