/- The statement RegsPSWSaid of package tstatelaw8: for every input the law returns true, and its arguments read as before. No condition. -/
import Derived.Test.YtkoonimngcpdjaaRows
import Derived.Test.YtkoonimngcpdjaaM1
import Derived.Test.YtkoonimngcpdjaaC8
import Derived.WalkKit
import Derived.ProofKit
import Derived.OpenShut
import Derived.ShutString
import Derived.ChangeOld
import Derived.Below
import Derived.Carry
namespace Go.Proofs.Ytkoonimngcpdjaa.regsPSW
open Go.ChangeShapes Go.WideShapes Go.ChangeAt Go.RowKit
open Go.ChangeMaps (open_string shut_string)
set_option linter.unusedVariables false

theorem own : ownKnob Try.prog.godebug = none := by kernel_rfl
theorem laidOut : laidOutB Try.prog = true := by kernel_rfl

set_option maxHeartbeats 2000000 in
/-- The walk. -/
theorem walk (a0 : Int) (a1_A : Int) (a1_B : Int) (a1_C : Int) (a1_D : Int) (a1_E : Int) (a1_H : Int) (a1_L : Int) (a1_F_S : Bool) (a1_F_Z : Bool) (a1_F_K : Bool) (a1_F_AC : Bool) (a1_F_P : Bool) (a1_F_V : Bool) (a1_F_CY : Bool) (a1_SP : Int) (a1_PC : Int) (a2 : Int) (w : World) (w0 : (Lit.int .i64 a0).wf = true) (w1_A : (Lit.int .u8 a1_A).wf = true) (w1_B : (Lit.int .u8 a1_B).wf = true) (w1_C : (Lit.int .u8 a1_C).wf = true) (w1_D : (Lit.int .u8 a1_D).wf = true) (w1_E : (Lit.int .u8 a1_E).wf = true) (w1_H : (Lit.int .u8 a1_H).wf = true) (w1_L : (Lit.int .u8 a1_L).wf = true) (w1_SP : (Lit.int .u16 a1_SP).wf = true) (w1_PC : (Lit.int .u16 a1_PC).wf = true) (w2 : (Lit.int .u16 a2).wf = true) :
    Calls Try.prog 5 #[.int .i64 a0, .agg #[.int .u8 a1_A, .int .u8 a1_B, .int .u8 a1_C, .int .u8 a1_D, .int .u8 a1_E, .int .u8 a1_H, .int .u8 a1_L, .bool a1_F_S, .bool a1_F_Z, .bool a1_F_K, .bool a1_F_AC, .bool a1_F_P, .bool a1_F_V, .bool a1_F_CY, .int .u16 a1_SP, .int .u16 a1_PC], .int .u16 a2] w fun e w' => e = .returned (.bool true) ∧ Below w.heap.size w w' := by
  have bA := bounds_u8 w1_A
  have hA : a1_A < 256 := by omega
  have b2 := bounds_u16 w2
  have h2 : a2 < 65536 := by omega
  have i0 : ∀ (x y z : Int) (w : World), (Instr.index 27 (.agg #[.int .i64 x, .int .i64 y, .int .i64 z]) (.int .i64 0)).run Try.prog w = .ok (.int .i64 x) w := fun _ _ _ _ => by kernel_rfl
  have i1 : ∀ (x y z : Int) (w : World), (Instr.index 27 (.agg #[.int .i64 x, .int .i64 y, .int .i64 z]) (.int .i64 1)).run Try.prog w = .ok (.int .i64 y) w := fun _ _ _ _ => by kernel_rfl
  have i2 : ∀ (x y z : Int) (w : World), (Instr.index 27 (.agg #[.int .i64 x, .int .i64 y, .int .i64 z]) (.int .i64 2)).run Try.prog w = .ok (.int .i64 z) w := fun _ _ _ _ => by kernel_rfl
  go_enter Try.func5, Try.ntmps5
  go_wp2_with fail
  go_loopw [11] (fun i wr => ∃ k : Int, (0 ≤ k ∧ k ≤ 3) ∧ i = .int .i64 k ∧ Adds (w.alloc (.cells #[.int .u8 a1_A, .int .u8 a1_B, .int .u8 a1_C, .int .u8 a1_D, .int .u8 a1_E, .int .u8 a1_H, .int .u8 a1_L, .bool a1_F_S, .bool a1_F_Z, .bool a1_F_K, .bool a1_F_AC, .bool a1_F_P, .bool a1_F_V, .bool a1_F_CY, .int .u16 a1_SP, .int .u16 a1_PC] 26)) wr) (fun i _ => 3 - (intOf i).toNat)
  case atStart => exact ⟨0, by omega, rfl, by (repeat (first | with_reducible exact Adds.refl _ | with_reducible apply Adds.drew | with_reducible apply Adds.drewN | with_reducible apply Adds.alloc | with_reducible apply Adds.more | (with_reducible refine Adds.setCell ?_ ?_ _) | (focus (simp [go_sem]; done)) | (focus (simp [go_sem]; omega))))⟩
  case round =>
    obtain ⟨k, hk, rfl, ⟨⟨n0, os0⟩, rfl⟩⟩ := hrel
    rcases (by omega : k = 0 ∨ k = 1 ∨ k = 2 ∨ k = 3) with rfl | rfl | rfl | rfl
    · go_wp2_with fail
      refine wp_region_adds (by kernel_rfl) (by kernel_rfl) ?_
      repeat (go_big_quiet_step (first | (go_at_call 17; exact calls_adds (psw_any _ _ _ _ _ _ _ _ _ _ _ _ _ _ _ _ _ bA.1 hA _)) | (go_at_call 18; exact calls_adds (rpsw_any _ _ _ _ _ _ _ _ _ _ _ _ _ _ _ _ _ bA.1 hA _)) | (go_at_call 19; exact calls_adds (setpsw_any _ _ _ _ _ _ _ _ _ _ _ _ _ _ _ _ _ _ b2.1 h2 _)) | (go_at_call 20; exact calls_adds (rsetpsw_any _ _ _ _ _ _ _ _ _ _ _ _ _ _ _ _ _ _ b2.1 h2 _))))
      refine wpQuiet_nil ?_
      intro _ hw1
      obtain ⟨⟨nq, osq⟩, hw2⟩ := hw1
      subst hw2
      go_wp2_with fail
      go_roundw
      case rel => exact ⟨1, by omega, rfl, by (repeat (first | with_reducible exact Adds.refl _ | with_reducible apply Adds.drew | with_reducible apply Adds.drewN | with_reducible apply Adds.alloc | with_reducible apply Adds.more | (with_reducible refine Adds.setCell ?_ ?_ _) | (focus (simp [go_sem]; done)) | (focus (simp [go_sem]; omega))))⟩
      case measure => simp [intOf]
    · go_wp2_with fail
      refine wp_region_adds (by kernel_rfl) (by kernel_rfl) ?_
      repeat (go_big_quiet_step (first | (go_at_call 17; exact calls_adds (psw_any _ _ _ _ _ _ _ _ _ _ _ _ _ _ _ _ _ bA.1 hA _)) | (go_at_call 18; exact calls_adds (rpsw_any _ _ _ _ _ _ _ _ _ _ _ _ _ _ _ _ _ bA.1 hA _)) | (go_at_call 19; exact calls_adds (setpsw_any _ _ _ _ _ _ _ _ _ _ _ _ _ _ _ _ _ _ b2.1 h2 _)) | (go_at_call 20; exact calls_adds (rsetpsw_any _ _ _ _ _ _ _ _ _ _ _ _ _ _ _ _ _ _ b2.1 h2 _))))
      refine wpQuiet_nil ?_
      intro _ hw1
      obtain ⟨⟨nq, osq⟩, hw2⟩ := hw1
      subst hw2
      go_wp2_with fail
      go_roundw
      case rel => exact ⟨2, by omega, rfl, by (repeat (first | with_reducible exact Adds.refl _ | with_reducible apply Adds.drew | with_reducible apply Adds.drewN | with_reducible apply Adds.alloc | with_reducible apply Adds.more | (with_reducible refine Adds.setCell ?_ ?_ _) | (focus (simp [go_sem]; done)) | (focus (simp [go_sem]; omega))))⟩
      case measure => simp [intOf]
    · go_wp2_with fail
      refine wp_region_adds (by kernel_rfl) (by kernel_rfl) ?_
      repeat (go_big_quiet_step (first | (go_at_call 17; exact calls_adds (psw_any _ _ _ _ _ _ _ _ _ _ _ _ _ _ _ _ _ bA.1 hA _)) | (go_at_call 18; exact calls_adds (rpsw_any _ _ _ _ _ _ _ _ _ _ _ _ _ _ _ _ _ bA.1 hA _)) | (go_at_call 19; exact calls_adds (setpsw_any _ _ _ _ _ _ _ _ _ _ _ _ _ _ _ _ _ _ b2.1 h2 _)) | (go_at_call 20; exact calls_adds (rsetpsw_any _ _ _ _ _ _ _ _ _ _ _ _ _ _ _ _ _ _ b2.1 h2 _))))
      refine wpQuiet_nil ?_
      intro _ hw1
      obtain ⟨⟨nq, osq⟩, hw2⟩ := hw1
      subst hw2
      go_wp2_with fail
      go_roundw
      case rel => exact ⟨3, by omega, rfl, by (repeat (first | with_reducible exact Adds.refl _ | with_reducible apply Adds.drew | with_reducible apply Adds.drewN | with_reducible apply Adds.alloc | with_reducible apply Adds.more | (with_reducible refine Adds.setCell ?_ ?_ _) | (focus (simp [go_sem]; done)) | (focus (simp [go_sem]; omega))))⟩
      case measure => simp [intOf]
    · go_wp2_with (first | (go_at_call 12; refine (known8_any _).mono ?_; rintro e w' ⟨rfl, ⟨⟨n1, os1⟩, rfl⟩⟩))
      go_ret
      exact ⟨rfl, Adds.below (by (repeat (first | with_reducible exact Adds.refl _ | with_reducible apply Adds.drew | with_reducible apply Adds.drewN | with_reducible apply Adds.alloc | with_reducible apply Adds.more | (with_reducible refine Adds.setCell ?_ ?_ _) | (focus (simp [go_sem]; done)) | (focus (simp [go_sem]; omega)))))⟩

set_option maxRecDepth 100000 in
theorem lifted (os : Os) (started : os.Started) (H : Type) (enc : TypeId × Value → H) :
    ReturnsInHanded {} Try.checked os 5 .any (Rows.regsPSWSpec.pre6 enc Try.prog Try.f5 Rows.regsPSWRow.domain false) (Rows.regsPSWSpec.post enc Try.prog Try.f5 false true false false) := by
  refine returnsInHanded_of_change (C := Try.checked) own started (by kernel_rfl) Try.func5
    (ChangeSpec.witness6 (enc := enc) (C := Try.checked) false ⟨#[], #[.int .i64 0, .agg #[.int .u8 0, .int .u8 0, .int .u8 0, .int .u8 0, .int .u8 0, .int .u8 0, .int .u8 0, .bool false, .bool false, .bool false, .bool false, .bool false, .bool false, .bool false, .int .u16 0, .int .u16 0], .int .u16 0], []⟩ 8 (by kernel_rfl) (by kernel_rfl) (by kernel_rfl) (by kernel_rfl)) ?_
  intro W base args ds gs before hval0 hW hcnd _
  have hval : ∀ (j : Nat) t v, Try.f5.params[j]? = some t → args[j]? = some v → Value.okWide Try.prog W .any base t v := hval0
  have hW' := hW
  obtain ⟨p, q, hA0, hV, rfl, hfz, hnd⟩ := hW
  have hA : DataW.TrodAll enc Try.prog W 0 (fun _ => true) true Try.f5.params.toList args.toList ds p := hA0
  rw [Try.params5] at hA hval
  obtain ⟨v0, vs0, d0, ds0, p0, q0, hargs, rfl, rfl, h0, r0⟩ := trodAll_cons hA
  obtain ⟨v1, vs1, d1, ds1, p1, q1, rfl, rfl, rfl, h1, r1⟩ := trodAll_cons r0
  obtain ⟨v2, vs2, d2, ds2, p2, q2, rfl, rfl, rfl, h2, r2⟩ := trodAll_cons r1
  obtain ⟨rfl, rfl, rfl⟩ := trodAll_nil r2
  obtain rfl : args = #[v0, v1, v2] := by cases args; simp_all
  obtain ⟨rfl, rfl⟩ := trodVars_none hV
  have k0 := h0
  have lt0 : ∀ x ∈ p0, x.block < W.heap.size := by obtain ⟨m, hm⟩ := k0; exact DataW.trod_lt m _ _ _ hm
  obtain ⟨a0, rfl, -, -, w0⟩ := open_int Try.underlying3 (hval 0 3 v0 rfl rfl) h0
  have k1 := h1
  have lt1 : ∀ x ∈ p1, x.block < W.heap.size := by obtain ⟨m, hm⟩ := k1; exact DataW.trod_lt m _ _ _ hm
  obtain ⟨l1, rfl, g1_0⟩ := open_flat 9 [.int .u8, .int .u8, .int .u8, .int .u8, .int .u8, .int .u8, .int .u8, .bool, .bool, .bool, .bool, .bool, .bool, .bool, .int .u16, .int .u16] _ Try.underlying26 (by kernel_rfl) (hval 1 26 v1 rfl rfl) h1
  obtain ⟨a1_A, l1_1, rfl, w1_A, g1_1⟩ := fits_int g1_0
  obtain ⟨a1_B, l1_2, rfl, w1_B, g1_2⟩ := fits_int g1_1
  obtain ⟨a1_C, l1_3, rfl, w1_C, g1_3⟩ := fits_int g1_2
  obtain ⟨a1_D, l1_4, rfl, w1_D, g1_4⟩ := fits_int g1_3
  obtain ⟨a1_E, l1_5, rfl, w1_E, g1_5⟩ := fits_int g1_4
  obtain ⟨a1_H, l1_6, rfl, w1_H, g1_6⟩ := fits_int g1_5
  obtain ⟨a1_L, l1_7, rfl, w1_L, g1_7⟩ := fits_int g1_6
  obtain ⟨a1_F_S, l1_8, rfl, g1_8⟩ := fits_bool g1_7
  obtain ⟨a1_F_Z, l1_9, rfl, g1_9⟩ := fits_bool g1_8
  obtain ⟨a1_F_K, l1_10, rfl, g1_10⟩ := fits_bool g1_9
  obtain ⟨a1_F_AC, l1_11, rfl, g1_11⟩ := fits_bool g1_10
  obtain ⟨a1_F_P, l1_12, rfl, g1_12⟩ := fits_bool g1_11
  obtain ⟨a1_F_V, l1_13, rfl, g1_13⟩ := fits_bool g1_12
  obtain ⟨a1_F_CY, l1_14, rfl, g1_14⟩ := fits_bool g1_13
  obtain ⟨a1_SP, l1_15, rfl, w1_SP, g1_15⟩ := fits_int g1_14
  obtain ⟨a1_PC, l1_16, rfl, w1_PC, g1_16⟩ := fits_int g1_15
  obtain rfl := fits_nil g1_16
  have k2 := h2
  have lt2 : ∀ x ∈ p2, x.block < W.heap.size := by obtain ⟨m, hm⟩ := k2; exact DataW.trod_lt m _ _ _ hm
  obtain ⟨a2, rfl, -, -, w2⟩ := open_int Try.underlying24 (hval 2 24 v2 rfl rfl) h2
  clear hA0 hval0
  refine (walk a0 a1_A a1_B a1_C a1_D a1_E a1_H a1_L a1_F_S a1_F_Z a1_F_K a1_F_AC a1_F_P a1_F_V a1_F_CY a1_SP a1_PC a2 W w0 w1_A w1_B w1_C w1_D w1_E w1_H w1_L w1_SP w1_PC w2).mono fun e W' ⟨he, bel⟩ => ?_
  subst he
  exact ⟨_, rfl, _, _, _, [], _, [], hW', trodAll_mk1 (shut_bool Try.underlying4 _), (trodAll_cons_mk (Below.trod laidOut (by kernel_rfl) (of_decide_eq_true (by kernel_rfl)) k0 bel lt0) (trodAll_cons_mk (Below.trod laidOut (by kernel_rfl) (of_decide_eq_true (by kernel_rfl)) k1 bel lt1) (trodAll_cons_mk (Below.trod laidOut (by kernel_rfl) (of_decide_eq_true (by kernel_rfl)) k2 bel lt2) trodAll_mk0))), rfl, bel.frame _, fun h => by cases h⟩

theorem over : Rows.regsPSWRow.holds Try.pinned (OpenSpec.ofChange Rows.regsPSWSpec) :=
  OpenClaim.holds_of_wide 5 Try.f5 rfl rfl rfl rfl rfl rfl rfl ⟨rfl, rfl, rfl, rfl, rfl⟩ rfl rfl rfl rfl rfl (by kernel_rfl) Try.func5 (by kernel_rfl)
    (of_decide_eq_true (by kernel_rfl)) (by unfold Func.isWrapper; first | (rw [if_pos (by decide +kernel)]; kernel_rfl) | (rw [if_neg (by decide +kernel)]; exact ⟨rfl, rfl⟩))
    (fun os started H enc _ => lifted os started H enc)

/-- The statement. -/
theorem proved : Rows.RegsPSWSaid := over
#print axioms proved
end Go.Proofs.Ytkoonimngcpdjaa.regsPSW
