/- The statement RegsKeepsSaid of package tstatelaw8: for every input the law returns true, and its arguments read as before. No condition. -/
import Derived.Test.YtkoonimngcpdjaaRows
import Derived.Test.YtkoonimngcpdjaaM1
import Derived.Test.YtkoonimngcpdjaaC8
import Derived.Test.YtkoonimngcpdjaaCM
import Derived.WalkKit
import Derived.ProofKit
import Derived.OpenShut
import Derived.ShutString
import Derived.ChangeOld
import Derived.Below
import Derived.Carry
namespace Go.Proofs.Ytkoonimngcpdjaa.regsKeeps
open Go.ChangeShapes Go.WideShapes Go.ChangeAt Go.RowKit
open Go.ChangeMaps (open_string shut_string)
set_option linter.unusedVariables false

theorem own : ownKnob Try.prog.godebug = none := by kernel_rfl
theorem laidOut : laidOutB Try.prog = true := by kernel_rfl

set_option maxHeartbeats 2000000 in
/-- The walk. -/
theorem walk (a0_A : Int) (a0_B : Int) (a0_C : Int) (a0_D : Int) (a0_E : Int) (a0_H : Int) (a0_L : Int) (a0_F_S : Bool) (a0_F_Z : Bool) (a0_F_K : Bool) (a0_F_AC : Bool) (a0_F_P : Bool) (a0_F_V : Bool) (a0_F_CY : Bool) (a0_SP : Int) (a0_PC : Int) (a1 : Int) (a2 : Int) (a3 : Int) (w : World) (w0_A : (Lit.int .u8 a0_A).wf = true) (w0_B : (Lit.int .u8 a0_B).wf = true) (w0_C : (Lit.int .u8 a0_C).wf = true) (w0_D : (Lit.int .u8 a0_D).wf = true) (w0_E : (Lit.int .u8 a0_E).wf = true) (w0_H : (Lit.int .u8 a0_H).wf = true) (w0_L : (Lit.int .u8 a0_L).wf = true) (w0_SP : (Lit.int .u16 a0_SP).wf = true) (w0_PC : (Lit.int .u16 a0_PC).wf = true) (w1 : (Lit.int .i64 a1).wf = true) (w2 : (Lit.int .i64 a2).wf = true) (w3 : (Lit.int .u8 a3).wf = true) :
    Calls Try.prog 6 #[.agg #[.int .u8 a0_A, .int .u8 a0_B, .int .u8 a0_C, .int .u8 a0_D, .int .u8 a0_E, .int .u8 a0_H, .int .u8 a0_L, .bool a0_F_S, .bool a0_F_Z, .bool a0_F_K, .bool a0_F_AC, .bool a0_F_P, .bool a0_F_V, .bool a0_F_CY, .int .u16 a0_SP, .int .u16 a0_PC], .int .i64 a1, .int .i64 a2, .int .u8 a3] w fun e w' => e = .returned (.bool true) ∧ Below w.heap.size w w' := by
  have bn := S.plc_bd a1 8 (by omega)
  have bk := S.plc_bd a2 8 (by omega)
  generalize hn : S.plc a1 8 = n at bn
  generalize hk : S.plc a2 8 = k at bk
  by_cases h6 : n = 6
  · subst h6
    have e7 : S.st 7 6 a3 a0_A = a0_A := rfl
    have e0 : S.st 0 6 a3 a0_B = a0_B := rfl
    have e1 : S.st 1 6 a3 a0_C = a0_C := rfl
    have e2 : S.st 2 6 a3 a0_D = a0_D := rfl
    have e3 : S.st 3 6 a3 a0_E = a0_E := rfl
    have e4 : S.st 4 6 a3 a0_H = a0_H := rfl
    have e5 : S.st 5 6 a3 a0_L = a0_L := rfl
    go_enter Try.func6, Try.ntmps6
    go_wp2_with (first | (go_at_call 21; refine (mplace_any _ _ (by decide) (by decide) _).mono ?_; rintro e w' ⟨rfl, rfl⟩; first | rw [hn] | rw [hk]) | (go_at_call 13; refine (set_6 _ _ _ _ _ _ _ _ _ _ _ _ _ _ _ _ _ _ _ rfl).mono ?_; rintro e w' ⟨rfl, ⟨⟨n1, os1⟩, rfl⟩⟩) | (go_at_call 12; refine (known8_any _).mono ?_; rintro e w' ⟨rfl, ⟨⟨n1, os1⟩, rfl⟩⟩))
    go_ret
    exact ⟨rfl, Adds.below (by (repeat (first | with_reducible exact Adds.refl _ | with_reducible apply Adds.drew | with_reducible apply Adds.drewN | with_reducible apply Adds.alloc | with_reducible apply Adds.more | (with_reducible refine Adds.setCell ?_ ?_ _) | (focus (simp [go_sem]; done)) | (focus (simp [go_sem]; omega)))))⟩
  · have g1 := S.rg_set n a3 a0_A a0_B a0_C a0_D a0_E a0_H a0_L bn.1 bn.2 h6
    by_cases h : k = n
    · subst h
      go_enter Try.func6, Try.ntmps6
      go_wp2_with (first | (go_at_call 21; refine (mplace_any _ _ (by decide) (by decide) _).mono ?_; rintro e w' ⟨rfl, rfl⟩; first | rw [hn] | rw [hk]) | (go_at_call 13; refine (set_any _ _ _ _ _ _ _ _ _ _ _ _ _ _ _ _ _ _ _).mono ?_; rintro e w' ⟨rfl, ⟨⟨n1, os1⟩, rfl⟩⟩))
      refine wp_region_adds (by kernel_rfl) (by kernel_rfl) ?_
      repeat (go_big_quiet_step (first | (go_at_call 8; exact calls_adds (get_any _ _ _ _ _ _ _ _ _ _ _ _ _ _ _ _ _ _)) | (go_at_call 12; exact calls_adds (known8_any _))))
      refine wpQuiet_nil ?_
      intro _ hw1
      obtain ⟨⟨nq, osq⟩, hw2⟩ := hw1
      subst hw2
      go_wp2_with fail
      go_ret
      exact ⟨rfl, Adds.below (by (repeat (first | with_reducible exact Adds.refl _ | with_reducible apply Adds.drew | with_reducible apply Adds.drewN | with_reducible apply Adds.alloc | with_reducible apply Adds.more | (with_reducible refine Adds.setCell ?_ ?_ _) | (focus (simp [go_sem]; done)) | (focus (simp [go_sem]; omega)))))⟩
    · have g2 := S.rg_other n k a3 a0_A a0_B a0_C a0_D a0_E a0_H a0_L bn.1 bn.2 bk.1 bk.2 h
      have hb : (k == n) = false := beq_false_of_ne h
      go_enter Try.func6, Try.ntmps6
      go_wp2_with (first | (go_at_call 21; refine (mplace_any _ _ (by decide) (by decide) _).mono ?_; rintro e w' ⟨rfl, rfl⟩; first | rw [hn] | rw [hk]) | (go_at_call 13; refine (set_any _ _ _ _ _ _ _ _ _ _ _ _ _ _ _ _ _ _ _).mono ?_; rintro e w' ⟨rfl, ⟨⟨n1, os1⟩, rfl⟩⟩))
      refine wp_region_adds (by kernel_rfl) (by kernel_rfl) ?_
      repeat (go_big_quiet_step (first | (go_at_call 8; exact calls_adds (get_any _ _ _ _ _ _ _ _ _ _ _ _ _ _ _ _ _ _)) | (go_at_call 12; exact calls_adds (known8_any _))))
      refine wpQuiet_nil ?_
      intro _ hw1
      obtain ⟨⟨nq, osq⟩, hw2⟩ := hw1
      subst hw2
      go_wp2_with fail
      go_ret
      exact ⟨rfl, Adds.below (by (repeat (first | with_reducible exact Adds.refl _ | with_reducible apply Adds.drew | with_reducible apply Adds.drewN | with_reducible apply Adds.alloc | with_reducible apply Adds.more | (with_reducible refine Adds.setCell ?_ ?_ _) | (focus (simp [go_sem]; done)) | (focus (simp [go_sem]; omega)))))⟩

set_option maxRecDepth 100000 in
theorem lifted (os : Os) (started : os.Started) (H : Type) (enc : TypeId × Value → H) :
    ReturnsInHanded {} Try.checked os 6 .any (Rows.regsKeepsSpec.pre6 enc Try.prog Try.f6 Rows.regsKeepsRow.domain false) (Rows.regsKeepsSpec.post enc Try.prog Try.f6 false true false false) := by
  refine returnsInHanded_of_change (C := Try.checked) own started (by kernel_rfl) Try.func6
    (ChangeSpec.witness6 (enc := enc) (C := Try.checked) false ⟨#[], #[.agg #[.int .u8 0, .int .u8 0, .int .u8 0, .int .u8 0, .int .u8 0, .int .u8 0, .int .u8 0, .bool false, .bool false, .bool false, .bool false, .bool false, .bool false, .bool false, .int .u16 0, .int .u16 0], .int .i64 0, .int .i64 0, .int .u8 0], []⟩ 8 (by kernel_rfl) (by kernel_rfl) (by kernel_rfl) (by kernel_rfl)) ?_
  intro W base args ds gs before hval0 hW hcnd _
  have hval : ∀ (j : Nat) t v, Try.f6.params[j]? = some t → args[j]? = some v → Value.okWide Try.prog W .any base t v := hval0
  have hW' := hW
  obtain ⟨p, q, hA0, hV, rfl, hfz, hnd⟩ := hW
  have hA : DataW.TrodAll enc Try.prog W 0 (fun _ => true) true Try.f6.params.toList args.toList ds p := hA0
  rw [Try.params6] at hA hval
  obtain ⟨v0, vs0, d0, ds0, p0, q0, hargs, rfl, rfl, h0, r0⟩ := trodAll_cons hA
  obtain ⟨v1, vs1, d1, ds1, p1, q1, rfl, rfl, rfl, h1, r1⟩ := trodAll_cons r0
  obtain ⟨v2, vs2, d2, ds2, p2, q2, rfl, rfl, rfl, h2, r2⟩ := trodAll_cons r1
  obtain ⟨v3, vs3, d3, ds3, p3, q3, rfl, rfl, rfl, h3, r3⟩ := trodAll_cons r2
  obtain ⟨rfl, rfl, rfl⟩ := trodAll_nil r3
  obtain rfl : args = #[v0, v1, v2, v3] := by cases args; simp_all
  obtain ⟨rfl, rfl⟩ := trodVars_none hV
  have k0 := h0
  have lt0 : ∀ x ∈ p0, x.block < W.heap.size := by obtain ⟨m, hm⟩ := k0; exact DataW.trod_lt m _ _ _ hm
  obtain ⟨l0, rfl, g0_0⟩ := open_flat 9 [.int .u8, .int .u8, .int .u8, .int .u8, .int .u8, .int .u8, .int .u8, .bool, .bool, .bool, .bool, .bool, .bool, .bool, .int .u16, .int .u16] _ Try.underlying26 (by kernel_rfl) (hval 0 26 v0 rfl rfl) h0
  obtain ⟨a0_A, l0_1, rfl, w0_A, g0_1⟩ := fits_int g0_0
  obtain ⟨a0_B, l0_2, rfl, w0_B, g0_2⟩ := fits_int g0_1
  obtain ⟨a0_C, l0_3, rfl, w0_C, g0_3⟩ := fits_int g0_2
  obtain ⟨a0_D, l0_4, rfl, w0_D, g0_4⟩ := fits_int g0_3
  obtain ⟨a0_E, l0_5, rfl, w0_E, g0_5⟩ := fits_int g0_4
  obtain ⟨a0_H, l0_6, rfl, w0_H, g0_6⟩ := fits_int g0_5
  obtain ⟨a0_L, l0_7, rfl, w0_L, g0_7⟩ := fits_int g0_6
  obtain ⟨a0_F_S, l0_8, rfl, g0_8⟩ := fits_bool g0_7
  obtain ⟨a0_F_Z, l0_9, rfl, g0_9⟩ := fits_bool g0_8
  obtain ⟨a0_F_K, l0_10, rfl, g0_10⟩ := fits_bool g0_9
  obtain ⟨a0_F_AC, l0_11, rfl, g0_11⟩ := fits_bool g0_10
  obtain ⟨a0_F_P, l0_12, rfl, g0_12⟩ := fits_bool g0_11
  obtain ⟨a0_F_V, l0_13, rfl, g0_13⟩ := fits_bool g0_12
  obtain ⟨a0_F_CY, l0_14, rfl, g0_14⟩ := fits_bool g0_13
  obtain ⟨a0_SP, l0_15, rfl, w0_SP, g0_15⟩ := fits_int g0_14
  obtain ⟨a0_PC, l0_16, rfl, w0_PC, g0_16⟩ := fits_int g0_15
  obtain rfl := fits_nil g0_16
  have k1 := h1
  have lt1 : ∀ x ∈ p1, x.block < W.heap.size := by obtain ⟨m, hm⟩ := k1; exact DataW.trod_lt m _ _ _ hm
  obtain ⟨a1, rfl, -, -, w1⟩ := open_int Try.underlying3 (hval 1 3 v1 rfl rfl) h1
  have k2 := h2
  have lt2 : ∀ x ∈ p2, x.block < W.heap.size := by obtain ⟨m, hm⟩ := k2; exact DataW.trod_lt m _ _ _ hm
  obtain ⟨a2, rfl, -, -, w2⟩ := open_int Try.underlying3 (hval 2 3 v2 rfl rfl) h2
  have k3 := h3
  have lt3 : ∀ x ∈ p3, x.block < W.heap.size := by obtain ⟨m, hm⟩ := k3; exact DataW.trod_lt m _ _ _ hm
  obtain ⟨a3, rfl, -, -, w3⟩ := open_int Try.underlying5 (hval 3 5 v3 rfl rfl) h3
  clear hA0 hval0
  refine (walk a0_A a0_B a0_C a0_D a0_E a0_H a0_L a0_F_S a0_F_Z a0_F_K a0_F_AC a0_F_P a0_F_V a0_F_CY a0_SP a0_PC a1 a2 a3 W w0_A w0_B w0_C w0_D w0_E w0_H w0_L w0_SP w0_PC w1 w2 w3).mono fun e W' ⟨he, bel⟩ => ?_
  subst he
  exact ⟨_, rfl, _, _, _, [], _, [], hW', trodAll_mk1 (shut_bool Try.underlying4 _), (trodAll_cons_mk (Below.trod laidOut (by kernel_rfl) (of_decide_eq_true (by kernel_rfl)) k0 bel lt0) (trodAll_cons_mk (Below.trod laidOut (by kernel_rfl) (of_decide_eq_true (by kernel_rfl)) k1 bel lt1) (trodAll_cons_mk (Below.trod laidOut (by kernel_rfl) (of_decide_eq_true (by kernel_rfl)) k2 bel lt2) (trodAll_cons_mk (Below.trod laidOut (by kernel_rfl) (of_decide_eq_true (by kernel_rfl)) k3 bel lt3) trodAll_mk0)))), rfl, bel.frame _, fun h => by cases h⟩

theorem over : Rows.regsKeepsRow.holds Try.pinned (OpenSpec.ofChange Rows.regsKeepsSpec) :=
  OpenClaim.holds_of_wide 6 Try.f6 rfl rfl rfl rfl rfl rfl rfl ⟨rfl, rfl, rfl, rfl, rfl⟩ rfl rfl rfl rfl rfl (by kernel_rfl) Try.func6 (by kernel_rfl)
    (of_decide_eq_true (by kernel_rfl)) (by unfold Func.isWrapper; first | (rw [if_pos (by decide +kernel)]; kernel_rfl) | (rw [if_neg (by decide +kernel)]; exact ⟨rfl, rfl⟩))
    (fun os started H enc _ => lifted os started H enc)

/-- The statement. -/
theorem proved : Rows.RegsKeepsSaid := over
#print axioms proved
end Go.Proofs.Ytkoonimngcpdjaa.regsKeeps
