/- Contracts of package serial and of the reference's chapter 14: each returns the plain functions' values and leaves what was there alone. Conditions: bytes are from 0 to 255. -/
import Derived.Test.YtnmpffhnflliaaaC1
import Derived.Test.YtnmpffhnflliaaaS14
import Derived.Test.YtnmpffhnflliaaaMW
import Derived.Lib.Hide
import Derived.RegionTactic
import Derived.Deep.RegionWith
namespace Go.Proofs.Ytnmpffhnflliaaa
open Go.ChangeShapes Go.WideShapes Go.ChangeAt Go.RowKit
set_option linter.unusedVariables false
theorem when_any (b : Bool) (n : Int) (w : World) : Calls Try.prog 19 #[.bool b, .int .u8 n] w fun e w' => e = .returned (.int .u8 (S.bt b n)) ∧ w = w' := by
  cases b
  all_goals
    go_enter Try.func19, Try.ntmps19
    go_wp2
    go_ret
    exact ⟨rfl, rfl⟩
theorem bit14_any (f : Bool) (n : Int) (n0 : 0 ≤ n) (n1 : n < 8) (w : World) : Calls Try.prog 20 #[.bool f, .int .i64 n] w fun e w' => e = .returned (.int .u8 (S.bp f n)) ∧ w = w' := by
  rcases (by omega : n = 0 ∨ n = 1 ∨ n = 2 ∨ n = 3 ∨ n = 4 ∨ n = 5 ∨ n = 6 ∨ n = 7) with rfl | rfl | rfl | rfl | rfl | rfl | rfl | rfl
  all_goals
    cases f
    all_goals
      go_enter Try.func20, Try.ntmps20
      go_wp2_with (go_at_call 26; refine (one_any _ _).mono ?_; rintro e w' ⟨rfl, rfl⟩)
      go_ret
      exact ⟨ri (by decide +kernel), rfl⟩
theorem has14_any (a n : Int) (w : World) : Calls Try.prog 21 #[.int .u8 a, .int .u8 n] w fun e w' => e = .returned (.bool (S.hs a n)) ∧ w = w' := by
  go_enter Try.func21, Try.ntmps21
  go_wp2
  go_ret
  exact ⟨rfl, rfl⟩
set_option maxHeartbeats 1000000 in
theorem rim_any (cCh cA cB cC cD cE cH cL : Int) (cfS cfZ cfK cfAC cfP cfV cfCY : Bool) (cSP cPC : Int) (cIE cDe cHa : Bool) (cMa : Int) (cTr cR7 cWT cW7 cSa cSI cSO : Bool) (lRe lHo lRs lSi lTr lR7 lR6 lR5 lIn : Bool) (m0 : 0 ≤ cMa) (m1 : cMa < 256) (w : World) : Calls Try.prog 10 #[.agg #[.int .i64 cCh, .int .u8 cA, .int .u8 cB, .int .u8 cC, .int .u8 cD, .int .u8 cE, .int .u8 cH, .int .u8 cL, .bool cfS, .bool cfZ, .bool cfK, .bool cfAC, .bool cfP, .bool cfV, .bool cfCY, .int .u16 cSP, .int .u16 cPC, .bool cIE, .bool cDe, .bool cHa, .int .u8 cMa, .bool cTr, .bool cR7, .bool cWT, .bool cW7, .bool cSa, .bool cSI, .bool cSO], .agg #[.bool lRe, .bool lHo, .bool lRs, .bool lSi, .bool lTr, .bool lR7, .bool lR6, .bool lR5, .bool lIn]] w fun e w' => e = .returned (.tuple #[.int .u8 (S.rim lSi cR7 lR6 lR5 (S.pick cSa cSI cIE) cMa), .agg #[.int .i64 cCh, .int .u8 cA, .int .u8 cB, .int .u8 cC, .int .u8 cD, .int .u8 cE, .int .u8 cH, .int .u8 cL, .bool cfS, .bool cfZ, .bool cfK, .bool cfAC, .bool cfP, .bool cfV, .bool cfCY, .int .u16 cSP, .int .u16 cPC, .bool cIE, .bool cDe, .bool cHa, .int .u8 cMa, .bool cTr, .bool cR7, .bool cWT, .bool cW7, .bool (false), .bool (false), .bool cSO]]) ∧ Adds w w' := by
  have h3 := S.low3 cMa m0 m1
  have HR := Lib.hid (S.rim_or lSi cR7 lR6 lR5 (S.pick cSa cSI cIE) cMa)
  cases cSa
  · go_enter Try.func10, Try.ntmps10
    go_wp2_with fail
    refine wp_region_adds (by kernel_rfl) (by kernel_rfl) ?_
    repeat (go_big_quiet_step (first | (go_at_call 19; exact calls_same (when_any _ _ _))))
    refine wpQuiet_nil ?_
    intro _ hw1
    obtain ⟨⟨nq, osq⟩, hw2⟩ := hw1
    subst hw2
    go_wp2_with fail
    go_region
    all_goals go_wp2_with fail
    all_goals exact bodyPost_ret (v := .tuple #[.int .u8 (S.rim lSi cR7 lR6 lR5 (S.pick false cSI cIE) cMa), .agg #[.int .i64 cCh, .int .u8 cA, .int .u8 cB, .int .u8 cC, .int .u8 cD, .int .u8 cE, .int .u8 cH, .int .u8 cL, .bool cfS, .bool cfZ, .bool cfK, .bool cfAC, .bool cfP, .bool cfV, .bool cfCY, .int .u16 cSP, .int .u16 cPC, .bool cIE, .bool cDe, .bool cHa, .int .u8 cMa, .bool cTr, .bool cR7, .bool cWT, .bool cW7, .bool (false), .bool (false), .bool cSO]]) (ret2_CPU Try.results10 (congrArg (Value.int .u8) HR.out) rfl (by simp [go_sem]) rfl) rfl ⟨rfl, by (repeat (first | with_reducible exact Adds.refl _ | with_reducible apply Adds.drew | with_reducible apply Adds.drewN | with_reducible apply Adds.alloc | with_reducible apply Adds.more | (with_reducible refine Adds.setCell ?_ ?_ _) | (focus (simp [go_sem]; done)) | (focus (simp [go_sem]; omega))))⟩
  · go_enter Try.func10, Try.ntmps10
    go_wp2_with fail
    refine wp_region_adds (by kernel_rfl) (by kernel_rfl) ?_
    repeat (go_big_quiet_step (first | (go_at_call 19; exact calls_same (when_any _ _ _))))
    refine wpQuiet_nil ?_
    intro _ hw1
    obtain ⟨⟨nq, osq⟩, hw2⟩ := hw1
    subst hw2
    go_wp2_with fail
    go_region
    all_goals go_wp2_with fail
    all_goals exact bodyPost_ret (v := .tuple #[.int .u8 (S.rim lSi cR7 lR6 lR5 (S.pick true cSI cIE) cMa), .agg #[.int .i64 cCh, .int .u8 cA, .int .u8 cB, .int .u8 cC, .int .u8 cD, .int .u8 cE, .int .u8 cH, .int .u8 cL, .bool cfS, .bool cfZ, .bool cfK, .bool cfAC, .bool cfP, .bool cfV, .bool cfCY, .int .u16 cSP, .int .u16 cPC, .bool cIE, .bool cDe, .bool cHa, .int .u8 cMa, .bool cTr, .bool cR7, .bool cWT, .bool cW7, .bool (false), .bool (false), .bool cSO]]) (ret2_CPU Try.results10 (congrArg (Value.int .u8) HR.out) rfl (by simp [go_sem]) rfl) rfl ⟨rfl, by (repeat (first | with_reducible exact Adds.refl _ | with_reducible apply Adds.drew | with_reducible apply Adds.drewN | with_reducible apply Adds.alloc | with_reducible apply Adds.more | (with_reducible refine Adds.setCell ?_ ?_ _) | (focus (simp [go_sem]; done)) | (focus (simp [go_sem]; omega))))⟩
set_option maxHeartbeats 1000000 in
theorem rrim_any (cCh cA cB cC cD cE cH cL : Int) (cfS cfZ cfK cfAC cfP cfV cfCY : Bool) (cSP cPC : Int) (cIE cDe cHa : Bool) (cMa : Int) (cTr cR7 cWT cW7 cSa cSI cSO : Bool) (lRe lHo lRs lSi lTr lR7 lR6 lR5 lIn : Bool) (m0 : 0 ≤ cMa) (m1 : cMa < 256) (w : World) : Calls Try.prog 11 #[.agg #[.int .i64 cCh, .int .u8 cA, .int .u8 cB, .int .u8 cC, .int .u8 cD, .int .u8 cE, .int .u8 cH, .int .u8 cL, .bool cfS, .bool cfZ, .bool cfK, .bool cfAC, .bool cfP, .bool cfV, .bool cfCY, .int .u16 cSP, .int .u16 cPC, .bool cIE, .bool cDe, .bool cHa, .int .u8 cMa, .bool cTr, .bool cR7, .bool cWT, .bool cW7, .bool cSa, .bool cSI, .bool cSO], .agg #[.bool lRe, .bool lHo, .bool lRs, .bool lSi, .bool lTr, .bool lR7, .bool lR6, .bool lR5, .bool lIn]] w fun e w' => e = .returned (.tuple #[.int .u8 (S.rim lSi cR7 lR6 lR5 (S.pick cSa cSI cIE) cMa), .agg #[.int .i64 cCh, .int .u8 cA, .int .u8 cB, .int .u8 cC, .int .u8 cD, .int .u8 cE, .int .u8 cH, .int .u8 cL, .bool cfS, .bool cfZ, .bool cfK, .bool cfAC, .bool cfP, .bool cfV, .bool cfCY, .int .u16 cSP, .int .u16 cPC, .bool cIE, .bool cDe, .bool cHa, .int .u8 cMa, .bool cTr, .bool cR7, .bool cWT, .bool cW7, .bool (false), .bool (false), .bool cSO]]) ∧ Adds w w' := by
  have h3 := S.low3 cMa m0 m1
  have HR := Lib.hid (S.rim_orp lSi cR7 lR6 lR5 (S.pick cSa cSI cIE) cMa)
  cases cSa
  · go_enter Try.func11, Try.ntmps11
    go_wp2_with fail
    refine wp_region_adds (by kernel_rfl) (by kernel_rfl) ?_
    repeat (go_big_quiet_step (first | (go_at_call 20; exact calls_same (bit14_any _ _ (by decide) (by decide) _))))
    refine wpQuiet_nil ?_
    intro _ hw1
    obtain ⟨⟨nq, osq⟩, hw2⟩ := hw1
    subst hw2
    go_wp2_with fail
    go_region
    all_goals go_wp2_with fail
    all_goals exact bodyPost_ret (v := .tuple #[.int .u8 (S.rim lSi cR7 lR6 lR5 (S.pick false cSI cIE) cMa), .agg #[.int .i64 cCh, .int .u8 cA, .int .u8 cB, .int .u8 cC, .int .u8 cD, .int .u8 cE, .int .u8 cH, .int .u8 cL, .bool cfS, .bool cfZ, .bool cfK, .bool cfAC, .bool cfP, .bool cfV, .bool cfCY, .int .u16 cSP, .int .u16 cPC, .bool cIE, .bool cDe, .bool cHa, .int .u8 cMa, .bool cTr, .bool cR7, .bool cWT, .bool cW7, .bool (false), .bool (false), .bool cSO]]) (ret2_CPU Try.results11 (congrArg (Value.int .u8) HR.out) rfl (by simp [go_sem]) rfl) rfl ⟨rfl, by (repeat (first | with_reducible exact Adds.refl _ | with_reducible apply Adds.drew | with_reducible apply Adds.drewN | with_reducible apply Adds.alloc | with_reducible apply Adds.more | (with_reducible refine Adds.setCell ?_ ?_ _) | (focus (simp [go_sem]; done)) | (focus (simp [go_sem]; omega))))⟩
  · go_enter Try.func11, Try.ntmps11
    go_wp2_with fail
    refine wp_region_adds (by kernel_rfl) (by kernel_rfl) ?_
    repeat (go_big_quiet_step (first | (go_at_call 20; exact calls_same (bit14_any _ _ (by decide) (by decide) _))))
    refine wpQuiet_nil ?_
    intro _ hw1
    obtain ⟨⟨nq, osq⟩, hw2⟩ := hw1
    subst hw2
    go_wp2_with fail
    go_region
    all_goals go_wp2_with fail
    all_goals exact bodyPost_ret (v := .tuple #[.int .u8 (S.rim lSi cR7 lR6 lR5 (S.pick true cSI cIE) cMa), .agg #[.int .i64 cCh, .int .u8 cA, .int .u8 cB, .int .u8 cC, .int .u8 cD, .int .u8 cE, .int .u8 cH, .int .u8 cL, .bool cfS, .bool cfZ, .bool cfK, .bool cfAC, .bool cfP, .bool cfV, .bool cfCY, .int .u16 cSP, .int .u16 cPC, .bool cIE, .bool cDe, .bool cHa, .int .u8 cMa, .bool cTr, .bool cR7, .bool cWT, .bool cW7, .bool (false), .bool (false), .bool cSO]]) (ret2_CPU Try.results11 (congrArg (Value.int .u8) HR.out) rfl (by simp [go_sem]) rfl) rfl ⟨rfl, by (repeat (first | with_reducible exact Adds.refl _ | with_reducible apply Adds.drew | with_reducible apply Adds.drewN | with_reducible apply Adds.alloc | with_reducible apply Adds.more | (with_reducible refine Adds.setCell ?_ ?_ _) | (focus (simp [go_sem]; done)) | (focus (simp [go_sem]; omega))))⟩
set_option maxHeartbeats 1000000 in
theorem sim_any (cCh cA cB cC cD cE cH cL : Int) (cfS cfZ cfK cfAC cfP cfV cfCY : Bool) (cSP cPC : Int) (cIE cDe cHa : Bool) (cMa : Int) (cTr cR7 cWT cW7 cSa cSI cSO : Bool) (a : Int) (a0 : 0 ≤ a) (a1 : a < 256) (w : World) : Calls Try.prog 12 #[.agg #[.int .i64 cCh, .int .u8 cA, .int .u8 cB, .int .u8 cC, .int .u8 cD, .int .u8 cE, .int .u8 cH, .int .u8 cL, .bool cfS, .bool cfZ, .bool cfK, .bool cfAC, .bool cfP, .bool cfV, .bool cfCY, .int .u16 cSP, .int .u16 cPC, .bool cIE, .bool cDe, .bool cHa, .int .u8 cMa, .bool cTr, .bool cR7, .bool cWT, .bool cW7, .bool cSa, .bool cSI, .bool cSO], .int .u8 a] w fun e w' => e = .returned (.agg #[.int .i64 cCh, .int .u8 cA, .int .u8 cB, .int .u8 cC, .int .u8 cD, .int .u8 cE, .int .u8 cH, .int .u8 cL, .bool cfS, .bool cfZ, .bool cfK, .bool cfAC, .bool cfP, .bool cfV, .bool cfCY, .int .u16 cSP, .int .u16 cPC, .bool cIE, .bool cDe, .bool cHa, .int .u8 (S.pickN (S.hs a 8) (a % 8) cMa), .bool cTr, .bool (S.pick (S.hs a 16) false cR7), .bool cWT, .bool cW7, .bool cSa, .bool cSI, .bool (S.pick (S.hs a 64) (S.hs a 128) cSO)]) ∧ Adds w w' := by
  have h7 := S.low3 a a0 a1
  cases h6 : S.hs a 64 <;> cases h4 : S.hs a 16 <;> cases h3 : S.hs a 8
  · go_enter Try.func12, Try.ntmps12
    go_wp2_with (first | (go_at_call 21; refine (has14_any _ _ _).mono ?_; rintro e w' ⟨rfl, rfl⟩))
    exact bodyPost_ret (v := .agg #[.int .i64 cCh, .int .u8 cA, .int .u8 cB, .int .u8 cC, .int .u8 cD, .int .u8 cE, .int .u8 cH, .int .u8 cL, .bool cfS, .bool cfZ, .bool cfK, .bool cfAC, .bool cfP, .bool cfV, .bool cfCY, .int .u16 cSP, .int .u16 cPC, .bool cIE, .bool cDe, .bool cHa, .int .u8 (S.pickN false (a % 8) cMa), .bool cTr, .bool (S.pick false false cR7), .bool cWT, .bool cW7, .bool cSa, .bool cSI, .bool (S.pick false (S.hs a 128) cSO)]) (ret_CPU Try.results12 rfl (by simp [go_sem, S.pick, S.pickN]) rfl) rfl ⟨rfl, by (repeat (first | with_reducible exact Adds.refl _ | with_reducible apply Adds.drew | with_reducible apply Adds.drewN | with_reducible apply Adds.alloc | with_reducible apply Adds.more | (with_reducible refine Adds.setCell ?_ ?_ _) | (focus (simp [go_sem]; done)) | (focus (simp [go_sem]; omega))))⟩
  · go_enter Try.func12, Try.ntmps12
    go_wp2_with (first | (go_at_call 21; refine (has14_any _ _ _).mono ?_; rintro e w' ⟨rfl, rfl⟩))
    exact bodyPost_ret (v := .agg #[.int .i64 cCh, .int .u8 cA, .int .u8 cB, .int .u8 cC, .int .u8 cD, .int .u8 cE, .int .u8 cH, .int .u8 cL, .bool cfS, .bool cfZ, .bool cfK, .bool cfAC, .bool cfP, .bool cfV, .bool cfCY, .int .u16 cSP, .int .u16 cPC, .bool cIE, .bool cDe, .bool cHa, .int .u8 (S.pickN true (a % 8) cMa), .bool cTr, .bool (S.pick false false cR7), .bool cWT, .bool cW7, .bool cSa, .bool cSI, .bool (S.pick false (S.hs a 128) cSO)]) (ret_CPU Try.results12 rfl (by simp [go_sem, S.pick, S.pickN]) rfl) rfl ⟨rfl, by (repeat (first | with_reducible exact Adds.refl _ | with_reducible apply Adds.drew | with_reducible apply Adds.drewN | with_reducible apply Adds.alloc | with_reducible apply Adds.more | (with_reducible refine Adds.setCell ?_ ?_ _) | (focus (simp [go_sem]; done)) | (focus (simp [go_sem]; omega))))⟩
  · go_enter Try.func12, Try.ntmps12
    go_wp2_with (first | (go_at_call 21; refine (has14_any _ _ _).mono ?_; rintro e w' ⟨rfl, rfl⟩))
    exact bodyPost_ret (v := .agg #[.int .i64 cCh, .int .u8 cA, .int .u8 cB, .int .u8 cC, .int .u8 cD, .int .u8 cE, .int .u8 cH, .int .u8 cL, .bool cfS, .bool cfZ, .bool cfK, .bool cfAC, .bool cfP, .bool cfV, .bool cfCY, .int .u16 cSP, .int .u16 cPC, .bool cIE, .bool cDe, .bool cHa, .int .u8 (S.pickN false (a % 8) cMa), .bool cTr, .bool (S.pick true false cR7), .bool cWT, .bool cW7, .bool cSa, .bool cSI, .bool (S.pick false (S.hs a 128) cSO)]) (ret_CPU Try.results12 rfl (by simp [go_sem, S.pick, S.pickN]) rfl) rfl ⟨rfl, by (repeat (first | with_reducible exact Adds.refl _ | with_reducible apply Adds.drew | with_reducible apply Adds.drewN | with_reducible apply Adds.alloc | with_reducible apply Adds.more | (with_reducible refine Adds.setCell ?_ ?_ _) | (focus (simp [go_sem]; done)) | (focus (simp [go_sem]; omega))))⟩
  · go_enter Try.func12, Try.ntmps12
    go_wp2_with (first | (go_at_call 21; refine (has14_any _ _ _).mono ?_; rintro e w' ⟨rfl, rfl⟩))
    exact bodyPost_ret (v := .agg #[.int .i64 cCh, .int .u8 cA, .int .u8 cB, .int .u8 cC, .int .u8 cD, .int .u8 cE, .int .u8 cH, .int .u8 cL, .bool cfS, .bool cfZ, .bool cfK, .bool cfAC, .bool cfP, .bool cfV, .bool cfCY, .int .u16 cSP, .int .u16 cPC, .bool cIE, .bool cDe, .bool cHa, .int .u8 (S.pickN true (a % 8) cMa), .bool cTr, .bool (S.pick true false cR7), .bool cWT, .bool cW7, .bool cSa, .bool cSI, .bool (S.pick false (S.hs a 128) cSO)]) (ret_CPU Try.results12 rfl (by simp [go_sem, S.pick, S.pickN]) rfl) rfl ⟨rfl, by (repeat (first | with_reducible exact Adds.refl _ | with_reducible apply Adds.drew | with_reducible apply Adds.drewN | with_reducible apply Adds.alloc | with_reducible apply Adds.more | (with_reducible refine Adds.setCell ?_ ?_ _) | (focus (simp [go_sem]; done)) | (focus (simp [go_sem]; omega))))⟩
  · go_enter Try.func12, Try.ntmps12
    go_wp2_with (first | (go_at_call 21; refine (has14_any _ _ _).mono ?_; rintro e w' ⟨rfl, rfl⟩))
    exact bodyPost_ret (v := .agg #[.int .i64 cCh, .int .u8 cA, .int .u8 cB, .int .u8 cC, .int .u8 cD, .int .u8 cE, .int .u8 cH, .int .u8 cL, .bool cfS, .bool cfZ, .bool cfK, .bool cfAC, .bool cfP, .bool cfV, .bool cfCY, .int .u16 cSP, .int .u16 cPC, .bool cIE, .bool cDe, .bool cHa, .int .u8 (S.pickN false (a % 8) cMa), .bool cTr, .bool (S.pick false false cR7), .bool cWT, .bool cW7, .bool cSa, .bool cSI, .bool (S.pick true (S.hs a 128) cSO)]) (ret_CPU Try.results12 rfl (by simp [go_sem, S.pick, S.pickN]) rfl) rfl ⟨rfl, by (repeat (first | with_reducible exact Adds.refl _ | with_reducible apply Adds.drew | with_reducible apply Adds.drewN | with_reducible apply Adds.alloc | with_reducible apply Adds.more | (with_reducible refine Adds.setCell ?_ ?_ _) | (focus (simp [go_sem]; done)) | (focus (simp [go_sem]; omega))))⟩
  · go_enter Try.func12, Try.ntmps12
    go_wp2_with (first | (go_at_call 21; refine (has14_any _ _ _).mono ?_; rintro e w' ⟨rfl, rfl⟩))
    exact bodyPost_ret (v := .agg #[.int .i64 cCh, .int .u8 cA, .int .u8 cB, .int .u8 cC, .int .u8 cD, .int .u8 cE, .int .u8 cH, .int .u8 cL, .bool cfS, .bool cfZ, .bool cfK, .bool cfAC, .bool cfP, .bool cfV, .bool cfCY, .int .u16 cSP, .int .u16 cPC, .bool cIE, .bool cDe, .bool cHa, .int .u8 (S.pickN true (a % 8) cMa), .bool cTr, .bool (S.pick false false cR7), .bool cWT, .bool cW7, .bool cSa, .bool cSI, .bool (S.pick true (S.hs a 128) cSO)]) (ret_CPU Try.results12 rfl (by simp [go_sem, S.pick, S.pickN]) rfl) rfl ⟨rfl, by (repeat (first | with_reducible exact Adds.refl _ | with_reducible apply Adds.drew | with_reducible apply Adds.drewN | with_reducible apply Adds.alloc | with_reducible apply Adds.more | (with_reducible refine Adds.setCell ?_ ?_ _) | (focus (simp [go_sem]; done)) | (focus (simp [go_sem]; omega))))⟩
  · go_enter Try.func12, Try.ntmps12
    go_wp2_with (first | (go_at_call 21; refine (has14_any _ _ _).mono ?_; rintro e w' ⟨rfl, rfl⟩))
    exact bodyPost_ret (v := .agg #[.int .i64 cCh, .int .u8 cA, .int .u8 cB, .int .u8 cC, .int .u8 cD, .int .u8 cE, .int .u8 cH, .int .u8 cL, .bool cfS, .bool cfZ, .bool cfK, .bool cfAC, .bool cfP, .bool cfV, .bool cfCY, .int .u16 cSP, .int .u16 cPC, .bool cIE, .bool cDe, .bool cHa, .int .u8 (S.pickN false (a % 8) cMa), .bool cTr, .bool (S.pick true false cR7), .bool cWT, .bool cW7, .bool cSa, .bool cSI, .bool (S.pick true (S.hs a 128) cSO)]) (ret_CPU Try.results12 rfl (by simp [go_sem, S.pick, S.pickN]) rfl) rfl ⟨rfl, by (repeat (first | with_reducible exact Adds.refl _ | with_reducible apply Adds.drew | with_reducible apply Adds.drewN | with_reducible apply Adds.alloc | with_reducible apply Adds.more | (with_reducible refine Adds.setCell ?_ ?_ _) | (focus (simp [go_sem]; done)) | (focus (simp [go_sem]; omega))))⟩
  · go_enter Try.func12, Try.ntmps12
    go_wp2_with (first | (go_at_call 21; refine (has14_any _ _ _).mono ?_; rintro e w' ⟨rfl, rfl⟩))
    exact bodyPost_ret (v := .agg #[.int .i64 cCh, .int .u8 cA, .int .u8 cB, .int .u8 cC, .int .u8 cD, .int .u8 cE, .int .u8 cH, .int .u8 cL, .bool cfS, .bool cfZ, .bool cfK, .bool cfAC, .bool cfP, .bool cfV, .bool cfCY, .int .u16 cSP, .int .u16 cPC, .bool cIE, .bool cDe, .bool cHa, .int .u8 (S.pickN true (a % 8) cMa), .bool cTr, .bool (S.pick true false cR7), .bool cWT, .bool cW7, .bool cSa, .bool cSI, .bool (S.pick true (S.hs a 128) cSO)]) (ret_CPU Try.results12 rfl (by simp [go_sem, S.pick, S.pickN]) rfl) rfl ⟨rfl, by (repeat (first | with_reducible exact Adds.refl _ | with_reducible apply Adds.drew | with_reducible apply Adds.drewN | with_reducible apply Adds.alloc | with_reducible apply Adds.more | (with_reducible refine Adds.setCell ?_ ?_ _) | (focus (simp [go_sem]; done)) | (focus (simp [go_sem]; omega))))⟩
set_option maxHeartbeats 1000000 in
theorem rsim_any (cCh cA cB cC cD cE cH cL : Int) (cfS cfZ cfK cfAC cfP cfV cfCY : Bool) (cSP cPC : Int) (cIE cDe cHa : Bool) (cMa : Int) (cTr cR7 cWT cW7 cSa cSI cSO : Bool) (a : Int) (a0 : 0 ≤ a) (a1 : a < 256) (w : World) : Calls Try.prog 13 #[.agg #[.int .i64 cCh, .int .u8 cA, .int .u8 cB, .int .u8 cC, .int .u8 cD, .int .u8 cE, .int .u8 cH, .int .u8 cL, .bool cfS, .bool cfZ, .bool cfK, .bool cfAC, .bool cfP, .bool cfV, .bool cfCY, .int .u16 cSP, .int .u16 cPC, .bool cIE, .bool cDe, .bool cHa, .int .u8 cMa, .bool cTr, .bool cR7, .bool cWT, .bool cW7, .bool cSa, .bool cSI, .bool cSO], .int .u8 a] w fun e w' => e = .returned (.agg #[.int .i64 cCh, .int .u8 cA, .int .u8 cB, .int .u8 cC, .int .u8 cD, .int .u8 cE, .int .u8 cH, .int .u8 cL, .bool cfS, .bool cfZ, .bool cfK, .bool cfAC, .bool cfP, .bool cfV, .bool cfCY, .int .u16 cSP, .int .u16 cPC, .bool cIE, .bool cDe, .bool cHa, .int .u8 (S.pickN (S.hs a 8) (a % 8) cMa), .bool cTr, .bool (S.pick (S.hs a 16) false cR7), .bool cWT, .bool cW7, .bool cSa, .bool cSI, .bool (S.pick (S.hs a 64) (S.hs a 128) cSO)]) ∧ Adds w w' := by
  have h7 := S.low3 a a0 a1
  have g1 : (bits .and .u8 a 64 != 0) = S.hs a 64 := rfl
  have g2 : (bits .and .u8 a 128 != 0) = S.hs a 128 := rfl
  have g3 : (bits .and .u8 a 16 != 0) = S.hs a 16 := rfl
  have g4 : (bits .and .u8 a 8 != 0) = S.hs a 8 := rfl
  cases h6 : S.hs a 64 <;> cases h4 : S.hs a 16 <;> cases h3 : S.hs a 8
  · go_enter Try.func13, Try.ntmps13
    go_wp2_with fail
    exact bodyPost_ret (v := .agg #[.int .i64 cCh, .int .u8 cA, .int .u8 cB, .int .u8 cC, .int .u8 cD, .int .u8 cE, .int .u8 cH, .int .u8 cL, .bool cfS, .bool cfZ, .bool cfK, .bool cfAC, .bool cfP, .bool cfV, .bool cfCY, .int .u16 cSP, .int .u16 cPC, .bool cIE, .bool cDe, .bool cHa, .int .u8 (S.pickN false (a % 8) cMa), .bool cTr, .bool (S.pick false false cR7), .bool cWT, .bool cW7, .bool cSa, .bool cSI, .bool (S.pick false (S.hs a 128) cSO)]) (ret_CPU Try.results13 rfl (by simp [go_sem, S.pick, S.pickN]) rfl) rfl ⟨rfl, by (repeat (first | with_reducible exact Adds.refl _ | with_reducible apply Adds.drew | with_reducible apply Adds.drewN | with_reducible apply Adds.alloc | with_reducible apply Adds.more | (with_reducible refine Adds.setCell ?_ ?_ _) | (focus (simp [go_sem]; done)) | (focus (simp [go_sem]; omega))))⟩
  · go_enter Try.func13, Try.ntmps13
    go_wp2_with fail
    exact bodyPost_ret (v := .agg #[.int .i64 cCh, .int .u8 cA, .int .u8 cB, .int .u8 cC, .int .u8 cD, .int .u8 cE, .int .u8 cH, .int .u8 cL, .bool cfS, .bool cfZ, .bool cfK, .bool cfAC, .bool cfP, .bool cfV, .bool cfCY, .int .u16 cSP, .int .u16 cPC, .bool cIE, .bool cDe, .bool cHa, .int .u8 (S.pickN true (a % 8) cMa), .bool cTr, .bool (S.pick false false cR7), .bool cWT, .bool cW7, .bool cSa, .bool cSI, .bool (S.pick false (S.hs a 128) cSO)]) (ret_CPU Try.results13 rfl (by simp [go_sem, S.pick, S.pickN]) rfl) rfl ⟨rfl, by (repeat (first | with_reducible exact Adds.refl _ | with_reducible apply Adds.drew | with_reducible apply Adds.drewN | with_reducible apply Adds.alloc | with_reducible apply Adds.more | (with_reducible refine Adds.setCell ?_ ?_ _) | (focus (simp [go_sem]; done)) | (focus (simp [go_sem]; omega))))⟩
  · go_enter Try.func13, Try.ntmps13
    go_wp2_with fail
    exact bodyPost_ret (v := .agg #[.int .i64 cCh, .int .u8 cA, .int .u8 cB, .int .u8 cC, .int .u8 cD, .int .u8 cE, .int .u8 cH, .int .u8 cL, .bool cfS, .bool cfZ, .bool cfK, .bool cfAC, .bool cfP, .bool cfV, .bool cfCY, .int .u16 cSP, .int .u16 cPC, .bool cIE, .bool cDe, .bool cHa, .int .u8 (S.pickN false (a % 8) cMa), .bool cTr, .bool (S.pick true false cR7), .bool cWT, .bool cW7, .bool cSa, .bool cSI, .bool (S.pick false (S.hs a 128) cSO)]) (ret_CPU Try.results13 rfl (by simp [go_sem, S.pick, S.pickN]) rfl) rfl ⟨rfl, by (repeat (first | with_reducible exact Adds.refl _ | with_reducible apply Adds.drew | with_reducible apply Adds.drewN | with_reducible apply Adds.alloc | with_reducible apply Adds.more | (with_reducible refine Adds.setCell ?_ ?_ _) | (focus (simp [go_sem]; done)) | (focus (simp [go_sem]; omega))))⟩
  · go_enter Try.func13, Try.ntmps13
    go_wp2_with fail
    exact bodyPost_ret (v := .agg #[.int .i64 cCh, .int .u8 cA, .int .u8 cB, .int .u8 cC, .int .u8 cD, .int .u8 cE, .int .u8 cH, .int .u8 cL, .bool cfS, .bool cfZ, .bool cfK, .bool cfAC, .bool cfP, .bool cfV, .bool cfCY, .int .u16 cSP, .int .u16 cPC, .bool cIE, .bool cDe, .bool cHa, .int .u8 (S.pickN true (a % 8) cMa), .bool cTr, .bool (S.pick true false cR7), .bool cWT, .bool cW7, .bool cSa, .bool cSI, .bool (S.pick false (S.hs a 128) cSO)]) (ret_CPU Try.results13 rfl (by simp [go_sem, S.pick, S.pickN]) rfl) rfl ⟨rfl, by (repeat (first | with_reducible exact Adds.refl _ | with_reducible apply Adds.drew | with_reducible apply Adds.drewN | with_reducible apply Adds.alloc | with_reducible apply Adds.more | (with_reducible refine Adds.setCell ?_ ?_ _) | (focus (simp [go_sem]; done)) | (focus (simp [go_sem]; omega))))⟩
  · go_enter Try.func13, Try.ntmps13
    go_wp2_with fail
    exact bodyPost_ret (v := .agg #[.int .i64 cCh, .int .u8 cA, .int .u8 cB, .int .u8 cC, .int .u8 cD, .int .u8 cE, .int .u8 cH, .int .u8 cL, .bool cfS, .bool cfZ, .bool cfK, .bool cfAC, .bool cfP, .bool cfV, .bool cfCY, .int .u16 cSP, .int .u16 cPC, .bool cIE, .bool cDe, .bool cHa, .int .u8 (S.pickN false (a % 8) cMa), .bool cTr, .bool (S.pick false false cR7), .bool cWT, .bool cW7, .bool cSa, .bool cSI, .bool (S.pick true (S.hs a 128) cSO)]) (ret_CPU Try.results13 rfl (by simp [go_sem, S.pick, S.pickN]) rfl) rfl ⟨rfl, by (repeat (first | with_reducible exact Adds.refl _ | with_reducible apply Adds.drew | with_reducible apply Adds.drewN | with_reducible apply Adds.alloc | with_reducible apply Adds.more | (with_reducible refine Adds.setCell ?_ ?_ _) | (focus (simp [go_sem]; done)) | (focus (simp [go_sem]; omega))))⟩
  · go_enter Try.func13, Try.ntmps13
    go_wp2_with fail
    exact bodyPost_ret (v := .agg #[.int .i64 cCh, .int .u8 cA, .int .u8 cB, .int .u8 cC, .int .u8 cD, .int .u8 cE, .int .u8 cH, .int .u8 cL, .bool cfS, .bool cfZ, .bool cfK, .bool cfAC, .bool cfP, .bool cfV, .bool cfCY, .int .u16 cSP, .int .u16 cPC, .bool cIE, .bool cDe, .bool cHa, .int .u8 (S.pickN true (a % 8) cMa), .bool cTr, .bool (S.pick false false cR7), .bool cWT, .bool cW7, .bool cSa, .bool cSI, .bool (S.pick true (S.hs a 128) cSO)]) (ret_CPU Try.results13 rfl (by simp [go_sem, S.pick, S.pickN]) rfl) rfl ⟨rfl, by (repeat (first | with_reducible exact Adds.refl _ | with_reducible apply Adds.drew | with_reducible apply Adds.drewN | with_reducible apply Adds.alloc | with_reducible apply Adds.more | (with_reducible refine Adds.setCell ?_ ?_ _) | (focus (simp [go_sem]; done)) | (focus (simp [go_sem]; omega))))⟩
  · go_enter Try.func13, Try.ntmps13
    go_wp2_with fail
    exact bodyPost_ret (v := .agg #[.int .i64 cCh, .int .u8 cA, .int .u8 cB, .int .u8 cC, .int .u8 cD, .int .u8 cE, .int .u8 cH, .int .u8 cL, .bool cfS, .bool cfZ, .bool cfK, .bool cfAC, .bool cfP, .bool cfV, .bool cfCY, .int .u16 cSP, .int .u16 cPC, .bool cIE, .bool cDe, .bool cHa, .int .u8 (S.pickN false (a % 8) cMa), .bool cTr, .bool (S.pick true false cR7), .bool cWT, .bool cW7, .bool cSa, .bool cSI, .bool (S.pick true (S.hs a 128) cSO)]) (ret_CPU Try.results13 rfl (by simp [go_sem, S.pick, S.pickN]) rfl) rfl ⟨rfl, by (repeat (first | with_reducible exact Adds.refl _ | with_reducible apply Adds.drew | with_reducible apply Adds.drewN | with_reducible apply Adds.alloc | with_reducible apply Adds.more | (with_reducible refine Adds.setCell ?_ ?_ _) | (focus (simp [go_sem]; done)) | (focus (simp [go_sem]; omega))))⟩
  · go_enter Try.func13, Try.ntmps13
    go_wp2_with fail
    exact bodyPost_ret (v := .agg #[.int .i64 cCh, .int .u8 cA, .int .u8 cB, .int .u8 cC, .int .u8 cD, .int .u8 cE, .int .u8 cH, .int .u8 cL, .bool cfS, .bool cfZ, .bool cfK, .bool cfAC, .bool cfP, .bool cfV, .bool cfCY, .int .u16 cSP, .int .u16 cPC, .bool cIE, .bool cDe, .bool cHa, .int .u8 (S.pickN true (a % 8) cMa), .bool cTr, .bool (S.pick true false cR7), .bool cWT, .bool cW7, .bool cSa, .bool cSI, .bool (S.pick true (S.hs a 128) cSO)]) (ret_CPU Try.results13 rfl (by simp [go_sem, S.pick, S.pickN]) rfl) rfl ⟨rfl, by (repeat (first | with_reducible exact Adds.refl _ | with_reducible apply Adds.drew | with_reducible apply Adds.drewN | with_reducible apply Adds.alloc | with_reducible apply Adds.more | (with_reducible refine Adds.setCell ?_ ?_ _) | (focus (simp [go_sem]; done)) | (focus (simp [go_sem]; omega))))⟩
/-- SIM of a byte without the bits 3, 4 and 6. -/
theorem sim_none (cCh cA cB cC cD cE cH cL : Int) (cfS cfZ cfK cfAC cfP cfV cfCY : Bool) (cSP cPC : Int) (cIE cDe cHa : Bool) (cMa : Int) (cTr cR7 cWT cW7 cSa cSI cSO : Bool) (a : Int) (a0 : 0 ≤ a) (a1 : a < 256) (h6 : S.hs a 64 = false) (h4 : S.hs a 16 = false) (h3 : S.hs a 8 = false) (w : World) : Calls Try.prog 12 #[.agg #[.int .i64 cCh, .int .u8 cA, .int .u8 cB, .int .u8 cC, .int .u8 cD, .int .u8 cE, .int .u8 cH, .int .u8 cL, .bool cfS, .bool cfZ, .bool cfK, .bool cfAC, .bool cfP, .bool cfV, .bool cfCY, .int .u16 cSP, .int .u16 cPC, .bool cIE, .bool cDe, .bool cHa, .int .u8 cMa, .bool cTr, .bool cR7, .bool cWT, .bool cW7, .bool cSa, .bool cSI, .bool cSO], .int .u8 a] w fun e w' => e = .returned (.agg #[.int .i64 cCh, .int .u8 cA, .int .u8 cB, .int .u8 cC, .int .u8 cD, .int .u8 cE, .int .u8 cH, .int .u8 cL, .bool cfS, .bool cfZ, .bool cfK, .bool cfAC, .bool cfP, .bool cfV, .bool cfCY, .int .u16 cSP, .int .u16 cPC, .bool cIE, .bool cDe, .bool cHa, .int .u8 cMa, .bool cTr, .bool cR7, .bool cWT, .bool cW7, .bool cSa, .bool cSI, .bool cSO]) ∧ Adds w w' := by
  have h := sim_any cCh cA cB cC cD cE cH cL cfS cfZ cfK cfAC cfP cfV cfCY cSP cPC cIE cDe cHa cMa cTr cR7 cWT cW7 cSa cSI cSO a a0 a1 w
  rw [h6, h4, h3] at h
  exact h
/-- SIM of a byte with the bit 3. -/
theorem sim_set (cCh cA cB cC cD cE cH cL : Int) (cfS cfZ cfK cfAC cfP cfV cfCY : Bool) (cSP cPC : Int) (cIE cDe cHa : Bool) (cMa : Int) (cTr cR7 cWT cW7 cSa cSI cSO : Bool) (a m : Int) (a0 : 0 ≤ a) (a1 : a < 256) (h3 : S.hs a 8 = true) (hm : a % 8 = m) (w : World) : Calls Try.prog 12 #[.agg #[.int .i64 cCh, .int .u8 cA, .int .u8 cB, .int .u8 cC, .int .u8 cD, .int .u8 cE, .int .u8 cH, .int .u8 cL, .bool cfS, .bool cfZ, .bool cfK, .bool cfAC, .bool cfP, .bool cfV, .bool cfCY, .int .u16 cSP, .int .u16 cPC, .bool cIE, .bool cDe, .bool cHa, .int .u8 cMa, .bool cTr, .bool cR7, .bool cWT, .bool cW7, .bool cSa, .bool cSI, .bool cSO], .int .u8 a] w fun e w' => ∃ so r7 : Bool, e = .returned (.agg #[.int .i64 cCh, .int .u8 cA, .int .u8 cB, .int .u8 cC, .int .u8 cD, .int .u8 cE, .int .u8 cH, .int .u8 cL, .bool cfS, .bool cfZ, .bool cfK, .bool cfAC, .bool cfP, .bool cfV, .bool cfCY, .int .u16 cSP, .int .u16 cPC, .bool cIE, .bool cDe, .bool cHa, .int .u8 (m), .bool cTr, .bool (r7), .bool cWT, .bool cW7, .bool cSa, .bool cSI, .bool (so)]) ∧ Adds w w' := by
  have h := sim_any cCh cA cB cC cD cE cH cL cfS cfZ cfK cfAC cfP cfV cfCY cSP cPC cIE cDe cHa cMa cTr cR7 cWT cW7 cSa cSI cSO a a0 a1 w
  rw [h3, hm] at h
  exact h.mono fun e w' h => ⟨_, _, h⟩
set_option maxHeartbeats 1000000 in
theorem racc_1 (cCh cA cB cC cD cE cH cL : Int) (cfS cfZ cfK cfAC cfP cfV cfCY : Bool) (cSP cPC : Int) (cIE cDe cHa : Bool) (cMa : Int) (cTr cR7 cWT cW7 cSa cSI cSO : Bool) (w : World) : Calls Try.prog 14 #[.agg #[.int .i64 cCh, .int .u8 cA, .int .u8 cB, .int .u8 cC, .int .u8 cD, .int .u8 cE, .int .u8 cH, .int .u8 cL, .bool cfS, .bool cfZ, .bool cfK, .bool cfAC, .bool cfP, .bool cfV, .bool cfCY, .int .u16 cSP, .int .u16 cPC, .bool cIE, .bool cDe, .bool cHa, .int .u8 cMa, .bool cTr, .bool cR7, .bool cWT, .bool cW7, .bool cSa, .bool cSI, .bool cSO], .int .i64 1] w fun e w' => e = .returned (.agg #[.int .i64 cCh, .int .u8 cA, .int .u8 cB, .int .u8 cC, .int .u8 cD, .int .u8 cE, .int .u8 cH, .int .u8 cL, .bool cfS, .bool cfZ, .bool cfK, .bool cfAC, .bool cfP, .bool cfV, .bool cfCY, .int .u16 cSP, .int .u16 cPC, .bool (false), .bool (false), .bool (false), .int .u8 cMa, .bool (false), .bool cR7, .bool cWT, .bool cW7, .bool (true), .bool (cIE), .bool cSO]) ∧ Adds w w' := by
  go_enter Try.func14, Try.ntmps14
  go_wp2_with fail
  exact bodyPost_ret (v := .agg #[.int .i64 cCh, .int .u8 cA, .int .u8 cB, .int .u8 cC, .int .u8 cD, .int .u8 cE, .int .u8 cH, .int .u8 cL, .bool cfS, .bool cfZ, .bool cfK, .bool cfAC, .bool cfP, .bool cfV, .bool cfCY, .int .u16 cSP, .int .u16 cPC, .bool (false), .bool (false), .bool (false), .int .u8 cMa, .bool (false), .bool cR7, .bool cWT, .bool cW7, .bool (true), .bool (cIE), .bool cSO]) (ret_CPU Try.results14 rfl (by simp [go_sem]) rfl) rfl ⟨rfl, by (repeat (first | with_reducible exact Adds.refl _ | with_reducible apply Adds.drew | with_reducible apply Adds.drewN | with_reducible apply Adds.alloc | with_reducible apply Adds.more | (with_reducible refine Adds.setCell ?_ ?_ _) | (focus (simp [go_sem]; done)) | (focus (simp [go_sem]; omega))))⟩
set_option maxHeartbeats 1000000 in
theorem known14_any (w : World) : Calls Try.prog 7 #[] w fun e w' => e = .returned (.bool true) ∧ Adds w w' := by
  have e1 : S.hs 219 64 = true ∧ S.hs 219 128 = true ∧ S.hs 219 16 = true ∧ S.hs 219 8 = true := by decide +kernel
  have e2 : S.rim true false false true false 5 = 149 := by decide +kernel
  obtain ⟨e3, e4, e5, e6⟩ := e1
  go_enter Try.func7, Try.ntmps7
  go_wp2_with (first | (go_at_call 12; refine (sim_any _ _ _ _ _ _ _ _ _ _ _ _ _ _ _ _ _ _ _ _ _ _ _ _ _ _ _ _ _ (by decide) (by decide) _).mono ?_; rintro e w' ⟨rfl, ⟨⟨n1, os1⟩, rfl⟩⟩; simp only [e3, e4, e5, e6, S.pick, S.pickN, if_true]) | (go_at_call 10; refine (rim_any _ _ _ _ _ _ _ _ _ _ _ _ _ _ _ _ _ _ _ _ _ _ _ _ _ _ _ _ _ _ _ _ _ _ _ _ _ (by decide) (by decide) _).mono ?_; rintro e w' ⟨rfl, ⟨⟨n1, os1⟩, rfl⟩⟩; simp only [S.pick, if_true, e2]))
  go_ret
  exact ⟨rfl, by (repeat (first | with_reducible exact Adds.refl _ | with_reducible apply Adds.drew | with_reducible apply Adds.drewN | with_reducible apply Adds.alloc | with_reducible apply Adds.more | (with_reducible refine Adds.setCell ?_ ?_ _) | (focus (simp [go_sem]; done)) | (focus (simp [go_sem]; omega))))⟩
end Go.Proofs.Ytnmpffhnflliaaa
