/- Contracts of package irq and of the reference's chapter 15: each returns the plain functions' values and leaves what was there alone. No condition. -/
import Derived.Test.YtaanpmmhhgnklaaC1
import Derived.Test.YtaanpmmhhgnklaaS15
import Derived.Test.YtaanpmmhhgnklaaMW
import Derived.Lib.Hide
import Derived.RegionTactic
import Derived.Deep.RegionWith
namespace Go.Proofs.Ytaanpmmhhgnklaa
open Go.ChangeShapes Go.WideShapes Go.ChangeAt Go.RowKit
set_option linter.unusedVariables false
theorem is85_any (cCh cA cB cC cD cE cH cL : Int) (cfS cfZ cfK cfAC cfP cfV cfCY : Bool) (cSP cPC : Int) (cIE cDe cHa : Bool) (cMa : Int) (cTr cR7 cWT cW7 cSa cSI cSO : Bool) (w : World) : Calls Try.prog 28 #[.agg #[.int .i64 cCh, .int .u8 cA, .int .u8 cB, .int .u8 cC, .int .u8 cD, .int .u8 cE, .int .u8 cH, .int .u8 cL, .bool cfS, .bool cfZ, .bool cfK, .bool cfAC, .bool cfP, .bool cfV, .bool cfCY, .int .u16 cSP, .int .u16 cPC, .bool cIE, .bool cDe, .bool cHa, .int .u8 cMa, .bool cTr, .bool cR7, .bool cWT, .bool cW7, .bool cSa, .bool cSI, .bool cSO]] w fun e w' => e = .returned (.bool (decide (cCh = 2))) ∧ Adds w w' := by
  go_enter Try.func28, Try.ntmps28
  go_wp2
  go_ret
  exact ⟨rfl, by (repeat (first | with_reducible exact Adds.refl _ | with_reducible apply Adds.drew | with_reducible apply Adds.drewN | with_reducible apply Adds.alloc | with_reducible apply Adds.more | (with_reducible refine Adds.setCell ?_ ?_ _) | (focus (simp [go_sem]; done)) | (focus (simp [go_sem]; omega))))⟩
theorem on85_any (c : Int) (w : World) : Calls Try.prog 29 #[.int .i64 c] w fun e w' => e = .returned (.bool (decide (c = 2))) ∧ w = w' := by
  go_enter Try.func29, Try.ntmps29
  go_wp2
  go_ret
  exact ⟨rfl, rfl⟩
set_option maxHeartbeats 2000000 in
theorem latch_any (cCh cA cB cC cD cE cH cL : Int) (cfS cfZ cfK cfAC cfP cfV cfCY : Bool) (cSP cPC : Int) (cIE cDe cHa : Bool) (cMa : Int) (cTr cR7 cWT cW7 cSa cSI cSO : Bool) (lRe lHo lRs lSi lTr lR7 lR6 lR5 lIn : Bool) (w : World) : Calls Try.prog 13 #[.agg #[.int .i64 cCh, .int .u8 cA, .int .u8 cB, .int .u8 cC, .int .u8 cD, .int .u8 cE, .int .u8 cH, .int .u8 cL, .bool cfS, .bool cfZ, .bool cfK, .bool cfAC, .bool cfP, .bool cfV, .bool cfCY, .int .u16 cSP, .int .u16 cPC, .bool cIE, .bool cDe, .bool cHa, .int .u8 cMa, .bool cTr, .bool cR7, .bool cWT, .bool cW7, .bool cSa, .bool cSI, .bool cSO], .agg #[.bool lRe, .bool lHo, .bool lRs, .bool lSi, .bool lTr, .bool lR7, .bool lR6, .bool lR5, .bool lIn]] w fun e w' => e = .returned (.agg #[.int .i64 cCh, .int .u8 cA, .int .u8 cB, .int .u8 cC, .int .u8 cD, .int .u8 cE, .int .u8 cH, .int .u8 cL, .bool cfS, .bool cfZ, .bool cfK, .bool cfAC, .bool cfP, .bool cfV, .bool cfCY, .int .u16 cSP, .int .u16 cPC, .bool cIE, .bool cDe, .bool cHa, .int .u8 cMa, .bool (S.latT cCh lTr cTr cWT), .bool (S.lat7 cCh lR7 cR7 cW7), .bool (S.latW cCh lTr cWT), .bool (S.latW cCh lR7 cW7), .bool cSa, .bool cSI, .bool cSO]) ∧ Adds w w' := by
  by_cases hc : cCh = 2
  · subst hc
    go_enter Try.func13, Try.ntmps13
    go_wp2_with (first | (go_at_call 28; refine (is85_any _ _ _ _ _ _ _ _ _ _ _ _ _ _ _ _ _ _ _ _ _ _ _ _ _ _ _ _ _).mono ?_; rintro e w' ⟨rfl, ⟨⟨n1, os1⟩, rfl⟩⟩))
    all_goals go_region
    all_goals go_wp2_with fail
    all_goals exact bodyPost_ret (v := .agg #[.int .i64 (2), .int .u8 cA, .int .u8 cB, .int .u8 cC, .int .u8 cD, .int .u8 cE, .int .u8 cH, .int .u8 cL, .bool cfS, .bool cfZ, .bool cfK, .bool cfAC, .bool cfP, .bool cfV, .bool cfCY, .int .u16 cSP, .int .u16 cPC, .bool cIE, .bool cDe, .bool cHa, .int .u8 cMa, .bool (S.latT 2 lTr cTr cWT), .bool (S.lat7 2 lR7 cR7 cW7), .bool (S.latW 2 lTr cWT), .bool (S.latW 2 lR7 cW7), .bool cSa, .bool cSI, .bool cSO]) (ret_CPU Try.results13 rfl (by simp [go_sem, S.latT, S.lat7, S.latW, *]) rfl) rfl ⟨rfl, by (repeat (first | with_reducible exact Adds.refl _ | with_reducible apply Adds.drew | with_reducible apply Adds.drewN | with_reducible apply Adds.alloc | with_reducible apply Adds.more | (with_reducible refine Adds.setCell ?_ ?_ _) | (focus (simp [go_sem]; done)) | (focus (simp [go_sem]; omega))))⟩
  · go_enter Try.func13, Try.ntmps13
    go_wp2_with (first | (go_at_call 28; refine (is85_any _ _ _ _ _ _ _ _ _ _ _ _ _ _ _ _ _ _ _ _ _ _ _ _ _ _ _ _ _).mono ?_; rintro e w' ⟨rfl, ⟨⟨n1, os1⟩, rfl⟩⟩))
    all_goals exact bodyPost_ret (v := .agg #[.int .i64 cCh, .int .u8 cA, .int .u8 cB, .int .u8 cC, .int .u8 cD, .int .u8 cE, .int .u8 cH, .int .u8 cL, .bool cfS, .bool cfZ, .bool cfK, .bool cfAC, .bool cfP, .bool cfV, .bool cfCY, .int .u16 cSP, .int .u16 cPC, .bool cIE, .bool cDe, .bool cHa, .int .u8 cMa, .bool (S.latT cCh lTr cTr cWT), .bool (S.lat7 cCh lR7 cR7 cW7), .bool (S.latW cCh lTr cWT), .bool (S.latW cCh lR7 cW7), .bool cSa, .bool cSI, .bool cSO]) (ret_CPU Try.results13 rfl (by simp [go_sem, S.latT, S.lat7, S.latW, hc]) rfl) rfl ⟨rfl, by (repeat (first | with_reducible exact Adds.refl _ | with_reducible apply Adds.drew | with_reducible apply Adds.drewN | with_reducible apply Adds.alloc | with_reducible apply Adds.more | (with_reducible refine Adds.setCell ?_ ?_ _) | (focus (simp [go_sem]; done)) | (focus (simp [go_sem]; omega))))⟩
set_option maxHeartbeats 2000000 in
theorem rlatch_any (cCh cA cB cC cD cE cH cL : Int) (cfS cfZ cfK cfAC cfP cfV cfCY : Bool) (cSP cPC : Int) (cIE cDe cHa : Bool) (cMa : Int) (cTr cR7 cWT cW7 cSa cSI cSO : Bool) (lRe lHo lRs lSi lTr lR7 lR6 lR5 lIn : Bool) (w : World) : Calls Try.prog 14 #[.agg #[.int .i64 cCh, .int .u8 cA, .int .u8 cB, .int .u8 cC, .int .u8 cD, .int .u8 cE, .int .u8 cH, .int .u8 cL, .bool cfS, .bool cfZ, .bool cfK, .bool cfAC, .bool cfP, .bool cfV, .bool cfCY, .int .u16 cSP, .int .u16 cPC, .bool cIE, .bool cDe, .bool cHa, .int .u8 cMa, .bool cTr, .bool cR7, .bool cWT, .bool cW7, .bool cSa, .bool cSI, .bool cSO], .agg #[.bool lRe, .bool lHo, .bool lRs, .bool lSi, .bool lTr, .bool lR7, .bool lR6, .bool lR5, .bool lIn]] w fun e w' => e = .returned (.agg #[.int .i64 cCh, .int .u8 cA, .int .u8 cB, .int .u8 cC, .int .u8 cD, .int .u8 cE, .int .u8 cH, .int .u8 cL, .bool cfS, .bool cfZ, .bool cfK, .bool cfAC, .bool cfP, .bool cfV, .bool cfCY, .int .u16 cSP, .int .u16 cPC, .bool cIE, .bool cDe, .bool cHa, .int .u8 cMa, .bool (S.latT cCh lTr cTr cWT), .bool (S.lat7 cCh lR7 cR7 cW7), .bool (S.latW cCh lTr cWT), .bool (S.latW cCh lR7 cW7), .bool cSa, .bool cSI, .bool cSO]) ∧ Adds w w' := by
  by_cases hc : cCh = 2
  · subst hc
    go_enter Try.func14, Try.ntmps14
    go_wp2_with (first | (go_at_call 29; refine (on85_any _ _).mono ?_; rintro e w' ⟨rfl, rfl⟩))
    all_goals go_region
    all_goals go_wp2_with fail
    all_goals exact bodyPost_ret (v := .agg #[.int .i64 (2), .int .u8 cA, .int .u8 cB, .int .u8 cC, .int .u8 cD, .int .u8 cE, .int .u8 cH, .int .u8 cL, .bool cfS, .bool cfZ, .bool cfK, .bool cfAC, .bool cfP, .bool cfV, .bool cfCY, .int .u16 cSP, .int .u16 cPC, .bool cIE, .bool cDe, .bool cHa, .int .u8 cMa, .bool (S.latT 2 lTr cTr cWT), .bool (S.lat7 2 lR7 cR7 cW7), .bool (S.latW 2 lTr cWT), .bool (S.latW 2 lR7 cW7), .bool cSa, .bool cSI, .bool cSO]) (ret_CPU Try.results14 rfl (by simp [go_sem, S.latT, S.lat7, S.latW, *]) rfl) rfl ⟨rfl, by (repeat (first | with_reducible exact Adds.refl _ | with_reducible apply Adds.drew | with_reducible apply Adds.drewN | with_reducible apply Adds.alloc | with_reducible apply Adds.more | (with_reducible refine Adds.setCell ?_ ?_ _) | (focus (simp [go_sem]; done)) | (focus (simp [go_sem]; omega))))⟩
  · go_enter Try.func14, Try.ntmps14
    go_wp2_with (first | (go_at_call 29; refine (on85_any _ _).mono ?_; rintro e w' ⟨rfl, rfl⟩))
    all_goals exact bodyPost_ret (v := .agg #[.int .i64 cCh, .int .u8 cA, .int .u8 cB, .int .u8 cC, .int .u8 cD, .int .u8 cE, .int .u8 cH, .int .u8 cL, .bool cfS, .bool cfZ, .bool cfK, .bool cfAC, .bool cfP, .bool cfV, .bool cfCY, .int .u16 cSP, .int .u16 cPC, .bool cIE, .bool cDe, .bool cHa, .int .u8 cMa, .bool (S.latT cCh lTr cTr cWT), .bool (S.lat7 cCh lR7 cR7 cW7), .bool (S.latW cCh lTr cWT), .bool (S.latW cCh lR7 cW7), .bool cSa, .bool cSI, .bool cSO]) (ret_CPU Try.results14 rfl (by simp [go_sem, S.latT, S.lat7, S.latW, hc]) rfl) rfl ⟨rfl, by (repeat (first | with_reducible exact Adds.refl _ | with_reducible apply Adds.drew | with_reducible apply Adds.drewN | with_reducible apply Adds.alloc | with_reducible apply Adds.more | (with_reducible refine Adds.setCell ?_ ?_ _) | (focus (simp [go_sem]; done)) | (focus (simp [go_sem]; omega))))⟩
set_option maxHeartbeats 2000000 in
theorem accept_any (cCh cA cB cC cD cE cH cL : Int) (cfS cfZ cfK cfAC cfP cfV cfCY : Bool) (cSP cPC : Int) (cIE cDe cHa : Bool) (cMa : Int) (cTr cR7 cWT cW7 cSa cSI cSO : Bool) (k : Int) (w : World) : Calls Try.prog 18 #[.agg #[.int .i64 cCh, .int .u8 cA, .int .u8 cB, .int .u8 cC, .int .u8 cD, .int .u8 cE, .int .u8 cH, .int .u8 cL, .bool cfS, .bool cfZ, .bool cfK, .bool cfAC, .bool cfP, .bool cfV, .bool cfCY, .int .u16 cSP, .int .u16 cPC, .bool cIE, .bool cDe, .bool cHa, .int .u8 cMa, .bool cTr, .bool cR7, .bool cWT, .bool cW7, .bool cSa, .bool cSI, .bool cSO], .int .i64 k] w fun e w' => e = .returned (.agg #[.int .i64 cCh, .int .u8 cA, .int .u8 cB, .int .u8 cC, .int .u8 cD, .int .u8 cE, .int .u8 cH, .int .u8 cL, .bool cfS, .bool cfZ, .bool cfK, .bool cfAC, .bool cfP, .bool cfV, .bool cfCY, .int .u16 cSP, .int .u16 cPC, .bool (S.off k cIE), .bool (S.off k cDe), .bool (S.off k cHa), .int .u8 cMa, .bool (S.sw k 1 false cTr), .bool (S.sw k 2 false cR7), .bool cWT, .bool cW7, .bool (S.sw k 1 true cSa), .bool (S.sw k 1 cIE cSI), .bool cSO]) ∧ Adds w w' := by
  by_cases h1 : k = 1
  · subst h1
    go_enter Try.func18, Try.ntmps18
    go_wp2_with fail
    exact bodyPost_ret (v := .agg #[.int .i64 cCh, .int .u8 cA, .int .u8 cB, .int .u8 cC, .int .u8 cD, .int .u8 cE, .int .u8 cH, .int .u8 cL, .bool cfS, .bool cfZ, .bool cfK, .bool cfAC, .bool cfP, .bool cfV, .bool cfCY, .int .u16 cSP, .int .u16 cPC, .bool (S.off 1 cIE), .bool (S.off 1 cDe), .bool (S.off 1 cHa), .int .u8 cMa, .bool (S.sw 1 1 false cTr), .bool (S.sw 1 2 false cR7), .bool cWT, .bool cW7, .bool (S.sw 1 1 true cSa), .bool (S.sw 1 1 cIE cSI), .bool cSO]) (ret_CPU Try.results18 rfl (by simp [go_sem, S.off, S.sw]) rfl) rfl ⟨rfl, by (repeat (first | with_reducible exact Adds.refl _ | with_reducible apply Adds.drew | with_reducible apply Adds.drewN | with_reducible apply Adds.alloc | with_reducible apply Adds.more | (with_reducible refine Adds.setCell ?_ ?_ _) | (focus (simp [go_sem]; done)) | (focus (simp [go_sem]; omega))))⟩
  by_cases h2 : k = 2
  · subst h2
    go_enter Try.func18, Try.ntmps18
    go_wp2_with fail
    exact bodyPost_ret (v := .agg #[.int .i64 cCh, .int .u8 cA, .int .u8 cB, .int .u8 cC, .int .u8 cD, .int .u8 cE, .int .u8 cH, .int .u8 cL, .bool cfS, .bool cfZ, .bool cfK, .bool cfAC, .bool cfP, .bool cfV, .bool cfCY, .int .u16 cSP, .int .u16 cPC, .bool (S.off 2 cIE), .bool (S.off 2 cDe), .bool (S.off 2 cHa), .int .u8 cMa, .bool (S.sw 2 1 false cTr), .bool (S.sw 2 2 false cR7), .bool cWT, .bool cW7, .bool (S.sw 2 1 true cSa), .bool (S.sw 2 1 cIE cSI), .bool cSO]) (ret_CPU Try.results18 rfl (by simp [go_sem, S.off, S.sw]) rfl) rfl ⟨rfl, by (repeat (first | with_reducible exact Adds.refl _ | with_reducible apply Adds.drew | with_reducible apply Adds.drewN | with_reducible apply Adds.alloc | with_reducible apply Adds.more | (with_reducible refine Adds.setCell ?_ ?_ _) | (focus (simp [go_sem]; done)) | (focus (simp [go_sem]; omega))))⟩
  by_cases h3 : k = 3
  · subst h3
    go_enter Try.func18, Try.ntmps18
    go_wp2_with fail
    exact bodyPost_ret (v := .agg #[.int .i64 cCh, .int .u8 cA, .int .u8 cB, .int .u8 cC, .int .u8 cD, .int .u8 cE, .int .u8 cH, .int .u8 cL, .bool cfS, .bool cfZ, .bool cfK, .bool cfAC, .bool cfP, .bool cfV, .bool cfCY, .int .u16 cSP, .int .u16 cPC, .bool (S.off 3 cIE), .bool (S.off 3 cDe), .bool (S.off 3 cHa), .int .u8 cMa, .bool (S.sw 3 1 false cTr), .bool (S.sw 3 2 false cR7), .bool cWT, .bool cW7, .bool (S.sw 3 1 true cSa), .bool (S.sw 3 1 cIE cSI), .bool cSO]) (ret_CPU Try.results18 rfl (by simp [go_sem, S.off, S.sw]) rfl) rfl ⟨rfl, by (repeat (first | with_reducible exact Adds.refl _ | with_reducible apply Adds.drew | with_reducible apply Adds.drewN | with_reducible apply Adds.alloc | with_reducible apply Adds.more | (with_reducible refine Adds.setCell ?_ ?_ _) | (focus (simp [go_sem]; done)) | (focus (simp [go_sem]; omega))))⟩
  by_cases h4 : k = 4
  · subst h4
    go_enter Try.func18, Try.ntmps18
    go_wp2_with fail
    exact bodyPost_ret (v := .agg #[.int .i64 cCh, .int .u8 cA, .int .u8 cB, .int .u8 cC, .int .u8 cD, .int .u8 cE, .int .u8 cH, .int .u8 cL, .bool cfS, .bool cfZ, .bool cfK, .bool cfAC, .bool cfP, .bool cfV, .bool cfCY, .int .u16 cSP, .int .u16 cPC, .bool (S.off 4 cIE), .bool (S.off 4 cDe), .bool (S.off 4 cHa), .int .u8 cMa, .bool (S.sw 4 1 false cTr), .bool (S.sw 4 2 false cR7), .bool cWT, .bool cW7, .bool (S.sw 4 1 true cSa), .bool (S.sw 4 1 cIE cSI), .bool cSO]) (ret_CPU Try.results18 rfl (by simp [go_sem, S.off, S.sw]) rfl) rfl ⟨rfl, by (repeat (first | with_reducible exact Adds.refl _ | with_reducible apply Adds.drew | with_reducible apply Adds.drewN | with_reducible apply Adds.alloc | with_reducible apply Adds.more | (with_reducible refine Adds.setCell ?_ ?_ _) | (focus (simp [go_sem]; done)) | (focus (simp [go_sem]; omega))))⟩
  by_cases h5 : k = 5
  · subst h5
    go_enter Try.func18, Try.ntmps18
    go_wp2_with fail
    exact bodyPost_ret (v := .agg #[.int .i64 cCh, .int .u8 cA, .int .u8 cB, .int .u8 cC, .int .u8 cD, .int .u8 cE, .int .u8 cH, .int .u8 cL, .bool cfS, .bool cfZ, .bool cfK, .bool cfAC, .bool cfP, .bool cfV, .bool cfCY, .int .u16 cSP, .int .u16 cPC, .bool (S.off 5 cIE), .bool (S.off 5 cDe), .bool (S.off 5 cHa), .int .u8 cMa, .bool (S.sw 5 1 false cTr), .bool (S.sw 5 2 false cR7), .bool cWT, .bool cW7, .bool (S.sw 5 1 true cSa), .bool (S.sw 5 1 cIE cSI), .bool cSO]) (ret_CPU Try.results18 rfl (by simp [go_sem, S.off, S.sw]) rfl) rfl ⟨rfl, by (repeat (first | with_reducible exact Adds.refl _ | with_reducible apply Adds.drew | with_reducible apply Adds.drewN | with_reducible apply Adds.alloc | with_reducible apply Adds.more | (with_reducible refine Adds.setCell ?_ ?_ _) | (focus (simp [go_sem]; done)) | (focus (simp [go_sem]; omega))))⟩
  have hk : ¬(1 ≤ k ∧ k ≤ 5) := by omega
  have ho : ∀ b, S.off k b = b := fun b => by simp [S.off, hk]
  have hs1 : ∀ x y, S.sw k 1 x y = y := fun x y => by simp [S.sw, h1]
  have hs2 : ∀ x y, S.sw k 2 x y = y := fun x y => by simp [S.sw, h2]
  simp only [ho, hs1, hs2]
  clear ho hs1 hs2
  rcases (by omega : k < 1 ∨ (¬k < 1 ∧ 5 < k)) with hl | ⟨hl, hg⟩
  all_goals
    go_enter Try.func18, Try.ntmps18
    go_wp2_with fail
    all_goals exact bodyPost_ret (v := .agg #[.int .i64 cCh, .int .u8 cA, .int .u8 cB, .int .u8 cC, .int .u8 cD, .int .u8 cE, .int .u8 cH, .int .u8 cL, .bool cfS, .bool cfZ, .bool cfK, .bool cfAC, .bool cfP, .bool cfV, .bool cfCY, .int .u16 cSP, .int .u16 cPC, .bool cIE, .bool cDe, .bool cHa, .int .u8 cMa, .bool cTr, .bool cR7, .bool cWT, .bool cW7, .bool cSa, .bool cSI, .bool cSO]) (ret_CPU Try.results18 rfl (by simp [go_sem]) rfl) rfl ⟨rfl, by (repeat (first | with_reducible exact Adds.refl _ | with_reducible apply Adds.drew | with_reducible apply Adds.drewN | with_reducible apply Adds.alloc | with_reducible apply Adds.more | (with_reducible refine Adds.setCell ?_ ?_ _) | (focus (simp [go_sem]; done)) | (focus (simp [go_sem]; omega))))⟩
set_option maxHeartbeats 2000000 in
theorem raccept_any (cCh cA cB cC cD cE cH cL : Int) (cfS cfZ cfK cfAC cfP cfV cfCY : Bool) (cSP cPC : Int) (cIE cDe cHa : Bool) (cMa : Int) (cTr cR7 cWT cW7 cSa cSI cSO : Bool) (k : Int) (w : World) : Calls Try.prog 19 #[.agg #[.int .i64 cCh, .int .u8 cA, .int .u8 cB, .int .u8 cC, .int .u8 cD, .int .u8 cE, .int .u8 cH, .int .u8 cL, .bool cfS, .bool cfZ, .bool cfK, .bool cfAC, .bool cfP, .bool cfV, .bool cfCY, .int .u16 cSP, .int .u16 cPC, .bool cIE, .bool cDe, .bool cHa, .int .u8 cMa, .bool cTr, .bool cR7, .bool cWT, .bool cW7, .bool cSa, .bool cSI, .bool cSO], .int .i64 k] w fun e w' => e = .returned (.agg #[.int .i64 cCh, .int .u8 cA, .int .u8 cB, .int .u8 cC, .int .u8 cD, .int .u8 cE, .int .u8 cH, .int .u8 cL, .bool cfS, .bool cfZ, .bool cfK, .bool cfAC, .bool cfP, .bool cfV, .bool cfCY, .int .u16 cSP, .int .u16 cPC, .bool (S.off k cIE), .bool (S.off k cDe), .bool (S.off k cHa), .int .u8 cMa, .bool (S.sw k 1 false cTr), .bool (S.sw k 2 false cR7), .bool cWT, .bool cW7, .bool (S.sw k 1 true cSa), .bool (S.sw k 1 cIE cSI), .bool cSO]) ∧ Adds w w' := by
  by_cases h1 : k = 1
  · subst h1
    go_enter Try.func19, Try.ntmps19
    go_wp2_with fail
    exact bodyPost_ret (v := .agg #[.int .i64 cCh, .int .u8 cA, .int .u8 cB, .int .u8 cC, .int .u8 cD, .int .u8 cE, .int .u8 cH, .int .u8 cL, .bool cfS, .bool cfZ, .bool cfK, .bool cfAC, .bool cfP, .bool cfV, .bool cfCY, .int .u16 cSP, .int .u16 cPC, .bool (S.off 1 cIE), .bool (S.off 1 cDe), .bool (S.off 1 cHa), .int .u8 cMa, .bool (S.sw 1 1 false cTr), .bool (S.sw 1 2 false cR7), .bool cWT, .bool cW7, .bool (S.sw 1 1 true cSa), .bool (S.sw 1 1 cIE cSI), .bool cSO]) (ret_CPU Try.results19 rfl (by simp [go_sem, S.off, S.sw]) rfl) rfl ⟨rfl, by (repeat (first | with_reducible exact Adds.refl _ | with_reducible apply Adds.drew | with_reducible apply Adds.drewN | with_reducible apply Adds.alloc | with_reducible apply Adds.more | (with_reducible refine Adds.setCell ?_ ?_ _) | (focus (simp [go_sem]; done)) | (focus (simp [go_sem]; omega))))⟩
  by_cases h2 : k = 2
  · subst h2
    go_enter Try.func19, Try.ntmps19
    go_wp2_with fail
    exact bodyPost_ret (v := .agg #[.int .i64 cCh, .int .u8 cA, .int .u8 cB, .int .u8 cC, .int .u8 cD, .int .u8 cE, .int .u8 cH, .int .u8 cL, .bool cfS, .bool cfZ, .bool cfK, .bool cfAC, .bool cfP, .bool cfV, .bool cfCY, .int .u16 cSP, .int .u16 cPC, .bool (S.off 2 cIE), .bool (S.off 2 cDe), .bool (S.off 2 cHa), .int .u8 cMa, .bool (S.sw 2 1 false cTr), .bool (S.sw 2 2 false cR7), .bool cWT, .bool cW7, .bool (S.sw 2 1 true cSa), .bool (S.sw 2 1 cIE cSI), .bool cSO]) (ret_CPU Try.results19 rfl (by simp [go_sem, S.off, S.sw]) rfl) rfl ⟨rfl, by (repeat (first | with_reducible exact Adds.refl _ | with_reducible apply Adds.drew | with_reducible apply Adds.drewN | with_reducible apply Adds.alloc | with_reducible apply Adds.more | (with_reducible refine Adds.setCell ?_ ?_ _) | (focus (simp [go_sem]; done)) | (focus (simp [go_sem]; omega))))⟩
  by_cases h3 : k = 3
  · subst h3
    go_enter Try.func19, Try.ntmps19
    go_wp2_with fail
    exact bodyPost_ret (v := .agg #[.int .i64 cCh, .int .u8 cA, .int .u8 cB, .int .u8 cC, .int .u8 cD, .int .u8 cE, .int .u8 cH, .int .u8 cL, .bool cfS, .bool cfZ, .bool cfK, .bool cfAC, .bool cfP, .bool cfV, .bool cfCY, .int .u16 cSP, .int .u16 cPC, .bool (S.off 3 cIE), .bool (S.off 3 cDe), .bool (S.off 3 cHa), .int .u8 cMa, .bool (S.sw 3 1 false cTr), .bool (S.sw 3 2 false cR7), .bool cWT, .bool cW7, .bool (S.sw 3 1 true cSa), .bool (S.sw 3 1 cIE cSI), .bool cSO]) (ret_CPU Try.results19 rfl (by simp [go_sem, S.off, S.sw]) rfl) rfl ⟨rfl, by (repeat (first | with_reducible exact Adds.refl _ | with_reducible apply Adds.drew | with_reducible apply Adds.drewN | with_reducible apply Adds.alloc | with_reducible apply Adds.more | (with_reducible refine Adds.setCell ?_ ?_ _) | (focus (simp [go_sem]; done)) | (focus (simp [go_sem]; omega))))⟩
  by_cases h4 : k = 4
  · subst h4
    go_enter Try.func19, Try.ntmps19
    go_wp2_with fail
    exact bodyPost_ret (v := .agg #[.int .i64 cCh, .int .u8 cA, .int .u8 cB, .int .u8 cC, .int .u8 cD, .int .u8 cE, .int .u8 cH, .int .u8 cL, .bool cfS, .bool cfZ, .bool cfK, .bool cfAC, .bool cfP, .bool cfV, .bool cfCY, .int .u16 cSP, .int .u16 cPC, .bool (S.off 4 cIE), .bool (S.off 4 cDe), .bool (S.off 4 cHa), .int .u8 cMa, .bool (S.sw 4 1 false cTr), .bool (S.sw 4 2 false cR7), .bool cWT, .bool cW7, .bool (S.sw 4 1 true cSa), .bool (S.sw 4 1 cIE cSI), .bool cSO]) (ret_CPU Try.results19 rfl (by simp [go_sem, S.off, S.sw]) rfl) rfl ⟨rfl, by (repeat (first | with_reducible exact Adds.refl _ | with_reducible apply Adds.drew | with_reducible apply Adds.drewN | with_reducible apply Adds.alloc | with_reducible apply Adds.more | (with_reducible refine Adds.setCell ?_ ?_ _) | (focus (simp [go_sem]; done)) | (focus (simp [go_sem]; omega))))⟩
  by_cases h5 : k = 5
  · subst h5
    go_enter Try.func19, Try.ntmps19
    go_wp2_with fail
    exact bodyPost_ret (v := .agg #[.int .i64 cCh, .int .u8 cA, .int .u8 cB, .int .u8 cC, .int .u8 cD, .int .u8 cE, .int .u8 cH, .int .u8 cL, .bool cfS, .bool cfZ, .bool cfK, .bool cfAC, .bool cfP, .bool cfV, .bool cfCY, .int .u16 cSP, .int .u16 cPC, .bool (S.off 5 cIE), .bool (S.off 5 cDe), .bool (S.off 5 cHa), .int .u8 cMa, .bool (S.sw 5 1 false cTr), .bool (S.sw 5 2 false cR7), .bool cWT, .bool cW7, .bool (S.sw 5 1 true cSa), .bool (S.sw 5 1 cIE cSI), .bool cSO]) (ret_CPU Try.results19 rfl (by simp [go_sem, S.off, S.sw]) rfl) rfl ⟨rfl, by (repeat (first | with_reducible exact Adds.refl _ | with_reducible apply Adds.drew | with_reducible apply Adds.drewN | with_reducible apply Adds.alloc | with_reducible apply Adds.more | (with_reducible refine Adds.setCell ?_ ?_ _) | (focus (simp [go_sem]; done)) | (focus (simp [go_sem]; omega))))⟩
  have hk : ¬(1 ≤ k ∧ k ≤ 5) := by omega
  have ho : ∀ b, S.off k b = b := fun b => by simp [S.off, hk]
  have hs1 : ∀ x y, S.sw k 1 x y = y := fun x y => by simp [S.sw, h1]
  have hs2 : ∀ x y, S.sw k 2 x y = y := fun x y => by simp [S.sw, h2]
  simp only [ho, hs1, hs2]
  clear ho hs1 hs2
  rcases (by omega : k < 1 ∨ (¬k < 1 ∧ 5 < k)) with hl | ⟨hl, hg⟩
  all_goals
    go_enter Try.func19, Try.ntmps19
    go_wp2_with fail
    all_goals exact bodyPost_ret (v := .agg #[.int .i64 cCh, .int .u8 cA, .int .u8 cB, .int .u8 cC, .int .u8 cD, .int .u8 cE, .int .u8 cH, .int .u8 cL, .bool cfS, .bool cfZ, .bool cfK, .bool cfAC, .bool cfP, .bool cfV, .bool cfCY, .int .u16 cSP, .int .u16 cPC, .bool cIE, .bool cDe, .bool cHa, .int .u8 cMa, .bool cTr, .bool cR7, .bool cWT, .bool cW7, .bool cSa, .bool cSI, .bool cSO]) (ret_CPU Try.results19 rfl (by simp [go_sem]) rfl) rfl ⟨rfl, by (repeat (first | with_reducible exact Adds.refl _ | with_reducible apply Adds.drew | with_reducible apply Adds.drewN | with_reducible apply Adds.alloc | with_reducible apply Adds.more | (with_reducible refine Adds.setCell ?_ ?_ _) | (focus (simp [go_sem]; done)) | (focus (simp [go_sem]; omega))))⟩
theorem vec_any (k : Int) (w : World) : Calls Try.prog 20 #[.int .i64 k] w fun e w' => e = .returned (.int .u16 (S.vec k)) ∧ Adds w w' := by
  by_cases h1 : k = 1
  · subst h1
    go_enter Try.func20, Try.ntmps20
    go_wp2_with fail
    go_ret
    exact ⟨rfl, by (repeat (first | with_reducible exact Adds.refl _ | with_reducible apply Adds.drew | with_reducible apply Adds.drewN | with_reducible apply Adds.alloc | with_reducible apply Adds.more | (with_reducible refine Adds.setCell ?_ ?_ _) | (focus (simp [go_sem]; done)) | (focus (simp [go_sem]; omega))))⟩
  by_cases h2 : k = 2
  · subst h2
    go_enter Try.func20, Try.ntmps20
    go_wp2_with fail
    go_ret
    exact ⟨rfl, by (repeat (first | with_reducible exact Adds.refl _ | with_reducible apply Adds.drew | with_reducible apply Adds.drewN | with_reducible apply Adds.alloc | with_reducible apply Adds.more | (with_reducible refine Adds.setCell ?_ ?_ _) | (focus (simp [go_sem]; done)) | (focus (simp [go_sem]; omega))))⟩
  by_cases h3 : k = 3
  · subst h3
    go_enter Try.func20, Try.ntmps20
    go_wp2_with fail
    go_ret
    exact ⟨rfl, by (repeat (first | with_reducible exact Adds.refl _ | with_reducible apply Adds.drew | with_reducible apply Adds.drewN | with_reducible apply Adds.alloc | with_reducible apply Adds.more | (with_reducible refine Adds.setCell ?_ ?_ _) | (focus (simp [go_sem]; done)) | (focus (simp [go_sem]; omega))))⟩
  by_cases h4 : k = 4
  · subst h4
    go_enter Try.func20, Try.ntmps20
    go_wp2_with fail
    go_ret
    exact ⟨rfl, by (repeat (first | with_reducible exact Adds.refl _ | with_reducible apply Adds.drew | with_reducible apply Adds.drewN | with_reducible apply Adds.alloc | with_reducible apply Adds.more | (with_reducible refine Adds.setCell ?_ ?_ _) | (focus (simp [go_sem]; done)) | (focus (simp [go_sem]; omega))))⟩
  go_enter Try.func20, Try.ntmps20
  go_wp2_with fail
  go_ret
  exact ⟨ri (by simp [S.vec, *]), by (repeat (first | with_reducible exact Adds.refl _ | with_reducible apply Adds.drew | with_reducible apply Adds.drewN | with_reducible apply Adds.alloc | with_reducible apply Adds.more | (with_reducible refine Adds.setCell ?_ ?_ _) | (focus (simp [go_sem]; done)) | (focus (simp [go_sem]; omega))))⟩
theorem rvec_any (k : Int) (w : World) : Calls Try.prog 21 #[.int .i64 k] w fun e w' => e = .returned (.int .u16 (S.vec k)) ∧ Adds w w' := by
  by_cases h1 : k = 1
  · subst h1
    go_enter Try.func21, Try.ntmps21
    go_wp2_with fail
    go_ret
    exact ⟨rfl, by (repeat (first | with_reducible exact Adds.refl _ | with_reducible apply Adds.drew | with_reducible apply Adds.drewN | with_reducible apply Adds.alloc | with_reducible apply Adds.more | (with_reducible refine Adds.setCell ?_ ?_ _) | (focus (simp [go_sem]; done)) | (focus (simp [go_sem]; omega))))⟩
  by_cases h2 : k = 2
  · subst h2
    go_enter Try.func21, Try.ntmps21
    go_wp2_with fail
    go_ret
    exact ⟨rfl, by (repeat (first | with_reducible exact Adds.refl _ | with_reducible apply Adds.drew | with_reducible apply Adds.drewN | with_reducible apply Adds.alloc | with_reducible apply Adds.more | (with_reducible refine Adds.setCell ?_ ?_ _) | (focus (simp [go_sem]; done)) | (focus (simp [go_sem]; omega))))⟩
  by_cases h3 : k = 3
  · subst h3
    go_enter Try.func21, Try.ntmps21
    go_wp2_with fail
    go_ret
    exact ⟨rfl, by (repeat (first | with_reducible exact Adds.refl _ | with_reducible apply Adds.drew | with_reducible apply Adds.drewN | with_reducible apply Adds.alloc | with_reducible apply Adds.more | (with_reducible refine Adds.setCell ?_ ?_ _) | (focus (simp [go_sem]; done)) | (focus (simp [go_sem]; omega))))⟩
  by_cases h4 : k = 4
  · subst h4
    go_enter Try.func21, Try.ntmps21
    go_wp2_with fail
    go_ret
    exact ⟨rfl, by (repeat (first | with_reducible exact Adds.refl _ | with_reducible apply Adds.drew | with_reducible apply Adds.drewN | with_reducible apply Adds.alloc | with_reducible apply Adds.more | (with_reducible refine Adds.setCell ?_ ?_ _) | (focus (simp [go_sem]; done)) | (focus (simp [go_sem]; omega))))⟩
  go_enter Try.func21, Try.ntmps21
  go_wp2_with fail
  go_ret
  exact ⟨ri (by simp [S.vec, *]), by (repeat (first | with_reducible exact Adds.refl _ | with_reducible apply Adds.drew | with_reducible apply Adds.drewN | with_reducible apply Adds.alloc | with_reducible apply Adds.more | (with_reducible refine Adds.setCell ?_ ?_ _) | (focus (simp [go_sem]; done)) | (focus (simp [go_sem]; omega))))⟩
set_option maxHeartbeats 2000000 in
theorem reset_any (cCh cA cB cC cD cE cH cL : Int) (cfS cfZ cfK cfAC cfP cfV cfCY : Bool) (cSP cPC : Int) (cIE cDe cHa : Bool) (cMa : Int) (cTr cR7 cWT cW7 cSa cSI cSO : Bool) (w : World) : Calls Try.prog 22 #[.agg #[.int .i64 cCh, .int .u8 cA, .int .u8 cB, .int .u8 cC, .int .u8 cD, .int .u8 cE, .int .u8 cH, .int .u8 cL, .bool cfS, .bool cfZ, .bool cfK, .bool cfAC, .bool cfP, .bool cfV, .bool cfCY, .int .u16 cSP, .int .u16 cPC, .bool cIE, .bool cDe, .bool cHa, .int .u8 cMa, .bool cTr, .bool cR7, .bool cWT, .bool cW7, .bool cSa, .bool cSI, .bool cSO]] w fun e w' => e = .returned (.agg #[.int .i64 (cCh), .int .u8 cA, .int .u8 cB, .int .u8 cC, .int .u8 cD, .int .u8 cE, .int .u8 cH, .int .u8 cL, .bool cfS, .bool cfZ, .bool cfK, .bool cfAC, .bool cfP, .bool cfV, .bool cfCY, .int .u16 cSP, .int .u16 (0), .bool (false), .bool (false), .bool (false), .int .u8 (S.rsm cCh), .bool (false), .bool (false), .bool (false), .bool (false), .bool (false), .bool (false), .bool (false)]) ∧ Adds w w' := by
  by_cases hc : cCh = 2
  · subst hc
    go_enter Try.func22, Try.ntmps22
    go_wp2_with (first | (go_at_call 28; refine (is85_any _ _ _ _ _ _ _ _ _ _ _ _ _ _ _ _ _ _ _ _ _ _ _ _ _ _ _ _ _).mono ?_; rintro e w' ⟨rfl, ⟨⟨n1, os1⟩, rfl⟩⟩))
    exact bodyPost_ret (v := .agg #[.int .i64 (2), .int .u8 cA, .int .u8 cB, .int .u8 cC, .int .u8 cD, .int .u8 cE, .int .u8 cH, .int .u8 cL, .bool cfS, .bool cfZ, .bool cfK, .bool cfAC, .bool cfP, .bool cfV, .bool cfCY, .int .u16 cSP, .int .u16 (0), .bool (false), .bool (false), .bool (false), .int .u8 (S.rsm 2), .bool (false), .bool (false), .bool (false), .bool (false), .bool (false), .bool (false), .bool (false)]) (ret_CPU Try.results22 rfl (by simp [go_sem, S.rsm]) rfl) rfl ⟨rfl, by (repeat (first | with_reducible exact Adds.refl _ | with_reducible apply Adds.drew | with_reducible apply Adds.drewN | with_reducible apply Adds.alloc | with_reducible apply Adds.more | (with_reducible refine Adds.setCell ?_ ?_ _) | (focus (simp [go_sem]; done)) | (focus (simp [go_sem]; omega))))⟩
  · go_enter Try.func22, Try.ntmps22
    go_wp2_with (first | (go_at_call 28; refine (is85_any _ _ _ _ _ _ _ _ _ _ _ _ _ _ _ _ _ _ _ _ _ _ _ _ _ _ _ _ _).mono ?_; rintro e w' ⟨rfl, ⟨⟨n1, os1⟩, rfl⟩⟩))
    exact bodyPost_ret (v := .agg #[.int .i64 (cCh), .int .u8 cA, .int .u8 cB, .int .u8 cC, .int .u8 cD, .int .u8 cE, .int .u8 cH, .int .u8 cL, .bool cfS, .bool cfZ, .bool cfK, .bool cfAC, .bool cfP, .bool cfV, .bool cfCY, .int .u16 cSP, .int .u16 (0), .bool (false), .bool (false), .bool (false), .int .u8 (S.rsm cCh), .bool (false), .bool (false), .bool (false), .bool (false), .bool (false), .bool (false), .bool (false)]) (ret_CPU Try.results22 rfl (by simp [go_sem, S.rsm, hc]) rfl) rfl ⟨rfl, by (repeat (first | with_reducible exact Adds.refl _ | with_reducible apply Adds.drew | with_reducible apply Adds.drewN | with_reducible apply Adds.alloc | with_reducible apply Adds.more | (with_reducible refine Adds.setCell ?_ ?_ _) | (focus (simp [go_sem]; done)) | (focus (simp [go_sem]; omega))))⟩
set_option maxHeartbeats 2000000 in
theorem rreset_any (cCh cA cB cC cD cE cH cL : Int) (cfS cfZ cfK cfAC cfP cfV cfCY : Bool) (cSP cPC : Int) (cIE cDe cHa : Bool) (cMa : Int) (cTr cR7 cWT cW7 cSa cSI cSO : Bool) (w : World) : Calls Try.prog 23 #[.agg #[.int .i64 cCh, .int .u8 cA, .int .u8 cB, .int .u8 cC, .int .u8 cD, .int .u8 cE, .int .u8 cH, .int .u8 cL, .bool cfS, .bool cfZ, .bool cfK, .bool cfAC, .bool cfP, .bool cfV, .bool cfCY, .int .u16 cSP, .int .u16 cPC, .bool cIE, .bool cDe, .bool cHa, .int .u8 cMa, .bool cTr, .bool cR7, .bool cWT, .bool cW7, .bool cSa, .bool cSI, .bool cSO]] w fun e w' => e = .returned (.agg #[.int .i64 (cCh), .int .u8 cA, .int .u8 cB, .int .u8 cC, .int .u8 cD, .int .u8 cE, .int .u8 cH, .int .u8 cL, .bool cfS, .bool cfZ, .bool cfK, .bool cfAC, .bool cfP, .bool cfV, .bool cfCY, .int .u16 cSP, .int .u16 (0), .bool (false), .bool (false), .bool (false), .int .u8 (S.rsm cCh), .bool (false), .bool (false), .bool (false), .bool (false), .bool (false), .bool (false), .bool (false)]) ∧ Adds w w' := by
  by_cases hc : cCh = 2
  · subst hc
    go_enter Try.func23, Try.ntmps23
    go_wp2_with (first | (go_at_call 29; refine (on85_any _ _).mono ?_; rintro e w' ⟨rfl, rfl⟩))
    exact bodyPost_ret (v := .agg #[.int .i64 (2), .int .u8 cA, .int .u8 cB, .int .u8 cC, .int .u8 cD, .int .u8 cE, .int .u8 cH, .int .u8 cL, .bool cfS, .bool cfZ, .bool cfK, .bool cfAC, .bool cfP, .bool cfV, .bool cfCY, .int .u16 cSP, .int .u16 (0), .bool (false), .bool (false), .bool (false), .int .u8 (S.rsm 2), .bool (false), .bool (false), .bool (false), .bool (false), .bool (false), .bool (false), .bool (false)]) (ret_CPU Try.results23 rfl (by simp [go_sem, S.rsm]) rfl) rfl ⟨rfl, by (repeat (first | with_reducible exact Adds.refl _ | with_reducible apply Adds.drew | with_reducible apply Adds.drewN | with_reducible apply Adds.alloc | with_reducible apply Adds.more | (with_reducible refine Adds.setCell ?_ ?_ _) | (focus (simp [go_sem]; done)) | (focus (simp [go_sem]; omega))))⟩
  · go_enter Try.func23, Try.ntmps23
    go_wp2_with (first | (go_at_call 29; refine (on85_any _ _).mono ?_; rintro e w' ⟨rfl, rfl⟩))
    exact bodyPost_ret (v := .agg #[.int .i64 (cCh), .int .u8 cA, .int .u8 cB, .int .u8 cC, .int .u8 cD, .int .u8 cE, .int .u8 cH, .int .u8 cL, .bool cfS, .bool cfZ, .bool cfK, .bool cfAC, .bool cfP, .bool cfV, .bool cfCY, .int .u16 cSP, .int .u16 (0), .bool (false), .bool (false), .bool (false), .int .u8 (S.rsm cCh), .bool (false), .bool (false), .bool (false), .bool (false), .bool (false), .bool (false), .bool (false)]) (ret_CPU Try.results23 rfl (by simp [go_sem, S.rsm, hc]) rfl) rfl ⟨rfl, by (repeat (first | with_reducible exact Adds.refl _ | with_reducible apply Adds.drew | with_reducible apply Adds.drewN | with_reducible apply Adds.alloc | with_reducible apply Adds.more | (with_reducible refine Adds.setCell ?_ ?_ _) | (focus (simp [go_sem]; done)) | (focus (simp [go_sem]; omega))))⟩
end Go.Proofs.Ytaanpmmhhgnklaa
