/- Contracts of Pick of package irq and of the reference: the plain function's value, and what was there is left alone. No condition. -/
import Derived.Test.YtaanpmmhhgnklaaC15
namespace Go.Proofs.Ytaanpmmhhgnklaa
open Go.ChangeShapes Go.WideShapes Go.ChangeAt Go.RowKit
set_option linter.unusedVariables false
theorem pk1_85 (m : Int) (cCh cA cB cC cD cE cH cL : Int) (cfS cfZ cfK cfAC cfP cfV cfCY : Bool) (cSP cPC : Int) (cIE cDe cHa : Bool) (cMa : Int) (cTr cR7 cWT cW7 cSa cSI cSO : Bool) (lRe lHo lRs lSi lTr lR7 lR6 lR5 lIn : Bool) (w : World) (n : Nat) (os : Array Obj) : Calls Try.prog 30 #[.int .u8 m, .pointer (some ⟨w.heap.size, 0, none⟩)] (More ((w.alloc (.cells #[.int .i64 (2), .int .u8 cA, .int .u8 cB, .int .u8 cC, .int .u8 cD, .int .u8 cE, .int .u8 cH, .int .u8 cL, .bool cfS, .bool cfZ, .bool cfK, .bool cfAC, .bool cfP, .bool cfV, .bool cfCY, .int .u16 cSP, .int .u16 cPC, .bool cIE, .bool cDe, .bool cHa, .int .u8 cMa, .bool cTr, .bool cR7, .bool cWT, .bool cW7, .bool cSa, .bool cSI, .bool cSO] 28)).alloc (.cells #[.bool lRe, .bool lHo, .bool lRs, .bool lSi, .bool lTr, .bool lR7, .bool lR6, .bool lR5, .bool lIn] 30)) n os) fun e w' => e = .returned (.bool (S.fr cMa m)) ∧ Adds (More ((w.alloc (.cells #[.int .i64 (2), .int .u8 cA, .int .u8 cB, .int .u8 cC, .int .u8 cD, .int .u8 cE, .int .u8 cH, .int .u8 cL, .bool cfS, .bool cfZ, .bool cfK, .bool cfAC, .bool cfP, .bool cfV, .bool cfCY, .int .u16 cSP, .int .u16 cPC, .bool cIE, .bool cDe, .bool cHa, .int .u8 cMa, .bool cTr, .bool cR7, .bool cWT, .bool cW7, .bool cSa, .bool cSI, .bool cSO] 28)).alloc (.cells #[.bool lRe, .bool lHo, .bool lRs, .bool lSi, .bool lTr, .bool lR7, .bool lR6, .bool lR5, .bool lIn] 30)) n os) w' := by
  go_enter Try.func30, Try.ntmps30
  go_wp2_with (first | (go_at_call 28; refine (is85_any _ _ _ _ _ _ _ _ _ _ _ _ _ _ _ _ _ _ _ _ _ _ _ _ _ _ _ _ _).mono ?_; rintro e w' ⟨rfl, ⟨⟨n1, os1⟩, rfl⟩⟩))
  go_ret
  exact ⟨rfl, by (repeat (first | with_reducible exact Adds.refl _ | with_reducible apply Adds.drew | with_reducible apply Adds.drewN | with_reducible apply Adds.alloc | with_reducible apply Adds.more | (with_reducible refine Adds.setCell ?_ ?_ _) | (focus (simp [go_sem]; done)) | (focus (simp [go_sem]; omega))))⟩
theorem pk1_80 (m : Int) (cCh cA cB cC cD cE cH cL : Int) (cfS cfZ cfK cfAC cfP cfV cfCY : Bool) (cSP cPC : Int) (cIE cDe cHa : Bool) (cMa : Int) (cTr cR7 cWT cW7 cSa cSI cSO : Bool) (hc : ¬cCh = 2) (lRe lHo lRs lSi lTr lR7 lR6 lR5 lIn : Bool) (w : World) (n : Nat) (os : Array Obj) : Calls Try.prog 30 #[.int .u8 m, .pointer (some ⟨w.heap.size, 0, none⟩)] (More ((w.alloc (.cells #[.int .i64 cCh, .int .u8 cA, .int .u8 cB, .int .u8 cC, .int .u8 cD, .int .u8 cE, .int .u8 cH, .int .u8 cL, .bool cfS, .bool cfZ, .bool cfK, .bool cfAC, .bool cfP, .bool cfV, .bool cfCY, .int .u16 cSP, .int .u16 cPC, .bool cIE, .bool cDe, .bool cHa, .int .u8 cMa, .bool cTr, .bool cR7, .bool cWT, .bool cW7, .bool cSa, .bool cSI, .bool cSO] 28)).alloc (.cells #[.bool lRe, .bool lHo, .bool lRs, .bool lSi, .bool lTr, .bool lR7, .bool lR6, .bool lR5, .bool lIn] 30)) n os) fun e w' => e = .returned (.bool false) ∧ Adds (More ((w.alloc (.cells #[.int .i64 cCh, .int .u8 cA, .int .u8 cB, .int .u8 cC, .int .u8 cD, .int .u8 cE, .int .u8 cH, .int .u8 cL, .bool cfS, .bool cfZ, .bool cfK, .bool cfAC, .bool cfP, .bool cfV, .bool cfCY, .int .u16 cSP, .int .u16 cPC, .bool cIE, .bool cDe, .bool cHa, .int .u8 cMa, .bool cTr, .bool cR7, .bool cWT, .bool cW7, .bool cSa, .bool cSI, .bool cSO] 28)).alloc (.cells #[.bool lRe, .bool lHo, .bool lRs, .bool lSi, .bool lTr, .bool lR7, .bool lR6, .bool lR5, .bool lIn] 30)) n os) w' := by
  go_enter Try.func30, Try.ntmps30
  go_wp2_with (first | (go_at_call 28; refine (is85_any _ _ _ _ _ _ _ _ _ _ _ _ _ _ _ _ _ _ _ _ _ _ _ _ _ _ _ _ _).mono ?_; rintro e w' ⟨rfl, ⟨⟨n1, os1⟩, rfl⟩⟩))
  go_ret
  exact ⟨rfl, by (repeat (first | with_reducible exact Adds.refl _ | with_reducible apply Adds.drew | with_reducible apply Adds.drewN | with_reducible apply Adds.alloc | with_reducible apply Adds.more | (with_reducible refine Adds.setCell ?_ ?_ _) | (focus (simp [go_sem]; done)) | (focus (simp [go_sem]; omega))))⟩
set_option maxHeartbeats 4000000 in
theorem pick_any (cCh cA cB cC cD cE cH cL : Int) (cfS cfZ cfK cfAC cfP cfV cfCY : Bool) (cSP cPC : Int) (cIE cDe cHa : Bool) (cMa : Int) (cTr cR7 cWT cW7 cSa cSI cSO : Bool) (lRe lHo lRs lSi lTr lR7 lR6 lR5 lIn : Bool) (w : World) : Calls Try.prog 15 #[.agg #[.int .i64 cCh, .int .u8 cA, .int .u8 cB, .int .u8 cC, .int .u8 cD, .int .u8 cE, .int .u8 cH, .int .u8 cL, .bool cfS, .bool cfZ, .bool cfK, .bool cfAC, .bool cfP, .bool cfV, .bool cfCY, .int .u16 cSP, .int .u16 cPC, .bool cIE, .bool cDe, .bool cHa, .int .u8 cMa, .bool cTr, .bool cR7, .bool cWT, .bool cW7, .bool cSa, .bool cSI, .bool cSO], .agg #[.bool lRe, .bool lHo, .bool lRs, .bool lSi, .bool lTr, .bool lR7, .bool lR6, .bool lR5, .bool lIn]] w fun e w' => e = .returned (.int .i64 (S.pik cCh cIE cDe cMa cTr cR7 lR6 lR5 lIn)) ∧ Adds w w' := by
  have hmf : ∀ (fn : Fn) (first cap : Array Value) (w : World), (Instr.makeFunc fn first cap).run Try.prog w = .ok (.func fn first cap) w := fun _ _ _ _ => rfl
  have g4 : (bits .and .u8 cMa 4 == 0) = S.fr cMa 4 := rfl
  have g2 : (bits .and .u8 cMa 2 == 0) = S.fr cMa 2 := rfl
  have g1 : (bits .and .u8 cMa 1 == 0) = S.fr cMa 1 := rfl
  by_cases hc : cCh = 2
  · subst hc
    go_enter Try.func15, Try.ntmps15
    go_wp2_with (first | (go_at_call 28; refine (is85_any _ _ _ _ _ _ _ _ _ _ _ _ _ _ _ _ _ _ _ _ _ _ _ _ _ _ _ _ _).mono ?_; rintro e w' ⟨rfl, ⟨⟨n1, os1⟩, rfl⟩⟩) | (go_at_call 30; (try simp only [More_more]); (with_reducible refine (pk1_85 _ 0 _ _ _ _ _ _ _ _ _ _ _ _ _ _ _ _ _ _ _ _ _ _ _ _ _ _ _ _ _ _ _ _ _ _ _ _ _ _ _).mono ?_); rintro e w' ⟨rfl, ⟨⟨n2, os2⟩, rfl⟩⟩))
    all_goals go_ret
    all_goals exact ⟨ri (by simp [S.pik, *]), by (repeat (first | with_reducible exact Adds.refl _ | with_reducible apply Adds.drew | with_reducible apply Adds.drewN | with_reducible apply Adds.alloc | with_reducible apply Adds.more | (with_reducible refine Adds.setCell ?_ ?_ _) | (focus (simp [go_sem]; done)) | (focus (simp [go_sem]; omega))))⟩
  · go_enter Try.func15, Try.ntmps15
    go_wp2_with (first | (go_at_call 28; refine (is85_any _ _ _ _ _ _ _ _ _ _ _ _ _ _ _ _ _ _ _ _ _ _ _ _ _ _ _ _ _).mono ?_; rintro e w' ⟨rfl, ⟨⟨n1, os1⟩, rfl⟩⟩) | (go_at_call 30; (try simp only [More_more]); (with_reducible refine (pk1_80 _ _ _ _ _ _ _ _ _ _ _ _ _ _ _ _ _ _ _ _ _ _ _ _ _ _ _ _ _ hc _ _ _ _ _ _ _ _ _ _ _ _).mono ?_); rintro e w' ⟨rfl, ⟨⟨n2, os2⟩, rfl⟩⟩))
    all_goals go_ret
    all_goals exact ⟨ri (by simp [S.pik, *]), by (repeat (first | with_reducible exact Adds.refl _ | with_reducible apply Adds.drew | with_reducible apply Adds.drewN | with_reducible apply Adds.alloc | with_reducible apply Adds.more | (with_reducible refine Adds.setCell ?_ ?_ _) | (focus (simp [go_sem]; done)) | (focus (simp [go_sem]; omega))))⟩
set_option maxHeartbeats 4000000 in
theorem rpick_any (cCh cA cB cC cD cE cH cL : Int) (cfS cfZ cfK cfAC cfP cfV cfCY : Bool) (cSP cPC : Int) (cIE cDe cHa : Bool) (cMa : Int) (cTr cR7 cWT cW7 cSa cSI cSO : Bool) (lRe lHo lRs lSi lTr lR7 lR6 lR5 lIn : Bool) (w : World) : Calls Try.prog 16 #[.agg #[.int .i64 cCh, .int .u8 cA, .int .u8 cB, .int .u8 cC, .int .u8 cD, .int .u8 cE, .int .u8 cH, .int .u8 cL, .bool cfS, .bool cfZ, .bool cfK, .bool cfAC, .bool cfP, .bool cfV, .bool cfCY, .int .u16 cSP, .int .u16 cPC, .bool cIE, .bool cDe, .bool cHa, .int .u8 cMa, .bool cTr, .bool cR7, .bool cWT, .bool cW7, .bool cSa, .bool cSI, .bool cSO], .agg #[.bool lRe, .bool lHo, .bool lRs, .bool lSi, .bool lTr, .bool lR7, .bool lR6, .bool lR5, .bool lIn]] w fun e w' => e = .returned (.int .i64 (S.pik cCh cIE cDe cMa cTr cR7 lR6 lR5 lIn)) ∧ Adds w w' := by
  have hmf : ∀ (fn : Fn) (first cap : Array Value) (w : World), (Instr.makeFunc fn first cap).run Try.prog w = .ok (.func fn first cap) w := fun _ _ _ _ => rfl
  have g4 : (bits .and .u8 cMa 4 == 0) = S.fr cMa 4 := rfl
  have g2 : (bits .and .u8 cMa 2 == 0) = S.fr cMa 2 := rfl
  have g1 : (bits .and .u8 cMa 1 == 0) = S.fr cMa 1 := rfl
  by_cases hc : cCh = 2
  · subst hc
    go_enter Try.func16, Try.ntmps16
    go_wp2_with (first | (go_at_call 29; refine (on85_any _ _).mono ?_; rintro e w' ⟨rfl, rfl⟩))
    all_goals go_ret
    all_goals exact ⟨ri (by simp [S.pik, *]), by (repeat (first | with_reducible exact Adds.refl _ | with_reducible apply Adds.drew | with_reducible apply Adds.drewN | with_reducible apply Adds.alloc | with_reducible apply Adds.more | (with_reducible refine Adds.setCell ?_ ?_ _) | (focus (simp [go_sem]; done)) | (focus (simp [go_sem]; omega))))⟩
  · go_enter Try.func16, Try.ntmps16
    go_wp2_with (first | (go_at_call 29; refine (on85_any _ _).mono ?_; rintro e w' ⟨rfl, rfl⟩))
    all_goals go_ret
    all_goals exact ⟨ri (by simp [S.pik, *]), by (repeat (first | with_reducible exact Adds.refl _ | with_reducible apply Adds.drew | with_reducible apply Adds.drewN | with_reducible apply Adds.alloc | with_reducible apply Adds.more | (with_reducible refine Adds.setCell ?_ ?_ _) | (focus (simp [go_sem]; done)) | (focus (simp [go_sem]; omega))))⟩
end Go.Proofs.Ytaanpmmhhgnklaa
