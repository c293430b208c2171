/- The fixed example of stage 15 is true. No condition. -/
import Derived.Test.YtaanpmmhhgnklaaC15p
import Derived.Deep.Cut
import Derived.Deep.CutRange
import Derived.Deep.LoopGhost
namespace Go.Proofs.Ytaanpmmhhgnklaa
open Go.ChangeShapes Go.WideShapes Go.ChangeAt Go.RowKit
set_option linter.unusedVariables false
set_option maxHeartbeats 2000000 in
theorem known15_any (w : World) : Calls Try.prog 9 #[] w fun e w' => e = .returned (.bool true) ∧ Adds w w' := by
  have l1 : S.latT 2 true false false = true ∧ S.lat7 2 true false false = true ∧ S.latW 2 true false = true ∧ S.latT 2 false true true = false ∧ S.lat7 2 false true true = true ∧ S.latW 2 false true = false := by decide
  obtain ⟨l1, l2, l3, l4, l5, l6⟩ := l1
  have p1 : S.pik 2 true false 0 true true false false false = 1 ∧ S.pik 2 true false 0 false true false false false = 2 ∧ S.vec 2 = 60 := by decide +kernel
  obtain ⟨p1, p2, p3⟩ := p1
  go_enter Try.func9, Try.ntmps9
  go_wp2_with (first
    | (go_at_call 13; (with_reducible refine (latch_any _ _ _ _ _ _ _ _ _ _ _ _ _ _ _ _ _ _ _ _ _ _ _ _ _ _ _ _ _ _ _ _ _ _ _ _ _ _).mono ?_); rintro e w' ⟨rfl, ⟨⟨n1, os1⟩, rfl⟩⟩; simp only [l1, l2, l3, l4, l5, l6])
    | (go_at_call 15; (with_reducible refine (pick_any _ _ _ _ _ _ _ _ _ _ _ _ _ _ _ _ _ _ _ _ _ _ _ _ _ _ _ _ _ _ _ _ _ _ _ _ _ _).mono ?_); rintro e w' ⟨rfl, ⟨⟨n2, os2⟩, rfl⟩⟩; simp only [p1, p2])
    | (go_at_call 20; (with_reducible refine (vec_any _ _).mono ?_); rintro e w' ⟨rfl, ⟨⟨n3, os3⟩, rfl⟩⟩; simp only [p3]))
  go_ret
  exact ⟨rfl, by (repeat (first | with_reducible exact Adds.refl _ | with_reducible apply Adds.drew | with_reducible apply Adds.drewN | with_reducible apply Adds.alloc | with_reducible apply Adds.more | (with_reducible refine Adds.setCell ?_ ?_ _) | (focus (simp [go_sem]; done)) | (focus (simp [go_sem]; omega))))⟩
/-- Latch on the 8085. -/
theorem latch_85 (cCh cA cB cC cD cE cH cL : Int) (cfS cfZ cfK cfAC cfP cfV cfCY : Bool) (cSP cPC : Int) (cIE cDe cHa : Bool) (cMa : Int) (cTr cR7 cWT cW7 cSa cSI cSO : Bool) (lRe lHo lRs lSi lTr lR7 lR6 lR5 lIn : Bool) (w : World) : Calls Try.prog 13 #[.agg #[.int .i64 (2), .int .u8 cA, .int .u8 cB, .int .u8 cC, .int .u8 cD, .int .u8 cE, .int .u8 cH, .int .u8 cL, .bool cfS, .bool cfZ, .bool cfK, .bool cfAC, .bool cfP, .bool cfV, .bool cfCY, .int .u16 cSP, .int .u16 cPC, .bool cIE, .bool cDe, .bool cHa, .int .u8 cMa, .bool cTr, .bool cR7, .bool cWT, .bool cW7, .bool cSa, .bool cSI, .bool cSO], .agg #[.bool lRe, .bool lHo, .bool lRs, .bool lSi, .bool lTr, .bool lR7, .bool lR6, .bool lR5, .bool lIn]] w fun e w' => e = .returned (.agg #[.int .i64 (2), .int .u8 cA, .int .u8 cB, .int .u8 cC, .int .u8 cD, .int .u8 cE, .int .u8 cH, .int .u8 cL, .bool cfS, .bool cfZ, .bool cfK, .bool cfAC, .bool cfP, .bool cfV, .bool cfCY, .int .u16 cSP, .int .u16 cPC, .bool cIE, .bool cDe, .bool cHa, .int .u8 cMa, .bool (lTr && (cTr || !cWT)), .bool (cR7 || lR7 && !cW7), .bool (lTr), .bool (lR7), .bool cSa, .bool cSI, .bool cSO]) ∧ Adds w w' :=
  latch_any 2 cA cB cC cD cE cH cL cfS cfZ cfK cfAC cfP cfV cfCY cSP cPC cIE cDe cHa cMa cTr cR7 cWT cW7 cSa cSI cSO lRe lHo lRs lSi lTr lR7 lR6 lR5 lIn w
/-- Accept of no source. -/
theorem accept_0 (cCh cA cB cC cD cE cH cL : Int) (cfS cfZ cfK cfAC cfP cfV cfCY : Bool) (cSP cPC : Int) (cIE cDe cHa : Bool) (cMa : Int) (cTr cR7 cWT cW7 cSa cSI cSO : Bool) (w : World) : Calls Try.prog 18 #[.agg #[.int .i64 cCh, .int .u8 cA, .int .u8 cB, .int .u8 cC, .int .u8 cD, .int .u8 cE, .int .u8 cH, .int .u8 cL, .bool cfS, .bool cfZ, .bool cfK, .bool cfAC, .bool cfP, .bool cfV, .bool cfCY, .int .u16 cSP, .int .u16 cPC, .bool cIE, .bool cDe, .bool cHa, .int .u8 cMa, .bool cTr, .bool cR7, .bool cWT, .bool cW7, .bool cSa, .bool cSI, .bool cSO], .int .i64 0] w fun e w' => e = .returned (.agg #[.int .i64 cCh, .int .u8 cA, .int .u8 cB, .int .u8 cC, .int .u8 cD, .int .u8 cE, .int .u8 cH, .int .u8 cL, .bool cfS, .bool cfZ, .bool cfK, .bool cfAC, .bool cfP, .bool cfV, .bool cfCY, .int .u16 cSP, .int .u16 cPC, .bool cIE, .bool cDe, .bool cHa, .int .u8 cMa, .bool cTr, .bool cR7, .bool cWT, .bool cW7, .bool cSa, .bool cSI, .bool cSO]) ∧ Adds w w' := accept_any cCh cA cB cC cD cE cH cL cfS cfZ cfK cfAC cfP cfV cfCY cSP cPC cIE cDe cHa cMa cTr cR7 cWT cW7 cSa cSI cSO 0 w
theorem pick_off (cCh cA cB cC cD cE cH cL : Int) (cfS cfZ cfK cfAC cfP cfV cfCY : Bool) (cSP cPC : Int) (cIE cDe cHa : Bool) (cMa : Int) (cTr cR7 cWT cW7 cSa cSI cSO : Bool) (lRe lHo lRs lSi lTr lR7 lR6 lR5 lIn : Bool) (w : World) : Calls Try.prog 15 #[.agg #[.int .i64 cCh, .int .u8 cA, .int .u8 cB, .int .u8 cC, .int .u8 cD, .int .u8 cE, .int .u8 cH, .int .u8 cL, .bool cfS, .bool cfZ, .bool cfK, .bool cfAC, .bool cfP, .bool cfV, .bool cfCY, .int .u16 cSP, .int .u16 cPC, .bool (false), .bool (false), .bool cHa, .int .u8 cMa, .bool cTr, .bool cR7, .bool cWT, .bool cW7, .bool cSa, .bool cSI, .bool cSO], .agg #[.bool lRe, .bool lHo, .bool lRs, .bool lSi, .bool lTr, .bool lR7, .bool lR6, .bool lR5, .bool lIn]] w fun e w' => ∃ x : Int, (x = 0 ∨ (x = 1 ∧ cTr = true)) ∧ e = .returned (.int .i64 x) ∧ Adds w w' :=
  (pick_any cCh cA cB cC cD cE cH cL cfS cfZ cfK cfAC cfP cfV cfCY cSP cPC false false cHa cMa cTr cR7 cWT cW7 cSa cSI cSO lRe lHo lRs lSi lTr lR7 lR6 lR5 lIn w).mono fun e w' ⟨h1, h2⟩ => ⟨_, S.pik_off cCh cMa cTr cR7 lR6 lR5 lIn, h1, h2⟩
end Go.Proofs.Ytaanpmmhhgnklaa
