/- Texts that the proofs of the statements on dumps rest on, joined. Conditions stand in each theorem. -/
import Derived.Test.YteggjjhjmhccjaaGreatDoorQ33
set_option linter.unusedVariables false
set_option linter.unusedSimpArgs false
set_option maxRecDepth 100000
set_option maxHeartbeats 8000000
namespace Go.Proofs.YteggjjhjmhccjaaGreatDoor
open Go.ChangeShapes Go.WideShapes Go.ChangeAt Go.RowKit
section
theorem clock_8:ClkAt 8:=by
 intro x z lRe lHo lRs lSi lTr lR7 lR6 lR5 lIn v hv hg hr hx w h
 have H:=Lib.hid h
 have HG:=Lib.hid hg
 have HZ0:=Lib.hid h.held.1
 clear h hg
 subst hr
 obtain ⟨⟨cCh,cA,cB,cC,cD,cE,cH,cL,cfS,cfZ,cfK,cfAC,cfP,cfV,cfCY,cSP,cPC,cIE,cDe,cHa,cMa,cTr,cR7,cWT,cW7,cSa,cSI,cSO⟩,src,ga,gn,gc,⟨k,a,d,s⟩,nx,ho⟩:=x
 simp only [] at hx
 subst hx
 simp only []
 cases lHo
 all_goals exact ck1
theorem clock_9:ClkAt 9:=by
 intro x z lRe lHo lRs lSi lTr lR7 lR6 lR5 lIn v hv hg hr hx w h
 have H:=Lib.hid h
 have HG:=Lib.hid hg
 have HZ0:=Lib.hid h.held.1
 clear h hg
 subst hr
 obtain ⟨⟨cCh,cA,cB,cC,cD,cE,cH,cL,cfS,cfZ,cfK,cfAC,cfP,cfV,cfCY,cSP,cPC,cIE,cDe,cHa,cMa,cTr,cR7,cWT,cW7,cSa,cSI,cSO⟩,src,ga,gn,gc,⟨k,a,d,s⟩,nx,ho⟩:=x
 simp only [] at hx
 subst hx
 simp only []
 cases lHo
 all_goals exact ck1
end
end Go.Proofs.YteggjjhjmhccjaaGreatDoor
