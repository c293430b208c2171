/- Texts that the proofs of the statements on dumps rest on, joined. Conditions stand in each theorem. -/
import Derived.Test.YteggjjhjmhccjaaGreatDoorQ20
import Derived.Deep.Cut
import Derived.Deep.RegionHeld3
set_option linter.unusedVariables false
set_option linter.unusedSimpArgs false
set_option maxRecDepth 100000
set_option maxHeartbeats 8000000
namespace Go.Proofs.YteggjjhjmhccjaaGreatDoor
open Go.ChangeShapes Go.WideShapes Go.ChangeAt Go.RowKit
section
theorem computed_42:CompK 42:=by
 intro b c inj ga gn gc z jl jd js jp jo jc jn hR w h
 obtain ⟨lv,hc,hf,hb,hr⟩:=h.cells
 have hz:∀y∈z,0≤y∧y < 256:=by obtain ⟨_,_,_,_,hz⟩:=h;exact hz
 have H:=Lib.hid h
 have HZ:=Lib.hid hz
 have HR:=Lib.hid hR
 clear h hz hR
 go_enter Tryz.func146,Tryz.ntmps146
 go_wp2_with fail
 go_region
 go_wp2_with (first|(go_at_call 148;(with_reducible refine (wk_pair 2 (by exact HR.out)).mono ?_);rintro e w' ⟨hl,hhl,rfl,⟨⟨np,osp⟩,rfl⟩⟩)|(go_at_call 148;refine (wk_pair _ (by exact HR.out)).mono ?_;rintro e w' ⟨vp,hvp,rfl,⟨⟨np2,osp2⟩,rfl⟩⟩)|(go_at_call 178;refine (wk_rdel cpw).mono ?_;rintro e w' ⟨rr,o1,o2,hrr,rfl,rfl⟩)|(go_at_call 168;refine (wk_setpair (by exact HR.out) cpw).mono ?_;rintro e w' ⟨qA,qB,qC,qD,qE,qH,qL,qS,qZ,qK,qAC,qP,qV,qCY,qSP,qPC,h',rfl,⟨⟨nq,osq⟩,rfl⟩⟩;have HQ:=Lib.hid h';clear h'))
 all_goals (try (go_region_with (first|(go_at_call 148;(with_reducible refine (wk_pair 2 (by exact HR.out)).mono ?_);rintro e w' ⟨hl,hhl,rfl,⟨⟨np,osp⟩,rfl⟩⟩)|(go_at_call 148;refine (wk_pair _ (by exact HR.out)).mono ?_;rintro e w' ⟨vp,hvp,rfl,⟨⟨np2,osp2⟩,rfl⟩⟩)|(go_at_call 178;refine (wk_rdel cpw).mono ?_;rintro e w' ⟨rr,o1,o2,hrr,rfl,rfl⟩)|(go_at_call 168;refine (wk_setpair (by exact HR.out) cpw).mono ?_;rintro e w' ⟨qA,qB,qC,qD,qE,qH,qL,qS,qZ,qK,qAC,qP,qV,qCY,qSP,qPC,h',rfl,⟨⟨nq,osq⟩,rfl⟩⟩;have HQ:=Lib.hid h';clear h'))))
 all_goals (try go_wp2_with (first|(go_at_call 148;(with_reducible refine (wk_pair 2 (by exact HR.out)).mono ?_);rintro e w' ⟨hl,hhl,rfl,⟨⟨np,osp⟩,rfl⟩⟩)|(go_at_call 148;refine (wk_pair _ (by exact HR.out)).mono ?_;rintro e w' ⟨vp,hvp,rfl,⟨⟨np2,osp2⟩,rfl⟩⟩)|(go_at_call 178;refine (wk_rdel cpw).mono ?_;rintro e w' ⟨rr,o1,o2,hrr,rfl,rfl⟩)|(go_at_call 168;refine (wk_setpair (by exact HR.out) cpw).mono ?_;rintro e w' ⟨qA,qB,qC,qD,qE,qH,qL,qS,qZ,qK,qAC,qP,qV,qCY,qSP,qPC,h',rfl,⟨⟨nq,osq⟩,rfl⟩⟩;have HQ:=Lib.hid h';clear h')))
 all_goals
  refine bodyPost_ret (ret_Regs Tryz.results146 rfl rfl (by simp [go_sem])) rfl ?_
  simp [go_sem]
  exact ⟨_,_,_,_,_,_,_,_,_,_,_,_,_,_,_,_,cpr,rfl,aD⟩
end
end Go.Proofs.YteggjjhjmhccjaaGreatDoor
