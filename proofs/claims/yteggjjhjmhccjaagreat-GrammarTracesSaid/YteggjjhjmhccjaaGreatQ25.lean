/- Texts that the proofs of GrammarTraces and GrammarCounts rest on, joined. Conditions stand in each theorem. -/
import Derived.Test.YteggjjhjmhccjaaGreatQ24
import Derived.Deep.Cut
import Derived.Deep.RegionHeld3
set_option linter.unusedVariables false
set_option linter.unusedSimpArgs false
set_option maxRecDepth 100000
set_option maxHeartbeats 8000000
namespace Go.Proofs.YteggjjhjmhccjaaGreat
open Go.ChangeShapes Go.WideShapes Go.ChangeAt Go.RowKit
section
theorem computed_18:CompK 18:=by
 intro b c inj ga gn gc z jl jd js jp jo jc jn hR w h
 obtain ⟨lv,hc,hf,hb,hr⟩:=h.cells
 have hz:∀y∈z,0≤y∧y < 256:=by obtain ⟨_,_,_,_,hz⟩:=h;exact hz
 have H:=Lib.hid h
 have HZ:=Lib.hid hz
 have HR:=Lib.hid hR
 clear h hz hR
 go_enter Tryz.func137,Tryz.ntmps137
 go_wp2_with fail
 go_region
 go_upto_region 28 with (first|(go_at_call 139;(with_reducible refine (wk_pair 2 (by exact HR.out)).mono ?_);rintro e w' ⟨hl,hhl,rfl,⟨⟨np,osp⟩,rfl⟩⟩)|(go_at_call 139;refine (wk_pair _ (by exact HR.out)).mono ?_;rintro e w' ⟨vp,hvp,rfl,⟨⟨np2,osp2⟩,rfl⟩⟩)|(go_at_call 162;refine (wk_dad cpw cpw).mono ?_;rintro e w' ⟨rr,f1,f2,f3,f4,f5,f6,f7,hrr,rfl,⟨⟨nf,osf⟩,rfl⟩⟩)|(go_at_call 157;refine (wk_setpair (by exact HR.out) cpw).mono ?_;rintro e w' ⟨qA,qB,qC,qD,qE,qH,qL,qS,qZ,qK,qAC,qP,qV,qCY,qSP,qPC,h',rfl,⟨⟨nq,osq⟩,rfl⟩⟩;have HQ:=Lib.hid h';clear h'))
 go_region_held3 (fun w'=>rowOf w' (w.heap.size+1+1)=#[.int .u8 c.A,.int .u8 c.B,.int .u8 c.C,.int .u8 c.D,.int .u8 c.E,.int .u8 c.H,.int .u8 c.L,.bool c.fS,.bool c.fZ,.bool c.fK,.bool c.fAC,.bool c.fP,.bool c.fV,.bool c.fCY,.int .u16 c.SP,.int .u16 c.PC]∧w'.cell? ⟨w.heap.size,4,none⟩=some (.int .i64 jp)) (simp [go_sem]) (first|(go_at_call 139;(with_reducible refine (wk_pair 2 (by exact HR.out)).mono ?_);rintro e w' ⟨hl,hhl,rfl,⟨⟨np,osp⟩,rfl⟩⟩)|(go_at_call 139;refine (wk_pair _ (by exact HR.out)).mono ?_;rintro e w' ⟨vp,hvp,rfl,⟨⟨np2,osp2⟩,rfl⟩⟩)|(go_at_call 162;refine (wk_dad cpw cpw).mono ?_;rintro e w' ⟨rr,f1,f2,f3,f4,f5,f6,f7,hrr,rfl,⟨⟨nf,osf⟩,rfl⟩⟩)|(go_at_call 157;refine (wk_setpair (by exact HR.out) cpw).mono ?_;rintro e w' ⟨qA,qB,qC,qD,qE,qH,qL,qS,qZ,qK,qAC,qP,qV,qCY,qSP,qPC,h',rfl,⟨⟨nq,osq⟩,rfl⟩⟩;have HQ:=Lib.hid h';clear h'))
 all_goals go_wp2_with (first|(go_at_call 139;(with_reducible refine (wk_pair 2 (by exact HR.out)).mono ?_);rintro e w' ⟨hl,hhl,rfl,⟨⟨np,osp⟩,rfl⟩⟩)|(go_at_call 139;refine (wk_pair _ (by exact HR.out)).mono ?_;rintro e w' ⟨vp,hvp,rfl,⟨⟨np2,osp2⟩,rfl⟩⟩)|(go_at_call 162;refine (wk_dad cpw cpw).mono ?_;rintro e w' ⟨rr,f1,f2,f3,f4,f5,f6,f7,hrr,rfl,⟨⟨nf,osf⟩,rfl⟩⟩)|(go_at_call 157;refine (wk_setpair (by exact HR.out) cpw).mono ?_;rintro e w' ⟨qA,qB,qC,qD,qE,qH,qL,qS,qZ,qK,qAC,qP,qV,qCY,qSP,qPC,h',rfl,⟨⟨nq,osq⟩,rfl⟩⟩;have HQ:=Lib.hid h';clear h'))
 all_goals
  refine bodyPost_ret (ret_Regs Tryz.results137 rfl rfl (by simp [go_sem])) rfl ?_
  simp [go_sem]
  exact ⟨_,_,_,_,_,_,_,_,_,_,_,_,_,_,_,_,cpr,rfl,aD⟩
end
end Go.Proofs.YteggjjhjmhccjaaGreat
