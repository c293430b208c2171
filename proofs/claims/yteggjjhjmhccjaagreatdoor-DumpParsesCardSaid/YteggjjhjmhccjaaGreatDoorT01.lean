/- Lemmas that the proofs of the statements on dumps rest on. Conditions stand in each theorem. -/
import Derived.Test.YteggjjhjmhccjaaGreatDoorV03
import Derived.Laws.BytesArg
import Derived.Laws.IdiomStrings
set_option linter.unusedVariables false
set_option linter.unusedSimpArgs false
set_option maxRecDepth 100000
set_option maxHeartbeats 8000000
namespace Go.Proofs.YteggjjhjmhccjaaGreatDoor
open Go.ChangeShapes Go.WideShapes Go.ChangeAt Go.RowKit
section
theorem conv1_28 (c:UInt8) (W:World) (b:Nat) (h:W.cell? ⟨b,0,none⟩=some (.int .u8 c.toNat)):(convert 30 9 (.slice (some ⟨b,0,none⟩) 1 1)).run Tryz.prog W=.ok (.string ⟨[c].toArray⟩) W:=
 run_convert_bytes_back W 30 9 5 ⟨b,0,none⟩ 1 [c] Tryz.underlying30 Tryz.underlying5 Tryz.underlying9 fun j hj=>by
  obtain rfl:j=0:=by simpa using hj
  simpa [Addr.add] using h
theorem byte28 {n:Int} (h:(Lit.int .u8 n).wf=true):∃c:UInt8,n=(c.toNat:Int):=by
 obtain ⟨h1,h2⟩:=u8_of h
 exact ⟨UInt8.ofNat n.toNat,by simp;omega⟩
end
end Go.Proofs.YteggjjhjmhccjaaGreatDoor
