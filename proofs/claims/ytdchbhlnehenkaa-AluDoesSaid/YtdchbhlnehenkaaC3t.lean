/- The contract of the reference's chapter 3: it returns the plain functions' values and leaves what was there alone. Conditions: bytes are from 0 to 255. -/
import Derived.Test.YtdchbhlnehenkaaC3r
import Derived.Test.YtdchbhlnehenkaaC3s
namespace Go.Proofs.Ytdchbhlnehenkaa
open Go.ChangeShapes Go.WideShapes Go.ChangeAt Go.RowKit
set_option linter.unusedVariables false
theorem rdo_any (c op a b : Int) (s z k ac p v cy : Bool) (a0 : 0 ≤ a) (a1 : a < 256) (b0 : 0 ≤ b) (b1 : b < 256) (w : World) : Calls Try.prog 10 #[.int .i64 c, .int .i64 op, .int .u8 a, .int .u8 b, .agg #[.bool s, .bool z, .bool k, .bool ac, .bool p, .bool v, .bool cy]] w fun e w' => e = .returned (.tuple #[.int .u8 (S.aX op a b cy), .agg #[.bool (S.has (S.aR op a b cy) 7), .bool (S.aR op a b cy == 0), .bool (S.aK c op a b cy), .bool (S.aH c op a b cy), .bool (S.par (S.aR op a b cy)), .bool (S.aV c op a b cy), .bool (S.aO op a b cy)]]) ∧ Adds w w' := by
  by_cases hc : c = 2
  · subst hc
    rcases (by omega : op % 8 = 0 ∨ op % 8 = 1 ∨ op % 8 = 2 ∨ op % 8 = 3 ∨ op % 8 = 4 ∨ op % 8 = 5 ∨ op % 8 = 6 ∨ op % 8 = 7) with h | h | h | h | h | h | h | h
    · exact rdo85_0 op a b s z k ac p v cy a0 a1 b0 b1 h w
    · exact rdo85_1 op a b s z k ac p v cy a0 a1 b0 b1 h w
    · exact rdo85_2 op a b s z k ac p v cy a0 a1 b0 b1 h w
    · exact rdo85_3 op a b s z k ac p v cy a0 a1 b0 b1 h w
    · exact rdo85_4 op a b s z k ac p v cy a0 a1 b0 b1 h w
    · exact rdo85_5 op a b s z k ac p v cy a0 a1 b0 b1 h w
    · exact rdo85_6 op a b s z k ac p v cy a0 a1 b0 b1 h w
    · exact rdo85_7 op a b s z k ac p v cy a0 a1 b0 b1 h w
  · rcases (by omega : op % 8 = 0 ∨ op % 8 = 1 ∨ op % 8 = 2 ∨ op % 8 = 3 ∨ op % 8 = 4 ∨ op % 8 = 5 ∨ op % 8 = 6 ∨ op % 8 = 7) with h | h | h | h | h | h | h | h
    · exact rdo80_0 c op a b s z k ac p v cy hc a0 a1 b0 b1 h w
    · exact rdo80_1 c op a b s z k ac p v cy hc a0 a1 b0 b1 h w
    · exact rdo80_2 c op a b s z k ac p v cy hc a0 a1 b0 b1 h w
    · exact rdo80_3 c op a b s z k ac p v cy hc a0 a1 b0 b1 h w
    · exact rdo80_4 c op a b s z k ac p v cy hc a0 a1 b0 b1 h w
    · exact rdo80_5 c op a b s z k ac p v cy hc a0 a1 b0 b1 h w
    · exact rdo80_6 c op a b s z k ac p v cy hc a0 a1 b0 b1 h w
    · exact rdo80_7 c op a b s z k ac p v cy hc a0 a1 b0 b1 h w
end Go.Proofs.Ytdchbhlnehenkaa
