/- A controller's state without a sequence under way. Condition: the list is no longer than 1000. -/
import Derived.Test.YtionembpmfahlaaC22l
import Derived.Test.YtionembpmfahlaaS22b
namespace Go.Proofs.Ytionembpmfahlaa
open Go.ChangeShapes Go.WideShapes Go.ChangeAt Go.RowKit
set_option linter.unusedVariables false
set_option maxHeartbeats 4000000 in
theorem ready_any (a : Option Addr) (len cap : Nat) (z : List Int) (w : World) (hr : IsRow .i64 w a len cap z) (hl : len ≤ 1000) :
    Calls Try.prog 29 #[.slice a len cap] w fun e w' => ∃ p : S.Pc, S.Ok p ∧ p.Sq = 0 ∧ e = .returned (.agg p.cs) ∧ Adds w w' := by
  have H := Lib.hid (Nb.from (w := w.alloc (.cells #[.int .i64 (0), .bool (false), .bool (false), .bool (false), .bool (false), .int .u8 (0), .int .u8 (0), .bool (false), .bool (false), .bool (false), .bool (false), .bool (false), .int .u8 (0), .int .u8 (0), .int .u8 (0), .int .u8 (0), .int .i64 (0), .int .i64 (0), .int .i64 (0), .bool (false)] 23)) (b := w.heap.size + 1) (by simp [go_sem]) (IsRow.alloc hr _) (by omega))
  clear hr
  go_enter Try.func29, Try.ntmps29
  go_wp2_with (first | (go_at_call 12; (with_reducible refine (from_any a len cap _).mono ?_); rintro e w' ⟨rfl, rfl⟩) | (go_at_call 11; (refine (pic_any _ len cap 0 a (by omega) _ (by (repeat (first | with_reducible exact H.out | with_reducible refine Nb.more ?_ _ _ | with_reducible refine Nb.alloc ?_ _ | with_reducible refine Nb.drew ?_ | apply Nb.bump)))).mono ?_); rintro e w' ⟨q, M, okq, hM, rfl, ⟨n1, os1⟩, rfl⟩; simp only [S.Pc.cs]))
  exact bodyPost_ret (v := .agg (S.Pc.cs { q with Sq := 0, St := 0 })) (ret_PIC Try.results29 rfl (by simp [go_sem, S.Pc.cs]) rfl) rfl ⟨{ q with Sq := 0, St := 0 }, okq, rfl, rfl, by (repeat (first | with_reducible exact Adds.refl _ | with_reducible apply Adds.drew | with_reducible apply Adds.drewN | with_reducible apply Adds.alloc | with_reducible apply Adds.more | (with_reducible refine Adds.setCell ?_ ?_ _) | (focus (simp [go_sem]; done)) | (focus (simp [go_sem]; omega))))⟩
end Go.Proofs.Ytionembpmfahlaa
