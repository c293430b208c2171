/- Contracts of Valid at the example, and of the example itself. No condition. -/
import Derived.Test.YtfhnfakjjfjohaaC26t
import Derived.Test.YtfhnfakjjfjohaaC26k
namespace Go.Proofs.Ytfhnfakjjfjohaa
open Go.ChangeShapes Go.WideShapes Go.ChangeAt Go.RowKit
set_option linter.unusedVariables false
def S.x0 : S.It := ⟨1, 1, 0, 0, 4, 1, 4, false, false⟩
theorem sm_x0_1 : S.sm S.f1 [S.x0] = 4 := by
  show wrap64 (0 + 4) = 4
  exact IntWalk.wrap64_in _ ⟨by omega, by omega⟩
theorem sm_x0_2 : S.sm S.f2 [S.x0] = 1 := by
  show wrap64 (0 + 1) = 1
  exact IntWalk.wrap64_in _ ⟨by omega, by omega⟩
theorem sm_x0_3 : S.sm S.f3 [S.x0] = 0 := rfl
theorem sm_x0_4 : S.sm S.f4 [S.x0] = 0 := rfl
theorem sm_x0_5 : S.sm S.f5 [S.x0] = 0 := rfl
set_option maxRecDepth 100000 in
set_option maxHeartbeats 2000000 in
theorem valid_ex (ch : Int) (a : Option Addr) (cap : Nat) (w : World) (h : HeldT w a 1 [S.x0]) : Calls Try.prog 21 #[.int .i64 ch, .slice a 1 cap] w fun e w' => e = .returned (.bool true) ∧ Adds w w' := by
  obtain ⟨b, o, rfl, hb, hat⟩ := h.2.2 (by omega)
  have HAT := Lib.hid hat
  clear h hat
  go_enter Try.func21, Try.ntmps21
  go_wp2_with fail
  go_loopw [9] (fun i wr => ∃ k : Int, 0 ≤ k ∧ k ≤ 1 ∧ i = .int .i64 k ∧ Hid (Adds w wr)) (fun i _ => (1 - intOf i).toNat)
  case atStart => exact ⟨0, by omega, by omega, rfl, Adds.refl _⟩
  case round =>
    obtain ⟨k, hk0, hk1, rfl, HA⟩ := hrel
    rename World => w3
    rcases (by omega : k = 0 ∨ k = 1) with rfl | rfl
    · have hw3 := HA.out.size
      have hL : (wholeVar 44 ⟨b, o, none⟩).run Try.prog w3 = .ok (.agg #[.int .i64 1, .int .i64 1, .int .u16 0, .int .u8 0, .int .i64 4, .int .i64 1, .int .i64 4, .bool false, .bool false]) w3 := AtT.load (AtG.keep (w' := w3) HAT.out fun i => HA.out.cell hb) (j := 0) (x := S.x0) rfl _ (by omega)
      go_wp2_with fail
      refine wp_region_adds (by kernel_rfl) (by kernel_rfl) ?_
      repeat (go_big_quiet_step ((go_at_call 27; exact calls_adds (possible_ex _))))
      refine wpQuiet_nil ?_
      intro _ hw1
      obtain ⟨⟨nq, osq⟩, hw2⟩ := hw1
      subst hw2
      go_wp2_with fail
      go_roundw
      case rel => exact ⟨1, by omega, by omega, rfl, HA.out.trans (by (repeat (first | with_reducible exact Adds.refl _ | with_reducible apply Adds.drew | with_reducible apply Adds.drewN | with_reducible apply Adds.alloc | with_reducible apply Adds.more | (with_reducible refine Adds.setCell ?_ ?_ _) | (focus (simp [go_sem]; done)) | (focus (simp [go_sem]; omega)))))⟩
      case measure => simp [intOf]
    · go_wp2_with fail
      go_ret
      exact ⟨rfl, HA.out⟩
theorem ex_x0 : S.ex true [S.x0] = [S.pn true S.x0 1, S.pn true S.x0 2, S.pn true S.x0 7, S.pn true S.x0 3, S.pn true S.x0 4] := rfl
set_option maxRecDepth 100000 in
set_option maxHeartbeats 2000000 in
theorem known26 (w : World) : Calls Try.prog 8 #[] w fun e w' => e = .returned (.bool true) ∧ Adds w w' := by
  have HX := Lib.hid (show HeldT (w.alloc (.cells #[.int .i64 1, .int .i64 1, .int .u16 0, .int .u8 0, .int .i64 4, .int .i64 1, .int .i64 4, .bool false, .bool false] 44)) (some ⟨w.heap.size, 0, none⟩) 1 [S.x0] from ⟨rfl, by omega, fun _ => ⟨_, 0, rfl, by simp, AtG.laid w _ _ [S.x0] rfl _ rfl⟩⟩)
  go_enter Try.func8, Try.ntmps8
  go_wp2_with (first
    | (go_at_call 11; (with_reducible refine (expand_any 2 (some ⟨w.heap.size, 0, none⟩) 1 1 [S.x0] (by omega) _ HX.out).mono ?_); rintro e w2 ⟨v, rfl, hO, hA⟩; obtain ⟨ad, nn, cc, rfl, hn, hnc, hc, hh, -⟩ := hO.form2; obtain rfl : nn = 5 := hn.out.symm; obtain ⟨g, rfl, hg1, hg2⟩ := hO.head (by omega); have HAt := Lib.hid (show AtG csQ w2 g 0 [S.pn true S.x0 1, S.pn true S.x0 2, S.pn true S.x0 7, S.pn true S.x0 3, S.pn true S.x0 4] from hO.at_); have HA := Lib.hid hA; clear hn hO hA hh)
    | (go_at_call 20; (with_reducible refine (states_any (some ⟨w.heap.size, 0, none⟩) 1 1 [S.x0] w2 (HX.out.adds HA.out)).mono ?_); rintro e w3 ⟨rfl, hA3⟩; rw [sm_x0_1, sm_x0_2, sm_x0_3, sm_x0_4, sm_x0_5]; have HA3 := Lib.hid hA3; have c1 : w3.cell? ⟨g, 7, none⟩ = some (.bool true) := (hA3.cell hg2).trans (HAt.out.el csQ_len (j := 0) (k := 7) rfl rfl); have c2 : w3.cell? ⟨g, 34, none⟩ = some (.int .i64 7) := (hA3.cell hg2).trans (HAt.out.el csQ_len (j := 2) (k := 0) rfl rfl); have c3 : w3.cell? ⟨g, 68, none⟩ = some (.int .i64 4) := (hA3.cell hg2).trans (HAt.out.el csQ_len (j := 4) (k := 0) rfl rfl); clear hA3)
    | (go_at_call 21; (with_reducible refine (valid_ex 2 (some ⟨w.heap.size, 0, none⟩) 1 w3 ((HX.out.adds HA.out).adds HA3.out)).mono ?_); rintro e w4 ⟨rfl, hA4⟩))
  go_ret
  exact ⟨rfl, Adds.trans (by (repeat (first | with_reducible exact Adds.refl _ | with_reducible apply Adds.drew | with_reducible apply Adds.drewN | with_reducible apply Adds.alloc | with_reducible apply Adds.more | (with_reducible refine Adds.setCell ?_ ?_ _) | (focus (simp [go_sem]; done)) | (focus (simp [go_sem]; omega))))) ((HA.out.trans HA3.out).trans hA4)⟩
end Go.Proofs.Ytfhnfakjjfjohaa
