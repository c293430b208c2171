/- Contracts of package pic: writeHigh, initialize, setModes, and the reference's further, first. No condition. -/
import Derived.Test.YtionembpmfahlaaC22
namespace Go.Proofs.Ytionembpmfahlaa
open Go.ChangeShapes Go.WideShapes Go.ChangeAt Go.RowKit
set_option linter.unusedVariables false
set_option maxHeartbeats 4000000 in
theorem wrH_any (p : S.Pc) (v : Int) (w : World) : Calls Try.prog 35 #[.agg #[.int .i64 p.St, .bool p.Le, .bool p.Fo, .bool p.Si, .bool p.Ft, .int .u8 p.Lw, .int .u8 p.Hg, .bool p.Au, .bool p.Ro, .bool p.Sp, .bool p.RI, .bool p.Po, .int .u8 p.Li, .int .u8 p.Ed, .int .u8 p.IS, .int .u8 p.IM, .int .i64 p.Lo, .int .i64 p.Sq, .int .i64 p.Sv, .bool p.Su], .int .u8 v] w fun e w' => e = .returned (.agg (S.wrH p v).cs) ∧ Adds w w' := by
  by_cases h2 : p.St = 2
  · by_cases hs : p.Si = true
    all_goals
      go_enter Try.func35, Try.ntmps35
      go_wp2_with (first | (go_at_call 52; refine (aft2_any { p with St := 2, Hg := v, Si := true } _).mono ?_; rintro e w' ⟨rfl, ⟨⟨n1, os1⟩, rfl⟩⟩; rw [if_pos rfl]) | (go_at_call 52; refine (aft2_any { p with St := 2, Hg := v, Si := false } _).mono ?_; rintro e w' ⟨rfl, ⟨⟨n1, os1⟩, rfl⟩⟩; rw [if_neg Bool.false_ne_true]))
      exact bodyPost_ret (v := .agg (S.wrH p v).cs) (ret_PIC Try.results35 rfl (by simp [go_sem, S.wrH, S.lst, S.Pc.cs, h2, hs]) rfl) rfl ⟨rfl, by (repeat (first | with_reducible exact Adds.refl _ | with_reducible apply Adds.drew | with_reducible apply Adds.drewN | with_reducible apply Adds.alloc | with_reducible apply Adds.more | (with_reducible refine Adds.setCell ?_ ?_ _) | (focus (simp [go_sem]; done)) | (focus (simp [go_sem]; omega))))⟩
  by_cases h3 : p.St = 3
  · go_enter Try.func35, Try.ntmps35
    go_wp2_with (go_at_call 53; refine (aft3_any { p with St := 3 } _).mono ?_; rintro e w' ⟨rfl, ⟨⟨n1, os1⟩, rfl⟩⟩)
    exact bodyPost_ret (v := .agg (S.wrH p v).cs) (ret_PIC Try.results35 rfl (by simp [go_sem, S.wrH, S.lst, S.Pc.cs, h3]) rfl) rfl ⟨rfl, by (repeat (first | with_reducible exact Adds.refl _ | with_reducible apply Adds.drew | with_reducible apply Adds.drewN | with_reducible apply Adds.alloc | with_reducible apply Adds.more | (with_reducible refine Adds.setCell ?_ ?_ _) | (focus (simp [go_sem]; done)) | (focus (simp [go_sem]; omega))))⟩
  by_cases h4 : p.St = 4
  · go_enter Try.func35, Try.ntmps35
    go_wp2_with fail
    exact bodyPost_ret (v := .agg (S.wrH p v).cs) (ret_PIC Try.results35 rfl (by simp [go_sem, S.wrH, S.Pc.cs, h4]) rfl) rfl ⟨rfl, by (repeat (first | with_reducible exact Adds.refl _ | with_reducible apply Adds.drew | with_reducible apply Adds.drewN | with_reducible apply Adds.alloc | with_reducible apply Adds.more | (with_reducible refine Adds.setCell ?_ ?_ _) | (focus (simp [go_sem]; done)) | (focus (simp [go_sem]; omega))))⟩
  · go_enter Try.func35, Try.ntmps35
    go_wp2_with fail
    exact bodyPost_ret (v := .agg (S.wrH p v).cs) (ret_PIC Try.results35 rfl (by simp [go_sem, S.wrH, S.Pc.cs, h2, h3, h4]) rfl) rfl ⟨rfl, by (repeat (first | with_reducible exact Adds.refl _ | with_reducible apply Adds.drew | with_reducible apply Adds.drewN | with_reducible apply Adds.alloc | with_reducible apply Adds.more | (with_reducible refine Adds.setCell ?_ ?_ _) | (focus (simp [go_sem]; done)) | (focus (simp [go_sem]; omega))))⟩
set_option maxHeartbeats 4000000 in
theorem further_any (p : S.Pc) (v : Int) (w : World) : Calls Try.prog 39 #[.agg #[.int .i64 p.St, .bool p.Le, .bool p.Fo, .bool p.Si, .bool p.Ft, .int .u8 p.Lw, .int .u8 p.Hg, .bool p.Au, .bool p.Ro, .bool p.Sp, .bool p.RI, .bool p.Po, .int .u8 p.Li, .int .u8 p.Ed, .int .u8 p.IS, .int .u8 p.IM, .int .i64 p.Lo, .int .i64 p.Sq, .int .i64 p.Sv, .bool p.Su], .int .u8 v] w fun e w' => e = .returned (.agg (S.wrH p v).cs) ∧ Adds w w' := by
  rcases (by omega : p.St = 2 ∨ p.St = 3 ∨ p.St = 4 ∨ (¬p.St = 2 ∧ ¬p.St = 3 ∧ ¬p.St = 4)) with h | h | h | ⟨h, h', h''⟩
  all_goals
    by_cases hf : p.Ft = true
    all_goals
      by_cases hs : p.Si = true
      all_goals
        go_enter Try.func39, Try.ntmps39
        go_wp2_with fail
        exact bodyPost_ret (v := .agg (S.wrH p v).cs) (ret_PIC Try.results39 rfl (by simp [go_sem, S.wrH, S.lst, S.Pc.cs, *]) rfl) rfl ⟨rfl, by (repeat (first | with_reducible exact Adds.refl _ | with_reducible apply Adds.drew | with_reducible apply Adds.drewN | with_reducible apply Adds.alloc | with_reducible apply Adds.more | (with_reducible refine Adds.setCell ?_ ?_ _) | (focus (simp [go_sem]; done)) | (focus (simp [go_sem]; omega))))⟩
set_option maxHeartbeats 4000000 in
theorem ini_any (p : S.Pc) (v : Int) (w : World) : Calls Try.prog 36 #[.agg #[.int .i64 p.St, .bool p.Le, .bool p.Fo, .bool p.Si, .bool p.Ft, .int .u8 p.Lw, .int .u8 p.Hg, .bool p.Au, .bool p.Ro, .bool p.Sp, .bool p.RI, .bool p.Po, .int .u8 p.Li, .int .u8 p.Ed, .int .u8 p.IS, .int .u8 p.IM, .int .i64 p.Lo, .int .i64 p.Sq, .int .i64 p.Sv, .bool p.Su], .int .u8 v] w fun e w' => e = .returned (.agg (S.ini p v).cs) ∧ Adds w w' := by
  go_enter Try.func36, Try.ntmps36
  go_wp2_with (go_at_call 19; refine (new_any _).mono ?_; rintro e w' ⟨rfl, ⟨⟨n1, os1⟩, rfl⟩⟩; simp only [S.nw, S.Pc.cs])
  exact bodyPost_ret (v := .agg (S.ini p v).cs) (ret_PIC Try.results36 rfl (by simp [go_sem, S.ini, S.Pc.cs]) rfl) rfl ⟨rfl, by (repeat (first | with_reducible exact Adds.refl _ | with_reducible apply Adds.drew | with_reducible apply Adds.drewN | with_reducible apply Adds.alloc | with_reducible apply Adds.more | (with_reducible refine Adds.setCell ?_ ?_ _) | (focus (simp [go_sem]; done)) | (focus (simp [go_sem]; omega))))⟩
set_option maxHeartbeats 4000000 in
theorem first_any (p : S.Pc) (v : Int) (w : World) : Calls Try.prog 40 #[.agg #[.int .i64 p.St, .bool p.Le, .bool p.Fo, .bool p.Si, .bool p.Ft, .int .u8 p.Lw, .int .u8 p.Hg, .bool p.Au, .bool p.Ro, .bool p.Sp, .bool p.RI, .bool p.Po, .int .u8 p.Li, .int .u8 p.Ed, .int .u8 p.IS, .int .u8 p.IM, .int .i64 p.Lo, .int .i64 p.Sq, .int .i64 p.Sv, .bool p.Su], .int .u8 v] w fun e w' => e = .returned (.agg (S.ini p v).cs) ∧ Adds w w' := by
  go_enter Try.func40, Try.ntmps40
  go_wp2_with (go_at_call 20; refine (rnew_any _).mono ?_; rintro e w' ⟨rfl, ⟨⟨n1, os1⟩, rfl⟩⟩; simp only [S.nw, S.Pc.cs])
  exact bodyPost_ret (v := .agg (S.ini p v).cs) (ret_PIC Try.results40 rfl (by simp [go_sem, S.ini, S.Pc.cs]) rfl) rfl ⟨rfl, by (repeat (first | with_reducible exact Adds.refl _ | with_reducible apply Adds.drew | with_reducible apply Adds.drewN | with_reducible apply Adds.alloc | with_reducible apply Adds.more | (with_reducible refine Adds.setCell ?_ ?_ _) | (focus (simp [go_sem]; done)) | (focus (simp [go_sem]; omega))))⟩
set_option maxHeartbeats 4000000 in
theorem mode_any (p : S.Pc) (v : Int) (w : World) : Calls Try.prog 37 #[.agg #[.int .i64 p.St, .bool p.Le, .bool p.Fo, .bool p.Si, .bool p.Ft, .int .u8 p.Lw, .int .u8 p.Hg, .bool p.Au, .bool p.Ro, .bool p.Sp, .bool p.RI, .bool p.Po, .int .u8 p.Li, .int .u8 p.Ed, .int .u8 p.IS, .int .u8 p.IM, .int .i64 p.Lo, .int .i64 p.Sq, .int .i64 p.Sv, .bool p.Su], .int .u8 v] w fun e w' => e = .returned (.agg (S.mode p v).cs) ∧ Adds w w' := by
  by_cases h6 : bits .and .u8 v 64 = 0
  all_goals
    by_cases h1 : bits .and .u8 v 2 = 0
    all_goals
      by_cases h2 : bits .and .u8 v 4 = 0
      all_goals
        go_enter Try.func37, Try.ntmps37
        go_wp2_with fail
        exact bodyPost_ret (v := .agg (S.mode p v).cs) (ret_PIC Try.results37 rfl (by simp [go_sem, S.mode, S.Pc.cs, *]) rfl) rfl ⟨rfl, by (repeat (first | with_reducible exact Adds.refl _ | with_reducible apply Adds.drew | with_reducible apply Adds.drewN | with_reducible apply Adds.alloc | with_reducible apply Adds.more | (with_reducible refine Adds.setCell ?_ ?_ _) | (focus (simp [go_sem]; done)) | (focus (simp [go_sem]; omega))))⟩
end Go.Proofs.Ytionembpmfahlaa
