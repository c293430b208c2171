/- Contracts of package pic: choose, lowAddress, finish, and of both sides' Ack. Condition: ISR is a byte. -/
import Derived.Test.YtionembpmfahlaaC22
namespace Go.Proofs.Ytionembpmfahlaa
open Go.ChangeShapes Go.WideShapes Go.ChangeAt Go.RowKit
set_option linter.unusedVariables false
set_option maxHeartbeats 4000000 in
theorem choose_any (p : S.Pc) (h0 : 0 ≤ p.IS) (h1 : p.IS < 256) (w : World) : Calls Try.prog 45 #[.agg #[.int .i64 p.St, .bool p.Le, .bool p.Fo, .bool p.Si, .bool p.Ft, .int .u8 p.Lw, .int .u8 p.Hg, .bool p.Au, .bool p.Ro, .bool p.Sp, .bool p.RI, .bool p.Po, .int .u8 p.Li, .int .u8 p.Ed, .int .u8 p.IS, .int .u8 p.IM, .int .i64 p.Lo, .int .i64 p.Sq, .int .i64 p.Sv, .bool p.Su]] w fun e w' => e = .returned (.agg (S.ch p).cs) ∧ Adds w w' := by
  have hh : Hid _ := And.intro h0 h1
  clear h0 h1
  have hb := S.pkc_bd p
  obtain ⟨n, en⟩ : ∃ n, S.pkc p = n := ⟨_, rfl⟩
  rw [en] at hb
  have EN : Hid (S.pkc p = n) := en
  have EV : Hid (S.pkc { p with Sq := 1 } = n) := en
  clear en
  rcases (by omega : n = -1 ∨ 0 ≤ n) with hn | hn
  · subst hn
    go_enter Try.func45, Try.ntmps45
    go_wp2_with (go_at_call 33; refine (pick_any { p with Sq := 1 } hh.out.1 hh.out.2 _).mono ?_; rintro e w' ⟨rfl, ⟨⟨n1, os1⟩, rfl⟩⟩; rw [EV.out])
    exact bodyPost_ret (v := .agg (S.ch p).cs) (ret_PIC Try.results45 rfl (by simp [go_sem, S.ch, S.Pc.cs, EN.out]) rfl) rfl ⟨rfl, by (repeat (first | with_reducible exact Adds.refl _ | with_reducible apply Adds.drew | with_reducible apply Adds.drewN | with_reducible apply Adds.alloc | with_reducible apply Adds.more | (with_reducible refine Adds.setCell ?_ ?_ _) | (focus (simp [go_sem]; done)) | (focus (simp [go_sem]; omega))))⟩
  · have n8 : n < 8 := hb.2
    have hn1 : ¬ n = -1 := by omega
    have hg : (n == -1) = false := by simpa using hn1
    go_enter Try.func45, Try.ntmps45
    go_wp2_with (first | (go_at_call 33; refine (pick_any { p with Sq := 1 } hh.out.1 hh.out.2 _).mono ?_; rintro e w' ⟨rfl, ⟨⟨n1, os1⟩, rfl⟩⟩; rw [EV.out]) | (go_at_call 56; refine (serve_any { p with Sq := 1, Sv := n, Su := false } n hn n8 _).mono ?_; rintro e w' ⟨rfl, ⟨⟨n2, os2⟩, rfl⟩⟩; simp only [S.Pc.cs, S.sv]))
    exact bodyPost_ret (v := .agg (S.ch p).cs) (ret_PIC Try.results45 rfl (by simp [go_sem, S.ch, S.sv, S.Pc.cs, EN.out, hn1]) rfl) rfl ⟨rfl, by (repeat (first | with_reducible exact Adds.refl _ | with_reducible apply Adds.drew | with_reducible apply Adds.drewN | with_reducible apply Adds.alloc | with_reducible apply Adds.more | (with_reducible refine Adds.setCell ?_ ?_ _) | (focus (simp [go_sem]; done)) | (focus (simp [go_sem]; omega))))⟩
theorem low_any (p : S.Pc) (w : World) : Calls Try.prog 46 #[.agg #[.int .i64 p.St, .bool p.Le, .bool p.Fo, .bool p.Si, .bool p.Ft, .int .u8 p.Lw, .int .u8 p.Hg, .bool p.Au, .bool p.Ro, .bool p.Sp, .bool p.RI, .bool p.Po, .int .u8 p.Li, .int .u8 p.Ed, .int .u8 p.IS, .int .u8 p.IM, .int .i64 p.Lo, .int .i64 p.Sq, .int .i64 p.Sv, .bool p.Su]] w fun e w' => e = .returned (.int .u8 (S.low p)) ∧ Adds w w' := by
  by_cases hf : p.Fo = true
  all_goals
    go_enter Try.func46, Try.ntmps46
    go_wp2_with fail
    go_ret
    exact ⟨ri (by simp only [S.low, hf, S.pr_and7, if_true, if_false, Bool.false_eq_true]; omega), by (repeat (first | with_reducible exact Adds.refl _ | with_reducible apply Adds.drew | with_reducible apply Adds.drewN | with_reducible apply Adds.alloc | with_reducible apply Adds.more | (with_reducible refine Adds.setCell ?_ ?_ _) | (focus (simp [go_sem]; done)) | (focus (simp [go_sem]; omega))))⟩
set_option maxHeartbeats 4000000 in
theorem finish_any (p : S.Pc) (w : World) : Calls Try.prog 47 #[.agg #[.int .i64 p.St, .bool p.Le, .bool p.Fo, .bool p.Si, .bool p.Ft, .int .u8 p.Lw, .int .u8 p.Hg, .bool p.Au, .bool p.Ro, .bool p.Sp, .bool p.RI, .bool p.Po, .int .u8 p.Li, .int .u8 p.Ed, .int .u8 p.IS, .int .u8 p.IM, .int .i64 p.Lo, .int .i64 p.Sq, .int .i64 p.Sv, .bool p.Su]] w fun e w' => e = .returned (.agg (S.fin p).cs) ∧ Adds w w' := by
  have e7 := S.pr_and7 p.Sv
  have b0 : 0 ≤ p.Sv % 8 := by omega
  have b1 : p.Sv % 8 < 8 := by omega
  have hn1 : ¬ p.Sv % 8 = -1 := by omega
  by_cases ha : p.Au = true
  · by_cases hs : p.Su = true
    all_goals
      go_enter Try.func47, Try.ntmps47
      go_wp2_with (go_at_call 54; refine (end_some { p with Sq := 0, Au := true, Su := false } (p.Sv % 8) p.Ro b0 b1 _).mono ?_; rintro e w' ⟨rfl, ⟨⟨n3, os3⟩, rfl⟩⟩; simp only [S.Pc.cs])
      exact bodyPost_ret (v := .agg (S.fin p).cs) (ret_PIC Try.results47 rfl (by simp [go_sem, S.fin, S.en, S.Pc.cs, ha, hs, hn1]) rfl) rfl ⟨rfl, by (repeat (first | with_reducible exact Adds.refl _ | with_reducible apply Adds.drew | with_reducible apply Adds.drewN | with_reducible apply Adds.alloc | with_reducible apply Adds.more | (with_reducible refine Adds.setCell ?_ ?_ _) | (focus (simp [go_sem]; done)) | (focus (simp [go_sem]; omega))))⟩
  · go_enter Try.func47, Try.ntmps47
    go_wp2_with fail
    exact bodyPost_ret (v := .agg (S.fin p).cs) (ret_PIC Try.results47 rfl (by simp [go_sem, S.fin, S.Pc.cs, ha]) rfl) rfl ⟨rfl, by (repeat (first | with_reducible exact Adds.refl _ | with_reducible apply Adds.drew | with_reducible apply Adds.drewN | with_reducible apply Adds.alloc | with_reducible apply Adds.more | (with_reducible refine Adds.setCell ?_ ?_ _) | (focus (simp [go_sem]; done)) | (focus (simp [go_sem]; omega))))⟩
set_option maxHeartbeats 4000000 in
theorem ack_any (p : S.Pc) (h0 : 0 ≤ p.IS) (h1 : p.IS < 256) (w : World) : Calls Try.prog 25 #[.agg #[.int .i64 p.St, .bool p.Le, .bool p.Fo, .bool p.Si, .bool p.Ft, .int .u8 p.Lw, .int .u8 p.Hg, .bool p.Au, .bool p.Ro, .bool p.Sp, .bool p.RI, .bool p.Po, .int .u8 p.Li, .int .u8 p.Ed, .int .u8 p.IS, .int .u8 p.IM, .int .i64 p.Lo, .int .i64 p.Sq, .int .i64 p.Sv, .bool p.Su]] w fun e w' => e = .returned (.tuple #[.agg (S.ack p).cs, .int .u8 (S.ackV p)]) ∧ Adds w w' := by
  have hh : Hid _ := And.intro h0 h1
  clear h0 h1
  by_cases hq : p.Sq = 0
  · have hc : S.ch { p with Sq := 0 } = S.ch p := rfl
    go_enter Try.func25, Try.ntmps25
    go_wp2_with (go_at_call 45; refine (choose_any { p with Sq := 0 } hh.out.1 hh.out.2 _).mono ?_; rintro e w' ⟨rfl, ⟨⟨n1, os1⟩, rfl⟩⟩; rw [hc]; simp only [S.Pc.cs])
    exact bodyPost_ret (v := .tuple #[.agg (S.ack p).cs, .int .u8 (S.ackV p)]) (ret3_PIC Try.results25 (by simp [S.ackV, hq]) rfl (by simp [go_sem, S.ack, S.Pc.cs, hq]) rfl) rfl ⟨rfl, by (repeat (first | with_reducible exact Adds.refl _ | with_reducible apply Adds.drew | with_reducible apply Adds.drewN | with_reducible apply Adds.alloc | with_reducible apply Adds.more | (with_reducible refine Adds.setCell ?_ ?_ _) | (focus (simp [go_sem]; done)) | (focus (simp [go_sem]; omega))))⟩
  by_cases hq1 : p.Sq = 1
  · have hc : S.low { p with Sq := 2 } = S.low p := rfl
    go_enter Try.func25, Try.ntmps25
    go_wp2_with fail
    go_region_with (go_at_call 46; refine (low_any { p with Sq := 2 } _).mono ?_; rintro e w' ⟨rfl, ⟨⟨n1, os1⟩, rfl⟩⟩; rw [hc])
    all_goals go_wp2_with fail
    all_goals exact bodyPost_ret (v := .tuple #[.agg (S.ack p).cs, .int .u8 (S.ackV p)]) (ret3_PIC Try.results25 (by simp [Act.put, S.ackV, hq1]) rfl (by simp [go_sem, S.ack, S.Pc.cs, hq1]) rfl) rfl ⟨rfl, by (repeat (first | with_reducible exact Adds.refl _ | with_reducible apply Adds.drew | with_reducible apply Adds.drewN | with_reducible apply Adds.alloc | with_reducible apply Adds.more | (with_reducible refine Adds.setCell ?_ ?_ _) | (focus (simp [go_sem]; done)) | (focus (simp [go_sem]; omega))))⟩
  · go_enter Try.func25, Try.ntmps25
    go_wp2_with fail
    go_region_with (go_at_call 47; refine (finish_any p _).mono ?_; rintro e w' ⟨rfl, ⟨⟨n1, os1⟩, rfl⟩⟩; simp only [S.Pc.cs])
    all_goals go_wp2_with fail
    all_goals exact bodyPost_ret (v := .tuple #[.agg (S.ack p).cs, .int .u8 (S.ackV p)]) (ret3_PIC Try.results25 (by simp [Act.put, S.ackV, hq, hq1]) rfl (by simp [go_sem, S.ack, S.Pc.cs, hq, hq1]) rfl) rfl ⟨rfl, by (repeat (first | with_reducible exact Adds.refl _ | with_reducible apply Adds.drew | with_reducible apply Adds.drewN | with_reducible apply Adds.alloc | with_reducible apply Adds.more | (with_reducible refine Adds.setCell ?_ ?_ _) | (focus (simp [go_sem]; done)) | (focus (simp [go_sem]; omega))))⟩
set_option maxHeartbeats 8000000 in
theorem rack_any (p : S.Pc) (h0 : 0 ≤ p.IS) (h1 : p.IS < 256) (w : World) : Calls Try.prog 26 #[.agg #[.int .i64 p.St, .bool p.Le, .bool p.Fo, .bool p.Si, .bool p.Ft, .int .u8 p.Lw, .int .u8 p.Hg, .bool p.Au, .bool p.Ro, .bool p.Sp, .bool p.RI, .bool p.Po, .int .u8 p.Li, .int .u8 p.Ed, .int .u8 p.IS, .int .u8 p.IM, .int .i64 p.Lo, .int .i64 p.Sq, .int .i64 p.Sv, .bool p.Su]] w fun e w' => e = .returned (.tuple #[.agg (S.ack p).cs, .int .u8 (S.ackV p)]) ∧ Adds w w' := by
  have hh : Hid _ := And.intro h0 h1
  clear h0 h1
  have e7 := S.pr_and7 p.Sv
  have b0 : 0 ≤ p.Sv % 8 := by omega
  have b1 : p.Sv % 8 < 8 := by omega
  have hm1 : ¬ p.Sv % 8 = -1 := by omega
  by_cases hq : p.Sq = 0
  · have hb := S.pkc_bd p
    obtain ⟨n, en⟩ : ∃ n, S.pkc p = n := ⟨_, rfl⟩
    rw [en] at hb
    have EN : Hid (S.pkc p = n) := en
    have EV : Hid (S.pkc { p with Sq := 0 } = n) := en
    clear en
    rcases (by omega : n = -1 ∨ 0 ≤ n) with hn | hn
    · subst hn
      go_enter Try.func26, Try.ntmps26
      go_wp2_with (go_at_call 34; refine (rpick_any { p with Sq := 0 } hh.out.1 hh.out.2 _).mono ?_; rintro e w' ⟨rfl, ⟨⟨n1, os1⟩, rfl⟩⟩; rw [EV.out])
      exact bodyPost_ret (v := .tuple #[.agg (S.ack p).cs, .int .u8 (S.ackV p)]) (ret3_PIC Try.results26 (by simp [S.ackV, hq]) rfl (by simp [go_sem, S.ack, S.ch, S.Pc.cs, hq, EN.out]) rfl) rfl ⟨rfl, by (repeat (first | with_reducible exact Adds.refl _ | with_reducible apply Adds.drew | with_reducible apply Adds.drewN | with_reducible apply Adds.alloc | with_reducible apply Adds.more | (with_reducible refine Adds.setCell ?_ ?_ _) | (focus (simp [go_sem]; done)) | (focus (simp [go_sem]; omega))))⟩
    · have n8 : n < 8 := hb.2
      have hn1 : ¬ n = -1 := by omega
      go_enter Try.func26, Try.ntmps26
      go_wp2_with (first | (go_at_call 34; refine (rpick_any { p with Sq := 0 } hh.out.1 hh.out.2 _).mono ?_; rintro e w' ⟨rfl, ⟨⟨n1, os1⟩, rfl⟩⟩; rw [EV.out]) | (go_at_call 43; refine (take_any { p with Sq := 1, Sv := 7, Su := true } n hn n8 _).mono ?_; rintro e w' ⟨rfl, ⟨⟨n2, os2⟩, rfl⟩⟩; simp only [S.Pc.cs, S.sv]))
      exact bodyPost_ret (v := .tuple #[.agg (S.ack p).cs, .int .u8 (S.ackV p)]) (ret3_PIC Try.results26 (by simp [S.ackV, hq]) rfl (by simp [go_sem, S.ack, S.ch, S.sv, S.Pc.cs, hq, EN.out, hn1]) rfl) rfl ⟨rfl, by (repeat (first | with_reducible exact Adds.refl _ | with_reducible apply Adds.drew | with_reducible apply Adds.drewN | with_reducible apply Adds.alloc | with_reducible apply Adds.more | (with_reducible refine Adds.setCell ?_ ?_ _) | (focus (simp [go_sem]; done)) | (focus (simp [go_sem]; omega))))⟩
  by_cases hq1 : p.Sq = 1
  · by_cases hf : p.Fo = true
    all_goals
      go_enter Try.func26, Try.ntmps26
      go_wp2_with fail
      go_region
      all_goals go_wp2_with fail
      all_goals exact bodyPost_ret (v := .tuple #[.agg (S.ack p).cs, .int .u8 (S.ackV p)]) (ret3_PIC Try.results26 (by simp [S.ackV, S.low, hq1, hf] <;> omega) rfl (by simp [go_sem, S.ack, S.Pc.cs, hq1, hf]) rfl) rfl ⟨rfl, by (repeat (first | with_reducible exact Adds.refl _ | with_reducible apply Adds.drew | with_reducible apply Adds.drewN | with_reducible apply Adds.alloc | with_reducible apply Adds.more | (with_reducible refine Adds.setCell ?_ ?_ _) | (focus (simp [go_sem]; done)) | (focus (simp [go_sem]; omega))))⟩
  · by_cases ha : p.Au = true
    · by_cases hs : p.Su = true
      all_goals
        go_enter Try.func26, Try.ntmps26
        go_wp2_with (go_at_call 44; refine (done_any { p with Sq := 0, Au := true, Su := false } (p.Sv % 8) b0 b1 _).mono ?_; rintro e w' ⟨rfl, ⟨⟨n3, os3⟩, rfl⟩⟩; simp only [S.Pc.cs])
        go_region
        all_goals go_wp2_with fail
        all_goals exact bodyPost_ret (v := .tuple #[.agg (S.ack p).cs, .int .u8 (S.ackV p)]) (ret3_PIC Try.results26 (by simp [S.ackV, S.en, hm1, hq, hq1]) rfl (by simp [go_sem, S.ack, S.fin, S.en, S.Pc.cs, hq, hq1, ha, hs, hm1]) rfl) rfl ⟨rfl, by (repeat (first | with_reducible exact Adds.refl _ | with_reducible apply Adds.drew | with_reducible apply Adds.drewN | with_reducible apply Adds.alloc | with_reducible apply Adds.more | (with_reducible refine Adds.setCell ?_ ?_ _) | (focus (simp [go_sem]; done)) | (focus (simp [go_sem]; omega))))⟩
    · go_enter Try.func26, Try.ntmps26
      go_wp2_with fail
      go_region
      all_goals go_wp2_with fail
      all_goals exact bodyPost_ret (v := .tuple #[.agg (S.ack p).cs, .int .u8 (S.ackV p)]) (ret3_PIC Try.results26 (by simp [S.ackV, hq, hq1]) rfl (by simp [go_sem, S.ack, S.fin, S.Pc.cs, hq, hq1, ha]) rfl) rfl ⟨rfl, by (repeat (first | with_reducible exact Adds.refl _ | with_reducible apply Adds.drew | with_reducible apply Adds.drewN | with_reducible apply Adds.alloc | with_reducible apply Adds.more | (with_reducible refine Adds.setCell ?_ ?_ _) | (focus (simp [go_sem]; done)) | (focus (simp [go_sem]; omega))))⟩
end Go.Proofs.Ytionembpmfahlaa
