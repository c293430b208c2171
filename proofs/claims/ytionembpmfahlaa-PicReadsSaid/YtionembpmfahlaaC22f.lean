/- Contracts of package pic: poll, and of both sides' Read. Condition: ISR is a byte. -/
import Derived.Test.YtionembpmfahlaaC22
namespace Go.Proofs.Ytionembpmfahlaa
open Go.ChangeShapes Go.WideShapes Go.ChangeAt Go.RowKit
set_option linter.unusedVariables false
set_option maxHeartbeats 4000000 in
theorem poll_any (p : S.Pc) (h0 : 0 ≤ p.IS) (h1 : p.IS < 256) (w : World) : Calls Try.prog 42 #[.agg #[.int .i64 p.St, .bool p.Le, .bool p.Fo, .bool p.Si, .bool p.Ft, .int .u8 p.Lw, .int .u8 p.Hg, .bool p.Au, .bool p.Ro, .bool p.Sp, .bool p.RI, .bool p.Po, .int .u8 p.Li, .int .u8 p.Ed, .int .u8 p.IS, .int .u8 p.IM, .int .i64 p.Lo, .int .i64 p.Sq, .int .i64 p.Sv, .bool p.Su]] w fun e w' => e = .returned (.tuple #[.agg (S.poll p).cs, .int .u8 (S.pollV p)]) ∧ Adds w w' := by
  have hh : Hid _ := And.intro h0 h1
  clear h0 h1
  have hb := S.pkc_bd p
  obtain ⟨n, en⟩ : ∃ n, S.pkc p = n := ⟨_, rfl⟩
  rw [en] at hb
  have EN : Hid (S.pkc p = n) := en
  have EV : Hid (S.pkc { p with Po := false } = n) := en
  clear en
  rcases (by omega : n = -1 ∨ 0 ≤ n) with hn | hn
  · subst hn
    go_enter Try.func42, Try.ntmps42
    go_wp2_with (go_at_call 33; refine (pick_any { p with Po := false } hh.out.1 hh.out.2 _).mono ?_; rintro e w' ⟨rfl, ⟨⟨n1, os1⟩, rfl⟩⟩; rw [EV.out])
    exact bodyPost_ret (v := .tuple #[.agg (S.poll p).cs, .int .u8 (S.pollV p)]) (ret3_PIC Try.results42 (by simp [S.pollV, EN.out]) rfl (by simp [go_sem, S.poll, S.Pc.cs, EN.out]) rfl) rfl ⟨rfl, by (repeat (first | with_reducible exact Adds.refl _ | with_reducible apply Adds.drew | with_reducible apply Adds.drewN | with_reducible apply Adds.alloc | with_reducible apply Adds.more | (with_reducible refine Adds.setCell ?_ ?_ _) | (focus (simp [go_sem]; done)) | (focus (simp [go_sem]; omega))))⟩
  · have n8 : n < 8 := hb.2
    have hn1 : ¬ n = -1 := by omega
    have hg : (n == -1) = false := by simpa using hn1
    have e1 := S.or128 n hn n8
    go_enter Try.func42, Try.ntmps42
    go_wp2_with (first | (go_at_call 33; refine (pick_any { p with Po := false } hh.out.1 hh.out.2 _).mono ?_; rintro e w' ⟨rfl, ⟨⟨n1, os1⟩, rfl⟩⟩; rw [EV.out]) | (go_at_call 56; refine (serve_any { p with Po := false } n hn n8 _).mono ?_; rintro e w' ⟨rfl, ⟨⟨n2, os2⟩, rfl⟩⟩; simp only [S.Pc.cs, S.sv]) | (go_at_call 54; refine (end_some ⟨p.St, p.Le, p.Fo, p.Si, p.Ft, p.Lw, p.Hg, true, p.Ro, p.Sp, p.RI, false, p.Li, bits .andNot .u8 p.Ed (S.bl n), bits .or .u8 p.IS (S.bl n), p.IM, p.Lo, p.Sq, p.Sv, p.Su⟩ n p.Ro hn n8 _).mono ?_; rintro e w' ⟨rfl, ⟨⟨n3, os3⟩, rfl⟩⟩; simp only [S.Pc.cs]))
    all_goals exact bodyPost_ret (v := .tuple #[.agg (S.poll p).cs, .int .u8 (S.pollV p)]) (ret3_PIC Try.results42 (by simp [S.pollV, EN.out, hn1]) rfl (by simp [go_sem, S.poll, S.en, S.sv, S.Pc.cs, EN.out, *]) rfl) rfl ⟨rfl, by (repeat (first | with_reducible exact Adds.refl _ | with_reducible apply Adds.drew | with_reducible apply Adds.drewN | with_reducible apply Adds.alloc | with_reducible apply Adds.more | (with_reducible refine Adds.setCell ?_ ?_ _) | (focus (simp [go_sem]; done)) | (focus (simp [go_sem]; omega))))⟩
set_option maxHeartbeats 4000000 in
theorem read_any (p : S.Pc) (hi : Bool) (h0 : 0 ≤ p.IS) (h1 : p.IS < 256) (w : World) : Calls Try.prog 23 #[.agg #[.int .i64 p.St, .bool p.Le, .bool p.Fo, .bool p.Si, .bool p.Ft, .int .u8 p.Lw, .int .u8 p.Hg, .bool p.Au, .bool p.Ro, .bool p.Sp, .bool p.RI, .bool p.Po, .int .u8 p.Li, .int .u8 p.Ed, .int .u8 p.IS, .int .u8 p.IM, .int .i64 p.Lo, .int .i64 p.Sq, .int .i64 p.Sv, .bool p.Su], .bool hi] w fun e w' => e = .returned (.tuple #[.agg (S.rdP p hi).cs, .int .u8 (S.rdW p hi)]) ∧ Adds w w' := by
  have hh : Hid _ := And.intro h0 h1
  clear h0 h1
  cases hi
  · by_cases hp : p.Po = true
    · go_enter Try.func23, Try.ntmps23
      go_wp2_with (go_at_call 42; refine (poll_any { p with Po := true } hh.out.1 hh.out.2 _).mono ?_; rintro e w' ⟨rfl, ⟨⟨n1, os1⟩, rfl⟩⟩; simp only [S.Pc.cs])
      exact bodyPost_ret (v := .tuple #[.agg (S.rdP p false).cs, .int .u8 (S.rdW p false)]) (ret3_PIC Try.results23 (by simp [S.rdW, hp]; rfl) rfl (by simp [go_sem, S.rdP, S.Pc.cs, hp]; exact ⟨rfl, rfl, rfl, rfl, rfl, rfl, rfl, rfl, rfl, rfl, rfl, rfl, rfl, rfl, rfl, rfl, rfl, rfl, rfl, rfl⟩) rfl) rfl ⟨rfl, by (repeat (first | with_reducible exact Adds.refl _ | with_reducible apply Adds.drew | with_reducible apply Adds.drewN | with_reducible apply Adds.alloc | with_reducible apply Adds.more | (with_reducible refine Adds.setCell ?_ ?_ _) | (focus (simp [go_sem]; done)) | (focus (simp [go_sem]; omega))))⟩
    · by_cases hr : p.RI = true
      · go_enter Try.func23, Try.ntmps23
        go_wp2_with fail
        go_region
        all_goals go_wp2_with fail
        all_goals exact bodyPost_ret (v := .tuple #[.agg (S.rdP p false).cs, .int .u8 (S.rdW p false)]) (ret3_PIC Try.results23 (by simp [S.rdW, hp, hr]) rfl (by simp [go_sem, S.rdP, S.Pc.cs, hp, hr]) rfl) rfl ⟨rfl, by (repeat (first | with_reducible exact Adds.refl _ | with_reducible apply Adds.drew | with_reducible apply Adds.drewN | with_reducible apply Adds.alloc | with_reducible apply Adds.more | (with_reducible refine Adds.setCell ?_ ?_ _) | (focus (simp [go_sem]; done)) | (focus (simp [go_sem]; omega))))⟩
      · go_enter Try.func23, Try.ntmps23
        go_wp2_with fail
        go_region_with (go_at_call 15; refine (req_any { p with Po := false, RI := false } _).mono ?_; rintro e w' ⟨rfl, ⟨⟨n1, os1⟩, rfl⟩⟩)
        all_goals go_wp2_with fail
        all_goals exact bodyPost_ret (v := .tuple #[.agg (S.rdP p false).cs, .int .u8 (S.rdW p false)]) (ret3_PIC Try.results23 (by simp [Act.put, S.rdW, hp, hr]; rfl) rfl (by simp [go_sem, S.rdP, S.Pc.cs, hp, hr]) rfl) rfl ⟨rfl, by (repeat (first | with_reducible exact Adds.refl _ | with_reducible apply Adds.drew | with_reducible apply Adds.drewN | with_reducible apply Adds.alloc | with_reducible apply Adds.more | (with_reducible refine Adds.setCell ?_ ?_ _) | (focus (simp [go_sem]; done)) | (focus (simp [go_sem]; omega))))⟩
  · go_enter Try.func23, Try.ntmps23
    go_wp2_with fail
    go_region
    all_goals go_wp2_with fail
    all_goals exact bodyPost_ret (v := .tuple #[.agg (S.rdP p true).cs, .int .u8 (S.rdW p true)]) (ret3_PIC Try.results23 (by simp [S.rdW]) rfl (by simp [go_sem, S.rdP, S.Pc.cs]) rfl) rfl ⟨rfl, by (repeat (first | with_reducible exact Adds.refl _ | with_reducible apply Adds.drew | with_reducible apply Adds.drewN | with_reducible apply Adds.alloc | with_reducible apply Adds.more | (with_reducible refine Adds.setCell ?_ ?_ _) | (focus (simp [go_sem]; done)) | (focus (simp [go_sem]; omega))))⟩
set_option maxHeartbeats 4000000 in
theorem rread_any (p : S.Pc) (hi : Bool) (h0 : 0 ≤ p.IS) (h1 : p.IS < 256) (w : World) : Calls Try.prog 24 #[.agg #[.int .i64 p.St, .bool p.Le, .bool p.Fo, .bool p.Si, .bool p.Ft, .int .u8 p.Lw, .int .u8 p.Hg, .bool p.Au, .bool p.Ro, .bool p.Sp, .bool p.RI, .bool p.Po, .int .u8 p.Li, .int .u8 p.Ed, .int .u8 p.IS, .int .u8 p.IM, .int .i64 p.Lo, .int .i64 p.Sq, .int .i64 p.Sv, .bool p.Su], .bool hi] w fun e w' => e = .returned (.tuple #[.agg (S.rdP p hi).cs, .int .u8 (S.rdW p hi)]) ∧ Adds w w' := by
  have hh : Hid _ := And.intro h0 h1
  clear h0 h1
  cases hi
  · by_cases hp : p.Po = true
    · have hb := S.pkc_bd p
      obtain ⟨n, en⟩ : ∃ n, S.pkc p = n := ⟨_, rfl⟩
      rw [en] at hb
      have EN : Hid (S.pkc p = n) := en
      have EV : Hid (S.pkc { p with Po := true } = n) := en
      clear en
      rcases (by omega : n = -1 ∨ 0 ≤ n) with hn | hn
      · subst hn
        go_enter Try.func24, Try.ntmps24
        go_wp2_with (go_at_call 34; refine (rpick_any { p with Po := true } hh.out.1 hh.out.2 _).mono ?_; rintro e w' ⟨rfl, ⟨⟨n1, os1⟩, rfl⟩⟩; rw [EV.out])
        exact bodyPost_ret (v := .tuple #[.agg (S.rdP p false).cs, .int .u8 (S.rdW p false)]) (ret3_PIC Try.results24 (by simp [S.rdW, S.pollV, hp, EN.out]) rfl (by simp [go_sem, S.rdP, S.poll, S.Pc.cs, hp, EN.out]) rfl) rfl ⟨rfl, by (repeat (first | with_reducible exact Adds.refl _ | with_reducible apply Adds.drew | with_reducible apply Adds.drewN | with_reducible apply Adds.alloc | with_reducible apply Adds.more | (with_reducible refine Adds.setCell ?_ ?_ _) | (focus (simp [go_sem]; done)) | (focus (simp [go_sem]; omega))))⟩
      · have n8 : n < 8 := hb.2
        have hn1 : ¬ n = -1 := by omega
        go_enter Try.func24, Try.ntmps24
        go_wp2_with (first | (go_at_call 34; refine (rpick_any { p with Po := true } hh.out.1 hh.out.2 _).mono ?_; rintro e w' ⟨rfl, ⟨⟨n1, os1⟩, rfl⟩⟩; rw [EV.out]) | (go_at_call 43; refine (take_any { p with Po := false } n hn n8 _).mono ?_; rintro e w' ⟨rfl, ⟨⟨n2, os2⟩, rfl⟩⟩; simp only [S.Pc.cs, S.sv]) | (go_at_call 44; refine (done_any ⟨p.St, p.Le, p.Fo, p.Si, p.Ft, p.Lw, p.Hg, true, p.Ro, p.Sp, p.RI, false, p.Li, bits .andNot .u8 p.Ed (S.bl n), bits .or .u8 p.IS (S.bl n), p.IM, p.Lo, p.Sq, p.Sv, p.Su⟩ n hn n8 _).mono ?_; rintro e w' ⟨rfl, ⟨⟨n3, os3⟩, rfl⟩⟩; simp only [S.Pc.cs]))
        all_goals exact bodyPost_ret (v := .tuple #[.agg (S.rdP p false).cs, .int .u8 (S.rdW p false)]) (ret3_PIC Try.results24 (by simp [S.rdW, S.pollV, hp, EN.out, hn1] <;> omega) rfl (by simp [go_sem, S.rdP, S.poll, S.en, S.sv, S.Pc.cs, EN.out, *]) rfl) rfl ⟨rfl, by (repeat (first | with_reducible exact Adds.refl _ | with_reducible apply Adds.drew | with_reducible apply Adds.drewN | with_reducible apply Adds.alloc | with_reducible apply Adds.more | (with_reducible refine Adds.setCell ?_ ?_ _) | (focus (simp [go_sem]; done)) | (focus (simp [go_sem]; omega))))⟩
    · by_cases hr : p.RI = true
      · go_enter Try.func24, Try.ntmps24
        go_wp2_with fail
        go_region
        all_goals go_wp2_with fail
        all_goals exact bodyPost_ret (v := .tuple #[.agg (S.rdP p false).cs, .int .u8 (S.rdW p false)]) (ret3_PIC Try.results24 (by simp [S.rdW, hp, hr]) rfl (by simp [go_sem, S.rdP, S.Pc.cs, hp, hr]) rfl) rfl ⟨rfl, by (repeat (first | with_reducible exact Adds.refl _ | with_reducible apply Adds.drew | with_reducible apply Adds.drewN | with_reducible apply Adds.alloc | with_reducible apply Adds.more | (with_reducible refine Adds.setCell ?_ ?_ _) | (focus (simp [go_sem]; done)) | (focus (simp [go_sem]; omega))))⟩
      · go_enter Try.func24, Try.ntmps24
        go_wp2_with fail
        go_region_with (go_at_call 16; refine (rreq_any { p with Po := false, RI := false } _).mono ?_; rintro e w' ⟨rfl, ⟨⟨n1, os1⟩, rfl⟩⟩)
        all_goals go_wp2_with fail
        all_goals exact bodyPost_ret (v := .tuple #[.agg (S.rdP p false).cs, .int .u8 (S.rdW p false)]) (ret3_PIC Try.results24 (by simp [Act.put, S.rdW, hp, hr]; rfl) rfl (by simp [go_sem, S.rdP, S.Pc.cs, hp, hr]) rfl) rfl ⟨rfl, by (repeat (first | with_reducible exact Adds.refl _ | with_reducible apply Adds.drew | with_reducible apply Adds.drewN | with_reducible apply Adds.alloc | with_reducible apply Adds.more | (with_reducible refine Adds.setCell ?_ ?_ _) | (focus (simp [go_sem]; done)) | (focus (simp [go_sem]; omega))))⟩
  · go_enter Try.func24, Try.ntmps24
    go_wp2_with fail
    go_region
    all_goals go_wp2_with fail
    all_goals exact bodyPost_ret (v := .tuple #[.agg (S.rdP p true).cs, .int .u8 (S.rdW p true)]) (ret3_PIC Try.results24 (by simp [S.rdW]) rfl (by simp [go_sem, S.rdP, S.Pc.cs]) rfl) rfl ⟨rfl, by (repeat (first | with_reducible exact Adds.refl _ | with_reducible apply Adds.drew | with_reducible apply Adds.drewN | with_reducible apply Adds.alloc | with_reducible apply Adds.more | (with_reducible refine Adds.setCell ?_ ?_ _) | (focus (simp [go_sem]; done)) | (focus (simp [go_sem]; omega))))⟩
end Go.Proofs.Ytionembpmfahlaa
