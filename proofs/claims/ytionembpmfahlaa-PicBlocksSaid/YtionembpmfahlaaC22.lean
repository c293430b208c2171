/- Contracts of package pic and of the reference's chapter 22: each returns the plain functions' values; nothing that was there has changed. Conditions: ISR is a byte where a line is picked; written bytes are bytes. -/
import Derived.Test.YtionembpmfahlaaC21
import Derived.Test.YtionembpmfahlaaS22
import Derived.Test.YtionembpmfahlaaMW
import Derived.Lib.Hide
import Derived.RegionTactic
import Derived.Deep.RegionWith
namespace Go.Proofs.Ytionembpmfahlaa
open Go.ChangeShapes Go.WideShapes Go.ChangeAt Go.RowKit
set_option linter.unusedVariables false
theorem new_any (w : World) : Calls Try.prog 19 #[] w fun e w' => e = .returned (.agg S.nw.cs) ∧ Adds w w' := by
  go_enter Try.func19, Try.ntmps19
  go_wp2_with fail
  exact bodyPost_ret (v := .agg S.nw.cs) (ret_PIC Try.results19 rfl (by simp [go_sem, S.nw, S.Pc.cs]) rfl) rfl ⟨rfl, by (repeat (first | with_reducible exact Adds.refl _ | with_reducible apply Adds.drew | with_reducible apply Adds.drewN | with_reducible apply Adds.alloc | with_reducible apply Adds.more | (with_reducible refine Adds.setCell ?_ ?_ _) | (focus (simp [go_sem]; done)) | (focus (simp [go_sem]; omega))))⟩
theorem rnew_any (w : World) : Calls Try.prog 20 #[] w fun e w' => e = .returned (.agg S.nw.cs) ∧ Adds w w' := by
  go_enter Try.func20, Try.ntmps20
  go_wp2_with fail
  exact bodyPost_ret (v := .agg S.nw.cs) (ret_PIC Try.results20 rfl (by simp [go_sem, S.nw, S.Pc.cs]) rfl) rfl ⟨rfl, by (repeat (first | with_reducible exact Adds.refl _ | with_reducible apply Adds.drew | with_reducible apply Adds.drewN | with_reducible apply Adds.alloc | with_reducible apply Adds.more | (with_reducible refine Adds.setCell ?_ ?_ _) | (focus (simp [go_sem]; done)) | (focus (simp [go_sem]; omega))))⟩
theorem raise_any (p : S.Pc) (l : Int) (w : World) : Calls Try.prog 13 #[.agg #[.int .i64 p.St, .bool p.Le, .bool p.Fo, .bool p.Si, .bool p.Ft, .int .u8 p.Lw, .int .u8 p.Hg, .bool p.Au, .bool p.Ro, .bool p.Sp, .bool p.RI, .bool p.Po, .int .u8 p.Li, .int .u8 p.Ed, .int .u8 p.IS, .int .u8 p.IM, .int .i64 p.Lo, .int .i64 p.Sq, .int .i64 p.Sv, .bool p.Su], .int .u8 l] w fun e w' => e = .returned (.agg (S.raise p l).cs) ∧ Adds w w' := by
  go_enter Try.func13, Try.ntmps13
  go_wp2_with fail
  exact bodyPost_ret (v := .agg (S.raise p l).cs) (ret_PIC Try.results13 rfl (by simp [go_sem, S.raise, S.Pc.cs]) rfl) rfl ⟨rfl, by (repeat (first | with_reducible exact Adds.refl _ | with_reducible apply Adds.drew | with_reducible apply Adds.drewN | with_reducible apply Adds.alloc | with_reducible apply Adds.more | (with_reducible refine Adds.setCell ?_ ?_ _) | (focus (simp [go_sem]; done)) | (focus (simp [go_sem]; omega))))⟩
theorem rraise_any (p : S.Pc) (l : Int) (w : World) : Calls Try.prog 14 #[.agg #[.int .i64 p.St, .bool p.Le, .bool p.Fo, .bool p.Si, .bool p.Ft, .int .u8 p.Lw, .int .u8 p.Hg, .bool p.Au, .bool p.Ro, .bool p.Sp, .bool p.RI, .bool p.Po, .int .u8 p.Li, .int .u8 p.Ed, .int .u8 p.IS, .int .u8 p.IM, .int .i64 p.Lo, .int .i64 p.Sq, .int .i64 p.Sv, .bool p.Su], .int .u8 l] w fun e w' => e = .returned (.agg (S.raise p l).cs) ∧ Adds w w' := by
  go_enter Try.func14, Try.ntmps14
  go_wp2_with fail
  exact bodyPost_ret (v := .agg (S.raise p l).cs) (ret_PIC Try.results14 rfl (by simp [go_sem, S.raise, S.Pc.cs]) rfl) rfl ⟨rfl, by (repeat (first | with_reducible exact Adds.refl _ | with_reducible apply Adds.drew | with_reducible apply Adds.drewN | with_reducible apply Adds.alloc | with_reducible apply Adds.more | (with_reducible refine Adds.setCell ?_ ?_ _) | (focus (simp [go_sem]; done)) | (focus (simp [go_sem]; omega))))⟩
theorem req_any (p : S.Pc) (w : World) : Calls Try.prog 15 #[.agg #[.int .i64 p.St, .bool p.Le, .bool p.Fo, .bool p.Si, .bool p.Ft, .int .u8 p.Lw, .int .u8 p.Hg, .bool p.Au, .bool p.Ro, .bool p.Sp, .bool p.RI, .bool p.Po, .int .u8 p.Li, .int .u8 p.Ed, .int .u8 p.IS, .int .u8 p.IM, .int .i64 p.Lo, .int .i64 p.Sq, .int .i64 p.Sv, .bool p.Su]] w fun e w' => e = .returned (.int .u8 (S.req p)) ∧ Adds w w' := by
  by_cases h : p.Le = true
  all_goals
    go_enter Try.func15, Try.ntmps15
    go_wp2_with fail
    go_ret
    exact ⟨ri (by simp [S.req, h]), by (repeat (first | with_reducible exact Adds.refl _ | with_reducible apply Adds.drew | with_reducible apply Adds.drewN | with_reducible apply Adds.alloc | with_reducible apply Adds.more | (with_reducible refine Adds.setCell ?_ ?_ _) | (focus (simp [go_sem]; done)) | (focus (simp [go_sem]; omega))))⟩
theorem rreq_any (p : S.Pc) (w : World) : Calls Try.prog 16 #[.agg #[.int .i64 p.St, .bool p.Le, .bool p.Fo, .bool p.Si, .bool p.Ft, .int .u8 p.Lw, .int .u8 p.Hg, .bool p.Au, .bool p.Ro, .bool p.Sp, .bool p.RI, .bool p.Po, .int .u8 p.Li, .int .u8 p.Ed, .int .u8 p.IS, .int .u8 p.IM, .int .i64 p.Lo, .int .i64 p.Sq, .int .i64 p.Sv, .bool p.Su]] w fun e w' => e = .returned (.int .u8 (S.req p)) ∧ Adds w w' := by
  by_cases h : p.Le = true
  all_goals
    go_enter Try.func16, Try.ntmps16
    go_wp2_with fail
    go_ret
    exact ⟨ri (by simp [S.req, h]), by (repeat (first | with_reducible exact Adds.refl _ | with_reducible apply Adds.drew | with_reducible apply Adds.drewN | with_reducible apply Adds.alloc | with_reducible apply Adds.more | (with_reducible refine Adds.setCell ?_ ?_ _) | (focus (simp [go_sem]; done)) | (focus (simp [go_sem]; omega))))⟩
theorem pick_any (p : S.Pc) (h0 : 0 ≤ p.IS) (h1 : p.IS < 256) (w : World) : Calls Try.prog 33 #[.agg #[.int .i64 p.St, .bool p.Le, .bool p.Fo, .bool p.Si, .bool p.Ft, .int .u8 p.Lw, .int .u8 p.Hg, .bool p.Au, .bool p.Ro, .bool p.Sp, .bool p.RI, .bool p.Po, .int .u8 p.Li, .int .u8 p.Ed, .int .u8 p.IS, .int .u8 p.IM, .int .i64 p.Lo, .int .i64 p.Sq, .int .i64 p.Sv, .bool p.Su]] w fun e w' => e = .returned (.int .i64 (S.pkc p)) ∧ Adds w w' := by
  go_enter Try.func33, Try.ntmps33
  go_wp2_with fail
  refine wp_region_adds (by kernel_rfl) (by kernel_rfl) ?_
  repeat (go_big_quiet_step (first | (go_at_call 15; exact calls_adds (req_any p _)) | (go_at_call 51; exact calls_same (pr_pick _ _ _ _ _ h0 h1 _))))
  refine wpQuiet_nil ?_
  intro _ hw1
  obtain ⟨⟨nq, osq⟩, hw2⟩ := hw1
  subst hw2
  go_wp2_with fail
  go_ret
  exact ⟨rfl, by (repeat (first | with_reducible exact Adds.refl _ | with_reducible apply Adds.drew | with_reducible apply Adds.drewN | with_reducible apply Adds.alloc | with_reducible apply Adds.more | (with_reducible refine Adds.setCell ?_ ?_ _) | (focus (simp [go_sem]; done)) | (focus (simp [go_sem]; omega))))⟩
theorem rpick_any (p : S.Pc) (h0 : 0 ≤ p.IS) (h1 : p.IS < 256) (w : World) : Calls Try.prog 34 #[.agg #[.int .i64 p.St, .bool p.Le, .bool p.Fo, .bool p.Si, .bool p.Ft, .int .u8 p.Lw, .int .u8 p.Hg, .bool p.Au, .bool p.Ro, .bool p.Sp, .bool p.RI, .bool p.Po, .int .u8 p.Li, .int .u8 p.Ed, .int .u8 p.IS, .int .u8 p.IM, .int .i64 p.Lo, .int .i64 p.Sq, .int .i64 p.Sv, .bool p.Su]] w fun e w' => e = .returned (.int .i64 (S.pkc p)) ∧ Adds w w' := by
  go_enter Try.func34, Try.ntmps34
  go_wp2_with fail
  refine wp_region_adds (by kernel_rfl) (by kernel_rfl) ?_
  repeat (go_big_quiet_step (first | (go_at_call 16; exact calls_adds (rreq_any p _)) | (go_at_call 30; exact calls_same (rpr_pick _ _ _ _ _ h0 h1 _))))
  refine wpQuiet_nil ?_
  intro _ hw1
  obtain ⟨⟨nq, osq⟩, hw2⟩ := hw1
  subst hw2
  go_wp2_with fail
  go_ret
  exact ⟨rfl, by (repeat (first | with_reducible exact Adds.refl _ | with_reducible apply Adds.drew | with_reducible apply Adds.drewN | with_reducible apply Adds.alloc | with_reducible apply Adds.more | (with_reducible refine Adds.setCell ?_ ?_ _) | (focus (simp [go_sem]; done)) | (focus (simp [go_sem]; omega))))⟩
theorem int_any (p : S.Pc) (h0 : 0 ≤ p.IS) (h1 : p.IS < 256) (w : World) : Calls Try.prog 17 #[.agg #[.int .i64 p.St, .bool p.Le, .bool p.Fo, .bool p.Si, .bool p.Ft, .int .u8 p.Lw, .int .u8 p.Hg, .bool p.Au, .bool p.Ro, .bool p.Sp, .bool p.RI, .bool p.Po, .int .u8 p.Li, .int .u8 p.Ed, .int .u8 p.IS, .int .u8 p.IM, .int .i64 p.Lo, .int .i64 p.Sq, .int .i64 p.Sv, .bool p.Su]] w fun e w' => e = .returned (.bool (S.int p)) ∧ Adds w w' := by
  have hb := S.pkc_bd p
  go_enter Try.func17, Try.ntmps17
  go_wp2_with (go_at_call 33; refine (pick_any p h0 h1 _).mono ?_; rintro e w' ⟨rfl, ⟨⟨n1, os1⟩, rfl⟩⟩)
  go_ret
  refine ⟨rb ?_, by (repeat (first | with_reducible exact Adds.refl _ | with_reducible apply Adds.drew | with_reducible apply Adds.drewN | with_reducible apply Adds.alloc | with_reducible apply Adds.more | (with_reducible refine Adds.setCell ?_ ?_ _) | (focus (simp [go_sem]; done)) | (focus (simp [go_sem]; omega))))⟩
  first | rfl | (unfold S.int; rw [Bool.eq_iff_iff]; simp; omega)
theorem rint_any (p : S.Pc) (h0 : 0 ≤ p.IS) (h1 : p.IS < 256) (w : World) : Calls Try.prog 18 #[.agg #[.int .i64 p.St, .bool p.Le, .bool p.Fo, .bool p.Si, .bool p.Ft, .int .u8 p.Lw, .int .u8 p.Hg, .bool p.Au, .bool p.Ro, .bool p.Sp, .bool p.RI, .bool p.Po, .int .u8 p.Li, .int .u8 p.Ed, .int .u8 p.IS, .int .u8 p.IM, .int .i64 p.Lo, .int .i64 p.Sq, .int .i64 p.Sv, .bool p.Su]] w fun e w' => e = .returned (.bool (S.int p)) ∧ Adds w w' := by
  have hb := S.pkc_bd p
  go_enter Try.func18, Try.ntmps18
  go_wp2_with (go_at_call 34; refine (rpick_any p h0 h1 _).mono ?_; rintro e w' ⟨rfl, ⟨⟨n1, os1⟩, rfl⟩⟩)
  go_ret
  refine ⟨rb ?_, by (repeat (first | with_reducible exact Adds.refl _ | with_reducible apply Adds.drew | with_reducible apply Adds.drewN | with_reducible apply Adds.alloc | with_reducible apply Adds.more | (with_reducible refine Adds.setCell ?_ ?_ _) | (focus (simp [go_sem]; done)) | (focus (simp [go_sem]; omega))))⟩
  first | rfl | (unfold S.int; rw [Bool.eq_iff_iff]; simp; omega)
theorem serve_any (p : S.Pc) (n : Int) (n0 : 0 ≤ n) (n1 : n < 8) (w : World) : Calls Try.prog 56 #[.agg #[.int .i64 p.St, .bool p.Le, .bool p.Fo, .bool p.Si, .bool p.Ft, .int .u8 p.Lw, .int .u8 p.Hg, .bool p.Au, .bool p.Ro, .bool p.Sp, .bool p.RI, .bool p.Po, .int .u8 p.Li, .int .u8 p.Ed, .int .u8 p.IS, .int .u8 p.IM, .int .i64 p.Lo, .int .i64 p.Sq, .int .i64 p.Sv, .bool p.Su], .int .i64 n] w fun e w' => e = .returned (.agg (S.sv p n).cs) ∧ Adds w w' := by
  go_enter Try.func56, Try.ntmps56
  go_wp2_with fail
  go_region
  go_wp2_with fail
  go_region
  go_wp2_with fail
  exact bodyPost_ret (v := .agg (S.sv p n).cs) (ret_PIC Try.results56 rfl (by simp [go_sem, S.sv, S.bl, S.Pc.cs]) rfl) rfl ⟨rfl, by (repeat (first | with_reducible exact Adds.refl _ | with_reducible apply Adds.drew | with_reducible apply Adds.drewN | with_reducible apply Adds.alloc | with_reducible apply Adds.more | (with_reducible refine Adds.setCell ?_ ?_ _) | (focus (simp [go_sem]; done)) | (focus (simp [go_sem]; omega))))⟩
theorem take_any (p : S.Pc) (n : Int) (n0 : 0 ≤ n) (n1 : n < 8) (w : World) : Calls Try.prog 43 #[.agg #[.int .i64 p.St, .bool p.Le, .bool p.Fo, .bool p.Si, .bool p.Ft, .int .u8 p.Lw, .int .u8 p.Hg, .bool p.Au, .bool p.Ro, .bool p.Sp, .bool p.RI, .bool p.Po, .int .u8 p.Li, .int .u8 p.Ed, .int .u8 p.IS, .int .u8 p.IM, .int .i64 p.Lo, .int .i64 p.Sq, .int .i64 p.Sv, .bool p.Su], .int .i64 n] w fun e w' => e = .returned (.agg (S.sv p n).cs) ∧ Adds w w' := by
  go_enter Try.func43, Try.ntmps43
  go_wp2_with fail
  go_region
  go_wp2_with fail
  go_region
  go_wp2_with fail
  exact bodyPost_ret (v := .agg (S.sv p n).cs) (ret_PIC Try.results43 rfl (by simp [go_sem, S.sv, S.bl, S.Pc.cs]) rfl) rfl ⟨rfl, by (repeat (first | with_reducible exact Adds.refl _ | with_reducible apply Adds.drew | with_reducible apply Adds.drewN | with_reducible apply Adds.alloc | with_reducible apply Adds.more | (with_reducible refine Adds.setCell ?_ ?_ _) | (focus (simp [go_sem]; done)) | (focus (simp [go_sem]; omega))))⟩
theorem end_none (p : S.Pc) (r : Bool) (w : World) : Calls Try.prog 54 #[.agg #[.int .i64 p.St, .bool p.Le, .bool p.Fo, .bool p.Si, .bool p.Ft, .int .u8 p.Lw, .int .u8 p.Hg, .bool p.Au, .bool p.Ro, .bool p.Sp, .bool p.RI, .bool p.Po, .int .u8 p.Li, .int .u8 p.Ed, .int .u8 p.IS, .int .u8 p.IM, .int .i64 p.Lo, .int .i64 p.Sq, .int .i64 p.Sv, .bool p.Su], .int .i64 (-1), .bool r] w fun e w' => e = .returned (.agg (S.en p (-1) r).cs) ∧ Adds w w' := by
  go_enter Try.func54, Try.ntmps54
  go_wp2_with fail
  exact bodyPost_ret (v := .agg (S.en p (-1) r).cs) (ret_PIC Try.results54 rfl (by simp [go_sem, S.en, S.Pc.cs]) rfl) rfl ⟨rfl, by (repeat (first | with_reducible exact Adds.refl _ | with_reducible apply Adds.drew | with_reducible apply Adds.drewN | with_reducible apply Adds.alloc | with_reducible apply Adds.more | (with_reducible refine Adds.setCell ?_ ?_ _) | (focus (simp [go_sem]; done)) | (focus (simp [go_sem]; omega))))⟩
theorem end_some (p : S.Pc) (n : Int) (r : Bool) (n0 : 0 ≤ n) (n1 : n < 8) (w : World) : Calls Try.prog 54 #[.agg #[.int .i64 p.St, .bool p.Le, .bool p.Fo, .bool p.Si, .bool p.Ft, .int .u8 p.Lw, .int .u8 p.Hg, .bool p.Au, .bool p.Ro, .bool p.Sp, .bool p.RI, .bool p.Po, .int .u8 p.Li, .int .u8 p.Ed, .int .u8 p.IS, .int .u8 p.IM, .int .i64 p.Lo, .int .i64 p.Sq, .int .i64 p.Sv, .bool p.Su], .int .i64 n, .bool r] w fun e w' => e = .returned (.agg (S.en p n r).cs) ∧ Adds w w' := by
  have hn : ¬ n = -1 := by omega
  have hg : (n == -1) = false := by simpa using hn
  cases r
  all_goals
    go_enter Try.func54, Try.ntmps54
    go_wp2_with fail
    go_region
    go_wp2_with fail
  · exact bodyPost_ret (v := .agg (S.en p n false).cs) (ret_PIC Try.results54 rfl (by simp [go_sem, S.en, S.bl, S.Pc.cs, hn]) rfl) rfl ⟨rfl, by (repeat (first | with_reducible exact Adds.refl _ | with_reducible apply Adds.drew | with_reducible apply Adds.drewN | with_reducible apply Adds.alloc | with_reducible apply Adds.more | (with_reducible refine Adds.setCell ?_ ?_ _) | (focus (simp [go_sem]; done)) | (focus (simp [go_sem]; omega))))⟩
  · exact bodyPost_ret (v := .agg (S.en p n true).cs) (ret_PIC Try.results54 rfl (by simp [go_sem, S.en, S.bl, S.Pc.cs, hn]) rfl) rfl ⟨rfl, by (repeat (first | with_reducible exact Adds.refl _ | with_reducible apply Adds.drew | with_reducible apply Adds.drewN | with_reducible apply Adds.alloc | with_reducible apply Adds.more | (with_reducible refine Adds.setCell ?_ ?_ _) | (focus (simp [go_sem]; done)) | (focus (simp [go_sem]; omega))))⟩
theorem end_any (p : S.Pc) (n : Int) (r : Bool) (n0 : -1 ≤ n ∧ n < 8) (w : World) : Calls Try.prog 54 #[.agg #[.int .i64 p.St, .bool p.Le, .bool p.Fo, .bool p.Si, .bool p.Ft, .int .u8 p.Lw, .int .u8 p.Hg, .bool p.Au, .bool p.Ro, .bool p.Sp, .bool p.RI, .bool p.Po, .int .u8 p.Li, .int .u8 p.Ed, .int .u8 p.IS, .int .u8 p.IM, .int .i64 p.Lo, .int .i64 p.Sq, .int .i64 p.Sv, .bool p.Su], .int .i64 n, .bool r] w fun e w' => e = .returned (.agg (S.en p n r).cs) ∧ Adds w w' := by
  by_cases h : n = -1
  · subst h
    exact end_none p r w
  · exact end_some p n r (by omega) n0.2 w
theorem done_any (p : S.Pc) (n : Int) (n0 : 0 ≤ n) (n1 : n < 8) (w : World) : Calls Try.prog 44 #[.agg #[.int .i64 p.St, .bool p.Le, .bool p.Fo, .bool p.Si, .bool p.Ft, .int .u8 p.Lw, .int .u8 p.Hg, .bool p.Au, .bool p.Ro, .bool p.Sp, .bool p.RI, .bool p.Po, .int .u8 p.Li, .int .u8 p.Ed, .int .u8 p.IS, .int .u8 p.IM, .int .i64 p.Lo, .int .i64 p.Sq, .int .i64 p.Sv, .bool p.Su], .int .i64 n] w fun e w' => e = .returned (.agg (S.en p n p.Ro).cs) ∧ Adds w w' := by
  have hn : ¬ n = -1 := by omega
  by_cases hr : p.Ro = true
  all_goals
    go_enter Try.func44, Try.ntmps44
    go_wp2_with fail
    go_region
    go_wp2_with fail
    exact bodyPost_ret (v := .agg (S.en p n p.Ro).cs) (ret_PIC Try.results44 rfl (by simp [go_sem, S.en, S.bl, S.Pc.cs, hn, hr]) rfl) rfl ⟨rfl, by (repeat (first | with_reducible exact Adds.refl _ | with_reducible apply Adds.drew | with_reducible apply Adds.drewN | with_reducible apply Adds.alloc | with_reducible apply Adds.more | (with_reducible refine Adds.setCell ?_ ?_ _) | (focus (simp [go_sem]; done)) | (focus (simp [go_sem]; omega))))⟩
theorem his_any (p : S.Pc) (h0 : 0 ≤ p.IS) (h1 : p.IS < 256) (w : World) : Calls Try.prog 55 #[.agg #[.int .i64 p.St, .bool p.Le, .bool p.Fo, .bool p.Si, .bool p.Ft, .int .u8 p.Lw, .int .u8 p.Hg, .bool p.Au, .bool p.Ro, .bool p.Sp, .bool p.RI, .bool p.Po, .int .u8 p.Li, .int .u8 p.Ed, .int .u8 p.IS, .int .u8 p.IM, .int .i64 p.Lo, .int .i64 p.Sq, .int .i64 p.Sv, .bool p.Su]] w fun e w' => e = .returned (.int .i64 (S.his p)) ∧ Adds w w' := by
  have hb : Hid _ := S.andNot_bd p.IS p.IM
  have hc : Hid _ := And.intro h0 h1
  clear h0 h1
  by_cases hs : p.Sp = true
  all_goals
    go_enter Try.func55, Try.ntmps55
    go_wp2_with (go_at_call 58; refine (pr_hi _ _ (by first | with_reducible exact hb.out.1 | with_reducible exact hc.out.1) (by first | with_reducible exact hb.out.2 | with_reducible exact hc.out.2) _).mono ?_; rintro e w' ⟨rfl, rfl⟩)
    go_ret
    exact ⟨ri (by simp [S.his, S.blk, hs]), by (repeat (first | with_reducible exact Adds.refl _ | with_reducible apply Adds.drew | with_reducible apply Adds.drewN | with_reducible apply Adds.alloc | with_reducible apply Adds.more | (with_reducible refine Adds.setCell ?_ ?_ _) | (focus (simp [go_sem]; done)) | (focus (simp [go_sem]; omega))))⟩
theorem aft3_any (p : S.Pc) (w : World) : Calls Try.prog 53 #[.agg #[.int .i64 p.St, .bool p.Le, .bool p.Fo, .bool p.Si, .bool p.Ft, .int .u8 p.Lw, .int .u8 p.Hg, .bool p.Au, .bool p.Ro, .bool p.Sp, .bool p.RI, .bool p.Po, .int .u8 p.Li, .int .u8 p.Ed, .int .u8 p.IS, .int .u8 p.IM, .int .i64 p.Lo, .int .i64 p.Sq, .int .i64 p.Sv, .bool p.Su]] w fun e w' => e = .returned (.int .i64 (S.lst p)) ∧ Adds w w' := by
  by_cases h : p.Ft = true
  all_goals
    go_enter Try.func53, Try.ntmps53
    go_wp2_with fail
    go_ret
    exact ⟨ri (by simp [S.lst, h]), by (repeat (first | with_reducible exact Adds.refl _ | with_reducible apply Adds.drew | with_reducible apply Adds.drewN | with_reducible apply Adds.alloc | with_reducible apply Adds.more | (with_reducible refine Adds.setCell ?_ ?_ _) | (focus (simp [go_sem]; done)) | (focus (simp [go_sem]; omega))))⟩
theorem aft2_any (p : S.Pc) (w : World) : Calls Try.prog 52 #[.agg #[.int .i64 p.St, .bool p.Le, .bool p.Fo, .bool p.Si, .bool p.Ft, .int .u8 p.Lw, .int .u8 p.Hg, .bool p.Au, .bool p.Ro, .bool p.Sp, .bool p.RI, .bool p.Po, .int .u8 p.Li, .int .u8 p.Ed, .int .u8 p.IS, .int .u8 p.IM, .int .i64 p.Lo, .int .i64 p.Sq, .int .i64 p.Sv, .bool p.Su]] w fun e w' => e = .returned (.int .i64 (if p.Si then S.lst p else 3)) ∧ Adds w w' := by
  by_cases h : p.Si = true
  all_goals
    go_enter Try.func52, Try.ntmps52
    go_wp2_with (go_at_call 53; refine (aft3_any { p with Si := true } _).mono ?_; rintro e w' ⟨rfl, ⟨⟨n1, os1⟩, rfl⟩⟩)
    go_ret
    exact ⟨ri (by simp [S.lst]), by (repeat (first | with_reducible exact Adds.refl _ | with_reducible apply Adds.drew | with_reducible apply Adds.drewN | with_reducible apply Adds.alloc | with_reducible apply Adds.more | (with_reducible refine Adds.setCell ?_ ?_ _) | (focus (simp [go_sem]; done)) | (focus (simp [go_sem]; omega))))⟩
end Go.Proofs.Ytionembpmfahlaa
