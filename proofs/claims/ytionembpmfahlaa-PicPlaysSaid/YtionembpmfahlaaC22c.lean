/- Contract of package pic: command. Conditions: ISR and the written byte are bytes. -/
import Derived.Test.YtionembpmfahlaaC22
namespace Go.Proofs.Ytionembpmfahlaa
open Go.ChangeShapes Go.WideShapes Go.ChangeAt Go.RowKit
set_option linter.unusedVariables false
set_option maxHeartbeats 4000000 in
theorem cmd_any (p : S.Pc) (v : Int) (v0 : 0 ≤ v) (v1 : v < 256) (h0 : 0 ≤ p.IS) (h1 : p.IS < 256) (w : World) : Calls Try.prog 38 #[.agg #[.int .i64 p.St, .bool p.Le, .bool p.Fo, .bool p.Si, .bool p.Ft, .int .u8 p.Lw, .int .u8 p.Hg, .bool p.Au, .bool p.Ro, .bool p.Sp, .bool p.RI, .bool p.Po, .int .u8 p.Li, .int .u8 p.Ed, .int .u8 p.IS, .int .u8 p.IM, .int .i64 p.Lo, .int .i64 p.Sq, .int .i64 p.Sv, .bool p.Su], .int .u8 v] w fun e w' => e = .returned (.agg (S.cmd p v).cs) ∧ Adds w w' := by
  have e7 := S.and7_8 v v0 v1
  have hh : Hid _ := And.intro h0 h1
  have b0 : 0 ≤ v % 8 := by omega
  have b1 : v % 8 < 8 := by omega
  rcases (by omega : v / 32 = 0 ∨ v / 32 = 1 ∨ v / 32 = 2 ∨ v / 32 = 3 ∨ v / 32 = 4 ∨ v / 32 = 5 ∨ v / 32 = 6 ∨ v / 32 = 7) with h | h | h | h | h | h | h | h
  · have hv : S.cmd p v = { p with Ro := false } := by simp [S.cmd, h]
    rw [hv]
    clear hv h0 h1
    go_enter Try.func38, Try.ntmps38
    go_wp2_with (go_at_call 54; refine (end_some p (v % 8) _ b0 b1 _).mono ?_; rintro e w' ⟨rfl, ⟨⟨n1, os1⟩, rfl⟩⟩; simp only [S.Pc.cs])
    try (go_region_with (first | (go_at_call 55; refine (his_any p hh.out.1 hh.out.2 _).mono ?_; rintro e w' ⟨rfl, ⟨⟨n1, os1⟩, rfl⟩⟩) | (go_at_call 54; refine (end_any p _ _ (S.his_bd p) _).mono ?_; rintro e w' ⟨rfl, ⟨⟨n2, os2⟩, rfl⟩⟩; simp only [S.Pc.cs])))
    all_goals go_wp2_with fail
    all_goals exact bodyPost_ret (v := .agg ({ p with Ro := false } : S.Pc).cs) (ret_PIC Try.results38 rfl (by simp [go_sem, S.Pc.cs]) rfl) rfl ⟨rfl, by (repeat (first | with_reducible exact Adds.refl _ | with_reducible apply Adds.drew | with_reducible apply Adds.drewN | with_reducible apply Adds.alloc | with_reducible apply Adds.more | (with_reducible refine Adds.setCell ?_ ?_ _) | (focus (simp [go_sem]; done)) | (focus (simp [go_sem]; omega))))⟩
  · have hv : S.cmd p v = S.en p (S.his p) false := by simp [S.cmd, h]
    rw [hv]
    clear hv h0 h1
    go_enter Try.func38, Try.ntmps38
    go_wp2_with (go_at_call 54; refine (end_some p (v % 8) _ b0 b1 _).mono ?_; rintro e w' ⟨rfl, ⟨⟨n1, os1⟩, rfl⟩⟩; simp only [S.Pc.cs])
    try (go_region_with (first | (go_at_call 55; refine (his_any p hh.out.1 hh.out.2 _).mono ?_; rintro e w' ⟨rfl, ⟨⟨n1, os1⟩, rfl⟩⟩) | (go_at_call 54; refine (end_any p _ _ (S.his_bd p) _).mono ?_; rintro e w' ⟨rfl, ⟨⟨n2, os2⟩, rfl⟩⟩; simp only [S.Pc.cs])))
    all_goals go_wp2_with fail
    all_goals exact bodyPost_ret (v := .agg (S.en p (S.his p) false : S.Pc).cs) (ret_PIC Try.results38 rfl (by simp [go_sem, S.Pc.cs]) rfl) rfl ⟨rfl, by (repeat (first | with_reducible exact Adds.refl _ | with_reducible apply Adds.drew | with_reducible apply Adds.drewN | with_reducible apply Adds.alloc | with_reducible apply Adds.more | (with_reducible refine Adds.setCell ?_ ?_ _) | (focus (simp [go_sem]; done)) | (focus (simp [go_sem]; omega))))⟩
  · have hv : S.cmd p v = p := by simp [S.cmd, h]
    rw [hv]
    clear hv h0 h1
    go_enter Try.func38, Try.ntmps38
    go_wp2_with (go_at_call 54; refine (end_some p (v % 8) _ b0 b1 _).mono ?_; rintro e w' ⟨rfl, ⟨⟨n1, os1⟩, rfl⟩⟩; simp only [S.Pc.cs])
    try (go_region_with (first | (go_at_call 55; refine (his_any p hh.out.1 hh.out.2 _).mono ?_; rintro e w' ⟨rfl, ⟨⟨n1, os1⟩, rfl⟩⟩) | (go_at_call 54; refine (end_any p _ _ (S.his_bd p) _).mono ?_; rintro e w' ⟨rfl, ⟨⟨n2, os2⟩, rfl⟩⟩; simp only [S.Pc.cs])))
    all_goals go_wp2_with fail
    all_goals exact bodyPost_ret (v := .agg (p : S.Pc).cs) (ret_PIC Try.results38 rfl (by simp [go_sem, S.Pc.cs]) rfl) rfl ⟨rfl, by (repeat (first | with_reducible exact Adds.refl _ | with_reducible apply Adds.drew | with_reducible apply Adds.drewN | with_reducible apply Adds.alloc | with_reducible apply Adds.more | (with_reducible refine Adds.setCell ?_ ?_ _) | (focus (simp [go_sem]; done)) | (focus (simp [go_sem]; omega))))⟩
  · have hv : S.cmd p v = S.en p (v % 8) false := by simp [S.cmd, h]
    rw [hv]
    clear hv h0 h1
    go_enter Try.func38, Try.ntmps38
    go_wp2_with (go_at_call 54; refine (end_some p (v % 8) _ b0 b1 _).mono ?_; rintro e w' ⟨rfl, ⟨⟨n1, os1⟩, rfl⟩⟩; simp only [S.Pc.cs])
    try (go_region_with (first | (go_at_call 55; refine (his_any p hh.out.1 hh.out.2 _).mono ?_; rintro e w' ⟨rfl, ⟨⟨n1, os1⟩, rfl⟩⟩) | (go_at_call 54; refine (end_any p _ _ (S.his_bd p) _).mono ?_; rintro e w' ⟨rfl, ⟨⟨n2, os2⟩, rfl⟩⟩; simp only [S.Pc.cs])))
    all_goals go_wp2_with fail
    all_goals exact bodyPost_ret (v := .agg (S.en p (v % 8) false : S.Pc).cs) (ret_PIC Try.results38 rfl (by simp [go_sem, S.Pc.cs]) rfl) rfl ⟨rfl, by (repeat (first | with_reducible exact Adds.refl _ | with_reducible apply Adds.drew | with_reducible apply Adds.drewN | with_reducible apply Adds.alloc | with_reducible apply Adds.more | (with_reducible refine Adds.setCell ?_ ?_ _) | (focus (simp [go_sem]; done)) | (focus (simp [go_sem]; omega))))⟩
  · have hv : S.cmd p v = { p with Ro := true } := by simp [S.cmd, h]
    rw [hv]
    clear hv h0 h1
    go_enter Try.func38, Try.ntmps38
    go_wp2_with (go_at_call 54; refine (end_some p (v % 8) _ b0 b1 _).mono ?_; rintro e w' ⟨rfl, ⟨⟨n1, os1⟩, rfl⟩⟩; simp only [S.Pc.cs])
    try (go_region_with (first | (go_at_call 55; refine (his_any p hh.out.1 hh.out.2 _).mono ?_; rintro e w' ⟨rfl, ⟨⟨n1, os1⟩, rfl⟩⟩) | (go_at_call 54; refine (end_any p _ _ (S.his_bd p) _).mono ?_; rintro e w' ⟨rfl, ⟨⟨n2, os2⟩, rfl⟩⟩; simp only [S.Pc.cs])))
    all_goals go_wp2_with fail
    all_goals exact bodyPost_ret (v := .agg ({ p with Ro := true } : S.Pc).cs) (ret_PIC Try.results38 rfl (by simp [go_sem, S.Pc.cs]) rfl) rfl ⟨rfl, by (repeat (first | with_reducible exact Adds.refl _ | with_reducible apply Adds.drew | with_reducible apply Adds.drewN | with_reducible apply Adds.alloc | with_reducible apply Adds.more | (with_reducible refine Adds.setCell ?_ ?_ _) | (focus (simp [go_sem]; done)) | (focus (simp [go_sem]; omega))))⟩
  · have hv : S.cmd p v = S.en p (S.his p) true := by simp [S.cmd, h]
    rw [hv]
    clear hv h0 h1
    go_enter Try.func38, Try.ntmps38
    go_wp2_with (go_at_call 54; refine (end_some p (v % 8) _ b0 b1 _).mono ?_; rintro e w' ⟨rfl, ⟨⟨n1, os1⟩, rfl⟩⟩; simp only [S.Pc.cs])
    try (go_region_with (first | (go_at_call 55; refine (his_any p hh.out.1 hh.out.2 _).mono ?_; rintro e w' ⟨rfl, ⟨⟨n1, os1⟩, rfl⟩⟩) | (go_at_call 54; refine (end_any p _ _ (S.his_bd p) _).mono ?_; rintro e w' ⟨rfl, ⟨⟨n2, os2⟩, rfl⟩⟩; simp only [S.Pc.cs])))
    all_goals go_wp2_with fail
    all_goals exact bodyPost_ret (v := .agg (S.en p (S.his p) true : S.Pc).cs) (ret_PIC Try.results38 rfl (by simp [go_sem, S.Pc.cs]) rfl) rfl ⟨rfl, by (repeat (first | with_reducible exact Adds.refl _ | with_reducible apply Adds.drew | with_reducible apply Adds.drewN | with_reducible apply Adds.alloc | with_reducible apply Adds.more | (with_reducible refine Adds.setCell ?_ ?_ _) | (focus (simp [go_sem]; done)) | (focus (simp [go_sem]; omega))))⟩
  · have hv : S.cmd p v = { p with Lo := v % 8 } := by simp [S.cmd, h]
    rw [hv]
    clear hv h0 h1
    go_enter Try.func38, Try.ntmps38
    go_wp2_with (go_at_call 54; refine (end_some p (v % 8) _ b0 b1 _).mono ?_; rintro e w' ⟨rfl, ⟨⟨n1, os1⟩, rfl⟩⟩; simp only [S.Pc.cs])
    try (go_region_with (first | (go_at_call 55; refine (his_any p hh.out.1 hh.out.2 _).mono ?_; rintro e w' ⟨rfl, ⟨⟨n1, os1⟩, rfl⟩⟩) | (go_at_call 54; refine (end_any p _ _ (S.his_bd p) _).mono ?_; rintro e w' ⟨rfl, ⟨⟨n2, os2⟩, rfl⟩⟩; simp only [S.Pc.cs])))
    all_goals go_wp2_with fail
    all_goals exact bodyPost_ret (v := .agg ({ p with Lo := v % 8 } : S.Pc).cs) (ret_PIC Try.results38 rfl (by simp [go_sem, S.Pc.cs]) rfl) rfl ⟨rfl, by (repeat (first | with_reducible exact Adds.refl _ | with_reducible apply Adds.drew | with_reducible apply Adds.drewN | with_reducible apply Adds.alloc | with_reducible apply Adds.more | (with_reducible refine Adds.setCell ?_ ?_ _) | (focus (simp [go_sem]; done)) | (focus (simp [go_sem]; omega))))⟩
  · have hv : S.cmd p v = S.en p (v % 8) true := by simp [S.cmd, h]
    rw [hv]
    clear hv h0 h1
    go_enter Try.func38, Try.ntmps38
    go_wp2_with (go_at_call 54; refine (end_some p (v % 8) _ b0 b1 _).mono ?_; rintro e w' ⟨rfl, ⟨⟨n1, os1⟩, rfl⟩⟩; simp only [S.Pc.cs])
    try (go_region_with (first | (go_at_call 55; refine (his_any p hh.out.1 hh.out.2 _).mono ?_; rintro e w' ⟨rfl, ⟨⟨n1, os1⟩, rfl⟩⟩) | (go_at_call 54; refine (end_any p _ _ (S.his_bd p) _).mono ?_; rintro e w' ⟨rfl, ⟨⟨n2, os2⟩, rfl⟩⟩; simp only [S.Pc.cs])))
    all_goals go_wp2_with fail
    all_goals exact bodyPost_ret (v := .agg (S.en p (v % 8) true : S.Pc).cs) (ret_PIC Try.results38 rfl (by simp [go_sem, S.Pc.cs]) rfl) rfl ⟨rfl, by (repeat (first | with_reducible exact Adds.refl _ | with_reducible apply Adds.drew | with_reducible apply Adds.drewN | with_reducible apply Adds.alloc | with_reducible apply Adds.more | (with_reducible refine Adds.setCell ?_ ?_ _) | (focus (simp [go_sem]; done)) | (focus (simp [go_sem]; omega))))⟩
end Go.Proofs.Ytionembpmfahlaa
