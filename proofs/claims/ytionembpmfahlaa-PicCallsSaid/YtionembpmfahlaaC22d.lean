/- Contract of the reference's operation. Conditions: ISR and the written byte are bytes. -/
import Derived.Test.YtionembpmfahlaaC22
namespace Go.Proofs.Ytionembpmfahlaa
open Go.ChangeShapes Go.WideShapes Go.ChangeAt Go.RowKit
set_option linter.unusedVariables false
set_option maxHeartbeats 4000000 in
theorem oper_any (p : S.Pc) (v : Int) (v0 : 0 ≤ v) (v1 : v < 256) (h0 : 0 ≤ p.IS) (h1 : p.IS < 256) (w : World) : Calls Try.prog 41 #[.agg #[.int .i64 p.St, .bool p.Le, .bool p.Fo, .bool p.Si, .bool p.Ft, .int .u8 p.Lw, .int .u8 p.Hg, .bool p.Au, .bool p.Ro, .bool p.Sp, .bool p.RI, .bool p.Po, .int .u8 p.Li, .int .u8 p.Ed, .int .u8 p.IS, .int .u8 p.IM, .int .i64 p.Lo, .int .i64 p.Sq, .int .i64 p.Sv, .bool p.Su], .int .u8 v] w fun e w' => e = .returned (.agg (S.cmd p v).cs) ∧ Adds w w' := by
  have e7 := S.and7_8 v v0 v1
  have hh : Hid _ := S.blk_bd p.IM p.IS p.Sp h0 h1
  have b0 : 0 ≤ v % 8 := by omega
  have b1 : v % 8 < 8 := by omega
  have hv7 : ¬ v % 8 = -1 := by omega
  have ht := S.his_bd p
  obtain ⟨t, et⟩ : ∃ t, S.his p = t := ⟨_, rfl⟩
  rw [et] at ht
  have HT : Hid (S.hi (S.blk p.IM p.IS p.Sp) p.Lo = t) := et
  have ET : Hid (S.his p = t) := et
  clear et h0 h1
  rcases (by omega : v / 32 = 0 ∨ v / 32 = 1 ∨ v / 32 = 2 ∨ v / 32 = 3 ∨ v / 32 = 4 ∨ v / 32 = 5 ∨ v / 32 = 6 ∨ v / 32 = 7) with h | h | h | h | h | h | h | h
  · have hv : S.cmd p v = { p with Ro := false } := by simp [S.cmd, h]
    rw [hv]
    clear hv
    rcases (by omega : t = -1 ∨ 0 ≤ t) with ht1 | ht1
    · subst ht1
      go_enter Try.func41, Try.ntmps41
      go_wp2_with fail
      refine wp_region_adds (by kernel_rfl) (by kernel_rfl) ?_
      repeat (go_big_quiet_step (first | (go_at_call 50; exact calls_same (rpr_blk _ _ _ _)) | (go_at_call 49; exact calls_same (HT.out ▸ rpr_hi _ _ hh.out.1 hh.out.2 _))))
      refine wpQuiet_nil ?_
      intro _ hw1
      obtain ⟨⟨nq, osq⟩, hw2⟩ := hw1
      subst hw2
      go_wp2_with fail
      all_goals try go_region
      all_goals go_wp2_with fail
      all_goals exact bodyPost_ret (v := .agg ({ p with Ro := false } : S.Pc).cs) (ret_PIC Try.results41 rfl (by simp [go_sem, S.Pc.cs]) rfl) rfl ⟨rfl, by (repeat (first | with_reducible exact Adds.refl _ | with_reducible apply Adds.drew | with_reducible apply Adds.drewN | with_reducible apply Adds.alloc | with_reducible apply Adds.more | (with_reducible refine Adds.setCell ?_ ?_ _) | (focus (simp [go_sem]; done)) | (focus (simp [go_sem]; omega))))⟩
    · have hn1 : ¬ t = -1 := by omega
      go_enter Try.func41, Try.ntmps41
      go_wp2_with fail
      refine wp_region_adds (by kernel_rfl) (by kernel_rfl) ?_
      repeat (go_big_quiet_step (first | (go_at_call 50; exact calls_same (rpr_blk _ _ _ _)) | (go_at_call 49; exact calls_same (HT.out ▸ rpr_hi _ _ hh.out.1 hh.out.2 _))))
      refine wpQuiet_nil ?_
      intro _ hw1
      obtain ⟨⟨nq, osq⟩, hw2⟩ := hw1
      subst hw2
      go_wp2_with fail
      all_goals try go_region
      all_goals go_wp2_with fail
      all_goals exact bodyPost_ret (v := .agg ({ p with Ro := false } : S.Pc).cs) (ret_PIC Try.results41 rfl (by simp [go_sem, S.Pc.cs]) rfl) rfl ⟨rfl, by (repeat (first | with_reducible exact Adds.refl _ | with_reducible apply Adds.drew | with_reducible apply Adds.drewN | with_reducible apply Adds.alloc | with_reducible apply Adds.more | (with_reducible refine Adds.setCell ?_ ?_ _) | (focus (simp [go_sem]; done)) | (focus (simp [go_sem]; omega))))⟩
  · have hv : S.cmd p v = S.en p t false := by simp [S.cmd, h, ET.out]
    rw [hv]
    clear hv
    rcases (by omega : t = -1 ∨ 0 ≤ t) with ht1 | ht1
    · subst ht1
      go_enter Try.func41, Try.ntmps41
      go_wp2_with fail
      refine wp_region_adds (by kernel_rfl) (by kernel_rfl) ?_
      repeat (go_big_quiet_step (first | (go_at_call 50; exact calls_same (rpr_blk _ _ _ _)) | (go_at_call 49; exact calls_same (HT.out ▸ rpr_hi _ _ hh.out.1 hh.out.2 _))))
      refine wpQuiet_nil ?_
      intro _ hw1
      obtain ⟨⟨nq, osq⟩, hw2⟩ := hw1
      subst hw2
      go_wp2_with fail
      all_goals try go_region
      all_goals go_wp2_with fail
      all_goals exact bodyPost_ret (v := .agg (S.en p (-1) false : S.Pc).cs) (ret_PIC Try.results41 rfl (by simp [go_sem, S.en, S.Pc.cs]) rfl) rfl ⟨rfl, by (repeat (first | with_reducible exact Adds.refl _ | with_reducible apply Adds.drew | with_reducible apply Adds.drewN | with_reducible apply Adds.alloc | with_reducible apply Adds.more | (with_reducible refine Adds.setCell ?_ ?_ _) | (focus (simp [go_sem]; done)) | (focus (simp [go_sem]; omega))))⟩
    · have hn1 : ¬ t = -1 := by omega
      go_enter Try.func41, Try.ntmps41
      go_wp2_with fail
      refine wp_region_adds (by kernel_rfl) (by kernel_rfl) ?_
      repeat (go_big_quiet_step (first | (go_at_call 50; exact calls_same (rpr_blk _ _ _ _)) | (go_at_call 49; exact calls_same (HT.out ▸ rpr_hi _ _ hh.out.1 hh.out.2 _))))
      refine wpQuiet_nil ?_
      intro _ hw1
      obtain ⟨⟨nq, osq⟩, hw2⟩ := hw1
      subst hw2
      go_wp2_with fail
      all_goals try go_region
      all_goals go_wp2_with fail
      all_goals exact bodyPost_ret (v := .agg (S.en p t false : S.Pc).cs) (ret_PIC Try.results41 rfl (by simp [go_sem, S.en, S.bl, S.Pc.cs, hn1]) rfl) rfl ⟨rfl, by (repeat (first | with_reducible exact Adds.refl _ | with_reducible apply Adds.drew | with_reducible apply Adds.drewN | with_reducible apply Adds.alloc | with_reducible apply Adds.more | (with_reducible refine Adds.setCell ?_ ?_ _) | (focus (simp [go_sem]; done)) | (focus (simp [go_sem]; omega))))⟩
  · have hv : S.cmd p v = p := by simp [S.cmd, h]
    rw [hv]
    clear hv
    rcases (by omega : t = -1 ∨ 0 ≤ t) with ht1 | ht1
    · subst ht1
      go_enter Try.func41, Try.ntmps41
      go_wp2_with fail
      refine wp_region_adds (by kernel_rfl) (by kernel_rfl) ?_
      repeat (go_big_quiet_step (first | (go_at_call 50; exact calls_same (rpr_blk _ _ _ _)) | (go_at_call 49; exact calls_same (HT.out ▸ rpr_hi _ _ hh.out.1 hh.out.2 _))))
      refine wpQuiet_nil ?_
      intro _ hw1
      obtain ⟨⟨nq, osq⟩, hw2⟩ := hw1
      subst hw2
      go_wp2_with fail
      all_goals try go_region
      all_goals go_wp2_with fail
      all_goals exact bodyPost_ret (v := .agg (p : S.Pc).cs) (ret_PIC Try.results41 rfl (by simp [go_sem, S.Pc.cs]) rfl) rfl ⟨rfl, by (repeat (first | with_reducible exact Adds.refl _ | with_reducible apply Adds.drew | with_reducible apply Adds.drewN | with_reducible apply Adds.alloc | with_reducible apply Adds.more | (with_reducible refine Adds.setCell ?_ ?_ _) | (focus (simp [go_sem]; done)) | (focus (simp [go_sem]; omega))))⟩
    · have hn1 : ¬ t = -1 := by omega
      go_enter Try.func41, Try.ntmps41
      go_wp2_with fail
      refine wp_region_adds (by kernel_rfl) (by kernel_rfl) ?_
      repeat (go_big_quiet_step (first | (go_at_call 50; exact calls_same (rpr_blk _ _ _ _)) | (go_at_call 49; exact calls_same (HT.out ▸ rpr_hi _ _ hh.out.1 hh.out.2 _))))
      refine wpQuiet_nil ?_
      intro _ hw1
      obtain ⟨⟨nq, osq⟩, hw2⟩ := hw1
      subst hw2
      go_wp2_with fail
      all_goals try go_region
      all_goals go_wp2_with fail
      all_goals exact bodyPost_ret (v := .agg (p : S.Pc).cs) (ret_PIC Try.results41 rfl (by simp [go_sem, S.Pc.cs]) rfl) rfl ⟨rfl, by (repeat (first | with_reducible exact Adds.refl _ | with_reducible apply Adds.drew | with_reducible apply Adds.drewN | with_reducible apply Adds.alloc | with_reducible apply Adds.more | (with_reducible refine Adds.setCell ?_ ?_ _) | (focus (simp [go_sem]; done)) | (focus (simp [go_sem]; omega))))⟩
  · have hv : S.cmd p v = S.en p (v % 8) false := by simp [S.cmd, h]
    rw [hv]
    clear hv
    rcases (by omega : t = -1 ∨ 0 ≤ t) with ht1 | ht1
    · subst ht1
      go_enter Try.func41, Try.ntmps41
      go_wp2_with fail
      refine wp_region_adds (by kernel_rfl) (by kernel_rfl) ?_
      repeat (go_big_quiet_step (first | (go_at_call 50; exact calls_same (rpr_blk _ _ _ _)) | (go_at_call 49; exact calls_same (HT.out ▸ rpr_hi _ _ hh.out.1 hh.out.2 _))))
      refine wpQuiet_nil ?_
      intro _ hw1
      obtain ⟨⟨nq, osq⟩, hw2⟩ := hw1
      subst hw2
      go_wp2_with fail
      all_goals try go_region
      all_goals go_wp2_with fail
      all_goals exact bodyPost_ret (v := .agg (S.en p (v % 8) false : S.Pc).cs) (ret_PIC Try.results41 rfl (by simp [go_sem, S.en, S.bl, S.Pc.cs, hv7]) rfl) rfl ⟨rfl, by (repeat (first | with_reducible exact Adds.refl _ | with_reducible apply Adds.drew | with_reducible apply Adds.drewN | with_reducible apply Adds.alloc | with_reducible apply Adds.more | (with_reducible refine Adds.setCell ?_ ?_ _) | (focus (simp [go_sem]; done)) | (focus (simp [go_sem]; omega))))⟩
    · have hn1 : ¬ t = -1 := by omega
      go_enter Try.func41, Try.ntmps41
      go_wp2_with fail
      refine wp_region_adds (by kernel_rfl) (by kernel_rfl) ?_
      repeat (go_big_quiet_step (first | (go_at_call 50; exact calls_same (rpr_blk _ _ _ _)) | (go_at_call 49; exact calls_same (HT.out ▸ rpr_hi _ _ hh.out.1 hh.out.2 _))))
      refine wpQuiet_nil ?_
      intro _ hw1
      obtain ⟨⟨nq, osq⟩, hw2⟩ := hw1
      subst hw2
      go_wp2_with fail
      all_goals try go_region
      all_goals go_wp2_with fail
      all_goals exact bodyPost_ret (v := .agg (S.en p (v % 8) false : S.Pc).cs) (ret_PIC Try.results41 rfl (by simp [go_sem, S.en, S.bl, S.Pc.cs, hv7]) rfl) rfl ⟨rfl, by (repeat (first | with_reducible exact Adds.refl _ | with_reducible apply Adds.drew | with_reducible apply Adds.drewN | with_reducible apply Adds.alloc | with_reducible apply Adds.more | (with_reducible refine Adds.setCell ?_ ?_ _) | (focus (simp [go_sem]; done)) | (focus (simp [go_sem]; omega))))⟩
  · have hv : S.cmd p v = { p with Ro := true } := by simp [S.cmd, h]
    rw [hv]
    clear hv
    rcases (by omega : t = -1 ∨ 0 ≤ t) with ht1 | ht1
    · subst ht1
      go_enter Try.func41, Try.ntmps41
      go_wp2_with fail
      refine wp_region_adds (by kernel_rfl) (by kernel_rfl) ?_
      repeat (go_big_quiet_step (first | (go_at_call 50; exact calls_same (rpr_blk _ _ _ _)) | (go_at_call 49; exact calls_same (HT.out ▸ rpr_hi _ _ hh.out.1 hh.out.2 _))))
      refine wpQuiet_nil ?_
      intro _ hw1
      obtain ⟨⟨nq, osq⟩, hw2⟩ := hw1
      subst hw2
      go_wp2_with fail
      all_goals try go_region
      all_goals go_wp2_with fail
      all_goals exact bodyPost_ret (v := .agg ({ p with Ro := true } : S.Pc).cs) (ret_PIC Try.results41 rfl (by simp [go_sem, S.Pc.cs]) rfl) rfl ⟨rfl, by (repeat (first | with_reducible exact Adds.refl _ | with_reducible apply Adds.drew | with_reducible apply Adds.drewN | with_reducible apply Adds.alloc | with_reducible apply Adds.more | (with_reducible refine Adds.setCell ?_ ?_ _) | (focus (simp [go_sem]; done)) | (focus (simp [go_sem]; omega))))⟩
    · have hn1 : ¬ t = -1 := by omega
      go_enter Try.func41, Try.ntmps41
      go_wp2_with fail
      refine wp_region_adds (by kernel_rfl) (by kernel_rfl) ?_
      repeat (go_big_quiet_step (first | (go_at_call 50; exact calls_same (rpr_blk _ _ _ _)) | (go_at_call 49; exact calls_same (HT.out ▸ rpr_hi _ _ hh.out.1 hh.out.2 _))))
      refine wpQuiet_nil ?_
      intro _ hw1
      obtain ⟨⟨nq, osq⟩, hw2⟩ := hw1
      subst hw2
      go_wp2_with fail
      all_goals try go_region
      all_goals go_wp2_with fail
      all_goals exact bodyPost_ret (v := .agg ({ p with Ro := true } : S.Pc).cs) (ret_PIC Try.results41 rfl (by simp [go_sem, S.Pc.cs]) rfl) rfl ⟨rfl, by (repeat (first | with_reducible exact Adds.refl _ | with_reducible apply Adds.drew | with_reducible apply Adds.drewN | with_reducible apply Adds.alloc | with_reducible apply Adds.more | (with_reducible refine Adds.setCell ?_ ?_ _) | (focus (simp [go_sem]; done)) | (focus (simp [go_sem]; omega))))⟩
  · have hv : S.cmd p v = S.en p t true := by simp [S.cmd, h, ET.out]
    rw [hv]
    clear hv
    rcases (by omega : t = -1 ∨ 0 ≤ t) with ht1 | ht1
    · subst ht1
      go_enter Try.func41, Try.ntmps41
      go_wp2_with fail
      refine wp_region_adds (by kernel_rfl) (by kernel_rfl) ?_
      repeat (go_big_quiet_step (first | (go_at_call 50; exact calls_same (rpr_blk _ _ _ _)) | (go_at_call 49; exact calls_same (HT.out ▸ rpr_hi _ _ hh.out.1 hh.out.2 _))))
      refine wpQuiet_nil ?_
      intro _ hw1
      obtain ⟨⟨nq, osq⟩, hw2⟩ := hw1
      subst hw2
      go_wp2_with fail
      all_goals try go_region
      all_goals go_wp2_with fail
      all_goals exact bodyPost_ret (v := .agg (S.en p (-1) true : S.Pc).cs) (ret_PIC Try.results41 rfl (by simp [go_sem, S.en, S.Pc.cs]) rfl) rfl ⟨rfl, by (repeat (first | with_reducible exact Adds.refl _ | with_reducible apply Adds.drew | with_reducible apply Adds.drewN | with_reducible apply Adds.alloc | with_reducible apply Adds.more | (with_reducible refine Adds.setCell ?_ ?_ _) | (focus (simp [go_sem]; done)) | (focus (simp [go_sem]; omega))))⟩
    · have hn1 : ¬ t = -1 := by omega
      go_enter Try.func41, Try.ntmps41
      go_wp2_with fail
      refine wp_region_adds (by kernel_rfl) (by kernel_rfl) ?_
      repeat (go_big_quiet_step (first | (go_at_call 50; exact calls_same (rpr_blk _ _ _ _)) | (go_at_call 49; exact calls_same (HT.out ▸ rpr_hi _ _ hh.out.1 hh.out.2 _))))
      refine wpQuiet_nil ?_
      intro _ hw1
      obtain ⟨⟨nq, osq⟩, hw2⟩ := hw1
      subst hw2
      go_wp2_with fail
      all_goals try go_region
      all_goals go_wp2_with fail
      all_goals exact bodyPost_ret (v := .agg (S.en p t true : S.Pc).cs) (ret_PIC Try.results41 rfl (by simp [go_sem, S.en, S.bl, S.Pc.cs, hn1]) rfl) rfl ⟨rfl, by (repeat (first | with_reducible exact Adds.refl _ | with_reducible apply Adds.drew | with_reducible apply Adds.drewN | with_reducible apply Adds.alloc | with_reducible apply Adds.more | (with_reducible refine Adds.setCell ?_ ?_ _) | (focus (simp [go_sem]; done)) | (focus (simp [go_sem]; omega))))⟩
  · have hv : S.cmd p v = { p with Lo := v % 8 } := by simp [S.cmd, h]
    rw [hv]
    clear hv
    rcases (by omega : t = -1 ∨ 0 ≤ t) with ht1 | ht1
    · subst ht1
      go_enter Try.func41, Try.ntmps41
      go_wp2_with fail
      refine wp_region_adds (by kernel_rfl) (by kernel_rfl) ?_
      repeat (go_big_quiet_step (first | (go_at_call 50; exact calls_same (rpr_blk _ _ _ _)) | (go_at_call 49; exact calls_same (HT.out ▸ rpr_hi _ _ hh.out.1 hh.out.2 _))))
      refine wpQuiet_nil ?_
      intro _ hw1
      obtain ⟨⟨nq, osq⟩, hw2⟩ := hw1
      subst hw2
      go_wp2_with fail
      all_goals try go_region
      all_goals go_wp2_with fail
      all_goals exact bodyPost_ret (v := .agg ({ p with Lo := v % 8 } : S.Pc).cs) (ret_PIC Try.results41 rfl (by simp [go_sem, S.Pc.cs]) rfl) rfl ⟨rfl, by (repeat (first | with_reducible exact Adds.refl _ | with_reducible apply Adds.drew | with_reducible apply Adds.drewN | with_reducible apply Adds.alloc | with_reducible apply Adds.more | (with_reducible refine Adds.setCell ?_ ?_ _) | (focus (simp [go_sem]; done)) | (focus (simp [go_sem]; omega))))⟩
    · have hn1 : ¬ t = -1 := by omega
      go_enter Try.func41, Try.ntmps41
      go_wp2_with fail
      refine wp_region_adds (by kernel_rfl) (by kernel_rfl) ?_
      repeat (go_big_quiet_step (first | (go_at_call 50; exact calls_same (rpr_blk _ _ _ _)) | (go_at_call 49; exact calls_same (HT.out ▸ rpr_hi _ _ hh.out.1 hh.out.2 _))))
      refine wpQuiet_nil ?_
      intro _ hw1
      obtain ⟨⟨nq, osq⟩, hw2⟩ := hw1
      subst hw2
      go_wp2_with fail
      all_goals try go_region
      all_goals go_wp2_with fail
      all_goals exact bodyPost_ret (v := .agg ({ p with Lo := v % 8 } : S.Pc).cs) (ret_PIC Try.results41 rfl (by simp [go_sem, S.Pc.cs]) rfl) rfl ⟨rfl, by (repeat (first | with_reducible exact Adds.refl _ | with_reducible apply Adds.drew | with_reducible apply Adds.drewN | with_reducible apply Adds.alloc | with_reducible apply Adds.more | (with_reducible refine Adds.setCell ?_ ?_ _) | (focus (simp [go_sem]; done)) | (focus (simp [go_sem]; omega))))⟩
  · have hv : S.cmd p v = S.en p (v % 8) true := by simp [S.cmd, h]
    rw [hv]
    clear hv
    rcases (by omega : t = -1 ∨ 0 ≤ t) with ht1 | ht1
    · subst ht1
      go_enter Try.func41, Try.ntmps41
      go_wp2_with fail
      refine wp_region_adds (by kernel_rfl) (by kernel_rfl) ?_
      repeat (go_big_quiet_step (first | (go_at_call 50; exact calls_same (rpr_blk _ _ _ _)) | (go_at_call 49; exact calls_same (HT.out ▸ rpr_hi _ _ hh.out.1 hh.out.2 _))))
      refine wpQuiet_nil ?_
      intro _ hw1
      obtain ⟨⟨nq, osq⟩, hw2⟩ := hw1
      subst hw2
      go_wp2_with fail
      all_goals try go_region
      all_goals go_wp2_with fail
      all_goals exact bodyPost_ret (v := .agg (S.en p (v % 8) true : S.Pc).cs) (ret_PIC Try.results41 rfl (by simp [go_sem, S.en, S.bl, S.Pc.cs, hv7]) rfl) rfl ⟨rfl, by (repeat (first | with_reducible exact Adds.refl _ | with_reducible apply Adds.drew | with_reducible apply Adds.drewN | with_reducible apply Adds.alloc | with_reducible apply Adds.more | (with_reducible refine Adds.setCell ?_ ?_ _) | (focus (simp [go_sem]; done)) | (focus (simp [go_sem]; omega))))⟩
    · have hn1 : ¬ t = -1 := by omega
      go_enter Try.func41, Try.ntmps41
      go_wp2_with fail
      refine wp_region_adds (by kernel_rfl) (by kernel_rfl) ?_
      repeat (go_big_quiet_step (first | (go_at_call 50; exact calls_same (rpr_blk _ _ _ _)) | (go_at_call 49; exact calls_same (HT.out ▸ rpr_hi _ _ hh.out.1 hh.out.2 _))))
      refine wpQuiet_nil ?_
      intro _ hw1
      obtain ⟨⟨nq, osq⟩, hw2⟩ := hw1
      subst hw2
      go_wp2_with fail
      all_goals try go_region
      all_goals go_wp2_with fail
      all_goals exact bodyPost_ret (v := .agg (S.en p (v % 8) true : S.Pc).cs) (ret_PIC Try.results41 rfl (by simp [go_sem, S.en, S.bl, S.Pc.cs, hv7]) rfl) rfl ⟨rfl, by (repeat (first | with_reducible exact Adds.refl _ | with_reducible apply Adds.drew | with_reducible apply Adds.drewN | with_reducible apply Adds.alloc | with_reducible apply Adds.more | (with_reducible refine Adds.setCell ?_ ?_ _) | (focus (simp [go_sem]; done)) | (focus (simp [go_sem]; omega))))⟩
end Go.Proofs.Ytionembpmfahlaa
