/- Contracts of Write, of package pic and of the reference. Conditions: ISR and the written byte are bytes. -/
import Derived.Test.YtionembpmfahlaaC22b
import Derived.Test.YtionembpmfahlaaC22c
import Derived.Test.YtionembpmfahlaaC22d
namespace Go.Proofs.Ytionembpmfahlaa
open Go.ChangeShapes Go.WideShapes Go.ChangeAt Go.RowKit
set_option linter.unusedVariables false
set_option maxHeartbeats 4000000 in
theorem write_any (p : S.Pc) (hi : Bool) (v : Int) (v0 : 0 ≤ v) (v1 : v < 256) (h0 : 0 ≤ p.IS) (h1 : p.IS < 256) (w : World) : Calls Try.prog 21 #[.agg #[.int .i64 p.St, .bool p.Le, .bool p.Fo, .bool p.Si, .bool p.Ft, .int .u8 p.Lw, .int .u8 p.Hg, .bool p.Au, .bool p.Ro, .bool p.Sp, .bool p.RI, .bool p.Po, .int .u8 p.Li, .int .u8 p.Ed, .int .u8 p.IS, .int .u8 p.IM, .int .i64 p.Lo, .int .i64 p.Sq, .int .i64 p.Sv, .bool p.Su], .bool hi, .int .u8 v] w fun e w' => e = .returned (.agg (S.wr p hi v).cs) ∧ Adds w w' := by
  have hh : Hid _ := And.intro (And.intro v0 v1) (And.intro h0 h1)
  clear v0 v1 h0 h1
  cases hi
  · by_cases h6 : bits .and .u8 v 16 = 0
    · by_cases h8 : bits .and .u8 v 8 = 0
      all_goals
        go_enter Try.func21, Try.ntmps21
        go_wp2_with (first | (go_at_call 38; refine (cmd_any p v hh.out.1.1 hh.out.1.2 hh.out.2.1 hh.out.2.2 _).mono ?_; rintro e w' ⟨rfl, ⟨⟨n1, os1⟩, rfl⟩⟩; simp only [S.Pc.cs]) | (go_at_call 37; refine (mode_any p v _).mono ?_; rintro e w' ⟨rfl, ⟨⟨n1, os1⟩, rfl⟩⟩; simp only [S.Pc.cs]))
        exact bodyPost_ret (v := .agg (S.wr p false v).cs) (ret_PIC Try.results21 rfl (by simp [go_sem, S.wr, S.Pc.cs, h6, h8]) rfl) rfl ⟨rfl, by (repeat (first | with_reducible exact Adds.refl _ | with_reducible apply Adds.drew | with_reducible apply Adds.drewN | with_reducible apply Adds.alloc | with_reducible apply Adds.more | (with_reducible refine Adds.setCell ?_ ?_ _) | (focus (simp [go_sem]; done)) | (focus (simp [go_sem]; omega))))⟩
    · go_enter Try.func21, Try.ntmps21
      go_wp2_with (go_at_call 36; refine (ini_any p v _).mono ?_; rintro e w' ⟨rfl, ⟨⟨n1, os1⟩, rfl⟩⟩; simp only [S.Pc.cs])
      exact bodyPost_ret (v := .agg (S.wr p false v).cs) (ret_PIC Try.results21 rfl (by simp [go_sem, S.wr, S.Pc.cs, h6]) rfl) rfl ⟨rfl, by (repeat (first | with_reducible exact Adds.refl _ | with_reducible apply Adds.drew | with_reducible apply Adds.drewN | with_reducible apply Adds.alloc | with_reducible apply Adds.more | (with_reducible refine Adds.setCell ?_ ?_ _) | (focus (simp [go_sem]; done)) | (focus (simp [go_sem]; omega))))⟩
  · go_enter Try.func21, Try.ntmps21
    go_wp2_with (go_at_call 35; refine (wrH_any p v _).mono ?_; rintro e w' ⟨rfl, ⟨⟨n1, os1⟩, rfl⟩⟩; simp only [S.Pc.cs])
    exact bodyPost_ret (v := .agg (S.wr p true v).cs) (ret_PIC Try.results21 rfl (by simp [go_sem, S.wr, S.Pc.cs]) rfl) rfl ⟨rfl, by (repeat (first | with_reducible exact Adds.refl _ | with_reducible apply Adds.drew | with_reducible apply Adds.drewN | with_reducible apply Adds.alloc | with_reducible apply Adds.more | (with_reducible refine Adds.setCell ?_ ?_ _) | (focus (simp [go_sem]; done)) | (focus (simp [go_sem]; omega))))⟩
set_option maxHeartbeats 4000000 in
theorem rwrite_any (p : S.Pc) (hi : Bool) (v : Int) (v0 : 0 ≤ v) (v1 : v < 256) (h0 : 0 ≤ p.IS) (h1 : p.IS < 256) (w : World) : Calls Try.prog 22 #[.agg #[.int .i64 p.St, .bool p.Le, .bool p.Fo, .bool p.Si, .bool p.Ft, .int .u8 p.Lw, .int .u8 p.Hg, .bool p.Au, .bool p.Ro, .bool p.Sp, .bool p.RI, .bool p.Po, .int .u8 p.Li, .int .u8 p.Ed, .int .u8 p.IS, .int .u8 p.IM, .int .i64 p.Lo, .int .i64 p.Sq, .int .i64 p.Sv, .bool p.Su], .bool hi, .int .u8 v] w fun e w' => e = .returned (.agg (S.wr p hi v).cs) ∧ Adds w w' := by
  have hh : Hid _ := And.intro (And.intro v0 v1) (And.intro h0 h1)
  clear v0 v1 h0 h1
  cases hi
  · by_cases h6 : bits .and .u8 v 16 = 0
    · by_cases h8 : bits .and .u8 v 8 = 0
      · go_enter Try.func22, Try.ntmps22
        go_wp2_with (first | (go_at_call 41; refine (oper_any p v hh.out.1.1 hh.out.1.2 hh.out.2.1 hh.out.2.2 _).mono ?_; rintro e w' ⟨rfl, ⟨⟨n1, os1⟩, rfl⟩⟩; simp only [S.Pc.cs]))
        exact bodyPost_ret (v := .agg (S.wr p false v).cs) (ret_PIC Try.results22 rfl (by simp [go_sem, S.wr, S.Pc.cs, h6, h8]) rfl) rfl ⟨rfl, by (repeat (first | with_reducible exact Adds.refl _ | with_reducible apply Adds.drew | with_reducible apply Adds.drewN | with_reducible apply Adds.alloc | with_reducible apply Adds.more | (with_reducible refine Adds.setCell ?_ ?_ _) | (focus (simp [go_sem]; done)) | (focus (simp [go_sem]; omega))))⟩
      · by_cases g6 : bits .and .u8 v 64 = 0
        all_goals
          by_cases g1 : bits .and .u8 v 2 = 0
          all_goals
            by_cases gp : p.Po = true
            all_goals
              go_enter Try.func22, Try.ntmps22
              go_wp2_with fail
              exact bodyPost_ret (v := .agg (S.wr p false v).cs) (ret_PIC Try.results22 rfl (by simp [go_sem, S.wr, S.mode, S.Pc.cs, *]) rfl) rfl ⟨rfl, by (repeat (first | with_reducible exact Adds.refl _ | with_reducible apply Adds.drew | with_reducible apply Adds.drewN | with_reducible apply Adds.alloc | with_reducible apply Adds.more | (with_reducible refine Adds.setCell ?_ ?_ _) | (focus (simp [go_sem]; done)) | (focus (simp [go_sem]; omega))))⟩
    · go_enter Try.func22, Try.ntmps22
      go_wp2_with (go_at_call 40; refine (first_any p v _).mono ?_; rintro e w' ⟨rfl, ⟨⟨n1, os1⟩, rfl⟩⟩; simp only [S.Pc.cs])
      exact bodyPost_ret (v := .agg (S.wr p false v).cs) (ret_PIC Try.results22 rfl (by simp [go_sem, S.wr, S.Pc.cs, h6]) rfl) rfl ⟨rfl, by (repeat (first | with_reducible exact Adds.refl _ | with_reducible apply Adds.drew | with_reducible apply Adds.drewN | with_reducible apply Adds.alloc | with_reducible apply Adds.more | (with_reducible refine Adds.setCell ?_ ?_ _) | (focus (simp [go_sem]; done)) | (focus (simp [go_sem]; omega))))⟩
  · go_enter Try.func22, Try.ntmps22
    go_wp2_with (go_at_call 39; refine (further_any p v _).mono ?_; rintro e w' ⟨rfl, ⟨⟨n1, os1⟩, rfl⟩⟩; simp only [S.Pc.cs])
    exact bodyPost_ret (v := .agg (S.wr p true v).cs) (ret_PIC Try.results22 rfl (by simp [go_sem, S.wr, S.Pc.cs]) rfl) rfl ⟨rfl, by (repeat (first | with_reducible exact Adds.refl _ | with_reducible apply Adds.drew | with_reducible apply Adds.drewN | with_reducible apply Adds.alloc | with_reducible apply Adds.more | (with_reducible refine Adds.setCell ?_ ?_ _) | (focus (simp [go_sem]; done)) | (focus (simp [go_sem]; omega))))⟩
end Go.Proofs.Ytionembpmfahlaa
