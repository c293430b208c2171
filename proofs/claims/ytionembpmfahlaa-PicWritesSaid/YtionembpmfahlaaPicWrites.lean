/- The statement PicWritesSaid of package tstatelaw22: for every input the law returns true, and its arguments read as before. No condition. -/
import Derived.Test.YtionembpmfahlaaRows
import Derived.Test.YtionembpmfahlaaM1
import Derived.Test.YtionembpmfahlaaC22l
import Derived.WalkKit
import Derived.ProofKit
import Derived.OpenShut
import Derived.ShutString
import Derived.ChangeOld
import Derived.Below
import Derived.Carry
namespace Go.Proofs.Ytionembpmfahlaa.picWrites
open Go.ChangeShapes Go.WideShapes Go.ChangeAt Go.RowKit
open Go.ChangeMaps (open_string shut_string)
set_option linter.unusedVariables false

theorem own : ownKnob Try.prog.godebug = none := by kernel_rfl
theorem laidOut : laidOutB Try.prog = true := by kernel_rfl

def IsRow (k : IntKind) (w : World) (a : Option Addr) (len cap : Nat) (zs : List Int) : Prop :=
  (a = none ∧ len = 0 ∧ cap = 0 ∧ zs = []) ∨
  ∃ x, a = some x ∧ len ≤ cap ∧ cap ≤ maxLen ∧ zs.length = cap ∧ (∀ i, i < zs.length → w.cell? (x.add i) = some (.int k (zs.getD i 0))) ∧ ∀ n ∈ zs, (Lit.int k n).wf = true

set_option maxRecDepth 100000 in
set_option maxHeartbeats 4000000 in
theorem core (p : S.Pc) (ok : S.Ok p) (a1 : Bool) (a2 : Int) (b2 : 0 ≤ a2 ∧ a2 < 256) (a3 : Option Addr) (len3 cap3 : Nat) (z3 : List Int) (w : World) (w3 : IsRow .i64 w a3 len3 cap3 z3) :
    Calls Try.prog 4 #[.agg #[.int .i64 p.St, .bool p.Le, .bool p.Fo, .bool p.Si, .bool p.Ft, .int .u8 p.Lw, .int .u8 p.Hg, .bool p.Au, .bool p.Ro, .bool p.Sp, .bool p.RI, .bool p.Po, .int .u8 p.Li, .int .u8 p.Ed, .int .u8 p.IS, .int .u8 p.IM, .int .i64 p.Lo, .int .i64 p.Sq, .int .i64 p.Sv, .bool p.Su], .bool a1, .int .u8 a2, .slice a3 len3 cap3] w fun e w' => e = .returned (.bool true) ∧ Below w.heap.size w w' := by
  by_cases h80 : 80 < len3
  · clear w3
    go_enter Try.func4, Try.ntmps4
    go_wp2_with (go_at_call 10; refine (known22_any _).mono ?_; rintro e w' ⟨rfl, ⟨⟨nk, osk⟩, rfl⟩⟩)
    go_ret
    exact ⟨rfl, Adds.below (by (repeat (first | with_reducible exact Adds.refl _ | with_reducible apply Adds.drew | with_reducible apply Adds.drewN | with_reducible apply Adds.alloc | with_reducible apply Adds.more | (with_reducible refine Adds.setCell ?_ ?_ _) | (focus (simp [go_sem]; done)) | (focus (simp [go_sem]; omega)))))⟩
  have H := Lib.hid (Nb.from (w := w.alloc (.cells #[.int .i64 p.St, .bool p.Le, .bool p.Fo, .bool p.Si, .bool p.Ft, .int .u8 p.Lw, .int .u8 p.Hg, .bool p.Au, .bool p.Ro, .bool p.Sp, .bool p.RI, .bool p.Po, .int .u8 p.Li, .int .u8 p.Ed, .int .u8 p.IS, .int .u8 p.IM, .int .i64 p.Lo, .int .i64 p.Sq, .int .i64 p.Sv, .bool p.Su] 23)) (b := w.heap.size + 1) (by simp [go_sem]) (IsRow.alloc w3 _) (by omega))
  clear w3
  have okp : Hid _ := ok
  have hv0 : Hid _ := b2
  have by1 := S.andNot_bd a2 24
  have by2 := S.pr_or_bd (bits .andNot .u8 a2 24) 8
  generalize hy : bits .or .u8 (bits .andNot .u8 a2 24) 8 = y at by2
  generalize hx : bits .andNot .u8 a2 24 = x at by1 hy
  have hv1 : Hid _ := by1
  have hv2 : Hid _ := by2
  clear ok b2 by1 by2
  have j0 : ∀ w : World, (Instr.index 35 (.agg #[.int .u8 a2, .int .u8 x, .int .u8 y]) (.int .i64 0)).run Try.prog w = .ok (.int .u8 a2) w := fun _ => by kernel_rfl
  have j1 : ∀ w : World, (Instr.index 35 (.agg #[.int .u8 a2, .int .u8 x, .int .u8 y]) (.int .i64 1)).run Try.prog w = .ok (.int .u8 x) w := fun _ => by kernel_rfl
  have j2 : ∀ w : World, (Instr.index 35 (.agg #[.int .u8 a2, .int .u8 x, .int .u8 y]) (.int .i64 2)).run Try.prog w = .ok (.int .u8 y) w := fun _ => by kernel_rfl
  go_enter Try.func4, Try.ntmps4
  go_wp2_with (first | (go_at_call 12; (with_reducible refine (from_any a3 len3 cap3 _).mono ?_); rintro e w' ⟨rfl, rfl⟩) | (go_at_call 11; (refine (pic_any _ len3 cap3 0 a3 (by omega) _ (by (repeat (first | with_reducible exact H.out | with_reducible refine Nb.more ?_ _ _ | with_reducible refine Nb.alloc ?_ _ | with_reducible refine Nb.drew ?_ | apply Nb.bump)))).mono ?_); rintro e w' ⟨q, M, okq, hM, rfl, ⟨n1, os1⟩, rfl⟩; simp only [S.Pc.cs]))
  have okr : Hid _ := okq
  clear okq
  go_loopw [24] (fun i wr => ∃ k : Int, (0 ≤ k ∧ k ≤ 2) ∧ i = .int .i64 k ∧ Adds w wr) (fun i _ => 2 - (intOf i).toNat)
  case atStart => exact ⟨0, by omega, rfl, by (repeat (first | with_reducible exact Adds.refl _ | with_reducible apply Adds.drew | with_reducible apply Adds.drewN | with_reducible apply Adds.alloc | with_reducible apply Adds.more | (with_reducible refine Adds.setCell ?_ ?_ _) | (focus (simp [go_sem]; done)) | (focus (simp [go_sem]; omega))))⟩
  case round =>
    obtain ⟨k, hk, rfl, ⟨⟨n0, os0⟩, rfl⟩⟩ := hrel
    rcases (by omega : k = 0 ∨ k = 1 ∨ k = 2) with rfl | rfl | rfl
    · go_wp2_with fail
      go_loopw [34] (fun i wr => ∃ j : Int, (0 ≤ j ∧ j ≤ 3) ∧ i = .int .i64 j ∧ Adds ((More w n0 os0).alloc (.cells #[.int .i64 p.St, .bool p.Le, .bool p.Fo, .bool p.Si, .bool p.Ft, .int .u8 p.Lw, .int .u8 p.Hg, .bool p.Au, .bool p.Ro, .bool p.Sp, .bool p.RI, .bool p.Po, .int .u8 p.Li, .int .u8 p.Ed, .int .u8 p.IS, .int .u8 p.IM, .int .i64 p.Lo, .int .i64 p.Sq, .int .i64 p.Sv, .bool p.Su] 23)) wr) (fun i _ => 3 - (intOf i).toNat)
      case atStart => exact ⟨0, by omega, rfl, by (repeat (first | with_reducible exact Adds.refl _ | with_reducible apply Adds.drew | with_reducible apply Adds.drewN | with_reducible apply Adds.alloc | with_reducible apply Adds.more | (with_reducible refine Adds.setCell ?_ ?_ _) | (focus (simp [go_sem]; done)) | (focus (simp [go_sem]; omega))))⟩
      case round =>
        obtain ⟨j, hj, rfl, ⟨⟨n9, os9⟩, rfl⟩⟩ := hrel
        rcases (by omega : j = 0 ∨ j = 1 ∨ j = 2 ∨ j = 3) with rfl | rfl | rfl | rfl
        · go_wp2_with fail
          refine wp_region_adds (by kernel_rfl) (by kernel_rfl) ?_
          repeat (go_big_quiet_step (first | (go_at_call 21; exact calls_adds (write_cells p _ _ hv0.out.1 hv0.out.2 okp.out.1.1 okp.out.1.2 _)) | (go_at_call 22; exact calls_adds (rwrite_cells p _ _ hv0.out.1 hv0.out.2 okp.out.1.1 okp.out.1.2 _))))
          refine wpQuiet_nil ?_
          intro _ hw1
          obtain ⟨⟨nq, osq⟩, hw2⟩ := hw1
          subst hw2
          go_wp2_with fail
          go_roundw
          case rel => exact ⟨1, by omega, rfl, by (repeat (first | with_reducible exact Adds.refl _ | with_reducible apply Adds.drew | with_reducible apply Adds.drewN | with_reducible apply Adds.alloc | with_reducible apply Adds.more | (with_reducible refine Adds.setCell ?_ ?_ _) | (focus (simp [go_sem]; done)) | (focus (simp [go_sem]; omega))))⟩
          case measure => simp [intOf]
        · go_wp2_with fail
          refine wp_region_adds (by kernel_rfl) (by kernel_rfl) ?_
          repeat (go_big_quiet_step (first | (go_at_call 21; exact calls_adds (write_cells p _ _ hv1.out.1 hv1.out.2 okp.out.1.1 okp.out.1.2 _)) | (go_at_call 22; exact calls_adds (rwrite_cells p _ _ hv1.out.1 hv1.out.2 okp.out.1.1 okp.out.1.2 _))))
          refine wpQuiet_nil ?_
          intro _ hw1
          obtain ⟨⟨nq, osq⟩, hw2⟩ := hw1
          subst hw2
          go_wp2_with fail
          go_roundw
          case rel => exact ⟨2, by omega, rfl, by (repeat (first | with_reducible exact Adds.refl _ | with_reducible apply Adds.drew | with_reducible apply Adds.drewN | with_reducible apply Adds.alloc | with_reducible apply Adds.more | (with_reducible refine Adds.setCell ?_ ?_ _) | (focus (simp [go_sem]; done)) | (focus (simp [go_sem]; omega))))⟩
          case measure => simp [intOf]
        · go_wp2_with fail
          refine wp_region_adds (by kernel_rfl) (by kernel_rfl) ?_
          repeat (go_big_quiet_step (first | (go_at_call 21; exact calls_adds (write_cells p _ _ hv2.out.1 hv2.out.2 okp.out.1.1 okp.out.1.2 _)) | (go_at_call 22; exact calls_adds (rwrite_cells p _ _ hv2.out.1 hv2.out.2 okp.out.1.1 okp.out.1.2 _))))
          refine wpQuiet_nil ?_
          intro _ hw1
          obtain ⟨⟨nq, osq⟩, hw2⟩ := hw1
          subst hw2
          go_wp2_with fail
          go_roundw
          case rel => exact ⟨3, by omega, rfl, by (repeat (first | with_reducible exact Adds.refl _ | with_reducible apply Adds.drew | with_reducible apply Adds.drewN | with_reducible apply Adds.alloc | with_reducible apply Adds.more | (with_reducible refine Adds.setCell ?_ ?_ _) | (focus (simp [go_sem]; done)) | (focus (simp [go_sem]; omega))))⟩
          case measure => simp [intOf]
        · go_wp2_with fail
          go_roundw
          case rel => exact ⟨1, by omega, rfl, by (repeat (first | with_reducible exact Adds.refl _ | with_reducible apply Adds.drew | with_reducible apply Adds.drewN | with_reducible apply Adds.alloc | with_reducible apply Adds.more | (with_reducible refine Adds.setCell ?_ ?_ _) | (focus (simp [go_sem]; done)) | (focus (simp [go_sem]; omega))))⟩
          case measure => simp [intOf]
    · go_wp2_with fail
      go_loopw [34] (fun i wr => ∃ j : Int, (0 ≤ j ∧ j ≤ 3) ∧ i = .int .i64 j ∧ Adds ((More w n0 os0).alloc (.cells #[.int .i64 q.St, .bool q.Le, .bool q.Fo, .bool q.Si, .bool q.Ft, .int .u8 q.Lw, .int .u8 q.Hg, .bool q.Au, .bool q.Ro, .bool q.Sp, .bool q.RI, .bool q.Po, .int .u8 q.Li, .int .u8 q.Ed, .int .u8 q.IS, .int .u8 q.IM, .int .i64 q.Lo, .int .i64 q.Sq, .int .i64 q.Sv, .bool q.Su] 23)) wr) (fun i _ => 3 - (intOf i).toNat)
      case atStart => exact ⟨0, by omega, rfl, by (repeat (first | with_reducible exact Adds.refl _ | with_reducible apply Adds.drew | with_reducible apply Adds.drewN | with_reducible apply Adds.alloc | with_reducible apply Adds.more | (with_reducible refine Adds.setCell ?_ ?_ _) | (focus (simp [go_sem]; done)) | (focus (simp [go_sem]; omega))))⟩
      case round =>
        obtain ⟨j, hj, rfl, ⟨⟨n9, os9⟩, rfl⟩⟩ := hrel
        rcases (by omega : j = 0 ∨ j = 1 ∨ j = 2 ∨ j = 3) with rfl | rfl | rfl | rfl
        · go_wp2_with fail
          refine wp_region_adds (by kernel_rfl) (by kernel_rfl) ?_
          repeat (go_big_quiet_step (first | (go_at_call 21; exact calls_adds (write_cells q _ _ hv0.out.1 hv0.out.2 okr.out.1.1 okr.out.1.2 _)) | (go_at_call 22; exact calls_adds (rwrite_cells q _ _ hv0.out.1 hv0.out.2 okr.out.1.1 okr.out.1.2 _))))
          refine wpQuiet_nil ?_
          intro _ hw1
          obtain ⟨⟨nq, osq⟩, hw2⟩ := hw1
          subst hw2
          go_wp2_with fail
          go_roundw
          case rel => exact ⟨1, by omega, rfl, by (repeat (first | with_reducible exact Adds.refl _ | with_reducible apply Adds.drew | with_reducible apply Adds.drewN | with_reducible apply Adds.alloc | with_reducible apply Adds.more | (with_reducible refine Adds.setCell ?_ ?_ _) | (focus (simp [go_sem]; done)) | (focus (simp [go_sem]; omega))))⟩
          case measure => simp [intOf]
        · go_wp2_with fail
          refine wp_region_adds (by kernel_rfl) (by kernel_rfl) ?_
          repeat (go_big_quiet_step (first | (go_at_call 21; exact calls_adds (write_cells q _ _ hv1.out.1 hv1.out.2 okr.out.1.1 okr.out.1.2 _)) | (go_at_call 22; exact calls_adds (rwrite_cells q _ _ hv1.out.1 hv1.out.2 okr.out.1.1 okr.out.1.2 _))))
          refine wpQuiet_nil ?_
          intro _ hw1
          obtain ⟨⟨nq, osq⟩, hw2⟩ := hw1
          subst hw2
          go_wp2_with fail
          go_roundw
          case rel => exact ⟨2, by omega, rfl, by (repeat (first | with_reducible exact Adds.refl _ | with_reducible apply Adds.drew | with_reducible apply Adds.drewN | with_reducible apply Adds.alloc | with_reducible apply Adds.more | (with_reducible refine Adds.setCell ?_ ?_ _) | (focus (simp [go_sem]; done)) | (focus (simp [go_sem]; omega))))⟩
          case measure => simp [intOf]
        · go_wp2_with fail
          refine wp_region_adds (by kernel_rfl) (by kernel_rfl) ?_
          repeat (go_big_quiet_step (first | (go_at_call 21; exact calls_adds (write_cells q _ _ hv2.out.1 hv2.out.2 okr.out.1.1 okr.out.1.2 _)) | (go_at_call 22; exact calls_adds (rwrite_cells q _ _ hv2.out.1 hv2.out.2 okr.out.1.1 okr.out.1.2 _))))
          refine wpQuiet_nil ?_
          intro _ hw1
          obtain ⟨⟨nq, osq⟩, hw2⟩ := hw1
          subst hw2
          go_wp2_with fail
          go_roundw
          case rel => exact ⟨3, by omega, rfl, by (repeat (first | with_reducible exact Adds.refl _ | with_reducible apply Adds.drew | with_reducible apply Adds.drewN | with_reducible apply Adds.alloc | with_reducible apply Adds.more | (with_reducible refine Adds.setCell ?_ ?_ _) | (focus (simp [go_sem]; done)) | (focus (simp [go_sem]; omega))))⟩
          case measure => simp [intOf]
        · go_wp2_with fail
          go_roundw
          case rel => exact ⟨2, by omega, rfl, by (repeat (first | with_reducible exact Adds.refl _ | with_reducible apply Adds.drew | with_reducible apply Adds.drewN | with_reducible apply Adds.alloc | with_reducible apply Adds.more | (with_reducible refine Adds.setCell ?_ ?_ _) | (focus (simp [go_sem]; done)) | (focus (simp [go_sem]; omega))))⟩
          case measure => simp [intOf]
    · go_wp2_with (go_at_call 10; refine (known22_any _).mono ?_; rintro e w' ⟨rfl, ⟨⟨nk, osk⟩, rfl⟩⟩)
      go_ret
      exact ⟨rfl, Adds.below (by (repeat (first | with_reducible exact Adds.refl _ | with_reducible apply Adds.drew | with_reducible apply Adds.drewN | with_reducible apply Adds.alloc | with_reducible apply Adds.more | (with_reducible refine Adds.setCell ?_ ?_ _) | (focus (simp [go_sem]; done)) | (focus (simp [go_sem]; omega)))))⟩
set_option maxRecDepth 100000 in
set_option maxHeartbeats 2000000 in
/-- The walk. -/
theorem walk (a0_Stage : Int) (a0_Level : Bool) (a0_Four : Bool) (a0_Single : Bool) (a0_Fourth : Bool) (a0_Low : Int) (a0_High : Int) (a0_Auto : Bool) (a0_Rotate : Bool) (a0_Special : Bool) (a0_ReadISR : Bool) (a0_Poll : Bool) (a0_Lines : Int) (a0_Edge : Int) (a0_ISR : Int) (a0_IMR : Int) (a0_Lowest : Int) (a0_Step : Int) (a0_Serving : Int) (a0_Spurious : Bool) (a1 : Bool) (a2 : Int) (a3 : Option Addr) (len3 cap3 : Nat) (z3 : List Int) (w : World) (w0_Stage : (Lit.int .i64 a0_Stage).wf = true) (w0_Low : (Lit.int .u8 a0_Low).wf = true) (w0_High : (Lit.int .u8 a0_High).wf = true) (w0_Lines : (Lit.int .u8 a0_Lines).wf = true) (w0_Edge : (Lit.int .u8 a0_Edge).wf = true) (w0_ISR : (Lit.int .u8 a0_ISR).wf = true) (w0_IMR : (Lit.int .u8 a0_IMR).wf = true) (w0_Lowest : (Lit.int .i64 a0_Lowest).wf = true) (w0_Step : (Lit.int .i64 a0_Step).wf = true) (w0_Serving : (Lit.int .i64 a0_Serving).wf = true) (w2 : (Lit.int .u8 a2).wf = true) (w3 : IsRow .i64 w a3 len3 cap3 z3) :
    Calls Try.prog 4 #[.agg #[.int .i64 a0_Stage, .bool a0_Level, .bool a0_Four, .bool a0_Single, .bool a0_Fourth, .int .u8 a0_Low, .int .u8 a0_High, .bool a0_Auto, .bool a0_Rotate, .bool a0_Special, .bool a0_ReadISR, .bool a0_Poll, .int .u8 a0_Lines, .int .u8 a0_Edge, .int .u8 a0_ISR, .int .u8 a0_IMR, .int .i64 a0_Lowest, .int .i64 a0_Step, .int .i64 a0_Serving, .bool a0_Spurious], .bool a1, .int .u8 a2, .slice a3 len3 cap3] w fun e w' => e = .returned (.bool true) ∧ Below w.heap.size w w' := by
  exact core ⟨a0_Stage, a0_Level, a0_Four, a0_Single, a0_Fourth, a0_Low, a0_High, a0_Auto, a0_Rotate, a0_Special, a0_ReadISR, a0_Poll, a0_Lines, a0_Edge, a0_ISR, a0_IMR, a0_Lowest, a0_Step, a0_Serving, a0_Spurious⟩ ⟨b256 (bounds_u8 w0_ISR), b256 (bounds_u8 w0_Low), b256 (bounds_u8 w0_High)⟩ a1 a2 (b256 (bounds_u8 w2)) a3 len3 cap3 z3 w w3


set_option maxRecDepth 100000 in
theorem lifted (os : Os) (started : os.Started) (H : Type) (enc : TypeId × Value → H) :
    ReturnsInHanded {} Try.checked os 4 .any (Rows.picWritesSpec.pre6 enc Try.prog Try.f4 Rows.picWritesRow.domain false) (Rows.picWritesSpec.post enc Try.prog Try.f4 false true false false) := by
  refine returnsInHanded_of_change (C := Try.checked) own started (by kernel_rfl) Try.func4
    (ChangeSpec.witness6 (enc := enc) (C := Try.checked) false ⟨#[], #[.agg #[.int .i64 0, .bool false, .bool false, .bool false, .bool false, .int .u8 0, .int .u8 0, .bool false, .bool false, .bool false, .bool false, .bool false, .int .u8 0, .int .u8 0, .int .u8 0, .int .u8 0, .int .i64 0, .int .i64 0, .int .i64 0, .bool false], .bool false, .int .u8 0, .slice none 0 0], []⟩ 8 (by kernel_rfl) (by kernel_rfl) (by kernel_rfl) (by kernel_rfl)) ?_
  intro W base args ds gs before hval0 hW hcnd _
  have hval : ∀ (j : Nat) t v, Try.f4.params[j]? = some t → args[j]? = some v → Value.okWide Try.prog W .any base t v := hval0
  have hW' := hW
  obtain ⟨p, q, hA0, hV, rfl, hfz, hnd⟩ := hW
  have hA : DataW.TrodAll enc Try.prog W 0 (fun _ => true) true Try.f4.params.toList args.toList ds p := hA0
  rw [Try.params4] at hA hval
  obtain ⟨v0, vs0, d0, ds0, p0, q0, hargs, rfl, rfl, h0, r0⟩ := trodAll_cons hA
  obtain ⟨v1, vs1, d1, ds1, p1, q1, rfl, rfl, rfl, h1, r1⟩ := trodAll_cons r0
  obtain ⟨v2, vs2, d2, ds2, p2, q2, rfl, rfl, rfl, h2, r2⟩ := trodAll_cons r1
  obtain ⟨v3, vs3, d3, ds3, p3, q3, rfl, rfl, rfl, h3, r3⟩ := trodAll_cons r2
  obtain ⟨rfl, rfl, rfl⟩ := trodAll_nil r3
  obtain rfl : args = #[v0, v1, v2, v3] := by cases args; simp_all
  obtain ⟨rfl, rfl⟩ := trodVars_none hV
  have k0 := h0
  have lt0 : ∀ x ∈ p0, x.block < W.heap.size := by obtain ⟨m, hm⟩ := k0; exact DataW.trod_lt m _ _ _ hm
  obtain ⟨l0, rfl, g0_0⟩ := open_flat 9 [.int .i64, .bool, .bool, .bool, .bool, .int .u8, .int .u8, .bool, .bool, .bool, .bool, .bool, .int .u8, .int .u8, .int .u8, .int .u8, .int .i64, .int .i64, .int .i64, .bool] _ Try.underlying23 (by kernel_rfl) (hval 0 23 v0 rfl rfl) h0
  obtain ⟨a0_Stage, l0_1, rfl, w0_Stage, g0_1⟩ := fits_int g0_0
  obtain ⟨a0_Level, l0_2, rfl, g0_2⟩ := fits_bool g0_1
  obtain ⟨a0_Four, l0_3, rfl, g0_3⟩ := fits_bool g0_2
  obtain ⟨a0_Single, l0_4, rfl, g0_4⟩ := fits_bool g0_3
  obtain ⟨a0_Fourth, l0_5, rfl, g0_5⟩ := fits_bool g0_4
  obtain ⟨a0_Low, l0_6, rfl, w0_Low, g0_6⟩ := fits_int g0_5
  obtain ⟨a0_High, l0_7, rfl, w0_High, g0_7⟩ := fits_int g0_6
  obtain ⟨a0_Auto, l0_8, rfl, g0_8⟩ := fits_bool g0_7
  obtain ⟨a0_Rotate, l0_9, rfl, g0_9⟩ := fits_bool g0_8
  obtain ⟨a0_Special, l0_10, rfl, g0_10⟩ := fits_bool g0_9
  obtain ⟨a0_ReadISR, l0_11, rfl, g0_11⟩ := fits_bool g0_10
  obtain ⟨a0_Poll, l0_12, rfl, g0_12⟩ := fits_bool g0_11
  obtain ⟨a0_Lines, l0_13, rfl, w0_Lines, g0_13⟩ := fits_int g0_12
  obtain ⟨a0_Edge, l0_14, rfl, w0_Edge, g0_14⟩ := fits_int g0_13
  obtain ⟨a0_ISR, l0_15, rfl, w0_ISR, g0_15⟩ := fits_int g0_14
  obtain ⟨a0_IMR, l0_16, rfl, w0_IMR, g0_16⟩ := fits_int g0_15
  obtain ⟨a0_Lowest, l0_17, rfl, w0_Lowest, g0_17⟩ := fits_int g0_16
  obtain ⟨a0_Step, l0_18, rfl, w0_Step, g0_18⟩ := fits_int g0_17
  obtain ⟨a0_Serving, l0_19, rfl, w0_Serving, g0_19⟩ := fits_int g0_18
  obtain ⟨a0_Spurious, l0_20, rfl, g0_20⟩ := fits_bool g0_19
  obtain rfl := fits_nil g0_20
  have k1 := h1
  have lt1 : ∀ x ∈ p1, x.block < W.heap.size := by obtain ⟨m, hm⟩ := k1; exact DataW.trod_lt m _ _ _ hm
  obtain ⟨a1, rfl, -, -⟩ := open_bool Try.underlying4 (hval 1 4 v1 rfl rfl) h1
  have k2 := h2
  have lt2 : ∀ x ∈ p2, x.block < W.heap.size := by obtain ⟨m, hm⟩ := k2; exact DataW.trod_lt m _ _ _ hm
  obtain ⟨a2, rfl, -, -, w2⟩ := open_int Try.underlying5 (hval 2 5 v2 rfl rfl) h2
  have k3 := h3
  have lt3 : ∀ x ∈ p3, x.block < W.heap.size := by obtain ⟨m, hm⟩ := k3; exact DataW.trod_lt m _ _ _ hm
  obtain ⟨a3, len3, cap3, rfl⟩ := okWide_slice Try.underlying24 (hval 3 24 v3 rfl rfl)
  obtain ⟨z3, w3⟩ : ∃ zs, IsRow .i64 W a3 len3 cap3 zs := by
    obtain ⟨fuel, hf⟩ := h3
    rcases open_ints Try.underlying24 Try.underlying3 (by kernel_rfl) hf with ⟨hcs, _⟩ | ⟨x, l, c, zs, hcs, _, hl, hm, hz, _, hcell, hwz⟩
    · simp [Value.cells] at hcs
      obtain ⟨rfl, rfl, rfl⟩ := hcs
      exact ⟨[], .inl ⟨rfl, rfl, rfl, rfl⟩⟩
    · simp [Value.cells] at hcs
      obtain ⟨rfl, rfl, rfl⟩ := hcs
      exact ⟨zs, .inr ⟨_, rfl, hl, hm, by simpa using hz, hcell, hwz⟩⟩
  clear hA0 hval0
  refine (walk a0_Stage a0_Level a0_Four a0_Single a0_Fourth a0_Low a0_High a0_Auto a0_Rotate a0_Special a0_ReadISR a0_Poll a0_Lines a0_Edge a0_ISR a0_IMR a0_Lowest a0_Step a0_Serving a0_Spurious a1 a2 a3 len3 cap3 z3 W w0_Stage w0_Low w0_High w0_Lines w0_Edge w0_ISR w0_IMR w0_Lowest w0_Step w0_Serving w2 w3).mono fun e W' ⟨he, bel⟩ => ?_
  subst he
  exact ⟨_, rfl, _, _, _, [], _, [], hW', trodAll_mk1 (shut_bool Try.underlying4 _), (trodAll_cons_mk (Below.trod laidOut (by kernel_rfl) (of_decide_eq_true (by kernel_rfl)) k0 bel lt0) (trodAll_cons_mk (Below.trod laidOut (by kernel_rfl) (of_decide_eq_true (by kernel_rfl)) k1 bel lt1) (trodAll_cons_mk (Below.trod laidOut (by kernel_rfl) (of_decide_eq_true (by kernel_rfl)) k2 bel lt2) (trodAll_cons_mk (Below.trod laidOut (by kernel_rfl) (of_decide_eq_true (by kernel_rfl)) k3 bel lt3) trodAll_mk0)))), rfl, bel.frame _, fun h => by cases h⟩

theorem over : Rows.picWritesRow.holds Try.pinned (OpenSpec.ofChange Rows.picWritesSpec) :=
  OpenClaim.holds_of_wide 4 Try.f4 rfl rfl rfl rfl rfl rfl rfl ⟨rfl, rfl, rfl, rfl, rfl⟩ rfl rfl rfl rfl rfl (by kernel_rfl) Try.func4 (by kernel_rfl)
    (of_decide_eq_true (by kernel_rfl)) (by unfold Func.isWrapper; first | (rw [if_pos (by decide +kernel)]; kernel_rfl) | (rw [if_neg (by decide +kernel)]; exact ⟨rfl, rfl⟩))
    (fun os started H enc _ => lifted os started H enc)

/-- The statement. -/
theorem proved : Rows.PicWritesSaid := over
#print axioms proved
end Go.Proofs.Ytionembpmfahlaa.picWrites
