/- The statement PicRaisesSaid of package tstatelaw22: for every input the law returns true, and its arguments read as before. No condition. -/
import Derived.Test.YtionembpmfahlaaRows
import Derived.Test.YtionembpmfahlaaM1
import Derived.Test.YtionembpmfahlaaC22l
import Derived.WalkKit
import Derived.ProofKit
import Derived.OpenShut
import Derived.ShutString
import Derived.ChangeOld
import Derived.Below
import Derived.Carry
namespace Go.Proofs.Ytionembpmfahlaa.picRaises
open Go.ChangeShapes Go.WideShapes Go.ChangeAt Go.RowKit
open Go.ChangeMaps (open_string shut_string)
set_option linter.unusedVariables false

theorem own : ownKnob Try.prog.godebug = none := by kernel_rfl
theorem laidOut : laidOutB Try.prog = true := by kernel_rfl

def IsRow (k : IntKind) (w : World) (a : Option Addr) (len cap : Nat) (zs : List Int) : Prop :=
  (a = none ∧ len = 0 ∧ cap = 0 ∧ zs = []) ∨
  ∃ x, a = some x ∧ len ≤ cap ∧ cap ≤ maxLen ∧ zs.length = cap ∧ (∀ i, i < zs.length → w.cell? (x.add i) = some (.int k (zs.getD i 0))) ∧ ∀ n ∈ zs, (Lit.int k n).wf = true

set_option maxRecDepth 100000 in
set_option maxHeartbeats 4000000 in
theorem core (p : S.Pc) (ok : S.Ok p) (a1 : Int) (a2 : Option Addr) (len2 cap2 : Nat) (z2 : List Int) (w : World) (w2 : IsRow .i64 w a2 len2 cap2 z2) :
    Calls Try.prog 3 #[.agg #[.int .i64 p.St, .bool p.Le, .bool p.Fo, .bool p.Si, .bool p.Ft, .int .u8 p.Lw, .int .u8 p.Hg, .bool p.Au, .bool p.Ro, .bool p.Sp, .bool p.RI, .bool p.Po, .int .u8 p.Li, .int .u8 p.Ed, .int .u8 p.IS, .int .u8 p.IM, .int .i64 p.Lo, .int .i64 p.Sq, .int .i64 p.Sv, .bool p.Su], .int .u8 a1, .slice a2 len2 cap2] w fun e w' => e = .returned (.bool true) ∧ Below w.heap.size w w' := by
  by_cases h80 : 80 < len2
  · clear w2
    go_enter Try.func3, Try.ntmps3
    go_wp2_with (go_at_call 10; refine (known22_any _).mono ?_; rintro e w' ⟨rfl, ⟨⟨nk, osk⟩, rfl⟩⟩)
    go_ret
    exact ⟨rfl, Adds.below (by (repeat (first | with_reducible exact Adds.refl _ | with_reducible apply Adds.drew | with_reducible apply Adds.drewN | with_reducible apply Adds.alloc | with_reducible apply Adds.more | (with_reducible refine Adds.setCell ?_ ?_ _) | (focus (simp [go_sem]; done)) | (focus (simp [go_sem]; omega)))))⟩
  have H := Lib.hid (Nb.from (w := w.alloc (.cells #[.int .i64 p.St, .bool p.Le, .bool p.Fo, .bool p.Si, .bool p.Ft, .int .u8 p.Lw, .int .u8 p.Hg, .bool p.Au, .bool p.Ro, .bool p.Sp, .bool p.RI, .bool p.Po, .int .u8 p.Li, .int .u8 p.Ed, .int .u8 p.IS, .int .u8 p.IM, .int .i64 p.Lo, .int .i64 p.Sq, .int .i64 p.Sv, .bool p.Su] 23)) (b := w.heap.size + 1) (by simp [go_sem]) (IsRow.alloc w2 _) (by omega))
  clear w2
  have okp : Hid _ := ok
  clear ok
  go_enter Try.func3, Try.ntmps3
  go_wp2_with (first | (go_at_call 12; (with_reducible refine (from_any a2 len2 cap2 _).mono ?_); rintro e w' ⟨rfl, rfl⟩) | (go_at_call 11; (refine (pic_any _ len2 cap2 0 a2 (by omega) _ (by (repeat (first | with_reducible exact H.out | with_reducible refine Nb.more ?_ _ _ | with_reducible refine Nb.alloc ?_ _ | with_reducible refine Nb.drew ?_ | apply Nb.bump)))).mono ?_); rintro e w' ⟨q, M, okq, hM, rfl, ⟨n1, os1⟩, rfl⟩; simp only [S.Pc.cs]))
  have okr : Hid _ := okq
  clear okq
  go_loopw [20] (fun i wr => ∃ k : Int, (0 ≤ k ∧ k ≤ 2) ∧ i = .int .i64 k ∧ Adds w wr) (fun i _ => 2 - (intOf i).toNat)
  case atStart => exact ⟨0, by omega, rfl, by (repeat (first | with_reducible exact Adds.refl _ | with_reducible apply Adds.drew | with_reducible apply Adds.drewN | with_reducible apply Adds.alloc | with_reducible apply Adds.more | (with_reducible refine Adds.setCell ?_ ?_ _) | (focus (simp [go_sem]; done)) | (focus (simp [go_sem]; omega))))⟩
  case round =>
    obtain ⟨k, hk, rfl, ⟨⟨n0, os0⟩, rfl⟩⟩ := hrel
    rcases (by omega : k = 0 ∨ k = 1 ∨ k = 2) with rfl | rfl | rfl
    · go_wp2_with fail
      refine wp_region_adds (by kernel_rfl) (by kernel_rfl) ?_
      repeat (go_big_quiet_step (first | (go_at_call 13; exact calls_adds (raise_cells p _ _)) | (go_at_call 14; exact calls_adds (rraise_cells p _ _)) | (go_at_call 15; exact calls_adds (req_any p _)) | (go_at_call 16; exact calls_adds (rreq_any p _)) | (go_at_call 17; exact calls_adds (int_any p okp.out.1.1 okp.out.1.2 _)) | (go_at_call 18; exact calls_adds (rint_any p okp.out.1.1 okp.out.1.2 _))))
      refine wpQuiet_nil ?_
      intro _ hw1
      obtain ⟨⟨nq, osq⟩, hw2⟩ := hw1
      subst hw2
      go_wp2_with fail
      go_roundw
      case rel => exact ⟨1, by omega, rfl, by (repeat (first | with_reducible exact Adds.refl _ | with_reducible apply Adds.drew | with_reducible apply Adds.drewN | with_reducible apply Adds.alloc | with_reducible apply Adds.more | (with_reducible refine Adds.setCell ?_ ?_ _) | (focus (simp [go_sem]; done)) | (focus (simp [go_sem]; omega))))⟩
      case measure => simp [intOf]
    · go_wp2_with fail
      refine wp_region_adds (by kernel_rfl) (by kernel_rfl) ?_
      repeat (go_big_quiet_step (first | (go_at_call 13; exact calls_adds (raise_cells q _ _)) | (go_at_call 14; exact calls_adds (rraise_cells q _ _)) | (go_at_call 15; exact calls_adds (req_any q _)) | (go_at_call 16; exact calls_adds (rreq_any q _)) | (go_at_call 17; exact calls_adds (int_any q okr.out.1.1 okr.out.1.2 _)) | (go_at_call 18; exact calls_adds (rint_any q okr.out.1.1 okr.out.1.2 _))))
      refine wpQuiet_nil ?_
      intro _ hw1
      obtain ⟨⟨nq, osq⟩, hw2⟩ := hw1
      subst hw2
      go_wp2_with fail
      go_roundw
      case rel => exact ⟨2, by omega, rfl, by (repeat (first | with_reducible exact Adds.refl _ | with_reducible apply Adds.drew | with_reducible apply Adds.drewN | with_reducible apply Adds.alloc | with_reducible apply Adds.more | (with_reducible refine Adds.setCell ?_ ?_ _) | (focus (simp [go_sem]; done)) | (focus (simp [go_sem]; omega))))⟩
      case measure => simp [intOf]
    · go_wp2_with (first | (go_at_call 19; refine (new_any _).mono ?_; rintro e w' ⟨rfl, ⟨⟨n2, os2⟩, rfl⟩⟩; simp only [S.nw, S.Pc.cs]) | (go_at_call 20; refine (rnew_any _).mono ?_; rintro e w' ⟨rfl, ⟨⟨n3, os3⟩, rfl⟩⟩; simp only [S.nw, S.Pc.cs]) | (go_at_call 10; refine (known22_any _).mono ?_; rintro e w' ⟨rfl, ⟨⟨nk, osk⟩, rfl⟩⟩))
      go_ret
      exact ⟨rfl, Adds.below (by (repeat (first | with_reducible exact Adds.refl _ | with_reducible apply Adds.drew | with_reducible apply Adds.drewN | with_reducible apply Adds.alloc | with_reducible apply Adds.more | (with_reducible refine Adds.setCell ?_ ?_ _) | (focus (simp [go_sem]; done)) | (focus (simp [go_sem]; omega)))))⟩
set_option maxRecDepth 100000 in
set_option maxHeartbeats 2000000 in
/-- The walk. -/
theorem walk (a0_Stage : Int) (a0_Level : Bool) (a0_Four : Bool) (a0_Single : Bool) (a0_Fourth : Bool) (a0_Low : Int) (a0_High : Int) (a0_Auto : Bool) (a0_Rotate : Bool) (a0_Special : Bool) (a0_ReadISR : Bool) (a0_Poll : Bool) (a0_Lines : Int) (a0_Edge : Int) (a0_ISR : Int) (a0_IMR : Int) (a0_Lowest : Int) (a0_Step : Int) (a0_Serving : Int) (a0_Spurious : Bool) (a1 : Int) (a2 : Option Addr) (len2 cap2 : Nat) (z2 : List Int) (w : World) (w0_Stage : (Lit.int .i64 a0_Stage).wf = true) (w0_Low : (Lit.int .u8 a0_Low).wf = true) (w0_High : (Lit.int .u8 a0_High).wf = true) (w0_Lines : (Lit.int .u8 a0_Lines).wf = true) (w0_Edge : (Lit.int .u8 a0_Edge).wf = true) (w0_ISR : (Lit.int .u8 a0_ISR).wf = true) (w0_IMR : (Lit.int .u8 a0_IMR).wf = true) (w0_Lowest : (Lit.int .i64 a0_Lowest).wf = true) (w0_Step : (Lit.int .i64 a0_Step).wf = true) (w0_Serving : (Lit.int .i64 a0_Serving).wf = true) (w1 : (Lit.int .u8 a1).wf = true) (w2 : IsRow .i64 w a2 len2 cap2 z2) :
    Calls Try.prog 3 #[.agg #[.int .i64 a0_Stage, .bool a0_Level, .bool a0_Four, .bool a0_Single, .bool a0_Fourth, .int .u8 a0_Low, .int .u8 a0_High, .bool a0_Auto, .bool a0_Rotate, .bool a0_Special, .bool a0_ReadISR, .bool a0_Poll, .int .u8 a0_Lines, .int .u8 a0_Edge, .int .u8 a0_ISR, .int .u8 a0_IMR, .int .i64 a0_Lowest, .int .i64 a0_Step, .int .i64 a0_Serving, .bool a0_Spurious], .int .u8 a1, .slice a2 len2 cap2] w fun e w' => e = .returned (.bool true) ∧ Below w.heap.size w w' := by
  exact core ⟨a0_Stage, a0_Level, a0_Four, a0_Single, a0_Fourth, a0_Low, a0_High, a0_Auto, a0_Rotate, a0_Special, a0_ReadISR, a0_Poll, a0_Lines, a0_Edge, a0_ISR, a0_IMR, a0_Lowest, a0_Step, a0_Serving, a0_Spurious⟩ ⟨b256 (bounds_u8 w0_ISR), b256 (bounds_u8 w0_Low), b256 (bounds_u8 w0_High)⟩ a1 a2 len2 cap2 z2 w w2


set_option maxRecDepth 100000 in
theorem lifted (os : Os) (started : os.Started) (H : Type) (enc : TypeId × Value → H) :
    ReturnsInHanded {} Try.checked os 3 .any (Rows.picRaisesSpec.pre6 enc Try.prog Try.f3 Rows.picRaisesRow.domain false) (Rows.picRaisesSpec.post enc Try.prog Try.f3 false true false false) := by
  refine returnsInHanded_of_change (C := Try.checked) own started (by kernel_rfl) Try.func3
    (ChangeSpec.witness6 (enc := enc) (C := Try.checked) false ⟨#[], #[.agg #[.int .i64 0, .bool false, .bool false, .bool false, .bool false, .int .u8 0, .int .u8 0, .bool false, .bool false, .bool false, .bool false, .bool false, .int .u8 0, .int .u8 0, .int .u8 0, .int .u8 0, .int .i64 0, .int .i64 0, .int .i64 0, .bool false], .int .u8 0, .slice none 0 0], []⟩ 8 (by kernel_rfl) (by kernel_rfl) (by kernel_rfl) (by kernel_rfl)) ?_
  intro W base args ds gs before hval0 hW hcnd _
  have hval : ∀ (j : Nat) t v, Try.f3.params[j]? = some t → args[j]? = some v → Value.okWide Try.prog W .any base t v := hval0
  have hW' := hW
  obtain ⟨p, q, hA0, hV, rfl, hfz, hnd⟩ := hW
  have hA : DataW.TrodAll enc Try.prog W 0 (fun _ => true) true Try.f3.params.toList args.toList ds p := hA0
  rw [Try.params3] at hA hval
  obtain ⟨v0, vs0, d0, ds0, p0, q0, hargs, rfl, rfl, h0, r0⟩ := trodAll_cons hA
  obtain ⟨v1, vs1, d1, ds1, p1, q1, rfl, rfl, rfl, h1, r1⟩ := trodAll_cons r0
  obtain ⟨v2, vs2, d2, ds2, p2, q2, rfl, rfl, rfl, h2, r2⟩ := trodAll_cons r1
  obtain ⟨rfl, rfl, rfl⟩ := trodAll_nil r2
  obtain rfl : args = #[v0, v1, v2] := by cases args; simp_all
  obtain ⟨rfl, rfl⟩ := trodVars_none hV
  have k0 := h0
  have lt0 : ∀ x ∈ p0, x.block < W.heap.size := by obtain ⟨m, hm⟩ := k0; exact DataW.trod_lt m _ _ _ hm
  obtain ⟨l0, rfl, g0_0⟩ := open_flat 9 [.int .i64, .bool, .bool, .bool, .bool, .int .u8, .int .u8, .bool, .bool, .bool, .bool, .bool, .int .u8, .int .u8, .int .u8, .int .u8, .int .i64, .int .i64, .int .i64, .bool] _ Try.underlying23 (by kernel_rfl) (hval 0 23 v0 rfl rfl) h0
  obtain ⟨a0_Stage, l0_1, rfl, w0_Stage, g0_1⟩ := fits_int g0_0
  obtain ⟨a0_Level, l0_2, rfl, g0_2⟩ := fits_bool g0_1
  obtain ⟨a0_Four, l0_3, rfl, g0_3⟩ := fits_bool g0_2
  obtain ⟨a0_Single, l0_4, rfl, g0_4⟩ := fits_bool g0_3
  obtain ⟨a0_Fourth, l0_5, rfl, g0_5⟩ := fits_bool g0_4
  obtain ⟨a0_Low, l0_6, rfl, w0_Low, g0_6⟩ := fits_int g0_5
  obtain ⟨a0_High, l0_7, rfl, w0_High, g0_7⟩ := fits_int g0_6
  obtain ⟨a0_Auto, l0_8, rfl, g0_8⟩ := fits_bool g0_7
  obtain ⟨a0_Rotate, l0_9, rfl, g0_9⟩ := fits_bool g0_8
  obtain ⟨a0_Special, l0_10, rfl, g0_10⟩ := fits_bool g0_9
  obtain ⟨a0_ReadISR, l0_11, rfl, g0_11⟩ := fits_bool g0_10
  obtain ⟨a0_Poll, l0_12, rfl, g0_12⟩ := fits_bool g0_11
  obtain ⟨a0_Lines, l0_13, rfl, w0_Lines, g0_13⟩ := fits_int g0_12
  obtain ⟨a0_Edge, l0_14, rfl, w0_Edge, g0_14⟩ := fits_int g0_13
  obtain ⟨a0_ISR, l0_15, rfl, w0_ISR, g0_15⟩ := fits_int g0_14
  obtain ⟨a0_IMR, l0_16, rfl, w0_IMR, g0_16⟩ := fits_int g0_15
  obtain ⟨a0_Lowest, l0_17, rfl, w0_Lowest, g0_17⟩ := fits_int g0_16
  obtain ⟨a0_Step, l0_18, rfl, w0_Step, g0_18⟩ := fits_int g0_17
  obtain ⟨a0_Serving, l0_19, rfl, w0_Serving, g0_19⟩ := fits_int g0_18
  obtain ⟨a0_Spurious, l0_20, rfl, g0_20⟩ := fits_bool g0_19
  obtain rfl := fits_nil g0_20
  have k1 := h1
  have lt1 : ∀ x ∈ p1, x.block < W.heap.size := by obtain ⟨m, hm⟩ := k1; exact DataW.trod_lt m _ _ _ hm
  obtain ⟨a1, rfl, -, -, w1⟩ := open_int Try.underlying5 (hval 1 5 v1 rfl rfl) h1
  have k2 := h2
  have lt2 : ∀ x ∈ p2, x.block < W.heap.size := by obtain ⟨m, hm⟩ := k2; exact DataW.trod_lt m _ _ _ hm
  obtain ⟨a2, len2, cap2, rfl⟩ := okWide_slice Try.underlying24 (hval 2 24 v2 rfl rfl)
  obtain ⟨z2, w2⟩ : ∃ zs, IsRow .i64 W a2 len2 cap2 zs := by
    obtain ⟨fuel, hf⟩ := h2
    rcases open_ints Try.underlying24 Try.underlying3 (by kernel_rfl) hf with ⟨hcs, _⟩ | ⟨x, l, c, zs, hcs, _, hl, hm, hz, _, hcell, hwz⟩
    · simp [Value.cells] at hcs
      obtain ⟨rfl, rfl, rfl⟩ := hcs
      exact ⟨[], .inl ⟨rfl, rfl, rfl, rfl⟩⟩
    · simp [Value.cells] at hcs
      obtain ⟨rfl, rfl, rfl⟩ := hcs
      exact ⟨zs, .inr ⟨_, rfl, hl, hm, by simpa using hz, hcell, hwz⟩⟩
  clear hA0 hval0
  refine (walk a0_Stage a0_Level a0_Four a0_Single a0_Fourth a0_Low a0_High a0_Auto a0_Rotate a0_Special a0_ReadISR a0_Poll a0_Lines a0_Edge a0_ISR a0_IMR a0_Lowest a0_Step a0_Serving a0_Spurious a1 a2 len2 cap2 z2 W w0_Stage w0_Low w0_High w0_Lines w0_Edge w0_ISR w0_IMR w0_Lowest w0_Step w0_Serving w1 w2).mono fun e W' ⟨he, bel⟩ => ?_
  subst he
  exact ⟨_, rfl, _, _, _, [], _, [], hW', trodAll_mk1 (shut_bool Try.underlying4 _), (trodAll_cons_mk (Below.trod laidOut (by kernel_rfl) (of_decide_eq_true (by kernel_rfl)) k0 bel lt0) (trodAll_cons_mk (Below.trod laidOut (by kernel_rfl) (of_decide_eq_true (by kernel_rfl)) k1 bel lt1) (trodAll_cons_mk (Below.trod laidOut (by kernel_rfl) (of_decide_eq_true (by kernel_rfl)) k2 bel lt2) trodAll_mk0))), rfl, bel.frame _, fun h => by cases h⟩

theorem over : Rows.picRaisesRow.holds Try.pinned (OpenSpec.ofChange Rows.picRaisesSpec) :=
  OpenClaim.holds_of_wide 3 Try.f3 rfl rfl rfl rfl rfl rfl rfl ⟨rfl, rfl, rfl, rfl, rfl⟩ rfl rfl rfl rfl rfl (by kernel_rfl) Try.func3 (by kernel_rfl)
    (of_decide_eq_true (by kernel_rfl)) (by unfold Func.isWrapper; first | (rw [if_pos (by decide +kernel)]; kernel_rfl) | (rw [if_neg (by decide +kernel)]; exact ⟨rfl, rfl⟩))
    (fun os started H enc _ => lifted os started H enc)

/-- The statement. -/
theorem proved : Rows.PicRaisesSaid := over
#print axioms proved
end Go.Proofs.Ytionembpmfahlaa.picRaises
