/- The statement WideUndoesSaid of package tstatelaw7: for every input the law returns true, and its arguments read as before. No condition. -/
import Derived.Test.YtnbkfdefkonodaaRows
import Derived.Test.YtnbkfdefkonodaaM1
import Derived.Test.YtnbkfdefkonodaaC7
import Derived.Test.YtnbkfdefkonodaaCM
import Derived.WalkKit
import Derived.ProofKit
import Derived.OpenShut
import Derived.ShutString
import Derived.ChangeOld
import Derived.Below
import Derived.Carry
namespace Go.Proofs.Ytnbkfdefkonodaa.wideUndoes
open Go.ChangeShapes Go.WideShapes Go.ChangeAt Go.RowKit
open Go.ChangeMaps (open_string shut_string)
set_option linter.unusedVariables false

theorem own : ownKnob Try.prog.godebug = none := by kernel_rfl
theorem laidOut : laidOutB Try.prog = true := by kernel_rfl

set_option maxHeartbeats 2000000 in
/-- The walk. -/
theorem walk (a0 : Option Addr) (len0 cap0 : Nat) (z0 : List Int) (a1 : Int) (a2 : Int) (a3_S : Bool) (a3_Z : Bool) (a3_K : Bool) (a3_AC : Bool) (a3_P : Bool) (a3_V : Bool) (a3_CY : Bool) (w : World) (w0 : IsRow .i64 w a0 len0 cap0 z0) (w1 : (Lit.int .u16 a1).wf = true) (w2 : (Lit.int .u16 a2).wf = true) :
    Calls Try.prog 5 #[.slice a0 len0 cap0, .int .u16 a1, .int .u16 a2, .agg #[.bool a3_S, .bool a3_Z, .bool a3_K, .bool a3_AC, .bool a3_P, .bool a3_V, .bool a3_CY]] w fun e w' => e = .returned (.bool true) ∧ Below w.heap.size w w' := by
  have b1 := bounds_u16 w1
  have b2 := bounds_u16 w2
  have e1 : Hid _ := (S.wd_undoes a1 a2 b1.1 (by omega) b2.1 (by omega)).1
  have e2 : Hid _ := (S.wd_undoes a1 a2 b1.1 (by omega) b2.1 (by omega)).2
  obtain ⟨r0, r1⟩ := S.wsR_bd a1 a2
  have hx : ∀ (b : Nat), w.heap.size ≤ b → 0 < len0 → ∃ x, a0 = some x ∧ x.block < b := fun b hb hl => by
    obtain ⟨x, h1, h2⟩ := w0.lt hl
    exact ⟨x, h1, by omega⟩
  have hx : Hid _ := hx
  go_enter Try.func5, Try.ntmps5
  go_upto_region 1 with fail
  go_cut [9, 10] from 9 (fun s g wx => s = .int .u16 (S.wsR a1 a2) ∧ ∃ b : Nat, g = .pointer (some ⟨b, 0, none⟩) ∧ InB b wx ∧ wx.cell? ⟨b, 6, none⟩ = some (.bool (S.wsO a1 a2)) ∧ Adds w wx)
  case first =>
    go_region_with (first | (go_at_call 14; refine (from_any _ _ _ _).mono ?_; rintro e w' ⟨rfl, rfl⟩) | (go_at_call 13; refine (chip_at a0 len0 cap0 z0 _ _ (by first | (simp [go_sem]; done) | (simp [go_sem]; omega)) (by simp [go_sem]) (by simp [go_sem]) (by simp [go_sem]) (hx.out _ (by omega)) (by repeat (first | with_reducible exact w0 | with_reducible apply IsRow.drew | with_reducible apply IsRow.alloc))).mono ?_; rintro e w' ⟨rfl, ⟨⟨n1, os1⟩, rfl⟩⟩) | (go_at_call 8; refine (dad_any _ _ _ _ _ _ _ _ _ _ (by omega) (by omega) (by omega) (by omega) _).mono ?_; rintro e w' ⟨rfl, ⟨⟨n2, os2⟩, rfl⟩⟩))
    all_goals go_wp2_with fail
    all_goals go_meet
    all_goals exact ⟨rfl, _, rfl, by simp [go_sem], by simp [go_sem], by (repeat (first | with_reducible exact Adds.refl _ | with_reducible apply Adds.drew | with_reducible apply Adds.drewN | with_reducible apply Adds.alloc | with_reducible apply Adds.more | (with_reducible refine Adds.setCell ?_ ?_ _) | (focus (simp [go_sem]; done)) | (focus (simp [go_sem]; omega))))⟩
  case rest =>
    obtain ⟨rfl, b, rfl, hb, hc, hq⟩ := hcut
    have e1 := e1.out
    have e2 := e2.out
    go_wp2_with (first | (go_at_call 11; refine (dsub_any _ _ (by omega) (by omega) (by omega) (by omega) _).mono ?_; rintro e w' ⟨rfl, ⟨⟨n3, os3⟩, rfl⟩⟩) | (go_at_call 10; refine (known7_any _).mono ?_; rintro e w' ⟨rfl, ⟨⟨n4, os4⟩, rfl⟩⟩))
    go_ret
    exact ⟨rfl, Adds.below (hq.trans (by (repeat (first | with_reducible exact Adds.refl _ | with_reducible apply Adds.drew | with_reducible apply Adds.drewN | with_reducible apply Adds.alloc | with_reducible apply Adds.more | (with_reducible refine Adds.setCell ?_ ?_ _) | (focus (simp [go_sem]; done)) | (focus (simp [go_sem]; omega))))))⟩

set_option maxRecDepth 100000 in
theorem lifted (os : Os) (started : os.Started) (H : Type) (enc : TypeId × Value → H) :
    ReturnsInHanded {} Try.checked os 5 .any (Rows.wideUndoesSpec.pre6 enc Try.prog Try.f5 Rows.wideUndoesRow.domain false) (Rows.wideUndoesSpec.post enc Try.prog Try.f5 false true false false) := by
  refine returnsInHanded_of_change (C := Try.checked) own started (by kernel_rfl) Try.func5
    (ChangeSpec.witness6 (enc := enc) (C := Try.checked) false ⟨#[], #[.slice none 0 0, .int .u16 0, .int .u16 0, .agg #[.bool false, .bool false, .bool false, .bool false, .bool false, .bool false, .bool false]], []⟩ 8 (by kernel_rfl) (by kernel_rfl) (by kernel_rfl) (by kernel_rfl)) ?_
  intro W base args ds gs before hval0 hW hcnd _
  have hval : ∀ (j : Nat) t v, Try.f5.params[j]? = some t → args[j]? = some v → Value.okWide Try.prog W .any base t v := hval0
  have hW' := hW
  obtain ⟨p, q, hA0, hV, rfl, hfz, hnd⟩ := hW
  have hA : DataW.TrodAll enc Try.prog W 0 (fun _ => true) true Try.f5.params.toList args.toList ds p := hA0
  rw [Try.params5] at hA hval
  obtain ⟨v0, vs0, d0, ds0, p0, q0, hargs, rfl, rfl, h0, r0⟩ := trodAll_cons hA
  obtain ⟨v1, vs1, d1, ds1, p1, q1, rfl, rfl, rfl, h1, r1⟩ := trodAll_cons r0
  obtain ⟨v2, vs2, d2, ds2, p2, q2, rfl, rfl, rfl, h2, r2⟩ := trodAll_cons r1
  obtain ⟨v3, vs3, d3, ds3, p3, q3, rfl, rfl, rfl, h3, r3⟩ := trodAll_cons r2
  obtain ⟨rfl, rfl, rfl⟩ := trodAll_nil r3
  obtain rfl : args = #[v0, v1, v2, v3] := by cases args; simp_all
  obtain ⟨rfl, rfl⟩ := trodVars_none hV
  have k0 := h0
  have lt0 : ∀ x ∈ p0, x.block < W.heap.size := by obtain ⟨m, hm⟩ := k0; exact DataW.trod_lt m _ _ _ hm
  obtain ⟨a0, len0, cap0, rfl⟩ := okWide_slice Try.underlying32 (hval 0 32 v0 rfl rfl)
  obtain ⟨z0, w0⟩ : ∃ zs, IsRow .i64 W a0 len0 cap0 zs := by
    obtain ⟨fuel, hf⟩ := h0
    rcases open_ints Try.underlying32 Try.underlying3 (by kernel_rfl) hf with ⟨hcs, _⟩ | ⟨x, l, c, zs, hcs, _, hl, hm, hz, _, hcell, hwz⟩
    · simp [Value.cells] at hcs
      obtain ⟨rfl, rfl, rfl⟩ := hcs
      exact ⟨[], .inl ⟨rfl, rfl, rfl, rfl⟩⟩
    · simp [Value.cells] at hcs
      obtain ⟨rfl, rfl, rfl⟩ := hcs
      exact ⟨zs, .inr ⟨_, rfl, hl, hm, by simpa using hz, hcell, hwz⟩⟩
  have k1 := h1
  have lt1 : ∀ x ∈ p1, x.block < W.heap.size := by obtain ⟨m, hm⟩ := k1; exact DataW.trod_lt m _ _ _ hm
  obtain ⟨a1, rfl, -, -, w1⟩ := open_int Try.underlying22 (hval 1 22 v1 rfl rfl) h1
  have k2 := h2
  have lt2 : ∀ x ∈ p2, x.block < W.heap.size := by obtain ⟨m, hm⟩ := k2; exact DataW.trod_lt m _ _ _ hm
  obtain ⟨a2, rfl, -, -, w2⟩ := open_int Try.underlying22 (hval 2 22 v2 rfl rfl) h2
  have k3 := h3
  have lt3 : ∀ x ∈ p3, x.block < W.heap.size := by obtain ⟨m, hm⟩ := k3; exact DataW.trod_lt m _ _ _ hm
  obtain ⟨l3, rfl, g3_0⟩ := open_flat 9 [.bool, .bool, .bool, .bool, .bool, .bool, .bool] _ Try.underlying24 (by kernel_rfl) (hval 3 24 v3 rfl rfl) h3
  obtain ⟨a3_S, l3_1, rfl, g3_1⟩ := fits_bool g3_0
  obtain ⟨a3_Z, l3_2, rfl, g3_2⟩ := fits_bool g3_1
  obtain ⟨a3_K, l3_3, rfl, g3_3⟩ := fits_bool g3_2
  obtain ⟨a3_AC, l3_4, rfl, g3_4⟩ := fits_bool g3_3
  obtain ⟨a3_P, l3_5, rfl, g3_5⟩ := fits_bool g3_4
  obtain ⟨a3_V, l3_6, rfl, g3_6⟩ := fits_bool g3_5
  obtain ⟨a3_CY, l3_7, rfl, g3_7⟩ := fits_bool g3_6
  obtain rfl := fits_nil g3_7
  clear hA0 hval0
  refine (walk a0 len0 cap0 z0 a1 a2 a3_S a3_Z a3_K a3_AC a3_P a3_V a3_CY W w0 w1 w2).mono fun e W' ⟨he, bel⟩ => ?_
  subst he
  exact ⟨_, rfl, _, _, _, [], _, [], hW', trodAll_mk1 (shut_bool Try.underlying4 _), (trodAll_cons_mk (Below.trod laidOut (by kernel_rfl) (of_decide_eq_true (by kernel_rfl)) k0 bel lt0) (trodAll_cons_mk (Below.trod laidOut (by kernel_rfl) (of_decide_eq_true (by kernel_rfl)) k1 bel lt1) (trodAll_cons_mk (Below.trod laidOut (by kernel_rfl) (of_decide_eq_true (by kernel_rfl)) k2 bel lt2) (trodAll_cons_mk (Below.trod laidOut (by kernel_rfl) (of_decide_eq_true (by kernel_rfl)) k3 bel lt3) trodAll_mk0)))), rfl, bel.frame _, fun h => by cases h⟩

theorem over : Rows.wideUndoesRow.holds Try.pinned (OpenSpec.ofChange Rows.wideUndoesSpec) :=
  OpenClaim.holds_of_wide 5 Try.f5 rfl rfl rfl rfl rfl rfl rfl ⟨rfl, rfl, rfl, rfl, rfl⟩ rfl rfl rfl rfl rfl (by kernel_rfl) Try.func5 (by kernel_rfl)
    (of_decide_eq_true (by kernel_rfl)) (by unfold Func.isWrapper; first | (rw [if_pos (by decide +kernel)]; kernel_rfl) | (rw [if_neg (by decide +kernel)]; exact ⟨rfl, rfl⟩))
    (fun os started H enc _ => lifted os started H enc)

/-- The statement. -/
theorem proved : Rows.WideUndoesSaid := over
#print axioms proved
end Go.Proofs.Ytnbkfdefkonodaa.wideUndoes
