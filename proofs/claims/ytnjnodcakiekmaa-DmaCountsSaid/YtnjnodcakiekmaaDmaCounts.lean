/- The statement DmaCountsSaid of package tstatelaw23: for every input the law returns true, and its arguments read as before. No condition. -/
import Derived.Test.YtnjnodcakiekmaaRows
import Derived.Test.YtnjnodcakiekmaaM1
import Derived.Test.YtnjnodcakiekmaaC23k
import Derived.WalkKit
import Derived.ProofKit
import Derived.OpenShut
import Derived.ShutString
import Derived.ChangeOld
import Derived.Below
import Derived.Carry
namespace Go.Proofs.Ytnjnodcakiekmaa.dmaCounts
open Go.ChangeShapes Go.WideShapes Go.ChangeAt Go.RowKit
open Go.ChangeMaps (open_string shut_string)
set_option linter.unusedVariables false

theorem own : ownKnob Try.prog.godebug = none := by kernel_rfl
theorem laidOut : laidOutB Try.prog = true := by kernel_rfl

set_option maxRecDepth 100000 in
set_option maxHeartbeats 2000000 in
/-- The walk. -/
theorem walk (a0_At : Int) (a0_Value : Int) (a0_Left : Int) (a1 : Int) (w : World) (w0_At : (Lit.int .u16 a0_At).wf = true) (w0_Value : (Lit.int .u8 a0_Value).wf = true) (w0_Left : (Lit.int .i64 a0_Left).wf = true) (w1 : (Lit.int .u8 a1).wf = true) :
    Calls Try.prog 5 #[.agg #[.int .u16 a0_At, .int .u8 a0_Value, .int .i64 a0_Left], .int .u8 a1] w fun e w' => e = .returned (.bool true) ∧ Below w.heap.size w w' := by
  have bA := bounds_u16 w0_At
  have b1 := bounds_u8 w1
  go_enter Try.func5, Try.ntmps5
  go_wp2_with (first | (go_at_call 6; refine (dm_wr3 _ _ _ 3 _ (by omega) (by omega) (by omega) (by omega) (by decide) _).mono ?_; rintro e w' ⟨rfl, ⟨⟨n1, os1⟩, rfl⟩⟩))
  go_loopw [6] (fun i wr => ∃ (j : Nat) (x l : Int), ((j : Int) ≤ a1 ∧ x = (a0_At + j) % 65536 ∧ l = a1 - j) ∧ i = .int .i64 j ∧ Adds ((More (w.alloc (.cells #[.int .u16 a0_At, .int .u8 a0_Value, .int .i64 a0_Left] 24)) n1 os1).alloc (.cells #[.int .u16 x, .int .u8 a0_Value, .int .i64 l] 24)) wr) (fun i _ => a1.toNat - (intOf i).toNat)
  case atStart => exact ⟨0, a0_At, a1, ⟨by omega, by omega, by omega⟩, rfl, by (repeat (first | with_reducible exact Adds.refl _ | with_reducible apply Adds.drew | with_reducible apply Adds.drewN | with_reducible apply Adds.alloc | with_reducible apply Adds.more | (with_reducible refine Adds.setCell ?_ ?_ _) | (focus (simp [go_sem]; done)) | (focus (simp [go_sem]; omega))))⟩
  case round =>
    obtain ⟨j, x, l, ⟨hj, hx, hl⟩, rfl, ⟨⟨n0, os0⟩, rfl⟩⟩ := hrel
    have HX : Hid _ := hx
    have HL : Hid _ := hl
    have x0 : 0 ≤ x := by omega
    have x1 : x < 65536 := by omega
    by_cases hlt : (j : Int) < a1
    · have l0 : 0 < l := by omega
      have l1 : l < 9223372036854775808 := by omega
      have e1 : IntKind.u16.wrap (a0_At + j) = x := by rw [IntKind.wrap_u16, hx]
      clear hx hl
      go_wp2_with (first | (go_at_call 12; refine (dma_tr _ _ _ l0 l1 _).mono ?_; rintro e w' ⟨rfl, ⟨⟨n2, os2⟩, rfl⟩⟩))
      go_roundw
      case rel => exact ⟨j + 1, IntKind.u16.wrap (x + 1), l - 1, ⟨by omega, by rw [IntKind.wrap_u16]; have := HX.out; omega, by have := HL.out; omega⟩, by go_num, by (repeat (first | with_reducible exact Adds.refl _ | with_reducible apply Adds.drew | with_reducible apply Adds.drewN | with_reducible apply Adds.alloc | with_reducible apply Adds.more | (with_reducible refine Adds.setCell ?_ ?_ _) | (focus (simp [go_sem]; done)) | (focus (simp [go_sem]; omega))))⟩
      case measure => simp [intOf] <;> omega
    · have ea : a1 = j := by omega
      have l0 : decide (0 < l) = false := decide_eq_false (by omega)
      have e1 : IntKind.u16.wrap (a0_At + a1) = x := by rw [IntKind.wrap_u16, hx, ea]
      clear hx hl
      go_wp2_with (first | (go_at_call 14; refine (dm_req _ _ _ _).mono ?_; rintro e w' ⟨rfl, ⟨⟨n2, os2⟩, rfl⟩⟩) | (go_at_call 10; refine (known23_any _).mono ?_; rintro e w' ⟨rfl, ⟨⟨n3, os3⟩, rfl⟩⟩))
      go_ret
      exact ⟨rfl, Adds.below (by (repeat (first | with_reducible exact Adds.refl _ | with_reducible apply Adds.drew | with_reducible apply Adds.drewN | with_reducible apply Adds.alloc | with_reducible apply Adds.more | (with_reducible refine Adds.setCell ?_ ?_ _) | (focus (simp [go_sem]; done)) | (focus (simp [go_sem]; omega)))))⟩

set_option maxRecDepth 100000 in
theorem lifted (os : Os) (started : os.Started) (H : Type) (enc : TypeId × Value → H) :
    ReturnsInHanded {} Try.checked os 5 .any (Rows.dmaCountsSpec.pre6 enc Try.prog Try.f5 Rows.dmaCountsRow.domain false) (Rows.dmaCountsSpec.post enc Try.prog Try.f5 false true false false) := by
  refine returnsInHanded_of_change (C := Try.checked) own started (by kernel_rfl) Try.func5
    (ChangeSpec.witness6 (enc := enc) (C := Try.checked) false ⟨#[], #[.agg #[.int .u16 0, .int .u8 0, .int .i64 0], .int .u8 0], []⟩ 8 (by kernel_rfl) (by kernel_rfl) (by kernel_rfl) (by kernel_rfl)) ?_
  intro W base args ds gs before hval0 hW hcnd _
  have hval : ∀ (j : Nat) t v, Try.f5.params[j]? = some t → args[j]? = some v → Value.okWide Try.prog W .any base t v := hval0
  have hW' := hW
  obtain ⟨p, q, hA0, hV, rfl, hfz, hnd⟩ := hW
  have hA : DataW.TrodAll enc Try.prog W 0 (fun _ => true) true Try.f5.params.toList args.toList ds p := hA0
  rw [Try.params5] at hA hval
  obtain ⟨v0, vs0, d0, ds0, p0, q0, hargs, rfl, rfl, h0, r0⟩ := trodAll_cons hA
  obtain ⟨v1, vs1, d1, ds1, p1, q1, rfl, rfl, rfl, h1, r1⟩ := trodAll_cons r0
  obtain ⟨rfl, rfl, rfl⟩ := trodAll_nil r1
  obtain rfl : args = #[v0, v1] := by cases args; simp_all
  obtain ⟨rfl, rfl⟩ := trodVars_none hV
  have k0 := h0
  have lt0 : ∀ x ∈ p0, x.block < W.heap.size := by obtain ⟨m, hm⟩ := k0; exact DataW.trod_lt m _ _ _ hm
  obtain ⟨l0, rfl, g0_0⟩ := open_flat 9 [.int .u16, .int .u8, .int .i64] _ Try.underlying24 (by kernel_rfl) (hval 0 24 v0 rfl rfl) h0
  obtain ⟨a0_At, l0_1, rfl, w0_At, g0_1⟩ := fits_int g0_0
  obtain ⟨a0_Value, l0_2, rfl, w0_Value, g0_2⟩ := fits_int g0_1
  obtain ⟨a0_Left, l0_3, rfl, w0_Left, g0_3⟩ := fits_int g0_2
  obtain rfl := fits_nil g0_3
  have k1 := h1
  have lt1 : ∀ x ∈ p1, x.block < W.heap.size := by obtain ⟨m, hm⟩ := k1; exact DataW.trod_lt m _ _ _ hm
  obtain ⟨a1, rfl, -, -, w1⟩ := open_int Try.underlying5 (hval 1 5 v1 rfl rfl) h1
  clear hA0 hval0
  refine (walk a0_At a0_Value a0_Left a1 W w0_At w0_Value w0_Left w1).mono fun e W' ⟨he, bel⟩ => ?_
  subst he
  exact ⟨_, rfl, _, _, _, [], _, [], hW', trodAll_mk1 (shut_bool Try.underlying4 _), (trodAll_cons_mk (Below.trod laidOut (by kernel_rfl) (of_decide_eq_true (by kernel_rfl)) k0 bel lt0) (trodAll_cons_mk (Below.trod laidOut (by kernel_rfl) (of_decide_eq_true (by kernel_rfl)) k1 bel lt1) trodAll_mk0)), rfl, bel.frame _, fun h => by cases h⟩

theorem over : Rows.dmaCountsRow.holds Try.pinned (OpenSpec.ofChange Rows.dmaCountsSpec) :=
  OpenClaim.holds_of_wide 5 Try.f5 rfl rfl rfl rfl rfl rfl rfl ⟨rfl, rfl, rfl, rfl, rfl⟩ rfl rfl rfl rfl rfl (by kernel_rfl) Try.func5 (by kernel_rfl)
    (of_decide_eq_true (by kernel_rfl)) (by unfold Func.isWrapper; first | (rw [if_pos (by decide +kernel)]; kernel_rfl) | (rw [if_neg (by decide +kernel)]; exact ⟨rfl, rfl⟩))
    (fun os started H enc _ => lifted os started H enc)

/-- The statement. -/
theorem proved : Rows.DmaCountsSaid := over
#print axioms proved
end Go.Proofs.Ytnjnodcakiekmaa.dmaCounts
