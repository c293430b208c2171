/- The statement DmaRegistersSaid of package tstatelaw23: for every input the law returns true, and its arguments read as before. No condition. -/
import Derived.Test.YtnjnodcakiekmaaRows
import Derived.Test.YtnjnodcakiekmaaM1
import Derived.Test.YtnjnodcakiekmaaC23k
import Derived.WalkKit
import Derived.ProofKit
import Derived.OpenShut
import Derived.ShutString
import Derived.ChangeOld
import Derived.Below
import Derived.Carry
namespace Go.Proofs.Ytnjnodcakiekmaa.dmaRegisters
open Go.ChangeShapes Go.WideShapes Go.ChangeAt Go.RowKit
open Go.ChangeMaps (open_string shut_string)
set_option linter.unusedVariables false

theorem own : ownKnob Try.prog.godebug = none := by kernel_rfl
theorem laidOut : laidOutB Try.prog = true := by kernel_rfl

set_option maxRecDepth 100000 in
set_option maxHeartbeats 2000000 in
/-- The walk. -/
theorem walk (a0_At : Int) (a0_Value : Int) (a0_Left : Int) (a1 : Int) (a2 : Int) (w : World) (w0_At : (Lit.int .u16 a0_At).wf = true) (w0_Value : (Lit.int .u8 a0_Value).wf = true) (w0_Left : (Lit.int .i64 a0_Left).wf = true) (w1 : (Lit.int .i64 a1).wf = true) (w2 : (Lit.int .u8 a2).wf = true) :
    Calls Try.prog 3 #[.agg #[.int .u16 a0_At, .int .u8 a0_Value, .int .i64 a0_Left], .int .i64 a1, .int .u8 a2] w fun e w' => e = .returned (.bool true) ∧ Below w.heap.size w w' := by
  have bA := bounds_u16 w0_At
  have b2 := bounds_u8 w2
  have bV := bounds_u8 w0_Value
  have gA := S.dmA_bd a1 a0_At a2 (by omega) (by omega) (by omega) (by omega)
  have hb := S.dm_back a1 a0_At a0_Value a0_Left a2 (by omega) (by omega) (by omega) (by omega)
  go_enter Try.func3, Try.ntmps3
  go_wp2_with fail
  refine wp_region_adds (by kernel_rfl) (by kernel_rfl) ?_
  repeat (go_big_quiet_step (first | (go_at_call 6; exact calls_adds (dma_wr _ _ _ _ _ (by omega) (by omega) (by omega) (by omega) _)) | (go_at_call 7; exact calls_adds (dma_rwr _ _ _ _ _ (by omega) (by omega) (by omega) (by omega) _)) | (go_at_call 8; exact calls_adds (dma_rd _ _ _ _ (by omega) (by omega) _)) | (go_at_call 9; exact calls_adds (dma_rrd _ _ _ _ (by omega) (by omega) _)) | (go_at_call 10; exact calls_adds (known23_any _))))
  refine wpQuiet_nil ?_
  intro _ hw1
  obtain ⟨⟨nq, osq⟩, hw2⟩ := hw1
  subst hw2
  go_wp2_with fail
  go_ret
  exact ⟨rfl, Adds.below (by (repeat (first | with_reducible exact Adds.refl _ | with_reducible apply Adds.drew | with_reducible apply Adds.drewN | with_reducible apply Adds.alloc | with_reducible apply Adds.more | (with_reducible refine Adds.setCell ?_ ?_ _) | (focus (simp [go_sem]; done)) | (focus (simp [go_sem]; omega)))))⟩

set_option maxRecDepth 100000 in
theorem lifted (os : Os) (started : os.Started) (H : Type) (enc : TypeId × Value → H) :
    ReturnsInHanded {} Try.checked os 3 .any (Rows.dmaRegistersSpec.pre6 enc Try.prog Try.f3 Rows.dmaRegistersRow.domain false) (Rows.dmaRegistersSpec.post enc Try.prog Try.f3 false true false false) := by
  refine returnsInHanded_of_change (C := Try.checked) own started (by kernel_rfl) Try.func3
    (ChangeSpec.witness6 (enc := enc) (C := Try.checked) false ⟨#[], #[.agg #[.int .u16 0, .int .u8 0, .int .i64 0], .int .i64 0, .int .u8 0], []⟩ 8 (by kernel_rfl) (by kernel_rfl) (by kernel_rfl) (by kernel_rfl)) ?_
  intro W base args ds gs before hval0 hW hcnd _
  have hval : ∀ (j : Nat) t v, Try.f3.params[j]? = some t → args[j]? = some v → Value.okWide Try.prog W .any base t v := hval0
  have hW' := hW
  obtain ⟨p, q, hA0, hV, rfl, hfz, hnd⟩ := hW
  have hA : DataW.TrodAll enc Try.prog W 0 (fun _ => true) true Try.f3.params.toList args.toList ds p := hA0
  rw [Try.params3] at hA hval
  obtain ⟨v0, vs0, d0, ds0, p0, q0, hargs, rfl, rfl, h0, r0⟩ := trodAll_cons hA
  obtain ⟨v1, vs1, d1, ds1, p1, q1, rfl, rfl, rfl, h1, r1⟩ := trodAll_cons r0
  obtain ⟨v2, vs2, d2, ds2, p2, q2, rfl, rfl, rfl, h2, r2⟩ := trodAll_cons r1
  obtain ⟨rfl, rfl, rfl⟩ := trodAll_nil r2
  obtain rfl : args = #[v0, v1, v2] := by cases args; simp_all
  obtain ⟨rfl, rfl⟩ := trodVars_none hV
  have k0 := h0
  have lt0 : ∀ x ∈ p0, x.block < W.heap.size := by obtain ⟨m, hm⟩ := k0; exact DataW.trod_lt m _ _ _ hm
  obtain ⟨l0, rfl, g0_0⟩ := open_flat 9 [.int .u16, .int .u8, .int .i64] _ Try.underlying24 (by kernel_rfl) (hval 0 24 v0 rfl rfl) h0
  obtain ⟨a0_At, l0_1, rfl, w0_At, g0_1⟩ := fits_int g0_0
  obtain ⟨a0_Value, l0_2, rfl, w0_Value, g0_2⟩ := fits_int g0_1
  obtain ⟨a0_Left, l0_3, rfl, w0_Left, g0_3⟩ := fits_int g0_2
  obtain rfl := fits_nil g0_3
  have k1 := h1
  have lt1 : ∀ x ∈ p1, x.block < W.heap.size := by obtain ⟨m, hm⟩ := k1; exact DataW.trod_lt m _ _ _ hm
  obtain ⟨a1, rfl, -, -, w1⟩ := open_int Try.underlying3 (hval 1 3 v1 rfl rfl) h1
  have k2 := h2
  have lt2 : ∀ x ∈ p2, x.block < W.heap.size := by obtain ⟨m, hm⟩ := k2; exact DataW.trod_lt m _ _ _ hm
  obtain ⟨a2, rfl, -, -, w2⟩ := open_int Try.underlying5 (hval 2 5 v2 rfl rfl) h2
  clear hA0 hval0
  refine (walk a0_At a0_Value a0_Left a1 a2 W w0_At w0_Value w0_Left w1 w2).mono fun e W' ⟨he, bel⟩ => ?_
  subst he
  exact ⟨_, rfl, _, _, _, [], _, [], hW', trodAll_mk1 (shut_bool Try.underlying4 _), (trodAll_cons_mk (Below.trod laidOut (by kernel_rfl) (of_decide_eq_true (by kernel_rfl)) k0 bel lt0) (trodAll_cons_mk (Below.trod laidOut (by kernel_rfl) (of_decide_eq_true (by kernel_rfl)) k1 bel lt1) (trodAll_cons_mk (Below.trod laidOut (by kernel_rfl) (of_decide_eq_true (by kernel_rfl)) k2 bel lt2) trodAll_mk0))), rfl, bel.frame _, fun h => by cases h⟩

theorem over : Rows.dmaRegistersRow.holds Try.pinned (OpenSpec.ofChange Rows.dmaRegistersSpec) :=
  OpenClaim.holds_of_wide 3 Try.f3 rfl rfl rfl rfl rfl rfl rfl ⟨rfl, rfl, rfl, rfl, rfl⟩ rfl rfl rfl rfl rfl (by kernel_rfl) Try.func3 (by kernel_rfl)
    (of_decide_eq_true (by kernel_rfl)) (by unfold Func.isWrapper; first | (rw [if_pos (by decide +kernel)]; kernel_rfl) | (rw [if_neg (by decide +kernel)]; exact ⟨rfl, rfl⟩))
    (fun os started H enc _ => lifted os started H enc)

/-- The statement. -/
theorem proved : Rows.DmaRegistersSaid := over
#print axioms proved
end Go.Proofs.Ytnjnodcakiekmaa.dmaRegisters
