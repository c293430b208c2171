/- The statement IrqLatchesSaid of package tstatelaw15: for every input the law returns true, and its arguments read as before. No condition. -/
import Derived.Test.YtaanpmmhhgnklaaRows
import Derived.Test.YtaanpmmhhgnklaaM1
import Derived.Test.YtaanpmmhhgnklaaC15k
import Derived.Test.YtaanpmmhhgnklaaCP
import Derived.WalkKit
import Derived.ProofKit
import Derived.OpenShut
import Derived.ShutString
import Derived.ChangeOld
import Derived.Below
import Derived.Carry
namespace Go.Proofs.Ytaanpmmhhgnklaa.irqLatches
open Go.ChangeShapes Go.WideShapes Go.ChangeAt Go.RowKit
open Go.ChangeMaps (open_string shut_string)
set_option linter.unusedVariables false

theorem own : ownKnob Try.prog.godebug = none := by kernel_rfl
theorem laidOut : laidOutB Try.prog = true := by kernel_rfl

def IsRow (k : IntKind) (w : World) (a : Option Addr) (len cap : Nat) (zs : List Int) : Prop :=
  (a = none ∧ len = 0 ∧ cap = 0 ∧ zs = []) ∨
  ∃ x, a = some x ∧ len ≤ cap ∧ cap ≤ maxLen ∧ zs.length = cap ∧ (∀ i, i < zs.length → w.cell? (x.add i) = some (.int k (zs.getD i 0))) ∧ ∀ n ∈ zs, (Lit.int k n).wf = true

set_option maxRecDepth 100000 in
set_option maxHeartbeats 2000000 in
/-- The walk. -/
theorem walk (a0_Chip : Int) (a0_Regs_A : Int) (a0_Regs_B : Int) (a0_Regs_C : Int) (a0_Regs_D : Int) (a0_Regs_E : Int) (a0_Regs_H : Int) (a0_Regs_L : Int) (a0_Regs_F_S : Bool) (a0_Regs_F_Z : Bool) (a0_Regs_F_K : Bool) (a0_Regs_F_AC : Bool) (a0_Regs_F_P : Bool) (a0_Regs_F_V : Bool) (a0_Regs_F_CY : Bool) (a0_Regs_SP : Int) (a0_Regs_PC : Int) (a0_IE : Bool) (a0_Delay : Bool) (a0_Halted : Bool) (a0_Mask : Int) (a0_Trap : Bool) (a0_R75 : Bool) (a0_WasTrap : Bool) (a0_Was75 : Bool) (a0_Saved : Bool) (a0_SavedIE : Bool) (a0_SOD : Bool) (a1_Ready : Bool) (a1_Hold : Bool) (a1_Reset : Bool) (a1_Sid : Bool) (a1_Trap : Bool) (a1_R75 : Bool) (a1_R65 : Bool) (a1_R55 : Bool) (a1_Intr : Bool) (a2 : Option Addr) (len2 cap2 : Nat) (z2 : List Int) (w : World) (w0_Chip : (Lit.int .i64 a0_Chip).wf = true) (w0_Regs_A : (Lit.int .u8 a0_Regs_A).wf = true) (w0_Regs_B : (Lit.int .u8 a0_Regs_B).wf = true) (w0_Regs_C : (Lit.int .u8 a0_Regs_C).wf = true) (w0_Regs_D : (Lit.int .u8 a0_Regs_D).wf = true) (w0_Regs_E : (Lit.int .u8 a0_Regs_E).wf = true) (w0_Regs_H : (Lit.int .u8 a0_Regs_H).wf = true) (w0_Regs_L : (Lit.int .u8 a0_Regs_L).wf = true) (w0_Regs_SP : (Lit.int .u16 a0_Regs_SP).wf = true) (w0_Regs_PC : (Lit.int .u16 a0_Regs_PC).wf = true) (w0_Mask : (Lit.int .u8 a0_Mask).wf = true) (w2 : IsRow .i64 w a2 len2 cap2 z2) :
    Calls Try.prog 3 #[.agg #[.int .i64 a0_Chip, .int .u8 a0_Regs_A, .int .u8 a0_Regs_B, .int .u8 a0_Regs_C, .int .u8 a0_Regs_D, .int .u8 a0_Regs_E, .int .u8 a0_Regs_H, .int .u8 a0_Regs_L, .bool a0_Regs_F_S, .bool a0_Regs_F_Z, .bool a0_Regs_F_K, .bool a0_Regs_F_AC, .bool a0_Regs_F_P, .bool a0_Regs_F_V, .bool a0_Regs_F_CY, .int .u16 a0_Regs_SP, .int .u16 a0_Regs_PC, .bool a0_IE, .bool a0_Delay, .bool a0_Halted, .int .u8 a0_Mask, .bool a0_Trap, .bool a0_R75, .bool a0_WasTrap, .bool a0_Was75, .bool a0_Saved, .bool a0_SavedIE, .bool a0_SOD], .agg #[.bool a1_Ready, .bool a1_Hold, .bool a1_Reset, .bool a1_Sid, .bool a1_Trap, .bool a1_R75, .bool a1_R65, .bool a1_R55, .bool a1_Intr], .slice a2 len2 cap2] w fun e w' => e = .returned (.bool true) ∧ Below w.heap.size w w' := by
  by_cases h80 : 80 < len2
  · clear w2
    go_enter Try.func3, Try.ntmps3
    go_wp2_with (go_at_call 9; refine (known15_any _).mono ?_; rintro e w' ⟨rfl, ⟨⟨nk, osk⟩, rfl⟩⟩)
    go_ret
    exact ⟨rfl, Adds.below (by (repeat (first | with_reducible exact Adds.refl _ | with_reducible apply Adds.drew | with_reducible apply Adds.drewN | with_reducible apply Adds.alloc | with_reducible apply Adds.more | (with_reducible refine Adds.setCell ?_ ?_ _) | (focus (simp [go_sem]; done)) | (focus (simp [go_sem]; omega)))))⟩
  have H := Lib.hid (Nb.from (w := (w.alloc (.cells #[.int .i64 a0_Chip, .int .u8 a0_Regs_A, .int .u8 a0_Regs_B, .int .u8 a0_Regs_C, .int .u8 a0_Regs_D, .int .u8 a0_Regs_E, .int .u8 a0_Regs_H, .int .u8 a0_Regs_L, .bool a0_Regs_F_S, .bool a0_Regs_F_Z, .bool a0_Regs_F_K, .bool a0_Regs_F_AC, .bool a0_Regs_F_P, .bool a0_Regs_F_V, .bool a0_Regs_F_CY, .int .u16 a0_Regs_SP, .int .u16 a0_Regs_PC, .bool a0_IE, .bool a0_Delay, .bool a0_Halted, .int .u8 a0_Mask, .bool a0_Trap, .bool a0_R75, .bool a0_WasTrap, .bool a0_Was75, .bool a0_Saved, .bool a0_SavedIE, .bool a0_SOD] 28)).alloc (.cells #[.bool a1_Ready, .bool a1_Hold, .bool a1_Reset, .bool a1_Sid, .bool a1_Trap, .bool a1_R75, .bool a1_R65, .bool a1_R55, .bool a1_Intr] 30)) (b := w.heap.size + 1 + 1) (by simp [go_sem]) (IsRow.alloc (IsRow.alloc w2 _) _) (by omega))
  have R2 := Lib.hid w2
  clear w2
  go_enter Try.func3, Try.ntmps3
  go_wp2_with (first
    | (go_at_call 10; (with_reducible refine (from_any a2 len2 cap2 _).mono ?_); rintro e w' ⟨rfl, rfl⟩)
    | (go_at_call 11; (refine (cpu_any _ len2 cap2 0 a2 (by omega) _ (by (repeat (first | with_reducible exact H.out | with_reducible refine Nb.more ?_ _ _ | with_reducible refine Nb.alloc ?_ _ | with_reducible refine Nb.drew ?_ | apply Nb.bump)))).mono ?_); rintro e w' ⟨cp, M, ⟨hm0, hm1⟩, hM, rfl, ⟨n1, os1⟩, rfl⟩; simp only [S.Cp.cs])
    | (go_at_call 12; (refine (lns_one _ len2 cap2 M a2 (by omega) _ (Nb.more (Nb.at (by simp [go_sem]) (IsRow.alloc (IsRow.alloc R2.out _) _) (by omega)) _ _)).mono ?_); rintro e w' ⟨gRe, gHo, gRs, gSi, gTr, gR7, gR6, gR5, gIn, M2, hM2, rfl, ⟨n2, os2⟩, rfl⟩))
  refine wp_region_adds (by kernel_rfl) (by kernel_rfl) ?_
  repeat (go_big_quiet_step (first | (go_at_call 13; exact calls_adds (latch_any _ _ _ _ _ _ _ _ _ _ _ _ _ _ _ _ _ _ _ _ _ _ _ _ _ _ _ _ _ _ _ _ _ _ _ _ _ _)) | (go_at_call 14; exact calls_adds (rlatch_any _ _ _ _ _ _ _ _ _ _ _ _ _ _ _ _ _ _ _ _ _ _ _ _ _ _ _ _ _ _ _ _ _ _ _ _ _ _)) | (go_at_call 9; exact calls_adds (known15_any _))))
  refine wpQuiet_nil ?_
  intro _ hw1
  obtain ⟨⟨nq, osq⟩, hw2⟩ := hw1
  subst hw2
  go_wp2_with fail
  go_ret
  exact ⟨rfl, Adds.below (by (repeat (first | with_reducible exact Adds.refl _ | with_reducible apply Adds.drew | with_reducible apply Adds.drewN | with_reducible apply Adds.alloc | with_reducible apply Adds.more | (with_reducible refine Adds.setCell ?_ ?_ _) | (focus (simp [go_sem]; done)) | (focus (simp [go_sem]; omega)))))⟩

set_option maxRecDepth 100000 in
theorem lifted (os : Os) (started : os.Started) (H : Type) (enc : TypeId × Value → H) :
    ReturnsInHanded {} Try.checked os 3 .any (Rows.irqLatchesSpec.pre6 enc Try.prog Try.f3 Rows.irqLatchesRow.domain false) (Rows.irqLatchesSpec.post enc Try.prog Try.f3 false true false false) := by
  refine returnsInHanded_of_change (C := Try.checked) own started (by kernel_rfl) Try.func3
    (ChangeSpec.witness6 (enc := enc) (C := Try.checked) false ⟨#[], #[.agg #[.int .i64 0, .int .u8 0, .int .u8 0, .int .u8 0, .int .u8 0, .int .u8 0, .int .u8 0, .int .u8 0, .bool false, .bool false, .bool false, .bool false, .bool false, .bool false, .bool false, .int .u16 0, .int .u16 0, .bool false, .bool false, .bool false, .int .u8 0, .bool false, .bool false, .bool false, .bool false, .bool false, .bool false, .bool false], .agg #[.bool false, .bool false, .bool false, .bool false, .bool false, .bool false, .bool false, .bool false, .bool false], .slice none 0 0], []⟩ 8 (by kernel_rfl) (by kernel_rfl) (by kernel_rfl) (by kernel_rfl)) ?_
  intro W base args ds gs before hval0 hW hcnd _
  have hval : ∀ (j : Nat) t v, Try.f3.params[j]? = some t → args[j]? = some v → Value.okWide Try.prog W .any base t v := hval0
  have hW' := hW
  obtain ⟨p, q, hA0, hV, rfl, hfz, hnd⟩ := hW
  have hA : DataW.TrodAll enc Try.prog W 0 (fun _ => true) true Try.f3.params.toList args.toList ds p := hA0
  rw [Try.params3] at hA hval
  obtain ⟨v0, vs0, d0, ds0, p0, q0, hargs, rfl, rfl, h0, r0⟩ := trodAll_cons hA
  obtain ⟨v1, vs1, d1, ds1, p1, q1, rfl, rfl, rfl, h1, r1⟩ := trodAll_cons r0
  obtain ⟨v2, vs2, d2, ds2, p2, q2, rfl, rfl, rfl, h2, r2⟩ := trodAll_cons r1
  obtain ⟨rfl, rfl, rfl⟩ := trodAll_nil r2
  obtain rfl : args = #[v0, v1, v2] := by cases args; simp_all
  obtain ⟨rfl, rfl⟩ := trodVars_none hV
  have k0 := h0
  have lt0 : ∀ x ∈ p0, x.block < W.heap.size := by obtain ⟨m, hm⟩ := k0; exact DataW.trod_lt m _ _ _ hm
  obtain ⟨l0, rfl, g0_0⟩ := open_flat 9 [.int .i64, .int .u8, .int .u8, .int .u8, .int .u8, .int .u8, .int .u8, .int .u8, .bool, .bool, .bool, .bool, .bool, .bool, .bool, .int .u16, .int .u16, .bool, .bool, .bool, .int .u8, .bool, .bool, .bool, .bool, .bool, .bool, .bool] _ Try.underlying28 (by kernel_rfl) (hval 0 28 v0 rfl rfl) h0
  obtain ⟨a0_Chip, l0_1, rfl, w0_Chip, g0_1⟩ := fits_int g0_0
  obtain ⟨a0_Regs_A, l0_2, rfl, w0_Regs_A, g0_2⟩ := fits_int g0_1
  obtain ⟨a0_Regs_B, l0_3, rfl, w0_Regs_B, g0_3⟩ := fits_int g0_2
  obtain ⟨a0_Regs_C, l0_4, rfl, w0_Regs_C, g0_4⟩ := fits_int g0_3
  obtain ⟨a0_Regs_D, l0_5, rfl, w0_Regs_D, g0_5⟩ := fits_int g0_4
  obtain ⟨a0_Regs_E, l0_6, rfl, w0_Regs_E, g0_6⟩ := fits_int g0_5
  obtain ⟨a0_Regs_H, l0_7, rfl, w0_Regs_H, g0_7⟩ := fits_int g0_6
  obtain ⟨a0_Regs_L, l0_8, rfl, w0_Regs_L, g0_8⟩ := fits_int g0_7
  obtain ⟨a0_Regs_F_S, l0_9, rfl, g0_9⟩ := fits_bool g0_8
  obtain ⟨a0_Regs_F_Z, l0_10, rfl, g0_10⟩ := fits_bool g0_9
  obtain ⟨a0_Regs_F_K, l0_11, rfl, g0_11⟩ := fits_bool g0_10
  obtain ⟨a0_Regs_F_AC, l0_12, rfl, g0_12⟩ := fits_bool g0_11
  obtain ⟨a0_Regs_F_P, l0_13, rfl, g0_13⟩ := fits_bool g0_12
  obtain ⟨a0_Regs_F_V, l0_14, rfl, g0_14⟩ := fits_bool g0_13
  obtain ⟨a0_Regs_F_CY, l0_15, rfl, g0_15⟩ := fits_bool g0_14
  obtain ⟨a0_Regs_SP, l0_16, rfl, w0_Regs_SP, g0_16⟩ := fits_int g0_15
  obtain ⟨a0_Regs_PC, l0_17, rfl, w0_Regs_PC, g0_17⟩ := fits_int g0_16
  obtain ⟨a0_IE, l0_18, rfl, g0_18⟩ := fits_bool g0_17
  obtain ⟨a0_Delay, l0_19, rfl, g0_19⟩ := fits_bool g0_18
  obtain ⟨a0_Halted, l0_20, rfl, g0_20⟩ := fits_bool g0_19
  obtain ⟨a0_Mask, l0_21, rfl, w0_Mask, g0_21⟩ := fits_int g0_20
  obtain ⟨a0_Trap, l0_22, rfl, g0_22⟩ := fits_bool g0_21
  obtain ⟨a0_R75, l0_23, rfl, g0_23⟩ := fits_bool g0_22
  obtain ⟨a0_WasTrap, l0_24, rfl, g0_24⟩ := fits_bool g0_23
  obtain ⟨a0_Was75, l0_25, rfl, g0_25⟩ := fits_bool g0_24
  obtain ⟨a0_Saved, l0_26, rfl, g0_26⟩ := fits_bool g0_25
  obtain ⟨a0_SavedIE, l0_27, rfl, g0_27⟩ := fits_bool g0_26
  obtain ⟨a0_SOD, l0_28, rfl, g0_28⟩ := fits_bool g0_27
  obtain rfl := fits_nil g0_28
  have k1 := h1
  have lt1 : ∀ x ∈ p1, x.block < W.heap.size := by obtain ⟨m, hm⟩ := k1; exact DataW.trod_lt m _ _ _ hm
  obtain ⟨l1, rfl, g1_0⟩ := open_flat 9 [.bool, .bool, .bool, .bool, .bool, .bool, .bool, .bool, .bool] _ Try.underlying30 (by kernel_rfl) (hval 1 30 v1 rfl rfl) h1
  obtain ⟨a1_Ready, l1_1, rfl, g1_1⟩ := fits_bool g1_0
  obtain ⟨a1_Hold, l1_2, rfl, g1_2⟩ := fits_bool g1_1
  obtain ⟨a1_Reset, l1_3, rfl, g1_3⟩ := fits_bool g1_2
  obtain ⟨a1_Sid, l1_4, rfl, g1_4⟩ := fits_bool g1_3
  obtain ⟨a1_Trap, l1_5, rfl, g1_5⟩ := fits_bool g1_4
  obtain ⟨a1_R75, l1_6, rfl, g1_6⟩ := fits_bool g1_5
  obtain ⟨a1_R65, l1_7, rfl, g1_7⟩ := fits_bool g1_6
  obtain ⟨a1_R55, l1_8, rfl, g1_8⟩ := fits_bool g1_7
  obtain ⟨a1_Intr, l1_9, rfl, g1_9⟩ := fits_bool g1_8
  obtain rfl := fits_nil g1_9
  have k2 := h2
  have lt2 : ∀ x ∈ p2, x.block < W.heap.size := by obtain ⟨m, hm⟩ := k2; exact DataW.trod_lt m _ _ _ hm
  obtain ⟨a2, len2, cap2, rfl⟩ := okWide_slice Try.underlying31 (hval 2 31 v2 rfl rfl)
  obtain ⟨z2, w2⟩ : ∃ zs, IsRow .i64 W a2 len2 cap2 zs := by
    obtain ⟨fuel, hf⟩ := h2
    rcases open_ints Try.underlying31 Try.underlying3 (by kernel_rfl) hf with ⟨hcs, _⟩ | ⟨x, l, c, zs, hcs, _, hl, hm, hz, _, hcell, hwz⟩
    · simp [Value.cells] at hcs
      obtain ⟨rfl, rfl, rfl⟩ := hcs
      exact ⟨[], .inl ⟨rfl, rfl, rfl, rfl⟩⟩
    · simp [Value.cells] at hcs
      obtain ⟨rfl, rfl, rfl⟩ := hcs
      exact ⟨zs, .inr ⟨_, rfl, hl, hm, by simpa using hz, hcell, hwz⟩⟩
  clear hA0 hval0
  refine (walk a0_Chip a0_Regs_A a0_Regs_B a0_Regs_C a0_Regs_D a0_Regs_E a0_Regs_H a0_Regs_L a0_Regs_F_S a0_Regs_F_Z a0_Regs_F_K a0_Regs_F_AC a0_Regs_F_P a0_Regs_F_V a0_Regs_F_CY a0_Regs_SP a0_Regs_PC a0_IE a0_Delay a0_Halted a0_Mask a0_Trap a0_R75 a0_WasTrap a0_Was75 a0_Saved a0_SavedIE a0_SOD a1_Ready a1_Hold a1_Reset a1_Sid a1_Trap a1_R75 a1_R65 a1_R55 a1_Intr a2 len2 cap2 z2 W w0_Chip w0_Regs_A w0_Regs_B w0_Regs_C w0_Regs_D w0_Regs_E w0_Regs_H w0_Regs_L w0_Regs_SP w0_Regs_PC w0_Mask w2).mono fun e W' ⟨he, bel⟩ => ?_
  subst he
  exact ⟨_, rfl, _, _, _, [], _, [], hW', trodAll_mk1 (shut_bool Try.underlying4 _), (trodAll_cons_mk (Below.trod laidOut (by kernel_rfl) (of_decide_eq_true (by kernel_rfl)) k0 bel lt0) (trodAll_cons_mk (Below.trod laidOut (by kernel_rfl) (of_decide_eq_true (by kernel_rfl)) k1 bel lt1) (trodAll_cons_mk (Below.trod laidOut (by kernel_rfl) (of_decide_eq_true (by kernel_rfl)) k2 bel lt2) trodAll_mk0))), rfl, bel.frame _, fun h => by cases h⟩

theorem over : Rows.irqLatchesRow.holds Try.pinned (OpenSpec.ofChange Rows.irqLatchesSpec) :=
  OpenClaim.holds_of_wide 3 Try.f3 rfl rfl rfl rfl rfl rfl rfl ⟨rfl, rfl, rfl, rfl, rfl⟩ rfl rfl rfl rfl rfl (by kernel_rfl) Try.func3 (by kernel_rfl)
    (of_decide_eq_true (by kernel_rfl)) (by unfold Func.isWrapper; first | (rw [if_pos (by decide +kernel)]; kernel_rfl) | (rw [if_neg (by decide +kernel)]; exact ⟨rfl, rfl⟩))
    (fun os started H enc _ => lifted os started H enc)

/-- The statement. -/
theorem proved : Rows.IrqLatchesSaid := over
#print axioms proved
end Go.Proofs.Ytaanpmmhhgnklaa.irqLatches
