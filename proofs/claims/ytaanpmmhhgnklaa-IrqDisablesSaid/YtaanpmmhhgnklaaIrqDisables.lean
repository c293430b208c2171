/- The statement IrqDisablesSaid of package tstatelaw15: for every input the law returns true, and its arguments read as before. No condition. -/
import Derived.Test.YtaanpmmhhgnklaaRows
import Derived.Test.YtaanpmmhhgnklaaM1
import Derived.Test.YtaanpmmhhgnklaaC15k
import Derived.Test.YtaanpmmhhgnklaaCP
import Derived.WalkKit
import Derived.ProofKit
import Derived.OpenShut
import Derived.ShutString
import Derived.ChangeOld
import Derived.Below
import Derived.Carry
namespace Go.Proofs.Ytaanpmmhhgnklaa.irqDisables
open Go.ChangeShapes Go.WideShapes Go.ChangeAt Go.RowKit
open Go.ChangeMaps (open_string shut_string)
set_option linter.unusedVariables false

theorem own : ownKnob Try.prog.godebug = none := by kernel_rfl
theorem laidOut : laidOutB Try.prog = true := by kernel_rfl

def IsRow (k : IntKind) (w : World) (a : Option Addr) (len cap : Nat) (zs : List Int) : Prop :=
  (a = none ∧ len = 0 ∧ cap = 0 ∧ zs = []) ∨
  ∃ x, a = some x ∧ len ≤ cap ∧ cap ≤ maxLen ∧ zs.length = cap ∧ (∀ i, i < zs.length → w.cell? (x.add i) = some (.int k (zs.getD i 0))) ∧ ∀ n ∈ zs, (Lit.int k n).wf = true

set_option maxRecDepth 100000 in
set_option maxHeartbeats 2000000 in
/-- The walk. -/
theorem walk (a0 : Option Addr) (len0 cap0 : Nat) (z0 : List Int) (a1_Ready : Bool) (a1_Hold : Bool) (a1_Reset : Bool) (a1_Sid : Bool) (a1_Trap : Bool) (a1_R75 : Bool) (a1_R65 : Bool) (a1_R55 : Bool) (a1_Intr : Bool) (w : World) (w0 : IsRow .i64 w a0 len0 cap0 z0) :
    Calls Try.prog 7 #[.slice a0 len0 cap0, .agg #[.bool a1_Ready, .bool a1_Hold, .bool a1_Reset, .bool a1_Sid, .bool a1_Trap, .bool a1_R75, .bool a1_R65, .bool a1_R55, .bool a1_Intr]] w fun e w' => e = .returned (.bool true) ∧ Below w.heap.size w w' := by
  by_cases h80 : 80 < len0
  · clear w0
    go_enter Try.func7, Try.ntmps7
    go_wp2_with (go_at_call 9; refine (known15_any _).mono ?_; rintro e w' ⟨rfl, ⟨⟨nk, osk⟩, rfl⟩⟩)
    go_ret
    exact ⟨rfl, Adds.below (by (repeat (first | with_reducible exact Adds.refl _ | with_reducible apply Adds.drew | with_reducible apply Adds.drewN | with_reducible apply Adds.alloc | with_reducible apply Adds.more | (with_reducible refine Adds.setCell ?_ ?_ _) | (focus (simp [go_sem]; done)) | (focus (simp [go_sem]; omega)))))⟩
  have H := Lib.hid (Nb.from (w := w.alloc (.cells #[.bool a1_Ready, .bool a1_Hold, .bool a1_Reset, .bool a1_Sid, .bool a1_Trap, .bool a1_R75, .bool a1_R65, .bool a1_R55, .bool a1_Intr] 30)) (b := w.heap.size + 1) (by simp [go_sem]) (IsRow.alloc w0 _) (by omega))
  clear w0
  go_enter Try.func7, Try.ntmps7
  go_wp2_with (first
    | (go_at_call 10; (with_reducible refine (from_any a0 len0 cap0 _).mono ?_); rintro e w' ⟨rfl, rfl⟩)
    | (go_at_call 11; (refine (cpu_any _ len0 cap0 0 a0 (by omega) _ (by (repeat (first | with_reducible exact H.out | with_reducible refine Nb.more ?_ _ _ | with_reducible refine Nb.alloc ?_ _ | with_reducible refine Nb.drew ?_ | apply Nb.bump)))).mono ?_); rintro e w' ⟨cp, M, ⟨hm0, hm1⟩, hM, rfl, ⟨n1, os1⟩, rfl⟩; simp only [S.Cp.cs])
    | (go_at_call 18; (refine (accept_any _ _ _ _ _ _ _ _ _ _ _ _ _ _ _ _ _ _ _ _ _ _ _ _ _ _ _ _ _ _).mono ?_); rintro e w' ⟨rfl, ⟨⟨n3, os3⟩, rfl⟩⟩; simp only [S.off_1, S.off_2, S.off_3, S.off_4, S.off_5, S.sw_11, S.sw_12, S.sw_21, S.sw_22, S.sw_31, S.sw_32, S.sw_41, S.sw_42, S.sw_51, S.sw_52])
    | (go_at_call 15; (refine (pick_any _ _ _ _ _ _ _ _ _ _ _ _ _ _ _ _ _ _ _ _ _ _ _ _ _ _ _ _ _ _ _ _ _ _ _ _ _ _).mono ?_); rintro e w' ⟨rfl, ⟨⟨n2, os2⟩, rfl⟩⟩; have hb := S.pik_bd cp.Ch cp.IE cp.De cp.Ma cp.Tr cp.R7 a1_R65 a1_R55 a1_Intr; obtain ⟨k, hk⟩ : ∃ k, S.pik cp.Ch cp.IE cp.De cp.Ma cp.Tr cp.R7 a1_R65 a1_R55 a1_Intr = k := ⟨_, rfl⟩; rw [hk] at hb; rw [hk]; clear hk; rcases (by omega : k = 0 ∨ k = 1 ∨ k = 2 ∨ k = 3 ∨ k = 4 ∨ k = 5) with rfl | rfl | rfl | rfl | rfl | rfl)
    | (go_at_call 15; (refine (pick_off _ _ _ _ _ _ _ _ _ _ _ _ _ _ _ _ _ false false _ _ _ _ _ _ _ _ _ _ _ _ _ _ _ _ _ _ _).mono ?_); rintro e w' ⟨x, hx, rfl, ⟨⟨n4, os4⟩, rfl⟩⟩; rcases hx with rfl | ⟨rfl, ht⟩ <;> try (exact absurd ht (by decide)))
    | (go_at_call 9; refine (known15_any _).mono ?_; rintro e w' ⟨rfl, ⟨⟨nk, osk⟩, rfl⟩⟩))
  · skip
    refine wp_region_adds (by kernel_rfl) (by kernel_rfl) ?_
    repeat (go_big_quiet_step (first | (go_at_call 18; exact calls_adds (accept_0 _ _ _ _ _ _ _ _ _ _ _ _ _ _ _ _ _ _ _ _ _ _ _ _ _ _ _ _ _)) | (go_at_call 9; exact calls_adds (known15_any _))))
    refine wpQuiet_nil ?_
    intro _ hw1
    obtain ⟨⟨nq, osq⟩, hw2⟩ := hw1
    subst hw2
    go_wp2_with fail
    go_ret
    exact ⟨rfl, Adds.below (by (repeat (first | with_reducible exact Adds.refl _ | with_reducible apply Adds.drew | with_reducible apply Adds.drewN | with_reducible apply Adds.alloc | with_reducible apply Adds.more | (with_reducible refine Adds.setCell ?_ ?_ _) | (focus (simp [go_sem]; done)) | (focus (simp [go_sem]; omega)))))⟩
  all_goals go_ret
  all_goals exact ⟨rfl, Adds.below (by (repeat (first | with_reducible exact Adds.refl _ | with_reducible apply Adds.drew | with_reducible apply Adds.drewN | with_reducible apply Adds.alloc | with_reducible apply Adds.more | (with_reducible refine Adds.setCell ?_ ?_ _) | (focus (simp [go_sem]; done)) | (focus (simp [go_sem]; omega)))))⟩

set_option maxRecDepth 100000 in
theorem lifted (os : Os) (started : os.Started) (H : Type) (enc : TypeId × Value → H) :
    ReturnsInHanded {} Try.checked os 7 .any (Rows.irqDisablesSpec.pre6 enc Try.prog Try.f7 Rows.irqDisablesRow.domain false) (Rows.irqDisablesSpec.post enc Try.prog Try.f7 false true false false) := by
  refine returnsInHanded_of_change (C := Try.checked) own started (by kernel_rfl) Try.func7
    (ChangeSpec.witness6 (enc := enc) (C := Try.checked) false ⟨#[], #[.slice none 0 0, .agg #[.bool false, .bool false, .bool false, .bool false, .bool false, .bool false, .bool false, .bool false, .bool false]], []⟩ 8 (by kernel_rfl) (by kernel_rfl) (by kernel_rfl) (by kernel_rfl)) ?_
  intro W base args ds gs before hval0 hW hcnd _
  have hval : ∀ (j : Nat) t v, Try.f7.params[j]? = some t → args[j]? = some v → Value.okWide Try.prog W .any base t v := hval0
  have hW' := hW
  obtain ⟨p, q, hA0, hV, rfl, hfz, hnd⟩ := hW
  have hA : DataW.TrodAll enc Try.prog W 0 (fun _ => true) true Try.f7.params.toList args.toList ds p := hA0
  rw [Try.params7] at hA hval
  obtain ⟨v0, vs0, d0, ds0, p0, q0, hargs, rfl, rfl, h0, r0⟩ := trodAll_cons hA
  obtain ⟨v1, vs1, d1, ds1, p1, q1, rfl, rfl, rfl, h1, r1⟩ := trodAll_cons r0
  obtain ⟨rfl, rfl, rfl⟩ := trodAll_nil r1
  obtain rfl : args = #[v0, v1] := by cases args; simp_all
  obtain ⟨rfl, rfl⟩ := trodVars_none hV
  have k0 := h0
  have lt0 : ∀ x ∈ p0, x.block < W.heap.size := by obtain ⟨m, hm⟩ := k0; exact DataW.trod_lt m _ _ _ hm
  obtain ⟨a0, len0, cap0, rfl⟩ := okWide_slice Try.underlying31 (hval 0 31 v0 rfl rfl)
  obtain ⟨z0, w0⟩ : ∃ zs, IsRow .i64 W a0 len0 cap0 zs := by
    obtain ⟨fuel, hf⟩ := h0
    rcases open_ints Try.underlying31 Try.underlying3 (by kernel_rfl) hf with ⟨hcs, _⟩ | ⟨x, l, c, zs, hcs, _, hl, hm, hz, _, hcell, hwz⟩
    · simp [Value.cells] at hcs
      obtain ⟨rfl, rfl, rfl⟩ := hcs
      exact ⟨[], .inl ⟨rfl, rfl, rfl, rfl⟩⟩
    · simp [Value.cells] at hcs
      obtain ⟨rfl, rfl, rfl⟩ := hcs
      exact ⟨zs, .inr ⟨_, rfl, hl, hm, by simpa using hz, hcell, hwz⟩⟩
  have k1 := h1
  have lt1 : ∀ x ∈ p1, x.block < W.heap.size := by obtain ⟨m, hm⟩ := k1; exact DataW.trod_lt m _ _ _ hm
  obtain ⟨l1, rfl, g1_0⟩ := open_flat 9 [.bool, .bool, .bool, .bool, .bool, .bool, .bool, .bool, .bool] _ Try.underlying30 (by kernel_rfl) (hval 1 30 v1 rfl rfl) h1
  obtain ⟨a1_Ready, l1_1, rfl, g1_1⟩ := fits_bool g1_0
  obtain ⟨a1_Hold, l1_2, rfl, g1_2⟩ := fits_bool g1_1
  obtain ⟨a1_Reset, l1_3, rfl, g1_3⟩ := fits_bool g1_2
  obtain ⟨a1_Sid, l1_4, rfl, g1_4⟩ := fits_bool g1_3
  obtain ⟨a1_Trap, l1_5, rfl, g1_5⟩ := fits_bool g1_4
  obtain ⟨a1_R75, l1_6, rfl, g1_6⟩ := fits_bool g1_5
  obtain ⟨a1_R65, l1_7, rfl, g1_7⟩ := fits_bool g1_6
  obtain ⟨a1_R55, l1_8, rfl, g1_8⟩ := fits_bool g1_7
  obtain ⟨a1_Intr, l1_9, rfl, g1_9⟩ := fits_bool g1_8
  obtain rfl := fits_nil g1_9
  clear hA0 hval0
  refine (walk a0 len0 cap0 z0 a1_Ready a1_Hold a1_Reset a1_Sid a1_Trap a1_R75 a1_R65 a1_R55 a1_Intr W w0).mono fun e W' ⟨he, bel⟩ => ?_
  subst he
  exact ⟨_, rfl, _, _, _, [], _, [], hW', trodAll_mk1 (shut_bool Try.underlying4 _), (trodAll_cons_mk (Below.trod laidOut (by kernel_rfl) (of_decide_eq_true (by kernel_rfl)) k0 bel lt0) (trodAll_cons_mk (Below.trod laidOut (by kernel_rfl) (of_decide_eq_true (by kernel_rfl)) k1 bel lt1) trodAll_mk0)), rfl, bel.frame _, fun h => by cases h⟩

theorem over : Rows.irqDisablesRow.holds Try.pinned (OpenSpec.ofChange Rows.irqDisablesSpec) :=
  OpenClaim.holds_of_wide 7 Try.f7 rfl rfl rfl rfl rfl rfl rfl ⟨rfl, rfl, rfl, rfl, rfl⟩ rfl rfl rfl rfl rfl (by kernel_rfl) Try.func7 (by kernel_rfl)
    (of_decide_eq_true (by kernel_rfl)) (by unfold Func.isWrapper; first | (rw [if_pos (by decide +kernel)]; kernel_rfl) | (rw [if_neg (by decide +kernel)]; exact ⟨rfl, rfl⟩))
    (fun os started H enc _ => lifted os started H enc)

/-- The statement. -/
theorem proved : Rows.IrqDisablesSaid := over
#print axioms proved
end Go.Proofs.Ytaanpmmhhgnklaa.irqDisables
