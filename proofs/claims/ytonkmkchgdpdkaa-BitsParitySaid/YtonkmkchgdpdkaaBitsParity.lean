/- The statement BitsParitySaid of package tstatelaw1: for every input the law returns true, and its arguments read as before. No condition. -/
/-
  THE SHELL OF A PROOF OF 'Rows.BitsParitySaid' ('tstate/tstatelaw1.BitsParity'), WRITTEN BY PROGRAM (proof-skeleton.mjs) off the guide's own print for that function. Not trusted: Lean checks it.
  YOURS ARE THE HOLES MARKED 'HOLE' (each bears 'sorry'). ALL ELSE IS THE GUIDE's TEMPLATE (howto/template/XProofs.lean) at this function's number and types: leave it.
-/
import Derived.Test.YtonkmkchgdpdkaaRows
import Derived.Test.YtonkmkchgdpdkaaC1
import Derived.WalkKit
import Derived.ProofKit
import Derived.OpenShut
import Derived.ShutString
namespace Go.Proofs.Ytonkmkchgdpdkaa.bitsParity
open Go.ChangeShapes Go.WideShapes Go.ChangeAt Go.RowKit
open Go.ChangeMaps (open_string shut_string)
set_option linter.unusedVariables false      -- a walk need not use every 'w<i>' (that an integer argument fits its kind)

theorem own : ownKnob Try.prog.godebug = none := by kernel_rfl

set_option maxRecDepth 100000 in
/-- The walk where the shift's number is known. -/
theorem parity_case (a0 a1 : Int) (b0 : 0 ≤ a0 ∧ a0 ≤ 255) (m v : Int) (hm : (IntKind.u64.wrap a1).tmod 8 = m) (hx : S.par (bits .xor .u8 a0 v) = !S.par a0 ∧ 0 ≤ bits .xor .u8 a0 v ∧ bits .xor .u8 a0 v < 256)
    (hsh : ∀ w : World, Sem.run Try.prog (Op.shift BinOp.shl IntKind.u8 1 IntKind.u64 m) w = .ok (.int .u8 v) w) (w : World) :
    Calls Try.prog 3 #[.int .u8 a0, .int .i64 a1] w fun e w' => e = .returned (.bool true) ∧ Grown w w' := by
  obtain ⟨x1, x2, x3⟩ := hx
  go_enter Try.func3, Try.ntmps3
  go_wp2_with (first | (go_at_call 11; refine (parity_any _ (by first | exact x2 | omega) (by first | exact x3 | omega) _).mono ?_; rintro e w' ⟨rfl, rfl⟩) | (go_at_call 12; refine (rparity_any _ (by omega) (by omega) _).mono ?_; rintro e w' ⟨rfl, rfl⟩) | (go_at_call 13; refine (known1_any _).mono ?_; rintro e w' ⟨rfl, rfl⟩))
  go_ret
  exact ⟨rfl, by repeat (first | exact Grown.refl _ | apply Grown.drew | apply Grown.alloc)⟩/-! ### STEP 1: THE WALK: the Go text returns true. 'Grown w w'': the world has at most new blocks (Derived/RowKit3.lean). Part the cases AHEAD of 'go_enter' where a test parts the walk; take each callee by a contract of your own. -/
theorem walk (a0 : Int) (a1 : Int) (w0 : (Lit.int .u8 a0).wf = true) (w1 : (Lit.int .i64 a1).wf = true) (w : World) :
    Calls Try.prog 3 #[.int .u8 a0, .int .i64 a1] w fun e w' => e = .returned (.bool true) ∧ Grown w w' := by
  have b0 := bounds_u8 w0
  have b1 := bounds_i64 w1
  have hn : (IntKind.u64.wrap a1).tmod 8 = a1 % 8 := by
    have e : IntKind.u64.wrap a1 = a1 % 18446744073709551616 := by simp [IntKind.wrap, IntKind.bits, IntKind.signed]
    rw [e, Int.tmod_eq_emod_of_nonneg (by omega)]
    omega
  have hx := fun k hk => S.par_xor a0 b0.1 (by omega) k hk
  rcases (by omega : a1 % 8 = 0 ∨ a1 % 8 = 1 ∨ a1 % 8 = 2 ∨ a1 % 8 = 3 ∨ a1 % 8 = 4 ∨ a1 % 8 = 5 ∨ a1 % 8 = 6 ∨ a1 % 8 = 7) with h | h | h | h | h | h | h | h
  · exact parity_case a0 a1 b0 0 1 (hn.trans h) (hx 0 (by omega)) (fun _ => by kernel_rfl) w
  · exact parity_case a0 a1 b0 1 2 (hn.trans h) (hx 1 (by omega)) (fun _ => by kernel_rfl) w
  · exact parity_case a0 a1 b0 2 4 (hn.trans h) (hx 2 (by omega)) (fun _ => by kernel_rfl) w
  · exact parity_case a0 a1 b0 3 8 (hn.trans h) (hx 3 (by omega)) (fun _ => by kernel_rfl) w
  · exact parity_case a0 a1 b0 4 16 (hn.trans h) (hx 4 (by omega)) (fun _ => by kernel_rfl) w
  · exact parity_case a0 a1 b0 5 32 (hn.trans h) (hx 5 (by omega)) (fun _ => by kernel_rfl) w
  · exact parity_case a0 a1 b0 6 64 (hn.trans h) (hx 6 (by omega)) (fun _ => by kernel_rfl) w
  · exact parity_case a0 a1 b0 7 128 (hn.trans h) (hx 7 (by omega)) (fun _ => by kernel_rfl) w

/-! ### THE ROW's STEP: WRITTEN OUT: LEAVE IT -/
set_option maxRecDepth 100000 in
theorem lifted (os : Os) (started : os.Started) (H : Type) (enc : TypeId × Value → H) :
    ReturnsInHanded {} Try.checked os 3 .any (Rows.bitsParitySpec.pre6 enc Try.prog Try.f3 Rows.bitsParityRow.domain false) (Rows.bitsParitySpec.post enc Try.prog Try.f3 false true false false) := by
  refine returnsInHanded_of_change (C := Try.checked) own started (by kernel_rfl) Try.func3
    (ChangeSpec.witness6 (enc := enc) (C := Try.checked) false ⟨#[], #[.int .u8 0, .int .i64 0], []⟩ 8 (by kernel_rfl) (by kernel_rfl) (by kernel_rfl) (by kernel_rfl)) ?_
  intro W base args ds gs before hval0 hW hcnd _
  have hval : ∀ (j : Nat) t v, Try.f3.params[j]? = some t → args[j]? = some v → Value.okWide Try.prog W .any base t v := hval0
  have hW' := hW
  obtain ⟨p, q, hA0, hV, rfl, hfz, hnd⟩ := hW
  have hA : DataW.TrodAll enc Try.prog W 0 (fun _ => true) true Try.f3.params.toList args.toList ds p := hA0
  rw [Try.params3] at hA hval
  obtain ⟨v0, vs0, d0, ds0, p0, q0, hargs, rfl, rfl, h0, r0⟩ := trodAll_cons hA
  obtain ⟨v1, vs1, d1, ds1, p1, q1, rfl, rfl, rfl, h1, r1⟩ := trodAll_cons r0
  obtain ⟨rfl, rfl, rfl⟩ := trodAll_nil r1
  obtain rfl : args = #[v0, v1] := by cases args; simp_all
  obtain ⟨rfl, rfl⟩ := trodVars_none hV
  obtain ⟨a0, rfl, rfl, rfl, w0⟩ := open_int Try.underlying5 (hval 0 5 v0 rfl rfl) h0
  obtain ⟨a1, rfl, rfl, rfl, w1⟩ := open_int Try.underlying3 (hval 1 3 v1 rfl rfl) h1
  clear hA0 hval0
  simp only [List.append_nil] at hW'
  refine (walk a0 a1 w0 w1 W).mono fun e W' ⟨he, hg⟩ => ?_
  subst he
  exact ⟨_, rfl, post_of_same (pa := []) (pv := []) hW' (fun _ _ _ => (trodAll_cons_mk (shut_bool Try.underlying4 _) trodAll_mk0)) (fun sp _ => (trodAll_cons_mk (shut_int Try.underlying5 w0) (trodAll_cons_mk (shut_int Try.underlying3 w1) trodAll_mk0))) (fun _ _ => rfl) rfl
    (hg.frame _) hg.2.1 (ok_one (by kernel_rfl) rfl (okWide_bool_mk Try.underlying4 _))⟩

theorem over : Rows.bitsParityRow.holds Try.pinned (OpenSpec.ofChange Rows.bitsParitySpec) :=
  OpenClaim.holds_of_wide 3 Try.f3 rfl rfl rfl rfl rfl rfl rfl ⟨rfl, rfl, rfl, rfl, rfl⟩ rfl rfl rfl rfl rfl (by kernel_rfl) Try.func3 (by kernel_rfl)
    (of_decide_eq_true (by kernel_rfl)) (by unfold Func.isWrapper; first | (rw [if_pos (by decide +kernel)]; kernel_rfl) | (rw [if_neg (by decide +kernel)]; exact ⟨rfl, rfl⟩))
    (fun os started H enc _ => lifted os started H enc)

/-- ████ THE STATEMENT ████ -/
theorem proved : Rows.BitsParitySaid :=
  over
#print axioms proved
end Go.Proofs.Ytonkmkchgdpdkaa.bitsParity
