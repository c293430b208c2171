/- The statement ScriptLimitsSaid of package tstatelaw24: for every input the law returns true, and its arguments read as before. No condition. -/
import Derived.Test.YtjjcahdieldmcaaRows
import Derived.Test.YtjjcahdieldmcaaM1
import Derived.Test.YtjjcahdieldmcaaCM
import Derived.Test.YtjjcahdieldmcaaC24d
import Derived.Test.YtjjcahdieldmcaaC24f
import Derived.Test.YtjjcahdieldmcaaC24k
import Derived.WalkKit
import Derived.ProofKit
import Derived.OpenShut
import Derived.ShutString
import Derived.ChangeOld
import Derived.Below
import Derived.Carry
namespace Go.Proofs.Ytjjcahdieldmcaa.scriptLimits
open Go.ChangeShapes Go.WideShapes Go.ChangeAt Go.RowKit
open Go.ChangeMaps (open_string shut_string)
set_option linter.unusedVariables false

theorem own : ownKnob Try.prog.godebug = none := by kernel_rfl
theorem laidOut : laidOutB Try.prog = true := by kernel_rfl

set_option maxRecDepth 100000 in
set_option maxHeartbeats 2000000 in
/-- The walk. -/
theorem walk (a0 : Int) (a1 : Int) (w : World) (w0 : (Lit.int .i64 a0).wf = true) (w1 : (Lit.int .i64 a1).wf = true) :
    Calls Try.prog 7 #[.int .i64 a0, .int .i64 a1] w fun e w' => e = .returned (.bool true) ∧ Below w.heap.size w w' := by
  have b0 := S.plc_bd a0 3 (by omega)
  have b1 := S.plc_bd a1 4 (by omega)
  obtain ⟨p, hp⟩ : ∃ p : Nat, S.plc a0 3 = (p : Int) := ⟨(S.plc a0 3).toNat, by omega⟩
  obtain ⟨t, ht⟩ : ∃ t : Nat, S.plc a1 4 = (t : Int) := ⟨(S.plc a1 4).toNat, by omega⟩
  have HP := Lib.hid (mplace_any a0 3 (by omega) (by omega))
  have HT := Lib.hid (mplace_any a1 4 (by omega) (by omega))
  rw [hp] at HP b0
  rw [ht] at HT b1
  clear hp ht
  obtain ⟨q, hq⟩ : ∃ q, 65535 + p = q := ⟨_, rfl⟩
  have hqz : (65535 : Int) + (p : Int) = (q : Int) := by omega
  obtain ⟨s, hs⟩ : ∃ s, q * 4 + t = s := ⟨_, rfl⟩
  have hsz : (4 : Int) * (q : Int) + (t : Int) = (s : Int) := by omega
  obtain ⟨m, hm⟩ : ∃ m, min q 65536 = m := ⟨_, rfl⟩
  have HM := Lib.hid hm
  have HD := Lib.hid (show (S.dec (List.replicate s 0)).length = m by rw [S.dec_len, List.length_replicate]; omega)
  have HE := Lib.hid (show (S.enc (List.replicate q S.zero)).length = m * 4 by rw [S.enc_len, List.length_replicate]; omega)
  have hq1 : q ≤ 65537 := by omega
  have hs1 : s ≤ 1000000 := by omega
  have hqs : q ≤ s := by omega
  generalize hL : List.replicate s (0 : Int) = zs at HD
  generalize hI : List.replicate q S.zero = is at HE
  have HL := Lib.hid hL
  have HI := Lib.hid hI
  clear hm hq hs hL hI w0 w1
  by_cases h6 : 65536 < q
  · have e6 : (65536 : Int) < (q : Int) := by omega
    have em : ((m : Int) == (65536 : Int)) = true := by have := HM.out; simp; omega
    have em2 : ∀ n5 : Nat, n5 = m * 4 → ((n5 : Int) == (262144 : Int)) = true := fun n5 h => by have := HM.out; subst h; simp; omega
    have HE2 := Lib.hid em2
    clear em2 h6
    go_enter Try.func7, Try.ntmps7
    go_wp2_with (first
      | (go_at_call 22; (with_reducible refine (HP.out _).mono ?_); rintro e w' ⟨rfl, rfl⟩)
      | (go_at_call 22; (with_reducible refine (HT.out _).mono ?_); rintro e w' ⟨rfl, rfl⟩)
      | (at_make; refine wpList_makeB rfl _ _ rfl _ _ _ _ s rfl rfl rfl rfl (by omega) w.heap.size rfl ?_; intro w2 hO2 hG2; rw [HL.out] at hO2; have X2 := Lib.hid hO2; have A2 := Lib.hid (show Adds w w2 from Adds.of_below ⟨hG2.os, hG2.tape, hG2.output, hG2.size, fun i hi => hG2.block i hi (by simp)⟩); clear hO2 hG2)
      | (at_make; refine wpList_makeI rfl _ _ rfl _ _ _ _ q rfl rfl rfl rfl (by omega) w2.heap.size rfl ?_; intro w3 hO3 hG3; rw [HI.out] at hO3; have X3 := Lib.hid hO3; have A3 := Lib.hid (show Adds w2 w3 from Adds.of_below ⟨hG3.os, hG3.tape, hG3.output, hG3.size, fun i hi => hG3.block i hi (by simp)⟩); clear hO3 hG3)
      | (go_at_call 12; (with_reducible refine (dec_any (some ⟨w.heap.size, 0, none⟩) s s zs w3 ((OwnsG.held X2.out (by have := X2.out.len; omega)).adds A3.out) (by omega) (by omega) (by omega)).mono ?_); rintro e w4 ⟨r, rfl, hO4, hA4⟩; obtain ⟨ad4, n4, c4, rfl, hn4, -, -, -, -⟩ := hO4.form2; have A4 := Lib.hid hA4; obtain rfl : n4 = m := hn4.out.symm.trans HD.out; clear hO4 hA4 hn4)
      | (go_at_call 17; (with_reducible refine (enc_any (some ⟨w2.heap.size, 0, none⟩) q q is w4 (((OwnsG.held X3.out (by have := X3.out.len; omega))).adds A4.out) (by omega) (by omega) (by omega)).mono ?_); rintro e w5 ⟨r, rfl, hO5, hA5⟩; obtain ⟨ad5, n5, c5, rfl, hn5, -, -, -, -⟩ := hO5.form2; have A5 := Lib.hid hA5; have em5 := HE2.out n5 (hn5.out.symm.trans HE.out); clear hO5 hA5 hn5)
      | (go_at_call 8; (with_reducible refine (known24 w5).mono ?_); rintro e w6 ⟨rfl, A6⟩))
    go_ret
    exact ⟨rfl, ((((A2.out.trans A3.out).trans A4.out).trans A5.out).trans A6).below⟩
  · have e6 : ¬ (65536 : Int) < (q : Int) := by omega
    have em : ((m : Int) == (q : Int)) = true := by have := HM.out; simp; omega
    have em2 : ∀ n5 : Nat, n5 = m * 4 → ((n5 : Int) == (4 * (q : Int))) = true := fun n5 h => by have := HM.out; subst h; simp; omega
    have HE2 := Lib.hid em2
    clear em2 h6
    go_enter Try.func7, Try.ntmps7
    go_wp2_with (first
      | (go_at_call 22; (with_reducible refine (HP.out _).mono ?_); rintro e w' ⟨rfl, rfl⟩)
      | (go_at_call 22; (with_reducible refine (HT.out _).mono ?_); rintro e w' ⟨rfl, rfl⟩)
      | (at_make; refine wpList_makeB rfl _ _ rfl _ _ _ _ s rfl rfl rfl rfl (by omega) w.heap.size rfl ?_; intro w2 hO2 hG2; rw [HL.out] at hO2; have X2 := Lib.hid hO2; have A2 := Lib.hid (show Adds w w2 from Adds.of_below ⟨hG2.os, hG2.tape, hG2.output, hG2.size, fun i hi => hG2.block i hi (by simp)⟩); clear hO2 hG2)
      | (at_make; refine wpList_makeI rfl _ _ rfl _ _ _ _ q rfl rfl rfl rfl (by omega) w2.heap.size rfl ?_; intro w3 hO3 hG3; rw [HI.out] at hO3; have X3 := Lib.hid hO3; have A3 := Lib.hid (show Adds w2 w3 from Adds.of_below ⟨hG3.os, hG3.tape, hG3.output, hG3.size, fun i hi => hG3.block i hi (by simp)⟩); clear hO3 hG3)
      | (go_at_call 12; (with_reducible refine (dec_any (some ⟨w.heap.size, 0, none⟩) s s zs w3 ((OwnsG.held X2.out (by have := X2.out.len; omega)).adds A3.out) (by omega) (by omega) (by omega)).mono ?_); rintro e w4 ⟨r, rfl, hO4, hA4⟩; obtain ⟨ad4, n4, c4, rfl, hn4, -, -, -, -⟩ := hO4.form2; have A4 := Lib.hid hA4; obtain rfl : n4 = m := hn4.out.symm.trans HD.out; clear hO4 hA4 hn4)
      | (go_at_call 17; (with_reducible refine (enc_any (some ⟨w2.heap.size, 0, none⟩) q q is w4 (((OwnsG.held X3.out (by have := X3.out.len; omega))).adds A4.out) (by omega) (by omega) (by omega)).mono ?_); rintro e w5 ⟨r, rfl, hO5, hA5⟩; obtain ⟨ad5, n5, c5, rfl, hn5, -, -, -, -⟩ := hO5.form2; have A5 := Lib.hid hA5; have em5 := HE2.out n5 (hn5.out.symm.trans HE.out); clear hO5 hA5 hn5)
      | (go_at_call 8; (with_reducible refine (known24 w5).mono ?_); rintro e w6 ⟨rfl, A6⟩))
    go_ret
    exact ⟨rfl, ((((A2.out.trans A3.out).trans A4.out).trans A5.out).trans A6).below⟩

set_option maxRecDepth 100000 in
theorem lifted (os : Os) (started : os.Started) (H : Type) (enc : TypeId × Value → H) :
    ReturnsInHanded {} Try.checked os 7 .any (Rows.scriptLimitsSpec.pre6 enc Try.prog Try.f7 Rows.scriptLimitsRow.domain false) (Rows.scriptLimitsSpec.post enc Try.prog Try.f7 false true false false) := by
  refine returnsInHanded_of_change (C := Try.checked) own started (by kernel_rfl) Try.func7
    (ChangeSpec.witness6 (enc := enc) (C := Try.checked) false ⟨#[], #[.int .i64 0, .int .i64 0], []⟩ 8 (by kernel_rfl) (by kernel_rfl) (by kernel_rfl) (by kernel_rfl)) ?_
  intro W base args ds gs before hval0 hW hcnd _
  have hval : ∀ (j : Nat) t v, Try.f7.params[j]? = some t → args[j]? = some v → Value.okWide Try.prog W .any base t v := hval0
  have hW' := hW
  obtain ⟨p, q, hA0, hV, rfl, hfz, hnd⟩ := hW
  have hA : DataW.TrodAll enc Try.prog W 0 (fun _ => true) true Try.f7.params.toList args.toList ds p := hA0
  rw [Try.params7] at hA hval
  obtain ⟨v0, vs0, d0, ds0, p0, q0, hargs, rfl, rfl, h0, r0⟩ := trodAll_cons hA
  obtain ⟨v1, vs1, d1, ds1, p1, q1, rfl, rfl, rfl, h1, r1⟩ := trodAll_cons r0
  obtain ⟨rfl, rfl, rfl⟩ := trodAll_nil r1
  obtain rfl : args = #[v0, v1] := by cases args; simp_all
  obtain ⟨rfl, rfl⟩ := trodVars_none hV
  have k0 := h0
  have lt0 : ∀ x ∈ p0, x.block < W.heap.size := by obtain ⟨m, hm⟩ := k0; exact DataW.trod_lt m _ _ _ hm
  obtain ⟨a0, rfl, -, -, w0⟩ := open_int Try.underlying3 (hval 0 3 v0 rfl rfl) h0
  have k1 := h1
  have lt1 : ∀ x ∈ p1, x.block < W.heap.size := by obtain ⟨m, hm⟩ := k1; exact DataW.trod_lt m _ _ _ hm
  obtain ⟨a1, rfl, -, -, w1⟩ := open_int Try.underlying3 (hval 1 3 v1 rfl rfl) h1
  clear hA0 hval0
  refine (walk a0 a1 W w0 w1).mono fun e W' ⟨he, bel⟩ => ?_
  subst he
  exact ⟨_, rfl, _, _, _, [], _, [], hW', trodAll_mk1 (shut_bool Try.underlying4 _), (trodAll_cons_mk (Below.trod laidOut (by kernel_rfl) (of_decide_eq_true (by kernel_rfl)) k0 bel lt0) (trodAll_cons_mk (Below.trod laidOut (by kernel_rfl) (of_decide_eq_true (by kernel_rfl)) k1 bel lt1) trodAll_mk0)), rfl, bel.frame _, fun h => by cases h⟩

theorem over : Rows.scriptLimitsRow.holds Try.pinned (OpenSpec.ofChange Rows.scriptLimitsSpec) :=
  OpenClaim.holds_of_wide 7 Try.f7 rfl rfl rfl rfl rfl rfl rfl ⟨rfl, rfl, rfl, rfl, rfl⟩ rfl rfl rfl rfl rfl (by kernel_rfl) Try.func7 (by kernel_rfl)
    (of_decide_eq_true (by kernel_rfl)) (by unfold Func.isWrapper; first | (rw [if_pos (by decide +kernel)]; kernel_rfl) | (rw [if_neg (by decide +kernel)]; exact ⟨rfl, rfl⟩))
    (fun os started H enc _ => lifted os started H enc)

/-- The statement. -/
theorem proved : Rows.ScriptLimitsSaid := over
#print axioms proved
end Go.Proofs.Ytjjcahdieldmcaa.scriptLimits
