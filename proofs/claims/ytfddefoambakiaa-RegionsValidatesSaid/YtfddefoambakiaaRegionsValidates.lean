/- The statement RegionsValidatesSaid of package tstatelaw13: for every input the law returns true, and its arguments read as before. No condition. -/
import Derived.Test.YtfddefoambakiaaRows
import Derived.Test.YtfddefoambakiaaM1
import Derived.Test.YtfddefoambakiaaCM
import Derived.Test.YtfddefoambakiaaC13f
import Derived.WalkKit
import Derived.ProofKit
import Derived.OpenShut
import Derived.ShutString
import Derived.ChangeOld
import Derived.Below
import Derived.Carry
namespace Go.Proofs.Ytfddefoambakiaa.regionsValidates
open Go.ChangeShapes Go.WideShapes Go.ChangeAt Go.RowKit
open Go.ChangeMaps (open_string shut_string)
set_option linter.unusedVariables false

theorem own : ownKnob Try.prog.godebug = none := by kernel_rfl
theorem laidOut : laidOutB Try.prog = true := by kernel_rfl

set_option maxHeartbeats 2000000 in
/-- The walk. -/
theorem walk (a0 : Option Addr) (len0 cap0 : Nat) (a1 : Option Addr) (len1 cap1 : Nat) (z1 : List Int) (a2_From : Int) (a2_To : Int) (a2_RAM : Bool) (a2_Waits : Int) (a3 : Int) (a4 : Int) (w : World) (w0 : len0 ≤ 2305843009213693952 → ∃ l, HeldR w a0 len0 l) (w1 : IsRow .i64 w a1 len1 cap1 z1) (w2_From : (Lit.int .u16 a2_From).wf = true) (w2_To : (Lit.int .u16 a2_To).wf = true) (w2_Waits : (Lit.int .i64 a2_Waits).wf = true) (w3 : (Lit.int .i64 a3).wf = true) (w4 : (Lit.int .i64 a4).wf = true) :
    Calls Try.prog 5 #[.slice a0 len0 cap0, .slice a1 len1 cap1, .agg #[.int .u16 a2_From, .int .u16 a2_To, .bool a2_RAM, .int .i64 a2_Waits], .int .i64 a3, .int .i64 a4] w fun e w' => e = .returned (.bool true) ∧ Below w.heap.size w w' := by
  by_cases h40 : 40 < len0
  · clear w0 w1
    go_enter Try.func5, Try.ntmps5
    go_wp2_with (go_at_call 22; refine (known13 _).mono ?_; rintro e w' ⟨rfl, hK⟩)
    go_ret
    exact ⟨rfl, (((Adds.refl w).alloc _).trans hK).below⟩
  by_cases h100 : 100 < len1
  · clear w0 w1
    go_enter Try.func5, Try.ntmps5
    go_wp2_with (go_at_call 22; refine (known13 _).mono ?_; rintro e w' ⟨rfl, hK⟩)
    go_ret
    exact ⟨rfl, (((Adds.refl w).alloc _).trans hK).below⟩
  obtain ⟨l0, w0'⟩ := w0 (by omega)
  have H0 := Lib.hid w0'
  obtain ⟨wb, hwb⟩ : ∃ wb, wb = w.alloc (.cells #[.int .u16 a2_From, .int .u16 a2_To, .bool a2_RAM, .int .i64 a2_Waits] 41) := ⟨_, rfl⟩
  have HW := Lib.hid hwb
  have B0 := Lib.hid (bx_from (w := wb) (by rw [hwb]; exact w1.alloc _) (by omega))
  have p0 := S.plc_bd a4 3 (by omega)
  obtain ⟨p, hp⟩ : ∃ p, p = S.plc a4 3 := ⟨_, rfl⟩
  rw [← hp] at p0
  obtain ⟨p1, p2⟩ := p0
  have HP := Lib.hid hp.symm
  clear w0 w1 w0' hwb hp
  go_enter Try.func5, Try.ntmps5
  go_upto_if 30 with (first
    | (go_at_call 12; rw [← HW.out]; (with_reducible refine (from_any a1 len1 cap1 wb).mono ?_); rintro e w1 ⟨rfl, rfl⟩)
    | (go_at_call 23; (with_reducible refine (regs_bx wb _ a1 len1 cap1 0 18 18 rfl (by omega) (by omega) B0.out).mono ?_); rintro e w2 ⟨adr, nr, cr, dr, N2, rfl, OR2, hdr, hnr, hcr, hzr, hN2, B2, G2⟩; have HR2 := Lib.hid (OR2.out.held (by have := hdr.out; omega)))
    | (at_builtin; refine wpList_appR rfl _ _ rfl w2.heap.size (.slice none 0 0) [] rfl (OwnsR.nil _ _) adr nr cr dr rfl HR2.out hzr.out (by simp; omega) (Nat.le_refl _) ?_; intro v3 w3 hO3' hG3'; have A3 := Lib.hid (adds_none hG3'); obtain ⟨ad3, n3, c3, rfl, hn3, hc3, hm3, hb3, hz3⟩ := hO3'.form2; have hO3 := Lib.hid hO3'; have HB3 := Lib.hid hb3; clear hO3' hG3' hb3 hz3))
  go_cut [] from 30 to 37 (fun wx => ∃ D, Hid (OwnsR wx w2.heap.size (.slice ad3 n3 c3) D) ∧ Hid (Adds w2 wx))
  case first =>
    by_cases hz : 0 < n3
    · obtain ⟨g, rfl, hg0, hg1⟩ := HB3.out (by omega)
      obtain ⟨q0, q1⟩ := S.plc_bd a3 (n3 : Int) (by omega)
      obtain ⟨k, hk⟩ : ∃ k : Nat, S.plc a3 (n3 : Int) = (k : Int) := ⟨(S.plc a3 (n3 : Int)).toNat, by omega⟩
      rw [hk] at q0 q1
      have HK := Lib.hid hk
      have hkn : k < n3 := by omega
      have hzz : (0 : Int) < (n3 : Int) := by omega
      have hn := hn3.out
      have HC := Lib.hid (mplace_any a3 (n3 : Int) (by omega) (by simp at hn; have := hdr.out; omega))
      obtain ⟨r, hr⟩ : ∃ r, ([] ++ dr)[k]? = some r := ⟨([] ++ dr)[k]'(by omega), List.getElem?_eq_getElem _⟩
      obtain ⟨g1, g2, g3, g4⟩ := hO3.out.at_ k r hr
      rw [Nat.zero_add] at g1 g2 g3 g4
      have f1 := hO3.out.frozen (k * 4)
      have f2 := hO3.out.frozen (k * 4 + 1)
      have f3 := hO3.out.frozen (k * 4 + 2)
      have f4 := hO3.out.frozen (k * 4 + 3)
      have hwl : w.heap.size < wb.heap.size := by rw [HW.out]; simp
      have AB := B2.out.2.trans A3.out
      have e1 : w3.cell? ⟨w.heap.size, 0, none⟩ = some (.int .u16 a2_From) := by rw [AB.cell hwl, HW.out]; simp [go_sem]
      have e2 : w3.cell? ⟨w.heap.size, 1, none⟩ = some (.int .u16 a2_To) := by rw [AB.cell hwl, HW.out]; simp [go_sem]
      have e3 : w3.cell? ⟨w.heap.size, 2, none⟩ = some (.bool a2_RAM) := by rw [AB.cell hwl, HW.out]; simp [go_sem]
      have e4 : w3.cell? ⟨w.heap.size, 3, none⟩ = some (.int .i64 a2_Waits) := by rw [AB.cell hwl, HW.out]; simp [go_sem]
      have hS := hO3.out.store k ⟨a2_From, a2_To, a2_RAM, a2_Waits⟩
      have HS := Lib.hid (And.intro hS.1 (A3.out.of_grown hS.2 hg0))
      clear hS hr hk hn AB hwl hkn hz p1 p2
      go_upto_region 6 with fail
      go_region_with (first | (go_at_call 24; (with_reducible refine (HC.out _).mono ?_); rintro e w' ⟨rfl, rfl⟩; rw [HK.out]))
      all_goals
        go_wp2_with fail
        go_meet
        case rel => exact ⟨_, HS.out.1.adds ((Adds.refl _).drew), HS.out.2.drew⟩
    · have hzz : ¬ (0 : Int) < (n3 : Int) := by omega
      clear p1 p2
      go_wp2_with fail
      go_meet
      case rel => exact ⟨_, hO3, A3⟩
  case rest =>
    obtain ⟨D, hO4, A4⟩ := hcut
    have hn := hn3.out
    have hD : D.length = n3 := by
      obtain ⟨a', n', c', h1, h2, _⟩ := hO4.out.form2
      have h2 := h2.out
      simp only [Value.slice.injEq] at h1
      omega
    have HX := Lib.hid (hO4.out.held (by simp at hn; have := hdr.out; omega))
    have AW := Lib.hid ((((Adds.refl w).alloc _).trans (by rw [← HW.out]; exact B2.out.2)).trans A4.out : Adds w wc)
    have HL := Lib.hid (H0.out.adds AW.out)
    have HM := Lib.hid (HR2.out.adds A4.out)
    have q : IntKind.i64.wrap (99 + p) = 99 + p := by rw [IntKind.wrap_i64]; omega
    clear hn hn3 hD hO3 A3 hO4 A4 HB3 H0 HR2 B2 G2 OR2 hc3 hm3 hN2 B0
    go_wp2_with (first
      | (go_at_call 24; (with_reducible refine (mplace_any a4 3 (by omega) (by omega) _).mono ?_); rintro e w' ⟨rfl, rfl⟩; rw [HP.out])
      | (at_builtin; refine wpList_appR rfl _ _ rfl wc.heap.size (.slice (some ⟨wc.heap.size, 0, none⟩) 1 1) [⟨0, 5, false, 99 + p⟩] rfl (OwnsR.lit1 wc ⟨0, 5, false, 99 + p⟩) adr nr cr dr rfl (HM.out.adds ((Adds.refl _).alloc _)) hzr.out (by simp; omega) (by simp) ?_; intro v5 w5 hO5' hG5'; have A5 := Lib.hid (AddsR.grown ((Adds.refl wc).alloc _) hG5' (OwnsR.lit1 wc ⟨0, 5, false, 99 + p⟩)); obtain ⟨ad5, n5, c5, rfl, hn5, hc5, hm5, hb5, hz5⟩ := hO5'.form2; have HY := Lib.hid (hO5'.held (by have := hdr.out; simp; omega)); clear hO5' hG5' hb5 hz5)
      | (go_at_call 25; (with_reducible refine (rgval_any _ _ _ _ w5 (HL.out.adds A5.out)).mono ?_); rintro e w6 ⟨rfl, A6⟩)
      | (go_at_call 26; (with_reducible refine (rrgval_any _ _ _ _ w6 (HL.out.adds (A5.out.trans A6))).mono ?_); rintro e w7 ⟨rfl, A7⟩)
      | (go_at_call 25; (with_reducible refine (rgval_any _ _ _ _ w7 (HM.out.adds ((A5.out.trans A6).trans A7))).mono ?_); rintro e w8 ⟨rfl, A8⟩)
      | (go_at_call 26; (with_reducible refine (rrgval_any _ _ _ _ w8 (HM.out.adds (((A5.out.trans A6).trans A7).trans A8))).mono ?_); rintro e w9 ⟨rfl, A9⟩)
      | (go_at_call 25; (with_reducible refine (rgval_any _ _ _ _ w9 (HX.out.adds ((((A5.out.trans A6).trans A7).trans A8).trans A9))).mono ?_); rintro e w10 ⟨rfl, A10⟩)
      | (go_at_call 26; (with_reducible refine (rrgval_any _ _ _ _ w10 (HX.out.adds (((((A5.out.trans A6).trans A7).trans A8).trans A9).trans A10))).mono ?_); rintro e w11 ⟨rfl, A11⟩)
      | (go_at_call 25; (with_reducible refine (rgval_any _ _ _ _ w11 (HY.out.adds (((((A6.trans A7).trans A8).trans A9).trans A10).trans A11))).mono ?_); rintro e w12 ⟨rfl, A12⟩)
      | (go_at_call 26; (with_reducible refine (rrgval_any _ _ _ _ w12 (HY.out.adds ((((((A6.trans A7).trans A8).trans A9).trans A10).trans A11).trans A12))).mono ?_); rintro e w13 ⟨rfl, A13⟩)
      | (go_at_call 22; (with_reducible refine (known13 w13).mono ?_); rintro e w14 ⟨rfl, A14⟩))
    go_ret
    exact ⟨rfl, (((((((((((AW.out.trans A5.out).trans A6).trans A7).trans A8).trans A9).trans A10).trans A11).trans A12).trans A13).trans A14)).below⟩

set_option maxRecDepth 100000 in
theorem lifted (os : Os) (started : os.Started) (H : Type) (enc : TypeId × Value → H) :
    ReturnsInHanded {} Try.checked os 5 .any (Rows.regionsValidatesSpec.pre6 enc Try.prog Try.f5 Rows.regionsValidatesRow.domain false) (Rows.regionsValidatesSpec.post enc Try.prog Try.f5 false true false false) := by
  refine returnsInHanded_of_change (C := Try.checked) own started (by kernel_rfl) Try.func5
    (ChangeSpec.witness6 (enc := enc) (C := Try.checked) false ⟨#[], #[.slice none 0 0, .slice none 0 0, .agg #[.int .u16 0, .int .u16 0, .bool false, .int .i64 0], .int .i64 0, .int .i64 0], []⟩ 8 (by kernel_rfl) (by kernel_rfl) (by kernel_rfl) (by kernel_rfl)) ?_
  intro W base args ds gs before hval0 hW hcnd _
  have hval : ∀ (j : Nat) t v, Try.f5.params[j]? = some t → args[j]? = some v → Value.okWide Try.prog W .any base t v := hval0
  have hW' := hW
  obtain ⟨p, q, hA0, hV, rfl, hfz, hnd⟩ := hW
  have hA : DataW.TrodAll enc Try.prog W 0 (fun _ => true) true Try.f5.params.toList args.toList ds p := hA0
  rw [Try.params5] at hA hval
  obtain ⟨v0, vs0, d0, ds0, p0, q0, hargs, rfl, rfl, h0, r0⟩ := trodAll_cons hA
  obtain ⟨v1, vs1, d1, ds1, p1, q1, rfl, rfl, rfl, h1, r1⟩ := trodAll_cons r0
  obtain ⟨v2, vs2, d2, ds2, p2, q2, rfl, rfl, rfl, h2, r2⟩ := trodAll_cons r1
  obtain ⟨v3, vs3, d3, ds3, p3, q3, rfl, rfl, rfl, h3, r3⟩ := trodAll_cons r2
  obtain ⟨v4, vs4, d4, ds4, p4, q4, rfl, rfl, rfl, h4, r4⟩ := trodAll_cons r3
  obtain ⟨rfl, rfl, rfl⟩ := trodAll_nil r4
  obtain rfl : args = #[v0, v1, v2, v3, v4] := by cases args; simp_all
  obtain ⟨rfl, rfl⟩ := trodVars_none hV
  have k0 := h0
  have lt0 : ∀ x ∈ p0, x.block < W.heap.size := by obtain ⟨m, hm⟩ := k0; exact DataW.trod_lt m _ _ _ hm
  obtain ⟨a0, len0, cap0, rfl⟩ := okWide_slice Try.underlying39 (hval 0 39 v0 rfl rfl)
  have w0 : len0 ≤ 2305843009213693952 → ∃ l, HeldR W a0 len0 l := by
    obtain ⟨fuel, hf⟩ := h0
    obtain ⟨x, l, c, hcs, hh⟩ := open_regions hf
    simp [Value.cells] at hcs
    obtain ⟨rfl, rfl, rfl⟩ := hcs
    exact hh
  have k1 := h1
  have lt1 : ∀ x ∈ p1, x.block < W.heap.size := by obtain ⟨m, hm⟩ := k1; exact DataW.trod_lt m _ _ _ hm
  obtain ⟨a1, len1, cap1, rfl⟩ := okWide_slice Try.underlying23 (hval 1 23 v1 rfl rfl)
  obtain ⟨z1, w1⟩ : ∃ zs, IsRow .i64 W a1 len1 cap1 zs := by
    obtain ⟨fuel, hf⟩ := h1
    rcases open_ints Try.underlying23 Try.underlying3 (by kernel_rfl) hf with ⟨hcs, _⟩ | ⟨x, l, c, zs, hcs, _, hl, hm, hz, _, hcell, hwz⟩
    · simp [Value.cells] at hcs
      obtain ⟨rfl, rfl, rfl⟩ := hcs
      exact ⟨[], .inl ⟨rfl, rfl, rfl, rfl⟩⟩
    · simp [Value.cells] at hcs
      obtain ⟨rfl, rfl, rfl⟩ := hcs
      exact ⟨zs, .inr ⟨_, rfl, hl, hm, by simpa using hz, hcell, hwz⟩⟩
  have k2 := h2
  have lt2 : ∀ x ∈ p2, x.block < W.heap.size := by obtain ⟨m, hm⟩ := k2; exact DataW.trod_lt m _ _ _ hm
  obtain ⟨l2, rfl, g2_0⟩ := open_flat 9 [.int .u16, .int .u16, .bool, .int .i64] _ Try.underlying41 (by kernel_rfl) (hval 2 41 v2 rfl rfl) h2
  obtain ⟨a2_From, l2_1, rfl, w2_From, g2_1⟩ := fits_int g2_0
  obtain ⟨a2_To, l2_2, rfl, w2_To, g2_2⟩ := fits_int g2_1
  obtain ⟨a2_RAM, l2_3, rfl, g2_3⟩ := fits_bool g2_2
  obtain ⟨a2_Waits, l2_4, rfl, w2_Waits, g2_4⟩ := fits_int g2_3
  obtain rfl := fits_nil g2_4
  have k3 := h3
  have lt3 : ∀ x ∈ p3, x.block < W.heap.size := by obtain ⟨m, hm⟩ := k3; exact DataW.trod_lt m _ _ _ hm
  obtain ⟨a3, rfl, -, -, w3⟩ := open_int Try.underlying3 (hval 3 3 v3 rfl rfl) h3
  have k4 := h4
  have lt4 : ∀ x ∈ p4, x.block < W.heap.size := by obtain ⟨m, hm⟩ := k4; exact DataW.trod_lt m _ _ _ hm
  obtain ⟨a4, rfl, -, -, w4⟩ := open_int Try.underlying3 (hval 4 3 v4 rfl rfl) h4
  clear hA0 hval0
  refine (walk a0 len0 cap0 a1 len1 cap1 z1 a2_From a2_To a2_RAM a2_Waits a3 a4 W w0 w1 w2_From w2_To w2_Waits w3 w4).mono fun e W' ⟨he, bel⟩ => ?_
  subst he
  exact ⟨_, rfl, _, _, _, [], _, [], hW', trodAll_mk1 (shut_bool Try.underlying4 _), (trodAll_cons_mk (Below.trod laidOut (by kernel_rfl) (of_decide_eq_true (by kernel_rfl)) k0 bel lt0) (trodAll_cons_mk (Below.trod laidOut (by kernel_rfl) (of_decide_eq_true (by kernel_rfl)) k1 bel lt1) (trodAll_cons_mk (Below.trod laidOut (by kernel_rfl) (of_decide_eq_true (by kernel_rfl)) k2 bel lt2) (trodAll_cons_mk (Below.trod laidOut (by kernel_rfl) (of_decide_eq_true (by kernel_rfl)) k3 bel lt3) (trodAll_cons_mk (Below.trod laidOut (by kernel_rfl) (of_decide_eq_true (by kernel_rfl)) k4 bel lt4) trodAll_mk0))))), rfl, bel.frame _, fun h => by cases h⟩

theorem over : Rows.regionsValidatesRow.holds Try.pinned (OpenSpec.ofChange Rows.regionsValidatesSpec) :=
  OpenClaim.holds_of_wide 5 Try.f5 rfl rfl rfl rfl rfl rfl rfl ⟨rfl, rfl, rfl, rfl, rfl⟩ rfl rfl rfl rfl rfl (by kernel_rfl) Try.func5 (by kernel_rfl)
    (of_decide_eq_true (by kernel_rfl)) (by unfold Func.isWrapper; first | (rw [if_pos (by decide +kernel)]; kernel_rfl) | (rw [if_neg (by decide +kernel)]; exact ⟨rfl, rfl⟩))
    (fun os started H enc _ => lifted os started H enc)

/-- The statement. -/
theorem proved : Rows.RegionsValidatesSaid := over
#print axioms proved
end Go.Proofs.Ytfddefoambakiaa.regionsValidates
