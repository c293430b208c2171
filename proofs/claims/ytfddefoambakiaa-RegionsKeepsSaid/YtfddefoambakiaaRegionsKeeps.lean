/- The statement RegionsKeepsSaid of package tstatelaw13: for every input the law returns true, and its arguments read as before. No condition. -/
import Derived.Test.YtfddefoambakiaaRows
import Derived.Test.YtfddefoambakiaaM1
import Derived.Test.YtfddefoambakiaaCM
import Derived.Test.YtfddefoambakiaaC13e
import Derived.WalkKit
import Derived.ProofKit
import Derived.OpenShut
import Derived.ShutString
import Derived.ChangeOld
import Derived.Below
import Derived.Carry
namespace Go.Proofs.Ytfddefoambakiaa.regionsKeeps
open Go.ChangeShapes Go.WideShapes Go.ChangeAt Go.RowKit
open Go.ChangeMaps (open_string shut_string)
set_option linter.unusedVariables false

theorem own : ownKnob Try.prog.godebug = none := by kernel_rfl
theorem laidOut : laidOutB Try.prog = true := by kernel_rfl

set_option maxHeartbeats 2000000 in
/-- The walk. -/
theorem walk (a0 : Option Addr) (len0 cap0 : Nat) (z0 : List Int) (a1 : Int) (a2 : Int) (w : World) (w0 : IsRow .i64 w a0 len0 cap0 z0) (w1 : (Lit.int .u16 a1).wf = true) (w2 : (Lit.int .u8 a2).wf = true) :
    Calls Try.prog 8 #[.slice a0 len0 cap0, .int .u16 a1, .int .u8 a2] w fun e w' => e = .returned (.bool true) ∧ Below w.heap.size w w' := by
  by_cases h100 : 100 < len0
  · clear w0
    go_enter Try.func8, Try.ntmps8
    go_wp2_with (go_at_call 22; refine (known13 _).mono ?_; rintro e w' ⟨rfl, hK⟩)
    go_ret
    exact ⟨rfl, hK.below⟩
  have hle : len0 ≤ 100 := by omega
  have B0 := Lib.hid (bx_from w0 hle)
  clear w0
  go_enter Try.func8, Try.ntmps8
  go_upto_region 7 with (first
    | (go_at_call 12; (with_reducible refine (from_any a0 len0 cap0 w).mono ?_); rintro e w1 ⟨rfl, rfl⟩)
    | (go_at_call 23; (with_reducible refine (regs_bx w _ a0 len0 cap0 0 5 5 rfl (by omega) (by omega) B0.out).mono ?_); rintro e w2 ⟨adr, nr, cr, dr, N2, rfl, OR2, hdr, hnr, hcr, hzr, hN2, B2, G2⟩)
    | (go_at_call 11; (with_reducible refine (cells_bx w _ a0 len0 cap0 N2 10 10 rfl (by omega) (by omega) B2.out).mono ?_); rintro e w3 ⟨adc, nc, cc, dc, N3, rfl, OC3, hdc, hnc, hcc, hN3, B3, G3⟩)
    | (go_at_call 27; (with_reducible refine (word_bx w _ a0 len0 cap0 N3 (by omega) B3.out).mono ?_); rintro e w4 ⟨y, N4, hy0, hy1, rfl, hN4, B4, G4⟩; have HR := Lib.hid ((bx_ownR (bx_ownR OR2.out G3.out) G4.out).held (by have := hdr.out; omega)); have HC := Lib.hid ((bx_own OC3.out G4.out).held (by have := hdc.out; omega)))
    | (go_at_call 34; (with_reducible refine (rgwrite_any adr adc nr cr nc cc dr dc y a2 w4 HR.out HC.out (by omega)).mono ?_); rintro e w5 ⟨adm, nm, cm, rfl, HM, hnm, hcm, A5⟩)
    | (go_at_call 28; (with_reducible refine (find_any adr nr cr dr y w5 (HR.out.adds A5)).mono ?_); rintro e w6 ⟨rfl, A6⟩))
  rcases Sm.fnd_spec dr y with ⟨h1, h2⟩ | ⟨j, r, h1, h2, h3⟩
  · rw [h1]
    have hram : Hid (Sm.ramAt dr y = false) := by show _ = _; unfold Sm.ramAt; rw [h2]
    clear h1 h2
    by_cases hoq : a1 = y
    · have hb1 : (a1 == y) = true := by simpa using hoq
      have HQ := Lib.hid hoq
      clear hoq
      go_wp2_with (first
        | (go_at_call 30; (with_reducible refine (rgread_any adr adm nr cr nm cm dr _ y w6 (HR.out.adds (A5.trans A6)) (HM.out.adds A6)).mono ?_); rintro e w7 ⟨rfl, A7⟩; rw [Sm.rd_keep _ _ _ _ hram.out])
        | (go_at_call 30; (with_reducible refine (rgread_any adr adc nr cr nc cc dr dc y w7 (HR.out.adds (A5.trans (A6.trans A7))) (HC.out.adds (A5.trans (A6.trans A7)))).mono ?_); rintro e w8 ⟨rfl, A8⟩)
        | (go_at_call 22; (with_reducible refine (known13 w8).mono ?_); rintro e w9 ⟨rfl, A9⟩))
      go_ret
      exact ⟨rfl, ((B4.out.2.trans A5).trans (((A6.trans A7).trans A8).trans A9)).below⟩
    · have hb1 : (a1 == y) = false := by simpa using hoq
      have hoy := Lib.hid hoq
      clear hoq
      go_wp2_with (first
        | (go_at_call 30; (with_reducible refine (rgread_any adr adm nr cr nm cm dr _ y w6 (HR.out.adds (A5.trans A6)) (HM.out.adds A6)).mono ?_); rintro e w7 ⟨rfl, A7⟩; rw [Sm.rd_keep _ _ _ _ hram.out])
        | (go_at_call 30; (with_reducible refine (rgread_any adr adc nr cr nc cc dr dc y w7 (HR.out.adds (A5.trans (A6.trans A7))) (HC.out.adds (A5.trans (A6.trans A7)))).mono ?_); rintro e w8 ⟨rfl, A8⟩)
        | (go_at_call 30; (with_reducible refine (rgread_any adr adm nr cr nm cm dr _ a1 w8 (HR.out.adds (A5.trans ((A6.trans A7).trans A8))) (HM.out.adds ((A6.trans A7).trans A8))).mono ?_); rintro e w9 ⟨rfl, A9⟩; rw [Sm.rd_other _ _ _ _ _ hoy.out])
        | (go_at_call 30; (with_reducible refine (rgread_any adr adc nr cr nc cc dr dc a1 w9 (HR.out.adds (A5.trans (((A6.trans A7).trans A8).trans A9))) (HC.out.adds (A5.trans (((A6.trans A7).trans A8).trans A9)))).mono ?_); rintro e w10 ⟨rfl, A10⟩)
        | (go_at_call 22; (with_reducible refine (known13 w10).mono ?_); rintro e w11 ⟨rfl, A11⟩))
      go_ret
      exact ⟨rfl, ((B4.out.2.trans A5).trans (((((A6.trans A7).trans A8).trans A9).trans A10).trans A11)).below⟩
  · rw [h1]
    have hram : Hid (Sm.ramAt dr y = r.ram) := by show _ = _; unfold Sm.ramAt; rw [h3]
    have hjl := (List.getElem?_eq_some_iff.1 h2).1
    have hdl := hdr.out
    have hjz : (j : Int) < (nr : Int) := by omega
    obtain ⟨b, o, rfl, hb, hat⟩ := ((HR.out.adds A5).adds A6).2.2 (by omega)
    obtain ⟨fr, tw, ram, wt⟩ := r
    obtain ⟨g1, g2, g3, g4⟩ := hat j _ h2
    simp only at g1 g2 g3 g4 hram
    clear hat h1 h2 h3 hjl hdl g1 g2 g4
    cases ram with
    | false =>
      by_cases hoq : a1 = y
      · have hb1 : (a1 == y) = true := by simpa using hoq
        have HQ := Lib.hid hoq
        clear hoq
        go_wp2_with (first
          | (go_at_call 30; (with_reducible refine (rgread_any _ adm nr cr nm cm dr _ y w6 (HR.out.adds (A5.trans A6)) (HM.out.adds A6)).mono ?_); rintro e w7 ⟨rfl, A7⟩; rw [Sm.rd_keep _ _ _ _ hram.out])
          | (go_at_call 30; (with_reducible refine (rgread_any _ adc nr cr nc cc dr dc y w7 (HR.out.adds (A5.trans (A6.trans A7))) (HC.out.adds (A5.trans (A6.trans A7)))).mono ?_); rintro e w8 ⟨rfl, A8⟩)
          | (go_at_call 22; (with_reducible refine (known13 w8).mono ?_); rintro e w9 ⟨rfl, A9⟩))
        go_ret
        exact ⟨rfl, ((B4.out.2.trans A5).trans (((A6.trans A7).trans A8).trans A9)).below⟩
      · have hb1 : (a1 == y) = false := by simpa using hoq
        have hoy := Lib.hid hoq
        clear hoq
        go_wp2_with (first
          | (go_at_call 30; (with_reducible refine (rgread_any _ adm nr cr nm cm dr _ y w6 (HR.out.adds (A5.trans A6)) (HM.out.adds A6)).mono ?_); rintro e w7 ⟨rfl, A7⟩; rw [Sm.rd_keep _ _ _ _ hram.out])
          | (go_at_call 30; (with_reducible refine (rgread_any _ adc nr cr nc cc dr dc y w7 (HR.out.adds (A5.trans (A6.trans A7))) (HC.out.adds (A5.trans (A6.trans A7)))).mono ?_); rintro e w8 ⟨rfl, A8⟩)
          | (go_at_call 30; (with_reducible refine (rgread_any _ adm nr cr nm cm dr _ a1 w8 (HR.out.adds (A5.trans ((A6.trans A7).trans A8))) (HM.out.adds ((A6.trans A7).trans A8))).mono ?_); rintro e w9 ⟨rfl, A9⟩; rw [Sm.rd_other _ _ _ _ _ hoy.out])
          | (go_at_call 30; (with_reducible refine (rgread_any _ adc nr cr nc cc dr dc a1 w9 (HR.out.adds (A5.trans (((A6.trans A7).trans A8).trans A9))) (HC.out.adds (A5.trans (((A6.trans A7).trans A8).trans A9)))).mono ?_); rintro e w10 ⟨rfl, A10⟩)
          | (go_at_call 22; (with_reducible refine (known13 w10).mono ?_); rintro e w11 ⟨rfl, A11⟩))
        go_ret
        exact ⟨rfl, ((B4.out.2.trans A5).trans (((((A6.trans A7).trans A8).trans A9).trans A10).trans A11)).below⟩
    | true =>
      by_cases hoq : a1 = y
      · have hb1 : (a1 == y) = true := by simpa using hoq
        have HQ := Lib.hid hoq
        clear hoq
        go_wp2_with (first
          | (go_at_call 30; (with_reducible refine (rgread_any _ adm nr cr nm cm dr _ y w6 (HR.out.adds (A5.trans A6)) (HM.out.adds A6)).mono ?_); rintro e w7 ⟨rfl, A7⟩; rw [Sm.rd_same _ _ _ _ hram.out])
          | (go_at_call 22; (with_reducible refine (known13 w7).mono ?_); rintro e w8 ⟨rfl, A8⟩))
        go_ret
        exact ⟨rfl, ((B4.out.2.trans A5).trans ((A6.trans A7).trans A8)).below⟩
      · have hb1 : (a1 == y) = false := by simpa using hoq
        have hoy := Lib.hid hoq
        clear hoq
        go_wp2_with (first
          | (go_at_call 30; (with_reducible refine (rgread_any _ adm nr cr nm cm dr _ y w6 (HR.out.adds (A5.trans A6)) (HM.out.adds A6)).mono ?_); rintro e w7 ⟨rfl, A7⟩; rw [Sm.rd_same _ _ _ _ hram.out])
          | (go_at_call 30; (with_reducible refine (rgread_any _ adm nr cr nm cm dr _ a1 w7 (HR.out.adds (A5.trans (A6.trans A7))) (HM.out.adds (A6.trans A7))).mono ?_); rintro e w8 ⟨rfl, A8⟩; rw [Sm.rd_other _ _ _ _ _ hoy.out])
          | (go_at_call 30; (with_reducible refine (rgread_any _ adc nr cr nc cc dr dc a1 w8 (HR.out.adds (A5.trans ((A6.trans A7).trans A8))) (HC.out.adds (A5.trans ((A6.trans A7).trans A8)))).mono ?_); rintro e w9 ⟨rfl, A9⟩)
          | (go_at_call 22; (with_reducible refine (known13 w9).mono ?_); rintro e w10 ⟨rfl, A10⟩))
        go_ret
        exact ⟨rfl, ((B4.out.2.trans A5).trans ((((A6.trans A7).trans A8).trans A9).trans A10)).below⟩

set_option maxRecDepth 100000 in
theorem lifted (os : Os) (started : os.Started) (H : Type) (enc : TypeId × Value → H) :
    ReturnsInHanded {} Try.checked os 8 .any (Rows.regionsKeepsSpec.pre6 enc Try.prog Try.f8 Rows.regionsKeepsRow.domain false) (Rows.regionsKeepsSpec.post enc Try.prog Try.f8 false true false false) := by
  refine returnsInHanded_of_change (C := Try.checked) own started (by kernel_rfl) Try.func8
    (ChangeSpec.witness6 (enc := enc) (C := Try.checked) false ⟨#[], #[.slice none 0 0, .int .u16 0, .int .u8 0], []⟩ 8 (by kernel_rfl) (by kernel_rfl) (by kernel_rfl) (by kernel_rfl)) ?_
  intro W base args ds gs before hval0 hW hcnd _
  have hval : ∀ (j : Nat) t v, Try.f8.params[j]? = some t → args[j]? = some v → Value.okWide Try.prog W .any base t v := hval0
  have hW' := hW
  obtain ⟨p, q, hA0, hV, rfl, hfz, hnd⟩ := hW
  have hA : DataW.TrodAll enc Try.prog W 0 (fun _ => true) true Try.f8.params.toList args.toList ds p := hA0
  rw [Try.params8] at hA hval
  obtain ⟨v0, vs0, d0, ds0, p0, q0, hargs, rfl, rfl, h0, r0⟩ := trodAll_cons hA
  obtain ⟨v1, vs1, d1, ds1, p1, q1, rfl, rfl, rfl, h1, r1⟩ := trodAll_cons r0
  obtain ⟨v2, vs2, d2, ds2, p2, q2, rfl, rfl, rfl, h2, r2⟩ := trodAll_cons r1
  obtain ⟨rfl, rfl, rfl⟩ := trodAll_nil r2
  obtain rfl : args = #[v0, v1, v2] := by cases args; simp_all
  obtain ⟨rfl, rfl⟩ := trodVars_none hV
  have k0 := h0
  have lt0 : ∀ x ∈ p0, x.block < W.heap.size := by obtain ⟨m, hm⟩ := k0; exact DataW.trod_lt m _ _ _ hm
  obtain ⟨a0, len0, cap0, rfl⟩ := okWide_slice Try.underlying23 (hval 0 23 v0 rfl rfl)
  obtain ⟨z0, w0⟩ : ∃ zs, IsRow .i64 W a0 len0 cap0 zs := by
    obtain ⟨fuel, hf⟩ := h0
    rcases open_ints Try.underlying23 Try.underlying3 (by kernel_rfl) hf with ⟨hcs, _⟩ | ⟨x, l, c, zs, hcs, _, hl, hm, hz, _, hcell, hwz⟩
    · simp [Value.cells] at hcs
      obtain ⟨rfl, rfl, rfl⟩ := hcs
      exact ⟨[], .inl ⟨rfl, rfl, rfl, rfl⟩⟩
    · simp [Value.cells] at hcs
      obtain ⟨rfl, rfl, rfl⟩ := hcs
      exact ⟨zs, .inr ⟨_, rfl, hl, hm, by simpa using hz, hcell, hwz⟩⟩
  have k1 := h1
  have lt1 : ∀ x ∈ p1, x.block < W.heap.size := by obtain ⟨m, hm⟩ := k1; exact DataW.trod_lt m _ _ _ hm
  obtain ⟨a1, rfl, -, -, w1⟩ := open_int Try.underlying24 (hval 1 24 v1 rfl rfl) h1
  have k2 := h2
  have lt2 : ∀ x ∈ p2, x.block < W.heap.size := by obtain ⟨m, hm⟩ := k2; exact DataW.trod_lt m _ _ _ hm
  obtain ⟨a2, rfl, -, -, w2⟩ := open_int Try.underlying5 (hval 2 5 v2 rfl rfl) h2
  clear hA0 hval0
  refine (walk a0 len0 cap0 z0 a1 a2 W w0 w1 w2).mono fun e W' ⟨he, bel⟩ => ?_
  subst he
  exact ⟨_, rfl, _, _, _, [], _, [], hW', trodAll_mk1 (shut_bool Try.underlying4 _), (trodAll_cons_mk (Below.trod laidOut (by kernel_rfl) (of_decide_eq_true (by kernel_rfl)) k0 bel lt0) (trodAll_cons_mk (Below.trod laidOut (by kernel_rfl) (of_decide_eq_true (by kernel_rfl)) k1 bel lt1) (trodAll_cons_mk (Below.trod laidOut (by kernel_rfl) (of_decide_eq_true (by kernel_rfl)) k2 bel lt2) trodAll_mk0))), rfl, bel.frame _, fun h => by cases h⟩

theorem over : Rows.regionsKeepsRow.holds Try.pinned (OpenSpec.ofChange Rows.regionsKeepsSpec) :=
  OpenClaim.holds_of_wide 8 Try.f8 rfl rfl rfl rfl rfl rfl rfl ⟨rfl, rfl, rfl, rfl, rfl⟩ rfl rfl rfl rfl rfl (by kernel_rfl) Try.func8 (by kernel_rfl)
    (of_decide_eq_true (by kernel_rfl)) (by unfold Func.isWrapper; first | (rw [if_pos (by decide +kernel)]; kernel_rfl) | (rw [if_neg (by decide +kernel)]; exact ⟨rfl, rfl⟩))
    (fun os started H enc _ => lifted os started H enc)

/-- The statement. -/
theorem proved : Rows.RegionsKeepsSaid := over
#print axioms proved
end Go.Proofs.Ytfddefoambakiaa.regionsKeeps
