/- The statement RegionsCoversSaid of package tstatelaw13: for every input the law returns true, and its arguments read as before. No condition. -/
import Derived.Test.YtfddefoambakiaaRows
import Derived.Test.YtfddefoambakiaaM1
import Derived.Test.YtfddefoambakiaaCM
import Derived.Test.YtfddefoambakiaaC13e
import Derived.WalkKit
import Derived.ProofKit
import Derived.OpenShut
import Derived.ShutString
import Derived.ChangeOld
import Derived.Below
import Derived.Carry
namespace Go.Proofs.Ytfddefoambakiaa.regionsCovers
open Go.ChangeShapes Go.WideShapes Go.ChangeAt Go.RowKit
open Go.ChangeMaps (open_string shut_string)
set_option linter.unusedVariables false

theorem own : ownKnob Try.prog.godebug = none := by kernel_rfl
theorem laidOut : laidOutB Try.prog = true := by kernel_rfl

set_option maxHeartbeats 2000000 in
/-- The walk. -/
theorem walk (a0 : Option Addr) (len0 cap0 : Nat) (z0 : List Int) (a1 : Int) (a2 : Int) (w : World) (w0 : IsRow .i64 w a0 len0 cap0 z0) (w1 : (Lit.int .u16 a1).wf = true) (w2 : (Lit.int .u8 a2).wf = true) :
    Calls Try.prog 9 #[.slice a0 len0 cap0, .int .u16 a1, .int .u8 a2] w fun e w' => e = .returned (.bool true) ∧ Below w.heap.size w w' := by
  by_cases h100 : 100 < len0
  · clear w0
    go_enter Try.func9, Try.ntmps9
    go_wp2_with (go_at_call 22; refine (known13 _).mono ?_; rintro e w' ⟨rfl, hK⟩)
    go_ret
    exact ⟨rfl, hK.below⟩
  have hle : len0 ≤ 100 := by omega
  have B0 := Lib.hid (bx_from w0 hle)
  obtain ⟨wl, wh⟩ : 0 ≤ a1 ∧ a1 ≤ 65535 := by
    have := w1
    simp [Lit.wf, IntKind.min, IntKind.max, IntKind.signed, IntKind.bits] at this
    omega
  clear w0 w1
  go_enter Try.func9, Try.ntmps9
  go_upto_region 7 with (first
    | (go_at_call 12; (with_reducible refine (from_any a0 len0 cap0 w).mono ?_); rintro e w1 ⟨rfl, rfl⟩)
    | (go_at_call 23; (with_reducible refine (regs_bx w _ a0 len0 cap0 0 4 4 rfl (by omega) (by omega) B0.out).mono ?_); rintro e w2 ⟨adr, nr, cr, dr, N2, rfl, OR2, hdr, hnr, hcr, hzr, hN2, B2, G2⟩)
    | (go_at_call 11; (with_reducible refine (cells_bx w _ a0 len0 cap0 N2 10 10 rfl (by omega) (by omega) B2.out).mono ?_); rintro e w3 ⟨adc, nc, cc, dc, N3, rfl, OC3, hdc, hnc, hcc, hN3, B3, G3⟩; have HR3 := Lib.hid ((bx_ownR OR2.out G3.out).held (by have := hdr.out; omega)); have hs3 := bx_size B3.out)
    | (at_builtin; refine wpList_appR rfl _ _ rfl w3.heap.size (.slice none 0 0) [] rfl (OwnsR.nil _ _) adr nr cr dr rfl HR3.out hzr.out (by simp; omega) (Nat.le_refl _) ?_; intro v4 w4 hO4' hG4'; have hO4 := Lib.hid hO4'; have G34 := Lib.hid (grown_trans2 (World.grownBy.refl w3 (some w.heap.size)) hG4' (fun g e => by cases e)); have B4 := Lib.hid (bx_step B3.out (B3.out.1.grown hG4' (fun g e => by cases e)) G34.out); clear hO4' hG4')
    | (go_at_call 36; (with_reducible refine (flag_bx w w4 a0 len0 cap0 N3 (by omega) B4.out).mono ?_); rintro e w5 ⟨f, N5, rfl, hN5, B5, G5⟩; have hO5 := Lib.hid (hO4.out.kept G5.out (fun g e => by injection e with e; omega)))
    | (go_at_call 37; (with_reducible refine (next_bx w w5 a0 len0 cap0 N5 4 (by omega) (by omega) (by omega) B5.out).mono ?_); rintro e w6 ⟨y, N6, hy0, hy1, rfl, hN6, B6, G6⟩; have hO6 := Lib.hid (hO5.out.kept G6.out (fun g e => by injection e with e; omega)); have G36 := Lib.hid ((G34.out.trans G5.out).trans G6.out); have hs6 := G36.out.size)
    | (at_builtin; refine wpList_appR rfl _ _ rfl w3.heap.size v4 ([] ++ dr) rfl (hO6.out.alloc _) _ 1 1 [⟨0, 65535, f, y⟩] rfl (HeldR.one w6 _ ⟨0, 65535, f, y⟩) (fun e => by cases e) (by have := hdr.out; simp; omega) (by simp; omega) ?_; intro v7 w7 hO7' hG7'; have hO6' := hO6.out; have G37 := Lib.hid (grown_trans2 (G36.out.trans (World.grownBy_alloc _ _ _)) hG7' (fun g e => .inr (World.ownsRow.lt hO6' g e).1)); have B7 := Lib.hid (bx_step B3.out ((B6.out.1.grown (World.grownBy_alloc _ _ none) (fun _ h => by cases h)).grown hG7' (fun g e => by have := (World.ownsRow.lt hO6' g e).1; omega)) G37.out); obtain ⟨ad7, n7, c7, rfl, hn7, hc7, hm7, hb7, hz7⟩ := hO7'.form2; have hO7 := Lib.hid hO7'; have HZ7 := Lib.hid hz7; have hn7' := hn7.out; have hdr' := hdr.out; have hl7 : n7 ≤ 5 := (by simp at hn7'; omega); have HR7 := Lib.hid (hO7.out.held (by omega)); have hs7 := G37.out.size; clear hO7' hG7' hO6' hb7 hz7 hn7' hdr')
    | (at_builtin; refine wpList_appR rfl _ _ rfl w7.heap.size (.slice none 0 0) [] rfl (OwnsR.nil _ _) ad7 n7 c7 ([] ++ dr ++ [⟨0, 65535, f, y⟩]) rfl HR7.out HZ7.out (by simp; omega) (Nat.le_refl _) ?_; intro v8 w8 hO8' hG8'; have hO8 := Lib.hid hO8'; have G78 := Lib.hid (grown_trans2 (World.grownBy.refl w7 (some w.heap.size)) hG8' (fun g e => by cases e)); have B8 := Lib.hid (bx_step B7.out (B7.out.1.grown hG8' (fun g e => by cases e)) G78.out); clear hO8' hG8')
    | (go_at_call 23; (with_reducible refine (regs_bx w w8 a0 len0 cap0 N6 3 3 rfl (by omega) (by omega) B8.out).mono ?_); rintro e w9 ⟨ade, ne, ce, de, N9, rfl, OE9, hde, hne, hce, hze, hN9, B9, G9⟩; have hO9 := Lib.hid (hO8.out.kept G9.out (fun g e => by injection e with e; omega)); have HE9 := Lib.hid (OE9.out.held (by have := hde.out; omega)); have G79 := Lib.hid (G78.out.trans G9.out); have hs9 := G79.out.size)
    | (at_builtin; refine wpList_appR rfl _ _ rfl w7.heap.size v8 ([] ++ ([] ++ dr ++ [⟨0, 65535, f, y⟩])) rfl hO9.out ade ne ce de rfl HE9.out hze.out (by have := hdr.out; simp; omega) (by omega) ?_; intro v10 w10 hO10' hG10'; have hO9' := hO9.out; have G710 := Lib.hid (grown_trans2 G79.out hG10' (fun g e => .inr (World.ownsRow.lt hO9' g e).1)); obtain ⟨ad10, n10, c10, rfl, hn10, hc10, hm10, hb10, hz10⟩ := hO10'.form2; have hn10' := hn10.out; have hdr' := hdr.out; have hde' := hde.out; have HM := Lib.hid (hO10'.held (by simp; omega)); have HA := Lib.hid ((hO7.out.kept G710.out (fun g e => by injection e with e; omega)).held (by simp; omega)); have HC := Lib.hid ((OC3.out.kept (G37.out.trans G710.out) (fun g e => by injection e with e; omega)).held (by have := hdc.out; omega)); have AA := Lib.hid (B3.out.2.of_grown (G37.out.trans G710.out) (Nat.le_refl _)); clear hO10' hG10' hO9' hb10 hz10 hn10' hdr' hde'))
  have HSEL : Hid (Sm.sel ([] ++ dr ++ [⟨0, 65535, f, y⟩]) a1 = Sm.sel ([] ++ ([] ++ dr ++ [⟨0, 65535, f, y⟩]) ++ de) a1) := by
    show _ = _
    obtain ⟨q, hq⟩ := Sm.sel_last (l := [] ++ dr) (r := ⟨0, 65535, f, y⟩) (x := a1) (Sm.has_yes wl wh)
    rw [hq, List.nil_append ([] ++ dr ++ _), Sm.sel_app hq]
  clear B0 OR2 hdr hnr hcr hzr hN2 B2 G2 OC3 hdc hcc hN3 B3 G3 HR3 hs3 hO4 G34 B4 hN5 B5 G5 hO5 hy0 hy1 hN6 B6 G6 hO6 G36 hs6 G37 B7 hn7 hc7 hm7 hO7 HZ7 hl7 HR7 hs7 hO8 G78 B8 OE9 hde hne hce hze hN9 B9 G9 hO9 HE9 G79 hs9 G710 hn10 hc10 hm10 wl wh
  go_wp2_with (first
    | (go_at_call 30; (with_reducible refine (rgread_any _ _ _ _ _ _ _ _ _ w10 HA.out HC.out).mono ?_); rintro e w11 ⟨rfl, A11⟩)
    | (go_at_call 30; (with_reducible refine (rgread_any _ _ _ _ _ _ _ _ _ w11 (HM.out.adds A11) (HC.out.adds A11)).mono ?_); rintro e w12 ⟨rfl, A12⟩; rw [← Sm.rd_sel HSEL.out]; have AB := Lib.hid (A11.trans A12))
    | (go_at_call 32; (with_reducible refine (rgwaits_any _ _ _ _ _ w12 (HA.out.adds AB.out)).mono ?_); rintro e w13 ⟨rfl, A13⟩)
    | (go_at_call 32; (with_reducible refine (rgwaits_any _ _ _ _ _ w13 (HM.out.adds (AB.out.trans A13))).mono ?_); rintro e w14 ⟨rfl, A14⟩; rw [← Sm.wts_sel HSEL.out]; have AC := Lib.hid ((AB.out.trans A13).trans A14))
    | (go_at_call 34; (with_reducible refine (rgwrite_any _ _ _ _ _ _ _ _ _ _ w14 (HA.out.adds AC.out) (HC.out.adds AC.out) (by omega)).mono ?_); rintro e w15 ⟨ad15, n15, c15, rfl, H15, hn15, hc15, A15⟩)
    | (go_at_call 34; (with_reducible refine (rgwrite_any _ _ _ _ _ _ _ _ _ _ w15 (HM.out.adds (AC.out.trans A15)) (HC.out.adds (AC.out.trans A15)) (by omega)).mono ?_); rintro e w16 ⟨ad16, n16, c16, rfl, H16, hn16, hc16, A16⟩; rw [← Sm.wrt_sel HSEL.out] at H16)
    | (go_at_call 13; (with_reducible refine (same_h _ _ _ _ _ _ _ w16 (H15.out.adds A16) H16.out).mono ?_); rintro e w17 ⟨rfl, A17⟩)
    | (go_at_call 22; (with_reducible refine (known13 w17).mono ?_); rintro e w18 ⟨rfl, A18⟩))
  go_ret
  exact ⟨rfl, (((((AA.out.trans AC.out).trans A15).trans A16).trans A17).trans A18).below⟩

set_option maxRecDepth 100000 in
theorem lifted (os : Os) (started : os.Started) (H : Type) (enc : TypeId × Value → H) :
    ReturnsInHanded {} Try.checked os 9 .any (Rows.regionsCoversSpec.pre6 enc Try.prog Try.f9 Rows.regionsCoversRow.domain false) (Rows.regionsCoversSpec.post enc Try.prog Try.f9 false true false false) := by
  refine returnsInHanded_of_change (C := Try.checked) own started (by kernel_rfl) Try.func9
    (ChangeSpec.witness6 (enc := enc) (C := Try.checked) false ⟨#[], #[.slice none 0 0, .int .u16 0, .int .u8 0], []⟩ 8 (by kernel_rfl) (by kernel_rfl) (by kernel_rfl) (by kernel_rfl)) ?_
  intro W base args ds gs before hval0 hW hcnd _
  have hval : ∀ (j : Nat) t v, Try.f9.params[j]? = some t → args[j]? = some v → Value.okWide Try.prog W .any base t v := hval0
  have hW' := hW
  obtain ⟨p, q, hA0, hV, rfl, hfz, hnd⟩ := hW
  have hA : DataW.TrodAll enc Try.prog W 0 (fun _ => true) true Try.f9.params.toList args.toList ds p := hA0
  rw [Try.params9] at hA hval
  obtain ⟨v0, vs0, d0, ds0, p0, q0, hargs, rfl, rfl, h0, r0⟩ := trodAll_cons hA
  obtain ⟨v1, vs1, d1, ds1, p1, q1, rfl, rfl, rfl, h1, r1⟩ := trodAll_cons r0
  obtain ⟨v2, vs2, d2, ds2, p2, q2, rfl, rfl, rfl, h2, r2⟩ := trodAll_cons r1
  obtain ⟨rfl, rfl, rfl⟩ := trodAll_nil r2
  obtain rfl : args = #[v0, v1, v2] := by cases args; simp_all
  obtain ⟨rfl, rfl⟩ := trodVars_none hV
  have k0 := h0
  have lt0 : ∀ x ∈ p0, x.block < W.heap.size := by obtain ⟨m, hm⟩ := k0; exact DataW.trod_lt m _ _ _ hm
  obtain ⟨a0, len0, cap0, rfl⟩ := okWide_slice Try.underlying23 (hval 0 23 v0 rfl rfl)
  obtain ⟨z0, w0⟩ : ∃ zs, IsRow .i64 W a0 len0 cap0 zs := by
    obtain ⟨fuel, hf⟩ := h0
    rcases open_ints Try.underlying23 Try.underlying3 (by kernel_rfl) hf with ⟨hcs, _⟩ | ⟨x, l, c, zs, hcs, _, hl, hm, hz, _, hcell, hwz⟩
    · simp [Value.cells] at hcs
      obtain ⟨rfl, rfl, rfl⟩ := hcs
      exact ⟨[], .inl ⟨rfl, rfl, rfl, rfl⟩⟩
    · simp [Value.cells] at hcs
      obtain ⟨rfl, rfl, rfl⟩ := hcs
      exact ⟨zs, .inr ⟨_, rfl, hl, hm, by simpa using hz, hcell, hwz⟩⟩
  have k1 := h1
  have lt1 : ∀ x ∈ p1, x.block < W.heap.size := by obtain ⟨m, hm⟩ := k1; exact DataW.trod_lt m _ _ _ hm
  obtain ⟨a1, rfl, -, -, w1⟩ := open_int Try.underlying24 (hval 1 24 v1 rfl rfl) h1
  have k2 := h2
  have lt2 : ∀ x ∈ p2, x.block < W.heap.size := by obtain ⟨m, hm⟩ := k2; exact DataW.trod_lt m _ _ _ hm
  obtain ⟨a2, rfl, -, -, w2⟩ := open_int Try.underlying5 (hval 2 5 v2 rfl rfl) h2
  clear hA0 hval0
  refine (walk a0 len0 cap0 z0 a1 a2 W w0 w1 w2).mono fun e W' ⟨he, bel⟩ => ?_
  subst he
  exact ⟨_, rfl, _, _, _, [], _, [], hW', trodAll_mk1 (shut_bool Try.underlying4 _), (trodAll_cons_mk (Below.trod laidOut (by kernel_rfl) (of_decide_eq_true (by kernel_rfl)) k0 bel lt0) (trodAll_cons_mk (Below.trod laidOut (by kernel_rfl) (of_decide_eq_true (by kernel_rfl)) k1 bel lt1) (trodAll_cons_mk (Below.trod laidOut (by kernel_rfl) (of_decide_eq_true (by kernel_rfl)) k2 bel lt2) trodAll_mk0))), rfl, bel.frame _, fun h => by cases h⟩

theorem over : Rows.regionsCoversRow.holds Try.pinned (OpenSpec.ofChange Rows.regionsCoversSpec) :=
  OpenClaim.holds_of_wide 9 Try.f9 rfl rfl rfl rfl rfl rfl rfl ⟨rfl, rfl, rfl, rfl, rfl⟩ rfl rfl rfl rfl rfl (by kernel_rfl) Try.func9 (by kernel_rfl)
    (of_decide_eq_true (by kernel_rfl)) (by unfold Func.isWrapper; first | (rw [if_pos (by decide +kernel)]; kernel_rfl) | (rw [if_neg (by decide +kernel)]; exact ⟨rfl, rfl⟩))
    (fun os started H enc _ => lifted os started H enc)

/-- The statement. -/
theorem proved : Rows.RegionsCoversSaid := over
#print axioms proved
end Go.Proofs.Ytfddefoambakiaa.regionsCovers
