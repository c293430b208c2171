/- The statement GrammarConcatsSaid of package tstatelaw26: for every input the law returns true, and its arguments read as before. No condition. -/
import Derived.Test.YtfhnfakjjfjohaaRows
import Derived.Test.YtfhnfakjjfjohaaM1
import Derived.Test.YtfhnfakjjfjohaaCM
import Derived.Test.YtfhnfakjjfjohaaC26n
import Derived.Test.YtfhnfakjjfjohaaC26q
import Derived.Test.YtfhnfakjjfjohaaC26u
import Derived.Test.YtfhnfakjjfjohaaC26w
import Derived.Test.YtfhnfakjjfjohaaC26x
import Derived.WalkKit
import Derived.ProofKit
import Derived.OpenShut
import Derived.ShutString
import Derived.ChangeOld
import Derived.Below
import Derived.Carry
namespace Go.Proofs.Ytfhnfakjjfjohaa.grammarConcats
open Go.ChangeShapes Go.WideShapes Go.ChangeAt Go.RowKit
open Go.ChangeMaps (open_string shut_string)
set_option linter.unusedVariables false

theorem own : ownKnob Try.prog.godebug = none := by kernel_rfl
theorem laidOut : laidOutB Try.prog = true := by kernel_rfl

set_option maxRecDepth 100000 in
set_option maxHeartbeats 2000000 in
/-- The walk. -/
theorem walk (a0 : Option Addr) (len0 cap0 : Nat) (z0 : List Int) (a1 : Option Addr) (len1 cap1 : Nat) (z1 : List Int) (a2 : Int) (w : World) (w0 : IsRow .i64 w a0 len0 cap0 z0) (w1 : IsRow .i64 w a1 len1 cap1 z1) (w2 : (Lit.int .i64 a2).wf = true) :
    Calls Try.prog 4 #[.slice a0 len0 cap0, .slice a1 len1 cap1, .int .i64 a2] w fun e w' => e = .returned (.bool true) ∧ Below w.heap.size w w' := by
  by_cases h150 : 150 < len0
  · clear w0 w1
    go_enter Try.func4, Try.ntmps4
    go_wp2_with (go_at_call 8; refine (known26 _).mono ?_; rintro e w' ⟨rfl, hK⟩)
    go_ret
    exact ⟨rfl, hK.below⟩
  by_cases h151 : 150 < len1
  · clear w0 w1
    go_enter Try.func4, Try.ntmps4
    go_wp2_with (go_at_call 8; refine (known26 _).mono ?_; rintro e w' ⟨rfl, hK⟩)
    go_ret
    exact ⟨rfl, hK.below⟩
  obtain ⟨rb0, rb1⟩ := S.plc_bd a2 2 (by omega)
  obtain ⟨r, hr⟩ : ∃ r, S.plc a2 2 = r := ⟨_, rfl⟩
  rw [hr] at rb0 rb1
  have HR := Lib.hid hr
  have HW0 := Lib.hid w0
  have HW1 := Lib.hid w1
  clear hr w0 w1
  go_enter Try.func4, Try.ntmps4
  go_wp2_with (first
    | (go_at_call 9; (with_reducible refine (made_any a0 len0 cap0 z0 w HW0.out (by omega)).mono ?_); rintro e wB ⟨vB, dB, rfl, hO, hd, hA⟩; have OB := Lib.hid hO; have DB := Lib.hid hd; have AB := Lib.hid hA; clear hO hd hA)
    | (go_at_call 9; (with_reducible refine (made_any a1 len1 cap1 z1 wB (HW1.out.adds AB.out) (by omega)).mono ?_); rintro e wC ⟨vC, dC, rfl, hO, hd, hA⟩; have OC := Lib.hid hO; have DC := Lib.hid hd; have AC := Lib.hid hA; clear hO hd hA)
    | (go_at_call 13; (with_reducible refine (mplace_any a2 2 (by omega) (by omega) _).mono ?_); rintro e w' ⟨rfl, rfl⟩; rw [HR.out])
    | (at_builtin; refine wpList_appTs rfl _ _ rfl wC.heap.size (.slice none 0 0) [] rfl (OwnsG.nil _ _) w.heap.size vB dB rfl (OB.out.adds AC.out) (by have := DB.out; simp; omega) (Nat.le_refl _) ?_; intro vD wD hO hG; have AD := Lib.hid (AddsG.grown (d := ([] : List S.It)) (cs := csT) (sz := 9) (E := 44) (Adds.refl wC) hG (OwnsG.nil _ _)); have OD := Lib.hid hO; clear hO hG)
    | (at_builtin; refine wpList_appTs rfl _ _ rfl wC.heap.size vD dB rfl OD.out wB.heap.size vC dC rfl (OC.out.adds AD.out) (by have := DB.out; have := DC.out; omega) AD.out.size ?_; intro vE wE hO hG; have AE := Lib.hid (AddsG.grown AD.out hG OD.out); have OE := Lib.hid hO; obtain ⟨adE, nE, cE, rfl, -, -, -, -, -⟩ := hO.form2; clear hO hG)
    | (go_at_call 11; (with_reducible refine (expand_any (1 + r) adE nE cE (dB ++ dC) (by have := OE.out.len; have := DB.out; have := DC.out; simp at *; omega) wE (OE.out.held (by have := DB.out; have := DC.out; simp; omega))).mono ?_); rintro e wF ⟨vF, rfl, hO, hA⟩; have OF := Lib.hid hO; have AF := Lib.hid hA; obtain ⟨adF, nF, cF, rfl, -, -, -, -, -⟩ := hO.form2; obtain ⟨adB, nB, cB, rfl, -, -, -, -, -⟩ := OB.out.form2; clear hO hA)
    | (go_at_call 11; (with_reducible refine (expand_any (1 + r) adB nB cB dB (by have := OB.out.len; have := DB.out; omega) wF ((OB.out.held (by have := DB.out; omega)).adds ((AC.out.trans AE.out).trans AF.out))).mono ?_); rintro e wG ⟨vG, rfl, hO, hA⟩; have OG := Lib.hid hO; have AG := Lib.hid hA; clear hO hA)
    | (at_builtin; refine wpList_appQs rfl _ _ rfl wG.heap.size (.slice none 0 0) [] rfl (OwnsG.nil _ _) wF.heap.size vG _ rfl OG.out (by have := S.ex_len ((1 + r) == 2) dB; have := DB.out; simp; omega) (Nat.le_refl _) ?_; intro vH wH hO hG; have AH := Lib.hid (AddsG.grown (d := ([] : List S.Pn)) (cs := csQ) (sz := 17) (E := 46) (Adds.refl wG) hG (OwnsG.nil _ _)); have OH := Lib.hid hO; obtain ⟨adC, nC, cC, rfl, -, -, -, -, -⟩ := OC.out.form2; clear hO hG)
    | (go_at_call 11; (with_reducible refine (expand_any (1 + r) adC nC cC dC (by have := OC.out.len; have := DC.out; omega) wH ((OC.out.held (by have := DC.out; omega)).adds (((AE.out.trans AF.out).trans AG.out).trans AH.out))).mono ?_); rintro e wI ⟨vI, rfl, hO, hA⟩; have OI := Lib.hid hO; have AI := Lib.hid hA; clear hO hA)
    | (at_builtin; refine wpList_appQs rfl _ _ rfl wG.heap.size vH _ rfl (OH.out.adds AI.out) wH.heap.size vI _ rfl OI.out (by have := S.ex_len ((1 + r) == 2) dB; have := DB.out; have := S.ex_len ((1 + r) == 2) dC; have := DC.out; simp; omega) (AH.out.trans AI.out).size ?_; intro vJ wJ hO hG; have AJ := Lib.hid (AddsG.grown (AH.out.trans AI.out) hG (OH.out.adds AI.out)); have OJ := Lib.hid hO; obtain ⟨adJ, nJ, cJ, rfl, -, -, -, -, -⟩ := hO.form2; clear hO hG; have XF := Lib.hid ((OF.out.held (by have := S.ex_len ((1 + r) == 2) (dB ++ dC); have := DB.out; have := DC.out; simp at *; omega)).adds (AG.out.trans AJ.out)); have XJ := Lib.hid (OJ.out.held (by have := S.ex_len ((1 + r) == 2) dB; have := DB.out; have := S.ex_len ((1 + r) == 2) dC; have := DC.out; simp; omega)); obtain rfl : nJ = nF := (by have h1 := XF.out.1; have h2 := XJ.out.1; have h3 := S.ex_app ((1 + r) == 2) dB dC; rw [h3] at h1; simp at h1 h2; omega); have XE := Lib.hid (S.ex_app ((1 + r) == 2) dB dC); have XK := Lib.hid (show HeldQ wJ adJ nJ (S.ex ((1 + r) == 2) (dB ++ dC)) by rw [XE.out]; exact XJ.out))
    | (go_at_call 10; (with_reducible refine (spins_any adF adJ nJ cF cJ (S.ex ((1 + r) == 2) (dB ++ dC)) wJ XF.out XK.out).mono ?_); rintro e wK ⟨rfl, hA⟩; have AK := Lib.hid hA; clear hA)
    | (go_at_call 8; (with_reducible refine (known26 _).mono ?_); rintro e wL ⟨rfl, AL⟩))
  go_ret
  exact ⟨rfl, (((((((AB.out.trans AC.out).trans AE.out).trans AF.out).trans AG.out).trans AJ.out).trans AK.out).trans AL).below⟩

set_option maxRecDepth 100000 in
theorem lifted (os : Os) (started : os.Started) (H : Type) (enc : TypeId × Value → H) :
    ReturnsInHanded {} Try.checked os 4 .any (Rows.grammarConcatsSpec.pre6 enc Try.prog Try.f4 Rows.grammarConcatsRow.domain false) (Rows.grammarConcatsSpec.post enc Try.prog Try.f4 false true false false) := by
  refine returnsInHanded_of_change (C := Try.checked) own started (by kernel_rfl) Try.func4
    (ChangeSpec.witness6 (enc := enc) (C := Try.checked) false ⟨#[], #[.slice none 0 0, .slice none 0 0, .int .i64 0], []⟩ 8 (by kernel_rfl) (by kernel_rfl) (by kernel_rfl) (by kernel_rfl)) ?_
  intro W base args ds gs before hval0 hW hcnd _
  have hval : ∀ (j : Nat) t v, Try.f4.params[j]? = some t → args[j]? = some v → Value.okWide Try.prog W .any base t v := hval0
  have hW' := hW
  obtain ⟨p, q, hA0, hV, rfl, hfz, hnd⟩ := hW
  have hA : DataW.TrodAll enc Try.prog W 0 (fun _ => true) true Try.f4.params.toList args.toList ds p := hA0
  rw [Try.params4] at hA hval
  obtain ⟨v0, vs0, d0, ds0, p0, q0, hargs, rfl, rfl, h0, r0⟩ := trodAll_cons hA
  obtain ⟨v1, vs1, d1, ds1, p1, q1, rfl, rfl, rfl, h1, r1⟩ := trodAll_cons r0
  obtain ⟨v2, vs2, d2, ds2, p2, q2, rfl, rfl, rfl, h2, r2⟩ := trodAll_cons r1
  obtain ⟨rfl, rfl, rfl⟩ := trodAll_nil r2
  obtain rfl : args = #[v0, v1, v2] := by cases args; simp_all
  obtain ⟨rfl, rfl⟩ := trodVars_none hV
  have k0 := h0
  have lt0 : ∀ x ∈ p0, x.block < W.heap.size := by obtain ⟨m, hm⟩ := k0; exact DataW.trod_lt m _ _ _ hm
  obtain ⟨a0, len0, cap0, rfl⟩ := okWide_slice Try.underlying23 (hval 0 23 v0 rfl rfl)
  obtain ⟨z0, w0⟩ : ∃ zs, IsRow .i64 W a0 len0 cap0 zs := by
    obtain ⟨fuel, hf⟩ := h0
    rcases open_ints Try.underlying23 Try.underlying3 (by kernel_rfl) hf with ⟨hcs, _⟩ | ⟨x, l, c, zs, hcs, _, hl, hm, hz, _, hcell, hwz⟩
    · simp [Value.cells] at hcs
      obtain ⟨rfl, rfl, rfl⟩ := hcs
      exact ⟨[], .inl ⟨rfl, rfl, rfl, rfl⟩⟩
    · simp [Value.cells] at hcs
      obtain ⟨rfl, rfl, rfl⟩ := hcs
      exact ⟨zs, .inr ⟨_, rfl, hl, hm, by simpa using hz, hcell, hwz⟩⟩
  have k1 := h1
  have lt1 : ∀ x ∈ p1, x.block < W.heap.size := by obtain ⟨m, hm⟩ := k1; exact DataW.trod_lt m _ _ _ hm
  obtain ⟨a1, len1, cap1, rfl⟩ := okWide_slice Try.underlying23 (hval 1 23 v1 rfl rfl)
  obtain ⟨z1, w1⟩ : ∃ zs, IsRow .i64 W a1 len1 cap1 zs := by
    obtain ⟨fuel, hf⟩ := h1
    rcases open_ints Try.underlying23 Try.underlying3 (by kernel_rfl) hf with ⟨hcs, _⟩ | ⟨x, l, c, zs, hcs, _, hl, hm, hz, _, hcell, hwz⟩
    · simp [Value.cells] at hcs
      obtain ⟨rfl, rfl, rfl⟩ := hcs
      exact ⟨[], .inl ⟨rfl, rfl, rfl, rfl⟩⟩
    · simp [Value.cells] at hcs
      obtain ⟨rfl, rfl, rfl⟩ := hcs
      exact ⟨zs, .inr ⟨_, rfl, hl, hm, by simpa using hz, hcell, hwz⟩⟩
  have k2 := h2
  have lt2 : ∀ x ∈ p2, x.block < W.heap.size := by obtain ⟨m, hm⟩ := k2; exact DataW.trod_lt m _ _ _ hm
  obtain ⟨a2, rfl, -, -, w2⟩ := open_int Try.underlying3 (hval 2 3 v2 rfl rfl) h2
  clear hA0 hval0
  refine (walk a0 len0 cap0 z0 a1 len1 cap1 z1 a2 W w0 w1 w2).mono fun e W' ⟨he, bel⟩ => ?_
  subst he
  exact ⟨_, rfl, _, _, _, [], _, [], hW', trodAll_mk1 (shut_bool Try.underlying4 _), (trodAll_cons_mk (Below.trod laidOut (by kernel_rfl) (of_decide_eq_true (by kernel_rfl)) k0 bel lt0) (trodAll_cons_mk (Below.trod laidOut (by kernel_rfl) (of_decide_eq_true (by kernel_rfl)) k1 bel lt1) (trodAll_cons_mk (Below.trod laidOut (by kernel_rfl) (of_decide_eq_true (by kernel_rfl)) k2 bel lt2) trodAll_mk0))), rfl, bel.frame _, fun h => by cases h⟩

theorem over : Rows.grammarConcatsRow.holds Try.pinned (OpenSpec.ofChange Rows.grammarConcatsSpec) :=
  OpenClaim.holds_of_wide 4 Try.f4 rfl rfl rfl rfl rfl rfl rfl ⟨rfl, rfl, rfl, rfl, rfl⟩ rfl rfl rfl rfl rfl (by kernel_rfl) Try.func4 (by kernel_rfl)
    (of_decide_eq_true (by kernel_rfl)) (by unfold Func.isWrapper; first | (rw [if_pos (by decide +kernel)]; kernel_rfl) | (rw [if_neg (by decide +kernel)]; exact ⟨rfl, rfl⟩))
    (fun os started H enc _ => lifted os started H enc)

/-- The statement. -/
theorem proved : Rows.GrammarConcatsSaid := over
#print axioms proved
end Go.Proofs.Ytfhnfakjjfjohaa.grammarConcats
