/- The statement GrammarExpandsSaid of package tstatelaw26: for every input the law returns true, and its arguments read as before. No condition. -/
import Derived.Test.YtfhnfakjjfjohaaRows
import Derived.Test.YtfhnfakjjfjohaaM1
import Derived.Test.YtfhnfakjjfjohaaCM
import Derived.Test.YtfhnfakjjfjohaaC26n
import Derived.Test.YtfhnfakjjfjohaaC26q
import Derived.Test.YtfhnfakjjfjohaaC26s
import Derived.Test.YtfhnfakjjfjohaaC26u
import Derived.Test.YtfhnfakjjfjohaaC26v
import Derived.Test.YtfhnfakjjfjohaaC26w
import Derived.Test.YtfhnfakjjfjohaaC26x
import Derived.WalkKit
import Derived.ProofKit
import Derived.OpenShut
import Derived.ShutString
import Derived.ChangeOld
import Derived.Below
import Derived.Carry
namespace Go.Proofs.Ytfhnfakjjfjohaa.grammarExpands
open Go.ChangeShapes Go.WideShapes Go.ChangeAt Go.RowKit
open Go.ChangeMaps (open_string shut_string)
set_option linter.unusedVariables false

theorem own : ownKnob Try.prog.godebug = none := by kernel_rfl
theorem laidOut : laidOutB Try.prog = true := by kernel_rfl

set_option maxRecDepth 100000 in
set_option maxHeartbeats 2000000 in
/-- The walk. -/
theorem walk (a0 : Int) (a1 : Option Addr) (len1 cap1 : Nat) (a2 : Option Addr) (len2 cap2 : Nat) (z2 : List Int) (w : World) (w0 : (Lit.int .i64 a0).wf = true) (w1 : (len1 ≤ cap1 ∧ cap1 ≤ 9223372036854775807) ∧ ∃ l, ArgT w a1 len1 l) (w2 : IsRow .i64 w a2 len2 cap2 z2) :
    Calls Try.prog 3 #[.int .i64 a0, .slice a1 len1 cap1, .slice a2 len2 cap2] w fun e w' => e = .returned (.bool true) ∧ Below w.heap.size w w' := by
  obtain ⟨hcap, l, hA⟩ := w1
  have HLT := Lib.hid (light_any a1 len1 cap1 l hcap.1 hcap.2 w hA)
  have HA := Lib.hid hA
  have HW2 := Lib.hid w2
  clear hA w2
  by_cases h250 : 250 < len2
  · go_enter Try.func3, Try.ntmps3
    go_wp2_with (first
      | (go_at_call 7; (with_reducible refine HLT.out.mono ?_); rintro e wB ⟨rl, rfl, hl, hB⟩; have AB := Lib.hid hB; clear hB hl)
      | (go_at_call 8; (with_reducible refine (known26 _).mono ?_); rintro e wC ⟨rfl, AC⟩))
    all_goals
      go_ret
      exact ⟨rfl, (AB.out.trans AC).below⟩
  go_enter Try.func3, Try.ntmps3
  go_wp2_with (first
    | (go_at_call 7; (with_reducible refine HLT.out.mono ?_); rintro e wB ⟨rl, rfl, hl, hB⟩; have AB := Lib.hid hB; have HLL := Lib.hid hl; clear hB hl)
    | (go_at_call 9; (with_reducible refine (made_any a2 len2 cap2 z2 wB (HW2.out.adds AB.out) (by omega)).mono ?_); rintro e wC ⟨vC, dC, rfl, hO, hd, hA⟩; have OC := Lib.hid hO; have DC := Lib.hid hd; have AC := Lib.hid hA; obtain ⟨adC, nC, cC, rfl, -, -, -, -, -⟩ := hO.form2; clear hO hd hA)
    | (go_at_call 8; (with_reducible refine (known26 _).mono ?_); rintro e wZ ⟨rfl, AZ⟩))
  rotate_left
  · go_ret
    exact ⟨rfl, (AB.out.trans AZ).below⟩
  have hrl : rl = true := by assumption
  have hl60 := HLL.out hrl
  have XA := Lib.hid ((HA.out.held (by omega)).adds (AB.out.trans AC.out))
  have XB := Lib.hid (OC.out.held (by have := DC.out; omega))
  have hn11 : nC ≤ 11 := by have := OC.out.len; have := DC.out; omega
  have hLL := Lib.hid XA.out.1
  have hLC := Lib.hid XB.out.1
  clear HLT HA HW2 OC DC HLL
  go_loopw [25] (fun i wr => ∃ k : Int, 0 ≤ k ∧ k ≤ 3 ∧ i = .int .i64 k ∧ Hid (Adds wC wr)) (fun i _ => (3 - intOf i).toNat)
  case atStart => exact ⟨0, by omega, by omega, rfl, Adds.refl _⟩
  case round =>
    obtain ⟨k, hk0, hk3, rfl, HR⟩ := hrel
    rename World => wR
    rcases (by omega : k = 3 ∨ k = 0 ∨ k = 1 ∨ k = 2) with rfl | hk
    · go_wp2_with (go_at_call 8; (with_reducible refine (known26 _).mono ?_); rintro e wZ ⟨rfl, AZ⟩)
      go_ret
      exact ⟨rfl, (((AB.out.trans AC.out).trans HR.out).trans AZ).below⟩
    · rcases hk with rfl | rfl | rfl
      all_goals
        go_wp2_with fail
        go_loopw [31] (fun i wr => ∃ j : Int, 0 ≤ j ∧ j ≤ 2 ∧ i = .int .i64 j ∧ Hid (Adds wC wr)) (fun i _ => (2 - intOf i).toNat)
        case atStart => exact ⟨0, by omega, by omega, rfl, HR⟩
        case round =>
          obtain ⟨j, hj0, hj2, rfl, HS⟩ := hrel
          rename World => wS
          rcases (by omega : j = 2 ∨ j = 0 ∨ j = 1) with rfl | rfl | rfl
          · go_wp2_with fail
            go_roundw
            case rel => exact ⟨_, by omega, by omega, rfl, HS⟩
            case measure => simp [intOf]
          · go_wp2_with (first
              | (go_at_call 11; (with_reducible refine (expand_any _ a1 len1 cap1 l (by omega) wS (XA.out.adds HS.out)).mono ?_); rintro e wD ⟨vD, rfl, hO, hA⟩; obtain ⟨adD, nD, cD, rfl, -, -, -, -, -⟩ := hO.form2; have OD := Lib.hid hO; have AD := Lib.hid hA; clear hO hA)
              | (go_at_call 12; (with_reducible refine (rexpand_any _ a1 len1 cap1 l (by omega) wD (XA.out.adds (HS.out.trans AD.out))).mono ?_); rintro e wE ⟨vE, rfl, hO, hA⟩; obtain ⟨adE, nE, cE, rfl, -, -, -, -, -⟩ := hO.form2; have AE := Lib.hid hA; have XD := Lib.hid ((OD.out.held (by have h1 := S.ex_len; have h2 := hLL.out; refine Nat.le_trans (h1 _ l) ?_; omega)).adds AE.out); have XE := Lib.hid (hO.held (by have h1 := S.ex_len; have h2 := hLL.out; refine Nat.le_trans (h1 _ l) ?_; omega)); obtain rfl : nE = nD := XE.out.1.symm.trans XD.out.1; clear hO hA)
              | (go_at_call 10; (with_reducible refine (spins_any adD adE nE cD cE _ wE XD.out XE.out).mono ?_); rintro e wF ⟨rfl, hA⟩; have AF := Lib.hid hA; clear hA))
            go_roundw
            case rel => exact ⟨_, by omega, by omega, rfl, ((HS.out.trans AD.out).trans AE.out).trans AF.out⟩
            case measure => simp [intOf]
          · go_wp2_with (first
              | (go_at_call 11; (with_reducible refine (expand_any _ adC nC cC dC (by omega) wS (XB.out.adds HS.out)).mono ?_); rintro e wD ⟨vD, rfl, hO, hA⟩; obtain ⟨adD, nD, cD, rfl, -, -, -, -, -⟩ := hO.form2; have OD := Lib.hid hO; have AD := Lib.hid hA; clear hO hA)
              | (go_at_call 12; (with_reducible refine (rexpand_any _ adC nC cC dC (by omega) wD (XB.out.adds (HS.out.trans AD.out))).mono ?_); rintro e wE ⟨vE, rfl, hO, hA⟩; obtain ⟨adE, nE, cE, rfl, -, -, -, -, -⟩ := hO.form2; have AE := Lib.hid hA; have XD := Lib.hid ((OD.out.held (by have h1 := S.ex_len; have h2 := hLC.out; refine Nat.le_trans (h1 _ dC) ?_; omega)).adds AE.out); have XE := Lib.hid (hO.held (by have h1 := S.ex_len; have h2 := hLC.out; refine Nat.le_trans (h1 _ dC) ?_; omega)); obtain rfl : nE = nD := XE.out.1.symm.trans XD.out.1; clear hO hA)
              | (go_at_call 10; (with_reducible refine (spins_any adD adE nE cD cE _ wE XD.out XE.out).mono ?_); rintro e wF ⟨rfl, hA⟩; have AF := Lib.hid hA; clear hA))
            go_roundw
            case rel => exact ⟨_, by omega, by omega, rfl, ((HS.out.trans AD.out).trans AE.out).trans AF.out⟩
            case measure => simp [intOf]

set_option maxRecDepth 100000 in
theorem lifted (os : Os) (started : os.Started) (H : Type) (enc : TypeId × Value → H) :
    ReturnsInHanded {} Try.checked os 3 .any (Rows.grammarExpandsSpec.pre6 enc Try.prog Try.f3 Rows.grammarExpandsRow.domain false) (Rows.grammarExpandsSpec.post enc Try.prog Try.f3 false true false false) := by
  refine returnsInHanded_of_change (C := Try.checked) own started (by kernel_rfl) Try.func3
    (ChangeSpec.witness6 (enc := enc) (C := Try.checked) false ⟨#[], #[.int .i64 0, .slice none 0 0, .slice none 0 0], []⟩ 8 (by kernel_rfl) (by kernel_rfl) (by kernel_rfl) (by kernel_rfl)) ?_
  intro W base args ds gs before hval0 hW hcnd _
  have hval : ∀ (j : Nat) t v, Try.f3.params[j]? = some t → args[j]? = some v → Value.okWide Try.prog W .any base t v := hval0
  have hW' := hW
  obtain ⟨p, q, hA0, hV, rfl, hfz, hnd⟩ := hW
  have hA : DataW.TrodAll enc Try.prog W 0 (fun _ => true) true Try.f3.params.toList args.toList ds p := hA0
  rw [Try.params3] at hA hval
  obtain ⟨v0, vs0, d0, ds0, p0, q0, hargs, rfl, rfl, h0, r0⟩ := trodAll_cons hA
  obtain ⟨v1, vs1, d1, ds1, p1, q1, rfl, rfl, rfl, h1, r1⟩ := trodAll_cons r0
  obtain ⟨v2, vs2, d2, ds2, p2, q2, rfl, rfl, rfl, h2, r2⟩ := trodAll_cons r1
  obtain ⟨rfl, rfl, rfl⟩ := trodAll_nil r2
  obtain rfl : args = #[v0, v1, v2] := by cases args; simp_all
  obtain ⟨rfl, rfl⟩ := trodVars_none hV
  have k0 := h0
  have lt0 : ∀ x ∈ p0, x.block < W.heap.size := by obtain ⟨m, hm⟩ := k0; exact DataW.trod_lt m _ _ _ hm
  obtain ⟨a0, rfl, -, -, w0⟩ := open_int Try.underlying3 (hval 0 3 v0 rfl rfl) h0
  have k1 := h1
  have lt1 : ∀ x ∈ p1, x.block < W.heap.size := by obtain ⟨m, hm⟩ := k1; exact DataW.trod_lt m _ _ _ hm
  obtain ⟨a1, len1, cap1, rfl⟩ := okWide_slice Try.underlying22 (hval 1 22 v1 rfl rfl)
  have w1 : (len1 ≤ cap1 ∧ cap1 ≤ 9223372036854775807) ∧ ∃ l, ArgT W a1 len1 l := by
    obtain ⟨fuel, hf⟩ := h1
    obtain ⟨x, l, c, hcs, hcap, hh⟩ := open_items hf
    simp [Value.cells] at hcs
    obtain ⟨rfl, rfl, rfl⟩ := hcs
    exact ⟨hcap, hh⟩
  have k2 := h2
  have lt2 : ∀ x ∈ p2, x.block < W.heap.size := by obtain ⟨m, hm⟩ := k2; exact DataW.trod_lt m _ _ _ hm
  obtain ⟨a2, len2, cap2, rfl⟩ := okWide_slice Try.underlying23 (hval 2 23 v2 rfl rfl)
  obtain ⟨z2, w2⟩ : ∃ zs, IsRow .i64 W a2 len2 cap2 zs := by
    obtain ⟨fuel, hf⟩ := h2
    rcases open_ints Try.underlying23 Try.underlying3 (by kernel_rfl) hf with ⟨hcs, _⟩ | ⟨x, l, c, zs, hcs, _, hl, hm, hz, _, hcell, hwz⟩
    · simp [Value.cells] at hcs
      obtain ⟨rfl, rfl, rfl⟩ := hcs
      exact ⟨[], .inl ⟨rfl, rfl, rfl, rfl⟩⟩
    · simp [Value.cells] at hcs
      obtain ⟨rfl, rfl, rfl⟩ := hcs
      exact ⟨zs, .inr ⟨_, rfl, hl, hm, by simpa using hz, hcell, hwz⟩⟩
  clear hA0 hval0
  refine (walk a0 a1 len1 cap1 a2 len2 cap2 z2 W w0 w1 w2).mono fun e W' ⟨he, bel⟩ => ?_
  subst he
  exact ⟨_, rfl, _, _, _, [], _, [], hW', trodAll_mk1 (shut_bool Try.underlying4 _), (trodAll_cons_mk (Below.trod laidOut (by kernel_rfl) (of_decide_eq_true (by kernel_rfl)) k0 bel lt0) (trodAll_cons_mk (Below.trod laidOut (by kernel_rfl) (of_decide_eq_true (by kernel_rfl)) k1 bel lt1) (trodAll_cons_mk (Below.trod laidOut (by kernel_rfl) (of_decide_eq_true (by kernel_rfl)) k2 bel lt2) trodAll_mk0))), rfl, bel.frame _, fun h => by cases h⟩

theorem over : Rows.grammarExpandsRow.holds Try.pinned (OpenSpec.ofChange Rows.grammarExpandsSpec) :=
  OpenClaim.holds_of_wide 3 Try.f3 rfl rfl rfl rfl rfl rfl rfl ⟨rfl, rfl, rfl, rfl, rfl⟩ rfl rfl rfl rfl rfl (by kernel_rfl) Try.func3 (by kernel_rfl)
    (of_decide_eq_true (by kernel_rfl)) (by unfold Func.isWrapper; first | (rw [if_pos (by decide +kernel)]; kernel_rfl) | (rw [if_neg (by decide +kernel)]; exact ⟨rfl, rfl⟩))
    (fun os started H enc _ => lifted os started H enc)

/-- The statement. -/
theorem proved : Rows.GrammarExpandsSaid := over
#print axioms proved
end Go.Proofs.Ytfhnfakjjfjohaa.grammarExpands
