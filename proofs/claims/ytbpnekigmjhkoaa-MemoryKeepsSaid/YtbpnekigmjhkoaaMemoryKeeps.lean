/- The statement MemoryKeepsSaid of package tstatelaw12: for every input the law returns true, and its arguments read as before. No condition. -/
import Derived.Test.YtbpnekigmjhkoaaRows
import Derived.Test.YtbpnekigmjhkoaaM1
import Derived.Test.YtbpnekigmjhkoaaCM
import Derived.Test.YtbpnekigmjhkoaaC12s
import Derived.WalkKit
import Derived.ProofKit
import Derived.OpenShut
import Derived.ShutString
import Derived.ChangeOld
import Derived.Below
import Derived.Carry
namespace Go.Proofs.Ytbpnekigmjhkoaa.memoryKeeps
open Go.ChangeShapes Go.WideShapes Go.ChangeAt Go.RowKit
open Go.ChangeMaps (open_string shut_string)
set_option linter.unusedVariables false

theorem own : ownKnob Try.prog.godebug = none := by kernel_rfl
theorem laidOut : laidOutB Try.prog = true := by kernel_rfl

set_option maxHeartbeats 1000000 in
/-- The walk. -/
theorem walk (a0 : Option Addr) (len0 cap0 : Nat) (z0 : List Int) (a1 : Int) (a2 : Int) (a3 : Int) (w : World) (w0 : IsRow .i64 w a0 len0 cap0 z0) (w1 : (Lit.int .u16 a1).wf = true) (w2 : (Lit.int .u16 a2).wf = true) (w3 : (Lit.int .u8 a3).wf = true) :
    Calls Try.prog 6 #[.slice a0 len0 cap0, .int .u16 a1, .int .u16 a2, .int .u8 a3] w fun e w' => e = .returned (.bool true) ∧ Below w.heap.size w w' := by
  by_cases hlt : 100 < len0
  · go_enter Try.func6, Try.ntmps6
    go_wp2_with (go_at_call 8; refine (known12 _).mono ?_; rintro e w' ⟨rfl, hK⟩)
    go_ret
    exact ⟨rfl, hK.below⟩
  have hle : len0 ≤ 100 := by omega
  have hM := Lib.hid (made_any a0 len0 cap0 z0 w w0 hle)
  clear w0
  go_enter Try.func6, Try.ntmps6
  go_wp2_with (first
    | (go_at_call 10; (with_reducible refine (from_any a0 len0 cap0 w).mono ?_); rintro e w1 ⟨rfl, rfl⟩)
    | (go_at_call 9; (with_reducible refine hM.out.mono ?_); rintro e w2 ⟨ad, n, c, d, rfl, H2, hn2, hc2, hz2, A2⟩; have hn2' := hn2.out)
    | (go_at_call 18; (with_reducible refine (put_held ad n c d a1 a3 w2 H2.out (by omega)).mono ?_); rintro e w3 ⟨ad3, n3, c3, rfl, H3, hn3, hc3, A3⟩; have hn3' := hn3.out)
    | (at_builtin; refine wpList_appB rfl _ _ rfl w3.heap.size _ _ rfl (Owns.lit2 w3 _ _ _ _) ad n c d rfl ((H2.out.adds A3).adds ((Adds.refl _).alloc _)) hz2.out (by simp; omega) (by simp) ?_; intro v5 w5 hO5 hG5; have A5 : Adds w3 w5 := ((Adds.refl w3).alloc _).grown hG5 (Owns.lit2 w3 _ _ _ _); clear hG5; obtain ⟨ad5, n5, c5, rfl, hn5, hc5, hm5, _⟩ := hO5.form2; have hb5 := hn5.out; obtain ⟨D5, H5⟩ : ∃ D5, Hid (Held w5 ad5 n5 D5) := ⟨_, Lib.hid (hO5.held (by have := H2.out.1; simp; omega))⟩; have hn5' : n5 ≤ 14 := (by have := H2.out.1; simp at hb5; omega); clear hb5 hO5 hn5))
  have HG := Lib.hid (H3.out.adds A5)
  have HM := Lib.hid ((H2.out.adds A3).adds A5)
  have AA := Lib.hid ((A2.trans A3).trans A5)
  go_loopw [33] (fun i wr => ∃ k : Nat, k ≤ n5 ∧ i = .int .i64 k ∧ Adds w5 wr) (fun i _ => n5 - (intOf i).toNat)
  case atStart => exact ⟨0, Nat.zero_le _, rfl, Adds.refl _⟩
  case round =>
    obtain ⟨k, hk, rfl, ⟨⟨n1, os1⟩, rfl⟩⟩ := hrel
    by_cases hlt5 : k < n5
    · obtain ⟨b5, o5, rfl, hb5, hat⟩ := H5.out.2.2 (by omega)
      obtain ⟨x, u, hx⟩ := get_pair (d := D5) (k := k) (by have := H5.out.1; omega)
      obtain ⟨h1, h2⟩ := hat k x u hx
      have hltz : (k : Int) < (n5 : Int) := by omega
      clear hat hx
      by_cases hxa : x = a1
      · have hd1 : (x == a1) = true := by simpa using hxa
        have hd2 : decide (x = a1) = true := decide_eq_true hxa
        go_wp2_with fail
        refine wp_region_adds (by kernel_rfl) (by kernel_rfl) ?_
        repeat (go_big_quiet_step (fail))
        refine wpQuiet_nil ?_
        intro _ hw1
        obtain ⟨⟨nq, osq⟩, hw2⟩ := hw1
        subst hw2
        go_wp2_with fail
        go_roundw
        case rel => exact ⟨k + 1, by omega, by go_num, by (repeat (first | with_reducible exact Adds.refl _ | with_reducible apply Adds.drew | with_reducible apply Adds.drewN | with_reducible apply Adds.alloc | with_reducible apply Adds.more | (with_reducible refine Adds.setCell ?_ ?_ _) | (focus (simp [go_sem]; done)) | (focus (simp [go_sem]; omega))))⟩
        case measure => simp [intOf]; omega
      · have hd1 : (x == a1) = false := by simpa using hxa
        have hd2 : (x != a1) = true := by simpa using hxa
        go_wp2_with fail
        refine wp_region_adds (by kernel_rfl) (by kernel_rfl) ?_
        repeat (go_big_quiet_step (first | (go_at_call 14; with_reducible exact calls_adds (getput_ne ad3 n3 c3 d a1 a3 x _ (HG.out.adds (by (repeat (first | with_reducible exact Adds.refl _ | with_reducible apply Adds.drew | with_reducible apply Adds.drewN | with_reducible apply Adds.alloc | with_reducible apply Adds.more | (with_reducible refine Adds.setCell ?_ ?_ _) | (focus (simp [go_sem]; done)) | (focus (simp [go_sem]; omega)))))) hxa)) | (go_at_call 14; with_reducible exact calls_adds (get_any ad n c d x _ (HM.out.adds (by (repeat (first | with_reducible exact Adds.refl _ | with_reducible apply Adds.drew | with_reducible apply Adds.drewN | with_reducible apply Adds.alloc | with_reducible apply Adds.more | (with_reducible refine Adds.setCell ?_ ?_ _) | (focus (simp [go_sem]; done)) | (focus (simp [go_sem]; omega))))))))))
        refine wpQuiet_nil ?_
        intro _ hw1
        obtain ⟨⟨nq, osq⟩, hw2⟩ := hw1
        subst hw2
        go_wp2_with fail
        go_roundw
        case rel => exact ⟨k + 1, by omega, by go_num, by (repeat (first | with_reducible exact Adds.refl _ | with_reducible apply Adds.drew | with_reducible apply Adds.drewN | with_reducible apply Adds.alloc | with_reducible apply Adds.more | (with_reducible refine Adds.setCell ?_ ?_ _) | (focus (simp [go_sem]; done)) | (focus (simp [go_sem]; omega))))⟩
        case measure => simp [intOf]; omega
    · have hltz : ¬ (k : Int) < (n5 : Int) := by omega
      go_wp2_with (first
        | (go_at_call 14; refine (getput_eq ad3 n3 c3 d a1 a3 _ (HG.out.adds (by (repeat (first | with_reducible exact Adds.refl _ | with_reducible apply Adds.drew | with_reducible apply Adds.drewN | with_reducible apply Adds.alloc | with_reducible apply Adds.more | (with_reducible refine Adds.setCell ?_ ?_ _) | (focus (simp [go_sem]; done)) | (focus (simp [go_sem]; omega))))))).mono ?_; rintro e w6 ⟨rfl, A6⟩)
        | (go_at_call 12; refine (valput ad3 n3 c3 d a1 a3 w6 (HG.out.adds (Adds.trans (by (repeat (first | with_reducible exact Adds.refl _ | with_reducible apply Adds.drew | with_reducible apply Adds.drewN | with_reducible apply Adds.alloc | with_reducible apply Adds.more | (with_reducible refine Adds.setCell ?_ ?_ _) | (focus (simp [go_sem]; done)) | (focus (simp [go_sem]; omega))))) A6))).mono ?_; rintro e w7 ⟨rfl, A7⟩)
        | (go_at_call 8; refine (known12 w7).mono ?_; rintro e w8 ⟨rfl, A8⟩))
      go_ret
      exact ⟨rfl, (AA.out.trans ((Adds.trans (by (repeat (first | with_reducible exact Adds.refl _ | with_reducible apply Adds.drew | with_reducible apply Adds.drewN | with_reducible apply Adds.alloc | with_reducible apply Adds.more | (with_reducible refine Adds.setCell ?_ ?_ _) | (focus (simp [go_sem]; done)) | (focus (simp [go_sem]; omega))))) A6).trans (A7.trans A8))).below⟩

set_option maxRecDepth 100000 in
theorem lifted (os : Os) (started : os.Started) (H : Type) (enc : TypeId × Value → H) :
    ReturnsInHanded {} Try.checked os 6 .any (Rows.memoryKeepsSpec.pre6 enc Try.prog Try.f6 Rows.memoryKeepsRow.domain false) (Rows.memoryKeepsSpec.post enc Try.prog Try.f6 false true false false) := by
  refine returnsInHanded_of_change (C := Try.checked) own started (by kernel_rfl) Try.func6
    (ChangeSpec.witness6 (enc := enc) (C := Try.checked) false ⟨#[], #[.slice none 0 0, .int .u16 0, .int .u16 0, .int .u8 0], []⟩ 8 (by kernel_rfl) (by kernel_rfl) (by kernel_rfl) (by kernel_rfl)) ?_
  intro W base args ds gs before hval0 hW hcnd _
  have hval : ∀ (j : Nat) t v, Try.f6.params[j]? = some t → args[j]? = some v → Value.okWide Try.prog W .any base t v := hval0
  have hW' := hW
  obtain ⟨p, q, hA0, hV, rfl, hfz, hnd⟩ := hW
  have hA : DataW.TrodAll enc Try.prog W 0 (fun _ => true) true Try.f6.params.toList args.toList ds p := hA0
  rw [Try.params6] at hA hval
  obtain ⟨v0, vs0, d0, ds0, p0, q0, hargs, rfl, rfl, h0, r0⟩ := trodAll_cons hA
  obtain ⟨v1, vs1, d1, ds1, p1, q1, rfl, rfl, rfl, h1, r1⟩ := trodAll_cons r0
  obtain ⟨v2, vs2, d2, ds2, p2, q2, rfl, rfl, rfl, h2, r2⟩ := trodAll_cons r1
  obtain ⟨v3, vs3, d3, ds3, p3, q3, rfl, rfl, rfl, h3, r3⟩ := trodAll_cons r2
  obtain ⟨rfl, rfl, rfl⟩ := trodAll_nil r3
  obtain rfl : args = #[v0, v1, v2, v3] := by cases args; simp_all
  obtain ⟨rfl, rfl⟩ := trodVars_none hV
  have k0 := h0
  have lt0 : ∀ x ∈ p0, x.block < W.heap.size := by obtain ⟨m, hm⟩ := k0; exact DataW.trod_lt m _ _ _ hm
  obtain ⟨a0, len0, cap0, rfl⟩ := okWide_slice Try.underlying23 (hval 0 23 v0 rfl rfl)
  obtain ⟨z0, w0⟩ : ∃ zs, IsRow .i64 W a0 len0 cap0 zs := by
    obtain ⟨fuel, hf⟩ := h0
    rcases open_ints Try.underlying23 Try.underlying3 (by kernel_rfl) hf with ⟨hcs, _⟩ | ⟨x, l, c, zs, hcs, _, hl, hm, hz, _, hcell, hwz⟩
    · simp [Value.cells] at hcs
      obtain ⟨rfl, rfl, rfl⟩ := hcs
      exact ⟨[], .inl ⟨rfl, rfl, rfl, rfl⟩⟩
    · simp [Value.cells] at hcs
      obtain ⟨rfl, rfl, rfl⟩ := hcs
      exact ⟨zs, .inr ⟨_, rfl, hl, hm, by simpa using hz, hcell, hwz⟩⟩
  have k1 := h1
  have lt1 : ∀ x ∈ p1, x.block < W.heap.size := by obtain ⟨m, hm⟩ := k1; exact DataW.trod_lt m _ _ _ hm
  obtain ⟨a1, rfl, -, -, w1⟩ := open_int Try.underlying24 (hval 1 24 v1 rfl rfl) h1
  have k2 := h2
  have lt2 : ∀ x ∈ p2, x.block < W.heap.size := by obtain ⟨m, hm⟩ := k2; exact DataW.trod_lt m _ _ _ hm
  obtain ⟨a2, rfl, -, -, w2⟩ := open_int Try.underlying24 (hval 2 24 v2 rfl rfl) h2
  have k3 := h3
  have lt3 : ∀ x ∈ p3, x.block < W.heap.size := by obtain ⟨m, hm⟩ := k3; exact DataW.trod_lt m _ _ _ hm
  obtain ⟨a3, rfl, -, -, w3⟩ := open_int Try.underlying5 (hval 3 5 v3 rfl rfl) h3
  clear hA0 hval0
  refine (walk a0 len0 cap0 z0 a1 a2 a3 W w0 w1 w2 w3).mono fun e W' ⟨he, bel⟩ => ?_
  subst he
  exact ⟨_, rfl, _, _, _, [], _, [], hW', trodAll_mk1 (shut_bool Try.underlying4 _), (trodAll_cons_mk (Below.trod laidOut (by kernel_rfl) (of_decide_eq_true (by kernel_rfl)) k0 bel lt0) (trodAll_cons_mk (Below.trod laidOut (by kernel_rfl) (of_decide_eq_true (by kernel_rfl)) k1 bel lt1) (trodAll_cons_mk (Below.trod laidOut (by kernel_rfl) (of_decide_eq_true (by kernel_rfl)) k2 bel lt2) (trodAll_cons_mk (Below.trod laidOut (by kernel_rfl) (of_decide_eq_true (by kernel_rfl)) k3 bel lt3) trodAll_mk0)))), rfl, bel.frame _, fun h => by cases h⟩

theorem over : Rows.memoryKeepsRow.holds Try.pinned (OpenSpec.ofChange Rows.memoryKeepsSpec) :=
  OpenClaim.holds_of_wide 6 Try.f6 rfl rfl rfl rfl rfl rfl rfl ⟨rfl, rfl, rfl, rfl, rfl⟩ rfl rfl rfl rfl rfl (by kernel_rfl) Try.func6 (by kernel_rfl)
    (of_decide_eq_true (by kernel_rfl)) (by unfold Func.isWrapper; first | (rw [if_pos (by decide +kernel)]; kernel_rfl) | (rw [if_neg (by decide +kernel)]; exact ⟨rfl, rfl⟩))
    (fun os started H enc _ => lifted os started H enc)

/-- The statement. -/
theorem proved : Rows.MemoryKeepsSaid := over
#print axioms proved
end Go.Proofs.Ytbpnekigmjhkoaa.memoryKeeps
