/- The statement PriorityServesSaid of package tstatelaw21: for every input the law returns true, and its arguments read as before. No condition. -/
import Derived.Test.YtebhgfhphjajmaaRows
import Derived.Test.YtebhgfhphjajmaaM1
import Derived.Test.YtebhgfhphjajmaaC21
import Derived.Test.YtebhgfhphjajmaaCM
import Derived.WalkKit
import Derived.ProofKit
import Derived.OpenShut
import Derived.ShutString
import Derived.ChangeOld
import Derived.Below
import Derived.Carry
namespace Go.Proofs.Ytebhgfhphjajmaa.priorityServes
open Go.ChangeShapes Go.WideShapes Go.ChangeAt Go.RowKit
open Go.ChangeMaps (open_string shut_string)
set_option linter.unusedVariables false

theorem own : ownKnob Try.prog.godebug = none := by kernel_rfl
theorem laidOut : laidOutB Try.prog = true := by kernel_rfl

set_option maxRecDepth 100000 in
set_option maxHeartbeats 2000000 in
/-- The walk. -/
theorem walk (a0 : Int) (a1 : Int) (a2 : Int) (a3 : Int) (a4 : Bool) (w : World) (w0 : (Lit.int .u8 a0).wf = true) (w1 : (Lit.int .u8 a1).wf = true) (w2 : (Lit.int .u8 a2).wf = true) (w3 : (Lit.int .i64 a3).wf = true) :
    Calls Try.prog 6 #[.int .u8 a0, .int .u8 a1, .int .u8 a2, .int .i64 a3, .bool a4] w fun e w' => e = .returned (.bool true) ∧ Below w.heap.size w w' := by
  have b0 := bounds_u8 w0
  have b1 := bounds_u8 w1
  have b2 := bounds_u8 w2
  have bk := S.plc_bd a3 8 (by omega)
  generalize hk : S.plc a3 8 = k at bk
  have hs := S.pk_spec (bits .andNot .u8 a0 a1) (S.blk a1 a2 a4) k
  have hB : ∀ i : Int, i < 8 → S.onB (S.blk a1 a2 a4) i = (S.onB a2 i && !(a4 && S.onB a1 i)) := fun i hi => S.onB_blk a1 a2 a4 i b1.1 (by omega) b2.1 (by omega) hi
  have bq := S.andNot_bd a0 a1
  have hp := S.hi_pos (bits .andNot .u8 a0 a1) k bq.1 bq.2
  have hx : Hid _ := @rfl _ (S.pk (bits .andNot .u8 a0 a1) (S.blk a1 a2 a4) k)
  generalize hX : S.pk (bits .andNot .u8 a0 a1) (S.blk a1 a2 a4) k = x at hs hx
  clear hx
  have HX : Hid _ := hX
  clear hX
  by_cases h0 : 0 ≤ x
  · obtain ⟨x0, x1, xq, xl, xb⟩ : 0 ≤ x ∧ x < 8 ∧ S.onB (bits .andNot .u8 a0 a1) x = true ∧ (∀ i : Int, 0 ≤ i → i < 8 → S.onB (bits .andNot .u8 a0 a1) i = true → S.rk x k ≤ S.rk i k) ∧ ∀ i : Int, 0 ≤ i → i < 8 → S.onB (S.blk a1 a2 a4) i = true → S.rk x k < S.rk i k := by
      rcases hs with ⟨h1, _⟩ | h1
      · omega
      · exact h1
    have vx := S.on_one bq.1 bq.2 xq
    have XL : Hid _ := xl
    have XB : Hid _ := xb
    have HB : Hid _ := hB
    clear hs hp xl xb xq hB
    have g1 : decide (x < -1) = false := decide_eq_false (by omega)
    have g2 : decide (7 < x) = false := decide_eq_false (by omega)
    have g3 : decide (0 ≤ x) = true := decide_eq_true h0
    have g4 : decide (x < 0) = false := decide_eq_false (by omega)
    go_enter Try.func6, Try.ntmps6
    go_wp2_with (first | (go_at_call 8; refine (mplace_any _ _ (by decide) (by decide) _).mono ?_; rintro e w' ⟨rfl, rfl⟩; rw [hk]) | (go_at_call 14; refine (pr_pick _ _ _ _ _ (by omega) (by omega) _).mono ?_; rintro e w' ⟨rfl, rfl⟩; rw [HX.out]))
    go_loopw [13] (fun i wr => ∃ j : Nat, j ≤ 8 ∧ i = .int .i64 j ∧ Adds w wr) (fun i _ => 8 - (intOf i).toNat)
    case atStart => exact ⟨0, by omega, rfl, by (repeat (first | with_reducible exact Adds.refl _ | with_reducible apply Adds.drew | with_reducible apply Adds.drewN | with_reducible apply Adds.alloc | with_reducible apply Adds.more | (with_reducible refine Adds.setCell ?_ ?_ _) | (focus (simp [go_sem]; done)) | (focus (simp [go_sem]; omega))))⟩
    case round =>
      obtain ⟨j, hj, rfl, ⟨⟨n0, os0⟩, rfl⟩⟩ := hrel
      by_cases hj8 : j = 8
      · subst hj8
        clear vx
        go_wp2_with (first | (go_at_call 13; refine (known21_any _).mono ?_; rintro e w' ⟨rfl, rfl⟩))
        go_ret
        exact ⟨rfl, Adds.below (by (repeat (first | with_reducible exact Adds.refl _ | with_reducible apply Adds.drew | with_reducible apply Adds.drewN | with_reducible apply Adds.alloc | with_reducible apply Adds.more | (with_reducible refine Adds.setCell ?_ ?_ _) | (focus (simp [go_sem]; done)) | (focus (simp [go_sem]; omega)))))⟩
      · have j0 : (0 : Int) ≤ j := by omega
        have j1 : (j : Int) < 8 := by omega
        have rq := XL.out j j0 j1
        have rb := XB.out j j0 j1
        rw [HB.out j j1] at rb
        cases hq : S.onB (bits .andNot .u8 a0 a1) j <;> cases h2 : S.onB a2 j <;> cases h1 : S.onB a1 j <;> cases a4
        all_goals
          first
          | (have e0 := S.on_one bq.1 bq.2 hq)
          | (have e0 := S.on_no bq.1 bq.2 hq)
          first
          | (have e2 := S.on_one b2.1 (by omega) h2)
          | (have e2 := S.on_no b2.1 (by omega) h2)
          first
          | (have e1 := S.on_one b1.1 (by omega) h1)
          | (have e1 := S.on_no b1.1 (by omega) h1)
          rw [Int.toNat_natCast] at e0 e1 e2
          rw [hq] at rq
          rw [h1, h2] at rb
          have d1 : S.onB (bits .andNot .u8 a0 a1) j = true → decide (S.rk j k < S.rk x k) = false := fun h => decide_eq_false (by rw [hq] at h; have := rq h; omega)
          have d2 : (S.onB a2 j && !(_ && S.onB a1 j)) = true → decide (S.rk j k ≤ S.rk x k) = false := fun h => decide_eq_false (by rw [h1, h2] at h; have := rb h; omega)
          rw [hq] at d1
          rw [h1, h2] at d2
          first
          | (have d1 := d1 rfl)
          | (clear d1)
          first
          | (have d2 := d2 rfl)
          | (clear d2)
          clear hq h1 h2 rq rb vx
          go_wp2_with (first | (go_at_call 10; refine (rpr_rank _ _ _).mono ?_; rintro e w' ⟨rfl, rfl⟩))
          go_roundw
          case rel => exact ⟨j + 1, by omega, by go_num, by (repeat (first | with_reducible exact Adds.refl _ | with_reducible apply Adds.drew | with_reducible apply Adds.drewN | with_reducible apply Adds.alloc | with_reducible apply Adds.more | (with_reducible refine Adds.setCell ?_ ?_ _) | (focus (simp [go_sem]; done)) | (focus (simp [go_sem]; omega))))⟩
          case measure => simp [intOf] <;> omega
  · have hs' : x = -1 ∧ (S.hi (bits .andNot .u8 a0 a1) k = -1 ∨ (0 ≤ S.hi (bits .andNot .u8 a0 a1) k ∧ ∃ i : Int, 0 ≤ i ∧ i < 8 ∧ S.onB (S.blk a1 a2 a4) i = true ∧ S.rk i k ≤ S.rk (S.hi (bits .andNot .u8 a0 a1) k) k)) := by
      rcases hs with h1 | ⟨h1, _⟩
      · exact h1
      · omega
    obtain ⟨rfl, hE⟩ := hs'
    have HE : Hid _ := hE
    have HB : Hid _ := hB
    clear hs h0 hE hB
    by_cases hz : bits .andNot .u8 a0 a1 = 0
    · clear hp bq
      go_enter Try.func6, Try.ntmps6
      go_wp2_with (first | (go_at_call 8; refine (mplace_any _ _ (by decide) (by decide) _).mono ?_; rintro e w' ⟨rfl, rfl⟩; rw [hk]) | (go_at_call 14; refine (pr_pick _ _ _ _ _ (by omega) (by omega) _).mono ?_; rintro e w' ⟨rfl, rfl⟩; rw [HX.out]))
      go_loopw [13] (fun i wr => ∃ j : Nat, j ≤ 8 ∧ i = .int .i64 j ∧ Adds w wr) (fun i _ => 8 - (intOf i).toNat)
      case atStart => exact ⟨0, by omega, rfl, by (repeat (first | with_reducible exact Adds.refl _ | with_reducible apply Adds.drew | with_reducible apply Adds.drewN | with_reducible apply Adds.alloc | with_reducible apply Adds.more | (with_reducible refine Adds.setCell ?_ ?_ _) | (focus (simp [go_sem]; done)) | (focus (simp [go_sem]; omega))))⟩
      case round =>
        obtain ⟨j, hj, rfl, ⟨⟨n0, os0⟩, rfl⟩⟩ := hrel
        by_cases hj8 : j = 8
        · subst hj8
          go_wp2_with (first | (go_at_call 13; refine (known21_any _).mono ?_; rintro e w' ⟨rfl, rfl⟩))
          go_ret
          exact ⟨rfl, Adds.below (by (repeat (first | with_reducible exact Adds.refl _ | with_reducible apply Adds.drew | with_reducible apply Adds.drewN | with_reducible apply Adds.alloc | with_reducible apply Adds.more | (with_reducible refine Adds.setCell ?_ ?_ _) | (focus (simp [go_sem]; done)) | (focus (simp [go_sem]; omega)))))⟩
        · have j0 : (0 : Int) ≤ j := by omega
          have j1 : (j : Int) < 8 := by omega
          cases a4
          all_goals go_wp2_with fail
          all_goals go_roundw
          all_goals first | exact ⟨j + 1, by omega, by go_num, by (repeat (first | with_reducible exact Adds.refl _ | with_reducible apply Adds.drew | with_reducible apply Adds.drewN | with_reducible apply Adds.alloc | with_reducible apply Adds.more | (with_reducible refine Adds.setCell ?_ ?_ _) | (focus (simp [go_sem]; done)) | (focus (simp [go_sem]; omega))))⟩ | (simp [intOf] <;> omega)
    · have hf0 := hp hz
      have hf : Hid _ := @rfl _ (S.hi (bits .andNot .u8 a0 a1) k)
      generalize hF : S.hi (bits .andNot .u8 a0 a1) k = f at hf hf0 HE
      clear hf hp
      have HF : Hid _ := hF
      clear hF
      go_enter Try.func6, Try.ntmps6
      go_wp2_with (first | (go_at_call 8; refine (mplace_any _ _ (by decide) (by decide) _).mono ?_; rintro e w' ⟨rfl, rfl⟩; rw [hk]) | (go_at_call 14; refine (pr_pick _ _ _ _ _ (by omega) (by omega) _).mono ?_; rintro e w' ⟨rfl, rfl⟩; rw [HX.out]))
      go_loopw [13] (fun i wr => ∃ j : Nat, j ≤ 8 ∧ i = .int .i64 j ∧ Adds w wr) (fun i _ => 8 - (intOf i).toNat)
      case atStart => exact ⟨0, by omega, rfl, by (repeat (first | with_reducible exact Adds.refl _ | with_reducible apply Adds.drew | with_reducible apply Adds.drewN | with_reducible apply Adds.alloc | with_reducible apply Adds.more | (with_reducible refine Adds.setCell ?_ ?_ _) | (focus (simp [go_sem]; done)) | (focus (simp [go_sem]; omega))))⟩
      case round =>
        obtain ⟨j, hj, rfl, ⟨⟨n0, os0⟩, rfl⟩⟩ := hrel
        by_cases hj8 : j = 8
        · subst hj8
          go_wp2_with (first | (go_at_call 12; refine (rpr_hi _ _ (by omega) (by omega) _).mono ?_; rintro e w' ⟨rfl, rfl⟩; rw [HF.out]))
          go_loopw [16] (fun i wr => ∃ j : Nat, j ≤ 8 ∧ i = .int .i64 j ∧ Hid (∀ t : Int, 0 ≤ t → t < j → S.onB (S.blk a1 a2 a4) t = true → S.rk f k < S.rk t k) ∧ Adds w wr) (fun i _ => 8 - (intOf i).toNat)
          case atStart => exact ⟨0, by omega, rfl, fun t t0 t1 => absurd t1 (by omega), by (repeat (first | with_reducible exact Adds.refl _ | with_reducible apply Adds.drew | with_reducible apply Adds.drewN | with_reducible apply Adds.alloc | with_reducible apply Adds.more | (with_reducible refine Adds.setCell ?_ ?_ _) | (focus (simp [go_sem]; done)) | (focus (simp [go_sem]; omega))))⟩
          case round =>
            obtain ⟨j, hj, rfl, HT, ⟨⟨n1, os1⟩, rfl⟩⟩ := hrel
            by_cases hj8 : j = 8
            · exfalso
              subst hj8
              rcases HE.out with h | ⟨_, i, i0, i1, ho, hl⟩
              · omega
              · have := HT.out i i0 i1 ho
                omega
            · have j0 : (0 : Int) ≤ j := by omega
              have j1 : (j : Int) < 8 := by omega
              have hb := HB.out j j1
              have HN : Hid ((S.onB (S.blk a1 a2 a4) j = true → S.rk f k < S.rk j k) → ∀ t : Int, 0 ≤ t → t < ((j + 1 : Nat) : Int) → S.onB (S.blk a1 a2 a4) t = true → S.rk f k < S.rk t k) := fun hj t t0 t1 ho => by
                rcases (by omega : t < j ∨ t = j) with h | h
                · exact HT.out t t0 h ho
                · subst h; exact hj ho
              by_cases hl : S.rk f k < S.rk j k
              all_goals
                cases h2 : S.onB a2 j <;> cases h1 : S.onB a1 j <;> cases a4
              all_goals
                first
                | (have e2 := S.on_one b2.1 (by omega) h2)
                | (have e2 := S.on_no b2.1 (by omega) h2)
                first
                | (have e1 := S.on_one b1.1 (by omega) h1)
                | (have e1 := S.on_no b1.1 (by omega) h1)
                rw [Int.toNat_natCast] at e1 e2
                have d1 : decide (S.rk j k ≤ S.rk f k) = decide (S.rk j k ≤ S.rk f k) := rfl
                first
                | rw [decide_eq_true (by omega : S.rk j k ≤ S.rk f k)] at d1
                | rw [decide_eq_false (by omega : ¬ S.rk j k ≤ S.rk f k)] at d1
                rw [h1, h2] at hb
                have HH : Hid (S.onB (S.blk a1 a2 _) j = _) := hb
                have HL : Hid _ := hl
                clear hb hl h1 h2
                go_wp2_with (first | (go_at_call 10; refine (rpr_rank _ _ _).mono ?_; rintro e w' ⟨rfl, rfl⟩) | (go_at_call 13; refine (known21_any _).mono ?_; rintro e w' ⟨rfl, rfl⟩))
              all_goals first | (go_ret; exact ⟨rfl, Adds.below (by (repeat (first | with_reducible exact Adds.refl _ | with_reducible apply Adds.drew | with_reducible apply Adds.drewN | with_reducible apply Adds.alloc | with_reducible apply Adds.more | (with_reducible refine Adds.setCell ?_ ?_ _) | (focus (simp [go_sem]; done)) | (focus (simp [go_sem]; omega)))))⟩) | go_roundw
              all_goals first | exact ⟨j + 1, by omega, by go_num, HN.out (fun ho => by first | exact HL.out | (rw [HH.out] at ho; simp at ho)), by (repeat (first | with_reducible exact Adds.refl _ | with_reducible apply Adds.drew | with_reducible apply Adds.drewN | with_reducible apply Adds.alloc | with_reducible apply Adds.more | (with_reducible refine Adds.setCell ?_ ?_ _) | (focus (simp [go_sem]; done)) | (focus (simp [go_sem]; omega))))⟩ | (simp [intOf] <;> omega)
        · have j0 : (0 : Int) ≤ j := by omega
          have j1 : (j : Int) < 8 := by omega
          cases a4
          all_goals go_wp2_with fail
          all_goals go_roundw
          all_goals first | exact ⟨j + 1, by omega, by go_num, by (repeat (first | with_reducible exact Adds.refl _ | with_reducible apply Adds.drew | with_reducible apply Adds.drewN | with_reducible apply Adds.alloc | with_reducible apply Adds.more | (with_reducible refine Adds.setCell ?_ ?_ _) | (focus (simp [go_sem]; done)) | (focus (simp [go_sem]; omega))))⟩ | (simp [intOf] <;> omega)

set_option maxRecDepth 100000 in
theorem lifted (os : Os) (started : os.Started) (H : Type) (enc : TypeId × Value → H) :
    ReturnsInHanded {} Try.checked os 6 .any (Rows.priorityServesSpec.pre6 enc Try.prog Try.f6 Rows.priorityServesRow.domain false) (Rows.priorityServesSpec.post enc Try.prog Try.f6 false true false false) := by
  refine returnsInHanded_of_change (C := Try.checked) own started (by kernel_rfl) Try.func6
    (ChangeSpec.witness6 (enc := enc) (C := Try.checked) false ⟨#[], #[.int .u8 0, .int .u8 0, .int .u8 0, .int .i64 0, .bool false], []⟩ 8 (by kernel_rfl) (by kernel_rfl) (by kernel_rfl) (by kernel_rfl)) ?_
  intro W base args ds gs before hval0 hW hcnd _
  have hval : ∀ (j : Nat) t v, Try.f6.params[j]? = some t → args[j]? = some v → Value.okWide Try.prog W .any base t v := hval0
  have hW' := hW
  obtain ⟨p, q, hA0, hV, rfl, hfz, hnd⟩ := hW
  have hA : DataW.TrodAll enc Try.prog W 0 (fun _ => true) true Try.f6.params.toList args.toList ds p := hA0
  rw [Try.params6] at hA hval
  obtain ⟨v0, vs0, d0, ds0, p0, q0, hargs, rfl, rfl, h0, r0⟩ := trodAll_cons hA
  obtain ⟨v1, vs1, d1, ds1, p1, q1, rfl, rfl, rfl, h1, r1⟩ := trodAll_cons r0
  obtain ⟨v2, vs2, d2, ds2, p2, q2, rfl, rfl, rfl, h2, r2⟩ := trodAll_cons r1
  obtain ⟨v3, vs3, d3, ds3, p3, q3, rfl, rfl, rfl, h3, r3⟩ := trodAll_cons r2
  obtain ⟨v4, vs4, d4, ds4, p4, q4, rfl, rfl, rfl, h4, r4⟩ := trodAll_cons r3
  obtain ⟨rfl, rfl, rfl⟩ := trodAll_nil r4
  obtain rfl : args = #[v0, v1, v2, v3, v4] := by cases args; simp_all
  obtain ⟨rfl, rfl⟩ := trodVars_none hV
  have k0 := h0
  have lt0 : ∀ x ∈ p0, x.block < W.heap.size := by obtain ⟨m, hm⟩ := k0; exact DataW.trod_lt m _ _ _ hm
  obtain ⟨a0, rfl, -, -, w0⟩ := open_int Try.underlying5 (hval 0 5 v0 rfl rfl) h0
  have k1 := h1
  have lt1 : ∀ x ∈ p1, x.block < W.heap.size := by obtain ⟨m, hm⟩ := k1; exact DataW.trod_lt m _ _ _ hm
  obtain ⟨a1, rfl, -, -, w1⟩ := open_int Try.underlying5 (hval 1 5 v1 rfl rfl) h1
  have k2 := h2
  have lt2 : ∀ x ∈ p2, x.block < W.heap.size := by obtain ⟨m, hm⟩ := k2; exact DataW.trod_lt m _ _ _ hm
  obtain ⟨a2, rfl, -, -, w2⟩ := open_int Try.underlying5 (hval 2 5 v2 rfl rfl) h2
  have k3 := h3
  have lt3 : ∀ x ∈ p3, x.block < W.heap.size := by obtain ⟨m, hm⟩ := k3; exact DataW.trod_lt m _ _ _ hm
  obtain ⟨a3, rfl, -, -, w3⟩ := open_int Try.underlying3 (hval 3 3 v3 rfl rfl) h3
  have k4 := h4
  have lt4 : ∀ x ∈ p4, x.block < W.heap.size := by obtain ⟨m, hm⟩ := k4; exact DataW.trod_lt m _ _ _ hm
  obtain ⟨a4, rfl, -, -⟩ := open_bool Try.underlying4 (hval 4 4 v4 rfl rfl) h4
  clear hA0 hval0
  refine (walk a0 a1 a2 a3 a4 W w0 w1 w2 w3).mono fun e W' ⟨he, bel⟩ => ?_
  subst he
  exact ⟨_, rfl, _, _, _, [], _, [], hW', trodAll_mk1 (shut_bool Try.underlying4 _), (trodAll_cons_mk (Below.trod laidOut (by kernel_rfl) (of_decide_eq_true (by kernel_rfl)) k0 bel lt0) (trodAll_cons_mk (Below.trod laidOut (by kernel_rfl) (of_decide_eq_true (by kernel_rfl)) k1 bel lt1) (trodAll_cons_mk (Below.trod laidOut (by kernel_rfl) (of_decide_eq_true (by kernel_rfl)) k2 bel lt2) (trodAll_cons_mk (Below.trod laidOut (by kernel_rfl) (of_decide_eq_true (by kernel_rfl)) k3 bel lt3) (trodAll_cons_mk (Below.trod laidOut (by kernel_rfl) (of_decide_eq_true (by kernel_rfl)) k4 bel lt4) trodAll_mk0))))), rfl, bel.frame _, fun h => by cases h⟩

theorem over : Rows.priorityServesRow.holds Try.pinned (OpenSpec.ofChange Rows.priorityServesSpec) :=
  OpenClaim.holds_of_wide 6 Try.f6 rfl rfl rfl rfl rfl rfl rfl ⟨rfl, rfl, rfl, rfl, rfl⟩ rfl rfl rfl rfl rfl (by kernel_rfl) Try.func6 (by kernel_rfl)
    (of_decide_eq_true (by kernel_rfl)) (by unfold Func.isWrapper; first | (rw [if_pos (by decide +kernel)]; kernel_rfl) | (rw [if_neg (by decide +kernel)]; exact ⟨rfl, rfl⟩))
    (fun os started H enc _ => lifted os started H enc)

/-- The statement. -/
theorem proved : Rows.PriorityServesSaid := over
#print axioms proved
end Go.Proofs.Ytebhgfhphjajmaa.priorityServes
