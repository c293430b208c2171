/- Contracts of what only reads lists of cells: Valid of the program and of the reference. Conditions: the slice holds the cells of a list. -/
import Derived.Test.YtfddefoambakiaaMC
import Derived.Test.YtfddefoambakiaaCM
namespace Go.Proofs.Ytfddefoambakiaa
open Go.ChangeShapes Go.WideShapes Go.ChangeAt Go.RowKit
set_option linter.unusedVariables false
set_option maxHeartbeats 1000000 in
theorem rvalid_any (a : Option Addr) (len cap : Nat) (d : List Cl) (w : World) (h : Held w a len d) : Calls Try.prog 43 #[.slice a len cap] w fun e w' => e = .returned (.bool (Sm.valid d)) ∧ Adds w w' := by
  obtain ⟨hl, hbig, hat⟩ := h
  go_enter Try.func43, Try.ntmps43
  go_wp2
  go_loopw [6] (fun i wr => ∃ k : Nat, k ≤ len ∧ i = .int .i64 k ∧ Adds w wr ∧ Hid (∀ i, i < k → Sm.okAt d i = true)) (fun i _ => len - (intOf i).toNat)
  case atStart => exact ⟨0, Nat.zero_le _, rfl, Adds.refl _, fun i hi => absurd hi (by omega)⟩
  case round =>
    obtain ⟨k, hk, rfl, ⟨⟨n1, os1⟩, rfl⟩, HO⟩ := hrel
    by_cases hlt : k < len
    · obtain ⟨b, o, rfl, hb, hat⟩ := hat (by omega)
      obtain ⟨x, v, hx⟩ := get_pair (d := d) (k := k) (by omega)
      obtain ⟨h1, h2⟩ := hat k x v hx
      have HK : Hid _ := Sm.okAt_iff d k (x, v) hx
      have HX : Hid _ := hx
      have HL : Hid _ := hl
      have hltz : (k : Int) < (len : Int) := by omega
      by_cases hv : v = 0
      · subst hv
        have HV : Hid (Sm.valid d = false) := Sm.valid_no d k (by omega) (by
          cases hq : Sm.okAt d k with
          | false => rfl
          | true => exact absurd rfl ((Sm.okAt_iff d k (x, 0) hx).1 hq).1)
        clear hat hl hx
        go_wp2_with fail
        refine wp_region_adds (by kernel_rfl) (by kernel_rfl) ?_
        repeat (go_big_quiet_step (fail))
        refine wpQuiet_nil ?_
        intro _ hw1
        obtain ⟨⟨nq, osq⟩, hw2⟩ := hw1
        subst hw2
        go_wp2_with fail
        go_ret
        exact ⟨rt HV.out.symm, by (repeat (first | with_reducible exact Adds.refl _ | with_reducible apply Adds.drew | with_reducible apply Adds.drewN | with_reducible apply Adds.alloc | with_reducible apply Adds.more | (with_reducible refine Adds.setCell ?_ ?_ _) | (focus (simp [go_sem]; done)) | (focus (simp [go_sem]; omega))))⟩
      · have hvb : (v == 0) = false := by simpa using hv
        cases k with
        | zero =>
          have HN : Hid (∀ i, i < 0 + 1 → Sm.okAt d i = true) := fun i hi => by
            obtain rfl : i = 0 := by omega
            exact HK.out.2 ⟨hv, fun e j hj => absurd hj (by omega)⟩
          simp only [Nat.zero_mul, Nat.add_zero] at h1 h2
          clear hat hl hx hv
          go_wp2_with fail
          refine wp_region_adds (by kernel_rfl) (by kernel_rfl) ?_
          repeat (go_big_quiet_step (fail))
          refine wpQuiet_nil ?_
          intro _ hw1
          obtain ⟨⟨nq, osq⟩, hw2⟩ := hw1
          subst hw2
          go_wp2_with fail
          go_roundw
          case rel => exact ⟨0 + 1, by omega, by go_num, by (repeat (first | with_reducible exact Adds.refl _ | with_reducible apply Adds.drew | with_reducible apply Adds.drewN | with_reducible apply Adds.alloc | with_reducible apply Adds.more | (with_reducible refine Adds.setCell ?_ ?_ _) | (focus (simp [go_sem]; done)) | (focus (simp [go_sem]; omega)))), HN⟩
          case measure => simp [intOf]; omega
        | succ j =>
          obtain ⟨y, u, hy⟩ := get_pair (d := d) (k := j) (by omega)
          obtain ⟨g1, g2⟩ := hat j y u hy
          have hw : IntKind.i64.wrap (j : Int) = (j : Int) := by rw [IntKind.wrap_i64]; omega
          have hj1 : (j : Int) < (len : Int) := by omega
          have hj2 : ((j : Int) + 1) < (len : Int) := by omega
          have p0 : (0 : Int) ≤ (j : Int) + 1 := by omega
          have p1 : (0 : Int) < (j : Int) + 1 := by omega
          have e0 : ((j : Int) + 1).toNat = j + 1 := by omega
          by_cases hxy : y < x
          · have HN : Hid (∀ i, i < j + 1 + 1 → Sm.okAt d i = true) := fun i hi => by
              by_cases hij : i = j + 1
              · subst hij
                exact HK.out.2 ⟨hv, fun e q hq he => by
                  obtain rfl : q = j := by omega
                  rw [hy] at he; cases he; exact hxy⟩
              · exact HO.out i (by omega)
            have hd : decide (x ≤ y) = false := decide_eq_false (by omega)
            clear hat hl hx hv hy
            go_wp2_with fail
            refine wp_region_adds (by kernel_rfl) (by kernel_rfl) ?_
            repeat (go_big_quiet_step (fail))
            refine wpQuiet_nil ?_
            intro _ hw1
            obtain ⟨⟨nq, osq⟩, hw2⟩ := hw1
            subst hw2
            go_wp2_with fail
            go_roundw
            case rel => exact ⟨j + 1 + 1, by omega, by go_num, by (repeat (first | with_reducible exact Adds.refl _ | with_reducible apply Adds.drew | with_reducible apply Adds.drewN | with_reducible apply Adds.alloc | with_reducible apply Adds.more | (with_reducible refine Adds.setCell ?_ ?_ _) | (focus (simp [go_sem]; done)) | (focus (simp [go_sem]; omega)))), HN⟩
            case measure => simp [intOf]; omega
          · have HV : Hid (Sm.valid d = false) := Sm.valid_no d (j + 1) (by omega) (by
              cases hq : Sm.okAt d (j + 1) with
              | false => rfl
              | true => exact absurd (((Sm.okAt_iff d (j + 1) (x, v) hx).1 hq).2 (y, u) j rfl hy) hxy)
            have hd : decide (x ≤ y) = true := decide_eq_true (by omega)
            clear hat hl hx hv hy
            go_wp2_with fail
            refine wp_region_adds (by kernel_rfl) (by kernel_rfl) ?_
            repeat (go_big_quiet_step (fail))
            refine wpQuiet_nil ?_
            intro _ hw1
            obtain ⟨⟨nq, osq⟩, hw2⟩ := hw1
            subst hw2
            go_wp2_with fail
            go_ret
            exact ⟨rt HV.out.symm, by (repeat (first | with_reducible exact Adds.refl _ | with_reducible apply Adds.drew | with_reducible apply Adds.drewN | with_reducible apply Adds.alloc | with_reducible apply Adds.more | (with_reducible refine Adds.setCell ?_ ?_ _) | (focus (simp [go_sem]; done)) | (focus (simp [go_sem]; omega))))⟩
    · have HV : Hid (Sm.valid d = true) := Sm.valid_yes d fun i hi => HO.out i (by omega)
      have hltz : ¬ (k : Int) < (len : Int) := by omega
      clear hat
      go_wp2_with fail
      go_ret
      exact ⟨rt HV.out.symm, by (repeat (first | with_reducible exact Adds.refl _ | with_reducible apply Adds.drew | with_reducible apply Adds.drewN | with_reducible apply Adds.alloc | with_reducible apply Adds.more | (with_reducible refine Adds.setCell ?_ ?_ _) | (focus (simp [go_sem]; done)) | (focus (simp [go_sem]; omega))))⟩
set_option maxHeartbeats 1000000 in
theorem valid_any (a : Option Addr) (len cap : Nat) (d : List Cl) (w : World) (h : Held w a len d) : Calls Try.prog 18 #[.slice a len cap] w fun e w' => e = .returned (.bool (Sm.valid d)) ∧ Adds w w' := by
  obtain ⟨hl, hbig, hat⟩ := h
  go_enter Try.func18, Try.ntmps18
  go_wp2
  go_loopw [7] (fun i wr => ∃ k : Nat, k ≤ len ∧ i = .int .i64 k ∧ Adds w wr ∧ Hid (∀ i, i < k → Sm.okAt d i = true)) (fun i _ => len - (intOf i).toNat)
  case atStart => exact ⟨0, Nat.zero_le _, rfl, Adds.refl _, fun i hi => absurd hi (by omega)⟩
  case round =>
    obtain ⟨k, hk, rfl, ⟨⟨n1, os1⟩, rfl⟩, HO⟩ := hrel
    by_cases hlt : k < len
    · obtain ⟨b, o, rfl, hb, hat⟩ := hat (by omega)
      obtain ⟨x, v, hx⟩ := get_pair (d := d) (k := k) (by omega)
      obtain ⟨h1, h2⟩ := hat k x v hx
      have HK : Hid _ := Sm.okAt_iff d k (x, v) hx
      have HX : Hid _ := hx
      have HL : Hid _ := hl
      have hltz : (k : Int) < (len : Int) := by omega
      by_cases hv : v = 0
      · subst hv
        have HV : Hid (Sm.valid d = false) := Sm.valid_no d k (by omega) (by
          cases hq : Sm.okAt d k with
          | false => rfl
          | true => exact absurd rfl ((Sm.okAt_iff d k (x, 0) hx).1 hq).1)
        clear hat hl hx
        go_wp2_with fail
        refine wp_region_adds (by kernel_rfl) (by kernel_rfl) ?_
        repeat (go_big_quiet_step (fail))
        refine wpQuiet_nil ?_
        intro _ hw1
        obtain ⟨⟨nq, osq⟩, hw2⟩ := hw1
        subst hw2
        go_wp2_with fail
        go_ret
        exact ⟨rt HV.out.symm, by (repeat (first | with_reducible exact Adds.refl _ | with_reducible apply Adds.drew | with_reducible apply Adds.drewN | with_reducible apply Adds.alloc | with_reducible apply Adds.more | (with_reducible refine Adds.setCell ?_ ?_ _) | (focus (simp [go_sem]; done)) | (focus (simp [go_sem]; omega))))⟩
      · have hvb : (v == 0) = false := by simpa using hv
        cases k with
        | zero =>
          have HN : Hid (∀ i, i < 0 + 1 → Sm.okAt d i = true) := fun i hi => by
            obtain rfl : i = 0 := by omega
            exact HK.out.2 ⟨hv, fun e j hj => absurd hj (by omega)⟩
          simp only [Nat.zero_mul, Nat.add_zero] at h1 h2
          clear hat hl hx hv
          go_wp2_with fail
          refine wp_region_adds (by kernel_rfl) (by kernel_rfl) ?_
          repeat (go_big_quiet_step (fail))
          refine wpQuiet_nil ?_
          intro _ hw1
          obtain ⟨⟨nq, osq⟩, hw2⟩ := hw1
          subst hw2
          go_wp2_with fail
          go_roundw
          case rel => exact ⟨0 + 1, by omega, by go_num, by (repeat (first | with_reducible exact Adds.refl _ | with_reducible apply Adds.drew | with_reducible apply Adds.drewN | with_reducible apply Adds.alloc | with_reducible apply Adds.more | (with_reducible refine Adds.setCell ?_ ?_ _) | (focus (simp [go_sem]; done)) | (focus (simp [go_sem]; omega)))), HN⟩
          case measure => simp [intOf]; omega
        | succ j =>
          obtain ⟨y, u, hy⟩ := get_pair (d := d) (k := j) (by omega)
          obtain ⟨g1, g2⟩ := hat j y u hy
          have hw : IntKind.i64.wrap (j : Int) = (j : Int) := by rw [IntKind.wrap_i64]; omega
          have hj1 : (j : Int) < (len : Int) := by omega
          have hj2 : ((j : Int) + 1) < (len : Int) := by omega
          have p0 : (0 : Int) ≤ (j : Int) + 1 := by omega
          have p1 : (0 : Int) < (j : Int) + 1 := by omega
          have e0 : ((j : Int) + 1).toNat = j + 1 := by omega
          by_cases hxy : y < x
          · have HN : Hid (∀ i, i < j + 1 + 1 → Sm.okAt d i = true) := fun i hi => by
              by_cases hij : i = j + 1
              · subst hij
                exact HK.out.2 ⟨hv, fun e q hq he => by
                  obtain rfl : q = j := by omega
                  rw [hy] at he; cases he; exact hxy⟩
              · exact HO.out i (by omega)
            have hd : decide (x ≤ y) = false := decide_eq_false (by omega)
            clear hat hl hx hv hy
            go_wp2_with fail
            refine wp_region_adds (by kernel_rfl) (by kernel_rfl) ?_
            repeat (go_big_quiet_step (fail))
            refine wpQuiet_nil ?_
            intro _ hw1
            obtain ⟨⟨nq, osq⟩, hw2⟩ := hw1
            subst hw2
            go_wp2_with fail
            go_roundw
            case rel => exact ⟨j + 1 + 1, by omega, by go_num, by (repeat (first | with_reducible exact Adds.refl _ | with_reducible apply Adds.drew | with_reducible apply Adds.drewN | with_reducible apply Adds.alloc | with_reducible apply Adds.more | (with_reducible refine Adds.setCell ?_ ?_ _) | (focus (simp [go_sem]; done)) | (focus (simp [go_sem]; omega)))), HN⟩
            case measure => simp [intOf]; omega
          · have HV : Hid (Sm.valid d = false) := Sm.valid_no d (j + 1) (by omega) (by
              cases hq : Sm.okAt d (j + 1) with
              | false => rfl
              | true => exact absurd (((Sm.okAt_iff d (j + 1) (x, v) hx).1 hq).2 (y, u) j rfl hy) hxy)
            have hd : decide (x ≤ y) = true := decide_eq_true (by omega)
            clear hat hl hx hv hy
            go_wp2_with fail
            refine wp_region_adds (by kernel_rfl) (by kernel_rfl) ?_
            repeat (go_big_quiet_step (fail))
            refine wpQuiet_nil ?_
            intro _ hw1
            obtain ⟨⟨nq, osq⟩, hw2⟩ := hw1
            subst hw2
            go_wp2_with fail
            go_ret
            exact ⟨rt HV.out.symm, by (repeat (first | with_reducible exact Adds.refl _ | with_reducible apply Adds.drew | with_reducible apply Adds.drewN | with_reducible apply Adds.alloc | with_reducible apply Adds.more | (with_reducible refine Adds.setCell ?_ ?_ _) | (focus (simp [go_sem]; done)) | (focus (simp [go_sem]; omega))))⟩
    · have HV : Hid (Sm.valid d = true) := Sm.valid_yes d fun i hi => HO.out i (by omega)
      have hltz : ¬ (k : Int) < (len : Int) := by omega
      clear hat
      go_wp2_with fail
      go_ret
      exact ⟨rt HV.out.symm, by (repeat (first | with_reducible exact Adds.refl _ | with_reducible apply Adds.drew | with_reducible apply Adds.drewN | with_reducible apply Adds.alloc | with_reducible apply Adds.more | (with_reducible refine Adds.setCell ?_ ?_ _) | (focus (simp [go_sem]; done)) | (focus (simp [go_sem]; omega))))⟩
end Go.Proofs.Ytfddefoambakiaa
