/- Contracts of what reads lists of cells: the reference's Get and Same, cmp.Compare, the two comparisons of cells, slices.Clone. Conditions: the slices hold the cells of lists. -/
import Derived.Test.YtfddefoambakiaaMC
import Derived.Test.YtfddefoambakiaaCM
namespace Go.Proofs.Ytfddefoambakiaa
open Go.ChangeShapes Go.WideShapes Go.ChangeAt Go.RowKit
set_option linter.unusedVariables false
set_option maxHeartbeats 1000000 in
theorem rget_any (a : Option Addr) (len cap : Nat) (d : List Cl) (z : Int) (w : World) (h : Held w a len d) : Calls Try.prog 50 #[.slice a len cap, .int .u16 z] w fun e w' => e = .returned (.int .u8 (Sm.get d z)) ∧ w = w' := by
  obtain ⟨hl, hbig, hat⟩ := h
  go_enter Try.func50, Try.ntmps50
  go_wp2
  go_loop [5] (fun i => ∃ (k : Nat) (y : Int), k ≤ len ∧ i = .int .i64 y ∧ y = (k : Int) - 1 ∧ Hid (∀ c ∈ d.drop k, c.1 ≠ z)) (fun i => (intOf i + 1).toNat)
  case atStart => exact ⟨len, _, Nat.le_refl _, rfl, rfl, fun c hc => by rw [List.drop_of_length_le (by omega)] at hc; cases hc⟩
  case round =>
    obtain ⟨k, y, hk, rfl, hy, HO⟩ := hrel
    cases k with
    | zero =>
      obtain rfl : y = -1 := by omega
      have HV : Hid (Sm.get d z = 0) := Sm.get_miss d z HO.out
      clear hat hy
      go_wp2_with fail
      go_ret
      exact ⟨ri HV.out.symm, rfl⟩
    | succ j =>
      obtain rfl : y = (j : Int) := by omega
      obtain ⟨b, o, rfl, hb, hat⟩ := hat (by omega)
      obtain ⟨x, v, hx⟩ := get_pair (d := d) (k := j) (by omega)
      obtain ⟨h1, h2⟩ := hat j x v hx
      have p0 : (0 : Int) ≤ (j : Int) := by omega
      have p1 : (j : Int) < (len : Int) := by omega
      by_cases hxz : x = z
      · subst hxz
        have HV : Hid (Sm.get d x = v) := Sm.get_at hx HO.out
        clear hat hx hl hy
        go_wp2_with fail
        go_ret
        exact ⟨ri HV.out.symm, rfl⟩
      · have HN : Hid (∀ c ∈ d.drop j, c.1 ≠ z) := Sm.no_drop hx hxz HO.out
        have hq : (x == z) = false := by simpa using hxz
        clear hat hx hl hy hxz
        go_wp2_with fail
        go_round
        case rel => exact ⟨j, _, by omega, rfl, by omega, HN⟩
        case measure => simp [intOf] <;> omega
set_option maxHeartbeats 1000000 in
theorem same_any (a a' : Option Addr) (len cap len' cap' : Nat) (d d' : List Cl) (w : World) (h : Held w a len d) (h' : Held w a' len' d') : Calls Try.prog 13 #[.slice a len cap, .slice a' len' cap'] w fun e w' => e = .returned (.bool (Sm.same d d')) ∧ Adds w w' := by
  obtain ⟨hl, hbig, hat⟩ := h
  obtain ⟨hl', hbig', hat'⟩ := h'
  by_cases hll : len = len'
  · subst hll
    go_enter Try.func13, Try.ntmps13
    go_wp2
    go_loopw [13] (fun i wr => ∃ k : Nat, k ≤ len ∧ i = .int .i64 k ∧ Adds w wr ∧ Hid (∀ i, i < k → d[i]? = d'[i]?)) (fun i _ => len - (intOf i).toNat)
    case atStart => exact ⟨0, Nat.zero_le _, rfl, Adds.refl _, fun i hi => absurd hi (by omega)⟩
    case round =>
      obtain ⟨k, hk, rfl, ⟨⟨n1, os1⟩, rfl⟩, HO⟩ := hrel
      by_cases hlt : k < len
      · obtain ⟨b, o, rfl, hb, hat⟩ := hat (by omega)
        obtain ⟨b', o', rfl, hb', hat'⟩ := hat' (by omega)
        obtain ⟨x, v, hx⟩ := get_pair (d := d) (k := k) (by omega)
        obtain ⟨y, u, hy⟩ := get_pair (d := d') (k := k) (by omega)
        obtain ⟨h1, h2⟩ := hat k x v hx
        obtain ⟨g1, g2⟩ := hat' k y u hy
        have hltz : (k : Int) < (len : Int) := by omega
        cases hs : ((x == y) && (v == u)) with
        | true =>
          have HN : Hid _ := Sm.same_step hx hy hs HO.out
          simp at hs
          obtain ⟨rfl, rfl⟩ := hs
          clear hat hat' hx hy hl hl'
          go_wp2_with fail
          refine wp_region_adds (by kernel_rfl) (by kernel_rfl) ?_
          repeat (go_big_quiet_step (fail))
          refine wpQuiet_nil ?_
          intro _ hw1
          obtain ⟨⟨nq, osq⟩, hw2⟩ := hw1
          subst hw2
          go_wp2_with fail
          go_roundw
          case rel => exact ⟨k + 1, by omega, by go_num, by (repeat (first | with_reducible exact Adds.refl _ | with_reducible apply Adds.drew | with_reducible apply Adds.drewN | with_reducible apply Adds.alloc | with_reducible apply Adds.more | (with_reducible refine Adds.setCell ?_ ?_ _) | (focus (simp [go_sem]; done)) | (focus (simp [go_sem]; omega)))), HN⟩
          case measure => simp [intOf] <;> omega
        | false =>
          have HV : Hid (Sm.same d d' = false) := Sm.same_no hx hy hs
          clear hat hat' hx hy hl hl'
          by_cases hxy : x = y
          · subst hxy
            have hvu : (v == u) = false := by simpa using hs
            clear hs
            go_wp2_with fail
            refine wp_region_adds (by kernel_rfl) (by kernel_rfl) ?_
            repeat (go_big_quiet_step (fail))
            refine wpQuiet_nil ?_
            intro _ hw1
            obtain ⟨⟨nq, osq⟩, hw2⟩ := hw1
            subst hw2
            go_wp2_with fail
            go_ret
            exact ⟨rt HV.out.symm, by (repeat (first | with_reducible exact Adds.refl _ | with_reducible apply Adds.drew | with_reducible apply Adds.drewN | with_reducible apply Adds.alloc | with_reducible apply Adds.more | (with_reducible refine Adds.setCell ?_ ?_ _) | (focus (simp [go_sem]; done)) | (focus (simp [go_sem]; omega))))⟩
          · have hvu : (x == y) = false := by simpa using hxy
            clear hs hxy
            go_wp2_with fail
            refine wp_region_adds (by kernel_rfl) (by kernel_rfl) ?_
            repeat (go_big_quiet_step (fail))
            refine wpQuiet_nil ?_
            intro _ hw1
            obtain ⟨⟨nq, osq⟩, hw2⟩ := hw1
            subst hw2
            go_wp2_with fail
            go_ret
            exact ⟨rt HV.out.symm, by (repeat (first | with_reducible exact Adds.refl _ | with_reducible apply Adds.drew | with_reducible apply Adds.drewN | with_reducible apply Adds.alloc | with_reducible apply Adds.more | (with_reducible refine Adds.setCell ?_ ?_ _) | (focus (simp [go_sem]; done)) | (focus (simp [go_sem]; omega))))⟩
      · have HV : Hid (Sm.same d d' = true) := Sm.same_yes (by omega) fun i hi => HO.out i (by omega)
        have hltz : ¬ (k : Int) < (len : Int) := by omega
        clear hat hat'
        go_wp2_with fail
        go_ret
        exact ⟨rt HV.out.symm, by (repeat (first | with_reducible exact Adds.refl _ | with_reducible apply Adds.drew | with_reducible apply Adds.drewN | with_reducible apply Adds.alloc | with_reducible apply Adds.more | (with_reducible refine Adds.setCell ?_ ?_ _) | (focus (simp [go_sem]; done)) | (focus (simp [go_sem]; omega))))⟩
  · have HV : Hid (Sm.same d d' = false) := Sm.same_len (by omega)
    have hb : ((len : Int) != (len' : Int)) = true := by simp; omega
    clear hat hat'
    go_enter Try.func13, Try.ntmps13
    go_wp2
    go_ret
    exact ⟨rt HV.out.symm, Adds.refl _⟩
theorem compare_any (x y : Int) (w : World) : Calls Try.prog 42 #[.int .u16 x, .int .u16 y] w fun e w' => e = .returned (.int .i64 (Sm.cmp x y)) ∧ w = w' := by
  by_cases h1 : x < y
  · have HV : Hid (Sm.cmp x y = -1) := by show _ = _; unfold Sm.cmp; rw [if_pos h1]
    have hd : decide (x < y) = true := decide_eq_true h1
    go_enter Try.func42, Try.ntmps42
    go_wp2
    go_ret
    exact ⟨ri HV.out.symm, rfl⟩
  · have hd : decide (x < y) = false := decide_eq_false h1
    by_cases h2 : y < x
    · have HV : Hid (Sm.cmp x y = 1) := by show _ = _; unfold Sm.cmp; rw [if_neg h1, if_pos h2]
      have hd2 : decide (y < x) = true := decide_eq_true h2
      clear h1
      go_enter Try.func42, Try.ntmps42
      go_wp2
      go_ret
      exact ⟨ri HV.out.symm, rfl⟩
    · have hd2 : decide (y < x) = false := decide_eq_false h2
      have HV : Hid (Sm.cmp x y = 0) := by show _ = _; unfold Sm.cmp; rw [if_neg h1, if_neg h2]
      clear h1 h2
      go_enter Try.func42, Try.ntmps42
      go_wp2
      go_ret
      exact ⟨ri HV.out.symm, rfl⟩
theorem byAt_any (x v y u : Int) (w : World) : Calls Try.prog 41 #[.agg #[.int .u16 x, .int .u8 v], .agg #[.int .u16 y, .int .u8 u]] w fun e w' => e = .returned (.int .i64 (Sm.cmp x y)) ∧ Adds w w' := by
  go_enter Try.func41, Try.ntmps41
  go_wp2_with (go_at_call 42; refine (compare_any _ _ _).mono ?_; rintro e w' ⟨rfl, rfl⟩)
  go_ret
  exact ⟨rfl, by (repeat (first | with_reducible exact Adds.refl _ | with_reducible apply Adds.drew | with_reducible apply Adds.drewN | with_reducible apply Adds.alloc | with_reducible apply Adds.more | (with_reducible refine Adds.setCell ?_ ?_ _) | (focus (simp [go_sem]; done)) | (focus (simp [go_sem]; omega))))⟩
theorem toAt_any (x v y : Int) (w : World) : Calls Try.prog 46 #[.agg #[.int .u16 x, .int .u8 v], .int .u16 y] w fun e w' => e = .returned (.int .i64 (Sm.cmp x y)) ∧ Adds w w' := by
  go_enter Try.func46, Try.ntmps46
  go_wp2_with (go_at_call 42; refine (compare_any _ _ _).mono ?_; rintro e w' ⟨rfl, rfl⟩)
  go_ret
  exact ⟨rfl, by (repeat (first | with_reducible exact Adds.refl _ | with_reducible apply Adds.drew | with_reducible apply Adds.drewN | with_reducible apply Adds.alloc | with_reducible apply Adds.more | (with_reducible refine Adds.setCell ?_ ?_ _) | (focus (simp [go_sem]; done)) | (focus (simp [go_sem]; omega))))⟩
end Go.Proofs.Ytfddefoambakiaa
