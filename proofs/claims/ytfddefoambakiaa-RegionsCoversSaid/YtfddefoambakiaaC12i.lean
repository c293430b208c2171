/- slices.SortStableFunc at fewer than 20 cells; memory.Normalize there. Conditions: the slice holds the cells of a list of fewer than 20. -/
import Derived.Test.YtfddefoambakiaaC12e
import Derived.Test.YtfddefoambakiaaC12a
import Derived.Test.YtfddefoambakiaaC12d
import Derived.Test.YtfddefoambakiaaS12b
namespace Go.Proofs.Ytfddefoambakiaa
open Go.ChangeShapes Go.WideShapes Go.ChangeAt Go.RowKit
set_option linter.unusedVariables false
set_option maxHeartbeats 2000000 in
theorem stable_few (base g n cap : Nat) (d : List Cl) (w : World) (hO : Owns w base (.slice (some ⟨g, 0, none⟩) n cap) d) (h20 : n < 20) :
    Calls Try.prog 52 #[.slice (some ⟨g, 0, none⟩) n cap, .int .i64 (n : Int), .func (.func 41) #[] #[]] w fun e w' => e = .returned (.tuple #[]) ∧ Owns w' base (.slice (some ⟨g, 0, none⟩) n cap) (Sm.st d) ∧ w.grownBy w' (some g) := by
  have hn := hO.len.1
  have hi := isort_any base g n cap [] d [] w (by simpa using hO) (by simp; omega)
  have hi : Calls Try.prog 57 #[.slice (some ⟨g, 0, none⟩) n cap, .int .i64 0, .int .i64 (n : Int), .func (.func 41) #[] #[]] w fun e w' => e = .returned (.tuple #[]) ∧ Owns w' base (.slice (some ⟨g, 0, none⟩) n cap) (Sm.st d) ∧ w.grownBy w' (some g) := by
    rw [hn]; rw [hn] at hi; simpa using hi
  have HI : Hid _ := Lib.hid hi
  have hlt : (n : Int) < 20 := by omega
  have hlt1 : ¬ (20 : Int) ≤ (n : Int) := by omega
  have hlt2 : ¬ (20 : Int) < (n : Int) := by omega
  clear hn hi
  go_enter Try.func52, Try.ntmps52
  go_wp2
  refine wp_loop_rounds 1 ?_
  rw [rounds_succ]
  go_wp2_with (go_at_call 57; refine HI.out.mono ?_; rintro e w2 ⟨rfl, hO2, hG2⟩)
  refine wp_loop_rounds 1 ?_
  rw [rounds_succ]
  go_wp2_with fail
  go_end0
  exact ⟨rfl, hO2, hG2⟩
theorem sort_few (base g n cap : Nat) (d : List Cl) (w : World) (hO : Owns w base (.slice (some ⟨g, 0, none⟩) n cap) d) (h20 : n < 20) :
    Calls Try.prog 40 #[.slice (some ⟨g, 0, none⟩) n cap, .func (.func 41) #[] #[]] w fun e w' => e = .returned (.tuple #[]) ∧ Owns w' base (.slice (some ⟨g, 0, none⟩) n cap) (Sm.st d) ∧ w.grownBy w' (some g) := by
  have HI : Hid _ := Lib.hid (stable_few base g n cap d w hO h20)
  clear hO
  go_enter Try.func40, Try.ntmps40
  go_wp2_with (go_at_call 52; refine HI.out.mono ?_; rintro e w2 ⟨rfl, hO2, hG2⟩)
  go_end0
  exact ⟨rfl, hO2, hG2⟩
set_option maxHeartbeats 4000000 in
theorem norm_of (a : Option Addr) (len cap : Nat) (l : List Cl) (w : World) (h : Held w a len l) (hb24 : len ≤ 16777216)
    (hsort : ∀ (w1 : World) (g cap1 : Nat), Owns w1 w.heap.size (.slice (some ⟨g, 0, none⟩) len cap1) l → Calls Try.prog 40 #[.slice (some ⟨g, 0, none⟩) len cap1, .func (.func 41) #[] #[]] w1 fun e w' => e = .returned (.tuple #[]) ∧ Owns w' w.heap.size (.slice (some ⟨g, 0, none⟩) len cap1) (Sm.st l) ∧ w1.grownBy w' (some g)) :
    Calls Try.prog 14 #[.slice a len cap] w fun e w' => ∃ r, e = .returned r ∧ Owns w' w.heap.size r (Sm.nrm l) ∧ Adds w w' := by
  have HL : Hid (l.length = len) := h.1
  cases hv : Sm.valid l with
  | true =>
    have HN : Hid (Sm.nrm l = l) := Sm.nrm_valid hv
    clear hsort
    go_enter Try.func14, Try.ntmps14
    go_wp2_with (first
      | (go_at_call 18; refine (valid_any _ _ _ _ _ h).mono ?_; rintro e w1 ⟨rfl, hA⟩)
      | (go_at_call 39; refine (clone_any _ _ _ _ _ (h.adds hA) hb24).mono ?_; rintro e w2 ⟨r, rfl, hO, hA2⟩))
    go_ret
    exact ⟨_, rfl, by rw [HN.out]; exact hO.mono hA.size, hA.trans hA2⟩
  | false =>
    have hlen : 0 < len := by
      rcases Nat.eq_zero_or_pos len with h0 | h0
      · have : l = [] := List.eq_nil_of_length_eq_zero (by have := HL.out; omega)
        subst this; cases hv
      · exact h0
    have hR := fun w' (k : Adds w w') => valid_any a len cap l w' (h.adds k)
    rw [hv] at hR
    have HR : Hid _ := Lib.hid hR
    have HH : Hid _ := Lib.hid h
    have HS : Hid _ := Lib.hid hsort
    have hz : 0 < (len : Int) := by omega
    clear hR hv h hsort
    go_enter Try.func14, Try.ntmps14
    go_wp2_with (first
      | (go_at_call 18; refine (HR.out _ (Adds.refl _)).mono ?_; rintro e w1 ⟨rfl, hA1⟩)
      | (go_at_call 39; refine (clone_any _ _ _ _ _ (HH.out.adds hA1) hb24).mono ?_; rintro e w2 ⟨r, rfl, hO2, hA2⟩; obtain ⟨a2, cap2, rfl, hc1, hc2, hc3⟩ := hO2.form; obtain ⟨g, rfl, hg1, hg2⟩ := hc3 (by have := HL.out; omega); rw [HL.out] at hO2 hc1 ⊢)
      | (go_at_call 40; refine (HS.out _ _ _ (hO2.mono hA1.size)).mono ?_; rintro e w3 ⟨rfl, hO3, hG3⟩))
    have hA3 : Adds w w3 := Adds.of_grown (hA1.trans hA2) hG3 (by have := hA1.size; omega)
    obtain ⟨s, hs⟩ : ∃ s, s = Sm.st l := ⟨_, rfl⟩
    rw [← hs] at hO3
    have HN : Hid (Sm.pk s = Sm.nrm l) := by show _ = _; rw [hs, Sm.pk_st]
    have HSL : Hid (s.length = len) := by show _ = _; rw [hs, Sm.len_st]; exact HL.out
    have hg3 : g < w3.heap.size := hO3.lt.2
    have hat3 := hO3.at_
    have HAT : Hid _ := Lib.hid hat3
    have hz1 : 0 < len := hlen
    clear hs hO3 hO2 hG3 hat3 hc3 hg2 hg1 hc2 hc1 hz
    go_loopw [4, 18] (fun v4 i wr => ∃ (k : Nat) (out : List Cl), k ≤ len ∧ i = .int .i64 k ∧ Hid (out ++ Sm.pk (s.drop k) = Sm.pk s) ∧ out.length ≤ k ∧ Owns wr w3.heap.size v4 out ∧ Adds w3 wr) (fun _ i _ => len - (intOf i).toNat)
    case atStart => exact ⟨0, [], Nat.zero_le _, rfl, by show _ = _; simp, by simp, Owns.nil _ _, Adds.refl _⟩
    case round =>
      obtain ⟨k, out, hk, rfl, HP, hol, hO, hA⟩ := hrel
      have hsz := hA.size
      by_cases hlt : k < len
      · obtain ⟨x, v, hx⟩ := get_pair (d := s) (k := k) (by have := HSL.out; omega)
        obtain ⟨h1, h2⟩ := HAT.out k x v hx
        rw [Nat.zero_add] at h1 h2
        have g1 : wr.cell? ⟨g, k * 2, none⟩ = some (.int .u16 x) := (hA.cell hg3).trans h1
        have g2 : wr.cell? ⟨g, k * 2 + 1, none⟩ = some (.int .u8 v) := (hA.cell hg3).trans h2
        have hgr : g < wr.heap.size := by omega
        have hltz : (k : Int) < (len : Int) := by omega
        have hin : (k : Int) + 1 ≤ (len : Int) := by omega
        have HX : Hid _ := Lib.hid hx
        have hb24' : out.length + 1 ≤ 33554432 := by omega
        clear h1 h2 hx
        by_cases hlast : k + 1 = len
        · have hq : ((k : Int) + 1 == (len : Int)) = true := by simp; omega
          have HPL : Hid _ := Lib.hid (Sm.pk_last HX.out (by have := HSL.out; omega))
          have HPE : Hid _ := Lib.hid (Sm.pk_end (s := s) (k := k + 1) (by have := HSL.out; omega))
          clear hlast
          by_cases hv : v = 0
          · subst hv
            go_wp2_with fail
            refine wp_region_adds (by kernel_rfl) (by kernel_rfl) ?_
            repeat (go_big_quiet_step (fail))
            refine wpQuiet_nil ?_
            intro _ hw1
            obtain ⟨⟨nq, osq⟩, hw2⟩ := hw1
            subst hw2
            go_wp2_with fail
            go_roundw
            case rel => exact ⟨k + 1, out, by omega, by go_num, (by show _ = _; have a1 := HP.out; rw [HPL.out] at a1; rw [HPE.out]; simpa using a1), by omega, (hO.alloc _).adds ⟨⟨nq, osq⟩, rfl⟩, (hA.alloc _).trans ⟨⟨nq, osq⟩, rfl⟩⟩
            case measure => simp [intOf] <;> omega
          · have hvb : (v != 0) = true := by simpa using hv
            have HV : Hid _ := Lib.hid hv
            clear hv
            go_wp2_with fail
            refine wp_region_adds (by kernel_rfl) (by kernel_rfl) ?_
            repeat (go_big_quiet_step (fail))
            refine wpQuiet_nil ?_
            intro _ hw1
            obtain ⟨⟨nq, osq⟩, hw2⟩ := hw1
            subst hw2
            go_wp2_with (at_builtin; refine wpList_app1 rfl _ _ rfl w3.heap.size u4 out x v _ _ rfl rfl (by simp [go_sem]) ((hO.alloc _).adds ⟨⟨nq, osq⟩, rfl⟩) hb24' (by simp [go_sem]; omega) ?_; intro v1 w4 hO4 hg4 _; have hA4 : Adds w3 w4 := ((hA.alloc _).trans ⟨⟨nq, osq⟩, rfl⟩).grown hg4 ((hO.alloc _).adds ⟨⟨nq, osq⟩, rfl⟩); clear hg4)
            go_roundw
            case rel => exact ⟨k + 1, out ++ [(x, v)], by omega, by go_num, (by show _ = _; have a1 := HP.out; rw [HPL.out, if_pos (by simpa using HV.out)] at a1; rw [HPE.out]; simpa using a1), by simp; omega, hO4, hA4⟩
            case measure => simp [intOf] <;> omega
        · have hq : ((k : Int) + 1 == (len : Int)) = false := by simp; omega
          obtain ⟨y, u, hy⟩ := get_pair (d := s) (k := k + 1) (by have := HSL.out; omega)
          obtain ⟨h3, h4⟩ := HAT.out (k + 1) y u hy
          rw [Nat.zero_add] at h3 h4
          have g3 : wr.cell? ⟨g, (k + 1) * 2, none⟩ = some (.int .u16 y) := (hA.cell hg3).trans h3
          have j1 : (k : Int) + 1 < (len : Int) := by omega
          have j2 : (0 : Int) ≤ (k : Int) + 1 := by omega
          have j3 : ((k : Int) + 1).toNat = k + 1 := by omega
          have HPN : Hid _ := Lib.hid (Sm.pk_next HX.out hy)
          clear hlast h3 h4 hy
          by_cases hyx : y = x
          · subst hyx
            go_wp2_with fail
            refine wp_region_adds (by kernel_rfl) (by kernel_rfl) ?_
            repeat (go_big_quiet_step (fail))
            refine wpQuiet_nil ?_
            intro _ hw1
            obtain ⟨⟨nq, osq⟩, hw2⟩ := hw1
            subst hw2
            go_wp2_with fail
            go_roundw
            case rel => exact ⟨k + 1, out, by omega, by go_num, (by show _ = _; have a1 := HP.out; rw [HPN.out, if_neg (by simp)] at a1; exact a1), by omega, (hO.alloc _).adds ⟨⟨nq, osq⟩, rfl⟩, (hA.alloc _).trans ⟨⟨nq, osq⟩, rfl⟩⟩
            case measure => simp [intOf] <;> omega
          · have hyb : (y != x) = true := by simpa using hyx
            have HYX : Hid _ := Lib.hid hyx
            clear hyx
            by_cases hv : v = 0
            · subst hv
              go_wp2_with fail
              refine wp_region_adds (by kernel_rfl) (by kernel_rfl) ?_
              repeat (go_big_quiet_step (fail))
              refine wpQuiet_nil ?_
              intro _ hw1
              obtain ⟨⟨nq, osq⟩, hw2⟩ := hw1
              subst hw2
              go_wp2_with fail
              go_roundw
              case rel => exact ⟨k + 1, out, by omega, by go_num, (by show _ = _; have a1 := HP.out; rw [HPN.out, if_neg (by simp)] at a1; exact a1), by omega, (hO.alloc _).adds ⟨⟨nq, osq⟩, rfl⟩, (hA.alloc _).trans ⟨⟨nq, osq⟩, rfl⟩⟩
              case measure => simp [intOf] <;> omega
            · have hvb : (v != 0) = true := by simpa using hv
              have HV : Hid _ := Lib.hid hv
              clear hv
              go_wp2_with fail
              refine wp_region_adds (by kernel_rfl) (by kernel_rfl) ?_
              repeat (go_big_quiet_step (fail))
              refine wpQuiet_nil ?_
              intro _ hw1
              obtain ⟨⟨nq, osq⟩, hw2⟩ := hw1
              subst hw2
              go_wp2_with (at_builtin; refine wpList_app1 rfl _ _ rfl w3.heap.size u4 out x v _ _ rfl rfl (by simp [go_sem]) ((hO.alloc _).adds ⟨⟨nq, osq⟩, rfl⟩) hb24' (by simp [go_sem]; omega) ?_; intro v1 w4 hO4 hg4 _; have hA4 : Adds w3 w4 := ((hA.alloc _).trans ⟨⟨nq, osq⟩, rfl⟩).grown hg4 ((hO.alloc _).adds ⟨⟨nq, osq⟩, rfl⟩); clear hg4)
              go_roundw
              case rel => exact ⟨k + 1, out ++ [(x, v)], by omega, by go_num, (by show _ = _; have a1 := HP.out; rw [HPN.out, if_pos (by have := HV.out; have := HYX.out; simp; omega)] at a1; simpa using a1), by simp; omega, hO4, hA4⟩
              case measure => simp [intOf] <;> omega
      · have hltz : ¬ (k : Int) < (len : Int) := by omega
        have HE : Hid (out = Sm.nrm l) := by
          show _ = _
          have a1 := HP.out
          rw [Sm.pk_end (by have := HSL.out; omega)] at a1
          rw [← HN.out]; simpa using a1
        go_wp2_with fail
        go_ret
        exact ⟨_, rfl, by rw [← HE.out]; exact hO.mono hA3.size, hA3.trans hA⟩
theorem norm_few (a : Option Addr) (len cap : Nat) (l : List Cl) (w : World) (h : Held w a len l) (h20 : len < 20) :
    Calls Try.prog 14 #[.slice a len cap] w fun e w' => ∃ r, e = .returned r ∧ Owns w' w.heap.size r (Sm.nrm l) ∧ Adds w w' :=
  norm_of a len cap l w h (by omega) fun w1 g cap1 hO => sort_few w.heap.size g len cap1 l w1 hO h20
end Go.Proofs.Ytfddefoambakiaa
