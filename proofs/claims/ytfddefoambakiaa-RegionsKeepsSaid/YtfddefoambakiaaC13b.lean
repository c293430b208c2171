/- Contracts of package regions and of its reference: Validate, Read, Waits, Write. Conditions: the slices hold the lists; the list that is written has at most 16,777,215 cells. -/
import Derived.Test.YtfddefoambakiaaC13a
import Derived.Test.YtfddefoambakiaaC12k
namespace Go.Proofs.Ytfddefoambakiaa
open Go.ChangeShapes Go.WideShapes Go.ChangeAt Go.RowKit
set_option linter.unusedVariables false
set_option maxHeartbeats 1000000 in
theorem rgval_any (a : Option Addr) (len cap : Nat) (l : List Rg) (w : World) (h : HeldR w a len l) : Calls Try.prog 25 #[.slice a len cap] w fun e w' => e = .returned (.int .i64 (Sm.rval l)) ∧ Adds w w' := by
  obtain ⟨hl, hbig, hat⟩ := h
  have HL : Hid _ := Lib.hid hl
  have HA : Hid _ := Lib.hid hat
  clear hl hat
  by_cases h16 : 16 < len
  · have hz : (16 : Int) < (len : Int) := by omega
    have HV : Hid (Sm.rval l = 3) := by show _ = _; unfold Sm.rval; rw [if_pos (by have := HL.out; omega)]
    go_enter Try.func25, Try.ntmps25
    go_wp2
    go_ret
    exact ⟨rn HV.out.symm, Adds.refl _⟩
  have hz : ¬ (16 : Int) < (len : Int) := by omega
  go_enter Try.func25, Try.ntmps25
  go_wp2
  clear hz
  go_loopw [10] (fun i wr => ∃ k : Nat, k ≤ len ∧ i = .int .i64 k ∧ Adds w wr ∧ Hid (∀ j r, j < k → l[j]? = some r → Sm.rok r = true)) (fun i _ => len - (intOf i).toNat)
  case atStart => exact ⟨0, Nat.zero_le _, rfl, Adds.refl _, fun j r hj => absurd hj (by omega)⟩
  case round =>
    obtain ⟨k, hk, rfl, ⟨⟨n1, os1⟩, rfl⟩, HF⟩ := hrel
    by_cases hlt : k < len
    · have hltz : (k : Int) < (len : Int) := by omega
      obtain ⟨r, hr⟩ : ∃ r, l[k]? = some r := ⟨l[k]'(by have := HL.out; omega), List.getElem?_eq_getElem _⟩
      obtain ⟨b, o, rfl, hb, hat⟩ := HA.out (by omega)
      obtain ⟨h1, h2, h3, h4⟩ := hat k r hr
      have HBad : Hid _ := Lib.hid (fun h => Sm.rval_bad (l := l) (k := k) (r := r) (by have := HL.out; omega) hr h)
      have HGood : Hid (Sm.rok r = true → ∀ j q, j < k + 1 → l[j]? = some q → Sm.rok q = true) := by
        show _ → _
        intro hg j q hj hq
        by_cases hjk : j = k
        · subst hjk; rw [hr] at hq; cases hq; exact hg
        · exact HF.out j q (by omega) hq
      obtain ⟨fr, tw, ram, wt⟩ := r
      simp only at h1 h2 h3 h4
      clear hat hr
      by_cases q1 : tw < fr
      · have HV : Hid _ := Lib.hid (HBad.out (Sm.rok_no (.inl q1)))
        go_wp2_with fail
        go_ret
        exact ⟨rn HV.out.symm, by (repeat (first | with_reducible exact Adds.refl _ | with_reducible apply Adds.drew | with_reducible apply Adds.drewN | with_reducible apply Adds.alloc | with_reducible apply Adds.more | (with_reducible refine Adds.setCell ?_ ?_ _) | (focus (simp [go_sem]; done)) | (focus (simp [go_sem]; omega))))⟩
      · have q1' : decide (tw < fr) = false := decide_eq_false q1
        by_cases q2 : wt < 0
        · have HV : Hid _ := Lib.hid (HBad.out (Sm.rok_no (.inr (.inl q2))))
          go_wp2_with fail
          go_ret
          exact ⟨rn HV.out.symm, by (repeat (first | with_reducible exact Adds.refl _ | with_reducible apply Adds.drew | with_reducible apply Adds.drewN | with_reducible apply Adds.alloc | with_reducible apply Adds.more | (with_reducible refine Adds.setCell ?_ ?_ _) | (focus (simp [go_sem]; done)) | (focus (simp [go_sem]; omega))))⟩
        · have q2' : decide (wt < 0) = false := decide_eq_false q2
          by_cases q3 : 100 < wt
          · have HV : Hid _ := Lib.hid (HBad.out (Sm.rok_no (.inr (.inr q3))))
            go_wp2_with fail
            go_ret
            exact ⟨rn HV.out.symm, by (repeat (first | with_reducible exact Adds.refl _ | with_reducible apply Adds.drew | with_reducible apply Adds.drewN | with_reducible apply Adds.alloc | with_reducible apply Adds.more | (with_reducible refine Adds.setCell ?_ ?_ _) | (focus (simp [go_sem]; done)) | (focus (simp [go_sem]; omega))))⟩
          · have q3' : decide (100 < wt) = false := decide_eq_false q3
            have HV : Hid _ := Lib.hid (HGood.out (Sm.rok_yes q1 q2 q3))
            go_wp2_with fail
            go_roundw
            case rel => exact ⟨k + 1, by omega, by go_num, by (repeat (first | with_reducible exact Adds.refl _ | with_reducible apply Adds.drew | with_reducible apply Adds.drewN | with_reducible apply Adds.alloc | with_reducible apply Adds.more | (with_reducible refine Adds.setCell ?_ ?_ _) | (focus (simp [go_sem]; done)) | (focus (simp [go_sem]; omega)))), HV⟩
            case measure => simp [intOf] <;> omega
    · have hltz : ¬ (k : Int) < (len : Int) := by omega
      have HV : Hid (Sm.rval l = 0) := Sm.rval_ok (by have := HL.out; omega) (fun j r hj hr => HF.out j r (by have := HL.out; omega) hr)
      go_wp2_with fail
      go_ret
      exact ⟨rn HV.out.symm, by (repeat (first | with_reducible exact Adds.refl _ | with_reducible apply Adds.drew | with_reducible apply Adds.drewN | with_reducible apply Adds.alloc | with_reducible apply Adds.more | (with_reducible refine Adds.setCell ?_ ?_ _) | (focus (simp [go_sem]; done)) | (focus (simp [go_sem]; omega))))⟩
set_option maxHeartbeats 1000000 in
theorem rrgval_any (a : Option Addr) (len cap : Nat) (l : List Rg) (w : World) (h : HeldR w a len l) : Calls Try.prog 26 #[.slice a len cap] w fun e w' => e = .returned (.int .i64 (Sm.rval l)) ∧ Adds w w' := by
  obtain ⟨hl, hbig, hat⟩ := h
  have HL : Hid _ := Lib.hid hl
  have HA : Hid _ := Lib.hid hat
  clear hl hat
  by_cases h16 : 16 < len
  · have hz : (16 : Int) < (len : Int) := by omega
    have HV : Hid (Sm.rval l = 3) := by show _ = _; unfold Sm.rval; rw [if_pos (by have := HL.out; omega)]
    go_enter Try.func26, Try.ntmps26
    go_wp2
    go_ret
    exact ⟨rn HV.out.symm, Adds.refl _⟩
  have hz : ¬ (16 : Int) < (len : Int) := by omega
  go_enter Try.func26, Try.ntmps26
  go_wp2
  clear hz
  go_loopw [10] (fun i wr => ∃ k : Nat, k ≤ len ∧ i = .int .i64 k ∧ Adds w wr ∧ Hid (∀ j r, j < k → l[j]? = some r → Sm.rok r = true)) (fun i _ => len - (intOf i).toNat)
  case atStart => exact ⟨0, Nat.zero_le _, rfl, Adds.refl _, fun j r hj => absurd hj (by omega)⟩
  case round =>
    obtain ⟨k, hk, rfl, ⟨⟨n1, os1⟩, rfl⟩, HF⟩ := hrel
    by_cases hlt : k < len
    · have hltz : (k : Int) < (len : Int) := by omega
      obtain ⟨r, hr⟩ : ∃ r, l[k]? = some r := ⟨l[k]'(by have := HL.out; omega), List.getElem?_eq_getElem _⟩
      obtain ⟨b, o, rfl, hb, hat⟩ := HA.out (by omega)
      obtain ⟨h1, h2, h3, h4⟩ := hat k r hr
      have HBad : Hid _ := Lib.hid (fun h => Sm.rval_bad (l := l) (k := k) (r := r) (by have := HL.out; omega) hr h)
      have HGood : Hid (Sm.rok r = true → ∀ j q, j < k + 1 → l[j]? = some q → Sm.rok q = true) := by
        show _ → _
        intro hg j q hj hq
        by_cases hjk : j = k
        · subst hjk; rw [hr] at hq; cases hq; exact hg
        · exact HF.out j q (by omega) hq
      obtain ⟨fr, tw, ram, wt⟩ := r
      simp only at h1 h2 h3 h4
      clear hat hr
      by_cases q1 : tw < fr
      · have HV : Hid _ := Lib.hid (HBad.out (Sm.rok_no (.inl q1)))
        go_wp2_with fail
        go_ret
        exact ⟨rn HV.out.symm, by (repeat (first | with_reducible exact Adds.refl _ | with_reducible apply Adds.drew | with_reducible apply Adds.drewN | with_reducible apply Adds.alloc | with_reducible apply Adds.more | (with_reducible refine Adds.setCell ?_ ?_ _) | (focus (simp [go_sem]; done)) | (focus (simp [go_sem]; omega))))⟩
      · have q1' : decide (tw < fr) = false := decide_eq_false q1
        by_cases q2 : wt < 0
        · have HV : Hid _ := Lib.hid (HBad.out (Sm.rok_no (.inr (.inl q2))))
          go_wp2_with fail
          go_ret
          exact ⟨rn HV.out.symm, by (repeat (first | with_reducible exact Adds.refl _ | with_reducible apply Adds.drew | with_reducible apply Adds.drewN | with_reducible apply Adds.alloc | with_reducible apply Adds.more | (with_reducible refine Adds.setCell ?_ ?_ _) | (focus (simp [go_sem]; done)) | (focus (simp [go_sem]; omega))))⟩
        · have q2' : decide (wt < 0) = false := decide_eq_false q2
          by_cases q3 : 100 < wt
          · have HV : Hid _ := Lib.hid (HBad.out (Sm.rok_no (.inr (.inr q3))))
            go_wp2_with fail
            go_ret
            exact ⟨rn HV.out.symm, by (repeat (first | with_reducible exact Adds.refl _ | with_reducible apply Adds.drew | with_reducible apply Adds.drewN | with_reducible apply Adds.alloc | with_reducible apply Adds.more | (with_reducible refine Adds.setCell ?_ ?_ _) | (focus (simp [go_sem]; done)) | (focus (simp [go_sem]; omega))))⟩
          · have q3' : decide (100 < wt) = false := decide_eq_false q3
            have HV : Hid _ := Lib.hid (HGood.out (Sm.rok_yes q1 q2 q3))
            go_wp2_with fail
            go_roundw
            case rel => exact ⟨k + 1, by omega, by go_num, by (repeat (first | with_reducible exact Adds.refl _ | with_reducible apply Adds.drew | with_reducible apply Adds.drewN | with_reducible apply Adds.alloc | with_reducible apply Adds.more | (with_reducible refine Adds.setCell ?_ ?_ _) | (focus (simp [go_sem]; done)) | (focus (simp [go_sem]; omega)))), HV⟩
            case measure => simp [intOf] <;> omega
    · have hltz : ¬ (k : Int) < (len : Int) := by omega
      have HV : Hid (Sm.rval l = 0) := Sm.rval_ok (by have := HL.out; omega) (fun j r hj hr => HF.out j r (by have := HL.out; omega) hr)
      go_wp2_with fail
      go_ret
      exact ⟨rn HV.out.symm, by (repeat (first | with_reducible exact Adds.refl _ | with_reducible apply Adds.drew | with_reducible apply Adds.drewN | with_reducible apply Adds.alloc | with_reducible apply Adds.more | (with_reducible refine Adds.setCell ?_ ?_ _) | (focus (simp [go_sem]; done)) | (focus (simp [go_sem]; omega))))⟩
theorem get_h (a : Option Addr) (len cap : Nat) (d : List Cl) (z : Int) (w : World) (h : Held w a len d) : Calls Try.prog 20 #[.slice a len cap, .int .u16 z] w fun e w' => e = .returned (.int .u8 (Sm.get d z)) ∧ Adds w w' := get_any a len cap d z w h
theorem rget_h (a : Option Addr) (len cap : Nat) (d : List Cl) (z : Int) (w : World) (h : Held w a len d) : Calls Try.prog 50 #[.slice a len cap, .int .u16 z] w fun e w' => e = .returned (.int .u8 (Sm.get d z)) ∧ Adds w w' := by
  refine Calls.mono (rget_any a len cap d z w h) ?_
  rintro e w' ⟨rfl, rfl⟩
  exact ⟨rfl, Adds.refl _⟩
theorem rgread_any (a a2 : Option Addr) (len cap len2 cap2 : Nat) (l : List Rg) (d : List Cl) (x : Int) (w : World) (h : HeldR w a len l) (h2 : Held w a2 len2 d) : Calls Try.prog 30 #[.slice a len cap, .slice a2 len2 cap2, .int .u16 x] w fun e w' => e = .returned (.int .u8 (Sm.rd l d x)) ∧ Adds w w' := by
  have HF : Hid _ := Lib.hid (find_any a len cap l x w h)
  have H2 : Hid _ := Lib.hid h2
  obtain ⟨i, hi⟩ : ∃ i, i = Sm.fnd l x := ⟨_, rfl⟩
  rw [← hi] at HF
  clear h h2
  by_cases hn : i < 0
  · have HV : Hid (Sm.rd l d x = 255) := by show _ = _; unfold Sm.rd; rw [← hi, if_pos hn]
    clear hi
    go_enter Try.func30, Try.ntmps30
    go_wp2_with (go_at_call 28; (with_reducible refine HF.out.mono ?_); rintro e w1 ⟨rfl, A1⟩)
    go_ret
    exact ⟨rn HV.out.symm, A1⟩
  · have HV : Hid (Sm.rd l d x = Sm.get d x) := by show _ = _; unfold Sm.rd; rw [← hi, if_neg hn]
    clear hi
    have hn' : decide (i < 0) = false := decide_eq_false hn
    go_enter Try.func30, Try.ntmps30
    go_wp2_with (first
      | (go_at_call 28; (with_reducible refine HF.out.mono ?_); rintro e w1 ⟨rfl, A1⟩)
      | (go_at_call 20; (with_reducible refine (get_h a2 len2 cap2 d x w1 (H2.out.adds A1)).mono ?_); rintro e w2 ⟨rfl, A2⟩))
    go_ret
    exact ⟨rn HV.out.symm, A1.trans A2⟩
theorem rrgread_any (a a2 : Option Addr) (len cap len2 cap2 : Nat) (l : List Rg) (d : List Cl) (x : Int) (w : World) (h : HeldR w a len l) (h2 : Held w a2 len2 d) : Calls Try.prog 31 #[.slice a len cap, .slice a2 len2 cap2, .int .u16 x] w fun e w' => e = .returned (.int .u8 (Sm.rd l d x)) ∧ Adds w w' := by
  have HF : Hid _ := Lib.hid (rfind_any a len cap l x w h)
  have H2 : Hid _ := Lib.hid h2
  obtain ⟨i, hi⟩ : ∃ i, i = Sm.fnd l x := ⟨_, rfl⟩
  rw [← hi] at HF
  clear h h2
  by_cases hn : i < 0
  · have HV : Hid (Sm.rd l d x = 255) := by show _ = _; unfold Sm.rd; rw [← hi, if_pos hn]
    clear hi
    go_enter Try.func31, Try.ntmps31
    go_wp2_with (go_at_call 29; (with_reducible refine HF.out.mono ?_); rintro e w1 ⟨rfl, A1⟩)
    go_ret
    exact ⟨rn HV.out.symm, A1⟩
  · have HV : Hid (Sm.rd l d x = Sm.get d x) := by show _ = _; unfold Sm.rd; rw [← hi, if_neg hn]
    clear hi
    have hn' : decide (i < 0) = false := decide_eq_false hn
    go_enter Try.func31, Try.ntmps31
    go_wp2_with (first
      | (go_at_call 29; (with_reducible refine HF.out.mono ?_); rintro e w1 ⟨rfl, A1⟩)
      | (go_at_call 50; (with_reducible refine (rget_h a2 len2 cap2 d x w1 (H2.out.adds A1)).mono ?_); rintro e w2 ⟨rfl, A2⟩))
    go_ret
    exact ⟨rn HV.out.symm, A1.trans A2⟩
end Go.Proofs.Ytfddefoambakiaa
