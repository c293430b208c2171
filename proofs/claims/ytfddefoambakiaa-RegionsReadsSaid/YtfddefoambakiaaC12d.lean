/- The reference's Normalize, Put and Load; slices.Clone. Conditions: the slice holds the cells of a list of at most 2^24 cells. -/
import Derived.Test.YtfddefoambakiaaC12c
import Derived.Lib.SliceRun
namespace Go.Proofs.Ytfddefoambakiaa
open Go.ChangeShapes Go.WideShapes Go.ChangeAt Go.RowKit
set_option linter.unusedVariables false
set_option maxHeartbeats 2000000 in
theorem rnrm_any (a : Option Addr) (len cap : Nat) (l : List Cl) (w : World) (h : Held w a len l) (hb24 : len ≤ 16777216) : Calls Try.prog 15 #[.slice a len cap] w fun e w' => ∃ r, e = .returned r ∧ Owns w' w.heap.size r (Sm.nrm l) ∧ Adds w w' := by
  have HL : Hid (l.length = len) := h.1
  cases hv : Sm.valid l with
  | true =>
    have HN : Hid (Sm.nrm l = l) := Sm.nrm_valid hv
    cases a with
    | none =>
      have h0 : len = 0 := by
        rcases Nat.eq_zero_or_pos len with h0 | h0
        · exact h0
        · obtain ⟨b, o, e, _⟩ := h.2.2 h0; cases e
      subst h0
      have HE : Hid (l = []) := List.eq_nil_of_length_eq_zero HL.out
      go_enter Try.func15, Try.ntmps15
      go_wp2_with (go_at_call 43; refine (rvalid_any _ _ _ _ _ h).mono ?_; rintro e w' ⟨rfl, hA⟩)
      go_ret
      exact ⟨_, rfl, by rw [HN.out, HE.out]; exact Owns.nil _ _, hA⟩
    | some ad =>
      go_enter Try.func15, Try.ntmps15
      go_wp2_with (first
        | (go_at_call 43; refine (rvalid_any _ _ _ _ _ h).mono ?_; rintro e w1 ⟨rfl, hA⟩)
        | (at_builtin; refine wpList_appA rfl _ _ rfl w.heap.size (.slice none 0 0) [] rfl (Owns.nil _ _) ad len cap l rfl HL.out (h.adds hA).news (by simp; omega) hA.size ?_; intro v1 w2 hO1 hg1 _; have hA1 : Adds w w2 := hA.grown hg1 (Owns.nil _ _); clear hg1))
      go_ret
      exact ⟨_, rfl, by rw [HN.out]; simpa using hO1, hA1⟩
  | false =>
    have HN : Hid (Sm.nrm l = l.foldl Sm.put []) := by show _ = _; unfold Sm.nrm; rw [hv]; rfl
    have hR := fun w' (k : Adds w w') => rvalid_any a len cap l w' (h.adds k)
    rw [hv] at hR
    have HR : Hid _ := hR
    have hat := h.2.2
    clear hR hv h
    go_enter Try.func15, Try.ntmps15
    go_wp2_with (go_at_call 43; refine (HR.out _ (Adds.refl _)).mono ?_; rintro e w1 ⟨rfl, hA0⟩)
    go_loopw [3, 12] (fun v3 i wr => ∃ (k : Nat), k ≤ len ∧ i = .int .i64 k ∧ Owns wr w.heap.size v3 ((l.take k).foldl Sm.put []) ∧ Adds w wr) (fun _ i _ => len - (intOf i).toNat)
    case atStart => exact ⟨0, Nat.zero_le _, rfl, Owns.nil _ _, hA0⟩
    case round =>
      obtain ⟨k, hk, rfl, hO, hA⟩ := hrel
      obtain ⟨a1, cap1, rfl, hc1, hc2, _⟩ := hO.form
      have hsz := hA.size
      by_cases hlt : k < len
      · obtain ⟨b, o, rfl, hb, hat⟩ := hat (by omega)
        obtain ⟨yx, yv, hy⟩ := get_pair (d := l) (k := k) (by have := HL.out; omega)
        obtain ⟨h1, h2⟩ := hat k yx yv hy
        have g1 : wr.cell? ⟨b, o + k * 2, none⟩ = some (.int .u16 yx) := (hA.cell hb).trans h1
        have g2 : wr.cell? ⟨b, o + k * 2 + 1, none⟩ = some (.int .u8 yv) := (hA.cell hb).trans h2
        have hbr : b < wr.heap.size := by omega
        have hltz : (k : Int) < (len : Int) := by omega
        have HP : Hid _ := Sm.fold_put_succ hy
        have hlen : Hid (((l.take k).foldl Sm.put []).length ≤ 16777216) := by
          have q := Sm.fold_put_len (l.take k) []
          have q2 : (l.take k).length ≤ k := List.length_take_le _ _
          show _ ≤ _
          simp only [List.length_nil] at q; omega
        clear hat hy h1 h2
        go_wp2_with (go_at_call 44; refine (rput_any a1 _ cap1 _ yx yv _ ((hO.alloc _).held (by have := hlen.out; omega)) hlen.out).mono ?_; rintro e w2 ⟨r, rfl, hO2, hA2⟩)
        go_roundw
        case rel => exact ⟨k + 1, by omega, by go_num, by rw [HP.out]; exact hO2.mono (by simp; omega), (hA.alloc _).trans hA2⟩
        case measure => simp [intOf] <;> omega
      · have hltz : ¬ (k : Int) < (len : Int) := by omega
        have HE : Hid (l.take k = l) := List.take_of_length_le (by have := HL.out; omega)
        clear hat
        go_wp2_with fail
        go_ret
        have e2 : l.foldl Sm.put [] = (l.take k).foldl Sm.put [] := by rw [HE.out]
        exact ⟨_, rfl, by rw [HN.out, e2]; exact hO, hA⟩
set_option maxHeartbeats 1000000 in
theorem rPut_any (a : Option Addr) (len cap : Nat) (l : List Cl) (x v : Int) (w : World) (h : Held w a len l) (hb24 : len ≤ 16777216) : Calls Try.prog 17 #[.slice a len cap, .int .u16 x, .int .u8 v] w fun e w' => ∃ r, e = .returned r ∧ Owns w' w.heap.size r (Sm.put (Sm.nrm l) (x, v)) ∧ Adds w w' := by
  have hlen : Hid ((Sm.nrm l).length ≤ 16777216) := by have := Sm.nrm_len l; have := h.1; show _ ≤ _; omega
  go_enter Try.func17, Try.ntmps17
  go_wp2_with (first
    | (go_at_call 15; refine (rnrm_any _ _ _ _ _ h hb24).mono ?_; rintro e w1 ⟨r1, rfl, hO1, hA1⟩; obtain ⟨a1, cap1, rfl, _, _, _⟩ := hO1.form)
    | (go_at_call 44; refine (rput_any a1 _ cap1 _ x v _ (hO1.held (by have := hlen.out; omega)) hlen.out).mono ?_; rintro e w2 ⟨r, rfl, hO2, hA2⟩))
  go_ret
  exact ⟨_, rfl, hO2.mono hA1.size, hA1.trans hA2⟩
set_option maxHeartbeats 1000000 in
theorem clone_any (a : Option Addr) (len cap : Nat) (l : List Cl) (w : World) (h : Held w a len l) (hb24 : len ≤ 16777216) : Calls Try.prog 39 #[.slice a len cap] w fun e w' => ∃ r, e = .returned r ∧ Owns w' w.heap.size r l ∧ Adds w w' := by
  have HL : Hid (l.length = len) := h.1
  have q22 : ∀ (w : World) (a : Option Addr) (n c n' c' : Nat), (binOp .eql 22 (.slice a n c) (.slice none n' c')).run Try.prog w = .ok (.bool a.isNone) w := fun w a n c n' c' => Lib.run_eql_slice_nil w _ _ a n c n' c' Try.underlying22
  cases a with
  | none =>
    have h0 : len = 0 := by
      rcases Nat.eq_zero_or_pos len with h0 | h0
      · exact h0
      · obtain ⟨b, o, e, _⟩ := h.2.2 h0; cases e
    subst h0
    have HE : Hid (l = []) := List.eq_nil_of_length_eq_zero HL.out
    go_enter Try.func39, Try.ntmps39
    go_wp2
    go_ret
    exact ⟨_, rfl, by rw [HE.out]; exact Owns.nil _ _, Adds.refl _⟩
  | some ad =>
    go_enter Try.func39, Try.ntmps39
    go_wp2_with (at_builtin; go_loud (refine wpList_appA rfl _ _ rfl w.heap.size (.slice (some ⟨w.heap.size, 0, none⟩) 0 0) [] rfl (Owns.made w) ad len cap l rfl HL.out (h.adds ((Adds.refl w).alloc _)).news (by simp; omega) (by simp) ?_; intro v1 w2 hO1 hg1 _; have hA1 : Adds w w2 := ((Adds.refl w).alloc _).grown hg1 (Owns.made w)); clear hg1)
    go_ret
    exact ⟨_, rfl, by simpa using hO1, hA1⟩
end Go.Proofs.Ytfddefoambakiaa
