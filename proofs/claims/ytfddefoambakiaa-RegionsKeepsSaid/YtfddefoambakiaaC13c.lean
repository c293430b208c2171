/- Contracts of package regions and of its reference: Waits, Write. Conditions: the slices hold the lists; the list that is written has at most 16,777,215 cells. -/
import Derived.Test.YtfddefoambakiaaC13b
namespace Go.Proofs.Ytfddefoambakiaa
open Go.ChangeShapes Go.WideShapes Go.ChangeAt Go.RowKit
set_option linter.unusedVariables false
theorem limit_any (n : Int) (w : World) : Calls Try.prog 51 #[.int .i64 n] w fun e w' => e = .returned (.int .i64 (Sm.lim n)) ∧ Adds w w' := by
  by_cases h0 : n < 0
  · have HV : Hid (Sm.lim n = 0) := by show _ = _; unfold Sm.lim; rw [if_pos h0]
    go_enter Try.func51, Try.ntmps51
    go_wp2
    all_goals (go_ret; exact ⟨rn (by rw [HV.out] <;> omega), Adds.refl _⟩)
  · by_cases h1 : 100 < n
    · have HV : Hid (Sm.lim n = 100) := by show _ = _; unfold Sm.lim; rw [if_neg h0, if_pos h1]
      go_enter Try.func51, Try.ntmps51
      go_wp2
      all_goals (go_ret; exact ⟨rn (by rw [HV.out] <;> omega), Adds.refl _⟩)
    · have HV : Hid (Sm.lim n = n) := by show _ = _; unfold Sm.lim; rw [if_neg h0, if_neg h1]
      go_enter Try.func51, Try.ntmps51
      go_wp2
      all_goals (go_ret; exact ⟨rn (by rw [HV.out] <;> omega), Adds.refl _⟩)
theorem Sm.minmax (n : Int) : min (max n 0) 100 = Sm.lim n := by unfold Sm.lim; split <;> (try split) <;> omega
set_option maxHeartbeats 1000000 in
theorem rgwaits_any (a : Option Addr) (len cap : Nat) (l : List Rg) (x : Int) (w : World) (h : HeldR w a len l) : Calls Try.prog 32 #[.slice a len cap, .int .u16 x] w fun e w' => e = .returned (.int .i64 (Sm.wts l x)) ∧ Adds w w' := by
  have HF := Lib.hid (find_any a len cap l x w h)
  rcases Sm.fnd_spec l x with ⟨h1, h2⟩ | ⟨j, r, h1, h2, h3⟩
  · rw [h1] at HF
    have HV : Hid (Sm.wts l x = 0) := by show _ = _; unfold Sm.wts; rw [h2]
    clear h h1 h2
    go_enter Try.func32, Try.ntmps32
    go_wp2_with (go_at_call 28; (with_reducible refine HF.out.mono ?_); rintro e w1 ⟨rfl, A1⟩)
    go_ret
    exact ⟨rn HV.out.symm, A1⟩
  · rw [h1] at HF
    have HV : Hid (Sm.wts l x = Sm.lim r.wt) := by show _ = _; unfold Sm.wts; rw [h3]
    have hjl := (List.getElem?_eq_some_iff.1 h2).1
    have hl := h.1
    have hjz : (j : Int) < (len : Int) := by omega
    have HH := Lib.hid h
    have H2 := Lib.hid h2
    obtain ⟨b, o, rfl, _, _⟩ := h.2.2 (by omega)
    clear h h1 h2 h3 hjl hl
    go_enter Try.func32, Try.ntmps32
    go_wp2_with (go_at_call 28; (with_reducible refine HF.out.mono ?_); rintro e w1 ⟨rfl, A1⟩; obtain ⟨b', o', hbo, hb', hat⟩ := (HH.out.adds A1).2.2 (by omega); obtain ⟨rfl, rfl⟩ : b = b' ∧ o = o' := (by simpa using hbo); obtain ⟨g1, g2, g3, g4⟩ := hat j r H2.out; clear hat hbo)
    all_goals (go_ret; exact ⟨rn (by rw [HV.out]; unfold Sm.lim; split <;> (try split) <;> (try split at *) <;> omega), A1⟩)
set_option maxHeartbeats 1000000 in
theorem rrgwaits_any (a : Option Addr) (len cap : Nat) (l : List Rg) (x : Int) (w : World) (h : HeldR w a len l) : Calls Try.prog 33 #[.slice a len cap, .int .u16 x] w fun e w' => e = .returned (.int .i64 (Sm.wts l x)) ∧ Adds w w' := by
  have HF := Lib.hid (rfind_any a len cap l x w h)
  rcases Sm.fnd_spec l x with ⟨h1, h2⟩ | ⟨j, r, h1, h2, h3⟩
  · rw [h1] at HF
    have HV : Hid (Sm.wts l x = 0) := by show _ = _; unfold Sm.wts; rw [h2]
    clear h h1 h2
    go_enter Try.func33, Try.ntmps33
    go_wp2_with (go_at_call 29; (with_reducible refine HF.out.mono ?_); rintro e w1 ⟨rfl, A1⟩)
    go_ret
    exact ⟨rn HV.out.symm, A1⟩
  · rw [h1] at HF
    have HV : Hid (Sm.wts l x = Sm.lim r.wt) := by show _ = _; unfold Sm.wts; rw [h3]
    have hjl := (List.getElem?_eq_some_iff.1 h2).1
    have hl := h.1
    have hjz : (j : Int) < (len : Int) := by omega
    have HH := Lib.hid h
    have H2 := Lib.hid h2
    obtain ⟨b, o, rfl, _, _⟩ := h.2.2 (by omega)
    clear h h1 h2 h3 hjl hl
    go_enter Try.func33, Try.ntmps33
    go_wp2_with (first
      | (go_at_call 29; (with_reducible refine HF.out.mono ?_); rintro e w1 ⟨rfl, A1⟩; obtain ⟨b', o', hbo, hb', hat⟩ := (HH.out.adds A1).2.2 (by omega); obtain ⟨rfl, rfl⟩ : b = b' ∧ o = o' := (by simpa using hbo); obtain ⟨g1, g2, g3, g4⟩ := hat j r H2.out; clear hat hbo)
      | (go_at_call 51; (with_reducible refine (limit_any _ w1).mono ?_); rintro e w2 ⟨rfl, A2⟩))
    go_ret
    exact ⟨rn (by rw [HV.out]), A1.trans A2⟩
theorem rnrm_hh (a : Option Addr) (len cap : Nat) (l : List Cl) (w : World) (h : Held w a len l) (hlen : len ≤ 16777215) :
    Calls Try.prog 15 #[.slice a len cap] w fun e w' => ∃ ad n c, e = .returned (.slice ad n c) ∧ Hid (Held w' ad n (Sm.nrm l)) ∧ Hid (n ≤ len) ∧ n ≤ c ∧ Adds w w' := rnrm_held a len cap l w h (by omega)
set_option maxHeartbeats 1000000 in
theorem rgwrite_any (a a2 : Option Addr) (len cap len2 cap2 : Nat) (l : List Rg) (d : List Cl) (x v : Int) (w : World) (h : HeldR w a len l) (hd : Held w a2 len2 d) (hlen : len2 ≤ 16777215) :
    Calls Try.prog 34 #[.slice a len cap, .slice a2 len2 cap2, .int .u16 x, .int .u8 v] w fun e w' => ∃ ad n c, e = .returned (.slice ad n c) ∧ Hid (Held w' ad n (Sm.wrt l d x v)) ∧ Hid (n ≤ len2 + 1) ∧ n ≤ c ∧ Adds w w' := by
  have HF := Lib.hid (find_any a len cap l x w h)
  have HD := Lib.hid hd
  rcases Sm.fnd_spec l x with ⟨h1, h2⟩ | ⟨j, r, h1, h2, h3⟩
  · rw [h1] at HF
    have HV : Hid (Sm.wrt l d x v = Sm.nrm d) := by show _ = _; unfold Sm.wrt Sm.ramAt; rw [h2]; rfl
    clear h h1 h2 hd
    go_enter Try.func34, Try.ntmps34
    go_wp2_with (first
      | (go_at_call 28; (with_reducible refine HF.out.mono ?_); rintro e w1 ⟨rfl, A1⟩)
      | (go_at_call 14; (with_reducible refine (norm_h a2 len2 cap2 d w1 (HD.out.adds A1) hlen).mono ?_); rintro e w2 ⟨ad, n, c, rfl, H2, hn2, hc2, A2⟩))
    go_ret
    exact ⟨ad, n, c, rfl, by rw [HV.out]; exact H2, (by have := hn2.out; show _ ≤ _; omega), hc2, A1.trans A2⟩
  · rw [h1] at HF
    have hjl := (List.getElem?_eq_some_iff.1 h2).1
    have hl := h.1
    have hjz : (j : Int) < (len : Int) := by omega
    have HH := Lib.hid h
    have H2 := Lib.hid h2
    obtain ⟨b, o, rfl, _, _⟩ := h.2.2 (by omega)
    have hram : Sm.ramAt l x = r.ram := by unfold Sm.ramAt; rw [h3]
    obtain ⟨fr, tw, ram, wt⟩ := r
    cases ram with
    | true =>
      have HV : Hid (Sm.wrt l d x v = Sm.put (Sm.nrm d) (x, v)) := by show _ = _; unfold Sm.wrt; rw [hram]; rfl
      clear h h1 h2 h3 hjl hl hd hram
      go_enter Try.func34, Try.ntmps34
      go_wp2_with (first
        | (go_at_call 28; (with_reducible refine HF.out.mono ?_); rintro e w1 ⟨rfl, A1⟩; obtain ⟨b', o', hbo, hb', hat⟩ := (HH.out.adds A1).2.2 (by omega); obtain ⟨rfl, rfl⟩ : b = b' ∧ o = o' := (by simpa using hbo); obtain ⟨g1, g2, g3, g4⟩ := hat j _ H2.out; (simp only at g1 g2 g3 g4); clear hat hbo)
        | (go_at_call 16; (with_reducible refine (put_h a2 len2 cap2 d x v w1 (HD.out.adds A1) hlen).mono ?_); rintro e w2 ⟨ad, n, c, rfl, H3, hn2, hc2, A2⟩))
      go_ret
      exact ⟨ad, n, c, rfl, by rw [HV.out]; exact H3, hn2, hc2, A1.trans A2⟩
    | false =>
      have HV : Hid (Sm.wrt l d x v = Sm.nrm d) := by show _ = _; unfold Sm.wrt; rw [hram]; rfl
      clear h h1 h2 h3 hjl hl hd hram
      go_enter Try.func34, Try.ntmps34
      go_wp2_with (first
        | (go_at_call 28; (with_reducible refine HF.out.mono ?_); rintro e w1 ⟨rfl, A1⟩; obtain ⟨b', o', hbo, hb', hat⟩ := (HH.out.adds A1).2.2 (by omega); obtain ⟨rfl, rfl⟩ : b = b' ∧ o = o' := (by simpa using hbo); obtain ⟨g1, g2, g3, g4⟩ := hat j _ H2.out; (simp only at g1 g2 g3 g4); clear hat hbo)
        | (go_at_call 14; (with_reducible refine (norm_h a2 len2 cap2 d w1 (HD.out.adds A1) hlen).mono ?_); rintro e w2 ⟨ad, n, c, rfl, H3, hn2, hc2, A2⟩))
      go_ret
      exact ⟨ad, n, c, rfl, by rw [HV.out]; exact H3, (by have := hn2.out; show _ ≤ _; omega), hc2, A1.trans A2⟩
set_option maxHeartbeats 1000000 in
theorem rrgwrite_any (a a2 : Option Addr) (len cap len2 cap2 : Nat) (l : List Rg) (d : List Cl) (x v : Int) (w : World) (h : HeldR w a len l) (hd : Held w a2 len2 d) (hlen : len2 ≤ 16777215) :
    Calls Try.prog 35 #[.slice a len cap, .slice a2 len2 cap2, .int .u16 x, .int .u8 v] w fun e w' => ∃ ad n c, e = .returned (.slice ad n c) ∧ Hid (Held w' ad n (Sm.wrt l d x v)) ∧ Hid (n ≤ len2 + 1) ∧ n ≤ c ∧ Adds w w' := by
  have HF := Lib.hid (rfind_any a len cap l x w h)
  have HD := Lib.hid hd
  rcases Sm.fnd_spec l x with ⟨h1, h2⟩ | ⟨j, r, h1, h2, h3⟩
  · rw [h1] at HF
    have HV : Hid (Sm.wrt l d x v = Sm.nrm d) := by show _ = _; unfold Sm.wrt Sm.ramAt; rw [h2]; rfl
    clear h h1 h2 hd
    go_enter Try.func35, Try.ntmps35
    go_wp2_with (first
      | (go_at_call 29; (with_reducible refine HF.out.mono ?_); rintro e w1 ⟨rfl, A1⟩)
      | (go_at_call 15; (with_reducible refine (rnrm_hh a2 len2 cap2 d w1 (HD.out.adds A1) hlen).mono ?_); rintro e w2 ⟨ad, n, c, rfl, H2, hn2, hc2, A2⟩))
    go_ret
    exact ⟨ad, n, c, rfl, by rw [HV.out]; exact H2, (by have := hn2.out; show _ ≤ _; omega), hc2, A1.trans A2⟩
  · rw [h1] at HF
    have hjl := (List.getElem?_eq_some_iff.1 h2).1
    have hl := h.1
    have hjz : (j : Int) < (len : Int) := by omega
    have HH := Lib.hid h
    have H2 := Lib.hid h2
    obtain ⟨b, o, rfl, _, _⟩ := h.2.2 (by omega)
    have hram : Sm.ramAt l x = r.ram := by unfold Sm.ramAt; rw [h3]
    obtain ⟨fr, tw, ram, wt⟩ := r
    cases ram with
    | true =>
      have HV : Hid (Sm.wrt l d x v = Sm.put (Sm.nrm d) (x, v)) := by show _ = _; unfold Sm.wrt; rw [hram]; rfl
      clear h h1 h2 h3 hjl hl hd hram
      go_enter Try.func35, Try.ntmps35
      go_wp2_with (first
        | (go_at_call 29; (with_reducible refine HF.out.mono ?_); rintro e w1 ⟨rfl, A1⟩; obtain ⟨b', o', hbo, hb', hat⟩ := (HH.out.adds A1).2.2 (by omega); obtain ⟨rfl, rfl⟩ : b = b' ∧ o = o' := (by simpa using hbo); obtain ⟨g1, g2, g3, g4⟩ := hat j _ H2.out; (simp only at g1 g2 g3 g4); clear hat hbo)
        | (go_at_call 17; (with_reducible refine (rput_h a2 len2 cap2 d x v w1 (HD.out.adds A1) hlen).mono ?_); rintro e w2 ⟨ad, n, c, rfl, H3, hn2, hc2, A2⟩))
      go_ret
      exact ⟨ad, n, c, rfl, by rw [HV.out]; exact H3, hn2, hc2, A1.trans A2⟩
    | false =>
      have HV : Hid (Sm.wrt l d x v = Sm.nrm d) := by show _ = _; unfold Sm.wrt; rw [hram]; rfl
      clear h h1 h2 h3 hjl hl hd hram
      go_enter Try.func35, Try.ntmps35
      go_wp2_with (first
        | (go_at_call 29; (with_reducible refine HF.out.mono ?_); rintro e w1 ⟨rfl, A1⟩; obtain ⟨b', o', hbo, hb', hat⟩ := (HH.out.adds A1).2.2 (by omega); obtain ⟨rfl, rfl⟩ : b = b' ∧ o = o' := (by simpa using hbo); obtain ⟨g1, g2, g3, g4⟩ := hat j _ H2.out; (simp only at g1 g2 g3 g4); clear hat hbo)
        | (go_at_call 15; (with_reducible refine (rnrm_hh a2 len2 cap2 d w1 (HD.out.adds A1) hlen).mono ?_); rintro e w2 ⟨ad, n, c, rfl, H3, hn2, hc2, A2⟩))
      go_ret
      exact ⟨ad, n, c, rfl, by rw [HV.out]; exact H3, (by have := hn2.out; show _ ≤ _; omega), hc2, A1.trans A2⟩
end Go.Proofs.Ytfddefoambakiaa
