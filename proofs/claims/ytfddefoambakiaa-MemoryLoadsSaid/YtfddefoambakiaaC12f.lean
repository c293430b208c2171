/- slices.swapRangeCmpFunc and rotateCmpFunc at cells: two stretches of a slice of the call's own change places. Conditions: the slice is of the call's own. -/
import Derived.Test.YtfddefoambakiaaC12e
namespace Go.Proofs.Ytfddefoambakiaa
open Go.ChangeShapes Go.WideShapes Go.ChangeAt Go.RowKit
set_option linter.unusedVariables false
theorem Sm.set_far (L1 L2 L3 : List Cl) (u z : Cl) : ((L1 ++ u :: (L2 ++ z :: L3)).set L1.length z).set (L1.length + 1 + L2.length) u = L1 ++ z :: (L2 ++ u :: L3) := by
  have h1 : (L1 ++ u :: (L2 ++ z :: L3)).set L1.length z = L1 ++ z :: (L2 ++ z :: L3) := by simp []
  rw [h1, List.set_append, if_neg (by omega), show L1.length + 1 + L2.length - L1.length = L2.length + 1 by omega]
  simp []
theorem Sm.at_one (L1 R : List Cl) (u : Cl) : (L1 ++ u :: R)[L1.length]? = some u := by simp
theorem Sm.at_two (L1 L2 L3 : List Cl) (u z : Cl) : (L1 ++ u :: (L2 ++ z :: L3))[L1.length + 1 + L2.length]? = some z := by
  rw [List.getElem?_append_right (by omega), show L1.length + 1 + L2.length - L1.length = L2.length + 1 by omega]; simp
set_option maxHeartbeats 4000000 in
theorem swap_any (base g n cap : Nat) (X U V Z Y : List Cl) (f : Value) (a b m : Int) (w : World) (hO : Owns w base (.slice (some ⟨g, 0, none⟩) n cap) (X ++ U ++ V ++ Z ++ Y)) (hbig : (X ++ U ++ V ++ Z ++ Y).length ≤ 16777216)
    (ha : a = X.length) (hb : b = X.length + U.length + V.length) (hm : m = U.length) (hUZ : Z.length = U.length) :
    Calls Try.prog 62 #[.slice (some ⟨g, 0, none⟩) n cap, .int .i64 a, .int .i64 b, .int .i64 m, f] w fun e w' => e = .returned (.tuple #[]) ∧ Owns w' base (.slice (some ⟨g, 0, none⟩) n cap) (X ++ Z ++ V ++ U ++ Y) ∧ w.grownBy w' (some g) := by
  obtain ⟨hn, hcap, hcap2⟩ := hO.len
  obtain ⟨a', ha'⟩ : ∃ a', a' = X.length := ⟨_, rfl⟩
  obtain ⟨b', hb'⟩ : ∃ b', b' = X.length + U.length + V.length := ⟨_, rfl⟩
  obtain ⟨m', hm'⟩ : ∃ m', m' = U.length := ⟨_, rfl⟩
  have hlen : b' + m' + Y.length = n := by rw [hn]; simp; omega
  have hbn : b' + m' ≤ n := by omega
  have hab : a' + m' ≤ b' := by omega
  have hbig' : n ≤ 16777216 := by omega
  have hnc : n ≤ cap := by omega
  obtain rfl : a = (a' : Int) := by omega
  obtain rfl : b = (b' : Int) := by omega
  obtain rfl : m = (m' : Int) := by omega
  have HA : Hid (a' = X.length) := ha'
  have HB : Hid (b' = X.length + U.length + V.length) := hb'
  have HM : Hid (m' = U.length) := hm'
  have HU : Hid (Z.length = U.length) := hUZ
  clear ha hb hm ha' hb' hm' hlen hn hbig hcap hUZ
  go_enter Try.func62, Try.ntmps62
  go_wp2
  go_loopw [10] (fun vi wr => ∃ i : Nat, vi = .int .i64 i ∧ i ≤ m' ∧ Owns wr base (.slice (some ⟨g, 0, none⟩) n cap) (X ++ Z.take i ++ U.drop i ++ V ++ U.take i ++ Z.drop i ++ Y) ∧ w.grownBy wr (some g)) (fun vi _ => m' - (intOf vi).toNat)
  case atStart => exact ⟨0, rfl, Nat.zero_le _, by simpa using hO, grown_refl _ _⟩
  case round =>
    obtain ⟨i, rfl, him, hO1, hG⟩ := hrel
    by_cases hlt : i < m'
    · have hltz : (i : Int) < (m' : Int) := by omega
      have hiU : i < U.length := by have := HM.out; omega
      have hiZ : i < Z.length := by have := HU.out; omega
      obtain ⟨ux, uv, hu⟩ := get_pair hiU
      obtain ⟨zx, zv, hz⟩ := get_pair hiZ
      have dU : U.drop i = (ux, uv) :: U.drop (i + 1) := by
        rw [List.drop_eq_getElem_cons hiU]; congr 1; rw [List.getElem?_eq_getElem hiU] at hu; exact Option.some.inj hu
      have dZ : Z.drop i = (zx, zv) :: Z.drop (i + 1) := by
        rw [List.drop_eq_getElem_cons hiZ]; congr 1; rw [List.getElem?_eq_getElem hiZ] at hz; exact Option.some.inj hz
      have tU : U.take (i + 1) = U.take i ++ [(ux, uv)] := by rw [List.take_add_one, hu]; rfl
      have tZ : Z.take (i + 1) = Z.take i ++ [(zx, zv)] := by rw [List.take_add_one, hz]; rfl
      obtain ⟨p, hp⟩ : ∃ p, p = a' + i := ⟨_, rfl⟩
      obtain ⟨q, hq⟩ : ∃ q, q = b' + i := ⟨_, rfl⟩
      have l1 : (X ++ Z.take i).length = p := by have := HA.out; simp; omega
      have l2 : p + 1 + (U.drop (i + 1) ++ V ++ U.take i).length = q := by have := HA.out; have := HB.out; simp; omega
      have eL : X ++ Z.take i ++ U.drop i ++ V ++ U.take i ++ Z.drop i ++ Y = (X ++ Z.take i) ++ (ux, uv) :: ((U.drop (i + 1) ++ V ++ U.take i) ++ (zx, zv) :: (Z.drop (i + 1) ++ Y)) := by rw [dU, dZ]; simp
      rw [eL] at hO1
      have g1 := Sm.at_one (X ++ Z.take i) ((U.drop (i + 1) ++ V ++ U.take i) ++ (zx, zv) :: (Z.drop (i + 1) ++ Y)) (ux, uv)
      have g2 := Sm.at_two (X ++ Z.take i) (U.drop (i + 1) ++ V ++ U.take i) (Z.drop (i + 1) ++ Y) (ux, uv) (zx, zv)
      have hsw := Sm.set_far (X ++ Z.take i) (U.drop (i + 1) ++ V ++ U.take i) (Z.drop (i + 1) ++ Y) (ux, uv) (zx, zv)
      rw [l1] at g1; rw [l1, l2] at g2 hsw
      have hS1 := hO1.store p zx zv
      have hS2 := hS1.1.store q ux uv
      rw [hsw] at hS2
      have eN : (X ++ Z.take i) ++ (zx, zv) :: ((U.drop (i + 1) ++ V ++ U.take i) ++ (ux, uv) :: (Z.drop (i + 1) ++ Y)) = X ++ Z.take (i + 1) ++ U.drop (i + 1) ++ V ++ U.take (i + 1) ++ Z.drop (i + 1) ++ Y := by rw [tU, tZ]; simp
      rw [eN] at hS2
      have HS2 : Hid _ := Lib.hid (And.intro hS2.1 ((hG.trans hS1.2).trans hS2.2))
      obtain ⟨p1, p2⟩ := hO1.at_ p ux uv g1
      obtain ⟨c1, c2⟩ := hO1.at_ q zx zv g2
      rw [Nat.zero_add] at p1 p2 c1 c2
      have f1 := hO1.frozen (p * 2)
      have f2 := hO1.frozen (p * 2 + 1)
      have f3 := hO1.frozen (q * 2)
      have f4 := hO1.frozen (q * 2 + 1)
      have w1 : IntKind.i64.wrap ((a' : Int) + (i : Int)) = (p : Int) := by rw [IntKind.wrap_i64]; omega
      have w2 : IntKind.i64.wrap ((b' : Int) + (i : Int)) = (q : Int) := by rw [IntKind.wrap_i64]; omega
      have w3 : (a' : Int) + (i : Int) = (p : Int) := by omega
      have w4 : (b' : Int) + (i : Int) = (q : Int) := by omega
      have b1 : (p : Int) < (n : Int) := by omega
      have b2 : (q : Int) < (n : Int) := by omega
      have b3 : p ≠ q := by omega
      clear hu hz dU dZ tU tZ hp hq l1 l2 eL g1 g2 hsw hS1 hS2 eN hO1 hG hO hiU hiZ
      go_wp2_with fail
      go_region
      all_goals
        go_wp2_with fail
        go_roundw
        case rel => exact ⟨i + 1, by go_num, by omega, HS2.out.1.adds ((Adds.refl _).drew), HS2.out.2.trans ((Adds.refl _).drew.grownBy _)⟩
        case measure => simp [intOf] <;> omega
    · have hltz : ¬ (i : Int) < (m' : Int) := by omega
      have e : X ++ Z.take i ++ U.drop i ++ V ++ U.take i ++ Z.drop i ++ Y = X ++ Z ++ V ++ U ++ Y := by
        have := HM.out; have := HU.out
        rw [List.take_of_length_le (by omega), List.drop_eq_nil_of_le (by omega), List.take_of_length_le (by omega), List.drop_eq_nil_of_le (by omega)]; simp
      rw [e] at hO1
      clear e
      go_wp2_with fail
      go_end0
      exact ⟨rfl, by simpa using hO1, hG⟩
set_option maxHeartbeats 4000000 in
theorem rotate_any (base g n cap : Nat) (X A B Y : List Cl) (f : Value) (a m b : Int) (w : World) (hO : Owns w base (.slice (some ⟨g, 0, none⟩) n cap) (X ++ A ++ B ++ Y)) (hbig : (X ++ A ++ B ++ Y).length ≤ 16777216)
    (ha : a = X.length) (hm : m = X.length + A.length) (hb : b = X.length + A.length + B.length) (hA : A ≠ []) (hB : B ≠ []) :
    Calls Try.prog 60 #[.slice (some ⟨g, 0, none⟩) n cap, .int .i64 a, .int .i64 m, .int .i64 b, f] w fun e w' => e = .returned (.tuple #[]) ∧ Owns w' base (.slice (some ⟨g, 0, none⟩) n cap) (X ++ B ++ A ++ Y) ∧ w.grownBy w' (some g) := by
  obtain ⟨hn, hcap, hcap2⟩ := hO.len
  obtain ⟨m', hm'⟩ : ∃ m', m' = X.length + A.length := ⟨_, rfl⟩
  have hA0 : 0 < A.length := List.length_pos_iff.2 hA
  have hB0 : 0 < B.length := List.length_pos_iff.2 hB
  have hbig' : m' + B.length ≤ 16777216 := by simp at hbig; omega
  obtain rfl : m = (m' : Int) := by omega
  have HN : Hid _ := Lib.hid hbig
  obtain ⟨i0, hi0⟩ : ∃ i0, i0 = A.length := ⟨_, rfl⟩
  obtain ⟨j0, hj0⟩ : ∃ j0, j0 = B.length := ⟨_, rfl⟩
  have d3 : (m' : Int) - a = (i0 : Int) := by omega
  have d4 : b - (m' : Int) = (j0 : Int) := by omega
  have hi1 : 0 < i0 := by omega
  have hj1 : 0 < j0 := by omega
  have hi2 : i0 ≤ m' := by omega
  have hj2 : m' + j0 ≤ 16777216 := by omega
  have HM : Hid (X.length + i0 = m') := by show _ = _; omega
  have HI : Hid (A.length = i0) := hi0.symm
  have HJ : Hid (B.length = j0) := hj0.symm
  clear ha hm hb hm' hn hcap hA hB hbig hi0 hj0 hA0 hB0 hbig'
  go_enter Try.func60, Try.ntmps60
  go_wp2
  clear d3 d4
  go_loopw [10, 11] (fun vi vj wr => ∃ (i j : Nat) (X' A' B' Y' : List Cl), vi = .int .i64 i ∧ vj = .int .i64 j ∧ 0 < i ∧ 0 < j ∧ i ≤ m' ∧ m' + j ≤ 16777216 ∧ Hid (A'.length = i) ∧ Hid (B'.length = j) ∧ Hid (X'.length + i = m') ∧ Hid (X' ++ B' ++ A' ++ Y' = X ++ B ++ A ++ Y) ∧ Owns wr base (.slice (some ⟨g, 0, none⟩) n cap) (X' ++ A' ++ B' ++ Y') ∧ w.grownBy wr (some g)) (fun vi vj _ => (intOf vi).toNat + (intOf vj).toNat)
  case atStart => exact ⟨i0, j0, X, A, B, Y, rfl, rfl, hi1, hj1, hi2, hj2, HI, HJ, HM, rfl, hO, grown_refl _ _⟩
  case round =>
    obtain ⟨i, j, X', A', B', Y', rfl, rfl, hi1, hj1, hi2, hj2, HI, HJ, HX, HE, hO1, hG1⟩ := hrel
    have hbig : Hid ((X' ++ A' ++ B' ++ Y').length ≤ 16777216) := by
      have e := congrArg List.length HE.out
      show _ ≤ _
      have := HN.out
      simp at e this ⊢; omega
    have hi3 : (i : Int) ≤ (m' : Int) := by omega
    clear hO
    rcases Nat.lt_trichotomy i j with hij | hij | hij
    · -- the second is longer
      have hne : ((i : Int) != (j : Int)) = true := by simp; omega
      have hd : decide ((j : Int) < (i : Int)) = false := decide_eq_false (by omega)
      have hb1 : (B'.take (j - i)).length = j - i := by have := HJ.out; simp; omega
      have hb2 : (B'.drop (j - i)).length = i := by have := HJ.out; simp; omega
      have eB : B'.take (j - i) ++ B'.drop (j - i) = B' := List.take_append_drop _ _
      have hO2 : Owns wr base (.slice (some ⟨g, 0, none⟩) n cap) (X' ++ A' ++ B'.take (j - i) ++ B'.drop (j - i) ++ Y') := by rw [List.append_assoc (X' ++ A'), eB]; exact hO1
      have hbig2 : (X' ++ A' ++ B'.take (j - i) ++ B'.drop (j - i) ++ Y').length ≤ 16777216 := by rw [List.append_assoc (X' ++ A'), eB]; exact hbig.out
      have hE2 : X' ++ B'.take (j - i) ++ B'.drop (j - i) ++ (A' ++ Y') = X ++ B ++ A ++ Y := by rw [List.append_assoc X', eB, ← HE.out]; simp
      have HB1 : Hid _ := Lib.hid hb1
      have HB2 : Hid _ := Lib.hid hb2
      have HO2 : Hid _ := Lib.hid hO2
      have HG2 : Hid _ := Lib.hid hbig2
      have HE2 : Hid _ := Lib.hid hE2
      have hijz : (i : Int) < (j : Int) := by omega
      have hij0 : (0 : Int) < (i : Int) := by omega
      clear hb1 hb2 eB hO2 hbig2 hE2
      go_wp2_with (go_at_call 62; refine (swap_any base g n cap X' A' (B'.take (j - i)) (B'.drop (j - i)) Y' _ _ _ _ _ HO2.out HG2.out (by have := HX.out; omega) (by have := HX.out; have := HB1.out; have := HI.out; omega) (by have := HI.out; omega) (by have := HB2.out; have := HI.out; omega)).mono ?_; rintro e w2 ⟨rfl, hO3, hG3⟩)
      go_roundw
      case rel => exact ⟨i, j - i, X', B'.drop (j - i), B'.take (j - i), A' ++ Y', rfl, (by congr 1; omega), hi1, by omega, hi2, by omega, HB2, HB1, HX, HE2, by simpa using hO3, hG1.trans hG3⟩
      case measure => simp [intOf] <;> omega
    · subst hij
      have HO2 : Hid (Owns wr base (.slice (some ⟨g, 0, none⟩) n cap) (X' ++ A' ++ [] ++ B' ++ Y')) := by show Owns _ _ _ _; simpa using hO1
      have HG2 : Hid ((X' ++ A' ++ [] ++ B' ++ Y').length ≤ 16777216) := by show _ ≤ _; have := hbig.out; simpa using this
      go_wp2_with (go_at_call 62; refine (swap_any base g n cap X' A' [] B' Y' _ _ _ _ _ HO2.out HG2.out (by have := HX.out; omega) (by have := HX.out; have := HI.out; simp; omega) (by have := HI.out; omega) (by have := HJ.out; have := HI.out; omega)).mono ?_; rintro e w2 ⟨rfl, hO3, hG3⟩)
      go_end0
      exact ⟨rfl, by rw [← HE.out]; simpa using hO3, hG1.trans hG3⟩
    · -- the first is longer
      have hne : ((i : Int) != (j : Int)) = true := by simp; omega
      have hd : decide ((j : Int) < (i : Int)) = true := decide_eq_true (by omega)
      have ha1 : (A'.take j).length = j := by have := HI.out; simp; omega
      have ha2 : (A'.drop j).length = i - j := by have := HI.out; simp; omega
      have eA : A'.take j ++ A'.drop j = A' := List.take_append_drop _ _
      have hO2 : Owns wr base (.slice (some ⟨g, 0, none⟩) n cap) (X' ++ A'.take j ++ A'.drop j ++ B' ++ Y') := by rw [List.append_assoc X', eA]; exact hO1
      have hbig2 : (X' ++ A'.take j ++ A'.drop j ++ B' ++ Y').length ≤ 16777216 := by rw [List.append_assoc X', eA]; exact hbig.out
      have hE2 : (X' ++ B') ++ A'.take j ++ A'.drop j ++ Y' = X ++ B ++ A ++ Y := by rw [List.append_assoc (X' ++ B'), eA, ← HE.out]
      have HB1 : Hid _ := Lib.hid ha1
      have HB2 : Hid _ := Lib.hid ha2
      have HO2 : Hid _ := Lib.hid hO2
      have HG2 : Hid _ := Lib.hid hbig2
      have HE2 : Hid _ := Lib.hid hE2
      have hijz : (j : Int) < (i : Int) := by omega
      have hij0 : (0 : Int) < (j : Int) := by omega
      clear ha1 ha2 eA hO2 hbig2 hE2
      go_wp2_with (go_at_call 62; refine (swap_any base g n cap X' (A'.take j) (A'.drop j) B' Y' _ _ _ _ _ HO2.out HG2.out (by have := HX.out; omega) (by have := HX.out; have := HB1.out; have := HB2.out; omega) (by have := HB1.out; omega) (by have := HB1.out; have := HJ.out; omega)).mono ?_; rintro e w2 ⟨rfl, hO3, hG3⟩)
      go_roundw
      case rel => exact ⟨i - j, j, X' ++ B', A'.drop j, A'.take j, Y', (by congr 1; omega), rfl, by omega, hj1, by omega, hj2, HB2, HB1, (by show _ = _; have := HX.out; have := HJ.out; simp; omega), HE2, by simpa using hO3, hG1.trans hG3⟩
      case measure => simp [intOf] <;> omega
end Go.Proofs.Ytfddefoambakiaa
