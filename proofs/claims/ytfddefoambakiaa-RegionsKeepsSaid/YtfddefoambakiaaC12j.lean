/- slices.stableCmpFunc and SortStableFunc at cells, of any number up to 2^24; memory.Normalize there. Conditions: the slice is of the call's own. -/
import Derived.Test.YtfddefoambakiaaC12h
import Derived.Test.YtfddefoambakiaaC12o
namespace Go.Proofs.Ytfddefoambakiaa
open Go.ChangeShapes Go.WideShapes Go.ChangeAt Go.RowKit
set_option linter.unusedVariables false
/-- Every stretch of s cells is in order. -/
def Sm.Blk (s : Nat) (e : List Cl) : Prop := ∀ k, Sm.Srt ((e.drop (k * s)).take s)
theorem Sm.blk_one {s : Nat} {q : List Cl} (hl : q.length ≤ s) (h : Sm.Srt q) : Sm.Blk s q := by
  intro k
  cases k with
  | zero => simpa [List.take_of_length_le hl] using h
  | succ k =>
    rw [List.drop_eq_nil_of_le (by rw [Nat.succ_mul]; omega)]
    simp [Sm.Srt]
theorem Sm.blk_app {s k : Nat} {p q : List Cl} (hp : p.length = k * s) (h1 : Sm.Blk s p) (h2 : Sm.Blk s q) : Sm.Blk s (p ++ q) := by
  intro j
  by_cases hj : j < k
  · have hm : (j + 1) * s ≤ k * s := Nat.mul_le_mul_right s hj
    rw [Nat.succ_mul] at hm
    have : ((p ++ q).drop (j * s)).take s = (p.drop (j * s)).take s := by
      rw [List.drop_append_of_le_length (by omega), List.take_append_of_le_length (by rw [List.length_drop]; omega)]
    rw [this]; exact h1 j
  · have hm : k * s ≤ j * s := Nat.mul_le_mul_right s (by omega)
    have : (p ++ q).drop (j * s) = q.drop ((j - k) * s) := by
      rw [List.drop_append, List.drop_eq_nil_of_le (by omega), List.nil_append, hp, Nat.sub_mul]
    rw [this]; exact h2 (j - k)
theorem Sm.blk_drop {s : Nat} {q : List Cl} (h : Sm.Blk s q) (j : Nat) : Sm.Blk s (q.drop (j * s)) := by
  intro k
  rw [List.drop_drop, ← Nat.add_mul]
  exact h (j + k)
theorem Sm.blk_srt {s : Nat} {q : List Cl} (h : Sm.Blk s q) : Sm.Srt (q.take s) := by simpa using h 0
theorem Sm.blk_srt2 {s : Nat} {q : List Cl} (h : Sm.Blk s q) : Sm.Srt ((q.drop s).take s) := by simpa using h 1
theorem Sm.blk_all {s : Nat} {q : List Cl} (h : Sm.Blk s q) (hl : q.length ≤ s) : Sm.Srt q := by have := Sm.blk_srt h; rwa [List.take_of_length_le hl] at this
/-- One merge: the next two stretches. -/
theorem Sm.blk_step {s k : Nat} {d P R : List Cl} (hP : P.length = k * (2 * s)) (h1 : Sm.Blk (2 * s) P) (h2 : Sm.Blk s R) (hR : 2 * s ≤ R.length) (hd : Sm.Stb d (P ++ R)) :
    Sm.Blk (2 * s) (P ++ Sm.st (R.take s ++ (R.drop s).take s)) ∧ Sm.Blk s (R.drop (2 * s)) ∧ Sm.Stb d ((P ++ Sm.st (R.take s ++ (R.drop s).take s)) ++ R.drop (2 * s)) := by
  have hl : (Sm.st (R.take s ++ (R.drop s).take s)).length = 2 * s := by rw [Sm.len_st]; simp; omega
  have hS : R.take s ++ (R.drop s).take s ++ R.drop (2 * s) = R := by
    rw [show R.drop (2 * s) = (R.drop s).drop s by rw [List.drop_drop]; congr 1; omega, List.append_assoc, List.take_append_drop, List.take_append_drop]
  refine ⟨Sm.blk_app hP h1 (Sm.blk_one (by omega) (Sm.srt_st _)), Sm.blk_drop h2 2, ?_⟩
  refine hd.trans ?_
  have e : Sm.Stb (P ++ (R.take s ++ (R.drop s).take s ++ R.drop (2 * s))) (P ++ (Sm.st (R.take s ++ (R.drop s).take s) ++ R.drop (2 * s))) := (Sm.Stb.refl _).app ((Sm.stb_st _).app (Sm.Stb.refl _))
  rw [hS] at e
  simpa using e
theorem Sm.blk_last {s k : Nat} {d P R : List Cl} (hP : P.length = k * (2 * s)) (h1 : Sm.Blk (2 * s) P) (hR : R.length ≤ 2 * s) (hd : Sm.Stb d (P ++ R)) :
    Sm.Blk (2 * s) (P ++ Sm.st R) ∧ Sm.Stb d (P ++ Sm.st R) :=
  ⟨Sm.blk_app hP h1 (Sm.blk_one (by rw [Sm.len_st]; omega) (Sm.srt_st _)), hd.trans ((Sm.Stb.refl _).app (Sm.stb_st _))⟩
set_option maxHeartbeats 8000000 in
theorem stable_any (base g n cap : Nat) (d : List Cl) (w : World) (hO : Owns w base (.slice (some ⟨g, 0, none⟩) n cap) d) (hbig : n ≤ 16777216) :
    Calls Try.prog 52 #[.slice (some ⟨g, 0, none⟩) n cap, .int .i64 (n : Int), .func (.func 41) #[] #[]] w fun e w' => e = .returned (.tuple #[]) ∧ Owns w' base (.slice (some ⟨g, 0, none⟩) n cap) (Sm.st d) ∧ w.grownBy w' (some g) := by
  have HN : Hid (d.length = n) := hO.len.1.symm
  -- the calls
  have HI : Hid (∀ (a b : Nat) (X M Y : List Cl) (wx : World), Owns wx base (.slice (some ⟨g, 0, none⟩) n cap) (X ++ (M ++ Y)) → X.length = a → X.length + M.length = b → Calls Try.prog 57 #[.slice (some ⟨g, 0, none⟩) n cap, .int .i64 (a : Int), .int .i64 (b : Int), .func (.func 41) #[] #[]] wx fun e w' => e = .returned (.tuple #[]) ∧ Owns w' base (.slice (some ⟨g, 0, none⟩) n cap) (X ++ (Sm.st M ++ Y)) ∧ wx.grownBy w' (some g)) := by
    show ∀ (a b : Nat), _
    rintro a b X M Y wx hO rfl rfl
    rw [← List.append_assoc] at hO
    have h := isort_any base g n cap X M Y wx hO (by rw [← hO.len.1]; exact hbig)
    rw [List.append_assoc] at h
    exact h
  have HM : Hid (∀ (a m b : Nat) (X A B Y : List Cl) (wx : World), Owns wx base (.slice (some ⟨g, 0, none⟩) n cap) (X ++ (A ++ B ++ Y)) → X.length = a → X.length + A.length = m → X.length + A.length + B.length = b → Sm.Srt A → Sm.Srt B → 0 < A.length → 0 < B.length → Calls Try.prog 58 #[.slice (some ⟨g, 0, none⟩) n cap, .int .i64 (a : Int), .int .i64 (m : Int), .int .i64 (b : Int), .func (.func 41) #[] #[]] wx fun e w' => e = .returned (.tuple #[]) ∧ Owns w' base (.slice (some ⟨g, 0, none⟩) n cap) (X ++ Sm.st (A ++ B) ++ Y) ∧ wx.grownBy w' (some g)) := by
    show ∀ (a m b : Nat), _
    rintro a m b X A B Y wx hO rfl rfl rfl hA hB hA0 hB0
    have hl := hO.len.1
    refine sym_any base g n cap _ X A B Y _ _ _ wx (Nat.le_refl _) (by simpa using hO) ?_ rfl (by omega) (by omega) hA hB hA0 hB0
    simp at hl; omega
  go_enter Try.func52, Try.ntmps52
  go_wp2
  go_loopg [7, 8] (n + 1) (fun g1 v7 v8 wr => ∃ (a b : Nat) (P R : List Cl), v7 = .int .i64 a ∧ v8 = .int .i64 b ∧ Hid (b = a + 20) ∧ b ≤ n + 20 ∧ a ≤ n ∧ n - a ≤ g1 ∧ Hid (∃ k, a = k * 20) ∧ Hid (P.length = a) ∧ Hid (Sm.Blk 20 P) ∧ Hid (Sm.Stb d (P ++ R)) ∧ Owns wr base (.slice (some ⟨g, 0, none⟩) n cap) (P ++ R) ∧ w.grownBy wr (some g))
  case atStart => exact ⟨0, 20, [], d, rfl, rfl, rfl, by omega, by omega, by omega, ⟨0, rfl⟩, rfl, (Sm.blk_one (q := []) (by simp) List.Pairwise.nil), Sm.Stb.refl _, hO, grown_refl _ _⟩
  case round =>
    obtain ⟨a, b, P, R, rfl, rfl, HAB, hbn, han, hg1, HK, HP, HB, HD, hO1, hG1⟩ := hrel
    have HLN : Hid (a + R.length = n) := by show _ = _; have h1 := hO1.len.1; have := HP.out; simp at h1; omega
    by_cases hlt : b ≤ n
    · have hz : (b : Int) ≤ (n : Int) := by omega
      have hab := HAB.out
      have HO : Hid (Owns wr base (.slice (some ⟨g, 0, none⟩) n cap) (P ++ (R.take 20 ++ R.drop 20))) := by show Owns _ _ _ _; rw [List.take_append_drop]; exact hO1
      have HC := Lib.hid (HI.out a b P (R.take 20) (R.drop 20) wr HO.out HP.out (by have := HLN.out; have := HP.out; simp; omega))
      have hk : Hid (∃ k, b = k * 20) := by show ∃ k, _; obtain ⟨k, hk⟩ := HK.out; exact ⟨k + 1, by omega⟩
      have hd : Hid (Sm.Stb d (P ++ (Sm.st (R.take 20) ++ R.drop 20))) := by
        show Sm.Stb _ _
        refine HD.out.trans ?_
        have e : Sm.Stb (P ++ (R.take 20 ++ R.drop 20)) (P ++ (Sm.st (R.take 20) ++ R.drop 20)) := (Sm.Stb.refl _).app ((Sm.stb_st _).app (Sm.Stb.refl _))
        rwa [List.take_append_drop] at e
      have hb : Hid (Sm.Blk 20 (P ++ Sm.st (R.take 20))) := by
        show Sm.Blk _ _
        obtain ⟨k, hk⟩ := HK.out
        exact Sm.blk_app (by rw [HP.out]; exact hk) HB.out (Sm.blk_one (by rw [Sm.len_st]; simp; omega) (Sm.srt_st _))
      have hp : Hid ((P ++ Sm.st (R.take 20)).length = b) := by show _ = _; have := HP.out; have := HLN.out; rw [List.length_append, Sm.len_st]; simp; omega
      have hm : a < b := by omega
      clear hO1 HO hab
      go_wp2_with (go_at_call 57; refine HC.out.mono ?_; rintro e w2 ⟨rfl, hO2, hG2⟩)
      go_roundg (n - b)
      case measure => omega
      case rel => exact ⟨b, b + 20, P ++ Sm.st (R.take 20), R.drop 20, (by go_num), (by go_num), rfl, by omega, by omega, by omega, hk, hp, hb, (by show Sm.Stb _ _; rw [List.append_assoc]; exact hd.out), (by rw [List.append_assoc]; simpa using hO2), hG1.trans hG2⟩
    · have hz : ¬ (b : Int) ≤ (n : Int) := by omega
      have hab := HAB.out
      have HC := Lib.hid (HI.out a n P R [] wr (by simpa using hO1) HP.out (by have := HLN.out; have := HP.out; omega))
      have hd : Hid (Sm.Stb d (P ++ Sm.st R)) := HD.out.trans ((Sm.Stb.refl _).app (Sm.stb_st _))
      have hb : Hid (Sm.Blk 20 (P ++ Sm.st R)) := by
        show Sm.Blk _ _
        obtain ⟨k, hk⟩ := HK.out
        exact Sm.blk_app (by rw [HP.out]; exact hk) HB.out (Sm.blk_one (by rw [Sm.len_st]; have := HLN.out; omega) (Sm.srt_st _))
      clear hab
      go_wp2_with (go_at_call 57; refine HC.out.mono ?_; rintro e w2 ⟨rfl, hO2, hG2⟩)
      have hO2 : Owns w2 base (.slice (some ⟨g, 0, none⟩) n cap) (P ++ Sm.st R) := by simpa using hO2
      have hG2 := hG1.trans hG2
      clear hO1 hG1
      generalize P ++ Sm.st R = e0 at hd hb hO2
      clear HK HP HB HD HLN HC hz hlt hg1 han HI HAB hbn
      go_loopg [6] (n) (fun g2 v6 wr => ∃ (s : Nat) (e : List Cl), v6 = .int .i64 s ∧ 1 ≤ s ∧ s ≤ 40000000 ∧ n - s ≤ g2 ∧ Hid (Sm.Blk s e) ∧ Hid (Sm.Stb d e) ∧ Owns wr base (.slice (some ⟨g, 0, none⟩) n cap) e ∧ w.grownBy wr (some g))
      case atStart => exact ⟨20, e0, rfl, by omega, by omega, by omega, hb, hd, hO2, hG2⟩
      case round =>
        obtain ⟨s, e, rfl, hs1, hs2, hg2, HB, HD, hO3, hG3⟩ := hrel
        have HEL : Hid (e.length = n) := hO3.len.1.symm
        clear hO2 hG2 hb hd
        by_cases hsn : s < n
        · have hz : (s : Int) < (n : Int) := by omega
          obtain ⟨t, ht⟩ : ∃ t, t = 2 * s := ⟨_, rfl⟩
          have w1 : IntKind.i64.wrap (2 * (s : Int)) = (t : Int) := by rw [IntKind.wrap_i64]; omega
          have w2 : 2 * (s : Int) = (t : Int) := by omega
          have w3 : IntKind.i64.wrap ((s : Int) * 2) = (t : Int) := by rw [IntKind.wrap_i64]; omega
          have w4 : (s : Int) * 2 = (t : Int) := by omega
          have HT : Hid (t = 2 * s) := ht
          have hst : s < t := by omega
          have ht2 : t ≤ 40000000 := by omega
          clear ht
          go_wp2_with fail
          go_loopg [7, 8] (n) (fun g3 v7 v8 wr3 => ∃ (a b : Nat) (P R : List Cl), v7 = .int .i64 a ∧ v8 = .int .i64 b ∧ Hid (b = a + t) ∧ b ≤ n + t ∧ a ≤ n ∧ n - a ≤ g3 ∧ Hid (∃ k, a = k * t) ∧ Hid (P.length = a) ∧ Hid (Sm.Blk t P) ∧ Hid (Sm.Blk s R) ∧ Hid (Sm.Stb d (P ++ R)) ∧ Owns wr3 base (.slice (some ⟨g, 0, none⟩) n cap) (P ++ R) ∧ w.grownBy wr3 (some g))
          case atStart => exact ⟨0, t, [], e, rfl, (by go_num), (by show _ = _; omega), by omega, by omega, by omega, ⟨0, by simp⟩, rfl, (Sm.blk_one (q := []) (by simp) List.Pairwise.nil), HB, HD, by simpa using hO3, hG3⟩
          case round =>
            obtain ⟨a, b, P, R, rfl, rfl, HAB, hbn, han, hg3, HK, HP, HBP, HBR, HD2, hO4, hG4⟩ := hrel
            have HLN : Hid (a + R.length = n) := by show _ = _; have h1 := hO4.len.1; have := HP.out; simp at h1; omega
            clear hO3 hG3 HB HD HEL
            by_cases hlt : b ≤ n
            · have hz1 : (b : Int) ≤ (n : Int) := by omega
              obtain ⟨m, hm⟩ : ∃ m, m = a + s := ⟨_, rfl⟩
              have m1 : (a : Int) + (s : Int) = (m : Int) := by omega
              have hlr : R.length = n - a := by have := HLN.out; omega
              have hR1 : (R.take s).length = s := by have := HAB.out; have := HT.out; rw [List.length_take]; omega
              have hR2 : ((R.drop s).take s).length = s := by have := HAB.out; have := HT.out; rw [List.length_take, List.length_drop]; omega
              have HC := Lib.hid (HM.out a m b P (R.take s) ((R.drop s).take s) (R.drop t) wr (by
                have e1 : R.take s ++ (R.drop s).take s ++ R.drop t = R := by
                  rw [show R.drop t = (R.drop s).drop s by rw [List.drop_drop, HT.out]; congr 1; omega, List.append_assoc, List.take_append_drop, List.take_append_drop]
                rw [e1]; exact hO4) HP.out (by have := HP.out; omega) (by have := HP.out; have := HAB.out; have := HT.out; omega) (Sm.blk_srt HBR.out) (Sm.blk_srt2 HBR.out) (by omega) (by omega))
              have HS : Hid (∃ k, b = k * t) := by show ∃ k, _; obtain ⟨k, hk⟩ := HK.out; have := HAB.out; exact ⟨k + 1, by rw [Nat.succ_mul]; omega⟩
              have HST : Hid _ := Lib.hid (by
                have hkk := HK.out
                obtain ⟨k, hk⟩ := hkk
                exact Sm.blk_step (s := s) (k := k) (d := d) (P := P) (R := R) (by rw [HP.out, hk, HT.out]) (by rw [← HT.out]; exact HBP.out) HBR.out (by have := HAB.out; have := HT.out; omega) HD2.out)
              have HPL : Hid ((P ++ Sm.st (R.take s ++ (R.drop s).take s)).length = b) := by show _ = _; have := HP.out; have := HAB.out; have := HT.out; rw [List.length_append, Sm.len_st, List.length_append]; omega
              have hm2 : a < b := by have := HAB.out; omega
              have hm3 : m < b := by have := HAB.out; omega
              clear hO4 hm hlr hR1 hR2
              go_wp2_with (go_at_call 58; refine HC.out.mono ?_; rintro e w5 ⟨rfl, hO5, hG5⟩)
              go_roundg (n - b)
              case measure => omega
              case rel => exact ⟨b, b + t, P ++ Sm.st (R.take s ++ (R.drop s).take s), R.drop t, (by go_num), (by go_num), rfl, by omega, by omega, by omega, HS, HPL, (by show Sm.Blk _ _; rw [HT.out]; exact HST.out.1), (by show Sm.Blk _ _; rw [HT.out]; exact HST.out.2.1), (by show Sm.Stb _ _; rw [HT.out]; exact HST.out.2.2), hO5, hG4.trans hG5⟩
            · have hz1 : ¬ (b : Int) ≤ (n : Int) := by omega
              obtain ⟨m, hm⟩ : ∃ m, m = a + s := ⟨_, rfl⟩
              have m1 : (a : Int) + (s : Int) = (m : Int) := by omega
              have hlr : R.length = n - a := by have := HLN.out; omega
              have HST : Hid _ := Lib.hid (by
                have hkk := HK.out
                obtain ⟨k, hk⟩ := hkk
                exact Sm.blk_last (s := s) (k := k) (d := d) (P := P) (R := R) (by rw [HP.out, hk, HT.out]) (by rw [← HT.out]; exact HBP.out) (by have := HAB.out; have := HT.out; omega) HD2.out)
              have hmn : m ≤ n + s := by omega
              by_cases hmz : m < n
              · have hz2 : (m : Int) < (n : Int) := by omega
                have HC := Lib.hid (HM.out a m n P (R.take s) (R.drop s) [] wr (by rw [List.append_nil, List.take_append_drop]; exact hO4) HP.out (by have := HP.out; rw [List.length_take]; omega) (by have := HP.out; rw [List.length_take, List.length_drop]; omega) (Sm.blk_srt HBR.out) (by
                  have q := Sm.blk_srt2 HBR.out
                  rwa [List.take_of_length_le (by rw [List.length_drop]; have := HAB.out; have := HT.out; omega)] at q) (by rw [List.length_take]; omega) (by rw [List.length_drop]; omega))
                clear hO4 hm hlr
                go_wp2_with (go_at_call 58; refine HC.out.mono ?_; rintro e w5 ⟨rfl, hO5, hG5⟩)
                rw [List.take_append_drop, List.append_nil] at hO5
                go_roundg (n - t)
                case measure => omega
                case rel => exact ⟨t, P ++ Sm.st R, (by go_num), by omega, by omega, by omega, (by show Sm.Blk _ _; rw [HT.out]; exact HST.out.1), HST.out.2, hO5, hG4.trans hG5⟩
              · have hz2 : ¬ (m : Int) < (n : Int) := by omega
                have HRS : Hid (Sm.st R = R) := Sm.st_srt (Sm.blk_all HBR.out (by omega))
                clear hm hlr
                go_wp2_with fail
                go_roundg (n - t)
                case measure => omega
                case rel => exact ⟨t, P ++ Sm.st R, (by go_num), by omega, by omega, by omega, (by show Sm.Blk _ _; rw [HT.out]; exact HST.out.1), HST.out.2, (by rw [HRS.out]; exact hO4), hG4⟩
        · have hz : ¬ (s : Int) < (n : Int) := by omega
          have HE : Hid (e = Sm.st d) := Sm.st_of (Sm.blk_all HB.out (by have := HEL.out; omega)) HD.out
          go_wp2_with fail
          go_end0
          exact ⟨rfl, by rw [← HE.out]; exact hO3, hG3⟩
theorem sort_any (base g n cap : Nat) (d : List Cl) (w : World) (hO : Owns w base (.slice (some ⟨g, 0, none⟩) n cap) d) (hbig : n ≤ 16777216) :
    Calls Try.prog 40 #[.slice (some ⟨g, 0, none⟩) n cap, .func (.func 41) #[] #[]] w fun e w' => e = .returned (.tuple #[]) ∧ Owns w' base (.slice (some ⟨g, 0, none⟩) n cap) (Sm.st d) ∧ w.grownBy w' (some g) := by
  have HI : Hid _ := Lib.hid (stable_any base g n cap d w hO hbig)
  clear hO
  go_enter Try.func40, Try.ntmps40
  go_wp2_with (go_at_call 52; refine HI.out.mono ?_; rintro e w2 ⟨rfl, hO2, hG2⟩)
  go_end0
  exact ⟨rfl, hO2, hG2⟩
theorem normAt_any : NormAt 16777217 := fun a len cap l w h hl => norm_of a len cap l w h (by omega) fun w1 g cap1 hO => sort_any w.heap.size g len cap1 l w1 hO (by omega)
end Go.Proofs.Ytfddefoambakiaa
