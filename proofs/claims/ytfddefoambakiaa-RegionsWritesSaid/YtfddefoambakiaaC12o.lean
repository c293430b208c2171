/- slices.BinarySearchFunc at cells; memory.Put, its Normalize given. Conditions: the slice holds the cells of a list that is short enough for that Normalize. -/
import Derived.Test.YtfddefoambakiaaC12n
import Derived.Test.YtfddefoambakiaaC12i
namespace Go.Proofs.Ytfddefoambakiaa
open Go.ChangeShapes Go.WideShapes Go.ChangeAt Go.RowKit
set_option linter.unusedVariables false
theorem Sm.cmp_eq {x y : Int} : Sm.cmp x y = 0 ↔ x = y := by
  unfold Sm.cmp; split
  · constructor <;> intro <;> omega
  · split <;> constructor <;> intro <;> omega
theorem Owns.form2 {w : World} {base : Nat} {v : Value} {d : List Cl} (h : Owns w base v d) :
    ∃ a n cap, v = .slice a n cap ∧ Hid (d.length = n) ∧ n ≤ cap ∧ cap ≤ 9223372036854775807 ∧ (0 < cap → ∃ g, a = some ⟨g, 0, none⟩ ∧ base ≤ g ∧ g < w.heap.size) := by
  obtain ⟨a, cap, h1, h2, h3, h4⟩ := h.form
  exact ⟨a, d.length, cap, h1, rfl, h2, h3, h4⟩
def Sm.hd (R : List Cl) (x : Int) : Bool := match R with
  | [] => false
  | c :: _ => c.1 == x
set_option maxHeartbeats 4000000 in
theorem search_any (a : Option Addr) (n cap : Nat) (L R : List Cl) (x : Int) (w : World) (h : Held w a n (L ++ R)) (hb : n ≤ 33554432) (hL : ∀ y ∈ L, y.1 < x) (hR : ∀ y ∈ R, x ≤ y.1) :
    Calls Try.prog 45 #[.slice a n cap, .int .u16 x, .func (.func 46) #[] #[]] w fun e w' => e = .returned (.tuple #[.int .i64 (L.length : Int), .bool (Sm.hd R x)]) ∧ Adds w w' := by
  obtain ⟨hl, hbig, hat⟩ := h
  obtain ⟨m, hm⟩ : ∃ m, m = L.length := ⟨_, rfl⟩
  have hmn : m ≤ n := by simp at hl; omega
  have HM : Hid _ := Lib.hid hm
  have HL : Hid _ := Lib.hid hl
  rw [← hm]
  clear hm hl
  go_enter Try.func45, Try.ntmps45
  go_wp2
  go_loopw [9, 10] (fun vi vj wr => ∃ i j : Nat, vi = .int .i64 i ∧ vj = .int .i64 j ∧ i ≤ m ∧ m ≤ j ∧ j ≤ n ∧ Adds w wr) (fun vi vj _ => (intOf vj - intOf vi).toNat)
  case atStart => exact ⟨0, n, rfl, rfl, Nat.zero_le _, hmn, Nat.le_refl _, Adds.refl _⟩
  case round =>
    obtain ⟨i, j, rfl, rfl, him, hmj, hjn, ⟨⟨n1, os1⟩, rfl⟩⟩ := hrel
    by_cases hlt : i < j
    · have hltz : (i : Int) < (j : Int) := by omega
      obtain ⟨b, o, rfl, hbw, hat⟩ := hat (by omega)
      obtain ⟨h, hh⟩ : ∃ h, h = (i + j) / 2 := ⟨_, rfl⟩
      have e1 : ((i : Int) + (j : Int)) / 2 = (h : Int) := by omega
      have hih : i ≤ h := by omega
      have hhj : h < j := by omega
      have hhn : (h : Int) < (n : Int) := by omega
      obtain ⟨y, u, hy⟩ := get_pair (d := L ++ R) (k := h) (by have := HL.out; omega)
      obtain ⟨k1, k2⟩ := hat h y u hy
      have HY : Hid _ := Lib.hid hy
      clear hh hy hat
      by_cases hlv : y < x
      · have hcd : decide (Sm.cmp y x < 0) = true := decide_eq_true (Sm.cmp_lt.2 hlv)
        have hhm : h < m := by
          rcases Nat.lt_or_ge h m with q | q
          · exact q
          · have h1 := HY.out
            rw [List.getElem?_append_right (by have := HM.out; omega)] at h1
            have := hR _ (List.mem_of_getElem? h1); simp only at this; omega
        go_wp2_with (go_at_call 46; refine (toAt_any _ _ _ _).mono ?_; rintro e w1 ⟨rfl, ⟨n2, os2⟩, rfl⟩)
        go_roundw
        case rel => exact ⟨h + 1, j, by go_num, rfl, by omega, hmj, hjn, by (repeat (first | with_reducible exact Adds.refl _ | with_reducible apply Adds.drew | with_reducible apply Adds.drewN | with_reducible apply Adds.alloc | with_reducible apply Adds.more | (with_reducible refine Adds.setCell ?_ ?_ _) | (focus (simp [go_sem]; done)) | (focus (simp [go_sem]; omega))))⟩
        case measure => simp [intOf] <;> omega
      · have hcd : decide (Sm.cmp y x < 0) = false := decide_eq_false fun q => hlv (Sm.cmp_lt.1 q)
        have hhm : m ≤ h := by
          rcases Nat.lt_or_ge h m with q | q
          · have h1 := HY.out
            rw [List.getElem?_append_left (by have := HM.out; omega)] at h1
            have := hL _ (List.mem_of_getElem? h1); simp only at this; omega
          · exact q
        go_wp2_with (go_at_call 46; refine (toAt_any _ _ _ _).mono ?_; rintro e w1 ⟨rfl, ⟨n2, os2⟩, rfl⟩)
        go_roundw
        case rel => exact ⟨i, h, rfl, rfl, him, hhm, by omega, by (repeat (first | with_reducible exact Adds.refl _ | with_reducible apply Adds.drew | with_reducible apply Adds.drewN | with_reducible apply Adds.alloc | with_reducible apply Adds.more | (with_reducible refine Adds.setCell ?_ ?_ _) | (focus (simp [go_sem]; done)) | (focus (simp [go_sem]; omega))))⟩
        case measure => simp [intOf] <;> omega
    · obtain rfl : i = m := by omega
      obtain rfl : j = i := by omega
      have hltz : ¬ (j : Int) < (j : Int) := by omega
      have hRc : R = [] ∨ ∃ y u R', R = (y, u) :: R' := by
        cases R with
        | nil => exact .inl rfl
        | cons c R' => exact .inr ⟨c.1, c.2, R', rfl⟩
      rcases hRc with hRc | ⟨y, u, R', hRc⟩
      · have hjn2 : ¬ (j : Int) < (n : Int) := by have h1 := HL.out; have h2 := HM.out; rw [hRc] at h1; simp at h1; omega
        have hV : Hid (Sm.hd R x = false) := by show _ = _; rw [hRc]; rfl
        clear hat hRc
        go_wp2_with fail
        go_ret2
        exact ⟨by rw [hV.out]; rfl, by (repeat (first | with_reducible exact Adds.refl _ | with_reducible apply Adds.drew | with_reducible apply Adds.drewN | with_reducible apply Adds.alloc | with_reducible apply Adds.more | (with_reducible refine Adds.setCell ?_ ?_ _) | (focus (simp [go_sem]; done)) | (focus (simp [go_sem]; omega))))⟩
      · have hjn2 : (j : Int) < (n : Int) := by have h1 := HL.out; have h2 := HM.out; rw [hRc] at h1; simp at h1; omega
        obtain ⟨b, o, rfl, hbw, hat⟩ := hat (by omega)
        obtain ⟨k1, k2⟩ := hat j y u (by rw [HM.out, hRc]; simp)
        by_cases hyx : y = x
        · have hc : (Sm.cmp y x == 0) = true := by simp [Sm.cmp_eq, hyx]
          have hV : Hid (Sm.hd R x = true) := by show _ = _; rw [hRc]; simp [Sm.hd, hyx]
          clear hat hRc hyx
          go_wp2_with (go_at_call 46; refine (toAt_any _ _ _ _).mono ?_; rintro e w1 ⟨rfl, ⟨n2, os2⟩, rfl⟩)
          go_ret2
          exact ⟨by rw [hV.out]; rfl, by (repeat (first | with_reducible exact Adds.refl _ | with_reducible apply Adds.drew | with_reducible apply Adds.drewN | with_reducible apply Adds.alloc | with_reducible apply Adds.more | (with_reducible refine Adds.setCell ?_ ?_ _) | (focus (simp [go_sem]; done)) | (focus (simp [go_sem]; omega))))⟩
        · have hc : (Sm.cmp y x == 0) = false := by simp [Sm.cmp_eq, hyx]
          have hV : Hid (Sm.hd R x = false) := by show _ = _; rw [hRc]; simp [Sm.hd, hyx]
          clear hat hRc hyx
          go_wp2_with (go_at_call 46; refine (toAt_any _ _ _ _).mono ?_; rintro e w1 ⟨rfl, ⟨n2, os2⟩, rfl⟩)
          go_ret2
          exact ⟨by rw [hV.out]; rfl, by (repeat (first | with_reducible exact Adds.refl _ | with_reducible apply Adds.drew | with_reducible apply Adds.drewN | with_reducible apply Adds.alloc | with_reducible apply Adds.more | (with_reducible refine Adds.setCell ?_ ?_ _) | (focus (simp [go_sem]; done)) | (focus (simp [go_sem]; omega))))⟩
/-- memory.Normalize for lists of fewer than N cells. -/
def NormAt (N : Nat) : Prop := ∀ (a : Option Addr) (len cap : Nat) (l : List Cl) (w : World), Held w a len l → len < N → Calls Try.prog 14 #[.slice a len cap] w fun e w' => ∃ r, e = .returned r ∧ Owns w' w.heap.size r (Sm.nrm l) ∧ Adds w w'
theorem normAt_few : NormAt 20 := fun a len cap l w h h20 => norm_few a len cap l w h h20
theorem Sm.put_found {L R : List Cl} {x u v : Int} (hL : ∀ y ∈ L, y.1 < x) (hR : Sm.V ((x, u) :: R)) : Sm.put (L ++ (x, u) :: R) (x, v) = L ++ Sm.one (x, v) ++ R := by
  have hlow := (List.pairwise_cons.1 hR.1).1
  rw [Sm.put_form (x, v) L ((x, u) :: R) hL (fun y hy => by rcases List.mem_cons.1 hy with rfl | hy; exact Int.le_refl _; have := hlow y hy; simp only at this ⊢; omega), List.filter_cons]
  simp only [bne_self_eq_false, Bool.false_eq_true, if_false]
  congr 1
  exact List.filter_eq_self.2 fun y hy => by have := hlow y hy; simp only at this; simp; omega
theorem Sm.put_new {L R : List Cl} {x v : Int} (hL : ∀ y ∈ L, y.1 < x) (hR : ∀ y ∈ R, x < y.1) : Sm.put (L ++ R) (x, v) = L ++ Sm.one (x, v) ++ R := by
  rw [Sm.put_form (x, v) L R hL (fun y hy => by have := hR y hy; simp only; omega)]
  congr 1
  exact List.filter_eq_self.2 fun y hy => by have := hR y hy; simp; omega
theorem Owns.store1 {w : World} {base g n cap : Nat} {L R : List Cl} {x u : Int} (h : Owns w base (.slice (some ⟨g, 0, none⟩) n cap) (L ++ (x, u) :: R)) (v : Int) :
    Owns (w.setCell ⟨g, L.length * 2 + 1, none⟩ (.int .u8 v)) base (.slice (some ⟨g, 0, none⟩) n cap) (L ++ (x, v) :: R) ∧ w.grownBy (w.setCell ⟨g, L.length * 2 + 1, none⟩ (.int .u8 v)) (some g) := by
  have hn := h.len.1
  subst hn
  have h1 := World.ownsRow.stored h (L.length * 2 + 1) (.int .u8 v)
  refine ⟨?_, h1.2⟩
  have e : (Sm.cv (L ++ (x, u) :: R)).set (L.length * 2 + 1) (.int .u8 v) = Sm.cv (L ++ (x, v) :: R) := by
    rw [Sm.cv_app, Sm.cv_app, List.set_append, if_neg (by rw [Sm.cv_len]; omega), Sm.cv_len, show L.length * 2 + 1 - L.length * 2 = 1 by omega]; rfl
  unfold Owns
  rw [← e, show (L ++ (x, v) :: R).length = (L ++ (x, u) :: R).length by simp]
  exact h1.1
theorem insert_all (base : Nat) (a : Option Addr) (n cap : Nat) (P Q : List Cl) (x v i : Int) (vb vc : Nat) (w : World) (hO : Owns w base (.slice a n cap) (P ++ Q)) (hbig : n ≤ 16777216) (hi : i = P.length) (hvh : w.heap[vb]? = some (.cells #[.int .u16 x, .int .u8 v] 59 (0, 0))) (hbase : base ≤ w.heap.size) (hvc : vc = 1) (hne : ∀ g, (Value.slice a n cap).ownBlock = some g → g < vb) :
    Calls Try.prog 48 #[.slice a n cap, .int .i64 i, .slice (some ⟨vb, 0, none⟩) 1 vc] w fun e w' => ∃ r, e = .returned r ∧ Owns w' base r (P ++ (x, v) :: Q) ∧ w.grownBy w' (Value.slice a n cap).ownBlock := by
  have hn : (P ++ Q).length = n := by
    obtain ⟨a1, c1, h1, _⟩ := hO.form
    simp only [Value.slice.injEq] at h1; exact h1.2.1.symm
  have hc : n ≤ cap := by
    obtain ⟨a1, c1, h1, h2, _⟩ := hO.form
    simp only [Value.slice.injEq] at h1; omega
  by_cases hQ : 0 < Q.length
  · obtain ⟨a1, c1, h1, h2, h3, h4⟩ := hO.form
    simp only [Value.slice.injEq] at h1
    obtain ⟨rfl, _, rfl⟩ := h1
    obtain ⟨g, rfl, hg1, hg2⟩ := h4 (by simp at hn; omega)
    have hvg : vb ≠ g := by have := hne g rfl; omega
    by_cases hroom : n + 1 ≤ cap
    · exact (insert_in base g n cap P Q x v i vb vc w hO hbig hi hQ hroom hvg hvh).mono fun _ _ ⟨he, h5, h6⟩ => ⟨_, he, h5, h6⟩
    · obtain rfl : cap = n := by omega
      exact insert_grow base g cap P Q x v i vb vc w hO hbig hi hQ hvg hvh hbase
  · have hQ0 : Q = [] := List.eq_nil_of_length_eq_zero (by omega)
    subst hQ0
    refine insert_end base a n cap P x v i vb vc w (by simpa using hO) hbig (by simp at hn; omega) ?_ hbase
    intro j y u hj
    match j, hj with
    | 0, hj =>
      simp at hj
      obtain ⟨rfl, rfl⟩ := hj
      rw [cell_of_row w vb _ _ _ (0, 0) hvh, cell_of_row w vb _ _ _ (0, 0) hvh]
      exact ⟨rfl, rfl⟩
    | j + 1, hj => simp at hj
set_option maxHeartbeats 1600000 in
theorem put_of (N : Nat) (hN : NormAt N) (hN2 : N ≤ 16777216) (a : Option Addr) (len cap : Nat) (l : List Cl) (x v : Int) (w : World) (h : Held w a len l) (hlen : len < N) :
    Calls Try.prog 16 #[.slice a len cap, .int .u16 x, .int .u8 v] w fun e w' => ∃ r, e = .returned r ∧ Owns w' w.heap.size r (Sm.put (Sm.nrm l) (x, v)) ∧ Adds w w' := by
  obtain ⟨L, R, hLR, hL, hR⟩ := Sm.split_at (Sm.nrm l) (Sm.V_nrm l) x
  have hnl : (Sm.nrm l).length ≤ 16777216 := by have := Sm.nrm_len l; have := h.1; omega
  have hV := Sm.V_nrm l
  have hnorm := hN a len cap l w h hlen
  rw [hLR] at hnl hV hnorm ⊢
  have hLn : L.length + R.length ≤ 16777216 := by simpa using hnl
  have HNO : Hid _ := Lib.hid hnorm
  have HLL : Hid _ := Lib.hid hL
  have HRR : Hid _ := Lib.hid hR
  have HLN : Hid (L.length + R.length ≤ 16777216) := hLn
  have hLz : (L.length : Int) ≤ 16777216 := by omega
  clear h hnorm hLR hnl hN hLn
  have hsearch : ∀ (w1 : World) (a1 : Option Addr) (n1 c1 : Nat), Held w1 a1 n1 (L ++ R) → Calls Try.prog 45 #[.slice a1 n1 c1, .int .u16 x, .func (.func 46) #[] #[]] w1 fun e w' => e = .returned (.tuple #[.int .i64 (L.length : Int), .bool (Sm.hd R x)]) ∧ Adds w1 w' := fun w1 a1 n1 c1 hh => search_any a1 n1 c1 L R x w1 hh (by have q1 := hh.1; have q2 := HLN.out; rw [List.length_append] at q1; omega) hL hR
  have HSE : Hid _ := Lib.hid hsearch
  clear hsearch hL hR
  have hRc : (∃ u R', R = (x, u) :: R') ∨ (Sm.hd R x = false ∧ ∀ y ∈ R, x < y.1) := by
    cases R with
    | nil => exact .inr ⟨rfl, fun y hy => by cases hy⟩
    | cons c R' =>
      by_cases hc : c.1 = x
      · exact .inl ⟨c.2, R', by rw [← hc]⟩
      · refine .inr ⟨by simp [Sm.hd, hc], fun y hy => ?_⟩
        have h1 := HRR.out c (by simp)
        have h2 := (List.pairwise_cons.1 hV.right.1).1
        rcases List.mem_cons.1 hy with rfl | hy
        · omega
        · have := h2 y hy; omega
  rcases hRc with ⟨u, R', hRe⟩ | ⟨hhd, hRgt⟩
  · subst hRe
    have hhd : Hid (Sm.hd ((x, u) :: R') x = true) := by show _ = _; simp [Sm.hd]
    have hput := fun v => Sm.put_found (v := v) HLL.out hV.right
    have HP : Hid _ := Lib.hid (hput v)
    clear hput
    by_cases hv : v = 0
    · subst hv
      have HP2 : Hid (Sm.put (L ++ (x, u) :: R') (x, 0) = L ++ R') := by show _ = _; rw [HP.out]; simp [Sm.one]
      go_enter Try.func16, Try.ntmps16
      go_wp2_with (first
        | (go_at_call 14; refine HNO.out.mono ?_; rintro e w1 ⟨r1, rfl, hO1, hA1⟩; obtain ⟨a1, n1, c1, rfl, hn1, hc1, hc2, hc3⟩ := hO1.form2; obtain ⟨g, rfl, hg1, hg2⟩ := hc3 (by have q1 := HLN.out; have q2 := hn1.out; rw [List.length_append, List.length_cons] at q2; rw [List.length_cons] at q1; omega); have hH1 := hO1.held (by have q1 := HLN.out; have q2 := hn1.out; rw [hn1.out]; rw [List.length_append, List.length_cons] at q2; rw [List.length_cons] at q1; omega))
        | (go_at_call 45; refine (HSE.out w1 _ n1 c1 hH1).mono ?_; rw [hhd.out]; rintro e w2 ⟨rfl, hA2⟩; have hO2 := hO1.adds hA2)
        | (go_at_call 47; refine (delete_any w.heap.size g n1 c1 L R' (x, u) _ _ _ hO2 (by have q1 := HLN.out; have q2 := hn1.out; rw [List.length_append, List.length_cons] at q2; rw [List.length_cons] at q1; omega) rfl rfl).mono ?_; rintro e w3 ⟨rfl, hO3, hG3⟩))
      go_ret
      exact ⟨_, rfl, by rw [HP2.out]; exact hO3, (hA1.trans hA2).of_grown hG3 hg1⟩
    · have hvb : (v == 0) = false := by simpa using hv
      have HP2 : Hid (Sm.put (L ++ (x, u) :: R') (x, v) = L ++ (x, v) :: R') := by show _ = _; rw [HP.out]; simp [Sm.one, hv]
      clear hv
      go_enter Try.func16, Try.ntmps16
      go_wp2_with (first
        | (go_at_call 14; refine HNO.out.mono ?_; rintro e w1 ⟨r1, rfl, hO1, hA1⟩; obtain ⟨a1, n1, c1, rfl, hn1, hc1, hc2, hc3⟩ := hO1.form2; obtain ⟨g, rfl, hg1, hg2⟩ := hc3 (by have q1 := HLN.out; have q2 := hn1.out; rw [List.length_append, List.length_cons] at q2; rw [List.length_cons] at q1; omega); have hH1 := hO1.held (by have q1 := HLN.out; have q2 := hn1.out; rw [hn1.out]; rw [List.length_append, List.length_cons] at q2; rw [List.length_cons] at q1; omega))
        | (go_at_call 45; refine (HSE.out w1 _ n1 c1 hH1).mono ?_; rw [hhd.out]; rintro e w2 ⟨rfl, hA2⟩; have hO2 := hO1.adds hA2; have f1 := (hO2.at_ L.length x u (by simp)).2; rw [Nat.zero_add] at f1; have f2 := hO2.frozen (L.length * 2 + 1); have hlt1 : (L.length : Int) < (n1 : Int) := (by have q1 := HLN.out; have q2 := hn1.out; rw [List.length_append, List.length_cons] at q2; rw [List.length_cons] at q1; omega); have HST := Lib.hid (hO2.store1 v)))
      go_ret
      exact ⟨_, rfl, by rw [HP2.out]; exact (HST.out.1), (hA1.trans hA2).of_grown HST.out.2 hg1⟩
  · have hhd : Hid (Sm.hd R x = false) := hhd
    have HP : Hid _ := Lib.hid (Sm.put_new (v := v) HLL.out hRgt)
    by_cases hv : v = 0
    · subst hv
      have HP2 : Hid (Sm.put (L ++ R) (x, 0) = L ++ R) := by show _ = _; rw [HP.out]; simp [Sm.one]
      clear hRgt
      go_enter Try.func16, Try.ntmps16
      go_wp2_with (first
        | (go_at_call 14; refine HNO.out.mono ?_; rintro e w1 ⟨r1, rfl, hO1, hA1⟩; obtain ⟨a1, n1, c1, rfl, hn1, hc1, hc2, hc3⟩ := hO1.form2; have hH1 := hO1.held (by have q1 := HLN.out; have q2 := hn1.out; rw [hn1.out]; rw [List.length_append] at q2; omega))
        | (go_at_call 45; refine (HSE.out w1 _ n1 c1 hH1).mono ?_; rw [hhd.out]; rintro e w2 ⟨rfl, hA2⟩; have hO2 := hO1.adds hA2))
      go_ret
      exact ⟨_, rfl, by rw [HP2.out]; exact hO2, hA1.trans hA2⟩
    · have hvb : (v == 0) = false := by simpa using hv
      have HP2 : Hid (Sm.put (L ++ R) (x, v) = L ++ (x, v) :: R) := by show _ = _; rw [HP.out]; simp [Sm.one, hv]
      clear hv hRgt
      go_enter Try.func16, Try.ntmps16
      go_wp2_with (first
        | (go_at_call 14; refine HNO.out.mono ?_; rintro e w1 ⟨r1, rfl, hO1, hA1⟩; obtain ⟨a1, n1, c1, rfl, hn1, hc1, hc2, hc3⟩ := hO1.form2; have hH1 := hO1.held (by have q1 := HLN.out; have q2 := hn1.out; rw [hn1.out]; rw [List.length_append] at q2; omega))
        | (go_at_call 45; refine (HSE.out w1 _ n1 c1 hH1).mono ?_; rw [hhd.out]; rintro e w2 ⟨rfl, hA2⟩; have hO2 := hO1.adds hA2)
        | (go_at_call 48; refine (insert_all w.heap.size _ n1 c1 L R x v _ _ _ _ (hO2.alloc _) (by have q1 := HLN.out; have q2 := hn1.out; rw [List.length_append] at q2; omega) rfl (heap_alloc_new w2 _) (by have := hA1.size; have := hA2.size; simp; omega) (by simp) (fun g e => by have := World.ownsRow.lt hO2 g e; omega)).mono ?_; rintro e w3 ⟨r3, rfl, hO3, hG3⟩))
      go_ret
      exact ⟨_, rfl, by rw [HP2.out]; exact hO3, ((hA1.trans hA2).alloc _).grown hG3 (hO2.alloc _)⟩
end Go.Proofs.Ytfddefoambakiaa
