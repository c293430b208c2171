/- slices.symMergeCmpFunc at cells: two sorted stretches of a slice of the call's own are merged. Conditions: the slice is of the call's own, the stretches are sorted. -/
import Derived.Test.YtfddefoambakiaaC12g
import Derived.Deep.CutRange
namespace Go.Proofs.Ytfddefoambakiaa
open Go.ChangeShapes Go.WideShapes Go.ChangeAt Go.RowKit
set_option linter.unusedVariables false
/-- Where the search of a merge ends, the lists are parted as they must be. -/
theorem Sm.sym_split (A B : List Cl) (a m b c p lo hi i e : Nat) (hAl : A.length = m - a) (hBl : B.length = b - m) (ham : a < m) (hmb : m < b) (hla : a ≤ lo) (hli : lo ≤ i) (hih : i ≤ hi) (hhm : hi ≤ m)
    (hp : p + 1 = c + m) (he : e + i = c + m) (hme : m ≤ e) (heb : e ≤ b) (hst : (c < m ∧ lo + b = c + m ∧ hi = c) ∨ (m ≤ c ∧ lo = a ∧ hi = m)) (hA : Sm.Srt A) (hB : Sm.Srt B)
    (HI : ∀ k x y, lo ≤ k → k < i → A[k - a]? = some x → B[p - k - m]? = some y → x.1 ≤ y.1) (HJ : ∀ k x y, i ≤ k → k < hi → A[k - a]? = some x → B[p - k - m]? = some y → y.1 < x.1) :
    Sm.st (A.take (i - a) ++ B.take (e - m)) ++ Sm.st (A.drop (i - a) ++ B.drop (e - m)) = Sm.st (A ++ B) := by
  have h := Sm.merge_split (A1 := A.take (i - a)) (A2 := A.drop (i - a)) (B1 := B.take (e - m)) (B2 := B.drop (e - m)) (by rw [List.take_append_drop]; exact hA) (by rw [List.take_append_drop]; exact hB) ?_ ?_
  · rwa [List.take_append_drop, List.take_append_drop] at h
  · intro x hx y hy
    obtain ⟨t, ht, et⟩ := Sm.mem_drop_get hx
    obtain ⟨r, hr, er⟩ := Sm.mem_take_get hy
    have htl := (List.getElem?_eq_some_iff.1 et).1
    have hrl := (List.getElem?_eq_some_iff.1 er).1
    obtain ⟨x0, v0, q1⟩ := get_pair (d := A) (k := i - a) (by omega)
    obtain ⟨y0, u0, q2⟩ := get_pair (d := B) (k := p - i - m) (by omega)
    have h0 := HJ i _ _ (Nat.le_refl _) (by omega) q1 q2
    have t1 := Sm.srt_get hA q1 et (by omega)
    have t2 := Sm.srt_get hB er q2 (by omega)
    simp only at h0 t1 t2; omega
  · intro x hx y hy
    obtain ⟨t, ht, et⟩ := Sm.mem_take_get hx
    obtain ⟨r, hr, er⟩ := Sm.mem_drop_get hy
    have htl := (List.getElem?_eq_some_iff.1 et).1
    have hrl := (List.getElem?_eq_some_iff.1 er).1
    obtain ⟨x0, v0, q1⟩ := get_pair (d := A) (k := i - 1 - a) (by omega)
    obtain ⟨y0, u0, q2⟩ := get_pair (d := B) (k := p - (i - 1) - m) (by omega)
    have h0 := HI (i - 1) _ _ (by omega) (by omega) q1 q2
    have t1 := Sm.srt_get hA et q1 (by omega)
    have t2 := Sm.srt_get hB q2 er (by omega)
    simp only at h0 t1 t2; omega
theorem Sm.bool_of (p : Prop) : ∃ c : Bool, Hid ((c = true → p) ∧ (c = false → ¬ p)) := by
  by_cases h : p
  · exact ⟨true, Lib.hid ⟨fun _ => h, (fun e => by cases e)⟩⟩
  · exact ⟨false, Lib.hid ⟨(fun e => by cases e), fun _ => h⟩⟩
theorem Sm.bool_yes {c : Bool} {p : Prop} (h : Hid ((c = true → p) ∧ (c = false → ¬ p))) (k : p) : Value.bool true = Value.bool c := by
  cases c with
  | true => rfl
  | false => exact absurd k (h.out.2 rfl)
theorem Sm.bool_no {c : Bool} {p : Prop} (h : Hid ((c = true → p) ∧ (c = false → ¬ p))) (k : ¬ p) : Value.bool false = Value.bool c := by
  cases c with
  | true => exact absurd (h.out.1 rfl) k
  | false => rfl
/-- What a merge of N cells or fewer does. -/
def SymAt (base g n cap N : Nat) : Prop := ∀ (X A B Y : List Cl) (a m b : Int) (w : World), A.length + B.length ≤ N → Owns w base (.slice (some ⟨g, 0, none⟩) n cap) (X ++ A ++ B ++ Y) → X.length + A.length + B.length + Y.length ≤ 16777216 →
    a = X.length → m = X.length + A.length → b = X.length + A.length + B.length → Sm.Srt A → Sm.Srt B → 0 < A.length → 0 < B.length →
    Calls Try.prog 58 #[.slice (some ⟨g, 0, none⟩) n cap, .int .i64 a, .int .i64 m, .int .i64 b, .func (.func 41) #[] #[]] w fun e w' => e = .returned (.tuple #[]) ∧ Owns w' base (.slice (some ⟨g, 0, none⟩) n cap) (X ++ Sm.st (A ++ B) ++ Y) ∧ w.grownBy w' (some g)
set_option maxRecDepth 100000 in
set_option maxHeartbeats 16000000 in
theorem sym_step (base g n cap N : Nat) (ih : SymAt base g n cap N) : SymAt base g n cap (N + 1) := by
  intro X A B Y a m b w hN hO hbig ha hm hb hA hB hA0 hB0
  by_cases hA1 : A.length = 1
  · match A, hA1 with
    | [(cx, cv)], _ =>
      have := sym_left base g n cap X B Y cx cv a m b w (by simpa using hO) (by simpa using hbig) ha (by simpa using hm) (by simpa using hb) hB hB0
      simpa using this
  by_cases hB1 : B.length = 1
  · match B, hB1 with
    | [(cx, cv)], _ =>
      have := sym_right base g n cap X A Y cx cv a m b w (by simpa using hO) (by simpa using hbig) ha hm (by simpa using hb) hA (by omega)
      simpa using this
  obtain ⟨hn, hcap, hcap2⟩ := hO.len
  obtain ⟨hg0, hgs⟩ := hO.lt
  obtain ⟨a', ha'⟩ : ∃ a', a' = X.length := ⟨_, rfl⟩
  obtain ⟨m', hm'⟩ : ∃ m', m' = X.length + A.length := ⟨_, rfl⟩
  obtain ⟨b', hb'⟩ : ∃ b', b' = X.length + A.length + B.length := ⟨_, rfl⟩
  have hlen : b' + Y.length = n := by rw [hn]; simp; omega
  obtain rfl : a = (a' : Int) := by omega
  obtain rfl : m = (m' : Int) := by omega
  obtain rfl : b = (b' : Int) := by omega
  have hab : a' + 1 < m' := by omega
  have hmb : m' + 1 < b' := by omega
  have hbn : b' ≤ n := by omega
  have hbig' : n ≤ 16777216 := by omega
  have hnc : n ≤ cap := by omega
  have HX : Hid (X.length = a') := ha'.symm
  have HAl : Hid (A.length = m' - a') := by show _ = _; omega
  have HBl : Hid (B.length = b' - m') := by show _ = _; omega
  have HBig : Hid _ := Lib.hid hbig
  have HIH : Hid _ := Lib.hid ih
  have HNN : Hid _ := Lib.hid hN
  have HSA : Hid _ := Lib.hid hA
  have HSB : Hid _ := Lib.hid hB
  -- the cells
  have KA0 : ∀ t y u, A[t]? = some (y, u) → w.cell? ⟨g, (a' + t) * 2, none⟩ = some (.int .u16 y) ∧ w.cell? ⟨g, (a' + t) * 2 + 1, none⟩ = some (.int .u8 u) := fun t y u h => by
    have ht := (List.getElem?_eq_some_iff.1 h).1
    have := hO.at_ (a' + t) y u (by
      rw [List.append_assoc, List.append_assoc, List.getElem?_append_right (by omega), show a' + t - X.length = t by omega, List.getElem?_append_left ht]; exact h)
    rw [Nat.zero_add] at this; exact this
  have KB0 : ∀ t y u, B[t]? = some (y, u) → w.cell? ⟨g, (m' + t) * 2, none⟩ = some (.int .u16 y) ∧ w.cell? ⟨g, (m' + t) * 2 + 1, none⟩ = some (.int .u8 u) := fun t y u h => by
    have ht := (List.getElem?_eq_some_iff.1 h).1
    have := hO.at_ (m' + t) y u (by
      rw [List.append_assoc, List.getElem?_append_right (by simp; omega), List.length_append, show m' + t - (X.length + A.length) = t by omega, List.getElem?_append_left ht]; exact h)
    rw [Nat.zero_add] at this; exact this
  have KA : Hid _ := Lib.hid KA0
  have KB : Hid _ := Lib.hid KB0
  have HO : Hid _ := Lib.hid hO
  have d3 : IntKind.i64.wrap ((m' : Int) - (a' : Int)) = (m' : Int) - (a' : Int) := by rw [IntKind.wrap_i64]; omega
  have d4 : ((m' : Int) - (a' : Int) == 1) = false := by simp; omega
  have d5 : IntKind.i64.wrap ((b' : Int) - (m' : Int)) = (b' : Int) - (m' : Int) := by rw [IntKind.wrap_i64]; omega
  have d6 : ((b' : Int) - (m' : Int) == 1) = false := by simp; omega
  obtain ⟨c0, hc0⟩ : ∃ c0, c0 = (a' + b') / 2 := ⟨_, rfl⟩
  have d7 : ((a' : Int) + (b' : Int)) / 2 = (c0 : Int) := by omega
  have hca : a' < c0 := by omega
  have hcb : c0 < b' := by omega
  obtain ⟨nn, hnn⟩ : ∃ nn, nn = c0 + m' := ⟨_, rfl⟩
  have d8 : (c0 : Int) + (m' : Int) = (nn : Int) := by omega
  obtain ⟨p, hp⟩ : ∃ p, p + 1 = nn := ⟨nn - 1, by omega⟩
  have d9 : (nn : Int) - 1 = (p : Int) := by omega
  have HP : Hid (p + 1 = c0 + m') := by show _ = _; omega
  have HNU : Hid (nn = c0 + m') := hnn
  have HC : Hid (2 * c0 ≤ a' + b' ∧ a' + b' ≤ 2 * c0 + 1) := by show _ ∧ _; omega
  have hpb : p ≤ 40000000 := by omega
  have hnb : nn ≤ 40000000 := by omega
  clear KA0 KB0 ha hm hb ha' hm' hb' hlen hn hbig hcap hO hN hA0 hB0 hA1 hB1 ih hc0 hnn hp hA hB
  go_enter Try.func58, Try.ntmps58
  go_upto_if 140 with fail
  go_cut [20, 21] from 138 to 146 (fun vl vh wx => ∃ lo hi : Nat, vl = .int .i64 lo ∧ vh = .int .i64 hi ∧ a' ≤ lo ∧ lo ≤ hi ∧ hi ≤ m' ∧ Hid (hi ≤ c0 ∧ nn ≤ b' + lo) ∧ Hid ((c0 < m' ∧ lo + b' = nn ∧ hi = c0) ∨ (m' ≤ c0 ∧ lo = a' ∧ hi = m')) ∧ wx = w)
  case first =>
    by_cases hgt : c0 < m'
    · have hz : (c0 : Int) < (m' : Int) := by omega
      obtain ⟨lo, hlo⟩ : ∃ lo, lo + b' = nn := ⟨nn - b', by have := HNU.out; have := HC.out; omega⟩
      have d10 : IntKind.i64.wrap ((nn : Int) - (b' : Int)) = (lo : Int) := by rw [IntKind.wrap_i64]; omega
      have d11 : (nn : Int) - (b' : Int) = (lo : Int) := by omega
      go_wp2_with fail
      go_meet
      case rel => exact ⟨lo, c0, rfl, rfl, by have := HNU.out; have := HC.out; omega, by have := HNU.out; have := HC.out; omega, by omega, by show _ ∧ _; omega, .inl ⟨hgt, hlo, rfl⟩, rfl⟩
    · have hz : ¬ (c0 : Int) < (m' : Int) := by omega
      go_wp2_with fail
      go_meet
      case rel => exact ⟨a', m', rfl, rfl, by omega, by omega, by omega, (by show _ ∧ _; have := HNU.out; have := HC.out; omega), .inr ⟨by omega, rfl, rfl⟩, rfl⟩
  case rest =>
    obtain ⟨lo, hi, rfl, rfl, hl1, hl2, hl3, HL4, HST, hwc⟩ := hcut
    have hwc := hwc.symm
    subst hwc
    have hlp : hi ≤ p ∧ p + 1 ≤ b' + lo ∧ m' + hi ≤ p + 1 := by have := HL4.out; have := HP.out; have := HNU.out; omega
    have HLP : Hid _ := Lib.hid hlp
    clear hlp d3 d4 d5 d6 d7 d8
    go_wp2_with fail
    clear d9
    go_loopw [20, 21] (fun vi vj wr => ∃ i j : Nat, vi = .int .i64 i ∧ vj = .int .i64 j ∧ lo ≤ i ∧ i ≤ j ∧ j ≤ hi ∧ Hid (∀ c x y, lo ≤ c → c < i → A[c - a']? = some x → B[p - c - m']? = some y → x.1 ≤ y.1) ∧ Hid (∀ c x y, j ≤ c → c < hi → A[c - a']? = some x → B[p - c - m']? = some y → y.1 < x.1) ∧ Adds w wr) (fun vi vj _ => (intOf vj - intOf vi).toNat)
    case atStart => exact ⟨lo, hi, rfl, rfl, Nat.le_refl _, hl2, Nat.le_refl _, fun c x y h1 h2 => absurd h2 (by omega), fun c x y h1 h2 => absurd h2 (by omega), Adds.refl _⟩
    case round =>
      obtain ⟨i, j, rfl, rfl, hai, hij, hjb, HI, HJ, ⟨⟨n1, os1⟩, rfl⟩⟩ := hrel
      by_cases hlt : i < j
      · have hltz : (i : Int) < (j : Int) := by omega
        obtain ⟨h, hh⟩ : ∃ h, h = (i + j) / 2 := ⟨_, rfl⟩
        have e1 : ((i : Int) + (j : Int)) / 2 = (h : Int) := by omega
        have hih : i ≤ h := by omega
        have hhj : h < j := by omega
        obtain ⟨q, hq⟩ : ∃ q, q + h = p := ⟨p - h, by have := HLP.out; omega⟩
        have e2 : IntKind.i64.wrap ((p : Int) - (h : Int)) = (q : Int) := by rw [IntKind.wrap_i64]; omega
        have e3 : (p : Int) - (h : Int) = (q : Int) := by omega
        have hhn : (h : Int) < (n : Int) := by omega
        have hqm : m' ≤ q ∧ q < b' := by have := HLP.out; omega
        have hqn : (q : Int) < (n : Int) := by omega
        obtain ⟨x, v, hx⟩ := get_pair (d := A) (k := h - a') (by have := HAl.out; omega)
        obtain ⟨y, u, hy⟩ := get_pair (d := B) (k := q - m') (by have := HBl.out; omega)
        obtain ⟨k1, k2⟩ := KA.out _ x v hx
        obtain ⟨k3, k4⟩ := KB.out _ y u hy
        rw [show a' + (h - a') = h by omega] at k1 k2
        rw [show m' + (q - m') = q by omega] at k3 k4
        have hup : Hid (y < x → ∀ c x y, h ≤ c → c < hi → A[c - a']? = some x → B[p - c - m']? = some y → y.1 < x.1) := by
          show _ → _
          intro hv c x' y' b1 b2 b3 b4
          have t1 := Sm.srt_get HSA.out hx b3 (by omega)
          have t2 := Sm.srt_get HSB.out b4 hy (by omega)
          simp only at t1 t2; omega
        have hdn : Hid (¬ y < x → ∀ c x y, lo ≤ c → c < h + 1 → A[c - a']? = some x → B[p - c - m']? = some y → x.1 ≤ y.1) := by
          show _ → _
          intro hv c x' y' b1 b2 b3 b4
          have t1 := Sm.srt_get HSA.out b3 hx (by omega)
          have t2 := Sm.srt_get HSB.out hy b4 (by omega)
          simp only at t1 t2; omega
        clear hh hx hy hq hqm
        by_cases hlv : y < x
        · have hcd : decide (Sm.cmp y x < 0) = true := decide_eq_true (Sm.cmp_lt.2 hlv)
          have HV : Hid _ := Lib.hid hlv
          clear hlv
          go_wp2_with fail
          refine wp_region_adds (by kernel_rfl) (by kernel_rfl) ?_
          repeat (go_big_quiet_step ((go_at_call 41; exact calls_adds (byAt_any _ _ _ _ _))))
          refine wpQuiet_nil ?_
          intro _ hw1
          obtain ⟨⟨nq, osq⟩, hw2⟩ := hw1
          subst hw2
          go_wp2_with fail
          go_roundw
          case rel => exact ⟨i, h, rfl, rfl, hai, hih, by omega, HI, hup.out HV.out, by (repeat (first | with_reducible exact Adds.refl _ | with_reducible apply Adds.drew | with_reducible apply Adds.drewN | with_reducible apply Adds.alloc | with_reducible apply Adds.more | (with_reducible refine Adds.setCell ?_ ?_ _) | (focus (simp [go_sem]; done)) | (focus (simp [go_sem]; omega))))⟩
          case measure => simp [intOf] <;> omega
        · have hcd : decide (Sm.cmp y x < 0) = false := decide_eq_false fun q => hlv (Sm.cmp_lt.1 q)
          have HV : Hid _ := Lib.hid hlv
          clear hlv
          go_wp2_with fail
          refine wp_region_adds (by kernel_rfl) (by kernel_rfl) ?_
          repeat (go_big_quiet_step ((go_at_call 41; exact calls_adds (byAt_any _ _ _ _ _))))
          refine wpQuiet_nil ?_
          intro _ hw1
          obtain ⟨⟨nq, osq⟩, hw2⟩ := hw1
          subst hw2
          go_wp2_with fail
          go_roundw
          case rel => exact ⟨h + 1, j, by go_num, rfl, by omega, by omega, hjb, hdn.out HV.out, HJ, by (repeat (first | with_reducible exact Adds.refl _ | with_reducible apply Adds.drew | with_reducible apply Adds.drewN | with_reducible apply Adds.alloc | with_reducible apply Adds.more | (with_reducible refine Adds.setCell ?_ ?_ _) | (focus (simp [go_sem]; done)) | (focus (simp [go_sem]; omega))))⟩
          case measure => simp [intOf] <;> omega
      · obtain rfl : i = j := by omega
        have hltz : ¬ (i : Int) < (i : Int) := by omega
        obtain ⟨e0, he⟩ : ∃ e0, e0 + i = c0 + m' := ⟨c0 + m' - i, by have := HP.out; have := HLP.out; omega⟩
        have hnn := HNU.out
        have e1 : IntKind.i64.wrap ((nn : Int) - (i : Int)) = (e0 : Int) := by rw [IntKind.wrap_i64]; omega
        have e2 : (nn : Int) - (i : Int) = (e0 : Int) := by omega
        have hst := HST.out
        have hl4 := HL4.out
        have hm0 : m' ≤ e0 := by omega
        have h0b : e0 ≤ b' := by omega
        have hic : i ≤ c0 := by omega
        have hce : c0 ≤ e0 := by omega
        obtain ⟨A1, hA1⟩ : ∃ A1, A1 = A.take (i - a') := ⟨_, rfl⟩
        obtain ⟨A2, hA2⟩ : ∃ A2, A2 = A.drop (i - a') := ⟨_, rfl⟩
        obtain ⟨B1, hB1⟩ : ∃ B1, B1 = B.take (e0 - m') := ⟨_, rfl⟩
        obtain ⟨B2, hB2⟩ : ∃ B2, B2 = B.drop (e0 - m') := ⟨_, rfl⟩
        have eA : A1 ++ A2 = A := by rw [hA1, hA2]; exact List.take_append_drop _ _
        have eB : B1 ++ B2 = B := by rw [hB1, hB2]; exact List.take_append_drop _ _
        have lA1 : A1.length = i - a' := by have := HAl.out; rw [hA1, List.length_take]; omega
        have lA2 : A2.length = m' - i := by have := HAl.out; rw [hA2, List.length_drop]; omega
        have lB1 : B1.length = e0 - m' := by have := HBl.out; rw [hB1, List.length_take]; omega
        have lB2 : B2.length = b' - e0 := by have := HBl.out; rw [hB2, List.length_drop]; omega
        have hE : Sm.st (A1 ++ B1) ++ Sm.st (A2 ++ B2) = Sm.st (A ++ B) := by
          rw [hA1, hA2, hB1, hB2]
          exact Sm.sym_split A B a' m' b' c0 p lo hi i e0 HAl.out HBl.out (by omega) (by omega) hl1 hai hjb hl3 HP.out he hm0 h0b (by rw [← hnn]; exact hst) HSA.out HSB.out HI.out HJ.out
        have sA : Sm.Srt A1 ∧ Sm.Srt A2 := by have := HSA.out; rw [← eA] at this; exact ⟨Sm.srt_left this, Sm.srt_right this⟩
        have sB : Sm.Srt B1 ∧ Sm.Srt B2 := by have := HSB.out; rw [← eB] at this; exact ⟨Sm.srt_left this, Sm.srt_right this⟩
        have t1 := HBig.out
        have t2 := HNN.out
        have t3 := HX.out
        rw [← eA, ← eB] at t1 t2
        simp only [List.length_append] at t1 t2
        have t4 := Sm.len_st (A1 ++ B1)
        simp only [List.length_append] at t4
        have nA1 : A1 = [] ↔ i = a' := by rw [← List.length_eq_zero_iff]; omega
        have nA2 : A2 = [] ↔ m' = i := by rw [← List.length_eq_zero_iff]; omega
        have nB1 : B1 = [] ↔ e0 = m' := by rw [← List.length_eq_zero_iff]; omega
        have nB2 : B2 = [] ↔ b' = e0 := by rw [← List.length_eq_zero_iff]; omega
        have hO1 : Owns (More w n1 os1) base (.slice (some ⟨g, 0, none⟩) n cap) ((X ++ A1) ++ A2 ++ B1 ++ (B2 ++ Y)) := by
          have := Owns.adds HO.out (w' := More w n1 os1) ⟨⟨n1, os1⟩, rfl⟩
          rw [← eA, ← eB] at this
          simpa using this
        have hG1 : w.grownBy (More w n1 os1) (some g) := Adds.grownBy ⟨⟨n1, os1⟩, rfl⟩ _
        -- what each of the three steps does, or leaves where it is not taken
        have HR : Hid (∀ wx, Owns wx base (.slice (some ⟨g, 0, none⟩) n cap) ((X ++ A1) ++ A2 ++ B1 ++ (B2 ++ Y)) → (i : Int) < (m' : Int) ∧ (m' : Int) < (e0 : Int) → Calls Try.prog 60 #[(.slice (some ⟨g, 0, none⟩) n cap), .int .i64 i, .int .i64 m', .int .i64 e0, (.func (.func 41) #[] #[])] wx fun e w' => e = .returned (.tuple #[]) ∧ Owns w' base (.slice (some ⟨g, 0, none⟩) n cap) ((X ++ A1) ++ B1 ++ A2 ++ (B2 ++ Y)) ∧ wx.grownBy w' (some g)) := by
          show ∀ wx, _
          intro wx hO hc
          exact rotate_any base g n cap (X ++ A1) A2 B1 (B2 ++ Y) (.func (.func 41) #[] #[]) _ _ _ wx hO (by simp only [List.length_append]; omega) (by rw [List.length_append]; omega) (by rw [List.length_append]; omega) (by rw [List.length_append]; omega) (fun q => by have := nA2.1 q; omega) (fun q => by have := nB1.1 q; omega)
        have HR0 : Hid (∀ wx, Owns wx base (.slice (some ⟨g, 0, none⟩) n cap) ((X ++ A1) ++ A2 ++ B1 ++ (B2 ++ Y)) → ¬ ((i : Int) < (m' : Int) ∧ (m' : Int) < (e0 : Int)) → Owns wx base (.slice (some ⟨g, 0, none⟩) n cap) ((X ++ A1) ++ B1 ++ A2 ++ (B2 ++ Y))) := by
          show ∀ wx, _
          intro wx hO hc
          have : A2 = [] ∨ B1 = [] := by rw [nA2, nB1]; omega
          rcases this with z | z <;> rw [z] at hO ⊢ <;> simpa using hO
        have HL : Hid (∀ wx, Owns wx base (.slice (some ⟨g, 0, none⟩) n cap) ((X ++ A1) ++ B1 ++ A2 ++ (B2 ++ Y)) → (a' : Int) < (i : Int) ∧ (i : Int) < (c0 : Int) → Calls Try.prog 58 #[(.slice (some ⟨g, 0, none⟩) n cap), .int .i64 a', .int .i64 i, .int .i64 c0, (.func (.func 41) #[] #[])] wx fun e w' => e = .returned (.tuple #[]) ∧ Owns w' base (.slice (some ⟨g, 0, none⟩) n cap) (X ++ Sm.st (A1 ++ B1) ++ A2 ++ (B2 ++ Y)) ∧ wx.grownBy w' (some g)) := by
          show ∀ wx, _
          intro wx hO hc
          have h := HIH.out X A1 B1 (A2 ++ (B2 ++ Y)) a' i c0 wx (by omega) (by simpa using hO) (by simp only [List.length_append]; omega) (by omega) (by omega) (by omega) sA.1 sB.1 (by omega) (by omega)
          simpa using h
        have HL0 : Hid (∀ wx, Owns wx base (.slice (some ⟨g, 0, none⟩) n cap) ((X ++ A1) ++ B1 ++ A2 ++ (B2 ++ Y)) → ¬ ((a' : Int) < (i : Int) ∧ (i : Int) < (c0 : Int)) → Owns wx base (.slice (some ⟨g, 0, none⟩) n cap) (X ++ Sm.st (A1 ++ B1) ++ A2 ++ (B2 ++ Y))) := by
          show ∀ wx, _
          intro wx hO hc
          have : A1 = [] ∨ B1 = [] := by rw [nA1, nB1]; omega
          have e : Sm.st (A1 ++ B1) = A1 ++ B1 := by
            rcases this with z | z <;> rw [z] <;> simp only [List.nil_append, List.append_nil]
            · exact Sm.st_srt sB.1
            · exact Sm.st_srt sA.1
          rw [e]; simpa using hO
        have HQ : Hid (∀ wx, Owns wx base (.slice (some ⟨g, 0, none⟩) n cap) (X ++ Sm.st (A1 ++ B1) ++ A2 ++ (B2 ++ Y)) → (c0 : Int) < (e0 : Int) ∧ (e0 : Int) < (b' : Int) → Calls Try.prog 58 #[(.slice (some ⟨g, 0, none⟩) n cap), .int .i64 c0, .int .i64 e0, .int .i64 b', (.func (.func 41) #[] #[])] wx fun e w' => e = .returned (.tuple #[]) ∧ Owns w' base (.slice (some ⟨g, 0, none⟩) n cap) (X ++ Sm.st (A ++ B) ++ Y) ∧ wx.grownBy w' (some g)) := by
          show ∀ wx, _
          intro wx hO hc
          have h := HIH.out (X ++ Sm.st (A1 ++ B1)) A2 B2 Y c0 e0 b' wx (by omega) (by simpa using hO) (by rw [List.length_append]; omega) (by rw [List.length_append]; omega) (by rw [List.length_append]; omega) (by rw [List.length_append]; omega) sA.2 sB.2 (by omega) (by omega)
          rw [← hE]; simpa using h
        have HQ0 : Hid (∀ wx, Owns wx base (.slice (some ⟨g, 0, none⟩) n cap) (X ++ Sm.st (A1 ++ B1) ++ A2 ++ (B2 ++ Y)) → ¬ ((c0 : Int) < (e0 : Int) ∧ (e0 : Int) < (b' : Int)) → Owns wx base (.slice (some ⟨g, 0, none⟩) n cap) (X ++ Sm.st (A ++ B) ++ Y)) := by
          show ∀ wx, _
          intro wx hO hc
          have : A2 = [] ∨ B2 = [] := by rw [nA2, nB2]; omega
          have e : Sm.st (A2 ++ B2) = A2 ++ B2 := by
            rcases this with z | z <;> rw [z] <;> simp only [List.nil_append, List.append_nil]
            · exact Sm.st_srt sB.2
            · exact Sm.st_srt sA.2
          rw [← hE, e]; simpa using hO
        obtain ⟨f1, hf1⟩ := Sm.bool_of ((i : Int) < (m' : Int) ∧ (m' : Int) < (e0 : Int))
        obtain ⟨f2, hf2⟩ := Sm.bool_of ((a' : Int) < (i : Int) ∧ (i : Int) < (c0 : Int))
        obtain ⟨f3, hf3⟩ := Sm.bool_of ((c0 : Int) < (e0 : Int) ∧ (e0 : Int) < (b' : Int))
        clear HI HJ KA KB HO eA eB hA1 hA2 hB1 hB2 sA sB lA1 lA2 lB1 lB2 hE t1 t2 t3 t4 nA1 nA2 nB1 nB2 hst hl4 HIH HSA HSB HST HL4 HBig HNN HX HAl HBl HP HNU HC HLP he hnn
        generalize More w n1 os1 = w1 at hO1 hG1 ⊢
        go_upto_region 39 with fail
        clear e1 e2
        go_cut [185] from 178 to 184 (fun v wx => v = .bool f1 ∧ Owns wx base (.slice (some ⟨g, 0, none⟩) n cap) ((X ++ A1) ++ A2 ++ B1 ++ (B2 ++ Y)) ∧ w.grownBy wx (some g))
        case first =>
          by_cases h1 : (i : Int) < (m' : Int)
          · by_cases h2 : (m' : Int) < (e0 : Int)
            · go_wp2_with fail
              go_meet
              case rel => exact ⟨Sm.bool_yes hf1 ⟨h1, h2⟩, hO1, hG1⟩
            · go_wp2_with fail
              go_meet
              case rel => exact ⟨Sm.bool_no hf1 (fun q => absurd q.2 (by omega)), hO1, hG1⟩
          · go_wp2_with fail
            go_meet
            case rel => exact ⟨Sm.bool_no hf1 (fun q => absurd q.1 (by omega)), hO1, hG1⟩
        case rest =>
          obtain ⟨rfl, hO2, hG2⟩ := hcut
          clear hO1 hG1
          go_upto_if 185 with fail
          go_cut [] from 186 to 191 (fun wx => Owns wx base (.slice (some ⟨g, 0, none⟩) n cap) ((X ++ A1) ++ B1 ++ A2 ++ (B2 ++ Y)) ∧ w.grownBy wx (some g))
          case first =>
            cases f1 with
            | true =>
              go_wp2_with (go_at_call 60; refine (HR.out _ hO2 (hf1.out.1 rfl)).mono ?_; rintro e w2 ⟨rfl, hO3, hG3⟩)
              go_meet
              case rel => exact ⟨hO3, hG2.trans hG3⟩
            | false =>
              have HZ : Hid _ := Lib.hid (hf1.out.2 rfl)
              go_wp2_with fail
              go_meet
              case rel => exact ⟨HR0.out _ hO2 HZ.out, hG2⟩
          case rest =>
            clear hO2 hG2 HR HR0 hf1
            obtain ⟨hO2, hG2⟩ := hcut
            go_upto_region 41 with fail
            go_cut [199] from 192 to 198 (fun v wx => v = .bool f2 ∧ Owns wx base (.slice (some ⟨g, 0, none⟩) n cap) ((X ++ A1) ++ B1 ++ A2 ++ (B2 ++ Y)) ∧ w.grownBy wx (some g))
            case first =>
              by_cases h1 : (a' : Int) < (i : Int)
              · by_cases h2 : (i : Int) < (c0 : Int)
                · go_wp2_with fail
                  go_meet
                  case rel => exact ⟨Sm.bool_yes hf2 ⟨h1, h2⟩, hO2, hG2⟩
                · go_wp2_with fail
                  go_meet
                  case rel => exact ⟨Sm.bool_no hf2 (fun q => absurd q.2 (by omega)), hO2, hG2⟩
              · go_wp2_with fail
                go_meet
                case rel => exact ⟨Sm.bool_no hf2 (fun q => absurd q.1 (by omega)), hO2, hG2⟩
            case rest =>
              clear hO2 hG2
              obtain ⟨rfl, hO2, hG2⟩ := hcut
              go_upto_if 199 with fail
              go_cut [] from 200 to 205 (fun wx => Owns wx base (.slice (some ⟨g, 0, none⟩) n cap) (X ++ Sm.st (A1 ++ B1) ++ A2 ++ (B2 ++ Y)) ∧ w.grownBy wx (some g))
              case first =>
                cases f2 with
                | true =>
                  go_wp2_with (go_at_call 58; refine (HL.out _ hO2 (hf2.out.1 rfl)).mono ?_; rintro e w2 ⟨rfl, hO3, hG3⟩)
                  go_meet
                  case rel => exact ⟨hO3, hG2.trans hG3⟩
                | false =>
                  have HZ : Hid _ := Lib.hid (hf2.out.2 rfl)
                  go_wp2_with fail
                  go_meet
                  case rel => exact ⟨HL0.out _ hO2 HZ.out, hG2⟩
              case rest =>
                clear hO2 hG2 HL HL0 hf2
                obtain ⟨hO2, hG2⟩ := hcut
                go_upto_region 43 with fail
                go_cut [213] from 206 to 212 (fun v wx => v = .bool f3 ∧ Owns wx base (.slice (some ⟨g, 0, none⟩) n cap) (X ++ Sm.st (A1 ++ B1) ++ A2 ++ (B2 ++ Y)) ∧ w.grownBy wx (some g))
                case first =>
                  by_cases h1 : (c0 : Int) < (e0 : Int)
                  · by_cases h2 : (e0 : Int) < (b' : Int)
                    · go_wp2_with fail
                      go_meet
                      case rel => exact ⟨Sm.bool_yes hf3 ⟨h1, h2⟩, hO2, hG2⟩
                    · go_wp2_with fail
                      go_meet
                      case rel => exact ⟨Sm.bool_no hf3 (fun q => absurd q.2 (by omega)), hO2, hG2⟩
                  · go_wp2_with fail
                    go_meet
                    case rel => exact ⟨Sm.bool_no hf3 (fun q => absurd q.1 (by omega)), hO2, hG2⟩
                case rest =>
                  clear hO2 hG2
                  obtain ⟨rfl, hO2, hG2⟩ := hcut
                  cases f3 with
                  | true =>
                    go_wp2_with (go_at_call 58; refine (HQ.out _ hO2 (hf3.out.1 rfl)).mono ?_; rintro e w2 ⟨rfl, hO3, hG3⟩)
                    go_end0
                    exact ⟨rfl, (by simpa using hO3), hG2.trans hG3⟩
                  | false =>
                    have HZ : Hid _ := Lib.hid (hf3.out.2 rfl)
                    go_wp2_with fail
                    go_end0
                    exact ⟨rfl, (by have q := HQ0.out _ hO2 HZ.out; simpa using q), hG2⟩
theorem sym_any (base g n cap : Nat) : ∀ N, SymAt base g n cap N := by
  intro N
  induction N with
  | zero => intro X A B Y a m b w hN _ _ _ _ _ _ _ hA0 hB0; exact absurd hN (by omega)
  | succ N ih => exact sym_step base g n cap N ih
end Go.Proofs.Ytfddefoambakiaa
