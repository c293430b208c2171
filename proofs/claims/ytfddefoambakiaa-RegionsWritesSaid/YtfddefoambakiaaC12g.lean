/- slices.symMergeCmpFunc at cells, where one of the two stretches is a single cell. Conditions: the slice is of the call's own, the stretches are sorted. -/
import Derived.Test.YtfddefoambakiaaC12f
import Derived.Test.YtfddefoambakiaaS12b
namespace Go.Proofs.Ytfddefoambakiaa
open Go.ChangeShapes Go.WideShapes Go.ChangeAt Go.RowKit
set_option linter.unusedVariables false
set_option maxRecDepth 100000 in
set_option maxHeartbeats 4000000 in
theorem sym_left (base g n cap : Nat) (X B Y : List Cl) (cx cv : Int) (a m b : Int) (w : World) (hO : Owns w base (.slice (some ⟨g, 0, none⟩) n cap) (X ++ (cx, cv) :: (B ++ Y))) (hbig : X.length + 1 + B.length + Y.length ≤ 16777216)
    (ha : a = X.length) (hm : m = X.length + 1) (hb : b = X.length + 1 + B.length) (hB : Sm.Srt B) (hB0 : 0 < B.length) :
    Calls Try.prog 58 #[.slice (some ⟨g, 0, none⟩) n cap, .int .i64 a, .int .i64 m, .int .i64 b, .func (.func 41) #[] #[]] w fun e w' => e = .returned (.tuple #[]) ∧ Owns w' base (.slice (some ⟨g, 0, none⟩) n cap) (X ++ Sm.st ((cx, cv) :: B) ++ Y) ∧ w.grownBy w' (some g) := by
  obtain ⟨hn, hcap, hcap2⟩ := hO.len
  obtain ⟨hg0, hgs⟩ := hO.lt
  obtain ⟨a', ha'⟩ : ∃ a', a' = X.length := ⟨_, rfl⟩
  obtain ⟨b', hb'⟩ : ∃ b', b' = X.length + 1 + B.length := ⟨_, rfl⟩
  have hlen : b' + Y.length = n := by rw [hn]; simp; omega
  obtain rfl : a = (a' : Int) := by omega
  obtain rfl : b = (b' : Int) := by omega
  obtain rfl : m = (a' : Int) + 1 := by omega
  have hab : a' + 1 < b' := by omega
  have hbn : b' ≤ n := by omega
  have hbig' : n ≤ 16777216 := by omega
  have hnc : n ≤ cap := by omega
  have HA : Hid (a' = X.length) := ha'
  have HB : Hid (b' = X.length + 1 + B.length) := hb'
  have d1 : IntKind.i64.wrap ((a' : Int) + 1 - (a' : Int)) = 1 := by rw [IntKind.wrap_i64]; omega
  have d2 : (a' : Int) + 1 - (a' : Int) = 1 := by omega
  obtain ⟨A1, A2⟩ := hO.at_ a' cx cv (by rw [ha']; simp)
  rw [Nat.zero_add] at A1 A2
  have HBB : ∀ t y u, B[t]? = some (y, u) → w.cell? ⟨g, (a' + 1 + t) * 2, none⟩ = some (.int .u16 y) ∧ w.cell? ⟨g, (a' + 1 + t) * 2 + 1, none⟩ = some (.int .u8 u) := fun t y u h => by
    have := hO.at_ (a' + 1 + t) y u (by
      rw [List.getElem?_append_right (by omega), show a' + 1 + t - X.length = t + 1 by omega, List.getElem?_cons_succ, List.getElem?_append_left (List.getElem?_eq_some_iff.1 h).1]; exact h)
    rw [Nat.zero_add] at this; exact this
  have HBB : Hid _ := Lib.hid HBB
  have HO : Hid _ := Lib.hid hO
  clear ha hm hb ha' hb' hlen hn hbig hcap hO
  go_enter Try.func58, Try.ntmps58
  go_wp2
  clear d1 d2
  go_loopw [10, 11] (fun vi vj wr => ∃ i j : Nat, vi = .int .i64 i ∧ vj = .int .i64 j ∧ a' + 1 ≤ i ∧ i ≤ j ∧ j ≤ b' ∧ Hid (∀ t y, B[t]? = some y → a' + 1 + t < i → y.1 < cx) ∧ Hid (∀ t y, B[t]? = some y → j ≤ a' + 1 + t → cx ≤ y.1) ∧ Adds w wr) (fun vi vj _ => (intOf vj - intOf vi).toNat)
  case atStart =>
    refine ⟨a' + 1, b', by go_num, rfl, by omega, by omega, by omega, ?_, ?_, Adds.refl _⟩
    · intro t y h1 h2; omega
    · intro t y h1 h2; have := (List.getElem?_eq_some_iff.1 h1).1; have := HB.out; have := HA.out; omega
  case round =>
    obtain ⟨i, j, rfl, rfl, hai, hij, hjb, HI, HJ, ⟨⟨n1, os1⟩, rfl⟩⟩ := hrel
    by_cases hlt : i < j
    · have hltz : (i : Int) < (j : Int) := by omega
      obtain ⟨h, hh⟩ : ∃ h, h = (i + j) / 2 := ⟨_, rfl⟩
      have hm2 : ((i : Int) + (j : Int)) / 2 = (h : Int) := by omega
      have hih : i ≤ h := by omega
      have hhj : h < j := by omega
      have hhn : (h : Int) < (n : Int) := by omega
      have han : (a' : Int) < (n : Int) := by omega
      obtain ⟨t, ht⟩ : ∃ t, a' + 1 + t = h := ⟨h - (a' + 1), by omega⟩
      obtain ⟨y, u, hy⟩ := get_pair (d := B) (k := t) (by have := HB.out; have := HA.out; omega)
      obtain ⟨k1, k2⟩ := HBB.out t y u hy
      rw [ht] at k1 k2
      have HT : Hid _ := Lib.hid ht
      have HY : Hid _ := Lib.hid hy
      clear hh ht hy
      by_cases hlv : y < cx
      · have hcd : decide (Sm.cmp y cx < 0) = true := decide_eq_true (Sm.cmp_lt.2 hlv)
        have HV : Hid _ := Lib.hid hlv
        clear hlv
        go_wp2_with fail
        refine wp_region_adds (by kernel_rfl) (by kernel_rfl) ?_
        repeat (go_big_quiet_step ((go_at_call 41; exact calls_adds (byAt_any _ _ _ _ _))))
        refine wpQuiet_nil ?_
        intro _ hw1
        obtain ⟨⟨nq, osq⟩, hw2⟩ := hw1
        subst hw2
        go_wp2_with fail
        go_roundw
        case rel => exact ⟨h + 1, j, by go_num, rfl, by omega, by omega, hjb, (by show ∀ (t : Nat) (y : Cl), _; intro t' y' e1 e2; have := Sm.srt_get hB e1 HY.out (by have := HT.out; omega); have := HV.out; omega), HJ, by (repeat (first | with_reducible exact Adds.refl _ | with_reducible apply Adds.drew | with_reducible apply Adds.drewN | with_reducible apply Adds.alloc | with_reducible apply Adds.more | (with_reducible refine Adds.setCell ?_ ?_ _) | (focus (simp [go_sem]; done)) | (focus (simp [go_sem]; omega))))⟩
        case measure => simp [intOf] <;> omega
      · have hcd : decide (Sm.cmp y cx < 0) = false := decide_eq_false fun q => hlv (Sm.cmp_lt.1 q)
        have HV : Hid _ := Lib.hid hlv
        clear hlv
        go_wp2_with fail
        refine wp_region_adds (by kernel_rfl) (by kernel_rfl) ?_
        repeat (go_big_quiet_step ((go_at_call 41; exact calls_adds (byAt_any _ _ _ _ _))))
        refine wpQuiet_nil ?_
        intro _ hw1
        obtain ⟨⟨nq, osq⟩, hw2⟩ := hw1
        subst hw2
        go_wp2_with fail
        go_roundw
        case rel => exact ⟨i, h, rfl, rfl, hai, hih, by omega, HI, (by show ∀ (t : Nat) (y : Cl), _; intro t' y' e1 e2; have := Sm.srt_get hB HY.out e1 (by have := HT.out; omega); have := HV.out; omega), by (repeat (first | with_reducible exact Adds.refl _ | with_reducible apply Adds.drew | with_reducible apply Adds.drewN | with_reducible apply Adds.alloc | with_reducible apply Adds.more | (with_reducible refine Adds.setCell ?_ ?_ _) | (focus (simp [go_sem]; done)) | (focus (simp [go_sem]; omega))))⟩
        case measure => simp [intOf] <;> omega
    · obtain rfl : i = j := by omega
      have hltz : ¬ (i : Int) < (i : Int) := by omega
      -- the place is found: the cell is led there
      obtain ⟨q, hq⟩ : ∃ q, i = a' + 1 + q := ⟨i - (a' + 1), by omega⟩
      have hqB : q ≤ B.length := by have := HB.out; have := HA.out; omega
      have HE : Hid (B.take q ++ (cx, cv) :: B.drop q = Sm.st ((cx, cv) :: B)) := by
        show _ = _
        have e := Sm.merge_left (c := (cx, cv)) (B1 := B.take q) (B2 := B.drop q) (by rw [List.take_append_drop]; exact hB) (fun y hy => by obtain ⟨t, ht, e⟩ := Sm.mem_take_get hy; exact HI.out t y e (by omega)) (fun y hy => by obtain ⟨t, ht, e⟩ := Sm.mem_drop_get hy; exact HJ.out t y e (by omega))
        rwa [List.take_append_drop] at e
      have hO1 : Owns (More w n1 os1) base (.slice (some ⟨g, 0, none⟩) n cap) (X ++ (cx, cv) :: (B ++ Y)) := Owns.adds HO.out ⟨⟨n1, os1⟩, rfl⟩
      have hG1 : w.grownBy (More w n1 os1) (some g) := Adds.grownBy ⟨⟨n1, os1⟩, rfl⟩ _
      have HQ : Hid _ := Lib.hid hq
      have HB0 : Hid _ := Lib.hid hB
      have hqi : q + (a' + 1) ≤ i := by omega
      have hqi2 : i ≤ q + (a' + 1) := by omega
      clear HI HJ A1 A2 HBB HO hq hB
      generalize More w n1 os1 = w1 at hO1 hG1 ⊢
      have hsub : IntKind.i64.wrap ((i : Int) - 1) = (i : Int) - 1 := by rw [IntKind.wrap_i64]; omega
      go_wp2_with fail
      go_loopw [13] (fun vk wr => ∃ t : Nat, vk = .int .i64 ((a' + t : Nat) : Int) ∧ t ≤ q ∧ Owns wr base (.slice (some ⟨g, 0, none⟩) n cap) (X ++ B.take t ++ (cx, cv) :: (B.drop t ++ Y)) ∧ w.grownBy wr (some g)) (fun vk _ => (i - (intOf vk).toNat))
      case atStart => exact ⟨0, by go_num, by omega, by simpa using hO1, hG1⟩
      case round =>
        obtain ⟨t, rfl, htq, hO2, hG2⟩ := hrel
        obtain ⟨k, hk⟩ : ∃ k, k = a' + t := ⟨_, rfl⟩
        rw [← hk]
        have hka : a' ≤ k := by omega
        by_cases hlt : t < q
        · obtain ⟨y, u, hy⟩ := get_pair (d := B) (k := t) (by omega)
          have dB := Sm.drop_cons hy
          have tB := Sm.take_snoc hy
          have l1 : (X ++ B.take t).length = k := by have := HA.out; simp; omega
          have eL : X ++ B.take t ++ (cx, cv) :: (B.drop t ++ Y) = (X ++ B.take t) ++ (cx, cv) :: (y, u) :: (B.drop (t + 1) ++ Y) := by rw [dB]; simp
          rw [eL] at hO2
          have g1 := Sm.at_one (X ++ B.take t) ((y, u) :: (B.drop (t + 1) ++ Y)) (cx, cv)
          have g2 := Sm.at_two (X ++ B.take t) [] (B.drop (t + 1) ++ Y) (cx, cv) (y, u)
          have hsw := Sm.set_far (X ++ B.take t) [] (B.drop (t + 1) ++ Y) (cx, cv) (y, u)
          simp only [List.nil_append, List.length_nil, Nat.add_zero] at g2 hsw
          rw [l1] at g1 g2 hsw
          have hS1 := hO2.store k y u
          have hS2 := hS1.1.store (k + 1) cx cv
          rw [hsw] at hS2
          have eN : (X ++ B.take t) ++ (y, u) :: (cx, cv) :: (B.drop (t + 1) ++ Y) = X ++ B.take (t + 1) ++ (cx, cv) :: (B.drop (t + 1) ++ Y) := by rw [tB]; simp
          rw [eN] at hS2
          have HS2 : Hid _ := Lib.hid (And.intro hS2.1 ((hG2.trans hS1.2).trans hS2.2))
          obtain ⟨p1, p2⟩ := hO2.at_ k cx cv g1
          obtain ⟨c1, c2⟩ := hO2.at_ (k + 1) y u g2
          rw [Nat.zero_add] at p1 p2 c1 c2
          have f1 := hO2.frozen (k * 2)
          have f2 := hO2.frozen (k * 2 + 1)
          have f3 := hO2.frozen ((k + 1) * 2)
          have f4 := hO2.frozen ((k + 1) * 2 + 1)
          have b0 : IntKind.i64.wrap ((k : Int) + 1) = (k : Int) + 1 := by rw [IntKind.wrap_i64]; omega
          have b1 : (k : Int) < (n : Int) := by omega
          have b2 : (k : Int) + 1 < (n : Int) := by omega
          have b3 : (0 : Int) ≤ (k : Int) + 1 := by omega
          have b4 : ((k : Int) + 1).toNat = k + 1 := by omega
          have b5 : (k : Int) < (i : Int) - 1 := by omega
          have HK : Hid _ := Lib.hid hk
          clear hy dB tB l1 eL g1 g2 hsw hS1 hS2 eN hO2 hG2 hO1 hG1 hk
          go_wp2_with fail
          go_region
          all_goals
            go_wp2_with fail
            go_roundw
            case rel => exact ⟨t + 1, (by have := HK.out; congr 1; omega), by omega, HS2.out.1.adds ((Adds.refl _).drew), HS2.out.2.trans ((Adds.refl _).drew.grownBy _)⟩
            case measure => have := HK.out; simp [intOf] <;> omega
        · obtain rfl : t = q := by omega
          have hkz : ¬ (k : Int) < (i : Int) - 1 := by omega
          clear hk
          go_wp2_with fail
          refine bodyPost_ret (results_none rfl _ _ _) rfl ?_
          exact ⟨rfl, by rw [← HE.out]; simpa using hO2, hG2⟩
set_option maxRecDepth 100000 in
set_option maxHeartbeats 4000000 in
theorem sym_right (base g n cap : Nat) (X A Y : List Cl) (cx cv : Int) (a m b : Int) (w : World) (hO : Owns w base (.slice (some ⟨g, 0, none⟩) n cap) (X ++ A ++ (cx, cv) :: Y)) (hbig : X.length + A.length + 1 + Y.length ≤ 16777216)
    (ha : a = X.length) (hm : m = X.length + A.length) (hb : b = X.length + A.length + 1) (hA : Sm.Srt A) (hA1 : 1 < A.length) :
    Calls Try.prog 58 #[.slice (some ⟨g, 0, none⟩) n cap, .int .i64 a, .int .i64 m, .int .i64 b, .func (.func 41) #[] #[]] w fun e w' => e = .returned (.tuple #[]) ∧ Owns w' base (.slice (some ⟨g, 0, none⟩) n cap) (X ++ Sm.st (A ++ [(cx, cv)]) ++ Y) ∧ w.grownBy w' (some g) := by
  obtain ⟨hn, hcap, hcap2⟩ := hO.len
  obtain ⟨hg0, hgs⟩ := hO.lt
  obtain ⟨a', ha'⟩ : ∃ a', a' = X.length := ⟨_, rfl⟩
  obtain ⟨m', hm'⟩ : ∃ m', m' = X.length + A.length := ⟨_, rfl⟩
  have hlen : m' + 1 + Y.length = n := by rw [hn]; simp; omega
  obtain rfl : a = (a' : Int) := by omega
  obtain rfl : m = (m' : Int) := by omega
  obtain rfl : b = (m' : Int) + 1 := by omega
  have hab : a' + 1 < m' := by omega
  have hbn : m' < n := by omega
  have hbig' : n ≤ 16777216 := by omega
  have hnc : n ≤ cap := by omega
  have HA : Hid (a' = X.length) := ha'
  have HM : Hid (m' = X.length + A.length) := hm'
  have d1 : IntKind.i64.wrap ((m' : Int) + 1 - (m' : Int)) = 1 := by rw [IntKind.wrap_i64]; omega
  have d2 : (m' : Int) + 1 - (m' : Int) = 1 := by omega
  have d3 : IntKind.i64.wrap ((m' : Int) - (a' : Int)) = (m' : Int) - (a' : Int) := by rw [IntKind.wrap_i64]; omega
  have d4 : ((m' : Int) - (a' : Int) == 1) = false := by simp; omega
  obtain ⟨A1, A2⟩ := hO.at_ m' cx cv (by rw [List.getElem?_append_right (by simp; omega)]; simp [hm'])
  rw [Nat.zero_add] at A1 A2
  have HBB : ∀ t y u, A[t]? = some (y, u) → w.cell? ⟨g, (a' + t) * 2, none⟩ = some (.int .u16 y) ∧ w.cell? ⟨g, (a' + t) * 2 + 1, none⟩ = some (.int .u8 u) := fun t y u h => by
    have ht := (List.getElem?_eq_some_iff.1 h).1
    have := hO.at_ (a' + t) y u (by
      rw [List.append_assoc, List.getElem?_append_right (by omega), show a' + t - X.length = t by omega, List.getElem?_append_left ht]; exact h)
    rw [Nat.zero_add] at this; exact this
  have HBB : Hid _ := Lib.hid HBB
  have HO : Hid _ := Lib.hid hO
  clear ha hm hb ha' hm' hlen hn hbig hcap hO hA1
  go_enter Try.func58, Try.ntmps58
  go_wp2
  clear d1 d2 d3 d4
  go_loopw [14, 15] (fun vi vj wr => ∃ i j : Nat, vi = .int .i64 i ∧ vj = .int .i64 j ∧ a' ≤ i ∧ i ≤ j ∧ j ≤ m' ∧ Hid (∀ t y, A[t]? = some y → a' + t < i → y.1 ≤ cx) ∧ Hid (∀ t y, A[t]? = some y → j ≤ a' + t → cx < y.1) ∧ Adds w wr) (fun vi vj _ => (intOf vj - intOf vi).toNat)
  case atStart =>
    refine ⟨a', m', rfl, rfl, by omega, by omega, by omega, ?_, ?_, Adds.refl _⟩
    · intro t y h1 h2; omega
    · intro t y h1 h2; have := (List.getElem?_eq_some_iff.1 h1).1; have := HM.out; have := HA.out; omega
  case round =>
    obtain ⟨i, j, rfl, rfl, hai, hij, hjb, HI, HJ, ⟨⟨n1, os1⟩, rfl⟩⟩ := hrel
    by_cases hlt : i < j
    · have hltz : (i : Int) < (j : Int) := by omega
      obtain ⟨h, hh⟩ : ∃ h, h = (i + j) / 2 := ⟨_, rfl⟩
      have hm2 : ((i : Int) + (j : Int)) / 2 = (h : Int) := by omega
      have hih : i ≤ h := by omega
      have hhj : h < j := by omega
      have hhn : (h : Int) < (n : Int) := by omega
      have han : (m' : Int) < (n : Int) := by omega
      obtain ⟨t, ht⟩ : ∃ t, a' + t = h := ⟨h - a', by omega⟩
      obtain ⟨y, u, hy⟩ := get_pair (d := A) (k := t) (by have := HM.out; have := HA.out; omega)
      obtain ⟨k1, k2⟩ := HBB.out t y u hy
      rw [ht] at k1 k2
      have HT : Hid _ := Lib.hid ht
      have HY : Hid _ := Lib.hid hy
      clear hh ht hy
      by_cases hlv : cx < y
      · have hcd : decide (Sm.cmp cx y < 0) = true := decide_eq_true (Sm.cmp_lt.2 hlv)
        have HV : Hid _ := Lib.hid hlv
        clear hlv
        go_wp2_with fail
        refine wp_region_adds (by kernel_rfl) (by kernel_rfl) ?_
        repeat (go_big_quiet_step ((go_at_call 41; exact calls_adds (byAt_any _ _ _ _ _))))
        refine wpQuiet_nil ?_
        intro _ hw1
        obtain ⟨⟨nq, osq⟩, hw2⟩ := hw1
        subst hw2
        go_wp2_with fail
        go_roundw
        case rel => exact ⟨i, h, rfl, rfl, hai, hih, by omega, HI, (by show ∀ (t : Nat) (y : Cl), _; intro t' y' e1 e2; have := Sm.srt_get hA HY.out e1 (by have := HT.out; omega); have := HV.out; omega), by (repeat (first | with_reducible exact Adds.refl _ | with_reducible apply Adds.drew | with_reducible apply Adds.drewN | with_reducible apply Adds.alloc | with_reducible apply Adds.more | (with_reducible refine Adds.setCell ?_ ?_ _) | (focus (simp [go_sem]; done)) | (focus (simp [go_sem]; omega))))⟩
        case measure => simp [intOf] <;> omega
      · have hcd : decide (Sm.cmp cx y < 0) = false := decide_eq_false fun q => hlv (Sm.cmp_lt.1 q)
        have HV : Hid _ := Lib.hid hlv
        clear hlv
        go_wp2_with fail
        refine wp_region_adds (by kernel_rfl) (by kernel_rfl) ?_
        repeat (go_big_quiet_step ((go_at_call 41; exact calls_adds (byAt_any _ _ _ _ _))))
        refine wpQuiet_nil ?_
        intro _ hw1
        obtain ⟨⟨nq, osq⟩, hw2⟩ := hw1
        subst hw2
        go_wp2_with fail
        go_roundw
        case rel => exact ⟨h + 1, j, by go_num, rfl, by omega, by omega, hjb, (by show ∀ (t : Nat) (y : Cl), _; intro t' y' e1 e2; have := Sm.srt_get hA e1 HY.out (by have := HT.out; omega); have := HV.out; omega), HJ, by (repeat (first | with_reducible exact Adds.refl _ | with_reducible apply Adds.drew | with_reducible apply Adds.drewN | with_reducible apply Adds.alloc | with_reducible apply Adds.more | (with_reducible refine Adds.setCell ?_ ?_ _) | (focus (simp [go_sem]; done)) | (focus (simp [go_sem]; omega))))⟩
        case measure => simp [intOf] <;> omega
    · obtain rfl : i = j := by omega
      have hltz : ¬ (i : Int) < (i : Int) := by omega
      obtain ⟨q, hq⟩ : ∃ q, i = a' + q := ⟨i - a', by omega⟩
      have hqB : q ≤ A.length := by have := HM.out; have := HA.out; omega
      have HE : Hid (A.take q ++ (cx, cv) :: A.drop q = Sm.st (A ++ [(cx, cv)])) := by
        show _ = _
        have e := Sm.merge_right (c := (cx, cv)) (A1 := A.take q) (A2 := A.drop q) (by rw [List.take_append_drop]; exact hA) (fun y hy => by obtain ⟨t, ht, e⟩ := Sm.mem_take_get hy; exact HI.out t y e (by omega)) (fun y hy => by obtain ⟨t, ht, e⟩ := Sm.mem_drop_get hy; exact HJ.out t y e (by omega))
        rwa [List.take_append_drop] at e
      have hO1 : Owns (More w n1 os1) base (.slice (some ⟨g, 0, none⟩) n cap) (X ++ A ++ (cx, cv) :: Y) := Owns.adds HO.out ⟨⟨n1, os1⟩, rfl⟩
      have hG1 : w.grownBy (More w n1 os1) (some g) := Adds.grownBy ⟨⟨n1, os1⟩, rfl⟩ _
      have HQ : Hid _ := Lib.hid hq
      have HB0 : Hid _ := Lib.hid hA
      have hqi : q + a' ≤ i := by omega
      have hqi2 : i ≤ q + a' := by omega
      have hAl : a' + A.length ≤ m' := by have := HM.out; have := HA.out; omega
      have hAl2 : m' ≤ a' + A.length := by have := HM.out; have := HA.out; omega
      clear HI HJ A1 A2 HBB HO hq hA
      generalize More w n1 os1 = w1 at hO1 hG1 ⊢
      go_wp2_with fail
      go_loopw [17] (fun vk wr => ∃ t : Nat, vk = .int .i64 ((a' + t : Nat) : Int) ∧ q ≤ t ∧ t ≤ A.length ∧ Owns wr base (.slice (some ⟨g, 0, none⟩) n cap) (X ++ A.take t ++ (cx, cv) :: (A.drop t ++ Y)) ∧ w.grownBy wr (some g)) (fun vk _ => (intOf vk).toNat)
      case atStart => exact ⟨A.length, (by congr 1; omega), by omega, by omega, by simpa using hO1, hG1⟩
      case round =>
        obtain ⟨t, rfl, htq, htA, hO2, hG2⟩ := hrel
        by_cases hlt : q < t
        · obtain ⟨t, rfl⟩ : ∃ t', t = t' + 1 := ⟨t - 1, by omega⟩
          obtain ⟨k, hk⟩ : ∃ k, k = a' + t := ⟨_, rfl⟩
          rw [show a' + (t + 1) = k + 1 by omega]
          obtain ⟨y, u, hy⟩ := get_pair (d := A) (k := t) (by omega)
          have dB := Sm.drop_cons hy
          have tB := Sm.take_snoc hy
          have l1 : (X ++ A.take t).length = k := by have := HA.out; simp; omega
          have eL : X ++ A.take (t + 1) ++ (cx, cv) :: (A.drop (t + 1) ++ Y) = (X ++ A.take t) ++ (y, u) :: (cx, cv) :: (A.drop (t + 1) ++ Y) := by rw [tB]; simp
          rw [eL] at hO2
          have g1 := Sm.at_one (X ++ A.take t) ((cx, cv) :: (A.drop (t + 1) ++ Y)) (y, u)
          have g2 := Sm.at_two (X ++ A.take t) [] (A.drop (t + 1) ++ Y) (y, u) (cx, cv)
          have hsw := Sm.set_two (X ++ A.take t) (A.drop (t + 1) ++ Y) (y, u) (cx, cv)
          simp only [List.nil_append, List.length_nil, Nat.add_zero] at g2
          rw [l1] at g1 g2 hsw
          have hS1 := hO2.store (k + 1) y u
          have hS2 := hS1.1.store k cx cv
          rw [hsw] at hS2
          have eN : (X ++ A.take t) ++ (cx, cv) :: (y, u) :: (A.drop (t + 1) ++ Y) = X ++ A.take t ++ (cx, cv) :: (A.drop t ++ Y) := by rw [dB]; simp
          rw [eN] at hS2
          have HS2 : Hid _ := Lib.hid (And.intro hS2.1 ((hG2.trans hS1.2).trans hS2.2))
          obtain ⟨p1, p2⟩ := hO2.at_ k y u g1
          obtain ⟨c1, c2⟩ := hO2.at_ (k + 1) cx cv g2
          rw [Nat.zero_add] at p1 p2 c1 c2
          have f1 := hO2.frozen (k * 2)
          have f2 := hO2.frozen (k * 2 + 1)
          have f3 := hO2.frozen ((k + 1) * 2)
          have f4 := hO2.frozen ((k + 1) * 2 + 1)
          have b0 : IntKind.i64.wrap (k : Int) = (k : Int) := by rw [IntKind.wrap_i64]; omega
          have b1 : (k : Int) < (n : Int) := by omega
          have b2 : (k : Int) + 1 < (n : Int) := by omega
          have b3 : (0 : Int) ≤ (k : Int) + 1 := by omega
          have b4 : ((k : Int) + 1).toNat = k + 1 := by omega
          have b5 : (i : Int) < (k : Int) + 1 := by omega
          have HK : Hid _ := Lib.hid hk
          clear hy dB tB l1 eL g1 g2 hsw hS1 hS2 eN hO2 hG2 hO1 hG1 hk
          go_wp2_with fail
          go_region
          all_goals
            go_wp2_with fail
            go_roundw
            case rel => exact ⟨t, (by have := HK.out; congr 1; omega), by omega, by omega, HS2.out.1.adds ((Adds.refl _).drew), HS2.out.2.trans ((Adds.refl _).drew.grownBy _)⟩
            case measure => have := HK.out; simp [intOf] <;> omega
        · obtain rfl : t = q := by omega
          have hkz : ¬ (i : Int) < ((a' + t : Nat) : Int) := by omega
          go_wp2_with fail
          refine bodyPost_ret (results_none rfl _ _ _) rfl ?_
          exact ⟨rfl, by rw [← HE.out]; simpa using hO2, hG2⟩
end Go.Proofs.Ytfddefoambakiaa
