/- Stores of whole cells into a slice of the call's own; slices.insertionSortCmpFunc, SortStableFunc at 20 cells or fewer. Conditions: the slice is of the call's own. -/
import Derived.Test.YtfddefoambakiaaC12b
import Derived.BigRegion
import Derived.Lib.Hide
namespace Go.Proofs.Ytfddefoambakiaa
open Go.ChangeShapes Go.WideShapes Go.ChangeAt Go.RowKit
set_option linter.unusedVariables false
theorem Sm.cv_set : ∀ (d : List Cl) (i : Nat) (x v : Int), ((Sm.cv d).set (i * 2) (.int .u16 x)).set (i * 2 + 1) (.int .u8 v) = Sm.cv (d.set i (x, v))
  | [], i, x, v => by simp [Sm.cv]
  | c :: d, 0, x, v => rfl
  | c :: d, i + 1, x, v => by
    rw [Sm.cv_cons, show (i + 1) * 2 = i * 2 + 1 + 1 by omega]
    simp only [List.set_cons_succ, Sm.cv_cons, Sm.cv_set d i x v]
theorem Owns.store {w : World} {base g n cap : Nat} {d : List Cl} (h : Owns w base (.slice (some ⟨g, 0, none⟩) n cap) d) (i : Nat) (x v : Int) :
    Owns ((w.setCell ⟨g, i * 2, none⟩ (.int .u16 x)).setCell ⟨g, i * 2 + 1, none⟩ (.int .u8 v)) base (.slice (some ⟨g, 0, none⟩) n cap) (d.set i (x, v)) ∧
    w.grownBy ((w.setCell ⟨g, i * 2, none⟩ (.int .u16 x)).setCell ⟨g, i * 2 + 1, none⟩ (.int .u8 v)) (some g) := by
  have hn : n = d.length := by
    rcases h.2 with ⟨h', _⟩ | ⟨g', cap', cur, h', _⟩
    · simp at h'
    · simp only [Value.slice.injEq] at h'; exact h'.2.1
  subst hn
  have h1 := World.ownsRow.stored h (i * 2) (.int .u16 x)
  have h2 := World.ownsRow.stored h1.1 (i * 2 + 1) (.int .u8 v)
  rw [Sm.cv_set] at h2
  refine ⟨?_, h1.2.trans h2.2⟩
  unfold Owns
  rw [List.length_set]
  exact h2.1
theorem Owns.frozen {w : World} {base g n cap : Nat} {d : List Cl} (h : Owns w base (.slice (some ⟨g, 0, none⟩) n cap) d) (j : Nat) : w.frozen? ⟨g, j, none⟩ = false := by
  have hn : n = d.length := by
    rcases h.2 with ⟨h', _⟩ | ⟨g', cap', cur, h', _⟩
    · simp at h'
    · simp only [Value.slice.injEq] at h'; exact h'.2.1
  subst hn
  exact World.ownsRow.frozenAt h j
theorem Owns.lt {w : World} {base g n cap : Nat} {d : List Cl} (h : Owns w base (.slice (some ⟨g, 0, none⟩) n cap) d) : base ≤ g ∧ g < w.heap.size := World.ownsRow.lt h g rfl
theorem Owns.len {w : World} {base g n cap : Nat} {d : List Cl} (h : Owns w base (.slice (some ⟨g, 0, none⟩) n cap) d) : n = d.length ∧ d.length ≤ cap ∧ cap ≤ 9223372036854775807 := by
  obtain ⟨a, cap', h1, h2, h3, _⟩ := h.form
  simp only [Value.slice.injEq] at h1
  obtain ⟨_, rfl, rfl⟩ := h1
  exact ⟨rfl, h2, h3⟩
theorem Adds.grownBy {w w' : World} (h : Adds w w') (row : Option Nat) : w.grownBy w' row := by
  have hb := h.below
  exact ⟨hb.os, hb.tape, hb.output, hb.size, fun k hk _ => hb.block k hk⟩
theorem grown_refl (w : World) (row : Option Nat) : w.grownBy w row := (Adds.refl w).grownBy row
theorem Adds.of_grown {w0 w w' : World} {g : Nat} (h : Adds w0 w) (hg : w.grownBy w' (some g)) (hb : w0.heap.size ≤ g) : Adds w0 w' :=
  Adds.of_below (h.below.grown hg h.size fun k hk => by cases hk; exact hb)
/-- A cell that lies elsewhere, behind writes to block g. -/
theorem grown_held {w w' : World} {g : Nat} {a : Option Addr} {n : Nat} {d : List Cl} (h : Held w a n d) (hg : w.grownBy w' (some g)) (hne : ∀ x, a = some x → x.block ≠ g) : Held w' a n d :=
  ⟨h.1, h.2.1, fun hn => by
    obtain ⟨b, o, ha, hb, hat⟩ := h.2.2 hn
    refine ⟨b, o, ha, by have := hg.size; omega, fun j x v hd => ?_⟩
    have hb2 : some b ≠ some g := fun e => by cases e; exact hne _ ha rfl
    obtain ⟨h1, h2⟩ := hat j x v hd
    exact ⟨hg.cell h1 hb2, hg.cell h2 hb2⟩⟩
/-- Two cells next to each other change places. -/
theorem Sm.set_two (L R : List Cl) (p c : Cl) : ((L ++ p :: c :: R).set (L.length + 1) p).set L.length c = L ++ c :: p :: R := by
  simp []
theorem Sm.cmp_lt {x y : Int} : Sm.cmp x y < 0 ↔ x < y := by
  unfold Sm.cmp; split
  · constructor <;> intro <;> omega
  · split <;> constructor <;> intro <;> omega
set_option maxHeartbeats 4000000 in
theorem isort_any (base g n cap : Nat) (X M Y : List Cl) (w : World) (hO : Owns w base (.slice (some ⟨g, 0, none⟩) n cap) (X ++ M ++ Y)) (hbig : (X ++ M ++ Y).length ≤ 16777216) :
    Calls Try.prog 57 #[.slice (some ⟨g, 0, none⟩) n cap, .int .i64 (X.length : Int), .int .i64 ((X.length + M.length : Nat) : Int), .func (.func 41) #[] #[]] w fun e w' => e = .returned (.tuple #[]) ∧ Owns w' base (.slice (some ⟨g, 0, none⟩) n cap) (X ++ Sm.st M ++ Y) ∧ w.grownBy w' (some g) := by
  obtain ⟨hn, hcap, hcap2⟩ := hO.len
  have hlen : X.length + M.length + Y.length = n := by rw [hn]; simp; omega
  have hbig' : n ≤ 16777216 := by omega
  obtain ⟨a, ha⟩ : ∃ a, a = X.length := ⟨_, rfl⟩
  obtain ⟨b, hb⟩ : ∃ b, b = X.length + M.length := ⟨_, rfl⟩
  have HA : Hid (a = X.length) := ha
  have HB : Hid (b = X.length + M.length) := hb
  have HL : Hid _ := hlen
  have hab : a ≤ b := by omega
  have hbn : b ≤ n := by omega
  have hnc : n ≤ cap := by omega
  rw [← hb, ← ha]
  have HO : Hid _ := hO
  clear hO hn hlen ha hb hbig hcap
  go_enter Try.func57, Try.ntmps57
  go_wp2
  go_loopg [8] (b - a) (fun g1 vi wr => ∃ (i k : Nat), vi = .int .i64 i ∧ i = a + k ∧ i ≤ b + 1 ∧ b + 1 - i ≤ g1 + 1 ∧ Owns wr base (.slice (some ⟨g, 0, none⟩) n cap) (X ++ (Sm.st (M.take k) ++ M.drop k) ++ Y) ∧ w.grownBy wr (some g))
  case atStart =>
    refine ⟨a + 1, 1, by go_num, rfl, by omega, by omega, ?_, grown_refl _ _⟩
    have e : Sm.st (M.take 1) ++ M.drop 1 = M := by
      cases M with
      | nil => rfl
      | cons c M => rfl
    rw [e]; exact HO.out
  case round =>
    obtain ⟨i, k, rfl, hik, hib, hg1, hO, hG⟩ := hrel
    by_cases hlt : i < b
    · have hltz : (i : Int) < (b : Int) := by omega
      obtain ⟨cx, cv, hc⟩ := get_pair (d := M) (k := k) (by have := HA.out; have := HB.out; omega)
      have hkM : k < M.length := (List.getElem?_eq_some_iff.1 hc).1
      have HD : Hid (M.drop k = (cx, cv) :: M.drop (k + 1)) := by
        show _ = _
        rw [List.drop_eq_getElem_cons hkM]
        congr 1
        have := List.getElem?_eq_getElem hkM
        rw [this] at hc; exact Option.some.inj hc
      have HT : Hid (M.take (k + 1) = M.take k ++ [(cx, cv)]) := by
        show _ = _
        rw [List.take_add_one, hc]; rfl
      have hl2 : (Sm.st (M.take k)).length = k := by rw [Sm.len_st, List.length_take]; omega
      have HS : Hid _ := hl2
      have HK : Hid (k < M.length) := hkM
      have HI : Hid (i = a + k) := hik
      have hai : a ≤ i := by omega
      clear hc hkM hl2 hik
      go_wp2
      go_loopg [9] i (fun g2 vj wr2 => ∃ (j : Nat) (P Q : List Cl), vj = .int .i64 j ∧ a ≤ j ∧ j ≤ i ∧ j ≤ g2 ∧ Hid (Sm.st (M.take k) = P ++ Q) ∧ Hid (P.length + a = j) ∧ Hid (∀ q ∈ Q, cx < q.1) ∧ Owns wr2 base (.slice (some ⟨g, 0, none⟩) n cap) (X ++ P ++ (cx, cv) :: (Q ++ M.drop (k + 1) ++ Y)) ∧ w.grownBy wr2 (some g))
      case atStart =>
        refine ⟨i, Sm.st (M.take k), [], rfl, by omega, by omega, by omega, ?_, ?_, ?_, ?_, hG⟩
        · show _ = _; simp
        · show _ = _; have := HS.out; have := HI.out; omega
        · intro q hq; cases hq
        · rw [HD.out] at hO; simpa using hO
      case round =>
        obtain ⟨j, P, Q, rfl, haj, hji, hg2, HPQ, HPL, HQ, hO2, hG2⟩ := hrel
        -- what is done when the inner loop ends
        have out : (P = [] ∨ ∃ P' px pv, P = P' ++ [(px, pv)] ∧ px ≤ cx) → Sm.st (M.take (k + 1)) = P ++ (cx, cv) :: Q := fun h => by
          rw [HT.out, Sm.st_snoc, HPQ.out]
          refine Sm.insr_form P Q (cx, cv) ?_ HQ.out
          rcases h with rfl | ⟨P', px, pv, rfl, hp⟩
          · intro y hy; cases hy
          · intro y hy
            have hs := Sm.srt_st (M.take k)
            rw [HPQ.out] at hs
            have hs := (List.pairwise_append.1 hs).1
            rcases List.mem_append.1 hy with hy | hy
            · have := (List.pairwise_append.1 hs).2.2 y hy (px, pv) (by simp); simp at this ⊢; omega
            · simp at hy; subst hy; exact hp
        have OUT : Hid _ := out
        clear out
        have HR : Hid (∀ D, Sm.st (M.take (k + 1)) = P ++ (cx, cv) :: Q → Owns D base (.slice (some ⟨g, 0, none⟩) n cap) (X ++ P ++ (cx, cv) :: (Q ++ M.drop (k + 1) ++ Y)) → Owns D base (.slice (some ⟨g, 0, none⟩) n cap) (X ++ (Sm.st (M.take (k + 1)) ++ M.drop (k + 1)) ++ Y)) := fun D e h => by
          rw [e]; simpa using h
        obtain ⟨hg0, hgs⟩ := hO2.lt
        by_cases hja : a < j
        · obtain ⟨jp, rfl⟩ : ∃ jp, j = jp + 1 := ⟨j - 1, by omega⟩
          obtain ⟨P', px, pv, rfl⟩ : ∃ P' px pv, P = P' ++ [(px, pv)] := by
            have hne : P ≠ [] := fun e => by have := HPL.out; rw [e] at this; simp at this; omega
            exact ⟨P.dropLast, (P.getLast hne).1, (P.getLast hne).2, (List.dropLast_concat_getLast hne).symm⟩
          have hpl : P'.length + X.length = jp := by have h1 := HPL.out; have h2 := HA.out; simp at h1; omega
          have hlist : X ++ (P' ++ [(px, pv)]) ++ (cx, cv) :: (Q ++ M.drop (k + 1) ++ Y) = (X ++ P') ++ (px, pv) :: (cx, cv) :: (Q ++ M.drop (k + 1) ++ Y) := by simp
          have hO3 := hO2
          rw [hlist] at hO3
          have e1 : ((X ++ P') ++ (px, pv) :: (cx, cv) :: (Q ++ M.drop (k + 1) ++ Y))[jp]? = some (px, pv) := by
            rw [List.getElem?_append_right (by simp; omega)]; simp [show jp - (X.length + P'.length) = 0 by omega]
          have e2 : ((X ++ P') ++ (px, pv) :: (cx, cv) :: (Q ++ M.drop (k + 1) ++ Y))[jp + 1]? = some (cx, cv) := by
            rw [List.getElem?_append_right (by simp; omega)]; simp [show jp + 1 - (X.length + P'.length) = 1 by omega]
          obtain ⟨p1, p2⟩ := hO3.at_ jp px pv e1
          obtain ⟨c1, c2⟩ := hO3.at_ (jp + 1) cx cv e2
          rw [Nat.zero_add] at p1 p2 c1 c2
          have hwp : IntKind.i64.wrap (jp : Int) = (jp : Int) := by rw [IntKind.wrap_i64]; omega
          have jz : (jp : Int) + 1 < (n : Int) := by omega
          have jz1 : (jp : Int) < (n : Int) := by omega
          have hjaz' : (a : Int) < (jp : Int) + 1 := by omega
          have q0 : (0 : Int) ≤ (jp : Int) + 1 := by omega
          have e0 : ((jp : Int) + 1).toNat = jp + 1 := by omega
          have HP3 : Hid _ := hpl
          have HO3 : Hid _ := hO3
          clear hlist e1 e2 hpl hO3
          by_cases hlv : cx < px
          · have hcm : Hid (Sm.cmp cx px < 0) := Sm.cmp_lt.2 hlv
            have hcd : decide (Sm.cmp cx px < 0) = true := decide_eq_true hcm.out
            go_wp2_with fail
            refine wp_region_adds (by kernel_rfl) (by kernel_rfl) ?_
            repeat (go_big_quiet_step ((go_at_call 41; exact calls_adds (byAt_any _ _ _ _ _))))
            refine wpQuiet_nil ?_
            intro _ hw1
            obtain ⟨⟨nq, osq⟩, hw2⟩ := hw1
            subst hw2
            go_wp2_with fail
            have hO4 : Owns (More wr nq osq) base (.slice (some ⟨g, 0, none⟩) n cap) ((X ++ P') ++ (px, pv) :: (cx, cv) :: (Q ++ M.drop (k + 1) ++ Y)) := Owns.adds HO3.out ⟨⟨nq, osq⟩, rfl⟩
            have hG4 : w.grownBy (More wr nq osq) (some g) := hG2.trans ((Adds.grownBy ⟨⟨nq, osq⟩, rfl⟩ _))
            clear p1 p2 c1 c2 hO2 hG2 HO3 HR
            generalize More wr nq osq = wq at hO4 hG4 ⊢
            obtain ⟨p1, p2⟩ := hO4.at_ jp px pv (by
              have := HP3.out
              rw [List.getElem?_append_right (by simp; omega)]; simp [show jp - (X.length + P'.length) = 0 by omega])
            obtain ⟨c1, c2⟩ := hO4.at_ (jp + 1) cx cv (by
              have := HP3.out
              rw [List.getElem?_append_right (by simp; omega)]; simp [show jp + 1 - (X.length + P'.length) = 1 by omega])
            rw [Nat.zero_add] at p1 p2 c1 c2
            have f1 := hO4.frozen ((jp + 1) * 2)
            have f2 := hO4.frozen ((jp + 1) * 2 + 1)
            have f3 := hO4.frozen (jp * 2)
            have f4 := hO4.frozen (jp * 2 + 1)
            have hS1 := hO4.store (jp + 1) px pv
            have hS2 := hS1.1.store jp cx cv
            have hswap : ((((X ++ P') ++ (px, pv) :: (cx, cv) :: (Q ++ M.drop (k + 1) ++ Y)).set (jp + 1) (px, pv)).set jp (cx, cv)) = X ++ P' ++ (cx, cv) :: ((px, pv) :: Q ++ M.drop (k + 1) ++ Y) := by
              have h3 := Sm.set_two (X ++ P') (Q ++ M.drop (k + 1) ++ Y) (px, pv) (cx, cv)
              have h4 : (X ++ P').length = jp := by have := HP3.out; simp; omega
              rw [h4] at h3; rw [h3]; simp
            rw [hswap] at hS2
            have HS2 : Hid _ := Lib.hid (And.intro hS2.1 ((hG4.trans hS1.2).trans hS2.2))
            clear hO4 hG4 hS1 hS2 hswap
            go_region
            all_goals
              go_wp2_with fail
              go_roundg jp
              case measure => omega
              case rel => exact ⟨jp, P', (px, pv) :: Q, rfl, by omega, by omega, Nat.le_refl _, (by show _ = _; rw [HPQ.out]; simp), (by show _ = _; have := HPL.out; simp at this; omega), (by show ∀ q ∈ _, _; intro q hq; rcases List.mem_cons.1 hq with rfl | hq; exact hlv; exact HQ.out q hq), HS2.out.1.adds ((Adds.refl _).drew), HS2.out.2.trans ((Adds.refl _).drew.grownBy _)⟩
          · have hcm : Hid (¬ Sm.cmp cx px < 0) := fun h => hlv (Sm.cmp_lt.1 h)
            have hcd : decide (Sm.cmp cx px < 0) = false := decide_eq_false hcm.out
            have HF : Hid (Sm.st (M.take (k + 1)) = (P' ++ [(px, pv)]) ++ (cx, cv) :: Q) := OUT.out (.inr ⟨P', px, pv, rfl, by omega⟩)
            clear hlv
            go_wp2_with fail
            refine wp_region_adds (by kernel_rfl) (by kernel_rfl) ?_
            repeat (go_big_quiet_step ((go_at_call 41; exact calls_adds (byAt_any _ _ _ _ _))))
            refine wpQuiet_nil ?_
            intro _ hw1
            obtain ⟨⟨nq, osq⟩, hw2⟩ := hw1
            subst hw2
            go_wp2_with fail
            have hO4 := Owns.adds (HR.out _ HF.out hO2) ⟨⟨nq, osq⟩, rfl⟩
            have hG4 : w.grownBy (More wr nq osq) (some g) := hG2.trans ((Adds.grownBy ⟨⟨nq, osq⟩, rfl⟩ _))
            clear p1 p2 c1 c2
            go_roundg (b - (i + 1))
            case measure => omega
            case rel => exact ⟨i + 1, k + 1, by go_num, by have := HI.out; omega, by omega, by omega, hO4, hG4⟩
        · have hjz : decide ((a : Int) < (j : Int)) = false := decide_eq_false (by omega)
          have HF : Hid (Sm.st (M.take (k + 1)) = P ++ (cx, cv) :: Q) := OUT.out (.inl (List.eq_nil_of_length_eq_zero (by have := HPL.out; omega)))
          go_wp2_with fail
          refine wp_region_adds (by kernel_rfl) (by kernel_rfl) ?_
          repeat (go_big_quiet_step (fail))
          refine wpQuiet_nil ?_
          intro _ hw1
          obtain ⟨⟨nq, osq⟩, hw2⟩ := hw1
          subst hw2
          go_wp2_with fail
          have hO4 := Owns.adds (HR.out _ HF.out hO2) ⟨⟨nq, osq⟩, rfl⟩
          have hG4 : w.grownBy (More wr nq osq) (some g) := hG2.trans ((Adds.grownBy ⟨⟨nq, osq⟩, rfl⟩ _))
          go_roundg (b - (i + 1))
          case measure => omega
          case rel => exact ⟨i + 1, k + 1, by go_num, by have := HI.out; omega, by omega, by omega, hO4, hG4⟩
    · have hltz : ¬ (i : Int) < (b : Int) := by omega
      have HF : Hid (Sm.st (M.take k) ++ M.drop k = Sm.st M) := by
        show _ = _
        have := HA.out; have := HB.out
        rw [List.take_of_length_le (by omega), List.drop_eq_nil_of_le (by omega)]; simp
      rw [HF.out] at hO
      clear hik
      go_wp2_with fail
      go_end0
      exact ⟨rfl, by simpa using hO, hG⟩
end Go.Proofs.Ytfddefoambakiaa
