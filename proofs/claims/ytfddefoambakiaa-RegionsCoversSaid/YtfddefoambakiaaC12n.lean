/- slices.Insert of one cell. Conditions: the slice is of the call's own; the cell lies in a block of its own. -/
import Derived.Test.YtfddefoambakiaaC12m
namespace Go.Proofs.Ytfddefoambakiaa
open Go.ChangeShapes Go.WideShapes Go.ChangeAt Go.RowKit
set_option linter.unusedVariables false
theorem shape_of {w : World} {b : Nat} {cs : Array Value} {t : TypeId} (h : w.heap[b]? = some (.cells cs t (0, 0))) : ∃ k, w.shape? b = some (t, k) ∧ k = cs.size := by
  simp [World.shape?, h]
/-- The world behind an Insert into a new row. -/
theorem Owns.grow {w : World} {base g n cap : Nat} {P Q : List Cl} {x v : Int} {R : Array Value} (hg : w.heap[g]? = some (.cells R 59 (0, 0))) (hb : base ≤ g) (hn : n + 1 ≤ cap) (hl : P.length + Q.length = n) (hm : cap ≤ maxLen) (hs : R.size = cap * 2) (hP : ∀ j, j < P.length * 2 → R[j]? = (Sm.cv P)[j]?) :
    Owns ((w.setCells g (P.length * 2) (Sm.cv [(x, v)])).setCells g ((P.length + 1) * 2) (Sm.cv Q)) base (.slice (some ⟨g, 0, none⟩) (n + 1) cap) (P ++ (x, v) :: Q) ∧ w.grownBy ((w.setCells g (P.length * 2) (Sm.cv [(x, v)])).setCells g ((P.length + 1) * 2) (Sm.cv Q)) (some g) := by
  obtain ⟨cur1, b1, b2, b3, b4⟩ := heap_setCells g _ (Sm.cv [(x, v)]) (P.length * 2) w R hg
  obtain ⟨cur2, c1, c2, c3, c4⟩ := heap_setCells g _ (Sm.cv Q) ((P.length + 1) * 2) _ cur1 b1
  refine ⟨Owns.intro c1 hb (by simp; omega) hn hm (by omega) (fun j hj => ?_), b4.trans c4⟩
  have e : P ++ (x, v) :: Q = P ++ ([(x, v)] ++ Q) := by simp
  rw [c3 j (by omega), Sm.cv_len, e, Sm.cv_at P, Sm.cv_at [(x, v)]]
  simp only [List.length_singleton]
  by_cases hp : j < P.length * 2
  · rw [if_neg (by omega), if_pos hp, b3 j (by omega), if_neg (by omega), hP j hp]
  · rw [if_neg hp]
    by_cases hq : j < P.length * 2 + 1 * 2
    · rw [if_neg (by omega), if_pos (by omega), b3 j (by omega), Sm.cv_len, if_pos (by simp; omega)]
    · rw [if_pos (by omega), if_neg (by omega)]
      congr 1; omega
set_option maxHeartbeats 4000000 in
/-- At the end. -/
theorem insert_end (base : Nat) (a : Option Addr) (n cap : Nat) (P : List Cl) (x v i : Int) (vb vc : Nat) (w : World) (hO : Owns w base (.slice a n cap) P) (hbig : n ≤ 16777216) (hi : i = n) (hv : At w vb 0 [(x, v)]) (hbase : base ≤ w.heap.size) :
    Calls Try.prog 48 #[.slice a n cap, .int .i64 i, .slice (some ⟨vb, 0, none⟩) 1 vc] w fun e w' => ∃ r, e = .returned r ∧ Owns w' base r (P ++ [(x, v)]) ∧ w.grownBy w' (Value.slice a n cap).ownBlock := by
  subst hi
  have HO : Hid _ := Lib.hid hO
  have HV : Hid _ := Lib.hid hv.news
  have hl : Hid (P.length = n) := by
    obtain ⟨a1, c1, h1, _⟩ := hO.form
    simp only [Value.slice.injEq] at h1
    exact h1.2.1.symm
  have hnc : n ≤ cap := by
    obtain ⟨a1, c1, h1, h2, _⟩ := hO.form
    simp only [Value.slice.injEq] at h1
    omega
  clear hO hv
  cases a with
  | none =>
    go_enter Try.func48, Try.ntmps48
    go_wp2_with (at_builtin; refine wpList_appA rfl _ _ rfl base (.slice none n cap) P rfl HO.out ⟨vb, 0, none⟩ 1 vc [(x, v)] rfl rfl HV.out (by have := hl.out; omega) hbase ?_; intro v1 w2 hO1 hg1 _)
    go_ret
    exact ⟨_, rfl, hO1, hg1⟩
  | some ad =>
    go_enter Try.func48, Try.ntmps48
    go_wp2_with (at_builtin; refine wpList_appA rfl _ _ rfl base (.slice (some ad) n cap) P rfl HO.out ⟨vb, 0, none⟩ 1 vc [(x, v)] rfl rfl HV.out (by have := hl.out; omega) hbase ?_; intro v1 w2 hO1 hg1 _)
    all_goals
      go_ret
      exact ⟨_, rfl, hO1, hg1⟩
set_option maxHeartbeats 4000000 in
/-- In place. -/
theorem insert_in (base g n cap : Nat) (P Q : List Cl) (x v i : Int) (vb vc : Nat) (w : World) (hO : Owns w base (.slice (some ⟨g, 0, none⟩) n cap) (P ++ Q)) (hbig : n ≤ 16777216) (hi : i = P.length) (hQ : 0 < Q.length) (hroom : n + 1 ≤ cap) (hvb : vb ≠ g) (hvh : w.heap[vb]? = some (.cells #[.int .u16 x, .int .u8 v] 59 (0, 0))) :
    Calls Try.prog 48 #[.slice (some ⟨g, 0, none⟩) n cap, .int .i64 i, .slice (some ⟨vb, 0, none⟩) 1 vc] w fun e w' => e = .returned (.slice (some ⟨g, 0, none⟩) (n + 1) cap) ∧ Owns w' base (.slice (some ⟨g, 0, none⟩) (n + 1) cap) (P ++ (x, v) :: Q) ∧ w.grownBy w' (some g) := by
  obtain ⟨hn, hcap, hcap2⟩ := hO.len
  obtain ⟨k, hk⟩ : ∃ k, k = P.length := ⟨_, rfl⟩
  obtain ⟨q, hq⟩ : ∃ q, q = Q.length := ⟨_, rfl⟩
  have hnl : n = k + q := by rw [hn]; simp; omega
  obtain rfl : i = (k : Int) := by omega
  subst hnl
  obtain ⟨cur, hg, hb, _, _, _, hsz, hcell⟩ := hO.elim
  have hov : ∀ lb cb, (callFunc 54 #[.slice (some ⟨vb, 0, none⟩) 1 vc, .slice (some ⟨g, (k + 1) * 2, none⟩) lb cb]).run Try.prog w = .ok (.value (.bool false)) w := fun lb cb => by
    obtain ⟨k1, s1, e1⟩ := shape_of hvh
    obtain ⟨k2, s2, e2⟩ := shape_of hg
    rw [run_callFunc_extern Try.func54 (by kernel_rfl) (by kernel_rfl) (by kernel_rfl) (e := Extern.SlicesOverlaps.overlaps #[22, 22] #[4]) (by kernel_rfl),
      Lib.run_overlaps_apart w 22 4 59 Try.underlying22 2 Try.sizeOf59 ⟨vb, 0, none⟩ ⟨g, (k + 1) * 2, none⟩ 1 vc lb cb hvb _ _ k1 k2 s1 s2 (by omega) (frozen_of_row w vb 0 _ _ hvh) (frozen_of_row w vb k1 _ _ hvh)]
    rfl
  have hOd : Owns w.drew base (.slice (some ⟨g, 0, none⟩) (k + q) cap) (P ++ Q) := hO
  have hins := hOd.ins (x := x) (v := v) hroom
  rw [← hk] at hins
  have hcp1 : ∀ ty l1 dc l2 sc, l1 = q → l2 = q + 1 → (Builtin.copy_ #[22, 22] ty #[.slice (some ⟨g, (k + 1) * 2, none⟩) l1 dc, .slice (some ⟨g, k * 2, none⟩) l2 sc]).run Try.prog w.drew = .ok (goInt Q.length) (w.drew.setCells g ((k + 1) * 2) (Sm.cv Q)) := fun ty l1 dc l2 sc e1 e2 =>
    run_copy2 w.drew ty g ((k + 1) * 2) l1 dc ⟨g, k * 2, none⟩ l2 sc Q (by simp only [Nat.min_def]; split <;> omega)
      (fun j u hj => by
        have hjl : j < Q.length * 2 := by have := (List.getElem?_eq_some_iff.1 hj).1; rwa [Sm.cv_len] at this
        rw [add_plain]
        have e := World.ownsRow.cellAt (n := (P ++ Q).length) (by have := hO; rw [hn] at this; exact this) (k * 2 + j) (by simp; omega)
        show w.cell? _ = _
        rw [e, Sm.cv_at, if_neg (by omega), ← hj]
        congr 1; omega)
      (fun j hj => (hOd.spare _ (by rw [Sm.cv_len] at hj; omega)).1) (fun j hj => (hOd.spare _ (by rw [Sm.cv_len] at hj; omega)).2)
  obtain ⟨cur1, b1, b2, b3, b4⟩ := heap_setCells g _ (Sm.cv Q) ((k + 1) * 2) w.drew cur hg
  obtain ⟨W1, hW1⟩ : ∃ W1, W1 = w.drew.setCells g ((k + 1) * 2) (Sm.cv Q) := ⟨_, rfl⟩
  rw [← hW1] at hcp1 hins b1 b4
  have hvW : W1.heap[vb]? = some (.cells #[.int .u16 x, .int .u8 v] 59 (0, 0)) := (b4.block vb (Array.getElem?_eq_some_iff.1 hvh).1 (fun e => hvb (by cases e; rfl))).trans hvh
  have hcp2 : ∀ ty l1 dc, 1 ≤ l1 → (Builtin.copy_ #[22, 22] ty #[.slice (some ⟨g, k * 2, none⟩) l1 dc, .slice (some ⟨vb, 0, none⟩) 1 vc]).run Try.prog W1 = .ok (goInt 1) (W1.setCells g (k * 2) (Sm.cv [(x, v)])) := fun ty l1 dc e1 => by
    refine run_copy2 W1 ty g (k * 2) l1 dc ⟨vb, 0, none⟩ 1 vc [(x, v)] (by simp only [Nat.min_def, List.length_singleton]; split <;> omega) (fun j u hj => ?_) (fun j hj => ?_) (fun j hj => frozen_of_row W1 g _ cur1 _ b1)
    · rw [add_plain, Nat.zero_add, cell_of_row W1 vb j _ _ (0, 0) hvW, ← hj]; simp [Sm.cv]
    · rw [Sm.cv_len] at hj
      simp only [List.length_singleton] at hj
      rw [cell_of_row W1 g _ cur1 _ (0, 0) b1, Array.getElem?_eq_getElem (by omega)]; rfl
  have HINS : Hid _ := Lib.hid hins
  have HC1 : Hid _ := Lib.hid hcp1
  have HC2 : Hid _ := Lib.hid hcp2
  have HQL : Hid _ := Lib.hid hq
  have hz1 : ((k : Int) == (k : Int) + (q : Int)) = false := by simp; omega
  have hz2 : ¬ ((cap : Int) < (k : Int) + (q : Int) + 1) := by omega
  have hz3 : ((k : Int) + 1).toNat = k + 1 := by omega
  have hz4 : (0 : Int) ≤ (k : Int) + 1 := by omega
  have hz5 : (k : Int) + 1 ≤ (k : Int) + (q : Int) + 1 := by omega
  have hz6 : ¬ cap = k + 1 := by omega
  have hz7 : ¬ cap = k := by omega
  have hz8 : (k : Int) ≤ (k : Int) + (q : Int) + 1 := by omega
  have hz9 : ((k : Int) + (q : Int) + 1).toNat = k + q + 1 := by omega
  have hqq : 0 < q := by omega
  have hw1 : IntKind.i64.wrap ((k : Int) + 1) = (k : Int) + 1 := by rw [IntKind.wrap_i64]; omega
  clear hn hcap hg hcell hsz b1 b2 b3 b4 hins hOd hO hW1 hvh hvW hi hk hq hcp1 hcp2 hQ
  go_enter Try.func48, Try.ntmps48
  go_wp2_with fail
  go_region_law (refine step_copy2 rfl (.tmp 73) (.tmp 76) 22 22 rfl _ _ (by simp [Act.eval, Act.put]) (by simp [Act.eval, Act.put]) (HC1.out _ q (cap - (k + 1)) (k + q + 1 - k) (cap - k) rfl (by omega)) ?_)
  go_wp2_with (refine wpList_copy2 _ rfl (.tmp 80) (.tmp 81) 22 22 rfl _ _ rfl rfl (HC2.out _ _ _ (by omega)) ?_)
  go_ret
  exact ⟨rfl, HINS.out.1, ((Adds.refl w).drew.grownBy _).trans HINS.out.2⟩
set_option maxHeartbeats 4000000 in
/-- Into a new row. -/
theorem insert_grow (base g n : Nat) (P Q : List Cl) (x v i : Int) (vb vc : Nat) (w : World) (hO : Owns w base (.slice (some ⟨g, 0, none⟩) n n) (P ++ Q)) (hbig : n ≤ 16777216) (hi : i = P.length) (hQ : 0 < Q.length) (hvb : vb ≠ g) (hvh : w.heap[vb]? = some (.cells #[.int .u16 x, .int .u8 v] 59 (0, 0))) (hbase : base ≤ w.heap.size) :
    Calls Try.prog 48 #[.slice (some ⟨g, 0, none⟩) n n, .int .i64 i, .slice (some ⟨vb, 0, none⟩) 1 vc] w fun e w' => ∃ r, e = .returned r ∧ Owns w' base r (P ++ (x, v) :: Q) ∧ w.grownBy w' (some g) := by
  obtain ⟨hn, hcap, hcap2⟩ := hO.len
  obtain ⟨i0, hi0, hz0, hzs, hzb⟩ := info_parts cellInfo
  obtain ⟨k, hk⟩ : ∃ k, k = P.length := ⟨_, rfl⟩
  obtain ⟨q, hq⟩ : ∃ q, q = Q.length := ⟨_, rfl⟩
  have hnl : n = k + q := by rw [hn]; simp; omega
  obtain rfl : i = (k : Int) := by omega
  subst hnl
  obtain ⟨cur, hg, hb, _, _, _, hsz, hcell⟩ := hO.elim
  have hgw : g < w.heap.size := hO.lt.2
  have hvw : vb < w.heap.size := (Array.getElem?_eq_some_iff.1 hvh).1
  have hgc : ∀ j, j < (k + q) * 2 → w.cell? ⟨g, j, none⟩ = (Sm.cv (P ++ Q))[j]? := fun j hj => by
    rw [cell_of_row w g j cur _ (0, 0) hg]; exact hcell j hj
  have hold : (Builtin.firstCells i0.size k (.slice (some ⟨g, 0, none⟩) k (k + q))).run Try.prog w.drew = .ok (Sm.cv P).toArray w.drew := by
    rw [hzs]
    exact run_firstCells_some w.drew 2 k ⟨g, 0, none⟩ k (k + q) (Sm.cv P) (by rw [Sm.cv_len, hk]) (fun j u hj => by
      have hjl : j < P.length * 2 := by have := (List.getElem?_eq_some_iff.1 hj).1; rwa [Sm.cv_len] at this
      rw [add_plain, Nat.zero_add]
      show w.cell? _ = _
      rw [hgc j (by omega), Sm.cv_at, if_pos hjl]; exact hj)
  have hrz : ∀ ty, (Builtin.append_ #[22, 3] ty #[.slice (some ⟨g, 0, none⟩) k (k + q), .int .i64 ((k : Int) + (q : Int) + 1 - (k : Int))]).run Try.prog w =
      .ok (.slice (some ⟨w.heap.size, 0, none⟩) (k + q + 1) (grownCap w (k + q + 1) (k + q) 59)) (w.drew.alloc (.cells ((Sm.cv P).toArray ++ Builtin.zeroCells (Value.agg #[.int .u16 0, .int .u8 0]).cells (q + 1) ++ Builtin.zeroCells (Value.agg #[.int .u16 0, .int .u8 0]).cells (grownCap w (k + q + 1) (k + q) 59 - (k + q + 1))) 59)) := fun ty => by
    have h := Lib.run_append_grow_zeros w 22 3 ty 59 i0 _ .i64 .i64 Try.underlying22 Try.underlying3 hi0 hz0 (some ⟨g, 0, none⟩) k (k + q) (Sm.cv P) hold (q + 1) (by omega) (by omega) (by omega) (by omega) (by rw [hzb]; omega) (by rw [hzb, show k + (q + 1) = k + q + 1 by omega]; exact growslice_fits (by omega) (by omega))
    rw [show (k : Int) + (q : Int) + 1 - (k : Int) = ((q + 1 : Nat) : Int) by omega]
    exact h
  obtain ⟨G, hG⟩ : ∃ G, G = grownCap w (k + q + 1) (k + q) 59 := ⟨_, rfl⟩
  obtain ⟨R, hR⟩ : ∃ R : Array Value, R = (Sm.cv P).toArray ++ Builtin.zeroCells (Value.agg #[.int .u16 0, .int .u8 0]).cells (q + 1) ++ Builtin.zeroCells (Value.agg #[.int .u16 0, .int .u8 0]).cells (G - (k + q + 1)) := ⟨_, rfl⟩
  have hGn : k + q + 1 ≤ G := by rw [hG]; exact grownCap_ge w _ _ _
  have hG63 : G ≤ maxLen := by rw [hG]; exact grownCap_le_maxLen w _ _ _ (by unfold maxLen; omega)
  rw [← hG, ← hR] at hrz
  have hRs : R.size = G * 2 := by
    have hz : ∀ t, (Builtin.zeroCells (Value.agg #[.int .u16 0, .int .u8 0]).cells t).size = t * 2 := fun t => by rw [size_zeroCells]; rfl
    rw [hR, Array.size_append, Array.size_append, hz, hz, List.size_toArray, Sm.cv_len]; omega
  have hRP : ∀ j, j < P.length * 2 → R[j]? = (Sm.cv P)[j]? := fun j hj => by
    rw [hR, Array.append_assoc, Array.getElem?_append_left (by simpa [Sm.cv_len] using hj)]; simp
  obtain ⟨W1, hW1⟩ : ∃ W1, W1 = w.drew.alloc (.cells R 59) := ⟨_, rfl⟩
  rw [← hW1] at hrz
  have hN1 : W1.heap[w.heap.size]? = some (.cells R 59 (0, 0)) := by rw [hW1]; exact heap_alloc_new w.drew _
  have hA1 : Adds w W1 := by rw [hW1]; exact (Adds.refl w).drew.alloc _
  have hgrow := Owns.grow (w := W1) (x := x) (v := v) (P := P) (Q := Q) (n := k + q) (base := base) hN1 hbase hGn (by omega) hG63 hRs hRP
  rw [← hk] at hgrow
  have hvW : W1.heap[vb]? = some (.cells #[.int .u16 x, .int .u8 v] 59 (0, 0)) := (hA1.below.block vb hvw).trans hvh
  have hcp1 : ∀ ty l1 dc, 1 ≤ l1 → (Builtin.copy_ #[22, 22] ty #[.slice (some ⟨w.heap.size, k * 2, none⟩) l1 dc, .slice (some ⟨vb, 0, none⟩) 1 vc]).run Try.prog W1 = .ok (goInt 1) (W1.setCells w.heap.size (k * 2) (Sm.cv [(x, v)])) := fun ty l1 dc e1 => by
    refine run_copy2 W1 ty w.heap.size (k * 2) l1 dc ⟨vb, 0, none⟩ 1 vc [(x, v)] (by simp only [Nat.min_def, List.length_singleton]; split <;> omega) (fun j u hj => ?_) (fun j hj => ?_) (fun j hj => frozen_of_row W1 _ _ R _ hN1)
    · rw [add_plain, Nat.zero_add, cell_of_row W1 vb j _ _ (0, 0) hvW, ← hj]; simp [Sm.cv]
    · rw [Sm.cv_len] at hj
      simp only [List.length_singleton] at hj
      rw [cell_of_row W1 _ _ R _ (0, 0) hN1, Array.getElem?_eq_getElem (by omega)]; rfl
  obtain ⟨R2, b1, b2, b3, b4⟩ := heap_setCells w.heap.size _ (Sm.cv [(x, v)]) (k * 2) W1 R hN1
  obtain ⟨W2, hW2⟩ : ∃ W2, W2 = W1.setCells w.heap.size (k * 2) (Sm.cv [(x, v)]) := ⟨_, rfl⟩
  rw [← hW2] at hcp1 hgrow b1 b4
  have hgW : ∀ j, j < (k + q) * 2 → W2.cell? ⟨g, j, none⟩ = (Sm.cv (P ++ Q))[j]? := fun j hj => by
    rw [← hgc j hj, ← hA1.cell hgw]
    exact World.cell?_of_block (b4.block g (by have := hA1.size; omega) (fun e => by cases e; omega))
  have hcp2 : ∀ ty l1 dc l2 sc, l1 = q → l2 = q → (Builtin.copy_ #[22, 22] ty #[.slice (some ⟨w.heap.size, (k + 1) * 2, none⟩) l1 dc, .slice (some ⟨g, k * 2, none⟩) l2 sc]).run Try.prog W2.drew = .ok (goInt Q.length) (W2.drew.setCells w.heap.size ((k + 1) * 2) (Sm.cv Q)) := fun ty l1 dc l2 sc e1 e2 =>
    run_copy2 W2.drew ty w.heap.size ((k + 1) * 2) l1 dc ⟨g, k * 2, none⟩ l2 sc Q (by simp only [Nat.min_def]; split <;> omega)
      (fun j u hj => by
        have hjl : j < Q.length * 2 := by have := (List.getElem?_eq_some_iff.1 hj).1; rwa [Sm.cv_len] at this
        rw [add_plain]
        show W2.cell? _ = _
        rw [hgW _ (by omega), Sm.cv_at, if_neg (by omega), ← hj]
        congr 1; omega)
      (fun j hj => by
        rw [Sm.cv_len] at hj
        show (W2.cell? _).isSome = true
        rw [cell_of_row W2 _ _ R2 _ (0, 0) b1, Array.getElem?_eq_getElem (by omega)]; rfl)
      (fun j hj => frozen_of_row W2 _ _ R2 _ b1)
  have hfin : Owns (W2.drew.setCells w.heap.size ((k + 1) * 2) (Sm.cv Q)) base (.slice (some ⟨w.heap.size, 0, none⟩) (k + q + 1) G) (P ++ (x, v) :: Q) ∧ w.grownBy (W2.drew.setCells w.heap.size ((k + 1) * 2) (Sm.cv Q)) (some g) := by
    obtain ⟨R3, c1, c2, c3, c4⟩ := heap_setCells w.heap.size _ (Sm.cv Q) ((k + 1) * 2) W2.drew R2 b1
    obtain ⟨R4, d1, d2, d3, d4⟩ := heap_setCells w.heap.size _ (Sm.cv Q) ((k + 1) * 2) W2 R2 b1
    have hb0 : Below w.heap.size w (W2.drew.setCells w.heap.size ((k + 1) * 2) (Sm.cv Q)) :=
      ((hA1.below.grown b4 hA1.size (fun _ e => by cases e; exact Nat.le_refl _)).trans ((Below.refl _ W2).drew)).grown c4 (by have h1 := hA1.size; have h2 := b4.size; show w.heap.size ≤ W2.heap.size; omega) (fun _ e => by cases e; exact Nat.le_refl _)
    obtain ⟨cu, e1, e2, e3, e4, e5, e6, e7⟩ := hgrow.1.elim
    rw [d1] at e1
    cases e1
    exact ⟨Owns.intro c1 hbase e3 e4 e5 (by omega) (fun j hj => by
      have hjj : j < R2.size := by omega
      rw [c3 j hjj, ← d3 j hjj]; exact e7 j hj), (Adds.of_below hb0).grownBy _⟩
  have HF : Hid _ := Lib.hid hfin
  have HC1 : Hid _ := Lib.hid hcp1
  have HC2 : Hid _ := Lib.hid hcp2
  have HRZ : Hid _ := Lib.hid hrz
  have hz1 : ((k : Int) == (k : Int) + (q : Int)) = false := by simp; omega
  have hz2 : (k : Int) + (q : Int) < (k : Int) + (q : Int) + 1 := by omega
  have hz3 : ((k : Int) + 1).toNat = k + 1 := by omega
  have hz4 : (0 : Int) ≤ (k : Int) + 1 := by omega
  have hz5 : (k : Int) + 1 ≤ (k : Int) + (q : Int) + 1 := by omega
  have hz6 : ¬ G = k + 1 := by omega
  have hz7 : ¬ G = k := by omega
  have hz8 : (k : Int) ≤ (k : Int) + (q : Int) + 1 := by omega
  have hz9 : ((k : Int) + (q : Int) + 1).toNat = k + q + 1 := by omega
  have hz10 : (k : Int) ≤ (k : Int) + (q : Int) := by omega
  have hz11 : k ≤ k + q := by omega
  have hqq : 0 < q := by omega
  have hG64 : G ≤ 9223372036854775807 := by unfold maxLen at hG63; omega
  have hw1 : IntKind.i64.wrap ((k : Int) + 1) = (k : Int) + 1 := by rw [IntKind.wrap_i64]; omega
  have hw2 : IntKind.i64.wrap ((k : Int) + (q : Int) + 1 - (k : Int)) = (k : Int) + (q : Int) + 1 - (k : Int) := by rw [IntKind.wrap_i64]; omega
  clear hfin hcp1 hcp2 hrz hn hcap hg hcell hsz b1 b2 b3 b4 hO hW1 hW2 hvh hvW hi hk hq hQ hgrow hA1 hN1 hRP hRs hR hG hgc hold hgW hG63
  go_enter Try.func48, Try.ntmps48
  go_wp2_with (first
    | (at_builtin; refine Lib.wpList_append_run _ rfl (.tmp 34) (.tmp 39) _ _ rfl _ _ rfl rfl _ _ (HRZ.out _) ?_)
    | (refine wpList_copy2 _ rfl (.tmp 43) (.tmp 44) 22 22 rfl _ _ rfl rfl (HC1.out _ (k + q + 1 - k) (G - k) (by omega)) ?_))
  go_region_law (refine step_copy2 rfl (.tmp 50) (.tmp 53) 22 22 rfl _ _ (by simp [Act.eval, Act.put]) (by simp [Act.eval, Act.put, show ¬ q = 0 by omega]) (HC2.out _ q (G - (k + 1)) q q rfl rfl) ?_)
  go_wp2_with fail
  go_ret
  exact ⟨_, rfl, HF.out.1, HF.out.2⟩
end Go.Proofs.Ytfddefoambakiaa
