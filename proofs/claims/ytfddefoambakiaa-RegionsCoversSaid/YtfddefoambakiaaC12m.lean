/- slices.Delete of one cell, slices.Insert of one cell, slices.BinarySearchFunc at cells. Conditions: the slice is of the call's own. -/
import Derived.Test.YtfddefoambakiaaC12e
import Derived.Test.YtfddefoambakiaaS12b
import Derived.Deep.RegionLaw
import Derived.Lib.SliceRun
import Derived.Lib.Overlaps
import Derived.Lib.AppendZerosOnto
import Derived.Laws.Externs
import Derived.Laws.IdiomCopy
namespace Go.Proofs.Ytfddefoambakiaa
open Go.ChangeShapes Go.WideShapes Go.ChangeAt Go.RowKit
set_option linter.unusedVariables false
theorem heap_setCells (g : Nat) (e : TypeId) : ∀ (vs : List Value) (o : Nat) (w : World) (cur : Array Value), w.heap[g]? = some (.cells cur e (0, 0)) →
    ∃ cur', (w.setCells g o vs).heap[g]? = some (.cells cur' e (0, 0)) ∧ cur'.size = cur.size ∧ (∀ j, j < cur.size → cur'[j]? = if o ≤ j ∧ j < o + vs.length then vs[j - o]? else cur[j]?) ∧ w.grownBy (w.setCells g o vs) (some g)
  | [], o, w, cur, h => ⟨cur, h, rfl, fun j _ => by rw [if_neg (by simp <;> omega)], grown_refl _ _⟩
  | v :: vs, o, w, cur, h => by
    have h1 : (w.setCell ⟨g, o, none⟩ v).heap[g]? = some (.cells (cur.setIfInBounds o v) e (0, 0)) := heap_setCell_same w g o cur e v h
    obtain ⟨cur', a1, a2, a3, a4⟩ := heap_setCells g e vs (o + 1) _ _ h1
    have hg1 : w.grownBy (w.setCell ⟨g, o, none⟩ v) (some g) := ⟨rfl, rfl, rfl, by simp, fun k _ hk => heap_setCell_other w ⟨g, o, none⟩ k v (fun e => hk (by simp [e]))⟩
    refine ⟨cur', a1, by simpa using a2, fun j hj => ?_, hg1.trans a4⟩
    rw [a3 j (by simpa using hj), List.length_cons]
    by_cases hjo : j = o
    · subst hjo
      rw [if_neg (by omega), if_pos (by omega), Array.getElem?_setIfInBounds]
      simp [hj]
    · by_cases hin : o + 1 ≤ j ∧ j < o + 1 + vs.length
      · rw [if_pos hin, if_pos (by omega), show j - o = (j - (o + 1)) + 1 by omega]; simp
      · rw [if_neg hin, if_neg (by omega), Array.getElem?_setIfInBounds, if_neg (fun e => hjo e.symm)]
theorem Owns.elim {w : World} {base g n cap : Nat} {d : List Cl} (h : Owns w base (.slice (some ⟨g, 0, none⟩) n cap) d) :
    ∃ cur, w.heap[g]? = some (.cells cur 59 (0, 0)) ∧ base ≤ g ∧ d.length = n ∧ n ≤ cap ∧ cap ≤ maxLen ∧ cur.size = cap * 2 ∧ ∀ j, j < n * 2 → cur[j]? = (Sm.cv d)[j]? := by
  have hn := h.len.1
  subst hn
  rcases h.2 with ⟨h', _⟩ | ⟨g', cap', cur, h', hb, hg, h1, h2, h3, h4⟩
  · simp at h'
  · simp only [Value.slice.injEq, Option.some.injEq, Addr.mk.injEq, and_true, true_and] at h'
    obtain ⟨rfl, rfl⟩ := h'
    refine ⟨cur, hg, hb, rfl, h1, h2, h3, fun j hj => ?_⟩
    rw [← h4, List.getElem?_take, if_pos hj]; simp
theorem Owns.spare {w : World} {base g n cap : Nat} {d : List Cl} (h : Owns w base (.slice (some ⟨g, 0, none⟩) n cap) d) (j : Nat) (hj : j < cap * 2) : (w.cell? ⟨g, j, none⟩).isSome = true ∧ w.frozen? ⟨g, j, none⟩ = false := by
  obtain ⟨cur, hg, hb, hn, hc, hm, hs, hcell⟩ := h.elim
  refine ⟨?_, frozen_of_row w g j cur _ hg⟩
  rw [cell_of_row w g j cur _ (0, 0) hg, Array.getElem?_eq_getElem (by omega)]; rfl
theorem Owns.intro {w : World} {base g n cap : Nat} {d : List Cl} {cur : Array Value} (hg : w.heap[g]? = some (.cells cur 59 (0, 0))) (hb : base ≤ g) (hn : d.length = n) (hc : n ≤ cap) (hm : cap ≤ maxLen) (hs : cur.size = cap * 2) (hcell : ∀ j, j < n * 2 → cur[j]? = (Sm.cv d)[j]?) : Owns w base (.slice (some ⟨g, 0, none⟩) n cap) d := by
  subst hn
  refine ⟨Sm.cv_len d, .inr ⟨g, cap, cur, rfl, hb, hg, hc, hm, hs, ?_⟩⟩
  apply List.ext_getElem?
  intro j
  rw [List.getElem?_take]
  by_cases hj : j < d.length * 2
  · rw [if_pos hj, ← hcell j hj]; simp
  · rw [if_neg hj, List.getElem?_eq_none]; rw [Sm.cv_len]; omega
theorem Sm.cv_at (A B : List Cl) (j : Nat) : (Sm.cv (A ++ B))[j]? = if j < A.length * 2 then (Sm.cv A)[j]? else (Sm.cv B)[j - A.length * 2]? := by
  rw [Sm.cv_app, List.getElem?_append, Sm.cv_len]
/-- The world behind a Delete. -/
theorem Owns.del {w : World} {base g n cap : Nat} {P Q : List Cl} {c : Cl} (h : Owns w base (.slice (some ⟨g, 0, none⟩) n cap) (P ++ c :: Q)) (v1 v2 : Value) :
    Owns ((w.setCells g (P.length * 2) (Sm.cv Q)).setCells g ((n - 1) * 2) [v1, v2]) base (.slice (some ⟨g, 0, none⟩) (n - 1) cap) (P ++ Q) ∧ w.grownBy ((w.setCells g (P.length * 2) (Sm.cv Q)).setCells g ((n - 1) * 2) [v1, v2]) (some g) := by
  obtain ⟨cur, hg, hb, hn, hc, hm, hs, hcell⟩ := h.elim
  have hnl : n = P.length + 1 + Q.length := by rw [← hn]; simp; omega
  obtain ⟨cur1, b1, b2, b3, b4⟩ := heap_setCells g _ (Sm.cv Q) (P.length * 2) w cur hg
  obtain ⟨cur2, c1, c2, c3, c4⟩ := heap_setCells g _ [v1, v2] ((n - 1) * 2) _ cur1 b1
  refine ⟨Owns.intro c1 hb (by simp; omega) (by omega) hm (by omega) (fun j hj => ?_), b4.trans c4⟩
  rw [c3 j (by omega), if_neg (by simp; omega), b3 j (by omega), Sm.cv_len, Sm.cv_at]
  by_cases hp : j < P.length * 2
  · rw [if_neg (by omega), if_pos hp, hcell j (by omega), Sm.cv_at, if_pos hp]
  · rw [if_pos (by omega), if_neg hp]
/-- The world behind an Insert in place. -/
theorem Owns.ins {w : World} {base g n cap : Nat} {P Q : List Cl} {x v : Int} (h : Owns w base (.slice (some ⟨g, 0, none⟩) n cap) (P ++ Q)) (hroom : n + 1 ≤ cap) :
    Owns ((w.setCells g ((P.length + 1) * 2) (Sm.cv Q)).setCells g (P.length * 2) (Sm.cv [(x, v)])) base (.slice (some ⟨g, 0, none⟩) (n + 1) cap) (P ++ (x, v) :: Q) ∧ w.grownBy ((w.setCells g ((P.length + 1) * 2) (Sm.cv Q)).setCells g (P.length * 2) (Sm.cv [(x, v)])) (some g) := by
  obtain ⟨cur, hg, hb, hn, hc, hm, hs, hcell⟩ := h.elim
  have hnl : n = P.length + Q.length := by rw [← hn]; simp
  obtain ⟨cur1, b1, b2, b3, b4⟩ := heap_setCells g _ (Sm.cv Q) ((P.length + 1) * 2) w cur hg
  obtain ⟨cur2, c1, c2, c3, c4⟩ := heap_setCells g _ (Sm.cv [(x, v)]) (P.length * 2) _ cur1 b1
  refine ⟨Owns.intro c1 hb (by simp; omega) hroom hm (by omega) (fun j hj => ?_), b4.trans c4⟩
  have e : P ++ (x, v) :: Q = P ++ ([(x, v)] ++ Q) := by simp
  rw [c3 j (by omega), Sm.cv_len, e, Sm.cv_at P, Sm.cv_at [(x, v)]]
  simp only [List.length_singleton]
  by_cases hp : j < P.length * 2
  · rw [if_neg (by omega), if_pos hp, b3 j (by omega), if_neg (by omega), hcell j (by omega), Sm.cv_at, if_pos hp]
  · rw [if_neg hp]
    by_cases hq : j < P.length * 2 + 1 * 2
    · rw [if_pos (by omega), if_pos (by omega)]
    · rw [if_neg (by omega), if_neg (by omega), b3 j (by omega), Sm.cv_len, if_pos (by omega)]
      congr 1; omega
/-- copy of cells. -/
theorem run_copy2 (w : World) (ty : TypeId) (b o dLen dCap : Nat) (a : Addr) (sLen sCap : Nat) (d : List Cl) (hn : d.length = Nat.min sLen dLen) (hsrc : ∀ j v, (Sm.cv d)[j]? = some v → w.cell? (a.add j) = some v)
    (hc : ∀ j, j < (Sm.cv d).length → (w.cell? ⟨b, o + j, none⟩).isSome = true) (hf : ∀ j, j < (Sm.cv d).length → w.frozen? ⟨b, o + j, none⟩ = false) :
    (Builtin.copy_ #[22, 22] ty #[.slice (some ⟨b, o, none⟩) dLen dCap, .slice (some a) sLen sCap]).run Try.prog w = .ok (goInt d.length) (w.setCells b o (Sm.cv d)) := by
  obtain ⟨i0, hi, hz0, hz1, hz2⟩ := info_parts cellInfo
  have hl := run_firstCells_some (P := Try.prog) w 2 d.length a sLen sCap (Sm.cv d) (Sm.cv_len d) hsrc
  have hst := run_storeCells_cells (P := Try.prog) b o (Sm.cv d) 0 w (by simpa using hc) (by simpa using hf) (Sm.cv_one d)
  simp only [Nat.add_zero] at hst
  simp [Builtin.copy_, run_underlying Try.underlying22, Builtin.lenOf, sizeOf, typeInfo, hi, hz1, ← hn, hl, hst]
theorem wp_copy2 {P : Program} (w : World) {o : Oper} {a : Act} {K : Act → World → Prop} {Q : Exit → Act → World → Prop} (d s : Operand) (t t' : TypeId)
    (ho : o.op = .call { callee := .builtin .copy, args := #[d, s], argTypes := #[t, t'] }) (v u : Value) (hd : a.eval d = v) (hs : a.eval s = u) {v' : Value} {w' : World}
    (hr : (Builtin.copy_ #[t, t'] o.type #[v, u]).run P w = .ok v' w') (h : K (a.put o.dst v') w') : o.wp P a w K Q := by
  unfold Oper.wp execOp
  simp only [ho, resolve, invoke, builtin, Sem.run_bind, Sem.run_pure, Result.andThen_ok, List.map_toArray, List.map_cons, List.map_nil, hd, hs, hr]
  exact h
theorem wpList_copy2 {P : Program} (w : World) {ops : Array Oper} {rest : List Oper} {o : Oper} {a : Act} {Q : Exit → Act → World → Prop} (hgd : o.guard = none) (d s : Operand) (t t' : TypeId)
    (ho : o.op = .call { callee := .builtin .copy, args := #[d, s], argTypes := #[t, t'] }) (v u : Value) (hd : a.eval d = v) (hs : a.eval s = u) {v' : Value} {w' : World}
    (hr : (Builtin.copy_ #[t, t'] o.type #[v, u]).run P w = .ok v' w') (h : wpList P ops Q rest (a.put o.dst v') w') : wpList P ops Q (o :: rest) a w :=
  wpList_plain hgd fun _ hK => wp_copy2 w d s t t' ho v u hd hs hr (hK _ _ h)
theorem step_copy2 {P : Program} {ops : Array Oper} {o : Oper} {a : Act} {w : World} {K : Act → World → Prop} {Q : Exit → Act → World → Prop} {E : Prop}
    (hg : o.guard = none) (d x : Operand) (dT sT : TypeId) (hop : o.op = Op.call { callee := Callee.builtin Builtin.copy, args := #[d, x], argTypes := #[dT, sT] })
    (v u : Value) (hd : a.eval d = v) (hx : a.eval x = u) {v' : Value} {w' : World} (hr : (Builtin.copy_ #[dT, sT] o.type #[v, u]).run P w = .ok v' w') (hK : K (a.put o.dst v') w') :
    if Region.wanted o (yielded ops a.tmps) = true then Oper.wp P o a w K Q else E := by
  have hw : Region.wanted o (yielded ops a.tmps) = true := by simp [Region.wanted, hg]
  rw [if_pos hw]
  exact wp_copy2 w d x dT sT hop v u hd hx hr hK
/-- clear of one cell. -/
theorem run_clear1 (w : World) (ty : TypeId) (b o c : Nat) (hc : ∀ j, j < 2 → (w.cell? ⟨b, o + j, none⟩).isSome = true) (hf : ∀ j, j < 2 → w.frozen? ⟨b, o + j, none⟩ = false) :
    (Builtin.clear_ #[22] ty #[.slice (some ⟨b, o, none⟩) 1 c]).run Try.prog w = .ok (.tuple #[]) (w.setCells b o [.int .u16 0, .int .u8 0]) := by
  obtain ⟨i0, hi, hz0, hz1, hz2⟩ := info_parts cellInfo
  have hst := run_storeCells_cells (P := Try.prog) b o [.int .u16 0, .int .u8 0] 0 w (by simpa using hc) (by simpa using hf) (by simp [Value.oneCell'])
  simp only [Nat.add_zero] at hst
  have hzv : (zeroValue 59).run Try.prog w = .ok (.agg #[.int .u16 0, .int .u8 0]) w := by simp [zeroValue, typeInfo, hi, hz0]
  have hzc : Builtin.zeroCells #[.int .u16 0, .int .u8 0] 1 = #[.int .u16 0, .int .u8 0] := by kernel_rfl
  simp [Builtin.clear_, run_underlying Try.underlying22, hzv, Value.cells, hzc, hst]
set_option maxHeartbeats 4000000 in
theorem delete_any (base g n cap : Nat) (P Q : List Cl) (c : Cl) (i j : Int) (w : World) (hO : Owns w base (.slice (some ⟨g, 0, none⟩) n cap) (P ++ c :: Q)) (hbig : n ≤ 33554432) (hi : i = P.length) (hj : j = P.length + 1) :
    Calls Try.prog 47 #[.slice (some ⟨g, 0, none⟩) n cap, .int .i64 i, .int .i64 j] w fun e w' => e = .returned (.slice (some ⟨g, 0, none⟩) (n - 1) cap) ∧ Owns w' base (.slice (some ⟨g, 0, none⟩) (n - 1) cap) (P ++ Q) ∧ w.grownBy w' (some g) := by
  obtain ⟨hn, hcap, hcap2⟩ := hO.len
  have hg := hO.lt
  obtain ⟨i0, hi0, hz0, hz1, hz2⟩ := info_parts cellInfo
  obtain ⟨k, hk⟩ : ∃ k, k = P.length := ⟨_, rfl⟩
  obtain ⟨q, hq⟩ : ∃ q, q = Q.length := ⟨_, rfl⟩
  have hnl : n = k + 1 + q := by rw [hn]; simp; omega
  obtain rfl : i = (k : Int) := by omega
  obtain rfl : j = (k : Int) + 1 := by omega
  subst hnl
  have hdel := hO.del (.int .u16 0) (.int .u8 0)
  rw [← hk, show k + 1 + q - 1 = k + q by omega] at hdel
  have hOd : Owns w.drew base (.slice (some ⟨g, 0, none⟩) (k + 1 + q) cap) (P ++ c :: Q) := hO
  have hdel2 := hOd.del (.int .u16 0) (.int .u8 0)
  rw [← hk, show k + 1 + q - 1 = k + q by omega] at hdel2
  have hnews : ∀ t u, (Sm.cv Q)[t]? = some u → w.drew.cell? ((⟨g, (k + 1) * 2, none⟩ : Addr).add t) = some u := fun t u hu => by
    have ht : t < Q.length * 2 := by have := (List.getElem?_eq_some_iff.1 hu).1; rwa [Sm.cv_len] at this
    rw [add_plain]
    have e := World.ownsRow.cellAt (n := (P ++ c :: Q).length) (by have := hO; rw [hn] at this; exact this) ((k + 1) * 2 + t) (by simp; omega)
    show w.cell? _ = _
    rw [e, show P ++ c :: Q = (P ++ [c]) ++ Q by simp, Sm.cv_at, if_neg (by simp; omega), ← hu]
    congr 1; simp; omega
  have hs1 : (Sm.cv Q).length = q * 2 := by rw [Sm.cv_len, hq]
  have hs3 : ∀ t, t < (Sm.cv Q).length → (w.drew.cell? ⟨g, 0 + k * 2 + t, none⟩).isSome = true ∧ w.drew.frozen? ⟨g, 0 + k * 2 + t, none⟩ = false := fun t ht => hOd.spare _ (by omega)
  obtain ⟨news, hnw⟩ : ∃ news, news = Sm.cv Q := ⟨_, rfl⟩
  have hs2 : ∀ u ∈ news, u.oneCell' = true := by rw [hnw]; exact Sm.cv_one Q
  rw [← hnw] at hs1 hs3 hnews hdel2
  obtain ⟨W1, hW1⟩ : ∃ W1, W1 = w.drew.setCells g (0 + k * 2) news := ⟨_, rfl⟩
  rw [show k * 2 = 0 + k * 2 by omega, ← hW1] at hdel2
  have hsp : ∀ j, j < cap * 2 → (W1.cell? ⟨g, j, none⟩).isSome = true ∧ W1.frozen? ⟨g, j, none⟩ = false := fun j hj => by
    obtain ⟨cur, h1, _, _, _, _, h2, _⟩ := hOd.elim
    obtain ⟨cur1, b1, b2, _, _⟩ := heap_setCells g _ news (0 + k * 2) _ cur h1
    rw [← hW1] at b1
    refine ⟨?_, frozen_of_row W1 g j cur1 _ b1⟩
    rw [cell_of_row W1 g j cur1 _ (0, 0) b1, Array.getElem?_eq_getElem (by omega)]; rfl
  have hcl : ∀ ty c', (Builtin.clear_ #[22] ty #[.slice (some ⟨g, (k + q) * 2, none⟩) (k + 1 + q - (k + q)) c']).run Try.prog W1 = .ok (.tuple #[]) (W1.setCells g ((k + q) * 2) [.int .u16 0, .int .u8 0]) := fun ty c' => by
    rw [show k + 1 + q - (k + q) = 1 by omega]
    exact run_clear1 W1 ty g ((k + q) * 2) c' (fun j hj => (hsp _ (by omega)).1) (fun j hj => (hsp _ (by omega)).2)
  have HN : Hid _ := Lib.hid hnews
  have HS2 : Hid _ := Lib.hid hs2
  have HS3 : Hid _ := Lib.hid hs3
  have HS1 : Hid _ := Lib.hid hs1
  have HW : Hid _ := Lib.hid hW1
  have HD : Hid _ := Lib.hid hdel2
  have hkc : k + 1 + q ≤ cap := by omega
  have hz5 : (0 : Int) ≤ (k : Int) + 1 := by omega
  have hkcap : k ≤ cap := by omega
  have hkcap1 : k + 1 ≤ cap := by omega
  have hz3 : (k : Int) + 1 ≤ (k : Int) + 1 + (q : Int) := by omega
  have hz4 : ((k : Int) + 1).toNat = k + 1 := by omega
  clear hsp hnews hs2 hs3 hs1 hW1 hdel2 hdel hOd hO hn hcap hk hq hnw hi hj
  by_cases hck : cap = k + 1
  · obtain rfl : q = 0 := by omega
    subst hck
    have hz6 : (k : Int) ≤ (k : Int) + 1 := by omega
    have hcl1 := hcl
    simp only [Nat.add_zero] at hcl1
    rw [show k + 1 - k = 1 by omega] at hcl1
    have HD1 : Hid (Owns (W1.setCells g (k * 2) [.int .u16 0, .int .u8 0]) base (.slice (some ⟨g, 0, none⟩) k (k + 1)) (P ++ Q) ∧ w.drew.grownBy (W1.setCells g (k * 2) [.int .u16 0, .int .u8 0]) (some g)) := HD.out
    clear hcl
    go_enter Try.func47, Try.ntmps47
    go_wp2_with fail
    go_region_law (refine step_append_room rfl (.tmp 22) (.tmp 25) 22 rfl 59 i0 2 Try.underlying22 hi0 hz1 g 0 k (k + 1) (by simp [Act.eval, Act.put]) ⟨g, 0, none⟩ 0 0 news (by simp [Act.eval, Act.put]) HS1.out (fun t u hu => by have := (List.getElem?_eq_some_iff.1 hu).1; have := HS1.out; omega) HS2.out (by omega) HS3.out ?_; rw [← HW.out])
    go_wp2_with fail
    go_ret
    exact ⟨rfl, HD1.out.1, ((Adds.refl w).drew.grownBy _).trans HD1.out.2⟩
  · go_enter Try.func47, Try.ntmps47
    go_wp2_with fail
    go_region_law (refine step_append_room rfl (.tmp 22) (.tmp 25) 22 rfl 59 i0 2 Try.underlying22 hi0 hz1 g 0 k cap (by simp [Act.eval, Act.put]) ⟨g, (k + 1) * 2, none⟩ q (cap - (k + 1)) news (by simp [Act.eval, Act.put]) HS1.out HN.out HS2.out (by omega) HS3.out ?_; rw [← HW.out])
    go_wp2_with fail
    go_ret
    have e1 : k + 1 + q - 1 = k + q := by omega
    rw [e1]
    exact ⟨rfl, HD.out.1, ((Adds.refl w).drew.grownBy _).trans HD.out.2⟩
end Go.Proofs.Ytfddefoambakiaa
