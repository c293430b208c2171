/- More on stable sorting: how two sorted stretches are merged. No condition. -/
import Derived.Test.YtfddefoambakiaaS12
namespace Go.Proofs.Ytfddefoambakiaa.Sm
set_option linter.unusedVariables false
theorem srt_get {d : List Cl} (h : Srt d) {i j : Nat} {x y : Cl} (hx : d[i]? = some x) (hy : d[j]? = some y) (hij : i ≤ j) : x.1 ≤ y.1 := by
  obtain ⟨h1, rfl⟩ := List.getElem?_eq_some_iff.1 hx
  obtain ⟨h2, rfl⟩ := List.getElem?_eq_some_iff.1 hy
  rcases Nat.lt_or_ge i j with h3 | h3
  · exact List.pairwise_iff_getElem.1 h i j h1 h2 h3
  · obtain rfl : i = j := by omega
    exact Int.le_refl _
theorem mem_take_get {d : List Cl} {n : Nat} {x : Cl} (h : x ∈ d.take n) : ∃ i, i < n ∧ d[i]? = some x := by
  obtain ⟨i, hi⟩ := List.getElem?_of_mem h
  have hl := (List.getElem?_eq_some_iff.1 hi).1
  rw [List.length_take] at hl
  refine ⟨i, by omega, ?_⟩
  rw [List.getElem?_take, if_pos (by omega)] at hi
  exact hi
theorem mem_drop_get {d : List Cl} {n : Nat} {x : Cl} (h : x ∈ d.drop n) : ∃ i, n ≤ i ∧ d[i]? = some x := by
  obtain ⟨i, hi⟩ := List.getElem?_of_mem h
  rw [List.getElem?_drop] at hi
  exact ⟨n + i, by omega, hi⟩
theorem srt_left {a b : List Cl} (h : Srt (a ++ b)) : Srt a := (List.pairwise_append.1 h).1
theorem srt_right {a b : List Cl} (h : Srt (a ++ b)) : Srt b := (List.pairwise_append.1 h).2.1
theorem srt_sep {a b : List Cl} (h : Srt (a ++ b)) : ∀ x ∈ a, ∀ y ∈ b, x.1 ≤ y.1 := (List.pairwise_append.1 h).2.2
theorem merge_left {c : Cl} {B1 B2 : List Cl} (hB : Srt (B1 ++ B2)) (h1 : ∀ y ∈ B1, y.1 < c.1) (h2 : ∀ y ∈ B2, c.1 ≤ y.1) : B1 ++ c :: B2 = st ([c] ++ (B1 ++ B2)) := by
  refine st_of ?_ ?_
  · refine List.pairwise_append.2 ⟨srt_left hB, List.pairwise_cons.2 ⟨h2, srt_right hB⟩, fun x hx y hy => ?_⟩
    have := h1 x hx
    rcases List.mem_cons.1 hy with rfl | hy
    · omega
    · have := h2 y hy; omega
  · have e1 : [c] ++ (B1 ++ B2) = ([c] ++ B1) ++ B2 := by simp
    have e2 : B1 ++ c :: B2 = (B1 ++ [c]) ++ B2 := by simp
    rw [e1, e2]
    exact (Stb.comm fun x hx y hy => by simp at hx; subst hx; have := h1 y hy; omega).app (Stb.refl _)
theorem merge_right {c : Cl} {A1 A2 : List Cl} (hA : Srt (A1 ++ A2)) (h1 : ∀ y ∈ A1, y.1 ≤ c.1) (h2 : ∀ y ∈ A2, c.1 < y.1) : A1 ++ c :: A2 = st ((A1 ++ A2) ++ [c]) := by
  refine st_of ?_ ?_
  · refine List.pairwise_append.2 ⟨srt_left hA, List.pairwise_cons.2 ⟨fun y hy => by have := h2 y hy; omega, srt_right hA⟩, fun x hx y hy => ?_⟩
    have := h1 x hx
    rcases List.mem_cons.1 hy with rfl | hy
    · omega
    · have := h2 y hy; omega
  · rw [List.append_assoc]
    exact (Stb.refl _).app (Stb.comm (b := [c]) fun x hx y hy => by simp at hy; subst hy; have := h2 x hx; omega)
theorem merge_split {A1 A2 B1 B2 : List Cl} (hA : Srt (A1 ++ A2)) (hB : Srt (B1 ++ B2)) (h1 : ∀ x ∈ A2, ∀ y ∈ B1, y.1 < x.1) (h2 : ∀ x ∈ A1, ∀ y ∈ B2, x.1 ≤ y.1) :
    st (A1 ++ B1) ++ st (A2 ++ B2) = st ((A1 ++ A2) ++ (B1 ++ B2)) := by
  refine st_of ?_ ?_
  · refine List.pairwise_append.2 ⟨srt_st _, srt_st _, fun x hx y hy => ?_⟩
    have hx := ((stb_st (A1 ++ B1)).mem x).1 hx
    have hy := ((stb_st (A2 ++ B2)).mem y).1 hy
    rcases List.mem_append.1 hx with hx | hx <;> rcases List.mem_append.1 hy with hy | hy
    · exact srt_sep hA x hx y hy
    · exact h2 x hx y hy
    · have := h1 y hy x hx; omega
    · exact srt_sep hB x hx y hy
  · have e : Stb ((A1 ++ A2) ++ (B1 ++ B2)) ((A1 ++ B1) ++ (A2 ++ B2)) := by
      have e1 : (A1 ++ A2) ++ (B1 ++ B2) = A1 ++ ((A2 ++ B1) ++ B2) := by simp
      have e2 : (A1 ++ B1) ++ (A2 ++ B2) = A1 ++ ((B1 ++ A2) ++ B2) := by simp
      rw [e1, e2]
      exact (Stb.refl _).app ((Stb.comm fun x hx y hy => by have := h1 x hx y hy; omega).app (Stb.refl _))
    exact e.trans ((stb_st _).app (stb_st _))
theorem st_srt {d : List Cl} (h : Srt d) : st d = d := (st_of h (Stb.refl d)).symm
theorem drop_cons {d : List Cl} {k : Nat} {c : Cl} (h : d[k]? = some c) : d.drop k = c :: d.drop (k + 1) := by
  obtain ⟨h1, rfl⟩ := List.getElem?_eq_some_iff.1 h
  exact List.drop_eq_getElem_cons h1
theorem take_snoc {d : List Cl} {k : Nat} {c : Cl} (h : d[k]? = some c) : d.take (k + 1) = d.take k ++ [c] := by rw [List.take_add_one, h]; rfl
theorem pk_last {s : List Cl} {k : Nat} {c : Cl} (h : s[k]? = some c) (hl : k + 1 = s.length) : pk (s.drop k) = if c.2 != 0 then [c] else [] := by
  rw [drop_cons h, List.drop_eq_nil_of_le (by omega)]; rfl
theorem pk_next {s : List Cl} {k : Nat} {c e : Cl} (h : s[k]? = some c) (h2 : s[k + 1]? = some e) : pk (s.drop k) = if (e.1 != c.1) && (c.2 != 0) then c :: pk (s.drop (k + 1)) else pk (s.drop (k + 1)) := by
  rw [drop_cons h, drop_cons h2]; rfl
theorem pk_end {s : List Cl} {k : Nat} (h : s.length ≤ k) : pk (s.drop k) = [] := by rw [List.drop_eq_nil_of_le h]; rfl
/-- The list in stretches of n, each sorted. -/
def blk (n : Nat) : Nat → List Cl → List Cl
  | 0, d => d
  | k + 1, d => st (d.take n) ++ blk n k (d.drop n)
end Go.Proofs.Ytfddefoambakiaa.Sm
