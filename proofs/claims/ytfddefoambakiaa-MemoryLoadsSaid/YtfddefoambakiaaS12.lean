/- Plain facts on lists of cells (an address and a byte): memories, the byte at an address, what a list makes a memory of, stable sorting. No condition. -/
namespace Go.Proofs.Ytfddefoambakiaa
set_option linter.unusedVariables false
abbrev Cl := Int × Int
namespace Sm
/-- Addresses ascend, no byte is 0. -/
def V (d : List Cl) : Prop := d.Pairwise (fun a b => a.1 < b.1) ∧ ∀ c ∈ d, c.2 ≠ 0
def okAt (d : List Cl) (i : Nat) : Bool := ((d.getD i (0, 0)).2 != 0) && (i == 0 || decide ((d.getD (i - 1) (0, 0)).1 < (d.getD i (0, 0)).1))
def valid (d : List Cl) : Bool := (List.range d.length).all (okAt d)
def pickd (x : Int) (d : List Cl) : List Cl := d.filter fun c => c.1 == x
def get (d : List Cl) (x : Int) : Int := ((pickd x d).getLast?.map (·.2)).getD 0
def putStep (c : Cl) (s : List Cl × Bool) (y : Cl) : List Cl × Bool :=
  if y.1 != c.1 then ((if !s.2 && decide (c.1 ≤ y.1) then (if c.2 != 0 then s.1 ++ [c] else s.1) else s.1) ++ [y], s.2 || decide (c.1 ≤ y.1))
  else ((if !s.2 && decide (c.1 ≤ y.1) then (if c.2 != 0 then s.1 ++ [c] else s.1) else s.1), s.2 || decide (c.1 ≤ y.1))
def putS (c : Cl) (m : List Cl) : List Cl × Bool := m.foldl (putStep c) ([], false)
def put (m : List Cl) (c : Cl) : List Cl := if !(putS c m).2 && c.2 != 0 then (putS c m).1 ++ [c] else (putS c m).1
def nrm (l : List Cl) : List Cl := if valid l then l else l.foldl put []

theorem all_range (n : Nat) (p : Nat → Bool) : (List.range n).all p = true ↔ ∀ i, i < n → p i = true := by simp
theorem okAt_iff (d : List Cl) (i : Nat) (c : Cl) (h : d[i]? = some c) : okAt d i = true ↔ c.2 ≠ 0 ∧ (∀ e j, j + 1 = i → d[j]? = some e → e.1 < c.1) := by
  have hi : i < d.length := (List.getElem?_eq_some_iff.1 h).1
  unfold okAt
  rw [List.getD_eq_getElem?_getD, List.getD_eq_getElem?_getD, h]
  cases i with
  | zero => simp
  | succ j =>
    have hj : d[j]? = some d[j] := List.getElem?_eq_getElem (by omega)
    simp [hj]
theorem valid_iff (d : List Cl) : valid d = true ↔ V d := by
  unfold valid
  rw [all_range]
  constructor
  · intro h
    have hk : ∀ (i : Nat) (c : Cl), d[i]? = some c → c.2 ≠ 0 ∧ (∀ e j, j + 1 = i → d[j]? = some e → e.1 < c.1) := fun i c hc => (okAt_iff d i c hc).1 (h i (List.getElem?_eq_some_iff.1 hc).1)
    have hlt : ∀ (n i : Nat) (c e : Cl), d[i]? = some c → d[i + n + 1]? = some e → c.1 < e.1 := by
      intro n
      induction n with
      | zero => intro i c e hc he; exact (hk _ _ he).2 _ _ rfl hc
      | succ n ih =>
        intro i c e hc he
        have hm : i + n + 1 < d.length := by have := (List.getElem?_eq_some_iff.1 he).1; omega
        have h1 := ih i c _ hc (List.getElem?_eq_getElem hm)
        have h2 := (hk _ _ he).2 _ _ rfl (List.getElem?_eq_getElem (by omega : i + (n + 1) < d.length))
        have h3 : d[i + n + 1] = d[i + (n + 1)] := rfl
        rw [h3] at h1; omega
    refine ⟨List.pairwise_iff_getElem.2 fun i j hi hj hij => ?_, fun c hc => ?_⟩
    · exact hlt (j - i - 1) i _ _ (List.getElem?_eq_getElem hi) (by rw [show i + (j - i - 1) + 1 = j by omega]; exact List.getElem?_eq_getElem hj)
    · obtain ⟨i, hi⟩ := List.getElem?_of_mem hc
      exact (hk _ _ hi).1
  · rintro ⟨h1, h2⟩ i hi
    have hc := List.getElem?_eq_getElem hi
    refine (okAt_iff d i _ hc).2 ⟨h2 _ (List.getElem_mem hi), fun e j hj he => ?_⟩
    obtain ⟨hj', rfl⟩ := List.getElem?_eq_some_iff.1 he
    exact List.pairwise_iff_getElem.1 h1 j i hj' hi (by omega)
theorem valid_no (d : List Cl) (k : Nat) (hk : k < d.length) (h : okAt d k = false) : valid d = false := by
  cases hv : valid d with
  | false => rfl
  | true => rw [valid, all_range] at hv; rw [hv k hk] at h; cases h
theorem valid_yes (d : List Cl) (h : ∀ i, i < d.length → okAt d i = true) : valid d = true := by rw [valid, all_range]; exact h

theorem pickd_app (x : Int) (a b : List Cl) : pickd x (a ++ b) = pickd x a ++ pickd x b := by simp [pickd]
theorem pickd_cons (x : Int) (c : Cl) (r : List Cl) : pickd x (c :: r) = if c.1 = x then c :: pickd x r else pickd x r := by
  by_cases h : c.1 = x <;> simp [pickd, h]
theorem pickd_none {x : Int} {d : List Cl} (h : ∀ c ∈ d, c.1 ≠ x) : pickd x d = [] := List.filter_eq_nil_iff.2 fun c hc => by simpa using h c hc
theorem pickd_nil (x : Int) : pickd x [] = [] := rfl
theorem get_of_pickd {d d' : List Cl} {x : Int} (h : pickd x d = pickd x d') : get d x = get d' x := by simp [get, h]
theorem get_nil (x : Int) : get [] x = 0 := rfl
theorem get_hit (p q : List Cl) (x v : Int) (h : ∀ c ∈ q, c.1 ≠ x) : get (p ++ (x, v) :: q) x = v := by
  unfold get
  rw [pickd_app, pickd_cons, if_pos rfl, pickd_none h]
  simp
theorem get_miss (d : List Cl) (x : Int) (h : ∀ c ∈ d, c.1 ≠ x) : get d x = 0 := by unfold get; rw [pickd_none h]; rfl
theorem get_snoc (d : List Cl) (c : Cl) (x : Int) : get (d ++ [c]) x = if c.1 = x then c.2 else get d x := by
  unfold get
  rw [pickd_app, pickd_cons, pickd_nil]
  by_cases h : c.1 = x <;> simp [h]
theorem get_cons_ne (d : List Cl) (c : Cl) (x : Int) (h : c.1 ≠ x) : get (c :: d) x = get d x := by unfold get; rw [pickd_cons, if_neg h]
theorem get_head {d : List Cl} {c : Cl} (h : V (c :: d)) : get (c :: d) c.1 = c.2 := by
  have := get_hit [] d c.1 c.2 (fun e he => by have := (List.pairwise_cons.1 h.1).1 e he; omega)
  simpa using this
theorem get_low {d : List Cl} {x : Int} (h : ∀ e ∈ d, x < e.1) : get d x = 0 := get_miss d x fun c hc => by have := h c hc; omega
theorem V.tail {d : List Cl} {c : Cl} (h : V (c :: d)) : V d := ⟨(List.pairwise_cons.1 h.1).2, fun e he => h.2 e (by simp [he])⟩
theorem V_nil : V [] := ⟨List.Pairwise.nil, by simp⟩
theorem V_uniq : ∀ (a b : List Cl), V a → V b → (∀ x, get a x = get b x) → a = b
  | [], [], _, _, _ => rfl
  | [], e :: b, _, hb, h => by have := h e.1; rw [get_head hb, get_nil] at this; exact absurd this.symm (hb.2 e (by simp))
  | c :: a, [], ha, _, h => by have := h c.1; rw [get_head ha, get_nil] at this; exact absurd this (ha.2 c (by simp))
  | c :: a, e :: b, ha, hb, h => by
    have ha1 := (List.pairwise_cons.1 ha.1).1
    have hb1 := (List.pairwise_cons.1 hb.1).1
    have hk : c.1 = e.1 := by
      rcases Int.lt_trichotomy c.1 e.1 with hlt | heq | hlt
      · have := h c.1
        rw [get_head ha, get_low (d := e :: b) (x := c.1) (by intro y hy; rcases List.mem_cons.1 hy with rfl | hy; exact hlt; have := hb1 y hy; omega)] at this
        exact absurd this (ha.2 c (by simp))
      · exact heq
      · have := h e.1
        rw [get_head hb, get_low (d := c :: a) (x := e.1) (by intro y hy; rcases List.mem_cons.1 hy with rfl | hy; exact hlt; have := ha1 y hy; omega)] at this
        exact absurd this.symm (hb.2 e (by simp))
    have hv : c.2 = e.2 := by have := h c.1; rw [get_head ha, hk, get_head hb] at this; exact this
    have hce : c = e := Prod.ext hk hv
    subst hce
    congr 1
    refine V_uniq a b ha.tail hb.tail fun x => ?_
    by_cases hx : c.1 = x
    · subst hx; rw [get_low ha1, get_low hb1]
    · have := h x; rwa [get_cons_ne _ _ _ hx, get_cons_ne _ _ _ hx] at this

theorem V_app {a b : List Cl} (ha : V a) (hb : V b) (h : ∀ x ∈ a, ∀ y ∈ b, x.1 < y.1) : V (a ++ b) :=
  ⟨List.pairwise_append.2 ⟨ha.1, hb.1, h⟩, fun c hc => (List.mem_append.1 hc).elim (ha.2 c) (hb.2 c)⟩
theorem V.left {a b : List Cl} (h : V (a ++ b)) : V a := ⟨(List.pairwise_append.1 h.1).1, fun c hc => h.2 c (by simp [hc])⟩
theorem V.right {a b : List Cl} (h : V (a ++ b)) : V b := ⟨(List.pairwise_append.1 h.1).2.1, fun c hc => h.2 c (by simp [hc])⟩
theorem V.sep {a b : List Cl} (h : V (a ++ b)) : ∀ x ∈ a, ∀ y ∈ b, x.1 < y.1 := (List.pairwise_append.1 h.1).2.2
theorem V_one {c : Cl} (h : c.2 ≠ 0) : V [c] := ⟨List.pairwise_singleton _ _, by simp [h]⟩
/-- The byte in two parts of a memory. -/
theorem get_app_right {a b : List Cl} {x : Int} (h : ∀ c ∈ a, c.1 ≠ x) : get (a ++ b) x = get b x := get_of_pickd (by rw [pickd_app, pickd_none h]; rfl)
theorem get_app_left {a b : List Cl} {x : Int} (h : ∀ c ∈ b, c.1 ≠ x) : get (a ++ b) x = get a x := get_of_pickd (by rw [pickd_app, pickd_none h, List.append_nil])

/-! ### A cell put into a memory -/
def one (c : Cl) : List Cl := if c.2 != 0 then [c] else []
theorem putS_low (c : Cl) : ∀ (l : List Cl) (s : List Cl), (∀ y ∈ l, y.1 < c.1) → l.foldl (putStep c) (s, false) = (s ++ l, false)
  | [], s, _ => by simp
  | y :: l, s, h => by
    have hy := h y (by simp)
    have e : putStep c (s, false) y = (s ++ [y], false) := by
      unfold putStep
      have h1 : (y.1 != c.1) = true := by simp; omega
      have h2 : decide (c.1 ≤ y.1) = false := decide_eq_false (by omega)
      simp [h1, h2]
    rw [List.foldl_cons, e, putS_low c l _ (fun z hz => h z (by simp [hz]))]
    simp
theorem putS_done (c : Cl) : ∀ (l : List Cl) (s : List Cl), l.foldl (putStep c) (s, true) = (s ++ l.filter (fun y => y.1 != c.1), true)
  | [], s => by simp
  | y :: l, s => by
    rw [List.foldl_cons]
    by_cases h1 : (y.1 != c.1) = true
    · have e : putStep c (s, true) y = (s ++ [y], true) := by unfold putStep; simp [h1]
      rw [e, putS_done c l, List.filter_cons, if_pos h1]
      simp
    · have e : putStep c (s, true) y = (s, true) := by unfold putStep; simp [h1]
      rw [e, putS_done c l, List.filter_cons, if_neg h1]
theorem put_form (c : Cl) (l r : List Cl) (hl : ∀ y ∈ l, y.1 < c.1) (hr : ∀ y ∈ r, c.1 ≤ y.1) : put (l ++ r) c = l ++ one c ++ r.filter (fun y => y.1 != c.1) := by
  have e : putS c (l ++ r) = if r = [] then (l, false) else (l ++ one c ++ r.filter (fun y => y.1 != c.1), true) := by
    unfold putS
    rw [List.foldl_append, putS_low c l [] hl]
    cases r with
    | nil => simp
    | cons y r =>
      have hy := hr y (by simp)
      rw [List.foldl_cons, if_neg (by simp)]
      have h2 : decide (c.1 ≤ y.1) = true := decide_eq_true hy
      by_cases h1 : (y.1 != c.1) = true
      · have e : putStep c ([] ++ l, false) y = (l ++ one c ++ [y], true) := by
          unfold putStep one
          simp only [h1, h2]
          by_cases h3 : (c.2 != 0) = true <;> simp [h3]
        rw [e, putS_done, List.filter_cons, if_pos h1]
        simp
      · have e : putStep c ([] ++ l, false) y = (l ++ one c, true) := by
          unfold putStep one
          simp only [h1, h2]
          by_cases h3 : (c.2 != 0) = true <;> simp [h3]
        rw [e, putS_done, List.filter_cons, if_neg h1]
  unfold put
  rw [e]
  cases r with
  | nil => by_cases h3 : (c.2 != 0) = true <;> simp [one, h3]
  | cons y r => simp
theorem split_at (m : List Cl) (h : V m) (x : Int) : ∃ l r, m = l ++ r ∧ (∀ y ∈ l, y.1 < x) ∧ ∀ y ∈ r, x ≤ y.1 := by
  refine ⟨m.filter (fun y => decide (y.1 < x)), m.filter (fun y => !decide (y.1 < x)), ?_, by simp, by simp⟩
  induction m with
  | nil => rfl
  | cons c m ih =>
    have ih := ih h.tail
    have hc := (List.pairwise_cons.1 h.1).1
    by_cases hx : c.1 < x
    · simp only [List.filter_cons, decide_eq_true hx, if_true, Bool.not_true, Bool.false_eq_true, if_false, List.cons_append]
      rw [← ih]
    · have : m.filter (fun y => decide (y.1 < x)) = [] := by simp; intro a b hab; have := hc _ hab; simp at this; omega
      have h2 : m.filter (fun y => !decide (y.1 < x)) = m := by simp [List.filter_eq_self]; intro a b hab; have := hc _ hab; simp at this; omega
      simp [hx, this]
      exact h2.symm
theorem filter_ne_V {r : List Cl} (hr : V r) (x : Int) : V (r.filter (fun y => y.1 != x)) := ⟨hr.1.filter _, fun c hc => hr.2 c (List.mem_filter.1 hc).1⟩
theorem get_filter_ne (r : List Cl) (x z : Int) (h : z ≠ x) : get (r.filter (fun y => y.1 != x)) z = get r z := by
  refine get_of_pickd ?_
  simp only [pickd, List.filter_filter]
  congr 1; funext c
  by_cases hc : c.1 = z
  · have : c.1 ≠ x := by omega
    simp [hc, h]
  · simp [hc]
theorem V_put {m : List Cl} (h : V m) (c : Cl) : V (put m c) := by
  obtain ⟨l, r, rfl, hl, hr⟩ := split_at m h c.1
  rw [put_form c l r hl hr, List.append_assoc]
  have hr2 : ∀ y ∈ r.filter (fun y => y.1 != c.1), c.1 < y.1 := fun y hy => by
    obtain ⟨h1, h2⟩ := List.mem_filter.1 hy
    have := hr y h1
    simp at h2; omega
  have hV := filter_ne_V h.right c.1
  by_cases h3 : c.2 = 0
  · simp only [one, h3, bne_self_eq_false, Bool.false_eq_true, if_false, List.nil_append]
    exact V_app h.left hV fun x hx y hy => by have := hl x hx; have := hr2 y hy; omega
  · have : one c = [c] := by simp [one, h3]
    rw [this]
    refine V_app h.left (V_app (V_one h3) hV (by simpa using hr2)) fun x hx y hy => ?_
    have := hl x hx
    rcases List.mem_append.1 hy with hy | hy
    · simp at hy; subst hy; exact this
    · have := hr2 y hy; omega
theorem get_put {m : List Cl} (h : V m) (c : Cl) (x : Int) : get (put m c) x = if c.1 = x then c.2 else get m x := by
  obtain ⟨l, r, rfl, hl, hr⟩ := split_at m h c.1
  rw [put_form c l r hl hr]
  have hr2 : ∀ y ∈ r.filter (fun y => y.1 != c.1), c.1 < y.1 := fun y hy => by
    obtain ⟨h1, h2⟩ := List.mem_filter.1 hy
    have := hr y h1
    simp at h2; omega
  by_cases hx : c.1 = x
  · rw [if_pos hx, get_app_left (fun y hy => by have := hr2 y hy; omega), get_app_right (fun y hy => by have := hl y hy; omega)]
    by_cases h3 : c.2 = 0
    · simp [one, h3, get_nil]
    · have : one c = [] ++ [c] := by simp [one, h3]
      rw [this, get_snoc, if_pos hx]
  · rw [if_neg hx]
    have h1 : get (l ++ one c ++ r.filter (fun y => y.1 != c.1)) x = get (l ++ r.filter (fun y => y.1 != c.1)) x := by
      refine get_of_pickd ?_
      rw [pickd_app, pickd_app, pickd_app, pickd_none (d := one c) (by intro e he; unfold one at he; split at he; (simp at he; subst he; exact hx); cases he)]
      simp
    rw [h1]
    refine get_of_pickd ?_
    rw [pickd_app, pickd_app]
    congr 1
    simp only [pickd, List.filter_filter]
    congr 1; funext e
    by_cases he : e.1 = x
    · simp [he]; omega
    · simp [he]
theorem V_fold : ∀ (l m : List Cl), V m → V (l.foldl put m)
  | [], _, h => h
  | c :: l, m, h => V_fold l _ (V_put h c)
theorem get_fold : ∀ (l m : List Cl) (x : Int), V m → get (l.foldl put m) x = get (m ++ l) x
  | [], m, x, _ => by simp
  | c :: l, m, x, h => by
    rw [List.foldl_cons, get_fold l _ x (V_put h c)]
    have e : m ++ c :: l = (m ++ [c]) ++ l := by simp
    rw [e]
    by_cases hl : pickd x l = []
    · have h1 : ∀ y : List Cl, get (y ++ l) x = get y x := fun y => get_of_pickd (by rw [pickd_app, hl, List.append_nil])
      rw [h1, h1, get_put h, get_snoc]
    · unfold get
      rw [pickd_app, pickd_app, List.getLast?_append, List.getLast?_append]
      obtain ⟨z, hz⟩ : ∃ z, (pickd x l).getLast? = some z := by
        cases hq : (pickd x l).getLast? with
        | none => exact absurd (List.getLast?_eq_none_iff.1 hq) hl
        | some z => exact ⟨z, rfl⟩
      rw [hz]; simp
theorem V_nrm (l : List Cl) : V (nrm l) := by
  unfold nrm
  by_cases h : valid l = true
  · rw [if_pos h]; exact (valid_iff l).1 h
  · rw [if_neg h]; exact V_fold l [] V_nil
theorem get_nrm (l : List Cl) (x : Int) : get (nrm l) x = get l x := by
  unfold nrm
  by_cases h : valid l = true
  · rw [if_pos h]
  · rw [if_neg h, get_fold l [] x V_nil]; rfl
theorem nrm_of {l m : List Cl} (h : V m) (hg : ∀ x, get m x = get l x) : m = nrm l := V_uniq _ _ h (V_nrm l) fun x => by rw [hg, get_nrm]
theorem nrm_valid {l : List Cl} (h : valid l = true) : nrm l = l := by unfold nrm; rw [if_pos h]
theorem nrm_idem (l : List Cl) : nrm (nrm l) = nrm l := nrm_valid ((valid_iff _).2 (V_nrm l))
theorem valid_put {m : List Cl} (h : V m) (c : Cl) : valid (put m c) = true := (valid_iff _).2 (V_put h c)
theorem put_put_ne {m : List Cl} (h : V m) (c e : Cl) (hne : c.1 ≠ e.1) : put (put m c) e = put (put m e) c :=
  V_uniq _ _ (V_put (V_put h c) e) (V_put (V_put h e) c) fun x => by
    rw [get_put (V_put h c), get_put h, get_put (V_put h e), get_put h]
    by_cases h1 : e.1 = x <;> by_cases h2 : c.1 = x <;> simp [h1, h2] <;> omega
theorem put_put_eq {m : List Cl} (h : V m) (c e : Cl) (he : c.1 = e.1) : put (put m c) e = put m e :=
  V_uniq _ _ (V_put (V_put h c) e) (V_put h e) fun x => by
    rw [get_put (V_put h c), get_put h, get_put h]
    by_cases h1 : e.1 = x <;> simp [h1, he]

/-! ### Stable sorting -/
def Srt (d : List Cl) : Prop := d.Pairwise fun a b => a.1 ≤ b.1
def Stb (d s : List Cl) : Prop := ∀ x, pickd x s = pickd x d
theorem Stb.refl (d : List Cl) : Stb d d := fun _ => rfl
theorem Stb.symm {a b : List Cl} (h : Stb a b) : Stb b a := fun x => (h x).symm
theorem Stb.trans {a b c : List Cl} (h : Stb a b) (k : Stb b c) : Stb a c := fun x => (k x).trans (h x)
theorem Stb.app {a b c d : List Cl} (h : Stb a b) (k : Stb c d) : Stb (a ++ c) (b ++ d) := fun x => by rw [pickd_app, pickd_app, h x, k x]
theorem mem_pickd {x : Int} {c : Cl} {d : List Cl} : c ∈ pickd x d ↔ c ∈ d ∧ c.1 = x := by simp [pickd]
theorem Stb.mem {a b : List Cl} (h : Stb a b) (c : Cl) : c ∈ b ↔ c ∈ a := by
  have h1 := @mem_pickd c.1 c a
  have h2 := @mem_pickd c.1 c b
  rw [h c.1] at h2
  simp only [and_true] at h1 h2
  rw [← h1, ← h2]
theorem Stb.comm {a b : List Cl} (h : ∀ x ∈ a, ∀ y ∈ b, x.1 ≠ y.1) : Stb (a ++ b) (b ++ a) := fun z => by
  rw [pickd_app, pickd_app]
  by_cases ha : pickd z a = []
  · simp [ha]
  · have hb : pickd z b = [] := by
      refine pickd_none fun c hc e => ?_
      obtain ⟨u, hu⟩ := List.exists_mem_of_ne_nil _ ha
      obtain ⟨hu1, hu2⟩ := mem_pickd.1 hu
      exact h u hu1 c hc (by omega)
    simp [hb]
theorem srt_uniq : ∀ (a b : List Cl), Srt a → Srt b → Stb a b → a = b
  | [], [], _, _, _ => rfl
  | [], e :: b, _, _, h => by have := (h.mem e).1 (by simp); cases this
  | c :: a, [], _, _, h => by have := (h.mem c).2 (by simp); cases this
  | c :: a, e :: b, ha, hb, h => by
    have ha1 := (List.pairwise_cons.1 ha).1
    have hb1 := (List.pairwise_cons.1 hb).1
    have hk : c.1 = e.1 := by
      have h1 := (h.mem e).1 (by simp)
      have h2 := (h.mem c).2 (by simp)
      have k1 : c.1 ≤ e.1 := by rcases List.mem_cons.1 h1 with rfl | h1; exact Int.le_refl _; exact ha1 e h1
      have k2 : e.1 ≤ c.1 := by rcases List.mem_cons.1 h2 with rfl | h2; exact Int.le_refl _; exact hb1 c h2
      omega
    have hx := h c.1
    rw [pickd_cons, pickd_cons, if_pos hk.symm, if_pos rfl] at hx
    obtain ⟨rfl, ht⟩ := List.cons.inj hx
    congr 1
    refine srt_uniq a b (List.pairwise_cons.1 ha).2 (List.pairwise_cons.1 hb).2 fun x => ?_
    have := h x
    rw [pickd_cons, pickd_cons] at this
    by_cases hq : e.1 = x
    · rw [if_pos hq, if_pos hq] at this; exact (List.cons.inj this).2
    · rwa [if_neg hq, if_neg hq] at this
def insr (s : List Cl) (c : Cl) : List Cl := s.filter (fun y => decide (y.1 ≤ c.1)) ++ c :: s.filter (fun y => !decide (y.1 ≤ c.1))
def st (d : List Cl) : List Cl := d.foldl insr []
theorem split_le : ∀ (s : List Cl), Srt s → ∀ x : Int, s = s.filter (fun y => decide (y.1 ≤ x)) ++ s.filter (fun y => !decide (y.1 ≤ x))
  | [], _, _ => rfl
  | c :: m, h, x => by
    have ih := split_le m (List.pairwise_cons.1 h).2 x
    have hc := (List.pairwise_cons.1 h).1
    by_cases hx : c.1 ≤ x
    · simp only [List.filter_cons, decide_eq_true hx, if_true, Bool.not_true, Bool.false_eq_true, if_false, List.cons_append]
      rw [← ih]
    · have : m.filter (fun y => decide (y.1 ≤ x)) = [] := by simp; intro a b hab; have := hc _ hab; simp at this; omega
      have h2 : m.filter (fun y => !decide (y.1 ≤ x)) = m := by simp [List.filter_eq_self]; intro a b hab; have := hc _ hab; simp at this; omega
      simp [hx, this]
      exact h2.symm
theorem insr_form (l r : List Cl) (c : Cl) (hl : ∀ y ∈ l, y.1 ≤ c.1) (hr : ∀ y ∈ r, c.1 < y.1) : insr (l ++ r) c = l ++ c :: r := by
  unfold insr
  have e1 : l.filter (fun y => decide (y.1 ≤ c.1)) = l := List.filter_eq_self.2 fun y hy => decide_eq_true (hl y hy)
  have e2 : r.filter (fun y => decide (y.1 ≤ c.1)) = [] := List.filter_eq_nil_iff.2 fun y hy => by have := hr y hy; simp; omega
  have e3 : l.filter (fun y => !decide (y.1 ≤ c.1)) = [] := List.filter_eq_nil_iff.2 fun y hy => by have := hl y hy; simp; omega
  have e4 : r.filter (fun y => !decide (y.1 ≤ c.1)) = r := List.filter_eq_self.2 fun y hy => by have := hr y hy; simp; omega
  rw [List.filter_append, List.filter_append, e1, e2, e3, e4]; simp
theorem srt_insr {s : List Cl} (h : Srt s) (c : Cl) : Srt (insr s c) := by
  unfold insr Srt
  refine List.pairwise_append.2 ⟨List.Pairwise.filter _ h, List.pairwise_cons.2 ⟨fun y hy => ?_, List.Pairwise.filter _ h⟩, fun x hx y hy => ?_⟩
  · have := (List.mem_filter.1 hy).2; simp at this; omega
  · have h1 := (List.mem_filter.1 hx).2; simp at h1
    rcases List.mem_cons.1 hy with rfl | hy
    · exact h1
    · have := (List.mem_filter.1 hy).2; simp at this; omega
theorem stb_insr {s : List Cl} (h : Srt s) (c : Cl) : Stb (s ++ [c]) (insr s c) := by
  have e := split_le s h c.1
  unfold insr
  conv => lhs; rw [e]
  rw [List.append_assoc]
  refine (Stb.refl _).app ?_
  exact Stb.comm (a := s.filter (fun y => !decide (y.1 ≤ c.1))) (b := [c]) fun x hx y hy => by
    have := (List.mem_filter.1 hx).2; simp at this hy; subst hy; omega
theorem len_insr (s : List Cl) (c : Cl) : (insr s c).length = s.length + 1 := by
  unfold insr
  have h : (s.filter (fun y => decide (y.1 ≤ c.1))).length + (s.filter (fun y => !decide (y.1 ≤ c.1))).length = s.length := by
    induction s with
    | nil => rfl
    | cons a s ih =>
      rw [List.filter_cons, List.filter_cons]
      by_cases h : a.1 ≤ c.1
      · rw [if_pos (decide_eq_true h), if_neg (by simp [h]), List.length_cons, List.length_cons]; omega
      · rw [if_neg (by simp [h]), if_pos (by simp [h]), List.length_cons, List.length_cons]; omega
  rw [List.length_append, List.length_cons]; omega
theorem fold_insr : ∀ (d s : List Cl), Srt s → Srt (d.foldl insr s) ∧ Stb (s ++ d) (d.foldl insr s) ∧ (d.foldl insr s).length = s.length + d.length
  | [], s, h => ⟨h, by simpa using Stb.refl s, rfl⟩
  | c :: d, s, h => by
    obtain ⟨h1, h2, h3⟩ := fold_insr d (insr s c) (srt_insr h c)
    refine ⟨h1, ?_, by rw [List.foldl_cons, h3, len_insr, List.length_cons]; omega⟩
    have e : s ++ c :: d = (s ++ [c]) ++ d := by simp
    rw [e, List.foldl_cons]
    exact ((stb_insr h c).app (Stb.refl d)).trans h2
theorem srt_st (d : List Cl) : Srt (st d) := (fold_insr d [] List.Pairwise.nil).1
theorem stb_st (d : List Cl) : Stb d (st d) := (fold_insr d [] List.Pairwise.nil).2.1
theorem len_st (d : List Cl) : (st d).length = d.length := by have := (fold_insr d [] List.Pairwise.nil).2.2; simpa [st] using this
theorem st_of {d s : List Cl} (h : Srt s) (k : Stb d s) : s = st d := srt_uniq _ _ h (srt_st d) (k.symm.trans (stb_st d))
theorem st_snoc (d : List Cl) (c : Cl) : st (d ++ [c]) = insr (st d) c := by unfold st; rw [List.foldl_append]; rfl
theorem st_nil : st [] = [] := rfl
theorem st_one (c : Cl) : st [c] = [c] := rfl
theorem get_stb {d s : List Cl} (h : Stb d s) (x : Int) : get s x = get d x := get_of_pickd (h x)

/-! ### The last cell of each address -/
def pk : List Cl → List Cl
  | [] => []
  | [c] => if c.2 != 0 then [c] else []
  | c :: e :: r => if (e.1 != c.1) && (c.2 != 0) then c :: pk (e :: r) else pk (e :: r)
theorem pk_mem : ∀ (s : List Cl) (c : Cl), c ∈ pk s → c ∈ s
  | [], _, h => h
  | [c], e, h => by unfold pk at h; split at h; exact h; cases h
  | c :: e :: r, y, h => by
    unfold pk at h
    split at h
    · rcases List.mem_cons.1 h with rfl | h
      · simp
      · exact List.mem_cons_of_mem _ (pk_mem (e :: r) y h)
    · exact List.mem_cons_of_mem _ (pk_mem (e :: r) y h)
theorem V_pk : ∀ (s : List Cl), Srt s → V (pk s)
  | [], _ => V_nil
  | [c], _ => by
    unfold pk
    by_cases h : c.2 = 0
    · simp [h]; exact V_nil
    · simp [h]; exact V_one h
  | c :: e :: r, hs => by
    have ih := V_pk (e :: r) (List.pairwise_cons.1 hs).2
    unfold pk
    by_cases h : ((e.1 != c.1) && (c.2 != 0)) = true
    · rw [if_pos h]
      simp at h
      refine ⟨List.pairwise_cons.2 ⟨fun y hy => ?_, ih.1⟩, ?_⟩
      · have hc := (List.pairwise_cons.1 hs).1
        have h1 := hc e (by simp)
        have hy' := pk_mem _ _ hy
        rcases List.mem_cons.1 hy' with rfl | hy'
        · omega
        · have := (List.pairwise_cons.1 (List.pairwise_cons.1 hs).2).1 y hy'; omega
      · intro y hy
        rcases List.mem_cons.1 hy with rfl | hy
        · exact h.2
        · exact ih.2 y hy
    · rw [if_neg h]; exact ih
theorem get_two (c e : Cl) (r : List Cl) (h : e.1 = c.1) (x : Int) : get (c :: e :: r) x = get (e :: r) x := by
  by_cases hx : c.1 = x
  · unfold get
    rw [pickd_cons, if_pos hx, pickd_cons, if_pos (by omega)]
    simp
  · rw [get_cons_ne _ _ _ hx]
theorem get_pk : ∀ (s : List Cl), Srt s → ∀ x, get (pk s) x = get s x
  | [], _, _ => rfl
  | [c], _, x => by
    unfold pk
    by_cases h : c.2 = 0
    · simp [h]
      by_cases hx : c.1 = x
      · have := get_snoc [] c x; simp [hx, h] at this; rw [this]; rfl
      · rw [get_cons_ne _ _ _ hx]
    · simp [h]
  | c :: e :: r, hs, x => by
    have ih := get_pk (e :: r) (List.pairwise_cons.1 hs).2 x
    have h1 := (List.pairwise_cons.1 hs).1 e (by simp)
    unfold pk
    by_cases he : e.1 = c.1
    · rw [if_neg (by simp [he]), ih, get_two c e r he]
    · have hlow : ∀ y ∈ e :: r, c.1 < y.1 := by
        intro y hy
        rcases List.mem_cons.1 hy with rfl | hy
        · omega
        · have := (List.pairwise_cons.1 (List.pairwise_cons.1 hs).2).1 y hy; omega
      have hlow2 : ∀ y ∈ pk (e :: r), y.1 ≠ c.1 := fun y hy => by have := hlow y (pk_mem _ _ hy); omega
      have hlow3 : ∀ y ∈ e :: r, y.1 ≠ c.1 := fun y hy => by have := hlow y hy; omega
      by_cases hv : c.2 = 0
      · rw [if_neg (by simp [hv]), ih]
        by_cases hx : c.1 = x
        · subst hx
          rw [get_miss _ _ hlow3]
          have := get_hit [] (e :: r) c.1 c.2 hlow3
          have this : get (c :: e :: r) c.1 = c.2 := this
          rw [this, hv]
        · rw [get_cons_ne _ _ _ hx]
      · rw [if_pos (by simp [hv, he])]
        by_cases hx : c.1 = x
        · subst hx
          have a1 := get_hit [] (e :: r) c.1 c.2 hlow3
          have a2 := get_hit [] (pk (e :: r)) c.1 c.2 hlow2
          simp at a1 a2
          rw [a1, a2]
        · rw [get_cons_ne _ _ _ hx, get_cons_ne _ _ _ hx, ih]
theorem pk_st (d : List Cl) : pk (st d) = nrm d := nrm_of (V_pk _ (srt_st d)) fun x => by rw [get_pk _ (srt_st d), get_stb (stb_st d)]
theorem get_at {d : List Cl} {j : Nat} {x v : Int} (h : d[j]? = some (x, v)) (hn : ∀ c ∈ d.drop (j + 1), c.1 ≠ x) : get d x = v := by
  obtain ⟨hj, he⟩ := List.getElem?_eq_some_iff.1 h
  have e : d = d.take j ++ (x, v) :: d.drop (j + 1) := by
    conv => lhs; rw [← List.take_append_drop j d]
    rw [List.drop_eq_getElem_cons hj, he]
  rw [e]
  exact get_hit _ _ x v hn
theorem no_drop {d : List Cl} {j : Nat} {x v z : Int} (h : d[j]? = some (x, v)) (hx : x ≠ z) (hn : ∀ c ∈ d.drop (j + 1), c.1 ≠ z) : ∀ c ∈ d.drop j, c.1 ≠ z := by
  obtain ⟨hj, he⟩ := List.getElem?_eq_some_iff.1 h
  rw [List.drop_eq_getElem_cons hj, he]
  intro c hc
  rcases List.mem_cons.1 hc with rfl | hc
  · exact hx
  · exact hn c hc
theorem putS_succ {c : Cl} {m : List Cl} {k : Nat} {y : Cl} {s : List Cl × Bool} (h : m[k]? = some y) (hs : putS c (m.take k) = s) : putS c (m.take (k + 1)) = putStep c s y := by
  have e : m.take (k + 1) = m.take k ++ [y] := by rw [List.take_add_one, h]; rfl
  unfold putS at hs ⊢
  rw [e, List.foldl_append, hs]; rfl
theorem putStep_len (c : Cl) (s : List Cl × Bool) (y : Cl) : (putStep c s y).1.length + (if s.2 then 1 else 0) ≤ s.1.length + 1 + (if (putStep c s y).2 then 1 else 0) := by
  unfold putStep
  cases s.2 <;> by_cases h1 : (y.1 != c.1) = true <;> by_cases h2 : c.1 ≤ y.1 <;> by_cases h3 : (c.2 != 0) = true <;> simp [h1, h2, h3] <;> omega
theorem fold_len (c : Cl) : ∀ (m : List Cl) (s : List Cl × Bool), (m.foldl (putStep c) s).1.length + (if s.2 then 1 else 0) ≤ s.1.length + m.length + (if (m.foldl (putStep c) s).2 then 1 else 0)
  | [], s => by cases h : s.2 <;> simp [h]
  | y :: m, s => by
    have h1 := putStep_len c s y
    have h2 := fold_len c m (putStep c s y)
    rw [List.foldl_cons, List.length_cons]; omega
theorem putS_len (c : Cl) (m : List Cl) : (putS c m).1.length ≤ m.length + 1 := by
  have := fold_len c m ([], false)
  unfold putS; simp at this
  split at this <;> omega
theorem put_len (m : List Cl) (c : Cl) : (put m c).length ≤ m.length + 1 := by
  have h := fold_len c m ([], false)
  unfold put
  have e : putS c m = m.foldl (putStep c) ([], false) := rfl
  rw [← e] at h
  cases hq : (putS c m).2
  · simp only [hq, List.length_nil, Bool.false_eq_true, if_false] at h
    by_cases h3 : (c.2 != 0) = true
    · rw [if_pos (by simp [h3]), List.length_append, List.length_singleton]; omega
    · rw [if_neg (by simp [h3])]; omega
  · simp only [hq, List.length_nil, Bool.false_eq_true, if_false, if_true] at h
    rw [if_neg (by simp)]; omega
theorem fold_put_len : ∀ (l m : List Cl), (l.foldl put m).length ≤ m.length + l.length
  | [], m => by simp
  | c :: l, m => by have := fold_put_len l (put m c); have := put_len m c; rw [List.foldl_cons, List.length_cons]; omega
theorem nrm_len (l : List Cl) : (nrm l).length ≤ l.length := by
  unfold nrm
  split
  · omega
  · have := fold_put_len l []; simpa using this
theorem fold_put_succ {l : List Cl} {k : Nat} {y : Cl} (h : l[k]? = some y) : (l.take (k + 1)).foldl put [] = put ((l.take k).foldl put []) y := by
  have e : l.take (k + 1) = l.take k ++ [y] := by rw [List.take_add_one, h]; rfl
  rw [e, List.foldl_append]; rfl
def same (d e : List Cl) : Bool := decide (d = e)
theorem same_len {d e : List Cl} (h : d.length ≠ e.length) : same d e = false := decide_eq_false fun k => h (by rw [k])
theorem same_no {d e : List Cl} {k : Nat} {x v y u : Int} (h1 : d[k]? = some (x, v)) (h2 : e[k]? = some (y, u)) (h : ((x == y) && (v == u)) = false) : same d e = false := by
  refine decide_eq_false fun hk => ?_
  rw [hk, h2] at h1
  cases h1
  simp at h
theorem same_yes {d e : List Cl} (hl : d.length = e.length) (h : ∀ i, i < d.length → d[i]? = e[i]?) : same d e = true := by
  refine decide_eq_true (List.ext_getElem? fun i => ?_)
  by_cases hi : i < d.length
  · exact h i hi
  · rw [List.getElem?_eq_none (by omega), List.getElem?_eq_none (by omega)]
theorem same_step {d e : List Cl} {k : Nat} {x v y u : Int} (h1 : d[k]? = some (x, v)) (h2 : e[k]? = some (y, u)) (h : ((x == y) && (v == u)) = true) (hs : ∀ i, i < k → d[i]? = e[i]?) : ∀ i, i < k + 1 → d[i]? = e[i]? := by
  intro i hi
  by_cases hik : i = k
  · subst hik; simp at h; rw [h1, h2, h.1, h.2]
  · exact hs i (by omega)
theorem same_refl (d : List Cl) : same d d = true := decide_eq_true rfl
def cmp (x y : Int) : Int := if x < y then -1 else if y < x then 1 else 0
/-- What is bytes from an address on. -/
def lod (x : Int) (b : List Int) : List Cl := (List.range b.length).map fun i : Nat => ((x + (i : Int)) % 65536, b.getD i 0)
end Sm
end Go.Proofs.Ytfddefoambakiaa
