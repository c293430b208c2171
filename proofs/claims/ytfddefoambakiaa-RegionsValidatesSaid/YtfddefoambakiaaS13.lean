/- Maps of regions as plain lists: the region of an address, what is read, written and waited there. No condition. -/
import Derived.Test.YtfddefoambakiaaMR
namespace Go.Proofs.Ytfddefoambakiaa.Sm
set_option linter.unusedVariables false
def has (x : Int) (r : Rg) : Bool := decide (r.fr ≤ x) && decide (x ≤ r.tw)
theorem has_yes {x : Int} {r : Rg} (h1 : r.fr ≤ x) (h2 : x ≤ r.tw) : has x r = true := by simp [has, h1, h2]
theorem has_no1 {x : Int} {r : Rg} (h1 : ¬ r.fr ≤ x) : has x r = false := by simp [has, h1]
theorem has_no2 {x : Int} {r : Rg} (h1 : ¬ x ≤ r.tw) : has x r = false := by simp [has, h1]
def fndFrom (x : Int) : List Rg → Nat → Int
  | [], _ => -1
  | r :: l, k => if has x r then (k : Int) else fndFrom x l (k + 1)
def fnd (l : List Rg) (x : Int) : Int := fndFrom x l 0
def sel (l : List Rg) (x : Int) : Option Rg := l.find? (has x)
theorem fndFrom_spec (x : Int) : ∀ (l : List Rg) (k : Nat), (fndFrom x l k = -1 ∧ l.find? (has x) = none) ∨ ∃ j r, fndFrom x l k = ((k + j : Nat) : Int) ∧ l[j]? = some r ∧ l.find? (has x) = some r
  | [], k => .inl ⟨rfl, rfl⟩
  | r :: l, k => by
    cases h : has x r with
    | true => exact .inr ⟨0, r, by simp [fndFrom, h], rfl, by simp [h]⟩
    | false =>
      rcases fndFrom_spec x l (k + 1) with ⟨h1, h2⟩ | ⟨j, q, h1, h2, h3⟩
      · exact .inl ⟨by simp [fndFrom, h, h1], by simp [h, h2]⟩
      · refine .inr ⟨j + 1, q, ?_, by simpa using h2, by simp [h, h3]⟩
        simp only [fndFrom, h, h1]
        simp; omega
theorem fnd_spec (l : List Rg) (x : Int) : (fnd l x = -1 ∧ sel l x = none) ∨ ∃ (j : Nat) (r : Rg), fnd l x = (j : Int) ∧ l[j]? = some r ∧ sel l x = some r := by
  have := fndFrom_spec x l 0
  simpa [fnd, sel] using this
theorem rdrop_cons {d : List Rg} {k : Nat} {c : Rg} (h : d[k]? = some c) : d.drop k = c :: d.drop (k + 1) := by
  obtain ⟨h1, rfl⟩ := List.getElem?_eq_some_iff.1 h
  exact List.drop_eq_getElem_cons h1
theorem fnd_hit {l : List Rg} {x : Int} {k : Nat} {r : Rg} (hr : l[k]? = some r) (h : has x r = true) (hk : fnd l x = fndFrom x (l.drop k) k) : fnd l x = (k : Int) := by
  rw [hk, rdrop_cons hr]; simp [fndFrom, h]
theorem fnd_miss {l : List Rg} {x : Int} {k : Nat} {r : Rg} (hr : l[k]? = some r) (h : has x r = false) (hk : fnd l x = fndFrom x (l.drop k) k) : fnd l x = fndFrom x (l.drop (k + 1)) (k + 1) := by
  rw [hk, rdrop_cons hr]; simp [fndFrom, h]
theorem fnd_end {l : List Rg} {x : Int} {k : Nat} (hl : l.length ≤ k) (hk : fnd l x = fndFrom x (l.drop k) k) : fnd l x = -1 := by
  rw [hk, List.drop_eq_nil_of_le hl]; rfl
/-- The byte that is read. -/
def rd (l : List Rg) (m : List Cl) (x : Int) : Int := if fnd l x < 0 then 255 else get m x
/-- The wait states. -/
def lim (n : Int) : Int := if n < 0 then 0 else if 100 < n then 100 else n
def wts (l : List Rg) (x : Int) : Int := match sel l x with
  | none => 0
  | some r => lim r.wt
/-- The memory after a write. -/
def ramAt (l : List Rg) (x : Int) : Bool := match sel l x with
  | none => false
  | some r => r.ram
def wrt (l : List Rg) (m : List Cl) (x v : Int) : List Cl := if ramAt l x then put (nrm m) (x, v) else nrm m
theorem get_wrt (l : List Rg) (m : List Cl) (x v y : Int) : get (wrt l m x v) y = if ramAt l x = true ∧ x = y then v else get m y := by
  unfold wrt
  cases h : ramAt l x with
  | true => simp only [if_true]; rw [get_put (V_nrm m), get_nrm]; simp
  | false => simp only [Bool.false_eq_true, if_false, false_and]; rw [get_nrm]
theorem rd_wrt (l k : List Rg) (m : List Cl) (x v y : Int) : rd k (wrt l m x v) y = if fnd k y < 0 then 255 else if ramAt l x = true ∧ x = y then v else get m y := by
  unfold rd; rw [get_wrt]
theorem ram_fnd {l : List Rg} {x : Int} (h : ramAt l x = true) : ¬ fnd l x < 0 := by
  rcases fnd_spec l x with ⟨_, h2⟩ | ⟨j, r, h1, _⟩
  · simp [ramAt, h2] at h
  · omega
theorem rd_same (l : List Rg) (m : List Cl) (x v : Int) (h : ramAt l x = true) : rd l (wrt l m x v) x = v := by
  rw [rd_wrt, if_neg (ram_fnd h), if_pos ⟨h, rfl⟩]
theorem rd_keep (l : List Rg) (m : List Cl) (x v : Int) (h : ramAt l x = false) (y : Int) : rd l (wrt l m x v) y = rd l m y := by
  rw [rd_wrt, if_neg (c := ramAt l x = true ∧ x = y) (by rw [h]; simp)]; rfl
theorem rd_other (l : List Rg) (m : List Cl) (x v y : Int) (h : y ≠ x) : rd l (wrt l m x v) y = rd l m y := by
  rw [rd_wrt, if_neg (c := ramAt l x = true ∧ x = y) (fun q => h q.2.symm)]; rfl
theorem wrt_len (l : List Rg) (m : List Cl) (x v : Int) : (wrt l m x v).length ≤ m.length + 1 := by
  unfold wrt
  have h1 := put_len (nrm m) (x, v)
  have h2 := nrm_len m
  split <;> omega
/-- Whether a region is well formed. -/
def rok (r : Rg) : Bool := !(decide (r.tw < r.fr) || decide (r.wt < 0) || decide (100 < r.wt))
def rval (l : List Rg) : Int := if 16 < l.length then 3 else if l.all rok then 0 else 1
theorem rok_no {r : Rg} (h : r.tw < r.fr ∨ r.wt < 0 ∨ 100 < r.wt) : rok r = false := by
  rcases h with h | h | h <;> simp [rok, h]
theorem rok_yes {r : Rg} (h1 : ¬ r.tw < r.fr) (h2 : ¬ r.wt < 0) (h3 : ¬ 100 < r.wt) : rok r = true := by simp [rok, h1, h2, h3]
theorem rval_bad {l : List Rg} {k : Nat} {r : Rg} (hl : l.length ≤ 16) (hr : l[k]? = some r) (h : rok r = false) : rval l = 1 := by
  unfold rval
  rw [if_neg (by omega), if_neg]
  intro q
  have := List.all_eq_true.1 q r (List.mem_of_getElem? hr)
  rw [h] at this; cases this
theorem rval_ok {l : List Rg} (hl : l.length ≤ 16) (h : ∀ k r, k < l.length → l[k]? = some r → rok r = true) : rval l = 0 := by
  unfold rval
  rw [if_neg (by omega), if_pos]
  refine List.all_eq_true.2 fun r hr => ?_
  obtain ⟨k, hk⟩ := List.getElem?_of_mem hr
  exact h k r (List.getElem?_eq_some_iff.1 hk).1 hk
/-- A region behind one that covers an address has no effect there. -/
theorem sel_app {l e : List Rg} {x : Int} {r : Rg} (h : sel l x = some r) : sel (l ++ e) x = some r := by
  unfold sel at h ⊢
  rw [List.find?_append, h]; rfl
theorem sel_last {l : List Rg} {r : Rg} {x : Int} (h : has x r = true) : ∃ q, sel (l ++ [r]) x = some q := by
  unfold sel
  rw [List.find?_append]
  cases hq : l.find? (has x) with
  | some q => exact ⟨q, rfl⟩
  | none => exact ⟨r, by simp [h]⟩
theorem fnd_neg {l : List Rg} {x : Int} : fnd l x < 0 ↔ sel l x = none := by
  rcases fnd_spec l x with ⟨h1, h2⟩ | ⟨j, r, h1, _, h2⟩
  · rw [h1, h2]; simp
  · rw [h1, h2]; simp
theorem rd_sel {l k : List Rg} {m : List Cl} {x : Int} (h : sel l x = sel k x) : rd l m x = rd k m x := by
  unfold rd
  by_cases hl : fnd l x < 0
  · rw [if_pos hl, if_pos (fnd_neg.2 (by rw [← h]; exact fnd_neg.1 hl))]
  · rw [if_neg hl, if_neg (fun q => hl (fnd_neg.2 (by rw [h]; exact fnd_neg.1 q)))]
theorem wts_sel {l k : List Rg} {x : Int} (h : sel l x = sel k x) : wts l x = wts k x := by unfold wts; rw [h]
theorem wrt_sel {l k : List Rg} {m : List Cl} {x v : Int} (h : sel l x = sel k x) : wrt l m x v = wrt k m x v := by unfold wrt ramAt; rw [h]
end Go.Proofs.Ytfddefoambakiaa.Sm
