/- Plain functions of chapter 26: an item, pins, the pins of a state of an item, the spans and the states of an item, the expansion of items. No condition. -/
import Derived.Test.YtfhnfakjjfjohaaS18
import Derived.WalkKit
namespace Go.Proofs.Ytfhnfakjjfjohaa.S
open Go.ChangeShapes Go.WideShapes Go.ChangeAt Go.RowKit
set_option linter.unusedVariables false
/-- An item: Kind; its cycle's Kind, At, Data, States; Waits, N; Inte, Sod. -/
structure It where
  k : Int
  c : Int
  a : Int
  d : Int
  s : Int
  w : Int
  n : Int
  e : Bool
  o : Bool
instance : Inhabited It := ⟨⟨0, 0, 0, 0, 0, 0, 0, false, false⟩⟩
def It.cs (x : It) : Array Value := #[.int .i64 x.k, .int .i64 x.c, .int .u16 x.a, .int .u8 x.d, .int .i64 x.s, .int .i64 x.w, .int .i64 x.n, .bool x.e, .bool x.o]
/-- A pin record, field by field. -/
structure Pn where
  st : Int
  ad : Int
  da : Int
  sy : Bool
  db : Bool
  wa : Bool
  it : Bool
  al : Bool
  im : Bool
  s1 : Bool
  s0 : Bool
  rd : Bool
  ia : Bool
  so : Bool
  wr : Bool
  hl : Bool
  fl : Bool
instance : Inhabited Pn := ⟨⟨0, 0, 0, false, false, false, false, false, false, false, false, false, false, false, false, false, false⟩⟩
def Pn.cs (x : Pn) : Array Value := #[.int .i64 x.st, .int .u16 x.ad, .int .u8 x.da, .bool x.sy, .bool x.db, .bool x.wa, .bool x.it, .bool x.al, .bool x.im, .bool x.s1, .bool x.s0, .bool x.rd, .bool x.ia, .bool x.so, .bool x.wr, .bool x.hl, .bool x.fl]
/-- The byte that a cycle shows in a state. -/
def tr (c d s : Int) : Int := if s = 2 ∨ s = 7 then (if stW c then d else 0) else if s = 3 then (if stR c || stW c then d else 0) else 0
def ack (c : Int) : Bool := c == 8 || c == 9
/-- The pins of a state of an item. -/
def pn (on : Bool) (x : It) (s : Int) : Pn :=
  if s = 8 then ⟨8, 0, 0, false, false, false, !on && x.e, false, false, false, false, false, false, on && x.o, false, true, true⟩
  else if s = 9 then ⟨9, if on then 0 else x.a, 0, false, false, !on, !on && x.e, false, false, false, false, false, false, on && x.o, false, false, on⟩
  else if s = 10 then ⟨10, 0, 0, false, false, false, !on && x.e, false, false, false, false, false, false, on && x.o, false, false, on⟩
  else if on then ⟨s, x.a, if s = 1 then x.a % 256 else tr x.c x.d s, false, false, false, false, s == 1, stM x.c, st1 x.c, st0 x.c, (s == 2 || s == 7 || s == 3) && (stR x.c && !ack x.c), (s == 2 || s == 7 || s == 3) && ack x.c, x.o, (s == 2 || s == 7 || s == 3) && stW x.c, false, false⟩
  else ⟨s, x.a, if s = 1 then stB x.c else tr x.c x.d s, s == 1 && (x.c != 11 && x.c != 12), (s == 2 || s == 7 || s == 3) && stR x.c, s == 7, x.e, false, false, false, false, false, false, false, (s == 7 || s == 3) && stW x.c, false, false⟩
/-- A state that items of a kind have. -/
def fit (k s : Int) : Prop := (k = 1 ∧ 1 ≤ s ∧ s ≤ 7) ∨ (k = 2 ∧ s = 8) ∨ (k = 3 ∧ s = 9) ∨ (k = 4 ∧ s = 10)
def lim (n : Int) : Int := min (max n 0) 65536
theorem lim_bd (n : Int) : 0 ≤ lim n ∧ lim n ≤ 65536 := by unfold lim; omega
/-- How many states a cycle has; how many of them are present. -/
def cst (s : Int) : Int := min (max s 3) 6
def cnt (n s : Int) : Int := min (max n 1) (cst s)
theorem cst_bd (s : Int) : 3 ≤ cst s ∧ cst s ≤ 6 := by unfold cst; omega
theorem cnt_bd (n s : Int) : 1 ≤ cnt n s ∧ cnt n s ≤ 6 := by have := cst_bd s; unfold cnt; omega
def all7 (w : Int) : List (Int × Int) := [(1, 1), (2, 1), (7, w), (3, 1), (4, 1), (5, 1), (6, 1)]
/-- The first j states of a cycle, as spans. -/
def part7 (w : Int) (j : Nat) : List (Int × Int) := (all7 w).take (if j < 2 then j else j + 1)
/-- The spans of an item. -/
def sps (x : It) : List (Int × Int) :=
  if x.k = 1 then part7 (lim x.w) (cnt x.n x.s).toNat
  else if x.k = 2 then [(8, lim x.n)] else if x.k = 3 then [(9, lim x.n)] else if x.k = 4 then [(10, lim x.n)] else []
def rep (p : Int × Int) : List Int := List.replicate p.2.toNat p.1
def reps (l : List (Int × Int)) : List Int := l.flatMap rep
/-- The states of an item. -/
def sts (x : It) : List Int := reps (sps x)
/-- The pins of an item; of items. -/
def ex1 (on : Bool) (x : It) : List Pn := (sts x).map (pn on x)
def ex (on : Bool) (l : List It) : List Pn := l.flatMap (ex1 on)
theorem ex_app (on : Bool) (l m : List It) : ex on (l ++ m) = ex on l ++ ex on m := List.flatMap_append
theorem part7_mem (w : Int) (j : Nat) : ∀ p ∈ part7 w j, p ∈ all7 w := fun p h => List.mem_of_mem_take h
theorem sps_fit (x : It) : ∀ p ∈ sps x, fit x.k p.1 ∧ 0 ≤ p.2 ∧ p.2 ≤ 65536 := by
  intro p hp
  unfold sps at hp
  split at hp
  · rename_i hk
    have := part7_mem _ _ p hp
    have hw := lim_bd x.w
    simp only [all7, List.mem_cons, List.not_mem_nil, or_false] at this
    rcases this with rfl | rfl | rfl | rfl | rfl | rfl | rfl
    all_goals (refine ⟨.inl ⟨hk, ?_, ?_⟩, ?_, ?_⟩ <;> (simp only []; omega))
  · have hn := lim_bd x.n
    split at hp
    · rename_i hk; simp at hp; subst hp; exact ⟨.inr (.inl ⟨hk, rfl⟩), hn.1, hn.2⟩
    · split at hp
      · rename_i hk; simp at hp; subst hp; exact ⟨.inr (.inr (.inl ⟨hk, rfl⟩)), hn.1, hn.2⟩
      · split at hp
        · rename_i hk; simp at hp; subst hp; exact ⟨.inr (.inr (.inr ⟨hk, rfl⟩)), hn.1, hn.2⟩
        · simp at hp
theorem sps_len (x : It) : (sps x).length ≤ 7 := by
  unfold sps
  split
  · have := cnt_bd x.n x.s
    simp only [part7, all7, List.length_take]; simp; omega
  · split
    · simp
    · split
      · simp
      · split <;> simp
theorem reps_len : ∀ l : List (Int × Int), (∀ p ∈ l, p.2 ≤ 65536) → (reps l).length ≤ l.length * 65536
  | [], _ => by simp [reps]
  | p :: l, h => by
    have h1 := reps_len l (fun q hq => h q (by simp [hq]))
    have h2 := h p (by simp)
    unfold reps at h1 ⊢
    rw [List.flatMap_cons, List.length_append]
    simp only [rep, List.length_replicate, List.length_cons] at h1 ⊢
    omega
theorem sts_len (x : It) : (sts x).length ≤ 458752 := by
  have h1 := reps_len (sps x) (fun p hp => (sps_fit x p hp).2.2)
  have h2 := sps_len x
  unfold sts; omega
theorem ex1_len (on : Bool) (x : It) : (ex1 on x).length ≤ 458752 := by unfold ex1; rw [List.length_map]; exact sts_len x
theorem ex_len (on : Bool) : ∀ l : List It, (ex on l).length ≤ l.length * 458752
  | [] => by simp [ex]
  | x :: l => by
    have h1 := ex_len on l
    have h2 := ex1_len on x
    unfold ex at h1 ⊢
    rw [List.flatMap_cons, List.length_append, List.length_cons]; omega
theorem flatMap_parts {α β : Type} (f : α → List β) : ∀ (l : List α) (i : Nat) (x : α), l[i]? = some x → l.flatMap f = (l.take i).flatMap f ++ (f x ++ (l.drop (i + 1)).flatMap f)
  | [], i, x, h => by simp at h
  | y :: l, 0, x, h => by simp at h; subst h; simp
  | y :: l, i + 1, x, h => by
    have := flatMap_parts f l i x (by simpa using h)
    rw [List.flatMap_cons, this]; simp
theorem flatMap_step {α β : Type} (f : α → List β) (l : List α) (i : Nat) (x : α) (h : l[i]? = some x) : (l.take (i + 1)).flatMap f = (l.take i).flatMap f ++ f x := by
  rw [List.take_add_one, h, List.flatMap_append]; simp
/-- What has come: the items before, the spans before of this one, and m states of this span. -/
def got (on : Bool) (l : List It) (i : Nat) (x : It) (j : Nat) (p : Int × Int) (m : Nat) : List Pn :=
  ex on (l.take i) ++ ((reps ((sps x).take j)).map (pn on x) ++ List.replicate m (pn on x p.1))
/-- .. before a span's first state. -/
def gotj (on : Bool) (l : List It) (i : Nat) (x : It) (j : Nat) : List Pn := ex on (l.take i) ++ (reps ((sps x).take j)).map (pn on x)
theorem got_zero (on : Bool) (l : List It) (i : Nat) (x : It) (j : Nat) (p : Int × Int) : got on l i x j p 0 = gotj on l i x j := by simp [got, gotj]
theorem got_step (on : Bool) (l : List It) (i : Nat) (x : It) (j : Nat) (p : Int × Int) (m : Nat) : got on l i x j p (m + 1) = got on l i x j p m ++ [pn on x p.1] := by
  simp [got, List.replicate_succ', List.append_assoc]
theorem got_end (on : Bool) (l : List It) (i : Nat) (x : It) (j : Nat) (p : Int × Int) (hj : (sps x)[j]? = some p) : got on l i x j p p.2.toNat = gotj on l i x (j + 1) := by
  unfold got gotj reps
  rw [flatMap_step rep _ j p hj, List.map_append]
  simp [rep]
theorem gotj_zero (on : Bool) (l : List It) (i : Nat) (x : It) : gotj on l i x 0 = ex on (l.take i) := by simp [gotj, reps]
theorem gotj_end (on : Bool) (l : List It) (i : Nat) (x : It) (hi : l[i]? = some x) : gotj on l i x (sps x).length = ex on (l.take (i + 1)) := by
  unfold ex
  rw [flatMap_step (ex1 on) l i x hi]
  simp [gotj, ex, ex1, sts]
theorem got_lt (on : Bool) (l : List It) (i : Nat) (x : It) (j : Nat) (p : Int × Int) (m : Nat) (hi : l[i]? = some x) (hj : (sps x)[j]? = some p) (hm : m < p.2.toNat) : (got on l i x j p m).length < (ex on l).length := by
  have h1 : ex on l = ex on (l.take i) ++ (ex1 on x ++ ex on (l.drop (i + 1))) := flatMap_parts (ex1 on) l i x hi
  have h2 : sts x = reps ((sps x).take j) ++ (rep p ++ reps ((sps x).drop (j + 1))) := flatMap_parts rep (sps x) j p hj
  rw [h1]
  unfold got ex1
  rw [h2]
  simp only [List.length_append, List.length_map, List.length_replicate, rep]
  omega
end Go.Proofs.Ytfhnfakjjfjohaa.S
