/- Lists of elements of any one kind in memory: a slice that holds them (HeldG), one that the call itself made (OwnsG); kept where the world only grows; one element read, stored, appended. No condition. -/
import Derived.Test.YtfhnfakjjfjohaaChecked
import Derived.Test.YtfhnfakjjfjohaaM1
import Derived.Test.YtfhnfakjjfjohaaMW
import Derived.Laws.OwnMore
import Derived.Laws.AppendOwnNone
import Derived.Maps.AppendAt
import Derived.OwnWalk
import Derived.Lib.Hide
namespace Go.Proofs.Ytfhnfakjjfjohaa
open Go.ChangeShapes Go.WideShapes Go.ChangeAt Go.RowKit
set_option linter.unusedVariables false
theorem Adds.size {w w' : World} (h : Adds w w') : w.heap.size ≤ w'.heap.size := h.below.size
theorem Adds.cell {w w' : World} (h : Adds w w') {b i : Nat} (hb : b < w.heap.size) : w'.cell? ⟨b, i, none⟩ = w.cell? ⟨b, i, none⟩ := h.below.cell (p := ⟨b, i, none⟩) hb
theorem Adds.frozen {w w' : World} (h : Adds w w') {b i : Nat} (hb : b < w.heap.size) : w'.frozen? ⟨b, i, none⟩ = w.frozen? ⟨b, i, none⟩ := h.below.frozen (p := ⟨b, i, none⟩) hb
theorem Adds.grownBy {w w' : World} (h : Adds w w') (row : Option Nat) : w.grownBy w' row := by
  have hb := h.below
  exact ⟨hb.os, hb.tape, hb.output, hb.size, fun k hk _ => hb.block k hk⟩
theorem grown_refl (w : World) (row : Option Nat) : w.grownBy w row := (Adds.refl w).grownBy row
theorem Adds.of_grown {w0 w w' : World} {g : Nat} (h : Adds w0 w) (hg : w.grownBy w' (some g)) (hb : w0.heap.size ≤ g) : Adds w0 w' :=
  Adds.of_below (h.below.grown hg h.size fun k hk => by cases hk; exact hb)
theorem grown_frozen {w w' : World} {row : Option Nat} (hg : w.grownBy w' row) {a : Addr} (hl : a.block < w.heap.size) (hne : some a.block ≠ row) : w'.frozen? a = w.frozen? a :=
  World.frozen?_of_block (hg.block a.block hl hne)
theorem grown_trans2 {w0 w1 w2 : World} {b : Nat} {row : Option Nat} (h : w0.grownBy w1 (some b)) (k : w1.grownBy w2 row) (hr : ∀ g, row = some g → g = b ∨ w0.heap.size ≤ g) : w0.grownBy w2 (some b) :=
  ⟨k.os.trans h.os, k.tape.trans h.tape, k.output.trans h.output, Nat.le_trans h.size k.size, fun i hi hne => (k.block i (by have := h.size; omega) (fun e => by
    rcases hr i e.symm with q | q
    · exact hne (by rw [q])
    · omega)).trans (h.block i hi hne)⟩
theorem add_plain (b o j : Nat) : (⟨b, o, none⟩ : Addr).add j = ⟨b, o + j, none⟩ := by unfold Addr.add; split <;> simp_all
theorem addr_add_add (x : Addr) (i j : Nat) : (x.add i).add j = x.add (i + j) := by
  unfold Addr.add
  by_cases hi : i = 0 <;> by_cases hj : j = 0 <;> simp [hi, hj, Nat.add_assoc]
theorem grown_setRow (w : World) (g : Nat) (c : Array Value) : w.grownBy (w.setRow g c) (some g) :=
  ⟨rfl, rfl, rfl, by simp [World.setRow], fun k _ hk => by
    have hk' : ¬ g = k := fun e => hk (by rw [e])
    simp [World.setRow, Array.getElem?_modify, hk']⟩
/-- The cells of a list, one element after another. -/
def Fl {α : Type} (cs : α → List Value) (d : List α) : List Value := d.flatMap cs
section
variable {α : Type} {cs : α → List Value} {sz : Nat} {E : TypeId}
theorem Fl_app (a b : List α) : Fl cs (a ++ b) = Fl cs a ++ Fl cs b := by simp [Fl]
theorem Fl_cons (c : α) (d : List α) : Fl cs (c :: d) = cs c ++ Fl cs d := rfl
theorem Fl_one (c : α) : Fl cs [c] = cs c := by simp [Fl]
theorem Fl_len (hs : ∀ a, (cs a).length = sz) : ∀ d : List α, (Fl cs d).length = d.length * sz
  | [] => by simp [Fl]
  | c :: d => by rw [Fl_cons, List.length_append, hs, Fl_len hs d, List.length_cons, Nat.succ_mul, Nat.add_comm]
theorem Fl_get (hs : ∀ a, (cs a).length = sz) : ∀ (d : List α) (j : Nat) (a : α), d[j]? = some a → ∀ (k : Nat) (u : Value), (cs a)[k]? = some u → (Fl cs d)[j * sz + k]? = some u
  | [], j, a, h, k, u, hu => by simp at h
  | c :: d, 0, a, h, k, u, hu => by
    simp at h; subst h
    rw [Fl_cons, Nat.zero_mul, Nat.zero_add, List.getElem?_append_left (List.getElem?_eq_some_iff.1 hu).1]; exact hu
  | c :: d, j + 1, a, h, k, u, hu => by
    rw [Fl_cons, List.getElem?_append_right (by rw [hs, Nat.succ_mul]; omega), hs, show (j + 1) * sz + k - sz = j * sz + k by rw [Nat.succ_mul]; omega]
    exact Fl_get hs d j a (by simpa using h) k u hu
theorem Fl_oneCell (h1 : ∀ a, ∀ u ∈ cs a, u.oneCell' = true) (d : List α) : ∀ u ∈ Fl cs d, u.oneCell' = true := by
  intro u hu
  simp only [Fl, List.mem_flatMap] at hu
  obtain ⟨c, _, hc⟩ := hu
  exact h1 c u hc
theorem Fl_set (hs : ∀ a, (cs a).length = sz) : ∀ (d : List α) (i : Nat) (a : α), i < d.length → (Fl cs d).take (i * sz) ++ cs a ++ (Fl cs d).drop (i * sz + sz) = Fl cs (d.set i a)
  | [], i, a, h => by simp at h
  | c :: d, 0, a, h => by
    rw [Fl_cons, Nat.zero_mul, List.take_zero, Nat.zero_add, List.nil_append, List.drop_append, hs, List.drop_of_length_le (by rw [hs]; exact Nat.le_refl _)]
    simp [Fl]
  | c :: d, i + 1, a, h => by
    have ih := Fl_set hs d i a (by simpa using h)
    have e : (i + 1) * sz = sz + i * sz := by rw [Nat.succ_mul]; omega
    rw [List.set_cons_succ, Fl_cons, Fl_cons, ← ih, e, List.take_append, List.drop_append, hs, List.take_of_length_le (by rw [hs]; omega), List.drop_of_length_le (by rw [hs]; omega)]
    rw [show sz + i * sz - sz = i * sz by omega, show sz + i * sz + sz - sz = i * sz + sz by omega]
    simp [List.append_assoc]
/-- The elements of d from place o of block b on. -/
def AtG (cs : α → List Value) (w : World) (b o : Nat) (d : List α) : Prop := ∀ j u, (Fl cs d)[j]? = some u → w.cell? ⟨b, o + j, none⟩ = some u
def HeldG (cs : α → List Value) (w : World) (a : Option Addr) (n : Nat) (d : List α) : Prop := d.length = n ∧ n ≤ 4611686018427387904 ∧ (0 < n → ∃ b o, a = some ⟨b, o, none⟩ ∧ b < w.heap.size ∧ AtG cs w b o d)
/-- A slice of the call's own. -/
def OwnsG (cs : α → List Value) (sz : Nat) (E : TypeId) (w : World) (base : Nat) (v : Value) (d : List α) : Prop := w.ownsRow base E sz v d.length (Fl cs d)
theorem AtG.keep {w w' : World} {b o : Nat} {d : List α} (h : AtG cs w b o d) (k : ∀ i, w'.cell? ⟨b, i, none⟩ = w.cell? ⟨b, i, none⟩) : AtG cs w' b o d := fun j u hd => by rw [k]; exact h j u hd
/-- Cell k of element j. -/
theorem AtG.el {w : World} {b o : Nat} {d : List α} (h : AtG cs w b o d) (hs : ∀ a, (cs a).length = sz) {j : Nat} {a : α} (hj : d[j]? = some a) {k : Nat} {u : Value} (hu : (cs a)[k]? = some u) : w.cell? ⟨b, o + j * sz + k, none⟩ = some u := by
  rw [Nat.add_assoc]; exact h _ u (Fl_get hs d j a hj k u hu)
theorem HeldG.adds {w w' : World} {a : Option Addr} {n : Nat} {d : List α} (h : HeldG cs w a n d) (k : Adds w w') : HeldG cs w' a n d :=
  ⟨h.1, h.2.1, fun hn => by
    obtain ⟨b, o, ha, hb, hat⟩ := h.2.2 hn
    exact ⟨b, o, ha, by have := k.size; omega, hat.keep fun i => k.cell hb⟩⟩
theorem HeldG.grown {w w' : World} {g : Nat} {a : Option Addr} {n : Nat} {d : List α} (h : HeldG cs w a n d) (hg : w.grownBy w' (some g)) (hne : 0 < n → ∀ x, a = some x → x.block ≠ g) : HeldG cs w' a n d :=
  ⟨h.1, h.2.1, fun hn => by
    obtain ⟨b, o, ha, hb, hat⟩ := h.2.2 hn
    exact ⟨b, o, ha, by have := hg.size; omega, fun j u hd => hg.cell (hat j u hd) (fun e => by injection e with e; exact hne hn _ ha e)⟩⟩
theorem HeldG.nil (w : World) (a : Option Addr) : HeldG cs w a 0 [] := ⟨rfl, by omega, fun h => absurd h (by omega)⟩
theorem get_el {d : List α} {k : Nat} (h : k < d.length) : ∃ x, d[k]? = some x := ⟨d[k], List.getElem?_eq_getElem h⟩
theorem OwnsG.kept {w w' : World} {base : Nat} {v : Value} {d : List α} {row : Option Nat} (h : OwnsG cs sz E w base v d) (hg : w.grownBy w' row) (hne : ∀ g, row = some g → g < base) : OwnsG cs sz E w' base v d := by
  refine World.ownsRow.kept h hg ?_
  cases hq : v.ownBlock with
  | none => exact .inl rfl
  | some g => exact .inr fun e => by have h1 := (World.ownsRow.lt h g hq).1; have h2 := hne g e.symm; omega
/-- .. where another block was written. -/
theorem OwnsG.kept2 {w w' : World} {base : Nat} {v : Value} {d : List α} {row : Option Nat} (h : OwnsG cs sz E w base v d) (hg : w.grownBy w' row) (hne : v.ownBlock = none ∨ v.ownBlock ≠ row) : OwnsG cs sz E w' base v d := World.ownsRow.kept h hg hne
theorem OwnsG.adds {w w' : World} {base : Nat} {v : Value} {d : List α} (h : OwnsG cs sz E w base v d) (k : Adds w w') : OwnsG cs sz E w' base v d := h.kept (row := none) (k.grownBy none) (fun g e => by cases e)
theorem OwnsG.mono {w : World} {base base' : Nat} {v : Value} {d : List α} (h : OwnsG cs sz E w base v d) (k : base' ≤ base) : OwnsG cs sz E w base' v d := by
  refine ⟨h.1, ?_⟩
  rcases h.2 with hn | ⟨g, cap, cur, h1, h2, h3⟩
  · exact .inl hn
  · exact .inr ⟨g, cap, cur, h1, by omega, h3⟩
/-- The base may be raised to the block itself. -/
theorem OwnsG.raise {w : World} {base base' : Nat} {v : Value} {d : List α} (h : OwnsG cs sz E w base v d) (k : ∀ g, v.ownBlock = some g → base' ≤ g) : OwnsG cs sz E w base' v d := by
  refine ⟨h.1, ?_⟩
  rcases h.2 with hn | ⟨g, cap, cur, h1, h2, h3⟩
  · exact .inl hn
  · exact .inr ⟨g, cap, cur, h1, k g (by rw [h1]; rfl), h3⟩
theorem OwnsG.alloc {w : World} {base : Nat} {v : Value} {d : List α} (h : OwnsG cs sz E w base v d) (o : Obj) : OwnsG cs sz E (w.alloc o) base v d := World.ownsRow.alloc h o
theorem OwnsG.nil (w : World) (base : Nat) : OwnsG cs sz E w base (.slice none 0 0) [] := World.ownsRow_nil w base E sz
theorem OwnsG.lt {w : World} {base g n cap : Nat} {d : List α} (h : OwnsG cs sz E w base (.slice (some ⟨g, 0, none⟩) n cap) d) : base ≤ g ∧ g < w.heap.size := World.ownsRow.lt h g rfl
theorem OwnsG.elim {w : World} {base g n cap : Nat} {d : List α} (h : OwnsG cs sz E w base (.slice (some ⟨g, 0, none⟩) n cap) d) :
    ∃ cur, w.heap[g]? = some (.cells cur E (0, 0)) ∧ base ≤ g ∧ d.length = n ∧ n ≤ cap ∧ cap ≤ maxLen ∧ cur.size = cap * sz ∧ cur.toList.take (n * sz) = Fl cs d := by
  rcases h.2 with ⟨h', _⟩ | ⟨g', cap', cur, h', hb, hg, h1, h2, h3, h4⟩
  · simp at h'
  · simp only [Value.slice.injEq, Option.some.injEq, Addr.mk.injEq, and_true] at h'
    obtain ⟨rfl, hn, rfl⟩ := h'
    subst hn
    exact ⟨cur, hg, hb, rfl, h1, h2, h3, h4⟩
theorem OwnsG.at_ {w : World} {base g n cap : Nat} {d : List α} (h : OwnsG cs sz E w base (.slice (some ⟨g, 0, none⟩) n cap) d) : AtG cs w g 0 d := by
  obtain ⟨cur, hg, _, _, _, _, _, ht⟩ := h.elim
  intro j u hu
  rw [Nat.zero_add, cell_of_row w g j cur _ (0, 0) hg]
  rw [← ht, List.getElem?_take] at hu
  split at hu
  · simpa using hu
  · cases hu
/-- What such a slice is. -/
theorem OwnsG.form2 {w : World} {base : Nat} {v : Value} {d : List α} (h : OwnsG cs sz E w base v d) :
    ∃ a n cap, v = .slice a n cap ∧ Hid (d.length = n) ∧ n ≤ cap ∧ cap ≤ 9223372036854775807 ∧ (0 < cap → ∃ g, a = some ⟨g, 0, none⟩ ∧ base ≤ g ∧ g < w.heap.size) ∧ (a = none → n = 0 ∧ cap = 0) := by
  rcases h.2 with ⟨h', h0⟩ | ⟨g, cap, cur, h', hb, hh, h1, h2, h3⟩
  · exact ⟨none, 0, 0, h', h0, by omega, by omega, fun h => absurd h (by omega), fun _ => ⟨rfl, rfl⟩⟩
  · refine ⟨_, d.length, cap, h', rfl, h1, ?_, fun _ => ⟨g, rfl, hb, (Array.getElem?_eq_some_iff.1 hh).1⟩, fun e => by cases e⟩
    simpa [maxLen] using h2
theorem OwnsG.held {w : World} {base : Nat} {a : Option Addr} {n cap : Nat} {d : List α} (h : OwnsG cs sz E w base (.slice a n cap) d) (hd : d.length ≤ 4611686018427387904) : HeldG cs w a n d := by
  obtain ⟨a', n', cap', h1, h0, h2, h3, h4, _⟩ := h.form2
  have h0 := h0.out
  simp only [Value.slice.injEq] at h1
  obtain ⟨rfl, rfl, rfl⟩ := h1
  refine ⟨h0, by omega, fun hn => ?_⟩
  obtain ⟨g, rfl, _, hg⟩ := h4 (by omega)
  exact ⟨g, 0, rfl, hg, h.at_⟩
theorem OwnsG.len {w : World} {base n cap : Nat} {a : Option Addr} {d : List α} (h : OwnsG cs sz E w base (.slice a n cap) d) : d.length = n := by
  obtain ⟨a', n', cap', h1, h0, _⟩ := h.form2
  simp only [Value.slice.injEq] at h1
  obtain ⟨_, rfl, _⟩ := h1
  exact h0.out
/-- A slice of no cells more than it has room for: its head, if it is not empty. -/
theorem OwnsG.head {w : World} {base n cap : Nat} {a : Option Addr} {d : List α} (h : OwnsG cs sz E w base (.slice a n cap) d) (hn : 0 < n) : ∃ g, a = some ⟨g, 0, none⟩ ∧ base ≤ g ∧ g < w.heap.size := by
  obtain ⟨a', n', cap', h1, h0, h2, _, h4, _⟩ := h.form2
  simp only [Value.slice.injEq] at h1
  obtain ⟨rfl, rfl, rfl⟩ := h1
  exact h4 (by omega)
theorem OwnsG.frozen {w : World} {base g n cap : Nat} {d : List α} (h : OwnsG cs sz E w base (.slice (some ⟨g, 0, none⟩) n cap) d) (j : Nat) : w.frozen? ⟨g, j, none⟩ = false := by
  obtain ⟨cur, hg, _⟩ := h.elim
  exact frozen_of_row w g j cur _ hg
theorem AddsG.grown {w0 w w' : World} {v : Value} {d : List α} (h : Adds w0 w) (hg : w.grownBy w' v.ownBlock) (ho : OwnsG cs sz E w w0.heap.size v d) : Adds w0 w' :=
  Adds.of_below (h.below.grown hg h.size fun k hk => (World.ownsRow.lt ho k hk).1)
/-- A cell below the base, behind a write to what is owned above it. -/
theorem OwnsG.far {w w' : World} {base b i : Nat} {v : Value} {d : List α} (ho : OwnsG cs sz E w base v d) (hg : w.grownBy w' v.ownBlock) (hb : b < base) (hw : b < w.heap.size) : w'.cell? ⟨b, i, none⟩ = w.cell? ⟨b, i, none⟩ :=
  World.cell?_of_block (hg.block b hw fun e => by have := (World.ownsRow.lt ho b e.symm).1; omega)
/-- A block that was just laid holds one element. -/
theorem at_new (w : World) (t : TypeId) (c : Array Value) (e : List α) (hc : c.toList = Fl cs e) (b : Nat) (hb : b = w.heap.size) : ∀ j u, (Fl cs e)[j]? = some u → (w.alloc (.cells c t)).cell? ((⟨b, 0, none⟩ : Addr).add j) = some u := by
  subst hb
  intro j u hu
  rw [add_plain, Nat.zero_add, cell_of_row _ _ _ _ _ (0, 0) (heap_last w _)]
  rw [← hc] at hu
  simpa using hu
theorem take_mid (A B : List Value) (o z m : Nat) (hB : B.length = z) (h : o + z ≤ m) (hm : m ≤ A.length) : (A.take o ++ B ++ A.drop (o + z)).take m = (A.take m).take o ++ B ++ (A.take m).drop (o + z) := by
  apply List.ext_getElem?
  intro i
  have l1 : (A.take o).length = o := by rw [List.length_take]; omega
  have l2 : ((A.take m).take o).length = o := by rw [List.length_take, List.length_take]; omega
  simp only [List.getElem?_take, List.getElem?_append, l1, l2, hB, List.getElem?_drop, List.append_assoc]
  by_cases h1 : i < o
  · rw [if_pos h1, if_pos (show i < m by omega)]
    simp [h1]; omega
  · rw [if_neg h1]
    by_cases h2 : i - o < z
    · rw [if_pos h2, if_pos (show i < m by omega)]; simp [h1, h2]
    · rw [if_neg h2]
      by_cases h3 : i < m
      · rw [if_pos h3, if_neg h1, if_neg h2, if_pos (by omega)]
      · rw [if_neg h3, if_neg h1, if_neg h2, if_neg (by omega)]
/-- One element of a slice of the call's own, stored whole. -/
theorem OwnsG.store {P : Program} (hs : ∀ a, (cs a).length = sz) (h1 : ∀ a, ∀ u ∈ cs a, u.oneCell' = true) {t : TypeId} (hi : (P.info? t).map (·.size) = some sz) (hz : 0 < sz) {w : World} {base g n cap : Nat} {d : List α} (h : OwnsG cs sz E w base (.slice (some ⟨g, 0, none⟩) n cap) d)
    (i : Nat) (hn : i < n) (a : α) (c : Array Value) (hc : c.toList = cs a) :
    ∃ w', (wholeSet t ⟨g, i * sz, none⟩ (.agg c)).run P w = .ok () w' ∧ OwnsG cs sz E w' base (.slice (some ⟨g, 0, none⟩) n cap) (d.set i a) ∧ w.grownBy w' (some g) := by
  obtain ⟨cur, hg, hb, hdn, hnc, hcm, hcs, ht⟩ := h.elim
  have hrow : rowOf w g = cur := by unfold rowOf; rw [hg]; rfl
  have hle : i * sz + sz ≤ n * sz := by
    have := Nat.mul_le_mul_right sz (show i + 1 ≤ n by omega)
    rwa [Nat.succ_mul] at this
  have hle2 : n * sz ≤ cap * sz := Nat.mul_le_mul_right sz hnc
  have hcz : c.size = sz := by rw [← Array.length_toList, hc, hs]
  have hl : cur.toList.length = cap * sz := by simpa using hcs
  refine ⟨_, set_part hi w g (i * sz) c hcz hz (by rw [hrow, hcs]; omega) (by rw [hc]; exact List.all_eq_true.2 (fun u hu => h1 a u hu)), ?_, grown_setRow w g _⟩
  subst hdn
  refine ⟨by rw [List.length_set]; exact Fl_len hs (d.set i a) ▸ by rw [List.length_set], .inr ⟨g, cap, put8 (i * sz) c cur, by rw [List.length_set], hb, ?_, by rw [List.length_set]; exact hnc, hcm, ?_, ?_⟩⟩
  · rw [hrow]; exact setRow_heap w g cur _ E _ hg
  · simp only [put8, List.size_toArray, List.length_append, List.length_take, List.length_drop, hl, Array.length_toList, hcz]; omega
  · rw [List.length_set]
    simp only [put8, hc]
    rw [hs, take_mid cur.toList (cs a) (i * sz) sz (d.length * sz) (hs a) hle (by rw [hl]; exact hle2), ht, Fl_set hs d i a hn]
/-- append of elements that lie in a row, onto a slice of the call's own. -/
theorem wpList_appG {P : Program} (hs : ∀ a, (cs a).length = sz) (h1 : ∀ a, ∀ u ∈ cs a, u.oneCell' = true) {T : TypeId} (hT : P.underlying T = some (.slice E)) {z : Value} {bytes : Nat} (hinfo : (P.info? E).map (fun i => (i.zero, i.size, i.bytes)) = some (some z, sz, bytes)) (hzs : z.cells.size = sz) (hz : 0 < sz)
    {w : World} {ops : Array Oper} {rest : List Oper} {o : Oper} {a : Act} {Q : Exit → Act → World → Prop} (hgd : o.guard = none) (s x : Operand)
    (ho : o.op = .call { callee := .builtin .append, args := #[s, x], argTypes := #[T, T] })
    (base : Nat) (v : Value) (d : List α) (hv : a.eval s = v) (hown : OwnsG cs sz E w base v d) (ad : Addr) (m c : Nat) (e : List α) (hx : a.eval x = .slice (some ad) m c) (hm : e.length = m) (hat : ∀ j u, (Fl cs e)[j]? = some u → w.cell? (ad.add j) = some u)
    (h63 : d.length + m ≤ maxLen) (hb : (d.length + m) * bytes ≤ 140737488355328) (hbase : base ≤ w.heap.size)
    (h : ∀ v' w', OwnsG cs sz E w' base v' (d ++ e) → w.grownBy w' v.ownBlock → wpList P ops Q rest (a.put o.dst v') w') : wpList P ops Q (o :: rest) a w := by
  obtain ⟨i0, hi, hz0, hz1, hz2⟩ := info_parts hinfo
  refine wpList_append_own w hgd s x T ho base E i0 z sz bytes hT hi hz0 hz1 hz2 hzs hz v d.length (Fl cs d) hv hown ad m c (Fl cs e) hx (by rw [Fl_len hs, hm]) hat (Fl_oneCell h1 e) h63 hb hbase ?_
  intro v' w' k1 k2 k3
  refine h v' w' ?_ k2
  unfold OwnsG
  rw [List.length_append, hm, Fl_app]
  exact k1
theorem made_cells (c : Array Value) (hz : c.size = sz) (h0 : 0 < sz) (a : α) (hc : c.toList = cs a) : ∀ n, (madeCells c (n * sz)).toList = Fl cs (List.replicate n a) := by
  have hs : (cs a).length = sz := by rw [← hc]; simpa using hz
  intro n
  apply List.ext_getElem?
  intro j
  have hl : (Fl cs (List.replicate n a)).length = n * sz := by
    induction n with
    | zero => simp [Fl]
    | succ n ih => rw [List.replicate_succ, Fl_cons, List.length_append, ih, hs, Nat.succ_mul, Nat.add_comm]
  by_cases hj : j < n * sz
  · have hq : j / sz < n := Nat.div_lt_of_lt_mul (by rw [Nat.mul_comm]; exact hj)
    have hr : j % sz < sz := Nat.mod_lt _ h0
    have hd : sz * (j / sz) + j % sz = j := Nat.div_add_mod j sz
    have hu : (cs a)[j % sz]? = some ((cs a)[j % sz]'(by omega)) := List.getElem?_eq_getElem _
    have key : ∀ (n q : Nat), q < n → ∀ k u, (cs a)[k]? = some u → (Fl cs (List.replicate n a))[q * sz + k]? = some u := by
      intro n
      induction n with
      | zero => intro q hq; omega
      | succ n ih =>
        intro q hq k u hu
        have hk : k < sz := by have := (List.getElem?_eq_some_iff.1 hu).1; omega
        rw [List.replicate_succ, Fl_cons]
        cases q with
        | zero => rw [Nat.zero_mul, Nat.zero_add, List.getElem?_append_left (by omega)]; exact hu
        | succ q => rw [List.getElem?_append_right (by rw [hs, Nat.succ_mul]; omega), hs, show (q + 1) * sz + k - sz = q * sz + k by rw [Nat.succ_mul]; omega]; exact ih q (by omega) k u hu
    have k1 := key n (j / sz) hq (j % sz) _ hu
    rw [Nat.mul_comm, hd] at k1
    rw [k1]
    subst hz
    have hjc : j % c.size < c.size := hr
    simp [madeCells, hj, ← hc, hjc]
  · rw [List.getElem?_eq_none (by simp [madeCells]; omega), List.getElem?_eq_none (by omega)]
end
end Go.Proofs.Ytfhnfakjjfjohaa
