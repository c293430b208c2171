/- Lists of cells in memory: a slice that holds them (Held), one that the call itself made (Owns), kept where the world only grows. No condition. -/
import Derived.Test.YtfddefoambakiaaChecked
import Derived.Test.YtfddefoambakiaaM1
import Derived.Test.YtfddefoambakiaaS12
import Derived.Laws.OwnMore
import Derived.Laws.CopyOwn
import Derived.Deep.AppendLies
import Derived.Maps.AppendAt
import Derived.Deep.Cut
import Derived.OwnWalk
namespace Go.Proofs.Ytfddefoambakiaa
open Go.ChangeShapes Go.WideShapes Go.ChangeAt Go.RowKit
set_option linter.unusedVariables false
theorem rt {a b : Bool} (h : a = b) : Ending.returned (.bool a) = .returned (.bool b) := by rw [h]
theorem rn {k : IntKind} {a b : Int} (h : a = b) : Ending.returned (.int k a) = .returned (.int k b) := by rw [h]
/-- The cells of d from place o of block b on. -/
def At (w : World) (b o : Nat) (d : List Cl) : Prop := ∀ j x v, d[j]? = some (x, v) → w.cell? ⟨b, o + j * 2, none⟩ = some (.int .u16 x) ∧ w.cell? ⟨b, o + j * 2 + 1, none⟩ = some (.int .u8 v)
def Held (w : World) (a : Option Addr) (n : Nat) (d : List Cl) : Prop := d.length = n ∧ n ≤ 4611686018427387904 ∧ (0 < n → ∃ b o, a = some ⟨b, o, none⟩ ∧ b < w.heap.size ∧ At w b o d)
theorem Adds.size {w w' : World} (h : Adds w w') : w.heap.size ≤ w'.heap.size := h.below.size
theorem Adds.cell {w w' : World} (h : Adds w w') {b i : Nat} (hb : b < w.heap.size) : w'.cell? ⟨b, i, none⟩ = w.cell? ⟨b, i, none⟩ := h.below.cell (p := ⟨b, i, none⟩) hb
theorem Adds.frozen {w w' : World} (h : Adds w w') {b i : Nat} (hb : b < w.heap.size) : w'.frozen? ⟨b, i, none⟩ = w.frozen? ⟨b, i, none⟩ := h.below.frozen (p := ⟨b, i, none⟩) hb
theorem At.keep {w w' : World} {b o : Nat} {d : List Cl} (h : At w b o d) (k : ∀ i, w'.cell? ⟨b, i, none⟩ = w.cell? ⟨b, i, none⟩) : At w' b o d := fun j x v hd => by rw [k, k]; exact h j x v hd
theorem Held.adds {w w' : World} {a : Option Addr} {n : Nat} {d : List Cl} (h : Held w a n d) (k : Adds w w') : Held w' a n d :=
  ⟨h.1, h.2.1, fun hn => by
    obtain ⟨b, o, ha, hb, hat⟩ := h.2.2 hn
    exact ⟨b, o, ha, by have := k.size; omega, hat.keep fun i => k.cell hb⟩⟩
theorem Held.nil (w : World) (a : Option Addr) : Held w a 0 [] := ⟨rfl, by omega, fun h => absurd h (by omega)⟩
theorem get_pair {d : List Cl} {k : Nat} (h : k < d.length) : ∃ x v, d[k]? = some (x, v) := ⟨d[k].1, d[k].2, List.getElem?_eq_getElem h⟩
/-- The cells, one after another. -/
def Sm.cv (d : List Cl) : List Value := d.flatMap fun c => [.int .u16 c.1, .int .u8 c.2]
theorem Sm.cv_app (a b : List Cl) : Sm.cv (a ++ b) = Sm.cv a ++ Sm.cv b := by simp [Sm.cv]
theorem Sm.cv_cons (c : Cl) (d : List Cl) : Sm.cv (c :: d) = .int .u16 c.1 :: .int .u8 c.2 :: Sm.cv d := rfl
theorem Sm.cv_nil : Sm.cv [] = [] := rfl
theorem Sm.cv_len : ∀ (d : List Cl), (Sm.cv d).length = d.length * 2
  | [] => rfl
  | c :: d => by rw [Sm.cv_cons, List.length_cons, List.length_cons, Sm.cv_len d, List.length_cons]; omega
theorem Sm.cv_get : ∀ (d : List Cl) (j : Nat) (x v : Int), d[j]? = some (x, v) → (Sm.cv d)[j * 2]? = some (.int .u16 x) ∧ (Sm.cv d)[j * 2 + 1]? = some (.int .u8 v)
  | [], j, x, v, h => by simp at h
  | c :: d, 0, x, v, h => by simp at h; subst h; exact ⟨rfl, rfl⟩
  | c :: d, j + 1, x, v, h => by
    have := Sm.cv_get d j x v (by simpa using h)
    rw [Sm.cv_cons, show (j + 1) * 2 = j * 2 + 1 + 1 by omega]
    simpa using this
theorem Sm.cv_one (d : List Cl) : ∀ u ∈ Sm.cv d, u.oneCell' = true := by
  intro u hu
  simp only [Sm.cv, List.mem_flatMap] at hu
  obtain ⟨c, _, hc⟩ := hu
  rcases List.mem_cons.1 hc with rfl | hc
  · rfl
  · rcases List.mem_cons.1 hc with rfl | hc
    · rfl
    · cases hc
/-- A slice of the call's own. -/
def Owns (w : World) (base : Nat) (v : Value) (d : List Cl) : Prop := w.ownsRow base 59 2 v d.length (Sm.cv d)
theorem Owns.adds {w w' : World} {base : Nat} {v : Value} {d : List Cl} (h : Owns w base v d) (k : Adds w w') : Owns w' base v d := by
  have hb := k.below
  refine World.ownsRow.kept (row := none) h ⟨hb.os, hb.tape, hb.output, hb.size, fun i hi _ => hb.block i hi⟩ ?_
  cases hq : v.ownBlock with
  | none => exact .inl rfl
  | some b => exact .inr (by simp)
theorem Owns.mono {w : World} {base base' : Nat} {v : Value} {d : List Cl} (h : Owns w base v d) (k : base' ≤ base) : Owns w base' v d := by
  refine ⟨h.1, ?_⟩
  rcases h.2 with hn | ⟨g, cap, cur, h1, h2, h3⟩
  · exact .inl hn
  · exact .inr ⟨g, cap, cur, h1, by omega, h3⟩
theorem Owns.at_ {w : World} {base g n cap : Nat} {d : List Cl} (h : Owns w base (.slice (some ⟨g, 0, none⟩) n cap) d) : At w g 0 d := by
  have hn : n = d.length := by
    rcases h.2 with ⟨h', _⟩ | ⟨g', cap', cur, h', _⟩
    · simp at h'
    · simp only [Value.slice.injEq] at h'; exact h'.2.1
  subst hn
  intro j x v hd
  have hj : j < d.length := (List.getElem?_eq_some_iff.1 hd).1
  obtain ⟨h1, h2⟩ := Sm.cv_get d j x v hd
  rw [Nat.zero_add]
  have a1 := World.ownsRow.cellAt h (j * 2) (by omega)
  have a2 := World.ownsRow.cellAt h (j * 2 + 1) (by omega)
  exact ⟨a1.trans h1, a2.trans h2⟩
/-- What such a slice is. -/
theorem Owns.form {w : World} {base : Nat} {v : Value} {d : List Cl} (h : Owns w base v d) :
    ∃ a cap, v = .slice a d.length cap ∧ d.length ≤ cap ∧ cap ≤ 9223372036854775807 ∧ (0 < cap → ∃ g, a = some ⟨g, 0, none⟩ ∧ base ≤ g ∧ g < w.heap.size) := by
  rcases h.2 with ⟨h', h0⟩ | ⟨g, cap, cur, h', hb, hh, h1, h2, h3⟩
  · exact ⟨none, 0, by rw [h', h0], by omega, by omega, fun h => absurd h (by omega)⟩
  · refine ⟨_, cap, h', h1, ?_, fun _ => ⟨g, rfl, hb, (Array.getElem?_eq_some_iff.1 hh).1⟩⟩
    simpa [maxLen] using h2
theorem Owns.held {w : World} {base : Nat} {a : Option Addr} {n cap : Nat} {d : List Cl} (h : Owns w base (.slice a n cap) d) (hd : d.length ≤ 4611686018427387904) : Held w a n d := by
  obtain ⟨a', cap', h1, h2, h3, h4⟩ := h.form
  simp only [Value.slice.injEq] at h1
  obtain ⟨rfl, rfl, rfl⟩ := h1
  refine ⟨rfl, by omega, fun hn => ?_⟩
  obtain ⟨g, rfl, _, hg⟩ := h4 (by omega)
  exact ⟨g, 0, rfl, hg, h.at_⟩
theorem add_plain (b o j : Nat) : (⟨b, o, none⟩ : Addr).add j = ⟨b, o + j, none⟩ := by unfold Addr.add; split <;> simp_all
/-- The cells behind an address, as append reads them. -/
theorem At.news {w : World} {b o : Nat} {d : List Cl} (h : At w b o d) : ∀ j u, (Sm.cv d)[j]? = some u → w.cell? ((⟨b, o, none⟩ : Addr).add j) = some u := by
  intro j u hu
  rw [add_plain]
  have hj : j < d.length * 2 := by have := (List.getElem?_eq_some_iff.1 hu).1; rwa [Sm.cv_len] at this
  obtain ⟨x, v, hx⟩ := get_pair (d := d) (k := j / 2) (by omega)
  obtain ⟨h1, h2⟩ := h _ x v hx
  obtain ⟨k1, k2⟩ := Sm.cv_get d _ x v hx
  rcases Nat.mod_two_eq_zero_or_one j with h0 | h0
  · have e : j = j / 2 * 2 := by omega
    rw [← e] at h1 k1; rw [h1, ← k1, hu]
  · have e : j = j / 2 * 2 + 1 := by omega
    rw [Nat.add_assoc, ← e] at h2; rw [← e] at k2; rw [h2, ← k2, hu]
theorem cellInfo : (Try.prog.info? 59).map (fun i => (i.zero, i.size, i.bytes)) = some (some (.agg #[.int .u16 0, .int .u8 0]), 2, 4) := by kernel_rfl
theorem At.new (w : World) (t : TypeId) (x v : Int) : At (w.alloc (.cells #[.int .u16 x, .int .u8 v] t)) w.heap.size 0 [(x, v)] := by
  intro j y u h
  match j, h with
  | 0, h => simp at h; obtain ⟨rfl, rfl⟩ := h; constructor <;> simp [go_sem]
  | j + 1, h => simp at h
/-- append of cells onto a slice of the call's own. -/
theorem wpList_appA {w : World} {ops : Array Oper} {rest : List Oper} {o : Oper} {a : Act} {Q : Exit → Act → World → Prop} (hgd : o.guard = none) (s x : Operand)
    (ho : o.op = .call { callee := .builtin .append, args := #[s, x], argTypes := #[22, 22] })
    (base : Nat) (v : Value) (d : List Cl) (hs : a.eval s = v) (hown : Owns w base v d) (ad : Addr) (m c : Nat) (e : List Cl) (hx : a.eval x = .slice (some ad) m c) (hm : e.length = m) (hat : ∀ j u, (Sm.cv e)[j]? = some u → w.cell? (ad.add j) = some u)
    (hsz : d.length + m ≤ 33554432) (hbase : base ≤ w.heap.size)
    (h : ∀ v' w', Owns w' base v' (d ++ e) → w.grownBy w' v.ownBlock → (v' = .slice none 0 0 ↔ v = .slice none 0 0 ∧ m = 0) → wpList Try.prog ops Q rest (a.put o.dst v') w') : wpList Try.prog ops Q (o :: rest) a w := by
  obtain ⟨i0, hi, hz0, hz1, hz2⟩ := info_parts cellInfo
  refine wpList_append_own w hgd s x 22 ho base 59 i0 (.agg #[.int .u16 0, .int .u8 0]) 2 4 Try.underlying22 hi hz0 hz1 hz2 rfl (by decide) v d.length (Sm.cv d) hs hown ad m c (Sm.cv e) hx (by rw [Sm.cv_len, hm]) hat (Sm.cv_one e) (by unfold maxLen; omega) (by omega) hbase ?_
  intro v' w' h1 h2 h3
  refine h v' w' ?_ h2 h3
  unfold Owns
  rw [List.length_append, hm, Sm.cv_app]
  exact h1
/-- .. of the one cell that a block of its own holds. -/
theorem wpList_app1 {w : World} {ops : Array Oper} {rest : List Oper} {o : Oper} {a : Act} {Q : Exit → Act → World → Prop} (hgd : o.guard = none) (s x : Operand)
    (ho : o.op = .call { callee := .builtin .append, args := #[s, x], argTypes := #[22, 22] })
    (base : Nat) (v : Value) (d : List Cl) (y u : Int) (t : TypeId) (b : Nat) (hs : a.eval s = v) (hx : a.eval x = .slice (some ⟨b, 0, none⟩) 1 1) (hb : b = w.heap.size) (hown : Owns w base v d)
    (hsz : d.length + 1 ≤ 33554432) (hbase : base ≤ w.heap.size)
    (h : ∀ v' w', Owns w' base v' (d ++ [(y, u)]) → w.grownBy w' v.ownBlock → v' ≠ .slice none 0 0 → wpList Try.prog ops Q rest (a.put o.dst v') w') : wpList Try.prog ops Q (o :: rest) a (w.alloc (.cells #[.int .u16 y, .int .u8 u] t)) := by
  subst hb
  refine wpList_appA hgd s x ho base v d hs (World.ownsRow.alloc hown _) ⟨w.heap.size, 0, none⟩ 1 1 [(y, u)] hx rfl (At.new w t y u).news hsz (by have := Below.heap_alloc; show base ≤ (w.heap.push _).size; simp; omega) ?_
  intro v' w' h1 h2 h3
  refine h v' w' h1 ?_ (fun e => by have := (h3.1 e).2; omega)
  exact World.grownBy.trans (World.grownBy_alloc w _ _) h2
theorem Owns.alloc {w : World} {base : Nat} {v : Value} {d : List Cl} (h : Owns w base v d) (o : Obj) : Owns (w.alloc o) base v d := World.ownsRow.alloc h o
theorem Owns.made (w : World) : Owns (w.alloc (.cells #[] 59)) w.heap.size (.slice (some ⟨w.heap.size, 0, none⟩) 0 0) [] := World.ownsRow_made w #[] 0 (Nat.le_refl _) (Nat.zero_le _) (by simp)
theorem Owns.ne {w : World} {base : Nat} {v : Value} {d : List Cl} (h : Owns w base v d) {b : Nat} (hb : w.heap.size ≤ b) : some b ≠ v.ownBlock := fun e => by
  have := (World.ownsRow.lt h b e.symm).2; omega
theorem Held.news {w : World} {ad : Addr} {n : Nat} {d : List Cl} (h : Held w (some ad) n d) : ∀ j u, (Sm.cv d)[j]? = some u → w.cell? (ad.add j) = some u := by
  intro j u hu
  by_cases hn : 0 < n
  · obtain ⟨b, o, e, _, hat⟩ := h.2.2 hn
    cases e
    exact hat.news j u hu
  · have : d = [] := List.eq_nil_of_length_eq_zero (by have := h.1; omega)
    subst this
    simp [Sm.cv] at hu
theorem Adds.grown {w0 w w' : World} {v : Value} {d : List Cl} (h : Adds w0 w) (hg : w.grownBy w' v.ownBlock) (ho : Owns w w0.heap.size v d) : Adds w0 w' :=
  Adds.of_below (h.below.grown hg h.size fun k hk => (World.ownsRow.lt ho k hk).1)
theorem Owns.nil (w : World) (base : Nat) : Owns w base (.slice none 0 0) [] := World.ownsRow_nil w base _ 2
@[go_sem] theorem eq_Cell (x v y u : Int) (w : World) : (Op.equalIn 10000 59 (.agg #[.int .u16 x, .int .u8 v]) (.agg #[.int .u16 y, .int .u8 u])).run Try.prog w = .ok (same [.int .u16 x, .int .u8 v] [.int .u16 y, .int .u8 u]) w :=
  eq_agg 2 [.int .u16, .int .u8] _ Try.underlying59 (by kernel_rfl) (by decide) _ _ w (by simp [shaped]) (by simp [shaped])
end Go.Proofs.Ytfddefoambakiaa
