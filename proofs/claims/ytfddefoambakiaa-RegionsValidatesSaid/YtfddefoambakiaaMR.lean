/- Lists of regions in memory: a slice that holds them (HeldR), one that the call itself made (OwnsR). No condition. -/
import Derived.Test.YtfddefoambakiaaMC
import Derived.Test.YtfddefoambakiaaC12e
import Derived.Laws.AppendOwnNone
import Derived.Deep.Slices
import Derived.ChangeSame
namespace Go.Proofs.Ytfddefoambakiaa
open Go.ChangeShapes Go.WideShapes Go.ChangeAt Go.RowKit Go.Deep
set_option linter.unusedVariables false
/-- A region: from, to, RAM, wait states. -/
structure Rg where
  fr : Int
  tw : Int
  ram : Bool
  wt : Int
instance : Inhabited Rg := ⟨⟨0, 0, false, 0⟩⟩
def Sm.rc (r : Rg) : List Value := [.int .u16 r.fr, .int .u16 r.tw, .bool r.ram, .int .i64 r.wt]
/-- The regions of d from place o of block b on. -/
def AtR (w : World) (b o : Nat) (d : List Rg) : Prop := ∀ j r, d[j]? = some r → w.cell? ⟨b, o + j * 4, none⟩ = some (.int .u16 r.fr) ∧ w.cell? ⟨b, o + j * 4 + 1, none⟩ = some (.int .u16 r.tw) ∧ w.cell? ⟨b, o + j * 4 + 2, none⟩ = some (.bool r.ram) ∧ w.cell? ⟨b, o + j * 4 + 3, none⟩ = some (.int .i64 r.wt)
def HeldR (w : World) (a : Option Addr) (n : Nat) (d : List Rg) : Prop := d.length = n ∧ n ≤ 2305843009213693952 ∧ (0 < n → ∃ b o, a = some ⟨b, o, none⟩ ∧ b < w.heap.size ∧ AtR w b o d)
theorem AtR.keep {w w' : World} {b o : Nat} {d : List Rg} (h : AtR w b o d) (k : ∀ i, w'.cell? ⟨b, i, none⟩ = w.cell? ⟨b, i, none⟩) : AtR w' b o d := fun j r hd => by rw [k, k, k, k]; exact h j r hd
theorem HeldR.adds {w w' : World} {a : Option Addr} {n : Nat} {d : List Rg} (h : HeldR w a n d) (k : Adds w w') : HeldR w' a n d :=
  ⟨h.1, h.2.1, fun hn => by
    obtain ⟨b, o, ha, hb, hat⟩ := h.2.2 hn
    exact ⟨b, o, ha, by have := k.size; omega, hat.keep fun i => k.cell hb⟩⟩
theorem HeldR.nil (w : World) (a : Option Addr) : HeldR w a 0 [] := ⟨rfl, by omega, fun h => absurd h (by omega)⟩
/-- The cells, one after another. -/
def Sm.cr (d : List Rg) : List Value := d.flatMap Sm.rc
theorem Sm.cr_app (a b : List Rg) : Sm.cr (a ++ b) = Sm.cr a ++ Sm.cr b := by simp [Sm.cr]
theorem Sm.cr_cons (c : Rg) (d : List Rg) : Sm.cr (c :: d) = .int .u16 c.fr :: .int .u16 c.tw :: .bool c.ram :: .int .i64 c.wt :: Sm.cr d := rfl
theorem Sm.cr_len : ∀ (d : List Rg), (Sm.cr d).length = d.length * 4
  | [] => rfl
  | c :: d => by rw [Sm.cr_cons]; simp only [List.length_cons]; rw [Sm.cr_len d]; omega
theorem Sm.cr_get : ∀ (d : List Rg) (j : Nat) (r : Rg), d[j]? = some r → (Sm.cr d)[j * 4]? = some (.int .u16 r.fr) ∧ (Sm.cr d)[j * 4 + 1]? = some (.int .u16 r.tw) ∧ (Sm.cr d)[j * 4 + 2]? = some (.bool r.ram) ∧ (Sm.cr d)[j * 4 + 3]? = some (.int .i64 r.wt)
  | [], j, r, h => by simp at h
  | c :: d, 0, r, h => by simp at h; subst h; exact ⟨rfl, rfl, rfl, rfl⟩
  | c :: d, j + 1, r, h => by
    have := Sm.cr_get d j r (by simpa using h)
    rw [Sm.cr_cons, show (j + 1) * 4 = j * 4 + 1 + 1 + 1 + 1 by omega]
    simpa using this
theorem Sm.cr_one (d : List Rg) : ∀ u ∈ Sm.cr d, u.oneCell' = true := by
  intro u hu
  simp only [Sm.cr, List.mem_flatMap] at hu
  obtain ⟨c, _, hc⟩ := hu
  simp only [Sm.rc, List.mem_cons, List.not_mem_nil, or_false] at hc
  rcases hc with rfl | rfl | rfl | rfl <;> rfl
theorem Sm.cr_set : ∀ (d : List Rg) (i : Nat) (r : Rg), ((((Sm.cr d).set (i * 4) (.int .u16 r.fr)).set (i * 4 + 1) (.int .u16 r.tw)).set (i * 4 + 2) (.bool r.ram)).set (i * 4 + 3) (.int .i64 r.wt) = Sm.cr (d.set i r)
  | [], i, r => by simp [Sm.cr]
  | c :: d, 0, r => rfl
  | c :: d, i + 1, r => by
    rw [Sm.cr_cons, show (i + 1) * 4 = i * 4 + 1 + 1 + 1 + 1 by omega]
    simp only [List.set_cons_succ, Sm.cr_cons, Sm.cr_set d i r]
/-- A slice of the call's own. -/
def OwnsR (w : World) (base : Nat) (v : Value) (d : List Rg) : Prop := w.ownsRow base 41 4 v d.length (Sm.cr d)
theorem OwnsR.kept {w w' : World} {base : Nat} {v : Value} {d : List Rg} {row : Option Nat} (h : OwnsR w base v d) (hg : w.grownBy w' row) (hne : ∀ g, row = some g → g < base) : OwnsR w' base v d := by
  refine World.ownsRow.kept h hg ?_
  cases hq : v.ownBlock with
  | none => exact .inl rfl
  | some g => exact .inr fun e => by have h1 := (World.ownsRow.lt h g hq).1; have h2 := hne g e.symm; omega
theorem OwnsR.adds {w w' : World} {base : Nat} {v : Value} {d : List Rg} (h : OwnsR w base v d) (k : Adds w w') : OwnsR w' base v d := h.kept (row := none) ⟨k.below.os, k.below.tape, k.below.output, k.below.size, fun i hi _ => k.below.block i hi⟩ (fun g e => by cases e)
theorem OwnsR.mono {w : World} {base base' : Nat} {v : Value} {d : List Rg} (h : OwnsR w base v d) (k : base' ≤ base) : OwnsR w base' v d := by
  refine ⟨h.1, ?_⟩
  rcases h.2 with hn | ⟨g, cap, cur, h1, h2, h3⟩
  · exact .inl hn
  · exact .inr ⟨g, cap, cur, h1, by omega, h3⟩
theorem OwnsR.at_ {w : World} {base g n cap : Nat} {d : List Rg} (h : OwnsR w base (.slice (some ⟨g, 0, none⟩) n cap) d) : AtR w g 0 d := by
  have hn : n = d.length := by
    rcases h.2 with ⟨h', _⟩ | ⟨g', cap', cur, h', _⟩
    · simp at h'
    · simp only [Value.slice.injEq] at h'; exact h'.2.1
  subst hn
  intro j r hd
  have hj : j < d.length := (List.getElem?_eq_some_iff.1 hd).1
  obtain ⟨h1, h2, h3, h4⟩ := Sm.cr_get d j r hd
  rw [Nat.zero_add]
  exact ⟨(World.ownsRow.cellAt h (j * 4) (by omega)).trans h1, (World.ownsRow.cellAt h (j * 4 + 1) (by omega)).trans h2, (World.ownsRow.cellAt h (j * 4 + 2) (by omega)).trans h3, (World.ownsRow.cellAt h (j * 4 + 3) (by omega)).trans h4⟩
theorem OwnsR.form2 {w : World} {base : Nat} {v : Value} {d : List Rg} (h : OwnsR w base v d) :
    ∃ a n cap, v = .slice a n cap ∧ Hid (d.length = n) ∧ n ≤ cap ∧ cap ≤ 9223372036854775807 ∧ (0 < cap → ∃ g, a = some ⟨g, 0, none⟩ ∧ base ≤ g ∧ g < w.heap.size) ∧ (a = none → n = 0 ∧ cap = 0) := by
  rcases h.2 with ⟨h', h0⟩ | ⟨g, cap, cur, h', hb, hh, h1, h2, h3⟩
  · exact ⟨none, 0, 0, h', h0, by omega, by omega, fun h => absurd h (by omega), fun _ => ⟨rfl, rfl⟩⟩
  · refine ⟨_, d.length, cap, h', rfl, h1, ?_, fun _ => ⟨g, rfl, hb, (Array.getElem?_eq_some_iff.1 hh).1⟩, fun e => by cases e⟩
    simpa [maxLen] using h2
theorem OwnsR.held {w : World} {base : Nat} {a : Option Addr} {n cap : Nat} {d : List Rg} (h : OwnsR w base (.slice a n cap) d) (hd : d.length ≤ 2305843009213693952) : HeldR w a n d := by
  obtain ⟨a', n', cap', h1, h0, h2, h3, h4, _⟩ := h.form2
  have h0 := h0.out
  simp only [Value.slice.injEq] at h1
  obtain ⟨rfl, rfl, rfl⟩ := h1
  refine ⟨h0, by omega, fun hn => ?_⟩
  obtain ⟨g, rfl, _, hg⟩ := h4 (by omega)
  exact ⟨g, 0, rfl, hg, h.at_⟩
/-- The cells behind an address, as append reads them. -/
theorem AtR.news {w : World} {b o : Nat} {d : List Rg} (h : AtR w b o d) : ∀ j u, (Sm.cr d)[j]? = some u → w.cell? ((⟨b, o, none⟩ : Addr).add j) = some u := by
  intro j u hu
  rw [add_plain]
  have hj : j < d.length * 4 := by have := (List.getElem?_eq_some_iff.1 hu).1; rwa [Sm.cr_len] at this
  obtain ⟨r, hr⟩ : ∃ r, d[j / 4]? = some r := ⟨d[j / 4]'(by omega), List.getElem?_eq_getElem _⟩
  obtain ⟨h1, h2, h3, h4⟩ := h _ r hr
  obtain ⟨k1, k2, k3, k4⟩ := Sm.cr_get d _ r hr
  rcases (by omega : j % 4 = 0 ∨ j % 4 = 1 ∨ j % 4 = 2 ∨ j % 4 = 3) with h0 | h0 | h0 | h0
  · have e : j = j / 4 * 4 := by omega
    rw [← e] at h1 k1; rw [h1, ← k1, hu]
  · have e : j = j / 4 * 4 + 1 := by omega
    rw [Nat.add_assoc, ← e] at h2; rw [← e] at k2; rw [h2, ← k2, hu]
  · have e : j = j / 4 * 4 + 2 := by omega
    rw [Nat.add_assoc, ← e] at h3; rw [← e] at k3; rw [h3, ← k3, hu]
  · have e : j = j / 4 * 4 + 3 := by omega
    rw [Nat.add_assoc, ← e] at h4; rw [← e] at k4; rw [h4, ← k4, hu]
theorem HeldR.news {w : World} {ad : Addr} {n : Nat} {d : List Rg} (h : HeldR w (some ad) n d) : ∀ j u, (Sm.cr d)[j]? = some u → w.cell? (ad.add j) = some u := by
  intro j u hu
  by_cases hn : 0 < n
  · obtain ⟨b, o, e, _, hat⟩ := h.2.2 hn
    cases e
    exact hat.news j u hu
  · have : d = [] := List.eq_nil_of_length_eq_zero (by have := h.1; omega)
    subst this
    simp [Sm.cr] at hu
theorem regionInfo : (Try.prog.info? 41).map (fun i => (i.zero, i.size, i.bytes)) = some (some (.agg #[.int .u16 0, .int .u16 0, .bool false, .int .i64 0]), 4, 16) := by kernel_rfl
/-- append of a list that a slice holds, onto a slice of the call's own. -/
theorem wpList_appR {w : World} {ops : Array Oper} {rest : List Oper} {o : Oper} {a : Act} {Q : Exit → Act → World → Prop} (hgd : o.guard = none) (s x : Operand)
    (ho : o.op = .call { callee := .builtin .append, args := #[s, x], argTypes := #[39, 39] })
    (base : Nat) (v : Value) (d : List Rg) (hs : a.eval s = v) (hown : OwnsR w base v d) (ad : Option Addr) (m c : Nat) (e : List Rg) (hx : a.eval x = .slice ad m c) (hh : HeldR w ad m e) (hnone : ad = none → m = 0 ∧ c = 0)
    (hsz : d.length + m ≤ 33554432) (hbase : base ≤ w.heap.size)
    (h : ∀ v' w', OwnsR w' base v' (d ++ e) → w.grownBy w' v.ownBlock → wpList Try.prog ops Q rest (a.put o.dst v') w') : wpList Try.prog ops Q (o :: rest) a w := by
  obtain ⟨i0, hi, hz0, hz1, hz2⟩ := info_parts regionInfo
  cases ad with
  | none =>
    obtain ⟨rfl, rfl⟩ := hnone rfl
    have he : e = [] := List.eq_nil_of_length_eq_zero hh.1
    subst he
    refine wpList_append_own_none hgd s x 39 ho base 41 i0 4 Try.underlying39 hi v d.length (Sm.cr d) hs hown hx ?_
    exact h v w (by rw [List.append_nil]; exact hown) (World.grownBy.refl w _)
  | some ad =>
    refine wpList_append_own w hgd s x 39 ho base 41 i0 (.agg #[.int .u16 0, .int .u16 0, .bool false, .int .i64 0]) 4 16 Try.underlying39 hi hz0 hz1 hz2 rfl (by decide) v d.length (Sm.cr d) hs hown ad m c (Sm.cr e) hx (by rw [Sm.cr_len, hh.1]) hh.news (Sm.cr_one e) (by unfold maxLen; omega) (by omega) hbase ?_
    intro v' w' h1 h2 h3
    refine h v' w' ?_ h2
    unfold OwnsR
    rw [List.length_append, hh.1, Sm.cr_app]
    exact h1
theorem AtR.new (w : World) (t : TypeId) (r : Rg) : AtR (w.alloc (.cells #[.int .u16 r.fr, .int .u16 r.tw, .bool r.ram, .int .i64 r.wt] t)) w.heap.size 0 [r] := by
  intro j y h
  match j, h with
  | 0, h => simp at h; subst h; refine ⟨?_, ?_, ?_, ?_⟩ <;> simp [go_sem]
  | j + 1, h => simp at h
theorem HeldR.one (w : World) (t : TypeId) (r : Rg) : HeldR (w.alloc (.cells #[.int .u16 r.fr, .int .u16 r.tw, .bool r.ram, .int .i64 r.wt] t)) (some ⟨w.heap.size, 0, none⟩) 1 [r] :=
  ⟨rfl, by omega, fun _ => ⟨w.heap.size, 0, rfl, by simp, AtR.new w t r⟩⟩
theorem OwnsR.alloc {w : World} {base : Nat} {v : Value} {d : List Rg} (h : OwnsR w base v d) (o : Obj) : OwnsR (w.alloc o) base v d := World.ownsRow.alloc h o
theorem OwnsR.nil (w : World) (base : Nat) : OwnsR w base (.slice none 0 0) [] := World.ownsRow_nil w base _ 4
theorem OwnsR.lit1 (w : World) (r : Rg) : OwnsR (w.alloc (.cells #[.int .u16 r.fr, .int .u16 r.tw, .bool r.ram, .int .i64 r.wt] 41)) w.heap.size (.slice (some ⟨w.heap.size, 0, none⟩) 1 1) [r] :=
  ⟨rfl, .inr ⟨w.heap.size, 1, _, rfl, Nat.le_refl _, heap_alloc_new w _, by simp, by unfold maxLen; omega, rfl, rfl⟩⟩
theorem AddsR.grown {w0 w w' : World} {v : Value} {d : List Rg} (h : Adds w0 w) (hg : w.grownBy w' v.ownBlock) (ho : OwnsR w w0.heap.size v d) : Adds w0 w' :=
  Adds.of_below (h.below.grown hg h.size fun k hk => (World.ownsRow.lt ho k hk).1)
/-- An argument that is a slice of regions: the list that it holds. -/
theorem heldR_of (w : World) (x : Addr) (len : Nat) (h61 : len ≤ 2305843009213693952) (hc : ∀ i, i < len → ∃ r : Rg, w.cell? (x.add (i * 4)) = some (.int .u16 r.fr) ∧ w.cell? (x.add (i * 4 + 1)) = some (.int .u16 r.tw) ∧ w.cell? (x.add (i * 4 + 2)) = some (.bool r.ram) ∧ w.cell? (x.add (i * 4 + 3)) = some (.int .i64 r.wt)) : ∃ l, HeldR w (some x) len l := by
  rcases Nat.eq_zero_or_pos len with rfl | hp
  · exact ⟨[], HeldR.nil _ _⟩
  obtain ⟨r0, hy0, _⟩ := hc 0 hp
  rw [show x.add (0 * 4) = x by simp [Addr.add]] at hy0
  obtain ⟨b, o, sp⟩ := x
  obtain rfl : sp = none := cell_spot hy0
  have boolOf : ∃ f : Value → Bool, ∀ c, f (.bool c) = c := ⟨fun v => match v with | .bool c => c | _ => false, fun _ => rfl⟩
  obtain ⟨bf, hbf⟩ := boolOf
  refine ⟨(List.range len).map fun i => ⟨intOf ((w.cell? ⟨b, o + i * 4, none⟩).getD (.int .u16 0)), intOf ((w.cell? ⟨b, o + (i * 4 + 1), none⟩).getD (.int .u16 0)), bf ((w.cell? ⟨b, o + (i * 4 + 2), none⟩).getD (.int .u16 0)), intOf ((w.cell? ⟨b, o + (i * 4 + 3), none⟩).getD (.int .u16 0))⟩, by simp, h61, fun _ => ⟨b, o, rfl, cell_lt hy0, ?_⟩⟩
  intro j r hj
  have hjl : j < len := by
    have := (List.getElem?_eq_some_iff.1 hj).1
    simpa using this
  obtain ⟨r', h1, h2, h3, h4⟩ := hc j hjl
  rw [add_plain] at h1 h2 h3 h4
  rw [List.getElem?_map, List.getElem?_range hjl] at hj
  simp only [Option.map_some, h1, h2, h3, h4, Option.getD_some, intOf, hbf, Option.some.injEq] at hj
  subst hj
  exact ⟨h1, by rw [Nat.add_assoc]; exact h2, by rw [Nat.add_assoc]; exact h3, by rw [Nat.add_assoc]; exact h4⟩
theorem addr_add_add (x : Addr) (i j : Nat) : (x.add i).add j = x.add (i + j) := by
  unfold Addr.add
  by_cases hi : i = 0 <;> by_cases hj : j = 0 <;> simp [hi, hj, Nat.add_assoc]
theorem open_regions {H : Type} {enc : TypeId × Value → H} {w : World} {base : Nat} {spare : Nat → Bool} {held : Bool} {fuel : Nat} {cs : List Value} {x : DataW H × List MemPlace}
    (h : DataW.trod enc Try.prog w base spare held fuel 39 cs = some x) : ∃ a len cap, cs = [.slice a len cap] ∧ (len ≤ 2305843009213693952 → ∃ l, HeldR w a len l) := by
  have hC : Try.prog.cellsOf 41 = 4 := by kernel_rfl
  rcases open_slice Try.underlying39 h with ⟨hcs, _⟩ | ⟨a, len, cap, m, n, D, Pl, hcs, hb, hl, hm, hmm, hx, hi⟩
  · exact ⟨none, 0, 0, hcs, fun _ => ⟨[], HeldR.nil _ _⟩⟩
  · refine ⟨some a, len, cap, hcs, fun h61 => heldR_of w a len h61 (fun i hi' => by
      obtain ⟨cs', hc, ht'⟩ := hi i (by rw [hmm]; split <;> omega)
      rw [hC] at hc
      have hf := flat_fits 9 41 [.int .u16, .int .u16, .bool, .int .i64] _ _ _ (by kernel_rfl) ht'
      obtain ⟨z0, l1, rfl, _, hf1⟩ := fits_int hf
      obtain ⟨z1, l2, rfl, _, hf2⟩ := fits_int hf1
      obtain ⟨z2, l3, rfl, hf3⟩ := fits_bool hf2
      obtain ⟨z3, l4, rfl, _, hf4⟩ := fits_int hf3
      obtain rfl := fits_nil hf4
      obtain ⟨_, hcl, hat⟩ := World.cells?_some hc
      have g0 := hat 0 (by omega)
      have g1 := hat 1 (by omega)
      have g2 := hat 2 (by omega)
      have g3 := hat 3 (by omega)
      rw [addr_add_add] at g0 g1 g2 g3
      exact ⟨⟨z0, z1, z2, z3⟩, by simpa using g0, by simpa using g1, by simpa using g2, by simpa using g3⟩)⟩
end Go.Proofs.Ytfddefoambakiaa
