/- Lists of items, of pins, of spans and of integers in memory: MG's words for these kinds of element; arguments that are slices of items. No condition. -/
import Derived.Test.YtfhnfakjjfjohaaMG
import Derived.Test.YtfhnfakjjfjohaaCM
import Derived.Test.YtfhnfakjjfjohaaS26
import Derived.Deep.Slices
import Derived.ChangeSame
namespace Go.Proofs.Ytfhnfakjjfjohaa
open Go.ChangeShapes Go.WideShapes Go.ChangeAt Go.RowKit Go.Deep
set_option linter.unusedVariables false
def csT (x : S.It) : List Value := x.cs.toList
theorem csT_len : ∀ x, (csT x).length = 9 := fun _ => rfl
theorem csT_one : ∀ x, ∀ u ∈ csT x, u.oneCell' = true := by
  intro x u hu
  simp only [csT, S.It.cs, List.mem_cons, List.not_mem_nil, or_false] at hu
  rcases hu with rfl | rfl | rfl | rfl | rfl | rfl | rfl | rfl | rfl <;> rfl
def S.It.zero : S.It := ⟨0, 0, 0, 0, 0, 0, 0, false, false⟩
theorem sizeT : (Try.prog.info? 44).map (·.size) = some 9 := by kernel_rfl
theorem infoT : (Try.prog.info? 44).map (fun i => (i.zero, i.size, i.bytes)) = some (some (.agg S.It.zero.cs), 9, 56) := by kernel_rfl
def csQ (x : S.Pn) : List Value := x.cs.toList
theorem csQ_len : ∀ x, (csQ x).length = 17 := fun _ => rfl
theorem csQ_one : ∀ x, ∀ u ∈ csQ x, u.oneCell' = true := by
  intro x u hu
  simp only [csQ, S.Pn.cs, List.mem_cons, List.not_mem_nil, or_false] at hu
  rcases hu with rfl | rfl | rfl | rfl | rfl | rfl | rfl | rfl | rfl | rfl | rfl | rfl | rfl | rfl | rfl | rfl | rfl <;> rfl
def S.Pn.zero : S.Pn := ⟨0, 0, 0, false, false, false, false, false, false, false, false, false, false, false, false, false, false⟩
theorem sizeQ : (Try.prog.info? 46).map (·.size) = some 17 := by kernel_rfl
theorem infoQ : (Try.prog.info? 46).map (fun i => (i.zero, i.size, i.bytes)) = some (some (.agg S.Pn.zero.cs), 17, 32) := by kernel_rfl
def csZ (z : Int) : List Value := [.int .i64 z]
theorem csZ_len : ∀ z, (csZ z).length = 1 := fun _ => rfl
theorem csZ_one : ∀ z, ∀ u ∈ csZ z, u.oneCell' = true := by
  intro z u hu
  simp only [csZ, List.mem_cons, List.not_mem_nil, or_false] at hu
  subst hu; rfl
theorem infoZ : (Try.prog.info? 3).map (fun i => (i.zero, i.size, i.bytes)) = some (some (.int .i64 0), 1, 8) := by kernel_rfl
def csP (p : Int × Int) : List Value := [.int .i64 p.1, .int .i64 p.2]
theorem csP_len : ∀ z, (csP z).length = 2 := fun _ => rfl
abbrev HeldP := HeldG csP
theorem sizeP : (Try.prog.info? 71).map (·.size) = some 2 := by kernel_rfl
/-- One span of a slice, loaded whole. -/
theorem AtP.load {w : World} {b o : Nat} {d : List (Int × Int)} (h : AtG csP w b o d) {j : Nat} {x : Int × Int} (hj : d[j]? = some x) (p : Nat) (hp : p = o + j * 2) : (wholeVar 71 ⟨b, p, none⟩).run Try.prog w = .ok (.agg #[.int .i64 x.1, .int .i64 x.2]) w := by
  subst hp
  exact whole_cells Try.underlying71 rfl sizeP w b _ _ rfl fun k u hu => h.el csP_len hj (by simpa [csP] using hu)
abbrev HeldT := HeldG csT
abbrev OwnsT := OwnsG csT 9 44
/-- append. -/
theorem wpList_appT {w : World} {ops : Array Oper} {rest : List Oper} {o : Oper} {a : Act} {Q : Exit → Act → World → Prop} (hgd : o.guard = none) (s x : Operand)
    (ho : o.op = .call { callee := .builtin .append, args := #[s, x], argTypes := #[22, 22] })
    (base : Nat) (v : Value) (d : List S.It) (hv : a.eval s = v) (hown : OwnsT w base v d) (ad : Addr) (m c : Nat) (e : List S.It) (hx : a.eval x = .slice (some ad) m c) (hm : e.length = m) (hat : ∀ j u, (Fl csT e)[j]? = some u → w.cell? (ad.add j) = some u)
    (hsz : d.length + m ≤ 2000000000000) (hbase : base ≤ w.heap.size)
    (h : ∀ v' w', OwnsT w' base v' (d ++ e) → w.grownBy w' v.ownBlock → wpList Try.prog ops Q rest (a.put o.dst v') w') : wpList Try.prog ops Q (o :: rest) a w :=
  wpList_appG csT_len csT_one Try.underlying22 infoT rfl (by decide) hgd s x ho base v d hv hown ad m c e hx hm hat (by unfold maxLen; omega) (by omega) hbase h
/-- .. of the one element that a block just laid holds. -/
theorem wpList_appT1 {w : World} {ops : Array Oper} {rest : List Oper} {o : Oper} {a : Act} {Q : Exit → Act → World → Prop} (hgd : o.guard = none) (s x : Operand)
    (ho : o.op = .call { callee := .builtin .append, args := #[s, x], argTypes := #[22, 22] })
    (base : Nat) (v : Value) (d : List S.It) (hv : a.eval s = v) (y : S.It) (c : Array Value) (t : TypeId) (b : Nat) (hx : a.eval x = .slice (some ⟨b, 0, none⟩) 1 1) (hc : c.toList = csT y) (hb : b = w.heap.size) (hown : OwnsT w base v d)
    (hsz : d.length + 1 ≤ 2000000000000) (hbase : base ≤ w.heap.size)
    (h : ∀ v' w', OwnsT w' base v' (d ++ [y]) → w.grownBy w' v.ownBlock → wpList Try.prog ops Q rest (a.put o.dst v') w') : wpList Try.prog ops Q (o :: rest) a (w.alloc (.cells c t)) := by
  subst hb
  refine wpList_appT hgd s x ho base v d hv (hown.alloc _) ⟨w.heap.size, 0, none⟩ 1 1 [y] hx rfl (at_new w t c [y] (by rw [Fl_one]; exact hc) _ rfl) hsz (by simp; omega) ?_
  intro v' w' h1 h2
  exact h v' w' h1 (World.grownBy.trans (World.grownBy_alloc w _ _) h2)
/-- The same, as one step of a region that draws its order. -/
theorem step_appT1 {w : World} {ops : Array Oper} {o : Oper} {a : Act} {K : Act → World → Prop} {Q : Exit → Act → World → Prop} {E : Prop} (hgd : o.guard = none) (s x : Operand)
    (ho : o.op = .call { callee := .builtin .append, args := #[s, x], argTypes := #[22, 22] })
    (base : Nat) (v : Value) (d : List S.It) (hv : a.eval s = v) (y : S.It) (c : Array Value) (t : TypeId) (b : Nat) (hx : a.eval x = .slice (some ⟨b, 0, none⟩) 1 1) (hc : c.toList = csT y) (hb : b = w.heap.size) (hown : OwnsT w base v d)
    (hsz : d.length + 1 ≤ 2000000000000) (hbase : base ≤ w.heap.size)
    (h : ∀ v' w', OwnsT w' base v' (d ++ [y]) → w.grownBy w' v.ownBlock → K (a.put o.dst v') w') : if Region.wanted o (yielded ops a.tmps) = true then Oper.wp Try.prog o a (w.alloc (.cells c t)) K Q else E := by
  have hw : Region.wanted o (yielded ops a.tmps) = true := by simp [Region.wanted, hgd]
  rw [if_pos hw]
  subst hb
  obtain ⟨i0, hi, hz0, hz1, hz2⟩ := info_parts infoT
  refine wp_append_own _ s x 22 ho base 44 i0 _ 9 _ Try.underlying22 hi hz0 hz1 hz2 rfl (by decide) v d.length (Fl csT d) hv (hown.alloc _) ⟨w.heap.size, 0, none⟩ 1 1 (Fl csT [y]) hx (by rw [Fl_len csT_len]; rfl) (at_new w t c [y] (by rw [Fl_one]; exact hc) _ rfl) (Fl_oneCell csT_one [y]) (by unfold maxLen; omega) (by omega) (by simp; omega) ?_
  intro v' w' k1 k2 k3
  refine h v' w' ?_ (World.grownBy.trans (World.grownBy_alloc w _ _) k2)
  unfold OwnsT OwnsG
  rw [List.length_append, Fl_app]
  exact k1
abbrev HeldQ := HeldG csQ
abbrev OwnsQ := OwnsG csQ 17 46
/-- append. -/
theorem wpList_appQ {w : World} {ops : Array Oper} {rest : List Oper} {o : Oper} {a : Act} {Q : Exit → Act → World → Prop} (hgd : o.guard = none) (s x : Operand)
    (ho : o.op = .call { callee := .builtin .append, args := #[s, x], argTypes := #[30, 30] })
    (base : Nat) (v : Value) (d : List S.Pn) (hv : a.eval s = v) (hown : OwnsQ w base v d) (ad : Addr) (m c : Nat) (e : List S.Pn) (hx : a.eval x = .slice (some ad) m c) (hm : e.length = m) (hat : ∀ j u, (Fl csQ e)[j]? = some u → w.cell? (ad.add j) = some u)
    (hsz : d.length + m ≤ 4000000000000) (hbase : base ≤ w.heap.size)
    (h : ∀ v' w', OwnsQ w' base v' (d ++ e) → w.grownBy w' v.ownBlock → wpList Try.prog ops Q rest (a.put o.dst v') w') : wpList Try.prog ops Q (o :: rest) a w :=
  wpList_appG csQ_len csQ_one Try.underlying30 infoQ rfl (by decide) hgd s x ho base v d hv hown ad m c e hx hm hat (by unfold maxLen; omega) (by omega) hbase h
/-- .. of the one element that a block just laid holds. -/
theorem wpList_appQ1 {w : World} {ops : Array Oper} {rest : List Oper} {o : Oper} {a : Act} {Q : Exit → Act → World → Prop} (hgd : o.guard = none) (s x : Operand)
    (ho : o.op = .call { callee := .builtin .append, args := #[s, x], argTypes := #[30, 30] })
    (base : Nat) (v : Value) (d : List S.Pn) (hv : a.eval s = v) (y : S.Pn) (c : Array Value) (t : TypeId) (b : Nat) (hx : a.eval x = .slice (some ⟨b, 0, none⟩) 1 1) (hc : c.toList = csQ y) (hb : b = w.heap.size) (hown : OwnsQ w base v d)
    (hsz : d.length + 1 ≤ 4000000000000) (hbase : base ≤ w.heap.size)
    (h : ∀ v' w', OwnsQ w' base v' (d ++ [y]) → w.grownBy w' v.ownBlock → wpList Try.prog ops Q rest (a.put o.dst v') w') : wpList Try.prog ops Q (o :: rest) a (w.alloc (.cells c t)) := by
  subst hb
  refine wpList_appQ hgd s x ho base v d hv (hown.alloc _) ⟨w.heap.size, 0, none⟩ 1 1 [y] hx rfl (at_new w t c [y] (by rw [Fl_one]; exact hc) _ rfl) hsz (by simp; omega) ?_
  intro v' w' h1 h2
  exact h v' w' h1 (World.grownBy.trans (World.grownBy_alloc w _ _) h2)
/-- The same, as one step of a region that draws its order. -/
theorem step_appQ1 {w : World} {ops : Array Oper} {o : Oper} {a : Act} {K : Act → World → Prop} {Q : Exit → Act → World → Prop} {E : Prop} (hgd : o.guard = none) (s x : Operand)
    (ho : o.op = .call { callee := .builtin .append, args := #[s, x], argTypes := #[30, 30] })
    (base : Nat) (v : Value) (d : List S.Pn) (hv : a.eval s = v) (y : S.Pn) (c : Array Value) (t : TypeId) (b : Nat) (hx : a.eval x = .slice (some ⟨b, 0, none⟩) 1 1) (hc : c.toList = csQ y) (hb : b = w.heap.size) (hown : OwnsQ w base v d)
    (hsz : d.length + 1 ≤ 4000000000000) (hbase : base ≤ w.heap.size)
    (h : ∀ v' w', OwnsQ w' base v' (d ++ [y]) → w.grownBy w' v.ownBlock → K (a.put o.dst v') w') : if Region.wanted o (yielded ops a.tmps) = true then Oper.wp Try.prog o a (w.alloc (.cells c t)) K Q else E := by
  have hw : Region.wanted o (yielded ops a.tmps) = true := by simp [Region.wanted, hgd]
  rw [if_pos hw]
  subst hb
  obtain ⟨i0, hi, hz0, hz1, hz2⟩ := info_parts infoQ
  refine wp_append_own _ s x 30 ho base 46 i0 _ 17 _ Try.underlying30 hi hz0 hz1 hz2 rfl (by decide) v d.length (Fl csQ d) hv (hown.alloc _) ⟨w.heap.size, 0, none⟩ 1 1 (Fl csQ [y]) hx (by rw [Fl_len csQ_len]; rfl) (at_new w t c [y] (by rw [Fl_one]; exact hc) _ rfl) (Fl_oneCell csQ_one [y]) (by unfold maxLen; omega) (by omega) (by simp; omega) ?_
  intro v' w' k1 k2 k3
  refine h v' w' ?_ (World.grownBy.trans (World.grownBy_alloc w _ _) k2)
  unfold OwnsQ OwnsG
  rw [List.length_append, Fl_app]
  exact k1
abbrev HeldZ := HeldG csZ
abbrev OwnsZ := OwnsG csZ 1 3
/-- append. -/
theorem wpList_appZ {w : World} {ops : Array Oper} {rest : List Oper} {o : Oper} {a : Act} {Q : Exit → Act → World → Prop} (hgd : o.guard = none) (s x : Operand)
    (ho : o.op = .call { callee := .builtin .append, args := #[s, x], argTypes := #[23, 23] })
    (base : Nat) (v : Value) (d : List Int) (hv : a.eval s = v) (hown : OwnsZ w base v d) (ad : Addr) (m c : Nat) (e : List Int) (hx : a.eval x = .slice (some ad) m c) (hm : e.length = m) (hat : ∀ j u, (Fl csZ e)[j]? = some u → w.cell? (ad.add j) = some u)
    (hsz : d.length + m ≤ 10000000000000) (hbase : base ≤ w.heap.size)
    (h : ∀ v' w', OwnsZ w' base v' (d ++ e) → w.grownBy w' v.ownBlock → wpList Try.prog ops Q rest (a.put o.dst v') w') : wpList Try.prog ops Q (o :: rest) a w :=
  wpList_appG csZ_len csZ_one Try.underlying23 infoZ rfl (by decide) hgd s x ho base v d hv hown ad m c e hx hm hat (by unfold maxLen; omega) (by omega) hbase h
/-- .. of the one element that a block just laid holds. -/
theorem wpList_appZ1 {w : World} {ops : Array Oper} {rest : List Oper} {o : Oper} {a : Act} {Q : Exit → Act → World → Prop} (hgd : o.guard = none) (s x : Operand)
    (ho : o.op = .call { callee := .builtin .append, args := #[s, x], argTypes := #[23, 23] })
    (base : Nat) (v : Value) (d : List Int) (hv : a.eval s = v) (y : Int) (c : Array Value) (t : TypeId) (b : Nat) (hx : a.eval x = .slice (some ⟨b, 0, none⟩) 1 1) (hc : c.toList = csZ y) (hb : b = w.heap.size) (hown : OwnsZ w base v d)
    (hsz : d.length + 1 ≤ 10000000000000) (hbase : base ≤ w.heap.size)
    (h : ∀ v' w', OwnsZ w' base v' (d ++ [y]) → w.grownBy w' v.ownBlock → wpList Try.prog ops Q rest (a.put o.dst v') w') : wpList Try.prog ops Q (o :: rest) a (w.alloc (.cells c t)) := by
  subst hb
  refine wpList_appZ hgd s x ho base v d hv (hown.alloc _) ⟨w.heap.size, 0, none⟩ 1 1 [y] hx rfl (at_new w t c [y] (by rw [Fl_one]; exact hc) _ rfl) hsz (by simp; omega) ?_
  intro v' w' h1 h2
  exact h v' w' h1 (World.grownBy.trans (World.grownBy_alloc w _ _) h2)
/-- The same, as one step of a region that draws its order. -/
theorem step_appZ1 {w : World} {ops : Array Oper} {o : Oper} {a : Act} {K : Act → World → Prop} {Q : Exit → Act → World → Prop} {E : Prop} (hgd : o.guard = none) (s x : Operand)
    (ho : o.op = .call { callee := .builtin .append, args := #[s, x], argTypes := #[23, 23] })
    (base : Nat) (v : Value) (d : List Int) (hv : a.eval s = v) (y : Int) (c : Array Value) (t : TypeId) (b : Nat) (hx : a.eval x = .slice (some ⟨b, 0, none⟩) 1 1) (hc : c.toList = csZ y) (hb : b = w.heap.size) (hown : OwnsZ w base v d)
    (hsz : d.length + 1 ≤ 10000000000000) (hbase : base ≤ w.heap.size)
    (h : ∀ v' w', OwnsZ w' base v' (d ++ [y]) → w.grownBy w' v.ownBlock → K (a.put o.dst v') w') : if Region.wanted o (yielded ops a.tmps) = true then Oper.wp Try.prog o a (w.alloc (.cells c t)) K Q else E := by
  have hw : Region.wanted o (yielded ops a.tmps) = true := by simp [Region.wanted, hgd]
  rw [if_pos hw]
  subst hb
  obtain ⟨i0, hi, hz0, hz1, hz2⟩ := info_parts infoZ
  refine wp_append_own _ s x 23 ho base 3 i0 _ 1 _ Try.underlying23 hi hz0 hz1 hz2 rfl (by decide) v d.length (Fl csZ d) hv (hown.alloc _) ⟨w.heap.size, 0, none⟩ 1 1 (Fl csZ [y]) hx (by rw [Fl_len csZ_len]; rfl) (at_new w t c [y] (by rw [Fl_one]; exact hc) _ rfl) (Fl_oneCell csZ_one [y]) (by unfold maxLen; omega) (by omega) (by simp; omega) ?_
  intro v' w' k1 k2 k3
  refine h v' w' ?_ (World.grownBy.trans (World.grownBy_alloc w _ _) k2)
  unfold OwnsZ OwnsG
  rw [List.length_append, Fl_app]
  exact k1
/-- One element of a slice, loaded whole. -/
theorem AtT.load {w : World} {b o : Nat} {d : List S.It} (h : AtG csT w b o d) {j : Nat} {x : S.It} (hj : d[j]? = some x) (p : Nat) (hp : p = o + j * 9) : (wholeVar 44 ⟨b, p, none⟩).run Try.prog w = .ok (.agg x.cs) w := by
  subst hp
  exact whole_cells Try.underlying44 rfl sizeT w b _ x.cs rfl fun k u hu => h.el csT_len hj (by simpa [csT] using hu)
theorem AtT.loadM {w : World} {b o : Nat} {d : List S.It} (h : AtG csT w b o d) (hb : b < w.heap.size) {j : Nat} {x : S.It} (hj : d[j]? = some x) (p : Nat) (hp : p = o + j * 9) : ∀ n os, (wholeVar 44 ⟨b, p, none⟩).run Try.prog (More w n os) = .ok (.agg x.cs) (More w n os) := fun n os =>
  AtT.load (h.keep fun i => (Adds.more (Adds.refl w) n os).cell hb) hj p hp
/-- One element of a slice, loaded whole. -/
theorem AtQ.load {w : World} {b o : Nat} {d : List S.Pn} (h : AtG csQ w b o d) {j : Nat} {x : S.Pn} (hj : d[j]? = some x) (p : Nat) (hp : p = o + j * 17) : (wholeVar 46 ⟨b, p, none⟩).run Try.prog w = .ok (.agg x.cs) w := by
  subst hp
  exact whole_cells Try.underlying46 rfl sizeQ w b _ x.cs rfl fun k u hu => h.el csQ_len hj (by simpa [csQ] using hu)
theorem AtQ.loadM {w : World} {b o : Nat} {d : List S.Pn} (h : AtG csQ w b o d) (hb : b < w.heap.size) {j : Nat} {x : S.Pn} (hj : d[j]? = some x) (p : Nat) (hp : p = o + j * 17) : ∀ n os, (wholeVar 46 ⟨b, p, none⟩).run Try.prog (More w n os) = .ok (.agg x.cs) (More w n os) := fun n os =>
  AtQ.load (h.keep fun i => (Adds.more (Adds.refl w) n os).cell hb) hj p hp
theorem AtZ.el {w : World} {b o : Nat} {d : List Int} (h : AtG csZ w b o d) {j : Nat} {z : Int} (hj : d[j]? = some z) : w.cell? ⟨b, o + j, none⟩ = some (.int .i64 z) := by
  have := h.el csZ_len hj (k := 0) (u := .int .i64 z) rfl
  rwa [Nat.mul_one, Nat.add_zero] at this
/-- A slice that holds a list, however long. -/
def ArgT (w : World) (a : Option Addr) (n : Nat) (d : List S.It) : Prop := d.length = n ∧ (0 < n → ∃ b o, a = some ⟨b, o, none⟩ ∧ b < w.heap.size ∧ AtG csT w b o d)
theorem ArgT.held {w : World} {a : Option Addr} {n : Nat} {d : List S.It} (h : ArgT w a n d) (hn : n ≤ 4611686018427387904) : HeldT w a n d := ⟨h.1, hn, h.2⟩
/-- An argument that is a slice of items: the list that it holds. -/
theorem argT_of (w : World) (x : Addr) (len : Nat) (hc : ∀ i, i < len → ∃ r : S.It, ∀ k u, (csT r)[k]? = some u → w.cell? (x.add (i * 9 + k)) = some u) : ∃ l, ArgT w (some x) len l := by
  rcases Nat.eq_zero_or_pos len with rfl | hp
  · exact ⟨[], rfl, fun h => absurd h (by omega)⟩
  obtain ⟨f, hf⟩ : ∃ f : Nat → S.It, ∀ i, i < len → ∀ k u, (csT (f i))[k]? = some u → w.cell? (x.add (i * 9 + k)) = some u := by
    refine ⟨fun i => if h : i < len then (hc i h).choose else default, fun i hi => ?_⟩
    simp only [hi, dif_pos]
    exact (hc i hi).choose_spec
  have h0 := (hf 0 hp) 0 _ rfl
  rw [show x.add (0 * 9 + 0) = x by simp [Addr.add]] at h0
  obtain ⟨b, o, sp⟩ := x
  obtain rfl : sp = none := cell_spot h0
  refine ⟨(List.range len).map f, by simp, fun _ => ⟨b, o, rfl, cell_lt h0, fun j u hu => ?_⟩⟩
  have hlen : (Fl csT ((List.range len).map f)).length = len * 9 := by rw [Fl_len csT_len]; simp
  have hj : j < len * 9 := by have := (List.getElem?_eq_some_iff.1 hu).1; omega
  have hq : ((List.range len).map f)[j / 9]? = some (f (j / 9)) := by rw [List.getElem?_map, List.getElem?_range (by omega)]; rfl
  obtain ⟨v, hv⟩ : ∃ v, (csT (f (j / 9)))[j % 9]? = some v := ⟨_, List.getElem?_eq_getElem (by rw [csT_len]; omega)⟩
  have k1 := Fl_get csT_len _ _ _ hq _ _ hv
  rw [show j / 9 * 9 + j % 9 = j by omega, hu] at k1
  obtain rfl := Option.some.inj k1
  have k2 := (hf (j / 9) (by omega)) _ _ hv
  rw [add_plain, show j / 9 * 9 + j % 9 = j by omega] at k2
  exact k2
theorem open_items {H : Type} {enc : TypeId × Value → H} {w : World} {base : Nat} {spare : Nat → Bool} {held : Bool} {fuel : Nat} {cs : List Value} {x : DataW H × List MemPlace}
    (h : DataW.trod enc Try.prog w base spare held fuel 22 cs = some x) : ∃ a len cap, cs = [.slice a len cap] ∧ (len ≤ cap ∧ cap ≤ 9223372036854775807) ∧ ∃ l, ArgT w a len l := by
  have hC : Try.prog.cellsOf 44 = 9 := by kernel_rfl
  rcases open_slice Try.underlying22 h with ⟨hcs, _⟩ | ⟨a, len, cap, m, n, D, Pl, hcs, hb, hl, hm, hmm, hx, hi⟩
  · exact ⟨none, 0, 0, hcs, ⟨by omega, by omega⟩, [], rfl, fun h => absurd h (by omega)⟩
  · refine ⟨some a, len, cap, hcs, ⟨hl, by simpa [maxLen] using hm⟩, argT_of w a len (fun i hi' => ?_)⟩
    obtain ⟨cs', hc, ht'⟩ := hi i (by rw [hmm]; split <;> omega)
    rw [hC] at hc
    have hf := flat_fits 9 44 [.int .i64, .int .i64, .int .u16, .int .u8, .int .i64, .int .i64, .int .i64, .bool, .bool] _ _ _ (by kernel_rfl) ht'
    obtain ⟨z0, l0, rfl, q0, hf0⟩ := fits_int hf
    obtain ⟨z1, l1, rfl, q1, hf1⟩ := fits_int hf0
    obtain ⟨z2, l2, rfl, q2, hf2⟩ := fits_int hf1
    obtain ⟨z3, l3, rfl, q3, hf3⟩ := fits_int hf2
    obtain ⟨z4, l4, rfl, q4, hf4⟩ := fits_int hf3
    obtain ⟨z5, l5, rfl, q5, hf5⟩ := fits_int hf4
    obtain ⟨z6, l6, rfl, q6, hf6⟩ := fits_int hf5
    obtain ⟨z7, l7, rfl, hf7⟩ := fits_bool hf6
    obtain ⟨z8, l8, rfl, hf8⟩ := fits_bool hf7
    obtain rfl := fits_nil hf8
    obtain ⟨_, hcl, hat⟩ := World.cells?_some hc
    refine ⟨⟨z0, z1, z2, z3, z4, z5, z6, z7, z8⟩, fun k u hu => ?_⟩
    have hk : k < 9 := by have := (List.getElem?_eq_some_iff.1 hu).1; rwa [csT_len] at this
    have g := hat k (by omega)
    rw [addr_add_add] at g
    rw [g]
    simpa [csT, S.It.cs] using hu
end Go.Proofs.Ytfhnfakjjfjohaa
