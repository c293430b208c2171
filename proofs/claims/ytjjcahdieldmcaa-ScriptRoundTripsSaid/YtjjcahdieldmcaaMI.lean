/- Lists of bytes and lists of inputs in memory: MG's words for these two kinds of element; arguments that are slices of them. No condition. -/
import Derived.Test.YtjjcahdieldmcaaMG
import Derived.Test.YtjjcahdieldmcaaCM
import Derived.Test.YtjjcahdieldmcaaS24
import Derived.Deep.Slices
import Derived.ChangeSame
namespace Go.Proofs.Ytjjcahdieldmcaa
open Go.ChangeShapes Go.WideShapes Go.ChangeAt Go.RowKit Go.Deep
set_option linter.unusedVariables false
def csB (z : Int) : List Value := [.int .u8 z]
theorem csB_len : ∀ z, (csB z).length = 1 := fun _ => rfl
theorem csB_one : ∀ z, ∀ u ∈ csB z, u.oneCell' = true := by
  intro z u hu
  simp only [csB, List.mem_cons, List.not_mem_nil, or_false] at hu
  subst hu; rfl
abbrev HeldB := HeldG csB
abbrev OwnsB := OwnsG csB 1 5
theorem infoB : (Try.prog.info? 5).map (fun i => (i.zero, i.size, i.bytes)) = some (some (.int .u8 0), 1, 1) := by kernel_rfl
theorem FlB : ∀ zs : List Int, Fl csB zs = zs.map (Value.int .u8)
  | [] => rfl
  | z :: zs => by rw [Fl_cons, FlB zs]; rfl
/-- Byte j of a list. -/
theorem AtB.el {w : World} {b o : Nat} {zs : List Int} (h : AtG csB w b o zs) {j : Nat} (hj : j < zs.length) : w.cell? ⟨b, o + j, none⟩ = some (.int .u8 (zs.getD j 0)) := by
  have hx : zs[j]? = some (zs.getD j 0) := by simp [List.getD, List.getElem?_eq_getElem hj]
  have := h.el csB_len hx (k := 0) (u := .int .u8 (zs.getD j 0)) rfl
  rwa [Nat.mul_one, Nat.add_zero] at this
theorem heldB_of {w : World} {a : Option Addr} {len cap : Nat} {zs : List Int} (h : IsRow .u8 w a len cap zs) (hl : len ≤ 4611686018427387904) : ∃ d, HeldB w a len d ∧ ∀ z ∈ d, S.byt z := by
  rcases h with ⟨rfl, rfl, _, rfl⟩ | ⟨x, rfl, h2, h3, h4, h5, h6⟩
  · exact ⟨[], HeldG.nil _ _, fun z hz => by cases hz⟩
  · refine ⟨zs.take len, ⟨by rw [List.length_take]; omega, hl, fun hn => ?_⟩, fun z hz => ?_⟩
    · have h0 := h5 0 (by omega)
      rw [show x.add 0 = x by simp [Addr.add]] at h0
      obtain ⟨b, o, sp⟩ := x
      obtain rfl : sp = none := cell_spot h0
      refine ⟨b, o, rfl, cell_lt h0, fun j u hu => ?_⟩
      rw [FlB, List.getElem?_map, List.getElem?_take] at hu
      split at hu
      · rename_i hj
        have := h5 j (by omega)
        rw [add_plain] at this
        have hx : zs[j]? = some (zs.getD j 0) := by simp [List.getD, List.getElem?_eq_getElem (show j < zs.length by omega)]
        rw [hx] at hu
        rw [this]; simpa using hu
      · simp at hu
    · have hw := h6 z (List.mem_of_mem_take hz)
      exact ⟨(bounds_u8 hw).1, Int.lt_add_one_of_le (bounds_u8 hw).2⟩
theorem rowB_cap {k : IntKind} {w : World} {a : Option Addr} {len cap : Nat} {zs : List Int} (h : IsRow k w a len cap zs) : len ≤ cap ∧ cap ≤ 9223372036854775807 := by
  rcases h with ⟨rfl, rfl, rfl, rfl⟩ | ⟨x, rfl, h2, h3, _⟩
  · exact ⟨by omega, by omega⟩
  · exact ⟨h2, by simpa [maxLen] using h3⟩
/-- append of bytes. -/
theorem wpList_appB {w : World} {ops : Array Oper} {rest : List Oper} {o : Oper} {a : Act} {Q : Exit → Act → World → Prop} (hgd : o.guard = none) (s x : Operand)
    (ho : o.op = .call { callee := .builtin .append, args := #[s, x], argTypes := #[22, 22] })
    (base : Nat) (v : Value) (d : List Int) (hv : a.eval s = v) (hown : OwnsB w base v d) (ad : Addr) (m c : Nat) (e : List Int) (hx : a.eval x = .slice (some ad) m c) (hm : e.length = m) (hat : ∀ j u, (Fl csB e)[j]? = some u → w.cell? (ad.add j) = some u)
    (hsz : d.length + m ≤ 140737488355328) (hbase : base ≤ w.heap.size)
    (h : ∀ v' w', OwnsB w' base v' (d ++ e) → w.grownBy w' v.ownBlock → wpList Try.prog ops Q rest (a.put o.dst v') w') : wpList Try.prog ops Q (o :: rest) a w :=
  wpList_appG csB_len csB_one Try.underlying22 infoB rfl (by decide) hgd s x ho base v d hv hown ad m c e hx hm hat (by unfold maxLen; omega) (by omega) hbase h
/-- .. of the bytes that a block just laid holds, as one step of a region that draws its order. -/
theorem step_appB {w : World} {ops : Array Oper} {o : Oper} {a : Act} {K : Act → World → Prop} {Q : Exit → Act → World → Prop} {E : Prop} (hgd : o.guard = none) (s x : Operand)
    (ho : o.op = .call { callee := .builtin .append, args := #[s, x], argTypes := #[22, 22] })
    (base : Nat) (v : Value) (d : List Int) (hv : a.eval s = v) (e : List Int) (m : Nat) (c : Array Value) (t : TypeId) (b : Nat) (hx : a.eval x = .slice (some ⟨b, 0, none⟩) m m) (hm : e.length = m) (hc : c.toList = Fl csB e) (hb : b = w.heap.size) (hown : OwnsB w base v d)
    (hsz : d.length + m ≤ 140737488355328) (hbase : base ≤ w.heap.size)
    (h : ∀ v' w', OwnsB w' base v' (d ++ e) → w.grownBy w' v.ownBlock → K (a.put o.dst v') w') : if Region.wanted o (yielded ops a.tmps) = true then Oper.wp Try.prog o a (w.alloc (.cells c t)) K Q else E := by
  have hw : Region.wanted o (yielded ops a.tmps) = true := by simp [Region.wanted, hgd]
  rw [if_pos hw]
  subst hb
  obtain ⟨i0, hi, hz0, hz1, hz2⟩ := info_parts infoB
  refine wp_append_own _ s x 22 ho base 5 i0 (.int .u8 0) 1 1 Try.underlying22 hi hz0 hz1 hz2 rfl (by decide) v d.length (Fl csB d) hv (hown.alloc _) ⟨w.heap.size, 0, none⟩ m m (Fl csB e) hx (by rw [Fl_len csB_len, hm]) (at_new w t c e hc _ rfl) (Fl_oneCell csB_one e) (by unfold maxLen; omega) (by omega) (by simp; omega) ?_
  intro v' w' k1 k2 k3
  refine h v' w' ?_ (World.grownBy.trans (World.grownBy_alloc w _ _) k2)
  unfold OwnsB OwnsG
  rw [List.length_append, hm, Fl_app]
  exact k1
/-- One byte of a slice of the call's own, stored. -/
theorem OwnsB.store {w : World} {base g n cap : Nat} {d : List Int} (h : OwnsB w base (.slice (some ⟨g, 0, none⟩) n cap) d) (i : Nat) (y : Int) :
    OwnsB (w.setCell ⟨g, i, none⟩ (.int .u8 y)) base (.slice (some ⟨g, 0, none⟩) n cap) (d.set i y) ∧ w.grownBy (w.setCell ⟨g, i, none⟩ (.int .u8 y)) (some g) := by
  have hn := h.len
  subst hn
  have k := World.ownsRow.stored h i (.int .u8 y)
  refine ⟨?_, k.2⟩
  have k1 := k.1
  rw [FlB, ← List.map_set] at k1
  show World.ownsRow _ _ _ _ _ _ _
  rw [List.length_set, FlB]
  exact k1
/-- make of no bytes, with room for so many; make of so many bytes. -/
theorem wpList_makeB0 {w : World} {ops : Array Oper} {rest : List Oper} {o : Oper} {a : Act} {Q : Exit → Act → World → Prop} (hgd : o.guard = none) (l c : Operand) (ho : o.op = Op.makeSlice 22 l c)
    (kl kc : IntKind) (C : Int) (n : Nat) (hl : a.eval l = .int kl 0) (hc : a.eval c = .int kc C) (hC : C = (n : Int)) (hn : n ≤ 1000000000) (b : Nat) (hb : b = w.heap.size)
    (h : ∀ w', OwnsB w' b (.slice (some ⟨b, 0, none⟩) 0 n) [] → w.grownBy w' none → wpList Try.prog ops Q rest (a.put o.dst (.slice (some ⟨b, 0, none⟩) 0 n)) w') : wpList Try.prog ops Q (o :: rest) a w := by
  subst hb
  obtain ⟨i0, hi, hz0, hz1, hz2⟩ := info_parts infoB
  exact wpList_make_own w hgd l c 22 ho w.heap.size 5 i0 (.int .u8 0) 1 Try.underlying22 hi hz0 hz1 kl kc C n hl hc hC (by rw [hz2]; omega) (by unfold maxLen; omega) (Nat.le_refl _) h
theorem wpList_makeB {w : World} {ops : Array Oper} {rest : List Oper} {o : Oper} {a : Act} {Q : Exit → Act → World → Prop} (hgd : o.guard = none) (l c : Operand) (ho : o.op = Op.makeSlice 22 l c)
    (kl kc : IntKind) (L C : Int) (n : Nat) (hl : a.eval l = .int kl L) (hc : a.eval c = .int kc C) (hL : L = (n : Int)) (hC : C = (n : Int)) (hn : n ≤ 1000000000) (b : Nat) (hb : b = w.heap.size)
    (h : ∀ w', OwnsB w' b (.slice (some ⟨b, 0, none⟩) n n) (List.replicate n 0) → w.grownBy w' none → wpList Try.prog ops Q rest (a.put o.dst (.slice (some ⟨b, 0, none⟩) n n)) w') : wpList Try.prog ops Q (o :: rest) a w := by
  subst hb
  obtain ⟨i0, hi, hz0, hz1, hz2⟩ := info_parts infoB
  refine wpList_make_full w hgd l c 22 ho w.heap.size 5 i0 (.int .u8 0) 1 Try.underlying22 hi hz0 hz1 kl kc L C n hl hc hL hC (by rw [hz2]; omega) (by unfold maxLen; omega) (Nat.le_refl _) ?_
  intro w' h1 h2
  refine h w' ?_ h2
  have e := made_cells (cs := csB) (sz := 1) #[.int .u8 0] rfl (by decide) 0 rfl n
  unfold OwnsB OwnsG
  rw [List.length_replicate, ← e]
  exact h1
theorem OwnsB.made (w : World) (n : Nat) (hn : n ≤ 1000000000) : OwnsB (w.alloc (.cells (madeCells #[.int .u8 0] n) 5)) w.heap.size (.slice (some ⟨w.heap.size, 0, none⟩) n n) (List.replicate n 0) := by
  have e := made_cells (cs := csB) (sz := 1) #[.int .u8 0] rfl (by decide) 0 rfl n
  rw [Nat.mul_one] at e
  exact ⟨by rw [FlB]; simp, .inr ⟨w.heap.size, n, _, by simp, Nat.le_refl _, heap_alloc_new w _, by simp, by unfold maxLen; omega, by rw [size_madeCells, Nat.mul_one], by rw [← e, List.take_of_length_le (by simp [madeCells])]⟩⟩
def csI (x : S.Inp) : List Value := x.cs.toList
theorem csI_len : ∀ x, (csI x).length = 10 := fun _ => rfl
theorem csI_one : ∀ x, ∀ u ∈ csI x, u.oneCell' = true := by
  intro x u hu
  simp only [csI, S.Inp.cs, List.mem_cons, List.not_mem_nil, or_false] at hu
  rcases hu with rfl | rfl | rfl | rfl | rfl | rfl | rfl | rfl | rfl | rfl <;> rfl
abbrev HeldI := HeldG csI
abbrev OwnsI := OwnsG csI 10 32
def S.zero : S.Inp := ⟨false, false, false, false, false, false, false, false, 0, 0⟩
theorem infoI : (Try.prog.info? 32).map (fun i => (i.zero, i.size, i.bytes)) = some (some (.agg S.zero.cs), 10, 10) := by kernel_rfl
theorem sizeI : (Try.prog.info? 32).map (·.size) = some 10 := by kernel_rfl
/-- append of inputs. -/
theorem wpList_appI {w : World} {ops : Array Oper} {rest : List Oper} {o : Oper} {a : Act} {Q : Exit → Act → World → Prop} (hgd : o.guard = none) (s x : Operand)
    (ho : o.op = .call { callee := .builtin .append, args := #[s, x], argTypes := #[29, 29] })
    (base : Nat) (v : Value) (d : List S.Inp) (hv : a.eval s = v) (hown : OwnsI w base v d) (ad : Addr) (m c : Nat) (e : List S.Inp) (hx : a.eval x = .slice (some ad) m c) (hm : e.length = m) (hat : ∀ j u, (Fl csI e)[j]? = some u → w.cell? (ad.add j) = some u)
    (hsz : d.length + m ≤ 14073748835532) (hbase : base ≤ w.heap.size)
    (h : ∀ v' w', OwnsI w' base v' (d ++ e) → w.grownBy w' v.ownBlock → wpList Try.prog ops Q rest (a.put o.dst v') w') : wpList Try.prog ops Q (o :: rest) a w :=
  wpList_appG csI_len csI_one Try.underlying29 infoI rfl (by decide) hgd s x ho base v d hv hown ad m c e hx hm hat (by unfold maxLen; omega) (by omega) hbase h
/-- .. of the one input that a block just laid holds. -/
theorem wpList_appI1 {w : World} {ops : Array Oper} {rest : List Oper} {o : Oper} {a : Act} {Q : Exit → Act → World → Prop} (hgd : o.guard = none) (s x : Operand)
    (ho : o.op = .call { callee := .builtin .append, args := #[s, x], argTypes := #[29, 29] })
    (base : Nat) (v : Value) (d : List S.Inp) (hv : a.eval s = v) (y : S.Inp) (c : Array Value) (t : TypeId) (b : Nat) (hx : a.eval x = .slice (some ⟨b, 0, none⟩) 1 1) (hc : c.toList = csI y) (hb : b = w.heap.size) (hown : OwnsI w base v d)
    (hsz : d.length ≤ 14073748835531) (hbase : base ≤ w.heap.size)
    (h : ∀ v' w', OwnsI w' base v' (d ++ [y]) → w.grownBy w' v.ownBlock → wpList Try.prog ops Q rest (a.put o.dst v') w') : wpList Try.prog ops Q (o :: rest) a (w.alloc (.cells c t)) := by
  subst hb
  refine wpList_appI hgd s x ho base v d hv (hown.alloc _) ⟨w.heap.size, 0, none⟩ 1 1 [y] hx rfl (at_new w t c [y] (by rw [Fl_one]; exact hc) _ rfl) (by omega) (by simp; omega) ?_
  intro v' w' h1 h2
  exact h v' w' h1 (World.grownBy.trans (World.grownBy_alloc w _ _) h2)
/-- The same, and where the new slice lies. -/
theorem wpList_appI1_at {w : World} {ops : Array Oper} {rest : List Oper} {o : Oper} {a : Act} {Q : Exit → Act → World → Prop} (hgd : o.guard = none) (s x : Operand)
    (ho : o.op = .call { callee := .builtin .append, args := #[s, x], argTypes := #[29, 29] })
    (base : Nat) (v : Value) (d : List S.Inp) (hv : a.eval s = v) (y : S.Inp) (c : Array Value) (t : TypeId) (b : Nat) (hx : a.eval x = .slice (some ⟨b, 0, none⟩) 1 1) (hc : c.toList = csI y) (hb : b = w.heap.size) (hown : OwnsI w base v d)
    (hsz : d.length ≤ 14073748835531) (hbase : base ≤ w.heap.size)
    (h : ∀ v' w', OwnsI w' base v' (d ++ [y]) → w.grownBy w' v.ownBlock → (∀ g, v'.ownBlock = some g → v.ownBlock = some g ∨ w.heap.size < g) → wpList Try.prog ops Q rest (a.put o.dst v') w') : wpList Try.prog ops Q (o :: rest) a (w.alloc (.cells c t)) := by
  subst hb
  obtain ⟨i0, hi, hz0, hz1, hz2⟩ := info_parts infoI
  refine wpList_append_own_at _ hgd s x 29 ho base 32 i0 (.agg S.zero.cs) 10 10 Try.underlying29 hi hz0 hz1 hz2 rfl (by decide) v d.length (Fl csI d) hv (hown.alloc _) ⟨w.heap.size, 0, none⟩ 1 1 (Fl csI [y]) hx (by rw [Fl_len csI_len]; rfl) (at_new w t c [y] (by rw [Fl_one]; exact hc) _ rfl) (Fl_oneCell csI_one [y]) (by unfold maxLen; omega) (by omega) (by simp; omega) ?_
  intro v' w' k1 k2 k3 k4
  refine h v' w' ?_ (World.grownBy.trans (World.grownBy_alloc w _ _) k2) (fun g hg => ?_)
  · unfold OwnsI OwnsG
    rw [List.length_append, Fl_app]
    exact k1
  · rcases k4 with e | e
    · exact .inl (e ▸ hg)
    · rw [e] at hg
      injection hg with hg
      have : (w.alloc (.cells c t)).heap.size = w.heap.size + 1 := Array.size_push ..
      exact .inr (by omega)
/-- The same, as one step of a region that draws its order. -/
theorem step_appI1 {w : World} {ops : Array Oper} {o : Oper} {a : Act} {K : Act → World → Prop} {Q : Exit → Act → World → Prop} {E : Prop} (hgd : o.guard = none) (s x : Operand)
    (ho : o.op = .call { callee := .builtin .append, args := #[s, x], argTypes := #[29, 29] })
    (base : Nat) (v : Value) (d : List S.Inp) (hv : a.eval s = v) (y : S.Inp) (c : Array Value) (t : TypeId) (b : Nat) (hx : a.eval x = .slice (some ⟨b, 0, none⟩) 1 1) (hc : c.toList = csI y) (hb : b = w.heap.size) (hown : OwnsI w base v d)
    (hsz : d.length ≤ 14073748835531) (hbase : base ≤ w.heap.size)
    (h : ∀ v' w', OwnsI w' base v' (d ++ [y]) → w.grownBy w' v.ownBlock → K (a.put o.dst v') w') : if Region.wanted o (yielded ops a.tmps) = true then Oper.wp Try.prog o a (w.alloc (.cells c t)) K Q else E := by
  have hw : Region.wanted o (yielded ops a.tmps) = true := by simp [Region.wanted, hgd]
  rw [if_pos hw]
  subst hb
  obtain ⟨i0, hi, hz0, hz1, hz2⟩ := info_parts infoI
  refine wp_append_own _ s x 29 ho base 32 i0 (.agg S.zero.cs) 10 10 Try.underlying29 hi hz0 hz1 hz2 rfl (by decide) v d.length (Fl csI d) hv (hown.alloc _) ⟨w.heap.size, 0, none⟩ 1 1 (Fl csI [y]) hx (by rw [Fl_len csI_len]; rfl) (at_new w t c [y] (by rw [Fl_one]; exact hc) _ rfl) (Fl_oneCell csI_one [y]) (by unfold maxLen; omega) (by omega) (by simp; omega) ?_
  intro v' w' k1 k2 k3
  refine h v' w' ?_ (World.grownBy.trans (World.grownBy_alloc w _ _) k2)
  unfold OwnsI OwnsG
  rw [List.length_append, Fl_app]
  exact k1
/-- One input of a slice, loaded whole. -/
theorem AtI.load {w : World} {b o : Nat} {d : List S.Inp} (h : AtG csI w b o d) {j : Nat} {x : S.Inp} (hj : d[j]? = some x) (p : Nat) (hp : p = o + j * 10) : (wholeVar 32 ⟨b, p, none⟩).run Try.prog w = .ok (.agg x.cs) w := by
  subst hp
  exact whole_cells Try.underlying32 rfl sizeI w b _ x.cs rfl fun k u hu => h.el csI_len hj (by simpa [csI] using hu)
theorem AtI.loadM {w : World} {b o : Nat} {d : List S.Inp} (h : AtG csI w b o d) (hb : b < w.heap.size) {j : Nat} {x : S.Inp} (hj : d[j]? = some x) (p : Nat) (hp : p = o + j * 10) : ∀ n os, (wholeVar 32 ⟨b, p, none⟩).run Try.prog (More w n os) = .ok (.agg x.cs) (More w n os) := fun n os =>
  AtI.load (h.keep fun i => (Adds.more (Adds.refl w) n os).cell hb) hj p hp
theorem OwnsI.store {w : World} {base g n cap : Nat} {d : List S.Inp} (h : OwnsI w base (.slice (some ⟨g, 0, none⟩) n cap) d) (i : Nat) (hn : i < n) (x : S.Inp) :
    ∃ w', (wholeSet 32 ⟨g, i * 10, none⟩ (.agg x.cs)).run Try.prog w = .ok () w' ∧ OwnsI w' base (.slice (some ⟨g, 0, none⟩) n cap) (d.set i x) ∧ w.grownBy w' (some g) :=
  OwnsG.store csI_len csI_one sizeI (by decide) h i hn x x.cs rfl
theorem OwnsI.made (w : World) (n : Nat) (hn : n ≤ 1000000000) : OwnsI (w.alloc (.cells (madeCells S.zero.cs (n * 10)) 32)) w.heap.size (.slice (some ⟨w.heap.size, 0, none⟩) n n) (List.replicate n S.zero) := by
  have e := made_cells (cs := csI) (sz := 10) S.zero.cs rfl (by decide) S.zero rfl n
  exact ⟨by rw [Fl_len csI_len], .inr ⟨w.heap.size, n, _, by simp, Nat.le_refl _, heap_alloc_new w _, by simp, by unfold maxLen; omega, by rw [size_madeCells], by rw [← e, List.take_of_length_le (by simp [madeCells])]⟩⟩
/-- make of so many inputs. -/
theorem wpList_makeI {w : World} {ops : Array Oper} {rest : List Oper} {o : Oper} {a : Act} {Q : Exit → Act → World → Prop} (hgd : o.guard = none) (l c : Operand) (ho : o.op = Op.makeSlice 29 l c)
    (kl kc : IntKind) (L C : Int) (n : Nat) (hl : a.eval l = .int kl L) (hc : a.eval c = .int kc C) (hL : L = (n : Int)) (hC : C = (n : Int)) (hn : n ≤ 1000000000) (b : Nat) (hb : b = w.heap.size)
    (h : ∀ w', OwnsI w' b (.slice (some ⟨b, 0, none⟩) n n) (List.replicate n S.zero) → w.grownBy w' none → wpList Try.prog ops Q rest (a.put o.dst (.slice (some ⟨b, 0, none⟩) n n)) w') : wpList Try.prog ops Q (o :: rest) a w := by
  subst hb
  obtain ⟨i0, hi, hz0, hz1, hz2⟩ := info_parts infoI
  refine wpList_make_full w hgd l c 29 ho w.heap.size 32 i0 (.agg S.zero.cs) 10 Try.underlying29 hi hz0 hz1 kl kc L C n hl hc hL hC (by rw [hz2]; omega) (by unfold maxLen; omega) (Nat.le_refl _) ?_
  intro w' h1 h2
  refine h w' ?_ h2
  have e := made_cells (cs := csI) (sz := 10) S.zero.cs rfl (by decide) S.zero rfl n
  unfold OwnsI OwnsG
  rw [List.length_replicate, ← e]
  exact h1
/-- An argument that is a slice of inputs: the list that it holds. -/
theorem heldI_of (w : World) (x : Addr) (len : Nat) (h61 : len ≤ 4611686018427387904) (hc : ∀ i, i < len → ∃ r : S.Inp, r.ok ∧ ∀ k u, (csI r)[k]? = some u → w.cell? (x.add (i * 10 + k)) = some u) : ∃ l, HeldI w (some x) len l ∧ ∀ r ∈ l, r.ok := by
  rcases Nat.eq_zero_or_pos len with rfl | hp
  · exact ⟨[], HeldG.nil _ _, fun r hr => by cases hr⟩
  obtain ⟨f, hf⟩ : ∃ f : Nat → S.Inp, ∀ i, i < len → (f i).ok ∧ ∀ k u, (csI (f i))[k]? = some u → w.cell? (x.add (i * 10 + k)) = some u := by
    refine ⟨fun i => if h : i < len then (hc i h).choose else default, fun i hi => ?_⟩
    simp only [hi, dif_pos]
    exact (hc i hi).choose_spec
  have h0 := (hf 0 hp).2 0 _ rfl
  rw [show x.add (0 * 10 + 0) = x by simp [Addr.add]] at h0
  obtain ⟨b, o, sp⟩ := x
  obtain rfl : sp = none := cell_spot h0
  refine ⟨(List.range len).map f, ⟨by simp, h61, fun _ => ⟨b, o, rfl, cell_lt h0, fun j u hu => ?_⟩⟩, fun r hr => ?_⟩
  · have hlen : (Fl csI ((List.range len).map f)).length = len * 10 := by rw [Fl_len csI_len]; simp
    have hj : j < len * 10 := by have := (List.getElem?_eq_some_iff.1 hu).1; omega
    have hq : ((List.range len).map f)[j / 10]? = some (f (j / 10)) := by rw [List.getElem?_map, List.getElem?_range (by omega)]; rfl
    obtain ⟨v, hv⟩ : ∃ v, (csI (f (j / 10)))[j % 10]? = some v := ⟨_, List.getElem?_eq_getElem (by rw [csI_len]; omega)⟩
    have k1 := Fl_get csI_len _ _ _ hq _ _ hv
    rw [show j / 10 * 10 + j % 10 = j by omega, hu] at k1
    obtain rfl := Option.some.inj k1
    have k2 := (hf (j / 10) (by omega)).2 _ _ hv
    rw [add_plain, show j / 10 * 10 + j % 10 = j by omega] at k2
    exact k2
  · simp only [List.mem_map, List.mem_range] at hr
    obtain ⟨i, hi, rfl⟩ := hr
    exact (hf i hi).1
theorem open_inputs {H : Type} {enc : TypeId × Value → H} {w : World} {base : Nat} {spare : Nat → Bool} {held : Bool} {fuel : Nat} {cs : List Value} {x : DataW H × List MemPlace}
    (h : DataW.trod enc Try.prog w base spare held fuel 29 cs = some x) : ∃ a len cap, cs = [.slice a len cap] ∧ (len ≤ cap ∧ cap ≤ 9223372036854775807) ∧ (len ≤ 4611686018427387904 → ∃ l, HeldI w a len l ∧ ∀ r ∈ l, r.ok) := by
  have hC : Try.prog.cellsOf 32 = 10 := by kernel_rfl
  rcases open_slice Try.underlying29 h with ⟨hcs, _⟩ | ⟨a, len, cap, m, n, D, Pl, hcs, hb, hl, hm, hmm, hx, hi⟩
  · exact ⟨none, 0, 0, hcs, ⟨by omega, by omega⟩, fun _ => ⟨[], HeldG.nil _ _, fun r hr => by cases hr⟩⟩
  · refine ⟨some a, len, cap, hcs, ⟨hl, by simpa [maxLen] using hm⟩, fun h61 => heldI_of w a len h61 (fun i hi' => ?_)⟩
    obtain ⟨cs', hc, ht'⟩ := hi i (by rw [hmm]; split <;> omega)
    rw [hC] at hc
    have hf := flat_fits 9 32 [.bool, .bool, .bool, .bool, .bool, .bool, .bool, .bool, .int .u8, .int .u8] _ _ _ (by kernel_rfl) ht'
    obtain ⟨z0, l0, rfl, hf0⟩ := fits_bool hf
    obtain ⟨z1, l1, rfl, hf1⟩ := fits_bool hf0
    obtain ⟨z2, l2, rfl, hf2⟩ := fits_bool hf1
    obtain ⟨z3, l3, rfl, hf3⟩ := fits_bool hf2
    obtain ⟨z4, l4, rfl, hf4⟩ := fits_bool hf3
    obtain ⟨z5, l5, rfl, hf5⟩ := fits_bool hf4
    obtain ⟨z6, l6, rfl, hf6⟩ := fits_bool hf5
    obtain ⟨z7, l7, rfl, hf7⟩ := fits_bool hf6
    obtain ⟨z8, l8, rfl, q8, hf8⟩ := fits_int hf7
    obtain ⟨z9, l9, rfl, q9, hf9⟩ := fits_int hf8
    obtain rfl := fits_nil hf9
    obtain ⟨_, hcl, hat⟩ := World.cells?_some hc
    have b8 := bounds_u8 q8
    have b9 := bounds_u8 q9
    refine ⟨⟨z0, z1, z2, z3, z4, z5, z6, z7, z8, z9⟩, ⟨⟨b8.1, Int.lt_add_one_of_le b8.2⟩, ⟨b9.1, Int.lt_add_one_of_le b9.2⟩⟩, fun k u hu => ?_⟩
    have hk : k < 10 := by have := (List.getElem?_eq_some_iff.1 hu).1; rwa [csI_len] at this
    have g := hat k (by omega)
    rw [addr_add_add] at g
    rw [g]
    simpa [csI, S.Inp.cs] using hu
end Go.Proofs.Ytjjcahdieldmcaa
