/- The contracts of stage 12 in the form that the laws take: every list as a slice that holds it. Conditions: a list's numbers are at most 100; Put's list has fewer than 20 cells. -/
import Derived.Test.YtfddefoambakiaaC12r
import Derived.Laws.AppendOwnNone
namespace Go.Proofs.Ytfddefoambakiaa
open Go.ChangeShapes Go.WideShapes Go.ChangeAt Go.RowKit
set_option linter.unusedVariables false
theorem numbox_of {w : World} {a : Option Addr} {len cap : Nat} {zs : List Int} (h : IsRow .i64 w a len cap zs) (hl : len ≤ 100) : NumBox (w.alloc (.cells #[.slice a len cap, .int .i64 0] 61)) w.heap.size a len cap 0 := by
  have hc : ∀ i, i < len → ∃ bx ox z, a = some ⟨bx, ox, none⟩ ∧ bx < w.heap.size ∧ w.cell? ⟨bx, ox + i, none⟩ = some (.int .i64 z) := by
    intro i hi
    rcases h with ⟨_, h0, _, _⟩ | ⟨x, rfl, h2, h3, h4, h5, h6⟩
    · omega
    · have hx := h5 i (by omega)
      obtain ⟨bx, ox, sp⟩ := x
      have hx0 := h5 0 (by omega)
      rw [show (⟨bx, ox, sp⟩ : Addr).add 0 = ⟨bx, ox, sp⟩ by simp [Addr.add]] at hx0
      obtain rfl : sp = none := cell_spot hx0
      rw [add_plain] at hx
      exact ⟨bx, ox, _, rfl, cell_lt hx, hx⟩
  have hlc : len ≤ cap := by
    rcases h with ⟨_, h0, _, _⟩ | ⟨x, rfl, h2, _⟩
    · omega
    · exact h2
  refine ⟨by simp, by simp [go_sem], by simp [go_sem], by simp [go_sem], hlc, by omega, fun i hi => ?_⟩
  obtain ⟨bx, ox, z, h1, h2, h3⟩ := hc i hi
  exact ⟨bx, ox, z, h1, h2, by rw [World.cell?_alloc_lt w _ _ h2]; exact h3⟩
theorem box_adds {w w1 : World} {o : Obj} (h : (w.alloc o).grownBy w1 (some w.heap.size)) : Adds w w1 :=
  Adds.of_below ⟨h.os, h.tape, h.output, by have := h.size; simp at this; omega, fun k hk => by
    rw [h.block k (by simp; omega) (by simp; omega)]; exact heap_alloc_old w o hk⟩
/-- Some cells: at most n. -/
theorem made_any (a : Option Addr) (len cap : Nat) (zs : List Int) (w : World) (h : IsRow .i64 w a len cap zs) (hl : len ≤ 100) :
    Calls Try.prog 11 #[.pointer (some ⟨w.heap.size, 0, none⟩), .int .i64 12] (w.alloc (.cells #[.slice a len cap, .int .i64 0] 61)) fun e w' => ∃ ad n c d, e = .returned (.slice ad n c) ∧ Hid (Held w' ad n d) ∧ Hid (n ≤ 12) ∧ n ≤ c ∧ Hid (ad = none → n = 0 ∧ c = 0) ∧ Adds w w' := by
  refine (cells_ex w.heap.size len cap a 12 (by omega) _ (numbox_of h hl)).mono ?_
  rintro e w' ⟨r, d, rfl, hO, hd, hG⟩
  obtain ⟨ad, n, c, rfl, hn, h1, h2, h3⟩ := hO.form2
  have hn' := hn.out
  have hz : ad = none → n = 0 ∧ c = 0 := fun e => by
    rcases Nat.eq_zero_or_pos c with q | q
    · omega
    · obtain ⟨g, hg, _⟩ := h3 q
      rw [e] at hg; cases hg
  exact ⟨ad, n, c, d, rfl, hO.held (by omega), show n ≤ 12 by omega, h1, hz, box_adds hG⟩
/-- Put of a list of fewer than 20 cells. -/
theorem put_held (a : Option Addr) (len cap : Nat) (l : List Cl) (x v : Int) (w : World) (h : Held w a len l) (hlen : len < 20) :
    Calls Try.prog 16 #[.slice a len cap, .int .u16 x, .int .u8 v] w fun e w' => ∃ ad n c, e = .returned (.slice ad n c) ∧ Hid (Held w' ad n (Sm.put (Sm.nrm l) (x, v))) ∧ Hid (n ≤ len + 1) ∧ n ≤ c ∧ Adds w w' := by
  refine (put_of 20 normAt_few (by omega) a len cap l x v w h hlen).mono ?_
  rintro e w' ⟨r, rfl, hO, hA⟩
  have h1 := Sm.put_len (Sm.nrm l) (x, v)
  have h2 := Sm.nrm_len l
  have h3 := h.1
  obtain ⟨ad, n, c, rfl, hn, h4, h5, _⟩ := hO.form2
  have hn' := hn.out
  exact ⟨ad, n, c, rfl, hO.held (by omega), show n ≤ len + 1 by omega, h4, hA⟩
theorem rnrm_held (a : Option Addr) (len cap : Nat) (l : List Cl) (w : World) (h : Held w a len l) (hlen : len ≤ 16777216) :
    Calls Try.prog 15 #[.slice a len cap] w fun e w' => ∃ ad n c, e = .returned (.slice ad n c) ∧ Hid (Held w' ad n (Sm.nrm l)) ∧ Hid (n ≤ len) ∧ n ≤ c ∧ Adds w w' := by
  refine (rnrm_any a len cap l w h hlen).mono ?_
  rintro e w' ⟨r, rfl, hO, hA⟩
  have h2 := Sm.nrm_len l
  have h3 := h.1
  obtain ⟨ad, n, c, rfl, hn, h4, h5, _⟩ := hO.form2
  have hn' := hn.out
  exact ⟨ad, n, c, rfl, hO.held (by omega), show n ≤ len by omega, h4, hA⟩
theorem Sm.nrm_put (l : List Cl) (c : Cl) : Sm.nrm (Sm.put (Sm.nrm l) c) = Sm.put (Sm.nrm l) c := Sm.nrm_valid (Sm.valid_put (Sm.V_nrm l) c)
theorem Sm.exch_ne (l : List Cl) (a b x y : Int) (h : a ≠ b) : Sm.same (Sm.put (Sm.nrm (Sm.put (Sm.nrm l) (a, x))) (b, y)) (Sm.put (Sm.nrm (Sm.put (Sm.nrm l) (b, y))) (a, x)) = true := by
  rw [Sm.nrm_put, Sm.nrm_put, Sm.put_put_ne (Sm.V_nrm l) (a, x) (b, y) h]
  exact Sm.same_refl _
theorem Sm.exch_eq (l : List Cl) (a x y : Int) : Sm.same (Sm.put (Sm.nrm (Sm.put (Sm.nrm l) (a, x))) (a, y)) (Sm.put (Sm.nrm l) (a, y)) = true := by
  rw [Sm.nrm_put, Sm.put_put_eq (Sm.V_nrm l) (a, x) (a, y) rfl]
  exact Sm.same_refl _
theorem getput_ne (a : Option Addr) (n c : Nat) (d : List Cl) (b v x : Int) (w : World) (h : Held w a n (Sm.put (Sm.nrm d) (b, v))) (hx : ¬ x = b) : Calls Try.prog 20 #[.slice a n c, .int .u16 x] w fun e w' => e = .returned (.int .u8 (Sm.get d x)) ∧ Adds w w' := by
  have := get_any a n c _ x w h
  rwa [Sm.get_put (Sm.V_nrm d), if_neg (fun e => hx e.symm), Sm.get_nrm] at this
theorem getput_eq (a : Option Addr) (n c : Nat) (d : List Cl) (b v : Int) (w : World) (h : Held w a n (Sm.put (Sm.nrm d) (b, v))) : Calls Try.prog 20 #[.slice a n c, .int .u16 b] w fun e w' => e = .returned (.int .u8 v) ∧ Adds w w' := by
  have := get_any a n c _ b w h
  rwa [Sm.get_put (Sm.V_nrm d), if_pos rfl] at this
theorem valput (a : Option Addr) (n c : Nat) (d : List Cl) (b v : Int) (w : World) (h : Held w a n (Sm.put (Sm.nrm d) (b, v))) : Calls Try.prog 18 #[.slice a n c] w fun e w' => e = .returned (.bool true) ∧ Adds w w' := by
  have := valid_any a n c _ w h
  rwa [Sm.valid_put (Sm.V_nrm d)] at this
/-- A literal of two cells. -/
theorem Owns.lit2 (w : World) (x u y v : Int) : Owns (w.alloc (.cells #[.int .u16 x, .int .u8 u, .int .u16 y, .int .u8 v] 59)) w.heap.size (.slice (some ⟨w.heap.size, 0, none⟩) 2 2) [(x, u), (y, v)] :=
  ⟨rfl, .inr ⟨w.heap.size, 2, _, rfl, Nat.le_refl _, heap_alloc_new w _, by simp, by unfold maxLen; omega, rfl, rfl⟩⟩
/-- append of a list that a slice holds. -/
theorem wpList_appB {w : World} {ops : Array Oper} {rest : List Oper} {o : Oper} {a : Act} {Q : Exit → Act → World → Prop} (hgd : o.guard = none) (s x : Operand)
    (ho : o.op = .call { callee := .builtin .append, args := #[s, x], argTypes := #[22, 22] })
    (base : Nat) (v : Value) (d : List Cl) (hs : a.eval s = v) (hown : Owns w base v d) (ad : Option Addr) (m c : Nat) (e : List Cl) (hx : a.eval x = .slice ad m c) (hh : Held w ad m e) (hnone : ad = none → m = 0 ∧ c = 0)
    (hsz : d.length + m ≤ 33554432) (hbase : base ≤ w.heap.size)
    (h : ∀ v' w', Owns w' base v' (d ++ e) → w.grownBy w' v.ownBlock → wpList Try.prog ops Q rest (a.put o.dst v') w') : wpList Try.prog ops Q (o :: rest) a w := by
  cases ad with
  | none =>
    obtain ⟨rfl, rfl⟩ := hnone rfl
    have he : e = [] := List.eq_nil_of_length_eq_zero hh.1
    subst he
    obtain ⟨i0, hi, hz0, hz1, hz2⟩ := info_parts cellInfo
    refine wpList_append_own_none hgd s x 22 ho base 59 i0 2 Try.underlying22 hi v d.length (Sm.cv d) hs hown hx ?_
    exact h v w (by rw [List.append_nil]; exact hown) (World.grownBy.refl w _)
  | some ad => exact wpList_appA hgd s x ho base v d hs hown ad m c e hx hh.1 hh.news hsz hbase fun v' w' h1 h2 _ => h v' w' h1 h2
end Go.Proofs.Ytfddefoambakiaa
