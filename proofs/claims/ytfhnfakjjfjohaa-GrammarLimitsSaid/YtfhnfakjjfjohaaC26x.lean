/- Small words for the laws of chapter 26: a slice of integers where the world has only grown; arrays indexed at a literal. No condition. -/
import Derived.Test.YtfhnfakjjfjohaaCM
import Derived.Test.YtfhnfakjjfjohaaMT
import Derived.Test.YtfhnfakjjfjohaaC26k
import Derived.Laws.AppendOwnNone
namespace Go.Proofs.Ytfhnfakjjfjohaa
open Go.ChangeShapes Go.WideShapes Go.ChangeAt Go.RowKit
set_option linter.unusedVariables false
theorem IsRow.adds {k : IntKind} {w w' : World} {a : Option Addr} {len cap : Nat} {zs : List Int} (h : IsRow k w a len cap zs) (hA : Adds w w') : IsRow k w' a len cap zs := by
  rcases h with h | ⟨x, h1, h2, h3, h4, h5, h6⟩
  · exact .inl h
  · refine .inr ⟨x, h1, h2, h3, h4, fun i hi => ?_, h6⟩
    have hc := h5 i hi
    have hlt := cell_lt hc
    have hs := cell_spot hc
    obtain ⟨b, o, s⟩ := x
    have e := hA.cell (b := ((⟨b, o, s⟩ : Addr).add i).block) (i := ((⟨b, o, s⟩ : Addr).add i).off) hlt
    rw [← hc]
    have : (⟨b, o, s⟩ : Addr).add i = ⟨((⟨b, o, s⟩ : Addr).add i).block, ((⟨b, o, s⟩ : Addr).add i).off, none⟩ := by rw [← hs]
    rw [this]
    exact e
theorem held_laid (W : World) (x : S.It) (b : Nat) (hb : b = W.heap.size) (c : Array Value) (hc : c.toList = csT x) (t : TypeId) : HeldT (W.alloc (.cells c t)) (some ⟨b, 0, none⟩) 1 [x] :=
  ⟨rfl, by omega, fun _ => ⟨b, 0, rfl, by subst hb; simp, AtG.laid W t c [x] (by rw [Fl_one]; exact hc) b hb⟩⟩
/-- append of a whole slice that is the call's own. -/
theorem wpList_appTs {w : World} {ops : Array Oper} {rest : List Oper} {o : Oper} {a : Act} {Q : Exit → Act → World → Prop} (hgd : o.guard = none) (s x : Operand)
    (ho : o.op = .call { callee := .builtin .append, args := #[s, x], argTypes := #[22, 22] })
    (base : Nat) (v : Value) (d : List S.It) (hv : a.eval s = v) (hown : OwnsT w base v d) (base' : Nat) (u : Value) (e : List S.It) (hx : a.eval x = u) (hu : OwnsT w base' u e)
    (hsz : d.length + e.length ≤ 2000000000000) (hbase : base ≤ w.heap.size)
    (h : ∀ v' w', OwnsT w' base v' (d ++ e) → w.grownBy w' v.ownBlock → wpList Try.prog ops Q rest (a.put o.dst v') w') : wpList Try.prog ops Q (o :: rest) a w := by
  obtain ⟨i0, hi, hz0, hz1, hz2⟩ := info_parts infoT
  rcases hu.2 with ⟨hn, h0⟩ | ⟨g, cap, cur, hn, hb, hh, h1, h2, h3, h4⟩
  · have he : e = [] := List.eq_nil_of_length_eq_zero h0
    refine wpList_append_own_none hgd s x 22 ho base 44 i0 9 Try.underlying22 hi v d.length (Fl csT d) hv hown (by rw [hx, hn]) ?_
    refine h v w (by rw [he, List.append_nil]; exact hown) ⟨rfl, rfl, rfl, Nat.le_refl _, fun _ _ _ => rfl⟩
  · have hat : AtG csT w g 0 e := by
      have hu' := hu
      rw [hn] at hu'
      exact OwnsG.at_ hu'
    exact wpList_appT hgd s x ho base v d hv hown ⟨g, 0, none⟩ e.length cap e (by rw [hx, hn]) rfl (fun j q hq => by rw [add_plain]; exact hat j q hq) hsz hbase h
/-- append of a whole slice that is the call's own. -/
theorem wpList_appQs {w : World} {ops : Array Oper} {rest : List Oper} {o : Oper} {a : Act} {Q : Exit → Act → World → Prop} (hgd : o.guard = none) (s x : Operand)
    (ho : o.op = .call { callee := .builtin .append, args := #[s, x], argTypes := #[30, 30] })
    (base : Nat) (v : Value) (d : List S.Pn) (hv : a.eval s = v) (hown : OwnsQ w base v d) (base' : Nat) (u : Value) (e : List S.Pn) (hx : a.eval x = u) (hu : OwnsQ w base' u e)
    (hsz : d.length + e.length ≤ 4000000000000) (hbase : base ≤ w.heap.size)
    (h : ∀ v' w', OwnsQ w' base v' (d ++ e) → w.grownBy w' v.ownBlock → wpList Try.prog ops Q rest (a.put o.dst v') w') : wpList Try.prog ops Q (o :: rest) a w := by
  obtain ⟨i0, hi, hz0, hz1, hz2⟩ := info_parts infoQ
  rcases hu.2 with ⟨hn, h0⟩ | ⟨g, cap, cur, hn, hb, hh, h1, h2, h3, h4⟩
  · have he : e = [] := List.eq_nil_of_length_eq_zero h0
    refine wpList_append_own_none hgd s x 30 ho base 46 i0 17 Try.underlying30 hi v d.length (Fl csQ d) hv hown (by rw [hx, hn]) ?_
    refine h v w (by rw [he, List.append_nil]; exact hown) ⟨rfl, rfl, rfl, Nat.le_refl _, fun _ _ _ => rfl⟩
  · have hat : AtG csQ w g 0 e := by
      have hu' := hu
      rw [hn] at hu'
      exact OwnsG.at_ hu'
    exact wpList_appQ hgd s x ho base v d hv hown ⟨g, 0, none⟩ e.length cap e (by rw [hx, hn]) rfl (fun j q hq => by rw [add_plain]; exact hat j q hq) hsz hbase h
@[go_sem] theorem idx3_0 (x y z : Int) (w : World) : (Instr.index 27 (.agg #[.int .i64 x, .int .i64 y, .int .i64 z]) (.int .i64 0)).run Try.prog w = .ok (.int .i64 x) w := by kernel_rfl
@[go_sem] theorem idx3_1 (x y z : Int) (w : World) : (Instr.index 27 (.agg #[.int .i64 x, .int .i64 y, .int .i64 z]) (.int .i64 1)).run Try.prog w = .ok (.int .i64 y) w := by kernel_rfl
@[go_sem] theorem idx3_2 (x y z : Int) (w : World) : (Instr.index 27 (.agg #[.int .i64 x, .int .i64 y, .int .i64 z]) (.int .i64 2)).run Try.prog w = .ok (.int .i64 z) w := by kernel_rfl
@[go_sem] theorem idx2T_0 (a b : Option Addr) (l c m d : Nat) (w : World) : (Instr.index 28 (.agg #[.slice a l c, .slice b m d]) (.int .i64 0)).run Try.prog w = .ok (.slice a l c) w := by kernel_rfl
@[go_sem] theorem idx2T_1 (a b : Option Addr) (l c m d : Nat) (w : World) : (Instr.index 28 (.agg #[.slice a l c, .slice b m d]) (.int .i64 1)).run Try.prog w = .ok (.slice b m d) w := by kernel_rfl
end Go.Proofs.Ytfhnfakjjfjohaa
