/- An argument that is a slice of cells: the list that it holds. No condition. -/
import Derived.Test.YtfddefoambakiaaC12s
import Derived.Deep.Slices
import Derived.ChangeSame
namespace Go.Proofs.Ytfddefoambakiaa
open Go.ChangeShapes Go.WideShapes Go.ChangeAt Go.RowKit Go.Deep
set_option linter.unusedVariables false
theorem add_add_l (x : Addr) (i j : Nat) : (x.add i).add j = x.add (i + j) := by
  unfold Addr.add
  by_cases hi : i = 0 <;> by_cases hj : j = 0 <;> simp [hi, hj, Nat.add_assoc]
theorem held_of (w : World) (x : Addr) (len : Nat) (h62 : len ≤ 4611686018427387904) (hc : ∀ i, i < len → ∃ y v, w.cell? (x.add (i * 2)) = some (.int .u16 y) ∧ w.cell? (x.add (i * 2 + 1)) = some (.int .u8 v)) : ∃ l, Held w (some x) len l := by
  rcases Nat.eq_zero_or_pos len with rfl | hp
  · exact ⟨[], Held.nil _ _⟩
  obtain ⟨y0, v0, hy0, _⟩ := hc 0 hp
  rw [show x.add (0 * 2) = x by simp [Addr.add]] at hy0
  obtain ⟨b, o, sp⟩ := x
  obtain rfl : sp = none := cell_spot hy0
  refine ⟨(List.range len).map fun i => (intOf ((w.cell? ⟨b, o + i * 2, none⟩).getD (.int .u16 0)), intOf ((w.cell? ⟨b, o + (i * 2 + 1), none⟩).getD (.int .u16 0))), by simp, h62, fun _ => ⟨b, o, rfl, cell_lt hy0, ?_⟩⟩
  intro j y v hj
  have hjl : j < len := by
    have := (List.getElem?_eq_some_iff.1 hj).1
    simpa using this
  obtain ⟨y', v', h1, h2⟩ := hc j hjl
  rw [add_plain] at h1 h2
  rw [List.getElem?_map, List.getElem?_range hjl] at hj
  simp only [Option.map_some, h1, h2, Option.getD_some, intOf, Option.some.injEq, Prod.mk.injEq] at hj
  obtain ⟨rfl, rfl⟩ := hj
  exact ⟨h1, by rw [Nat.add_assoc]; exact h2⟩
theorem open_cells {H : Type} {enc : TypeId × Value → H} {w : World} {base : Nat} {spare : Nat → Bool} {held : Bool} {fuel : Nat} {cs : List Value} {x : DataW H × List MemPlace}
    (h : DataW.trod enc Try.prog w base spare held fuel 22 cs = some x) : ∃ a len cap, cs = [.slice a len cap] ∧ (len ≤ 4611686018427387904 → ∃ l, Held w a len l) := by
  have hC : Try.prog.cellsOf 59 = 2 := by kernel_rfl
  have hu16 : Try.prog.cellsOf 24 = 1 := by kernel_rfl
  have hu8 : Try.prog.cellsOf 5 = 1 := by kernel_rfl
  rcases open_slice Try.underlying22 h with ⟨hcs, _⟩ | ⟨a, len, cap, m, n, D, Pl, hcs, hb, hl, hm, hmm, hx, hi⟩
  · exact ⟨none, 0, 0, hcs, fun _ => ⟨[], Held.nil _ _⟩⟩
  · refine ⟨some a, len, cap, hcs, fun h62 => held_of w a len h62 (fun i hi' => by
      obtain ⟨cs', hc, ht'⟩ := hi i (by rw [hmm]; split <;> omega)
      rw [hC] at hc
      obtain ⟨y0, y1, n', _, _, h0, h1⟩ := trod_struct2 Try.underlying59 ht'
      obtain ⟨_, hcl, hat⟩ := World.cells?_some hc
      match cs', hcl with
      | [c0, c1], _ =>
        simp only [hu16] at h0
        simp only [hu8] at h1
        obtain ⟨z0, e0, _⟩ := DataW.trod_int Try.underlying24 h0
        obtain ⟨z1, e1, _⟩ := DataW.trod_int Try.underlying5 h1
        simp at e0 e1
        subst e0 e1
        have g0 := hat 0 (by omega)
        have g1 := hat 1 (by omega)
        rw [add_add_l] at g0 g1
        exact ⟨z0, z1, by simpa using g0, by simpa using g1⟩)⟩
end Go.Proofs.Ytfddefoambakiaa
