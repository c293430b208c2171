/- A store of a whole region into a slice of the call's own; what the statement on validation takes. No condition. -/
import Derived.Test.YtfddefoambakiaaC13e
import Derived.Deep.CutRange
namespace Go.Proofs.Ytfddefoambakiaa
open Go.ChangeShapes Go.WideShapes Go.ChangeAt Go.RowKit
set_option linter.unusedVariables false
theorem OwnsR.len {w : World} {base g n cap : Nat} {d : List Rg} (h : OwnsR w base (.slice (some ⟨g, 0, none⟩) n cap) d) : n = d.length := by
  rcases h.2 with ⟨h', _⟩ | ⟨g', cap', cur, h', _⟩
  · simp at h'
  · simp only [Value.slice.injEq] at h'; exact h'.2.1
theorem OwnsR.frozen {w : World} {base g n cap : Nat} {d : List Rg} (h : OwnsR w base (.slice (some ⟨g, 0, none⟩) n cap) d) (j : Nat) : w.frozen? ⟨g, j, none⟩ = false := by
  have hn := h.len
  subst hn
  exact World.ownsRow.frozenAt h j
theorem OwnsR.store {w : World} {base g n cap : Nat} {d : List Rg} (h : OwnsR w base (.slice (some ⟨g, 0, none⟩) n cap) d) (i : Nat) (r : Rg) :
    OwnsR ((((w.setCell ⟨g, i * 4, none⟩ (.int .u16 r.fr)).setCell ⟨g, i * 4 + 1, none⟩ (.int .u16 r.tw)).setCell ⟨g, i * 4 + 2, none⟩ (.bool r.ram)).setCell ⟨g, i * 4 + 3, none⟩ (.int .i64 r.wt)) base (.slice (some ⟨g, 0, none⟩) n cap) (d.set i r) ∧
    w.grownBy ((((w.setCell ⟨g, i * 4, none⟩ (.int .u16 r.fr)).setCell ⟨g, i * 4 + 1, none⟩ (.int .u16 r.tw)).setCell ⟨g, i * 4 + 2, none⟩ (.bool r.ram)).setCell ⟨g, i * 4 + 3, none⟩ (.int .i64 r.wt)) (some g) := by
  have hn := h.len
  subst hn
  have h1 := World.ownsRow.stored h (i * 4) (.int .u16 r.fr)
  have h2 := World.ownsRow.stored h1.1 (i * 4 + 1) (.int .u16 r.tw)
  have h3 := World.ownsRow.stored h2.1 (i * 4 + 2) (.bool r.ram)
  have h4 := World.ownsRow.stored h3.1 (i * 4 + 3) (.int .i64 r.wt)
  rw [Sm.cr_set] at h4
  refine ⟨?_, ((h1.2.trans h2.2).trans h3.2).trans h4.2⟩
  unfold OwnsR
  rw [List.length_set]
  exact h4.1
theorem adds_none {w w' : World} (h : w.grownBy w' none) : Adds w w' := Adds.of_below ⟨h.os, h.tape, h.output, h.size, fun k hk => h.block k hk (by simp)⟩
end Go.Proofs.Ytfddefoambakiaa
