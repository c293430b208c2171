/- Contracts of the numbers that make inputs: Place, From, Next, Chip. Conditions: a list's cells lie below the box of its numbers; n is from 1 to 65536. -/
import Derived.Test.YtnjnodcakiekmaaC1
import Derived.Test.YtnjnodcakiekmaaM1
import Derived.Deep.Cut
namespace Go.Proofs.Ytnjnodcakiekmaa
open Go.ChangeShapes Go.WideShapes Go.ChangeAt Go.RowKit
set_option linter.unusedVariables false
/-- The place of a number among n. -/
def S.plc (z n : Int) : Int := z % 18446744073709551616 % n
theorem S.plc_bd (z n : Int) (n0 : 1 ≤ n) : 0 ≤ S.plc z n ∧ S.plc z n < n := by
  unfold S.plc
  exact ⟨Int.emod_nonneg _ (by omega), Int.emod_lt_of_pos _ (by omega)⟩
theorem S.plc_eq (z n : Int) (n0 : 1 ≤ n) (n1 : n ≤ 9223372036854775807) : wrap64 ((IntKind.u64.wrap z).tmod n) = S.plc z n := by
  have h0 : IntKind.u64.wrap z = z % 18446744073709551616 := by simp [IntKind.wrap, IntKind.bits, IntKind.signed]
  obtain ⟨b0, b1⟩ := S.plc_bd z n n0
  rw [h0, Int.tmod_eq_emod_of_nonneg (by omega)]
  exact IntWalk.wrap64_in _ ⟨by unfold S.plc at b0; omega, by unfold S.plc at b1; omega⟩
theorem mplace_any (z n : Int) (n0 : 1 ≤ n) (n1 : n ≤ 9223372036854775807) (w : World) : Calls Try.prog 11 #[.int .i64 z, .int .i64 n] w fun e w' => e = .returned (.int .i64 (S.plc z n)) ∧ w = w' := by
  go_enter Try.func11, Try.ntmps11
  go_wp2
  go_ret
  exact ⟨ri (S.plc_eq z n n0 n1), rfl⟩
/-- A slice of integers, cell by cell. -/
def IsRow (k : IntKind) (w : World) (a : Option Addr) (len cap : Nat) (zs : List Int) : Prop :=
  (a = none ∧ len = 0 ∧ cap = 0 ∧ zs = []) ∨
  ∃ x, a = some x ∧ len ≤ cap ∧ cap ≤ maxLen ∧ zs.length = cap ∧ (∀ i, i < zs.length → w.cell? (x.add i) = some (.int k (zs.getD i 0))) ∧ ∀ n ∈ zs, (Lit.int k n).wf = true
theorem cell_lt {w : World} {x : Addr} {v : Value} (h : w.cell? x = some v) : x.block < w.heap.size := by
  unfold World.cell? at h
  rcases Nat.lt_or_ge x.block w.heap.size with h' | h'
  · exact h'
  · simp [Array.getElem?_eq_none h'] at h
theorem cell_spot {w : World} {x : Addr} {v : Value} (h : w.cell? x = some v) : x.spot = none := by
  unfold World.cell? at h
  split at h
  · split at h
    · cases h
    · rename_i hs; simpa using hs
  · cases h
theorem IsRow.alloc {k : IntKind} {w : World} {a : Option Addr} {len cap : Nat} {zs : List Int} (h : IsRow k w a len cap zs) (o : Obj) : IsRow k (w.alloc o) a len cap zs := by
  rcases h with h | ⟨x, h1, h2, h3, h4, h5, h6⟩
  · exact .inl h
  · exact .inr ⟨x, h1, h2, h3, h4, fun i hi => by rw [World.cell?_alloc_lt w o _ (cell_lt (h5 i hi))]; exact h5 i hi, h6⟩
theorem IsRow.drew {k : IntKind} {w : World} {a : Option Addr} {len cap : Nat} {zs : List Int} (h : IsRow k w a len cap zs) : IsRow k w.drew a len cap zs := h
theorem IsRow.lt {k : IntKind} {w : World} {a : Option Addr} {len cap : Nat} {zs : List Int} (h : IsRow k w a len cap zs) (hl : 0 < len) : ∃ x, a = some x ∧ x.block < w.heap.size := by
  rcases h with ⟨_, h, _, _⟩ | ⟨x, rfl, h2, h3, h4, h5, h6⟩
  · omega
  · exact ⟨x, rfl, cell_lt (h5 0 (by omega))⟩
end Go.Proofs.Ytnjnodcakiekmaa
