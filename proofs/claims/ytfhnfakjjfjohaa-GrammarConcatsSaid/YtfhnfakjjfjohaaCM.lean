/- Contracts of the numbers that make inputs: Place, From, Next, Chip. Conditions: a list's cells lie below the box of its numbers; n is from 1 to 65536. -/
import Derived.Test.YtfhnfakjjfjohaaC1
import Derived.Test.YtfhnfakjjfjohaaM1
import Derived.Deep.Cut
namespace Go.Proofs.Ytfhnfakjjfjohaa
open Go.ChangeShapes Go.WideShapes Go.ChangeAt Go.RowKit
set_option linter.unusedVariables false
/-- The place of a number among n. -/
def S.plc (z n : Int) : Int := z % 18446744073709551616 % n
theorem S.plc_bd (z n : Int) (n0 : 1 ≤ n) : 0 ≤ S.plc z n ∧ S.plc z n < n := by
  unfold S.plc
  exact ⟨Int.emod_nonneg _ (by omega), Int.emod_lt_of_pos _ (by omega)⟩
theorem S.plc_eq (z n : Int) (n0 : 1 ≤ n) (n1 : n ≤ 9223372036854775807) : wrap64 ((IntKind.u64.wrap z).tmod n) = S.plc z n := by
  have h0 : IntKind.u64.wrap z = z % 18446744073709551616 := by simp [IntKind.wrap, IntKind.bits, IntKind.signed]
  obtain ⟨b0, b1⟩ := S.plc_bd z n n0
  rw [h0, Int.tmod_eq_emod_of_nonneg (by omega)]
  exact IntWalk.wrap64_in _ ⟨by unfold S.plc at b0; omega, by unfold S.plc at b1; omega⟩
theorem mplace_any (z n : Int) (n0 : 1 ≤ n) (n1 : n ≤ 9223372036854775807) (w : World) : Calls Try.prog 13 #[.int .i64 z, .int .i64 n] w fun e w' => e = .returned (.int .i64 (S.plc z n)) ∧ w = w' := by
  go_enter Try.func13, Try.ntmps13
  go_wp2
  go_ret
  exact ⟨ri (S.plc_eq z n n0 n1), rfl⟩
theorem from_any (a : Option Addr) (len cap : Nat) (w : World) : Calls Try.prog 14 #[.slice a len cap] w fun e w' => e = .returned (.pointer (some ⟨w.heap.size, 0, none⟩)) ∧ w' = w.alloc (.cells #[.slice a len cap, .int .i64 0] 61) := by
  go_enter Try.func14, Try.ntmps14
  go_wp2
  go_ret
  exact ⟨rfl, rfl⟩
theorem next_none (b len cap N : Nat) (a : Option Addr) (n : Int) (hN : len ≤ N) (hM : N ≤ 1000000000) (w : World) (hB : b < w.heap.size) (h0 : w.cell? ⟨b, 0, none⟩ = some (.slice a len cap)) (h1 : w.cell? ⟨b, 1, none⟩ = some (.int .i64 (N : Int))) (hf : w.frozen? ⟨b, 1, none⟩ = false) :
    Calls Try.prog 15 #[.pointer (some ⟨b, 0, none⟩), .int .i64 n] w fun e w' => e = .returned (.int .i64 0) ∧ ∃ p : By, w' = More (w.setCell ⟨b, 1, none⟩ (.int .i64 ((N : Int) + 1))) p.n p.os := by
  go_enter Try.func15, Try.ntmps15
  go_wp2_with fail
  refine wp_region_adds (by kernel_rfl) (by kernel_rfl) ?_
  repeat (go_big_quiet_step (fail))
  refine wpQuiet_nil ?_
  intro _ hw1
  obtain ⟨⟨nq, osq⟩, hw2⟩ := hw1
  subst hw2
  go_wp2_with fail
  go_ret
  exact ⟨rfl, ⟨nq, osq⟩, rfl⟩
theorem next_some (b bx ox len cap N : Nat) (z n : Int) (n0 : 1 ≤ n) (n1 : n ≤ 65536) (hN : N < len) (hM : N ≤ 1000000000) (hL : len ≤ 9223372036854775807) (hlc : len ≤ cap) (w : World) (hB : b < w.heap.size) (hb : bx < b) (h0 : w.cell? ⟨b, 0, none⟩ = some (.slice (some ⟨bx, ox, none⟩) len cap)) (h1 : w.cell? ⟨b, 1, none⟩ = some (.int .i64 (N : Int))) (hf : w.frozen? ⟨b, 1, none⟩ = false) (hz : w.cell? ⟨bx, ox + N, none⟩ = some (.int .i64 z)) :
    Calls Try.prog 15 #[.pointer (some ⟨b, 0, none⟩), .int .i64 n] w fun e w' => e = .returned (.int .i64 (S.plc z n)) ∧ ∃ p : By, w' = More (w.setCell ⟨b, 1, none⟩ (.int .i64 ((N : Int) + 1))) p.n p.os := by
  have hs : IntKind.i64.wrap ((N : Int) + 1 - 1) = N := by rw [show (N : Int) + 1 - 1 = N by omega]; exact IntWalk.i64_in _ (by omega)
  have p0 : (0 : Int) ≤ N := by omega
  have p1 : (N : Int) < len := by omega
  have hne : bx ≠ b := by omega
  have hbx : bx < w.heap.size := by omega
  go_enter Try.func15, Try.ntmps15
  go_wp2_with fail
  refine wp_region_adds (by kernel_rfl) (by kernel_rfl) ?_
  repeat (go_big_quiet_step (fail))
  refine wpQuiet_nil ?_
  intro _ hw1
  obtain ⟨⟨nq, osq⟩, hw2⟩ := hw1
  subst hw2
  go_wp2_with fail
  refine wp_region_adds (by kernel_rfl) (by kernel_rfl) ?_
  repeat (go_big_quiet_step (first | (go_at_call 13; exact calls_same (mplace_any _ _ n0 (by omega) _))))
  refine wpQuiet_nil ?_
  intro _ hw1
  obtain ⟨⟨nq, osq⟩, hw2⟩ := hw1
  subst hw2
  go_wp2_with fail
  go_ret
  exact ⟨rfl, ⟨_, _⟩, More_more ..⟩
/-- A slice of integers, cell by cell. -/
def IsRow (k : IntKind) (w : World) (a : Option Addr) (len cap : Nat) (zs : List Int) : Prop :=
  (a = none ∧ len = 0 ∧ cap = 0 ∧ zs = []) ∨
  ∃ x, a = some x ∧ len ≤ cap ∧ cap ≤ maxLen ∧ zs.length = cap ∧ (∀ i, i < zs.length → w.cell? (x.add i) = some (.int k (zs.getD i 0))) ∧ ∀ n ∈ zs, (Lit.int k n).wf = true
theorem cell_lt {w : World} {x : Addr} {v : Value} (h : w.cell? x = some v) : x.block < w.heap.size := by
  unfold World.cell? at h
  rcases Nat.lt_or_ge x.block w.heap.size with h' | h'
  · exact h'
  · simp [Array.getElem?_eq_none h'] at h
theorem cell_spot {w : World} {x : Addr} {v : Value} (h : w.cell? x = some v) : x.spot = none := by
  unfold World.cell? at h
  split at h
  · split at h
    · cases h
    · rename_i hs; simpa using hs
  · cases h
theorem IsRow.alloc {k : IntKind} {w : World} {a : Option Addr} {len cap : Nat} {zs : List Int} (h : IsRow k w a len cap zs) (o : Obj) : IsRow k (w.alloc o) a len cap zs := by
  rcases h with h | ⟨x, h1, h2, h3, h4, h5, h6⟩
  · exact .inl h
  · exact .inr ⟨x, h1, h2, h3, h4, fun i hi => by rw [World.cell?_alloc_lt w o _ (cell_lt (h5 i hi))]; exact h5 i hi, h6⟩
theorem IsRow.drew {k : IntKind} {w : World} {a : Option Addr} {len cap : Nat} {zs : List Int} (h : IsRow k w a len cap zs) : IsRow k w.drew a len cap zs := h
theorem IsRow.lt {k : IntKind} {w : World} {a : Option Addr} {len cap : Nat} {zs : List Int} (h : IsRow k w a len cap zs) (hl : 0 < len) : ∃ x, a = some x ∧ x.block < w.heap.size := by
  rcases h with ⟨_, h, _, _⟩ | ⟨x, rfl, h2, h3, h4, h5, h6⟩
  · omega
  · exact ⟨x, rfl, cell_lt (h5 0 (by omega))⟩
end Go.Proofs.Ytfhnfakjjfjohaa
