/- Whole structs read out of a block and written into one, in a single step of the walk: the block's row of cells as a function of the world ('rowOf'). No condition. -/
import Derived.Test.YtfhnfakjjfjohaaChecked
import Derived.Test.YtfhnfakjjfjohaaM1
import Derived.Laws.Rows
import Derived.Laws.Tables
import Derived.Laws.CopyRow
namespace Go.Proofs.Ytfhnfakjjfjohaa
open Go.ChangeShapes Go.WideShapes Go.ChangeAt Go.RowKit
set_option linter.unusedVariables false
/-- The cells of block b, none of them frozen. -/
def rowOf (w : World) (b : Nat) : Array Value := match w.heap[b]? with
  | some (.cells c _ (0, 0)) => c
  | _ => #[]
theorem rowOf_some {w : World} {b : Nat} (h : 0 < (rowOf w b).size) : ∃ t, w.heap[b]? = some (.cells (rowOf w b) t (0, 0)) := by
  unfold rowOf at h ⊢
  split at h
  · rename_i c t hh
    rw [hh]
    exact ⟨t, rfl⟩
  · simp at h
theorem rowOf_cell {w : World} {b : Nat} {cs : Array Value} (h : rowOf w b = cs) {i : Nat} {v : Value} (hv : cs[i]? = some v) : w.cell? ⟨b, i, none⟩ = some v := by
  subst h
  have hpos : 0 < (rowOf w b).size := by have := (Array.getElem?_eq_some_iff.1 hv).1; omega
  obtain ⟨t, ht⟩ := rowOf_some hpos
  rw [cell_of_row w b i _ t (0, 0) ht]; exact hv
theorem rowOf_eq {w w' : World} {b b' : Nat} (h : w.heap[b]? = w'.heap[b']?) : rowOf w b = rowOf w' b' := by unfold rowOf; rw [h]
theorem heap_last (w : World) (o : Obj) : (w.alloc o).heap[w.heap.size]? = some o := by
  show (w.heap.push o)[w.heap.size]? = some o
  simp
theorem heap_past (w : World) (o : Obj) {b : Nat} (h : b < w.heap.size) : (w.alloc o).heap[b]? = w.heap[b]? := by
  show (w.heap.push o)[b]? = w.heap[b]?
  rw [Array.getElem?_push, if_neg (by omega)]
@[go_sem] theorem rowOf_last (w : World) (b : Nat) (cs : Array Value) (t : TypeId) (h : b = w.heap.size) : rowOf (w.alloc (.cells cs t)) b = cs := by
  subst h; unfold rowOf; rw [heap_last]; rfl
@[go_sem] theorem rowOf_past (w : World) (b : Nat) (o : Obj) (h : InB b w) : rowOf (w.alloc o) b = rowOf w b := rowOf_eq (heap_past w o h)
@[go_sem] theorem rowOf_More (w : World) (n : Nat) (os : Array Obj) (b : Nat) (h : InB b w) : rowOf (More w n os) b = rowOf w b := rowOf_eq (More_heap w n os h)
@[go_sem] theorem rowOf_drew (w : World) (b : Nat) : rowOf w.drew b = rowOf w b := rowOf_eq rfl
@[go_sem] theorem rowOf_drewN (w : World) (n b : Nat) : rowOf (w.drewN n) b = rowOf w b := rowOf_eq rfl
@[go_sem] theorem setRow_last (w : World) (b : Nat) (cs old : Array Value) (t : TypeId) (h : b = w.heap.size) : (w.alloc (.cells old t)).setRow b cs = w.alloc (.cells cs t) := by
  subst h
  simp only [World.setRow, World.alloc]
  congr 1
  apply Array.ext_getElem?
  intro i
  rw [Array.getElem?_modify]
  by_cases h : w.heap.size = i
  · subst h; simp
  · have h' : ¬ i = w.heap.size := fun e => h e.symm
    simp [h, h', Array.getElem?_push]
@[go_sem] theorem setRow_past (w : World) (b : Nat) (cs : Array Value) (o : Obj) (h : InB b w) : (w.alloc o).setRow b cs = (w.setRow b cs).alloc o := by
  simp only [World.setRow, World.alloc]
  congr 1
  apply Array.ext_getElem?
  intro i
  have hb : b < w.heap.size := h
  simp only [Array.getElem?_modify, Array.getElem?_push, Array.size_modify]
  by_cases h1 : i = w.heap.size
  · simp [h1]; omega
  · simp [h1]
@[go_sem] theorem setRow_More (w : World) (n : Nat) (os : Array Obj) (b : Nat) (cs : Array Value) (h : InB b w) : (More w n os).setRow b cs = More (w.setRow b cs) n os := by
  unfold More World.setRow
  simp only []
  rw [modify_left _ _ _ _ h]
@[go_sem] theorem setRow_drew (w : World) (b : Nat) (cs : Array Value) : w.drew.setRow b cs = (w.setRow b cs).drew := rfl
@[go_sem] theorem setRow_drewN (w : World) (n b : Nat) (cs : Array Value) : (w.drewN n).setRow b cs = (w.setRow b cs).drewN n := rfl
/-- A struct's value out of a variable; into one. (The same as the model's; a name that the walk does not open.) -/
def wholeVar (t : TypeId) (a : Addr) : Sem Value := loadVar t a
def wholeSet (t : TypeId) (a : Addr) (v : Value) : Sem Unit := storeVar t a v
@[go_sem] def part8 (o n : Nat) (cs : Array Value) : Array Value := ((cs.toList.drop o).take n).toArray
@[go_sem] def put8 (o : Nat) (new cs : Array Value) : Array Value := (cs.toList.take o ++ new.toList ++ cs.toList.drop (o + new.toList.length)).toArray
@[go_sem] def ones (vs : List Value) : Bool := vs.all (·.oneCell')
@[go_sem] theorem one_int (k : IntKind) (n : Int) : (Value.int k n).oneCell' = true := rfl
@[go_sem] theorem one_bool (b : Bool) : (Value.bool b).oneCell' = true := rfl
@[go_sem] theorem one_slice (a : Option Addr) (n c : Nat) : (Value.slice a n c).oneCell' = true := rfl
@[go_sem] theorem one_pointer (a : Option Addr) : (Value.pointer a).oneCell' = true := rfl
section
variable {P : Program}
theorem run_part {t : TypeId} {n : Nat} {fs : Array Field} (hu : P.underlying t = some (.struct fs)) (hi : (P.info? t).map (·.size) = some n) (hn : 0 < n) (w : World) (b o : Nat) (h : o + n ≤ (rowOf w b).size) :
    (wholeVar t ⟨b, o, none⟩).run P w = .ok (.agg (part8 o n (rowOf w b))) w := by
  obtain ⟨t', hg⟩ := rowOf_some (w := w) (b := b) (by omega)
  have hl : (loadCells ⟨b, o, none⟩ (((rowOf w b).toList.drop o).take n).length).run P w = .ok (((rowOf w b).toList.drop o).take n).toArray w :=
    run_loadCells_list (P := P) w ⟨b, o, none⟩ _ (fun j v hv => by
      have hadd : (⟨b, o, none⟩ : Addr).add j = ⟨b, o + j, none⟩ := by unfold Addr.add; split <;> simp_all
      rw [hadd, cell_of_row w b (o + j) _ t' (0, 0) hg]
      rw [List.getElem?_take] at hv
      split at hv
      · simpa [List.getElem?_drop] using hv
      · cases hv)
  have hlen : (((rowOf w b).toList.drop o).take n).length = n := by simp; omega
  rw [hlen] at hl
  cases hq : P.info? t with
  | none => simp [hq] at hi
  | some i =>
    have hs : i.size = n := by simpa [hq] using hi
    have hagg : (isAgg t).run P w = .ok true w := by
      unfold isAgg
      rw [Sem.run_bind, run_underlying hu w]
      rfl
    simp [wholeVar, part8, loadVar, Sem.run_bind, hagg, sizeOf, typeInfo, hq, hs, hl]
theorem run_all {t : TypeId} {n : Nat} {fs : Array Field} (hu : P.underlying t = some (.struct fs)) (hi : (P.info? t).map (·.size) = some n) (hn : 0 < n) (w : World) (b : Nat) (h : (rowOf w b).size = n) :
    (wholeVar t ⟨b, 0, none⟩).run P w = .ok (.agg (rowOf w b)) w := by
  rw [run_part hu hi hn w b 0 (by omega)]
  have : part8 0 n (rowOf w b) = rowOf w b := by
    unfold part8
    rw [List.drop_zero, List.take_of_length_le (by simp; omega)]
  rw [this]
theorem set_part {t : TypeId} {n : Nat} (hi : (P.info? t).map (·.size) = some n) (w : World) (b o : Nat) (cs : Array Value) (hc : cs.size = n) (hn : 0 < n) (h : o + n ≤ (rowOf w b).size) (h1 : ones cs.toList = true) :
    (wholeSet t ⟨b, o, none⟩ (.agg cs)).run P w = .ok () (w.setRow b (put8 o cs (rowOf w b))) := by
  obtain ⟨t', hg⟩ := rowOf_some (w := w) (b := b) (by omega)
  have := run_storeCells_at P b o t' cs.toList 0 (rowOf w b) w hg (by simp; omega) (fun v hv => (List.all_eq_true.1 h1) v hv)
  cases hq : P.info? t with
  | none => simp [hq] at hi
  | some i =>
    have hs : cs.size = i.size := by simp [hq] at hi; omega
    simp only [Nat.add_zero] at this
    simp [wholeSet, put8, storeVar, sizeOf, typeInfo, hq, Value.cells, hs, this]
theorem set_all {t : TypeId} {n : Nat} (hi : (P.info? t).map (·.size) = some n) (w : World) (b : Nat) (cs : Array Value) (hc : cs.size = n) (hn : 0 < n) (h : (rowOf w b).size = n) (h1 : ones cs.toList = true) :
    (wholeSet t ⟨b, 0, none⟩ (.agg cs)).run P w = .ok () (w.setRow b cs) := by
  rw [set_part hi w b 0 cs hc hn (by omega) h1]
  have : put8 0 cs (rowOf w b) = cs := by
    unfold put8
    rw [List.take_zero, List.drop_of_length_le (by simp; omega)]
    simp
  rw [this]
/-- A result that lies in a block. -/
theorem ret_all {fn : Func} {p : Tmp} {t : TypeId} {n : Nat} {fs : Array Field} (hf : fn.results = #[.cell p t]) (hu : P.underlying t = some (.struct fs)) (hi : (P.info? t).map (·.size) = some n) (hn : 0 < n) (tmps : Array Value) (w : World) (b : Nat) (cs : Array Value)
    (hp : tmps.getD p undef = .pointer (some ⟨b, 0, none⟩)) (hr : rowOf w b = cs) (hs : cs.size = n) : (results fn tmps).run P w = .ok (.agg cs) w := by
  subst hr
  obtain ⟨t', hg⟩ := rowOf_some (w := w) (b := b) (by omega)
  exact results_cell_row hf tmps w b t' _ (0, 0) _ hp hg hu rfl (by rw [hi, hs])
/-- Two results: a slot and a block. -/
theorem ret2_all {fn : Func} {p0 p : Tmp} {t : TypeId} {n : Nat} {fs : Array Field} (hf : fn.results = #[.tmp p0, .cell p t]) (hu : P.underlying t = some (.struct fs)) (hi : (P.info? t).map (·.size) = some n) (hn : 0 < n) (tmps : Array Value) (w : World) (b : Nat) (cs : Array Value) (v0 : Value)
    (h0 : tmps.getD p0 undef = v0) (hp : tmps.getD p undef = .pointer (some ⟨b, 0, none⟩)) (hr : rowOf w b = cs) (hs : cs.size = n) : (results fn tmps).run P w = .ok (.tuple #[v0, .agg cs]) w := by
  subst hr
  have hl : (loadVar t ⟨b, 0, none⟩).run P w = .ok (.agg (rowOf w b)) w := run_all hu hi hn w b hs
  have hp' : tmps[p]?.getD undef = .pointer (some ⟨b, 0, none⟩) := by simpa using hp
  have h0' : tmps[p0]?.getD undef = v0 := by simpa using h0
  simp [results, hf, hp', h0', asAddr, hl]
/-- Two results: a block and a slot. -/
theorem ret3_all {fn : Func} {p0 p : Tmp} {t : TypeId} {n : Nat} {fs : Array Field} (hf : fn.results = #[.cell p t, .tmp p0]) (hu : P.underlying t = some (.struct fs)) (hi : (P.info? t).map (·.size) = some n) (hn : 0 < n) (tmps : Array Value) (w : World) (b : Nat) (cs : Array Value) (v0 : Value)
    (h0 : tmps.getD p0 undef = v0) (hp : tmps.getD p undef = .pointer (some ⟨b, 0, none⟩)) (hr : rowOf w b = cs) (hs : cs.size = n) : (results fn tmps).run P w = .ok (.tuple #[.agg cs, v0]) w := by
  subst hr
  have hl : (loadVar t ⟨b, 0, none⟩).run P w = .ok (.agg (rowOf w b)) w := run_all hu hi hn w b hs
  have hp' : tmps[p]?.getD undef = .pointer (some ⟨b, 0, none⟩) := by simpa using hp
  have h0' : tmps[p0]?.getD undef = v0 := by simpa using h0
  simp [results, hf, hp', h0', asAddr, hl]
end
/-- Cells in a row, as a whole value; a whole value into cells in a row. -/
theorem whole_cells {P : Program} {t : TypeId} {n : Nat} {d : TypeDesc} (hu : P.underlying t = some d) (hd : (match d with | .struct _ | .array _ _ => true | _ => false) = true) (hi : (P.info? t).map (·.size) = some n) (w : World) (b o : Nat) (vs : Array Value) (hv : vs.size = n)
    (hc : ∀ j v, vs[j]? = some v → w.cell? ⟨b, o + j, none⟩ = some v) : (wholeVar t ⟨b, o, none⟩).run P w = .ok (.agg vs) w := by
  have hl : (loadCells ⟨b, o, none⟩ vs.toList.length).run P w = .ok vs.toList.toArray w :=
    run_loadCells_list (P := P) w ⟨b, o, none⟩ _ (fun j v h => by
      have hadd : (⟨b, o, none⟩ : Addr).add j = ⟨b, o + j, none⟩ := by unfold Addr.add; split <;> simp_all
      rw [hadd]
      exact hc j v (by simpa using h))
  have hlen : vs.toList.length = n := by simpa using hv
  rw [hlen] at hl
  cases hq : P.info? t with
  | none => simp [hq] at hi
  | some i =>
    have hs : i.size = n := by simpa [hq] using hi
    have hagg : (isAgg t).run P w = .ok true w := by
      unfold isAgg
      rw [Sem.run_bind, run_underlying hu w]
      cases d <;> first | rfl | (simp at hd)
    simp [wholeVar, loadVar, Sem.run_bind, hagg, sizeOf, typeInfo, hq, hs, hl]
theorem run_arr {P : Program} {t e : TypeId} {n k : Nat} (hu : P.underlying t = some (.array k e)) (hi : (P.info? t).map (·.size) = some n) (hn : 0 < n) (w : World) (b : Nat) (h : (rowOf w b).size = n) : (wholeVar t ⟨b, 0, none⟩).run P w = .ok (.agg (rowOf w b)) w := by
  obtain ⟨t', hg⟩ := rowOf_some (w := w) (b := b) (by omega)
  exact whole_cells hu rfl hi w b 0 _ h fun j v hj => by rw [Nat.zero_add, cell_of_row w b j _ t' (0, 0) hg]; exact hj
theorem ret_arr {P : Program} {fn : Func} {p : Tmp} {t e : TypeId} {n k : Nat} (hf : fn.results = #[.cell p t]) (hu : P.underlying t = some (.array k e)) (hi : (P.info? t).map (·.size) = some n) (hn : 0 < n) (tmps : Array Value) (w : World) (b : Nat) (cs : Array Value)
    (hp : tmps.getD p undef = .pointer (some ⟨b, 0, none⟩)) (hr : rowOf w b = cs) (hs : cs.size = n) : (results fn tmps).run P w = .ok (.agg cs) w := by
  subst hr
  obtain ⟨t', hg⟩ := rowOf_some (w := w) (b := b) (by omega)
  exact results_cell_row hf tmps w b t' _ (0, 0) _ hp hg hu rfl (by rw [hi, hs])
theorem ret_Pins {fn : Func} {p : Tmp} (hf : fn.results = #[.cell p 46]) {tmps : Array Value} {w : World} {b : Nat} {cs : Array Value} (hp : tmps.getD p undef = .pointer (some ⟨b, 0, none⟩)) (hr : rowOf w b = cs) (hs : cs.size = 17) : (results fn tmps).run Try.prog w = .ok (.agg cs) w :=
  ret_all hf Try.underlying46 (by kernel_rfl) (by decide) tmps w b cs hp hr hs
@[go_sem ↓] theorem load_Pins (a : Addr) : loadVar 46 a = wholeVar 46 a := by unfold wholeVar; rfl
@[go_sem ↓] theorem store_Pins (a : Addr) (v : Value) : storeVar 46 a v = wholeSet 46 a v := by unfold wholeSet; rfl
@[go_sem] theorem run_load_Pins (w : World) (b : Nat) (h : (rowOf w b).size = 17) : (wholeVar 46 ⟨b, 0, none⟩).run Try.prog w = .ok (.agg (rowOf w b)) w :=
  run_all Try.underlying46 (by kernel_rfl) (by decide) w b h
@[go_sem] theorem run_store_Pins (w : World) (b : Nat) (cs : Array Value) (hc : cs.size = 17) (h : (rowOf w b).size = 17) (h1 : ones cs.toList = true) : (wholeSet 46 ⟨b, 0, none⟩ (.agg cs)).run Try.prog w = .ok () (w.setRow b cs) :=
  set_all (by kernel_rfl) w b cs hc (by decide) h h1
theorem ret_Item {fn : Func} {p : Tmp} (hf : fn.results = #[.cell p 44]) {tmps : Array Value} {w : World} {b : Nat} {cs : Array Value} (hp : tmps.getD p undef = .pointer (some ⟨b, 0, none⟩)) (hr : rowOf w b = cs) (hs : cs.size = 9) : (results fn tmps).run Try.prog w = .ok (.agg cs) w :=
  ret_all hf Try.underlying44 (by kernel_rfl) (by decide) tmps w b cs hp hr hs
@[go_sem ↓] theorem load_Item (a : Addr) : loadVar 44 a = wholeVar 44 a := by unfold wholeVar; rfl
@[go_sem ↓] theorem store_Item (a : Addr) (v : Value) : storeVar 44 a v = wholeSet 44 a v := by unfold wholeSet; rfl
@[go_sem] theorem run_load_Item (w : World) (b : Nat) (h : (rowOf w b).size = 9) : (wholeVar 44 ⟨b, 0, none⟩).run Try.prog w = .ok (.agg (rowOf w b)) w :=
  run_all Try.underlying44 (by kernel_rfl) (by decide) w b h
@[go_sem] theorem run_store_Item (w : World) (b : Nat) (cs : Array Value) (hc : cs.size = 9) (h : (rowOf w b).size = 9) (h1 : ones cs.toList = true) : (wholeSet 44 ⟨b, 0, none⟩ (.agg cs)).run Try.prog w = .ok () (w.setRow b cs) :=
  set_all (by kernel_rfl) w b cs hc (by decide) h h1
@[go_sem] theorem eq_Pins (r1 q1 r2 q2 r3 q3 : Int) (r4 r5 r6 r7 r8 r9 r10 r11 r12 r13 r14 r15 r16 r17 q4 q5 q6 q7 q8 q9 q10 q11 q12 q13 q14 q15 q16 q17 : Bool) (w : World) : (Op.equalIn 10000 46 (.agg #[.int .i64 r1, .int .u16 r2, .int .u8 r3, .bool r4, .bool r5, .bool r6, .bool r7, .bool r8, .bool r9, .bool r10, .bool r11, .bool r12, .bool r13, .bool r14, .bool r15, .bool r16, .bool r17]) (.agg #[.int .i64 q1, .int .u16 q2, .int .u8 q3, .bool q4, .bool q5, .bool q6, .bool q7, .bool q8, .bool q9, .bool q10, .bool q11, .bool q12, .bool q13, .bool q14, .bool q15, .bool q16, .bool q17])).run Try.prog w =
    .ok (same [.int .i64 r1, .int .u16 r2, .int .u8 r3, .bool r4, .bool r5, .bool r6, .bool r7, .bool r8, .bool r9, .bool r10, .bool r11, .bool r12, .bool r13, .bool r14, .bool r15, .bool r16, .bool r17] [.int .i64 q1, .int .u16 q2, .int .u8 q3, .bool q4, .bool q5, .bool q6, .bool q7, .bool q8, .bool q9, .bool q10, .bool q11, .bool q12, .bool q13, .bool q14, .bool q15, .bool q16, .bool q17]) w :=
  eq_agg 6 [.int .i64, .int .u16, .int .u8, .bool, .bool, .bool, .bool, .bool, .bool, .bool, .bool, .bool, .bool, .bool, .bool, .bool, .bool] _ Try.underlying46 (by kernel_rfl) (by decide) _ _ w (by simp [shaped]) (by simp [shaped])
@[go_sem ↓] theorem load_Cycle (a : Addr) : loadVar 42 a = wholeVar 42 a := by unfold wholeVar; rfl
@[go_sem ↓] theorem store_Cycle (a : Addr) (v : Value) : storeVar 42 a v = wholeSet 42 a v := by unfold wholeSet; rfl
@[go_sem] theorem run_load_Cycle (w : World) (b o : Nat) (h : o + 4 ≤ (rowOf w b).size) : (wholeVar 42 ⟨b, o, none⟩).run Try.prog w = .ok (.agg (part8 o 4 (rowOf w b))) w :=
  run_part Try.underlying42 (by kernel_rfl) (by decide) w b o h
@[go_sem] theorem run_store_Cycle (w : World) (b o : Nat) (cs : Array Value) (hc : cs.size = 4) (h : o + 4 ≤ (rowOf w b).size) (h1 : ones cs.toList = true) : (wholeSet 42 ⟨b, o, none⟩ (.agg cs)).run Try.prog w = .ok () (w.setRow b (put8 o cs (rowOf w b))) :=
  set_part (by kernel_rfl) w b o cs hc (by decide) h h1
@[go_sem ↓] theorem load_span (a : Addr) : loadVar 71 a = wholeVar 71 a := by unfold wholeVar; rfl
@[go_sem ↓] theorem store_span (a : Addr) (v : Value) : storeVar 71 a v = wholeSet 71 a v := by unfold wholeSet; rfl
@[go_sem] theorem run_load_span (w : World) (b : Nat) (h : (rowOf w b).size = 2) : (wholeVar 71 ⟨b, 0, none⟩).run Try.prog w = .ok (.agg (rowOf w b)) w :=
  run_all Try.underlying71 (by kernel_rfl) (by decide) w b h
@[go_sem] theorem run_store_span (w : World) (b : Nat) (cs : Array Value) (hc : cs.size = 2) (h : (rowOf w b).size = 2) (h1 : ones cs.toList = true) : (wholeSet 71 ⟨b, 0, none⟩ (.agg cs)).run Try.prog w = .ok () (w.setRow b cs) :=
  set_all (by kernel_rfl) w b cs hc (by decide) h h1
end Go.Proofs.Ytfhnfakjjfjohaa
