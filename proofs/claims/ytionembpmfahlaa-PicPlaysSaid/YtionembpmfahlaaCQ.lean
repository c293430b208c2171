/- What makes a controller's state: its statement reads a slice's cell next to twenty-two calls, so its region draws its order: by what holds between its operations. Condition: the numbers' list lies in blocks below the box. -/
import Derived.Test.YtionembpmfahlaaCI
import Derived.Test.YtionembpmfahlaaC22
namespace Go.Proofs.Ytionembpmfahlaa
open Go.ChangeShapes Go.WideShapes Go.ChangeAt Go.RowKit
set_option linter.unusedVariables false
/-- What a slot holds. -/
inductive Kd where
  | box
  | nx (n : Int)
  | bo
  | by8
  | sl
  | ix
  | st
  | ag
def six : Array Value := #[.int .i64 0, .int .i64 0, .int .i64 0, .int .i64 2, .int .i64 3, .int .i64 4]
def Kd.ok (b : Nat) (w : World) (v : Value) : Kd → Prop
  | .box => v = .pointer (some ⟨b, 0, none⟩)
  | .nx n => ∃ y : Int, (0 ≤ y ∧ y < n) ∧ v = .int .i64 y
  | .bo => ∃ f : Bool, v = .bool f
  | .by8 => ∃ y : Int, (0 ≤ y ∧ y < 256) ∧ v = .int .u8 y
  | .sl => ∃ bs, v = .slice (some ⟨bs, 0, none⟩) 6 6 ∧ bs ≠ b ∧ w.heap[bs]? = some (.cells six 3 (0, 0))
  | .ix => ∃ bs k, v = .pointer (some ⟨bs, k, none⟩) ∧ k < 6 ∧ bs ≠ b ∧ w.heap[bs]? = some (.cells six 3 (0, 0))
  | .st => ∃ y : Int, v = .int .i64 y
  | .ag => ∃ p : S.Pc, v = .agg p.cs ∧ S.Ok p
def ks : List Kd := [.sl, .box, .nx 6, .ix, .st, .box, .bo, .box, .bo, .box, .bo, .box, .bo, .box, .by8, .by8, .box, .by8, .box, .nx 4, .bo, .box, .nx 4, .bo, .box, .nx 4, .bo, .box, .bo, .box, .nx 6, .bo, .box, .nx 256, .by8, .box, .nx 256, .by8, .box, .nx 256, .by8, .box, .nx 256, .by8, .by8, .box, .nx 256, .by8, .box, .nx 256, .by8, .by8, .box, .nx 8, .box, .nx 3, .box, .nx 8, .box, .nx 5, .bo, .ag]
/-- All blocks but b are as they were. -/
def Keeps (b : Nat) (w w' : World) : Prop := ∀ c, c ≠ b → c < w.heap.size → w'.heap[c]? = w.heap[c]?
theorem Kd.keep {b : Nat} {w w' : World} {v : Value} (h : Keeps b w w') : ∀ {k : Kd}, k.ok b w v → k.ok b w' v
  | .box, hk => hk
  | .nx _, hk => hk
  | .bo, hk => hk
  | .by8, hk => hk
  | .sl, ⟨bs, h1, h2, h3⟩ => ⟨bs, h1, h2, (h bs h2 (Array.getElem?_eq_some_iff.1 h3).1).trans h3⟩
  | .ix, ⟨bs, k, h1, h0, h2, h3⟩ => ⟨bs, k, h1, h0, h2, (h bs h2 (Array.getElem?_eq_some_iff.1 h3).1).trans h3⟩
  | .st, hk => hk
  | .ag, hk => hk
theorem Up.keeps {w w' : World} {b N : Nat} (h : Up w b N w') : Keeps b w w' := by
  obtain ⟨⟨n, os⟩, rfl⟩ := h
  intro c hc hl
  have e : (w.setCell ⟨b, 1, none⟩ (.int .i64 (N : Int))).heap.size = w.heap.size := Array.size_modify ..
  rw [More_heap _ _ _ (by rw [e]; exact hl), heap_setCell_other w ⟨b, 1, none⟩ c _ hc]
theorem Up.refl {w : World} {b len cap N : Nat} {a : Option Addr} (h : Nb w b a len cap N) : Up w b N w := by
  have e : w.setCell ⟨b, 1, none⟩ (.int .i64 (N : Int)) = w := by
    have hs := heap_setCell_same w b 1 _ _ (.int .i64 (N : Int)) h.1
    have hw : (w.setCell ⟨b, 1, none⟩ (.int .i64 (N : Int))).heap = w.heap := by
      apply Array.ext_getElem?
      intro k
      by_cases hk : k = b
      · subst hk; rw [hs, h.1]; rfl
      · exact heap_setCell_other w ⟨b, 1, none⟩ k _ hk
    show ({ w with heap := (w.setCell ⟨b, 1, none⟩ (.int .i64 (N : Int))).heap } : World) = w
    rw [hw]
  unfold Up
  rw [e]
  exact Adds.refl w
theorem Adds.setRow {w w' : World} (h : Adds w w') {b : Nat} (hb : w.heap.size ≤ b) (cs : Array Value) : Adds w (w'.setRow b cs) := by
  obtain ⟨⟨n, os⟩, rfl⟩ := h
  have e : (More w n os).setRow b cs = (More w n os).setRow b cs := rfl
  conv at e => rhs; simp only [World.setRow, More]; rw [modify_right _ _ _ _ hb]
  exact ⟨⟨n, _⟩, e⟩
theorem rowOf_setRow {w : World} {b : Nat} {cs : Array Value} (h : 0 < (rowOf w b).size) : rowOf (w.setRow b cs) b = cs := by
  obtain ⟨t, ht⟩ := rowOf_some h
  have := setRow_heap w b _ cs t (0, 0) ht
  unfold rowOf
  rw [this]
  rfl
/-- What holds between the operations: n of them have been carried out, those of L. -/
structure Iv (b r N : Nat) (w0 : World) (n : Nat) (L : Array Bool) (a : Act) (w : World) : Prop where
  d : a.defers = []
  z : a.tmps.size = 65
  t0 : a.tmps.getD 0 undef = .pointer (some ⟨b, 0, none⟩)
  t2 : a.tmps.getD 2 undef = .pointer (some ⟨r, 0, none⟩)
  m : L.getD 62 false = false → (∃ M, M ≤ N + 2 * n ∧ Up w0 b M w) ∧ ∀ i k, ks[i]? = some k → L.getD i false = true → k.ok b w (a.tmps.getD (i + 3) undef)
  l : L.getD 62 false = true → (∀ i, i < 62 → L.getD i false = true) ∧ ∃ p M w1, S.Ok p ∧ M ≤ N + 2 * n ∧ Up w0 b M w1 ∧ w = w1.setRow r p.cs
section
variable {b r N : Nat} {w0 : World} {n : Nat} {L : Array Bool} {a : Act} {w w' : World} {ops : Array Oper} {md : Region.Mode} {i : Nat}
theorem Iv.open (h : Iv b r N w0 n L a w) (hr : i ∈ Region.ready md ops L) (hi : i < 62) : L.getD 62 false = false := by
  cases h62 : L.getD 62 false with
  | false => rfl
  | true =>
    have h1 := (h.l h62).1 i hi
    have h2 := unlisted (mem_ready.1 hr).1
    rw [Array.getD_eq_getD_getElem?, h2] at h1
    cases h1
theorem Iv.put (h : Iv b r N w0 n L a w) (hr : i ∈ Region.ready md ops L) (hi : i < 62) {k : Kd} (hk : ks[i]? = some k) {v : Value} (hv : k.ok b w' v) (hw : Keeps b w w') {M : Nat} (hM : M ≤ N + 2 * (n + 1)) (hU : Up w0 b M w') :
    Iv b r N w0 (n + 1) (L.setIfInBounds i true) (a.put (some (i + 3)) v) w' := by
  have h62 := h.open hr hi
  have hne : i ≠ 62 := by omega
  have g : ∀ j, j ≠ i + 3 → (a.put (some (i + 3)) v).tmps.getD j undef = a.tmps.getD j undef := fun j hj => by
    simp [Act.put, Array.getElem?_setIfInBounds_ne (Ne.symm hj)]
  have g' : (a.put (some (i + 3)) v).tmps.getD (i + 3) undef = v := by
    have : i + 3 < a.tmps.size := by rw [h.z]; omega
    simp [Act.put, this]
  refine ⟨h.d, by simpa [Act.put] using h.z, by rw [g 0 (by omega)]; exact h.t0, by rw [g 2 (by omega)]; exact h.t2, fun _ => ⟨⟨M, hM, hU⟩, fun j k' hk' hl => ?_⟩, fun h' => ?_⟩
  · rcases listed_set L i j hl with e | hl'
    · subst e
      rw [hk] at hk'
      cases hk'
      rw [g']
      exact hv
    · by_cases e : j = i
      · subst e
        rw [hk] at hk'
        cases hk'
        rw [g']
        exact hv
      · rw [g (j + 3) (by omega)]
        exact Kd.keep hw ((h.m h62).2 j k' hk' hl')
  · rw [listed_set_ne L i 62 hne, h62] at h'
    cases h'
theorem Iv.same (h : Iv b r N w0 n L a w) (hr : i ∈ Region.ready md ops L) (hi : i < 62) {k : Kd} (hk : ks[i]? = some k) {v : Value} (hv : k.ok b w v) :
    Iv b r N w0 (n + 1) (L.setIfInBounds i true) (a.put (some (i + 3)) v) w := by
  obtain ⟨M, hM, hU⟩ := (h.m (h.open hr hi)).1
  exact h.put hr hi hk hv (fun _ _ _ => rfl) (by omega) hU
theorem Iv.get (h : Iv b r N w0 n L a w) (hr : i ∈ Region.ready md ops L) (hi : i < 62) {j : Nat} {k : Kd} (hk : ks[j]? = some k) (hj : ((ops[i]?).map fun o => o.after.any fun e => Region.binds md e && e.on == j) = some true) : k.ok b w (a.tmps.getD (j + 3) undef) :=
  (h.m (h.open hr hi)).2 j k hk (ready_dep hr hj)
end
/-- The operations of PIC's statement. -/
noncomputable abbrev picOps : Array Oper := secondOps Try.f11
section
variable {b r N : Nat} {w0 : World} {n : Nat} {L : Array Bool} {a : Act} {w : World} {i s t j : Nat} {len cap : Nat} {aa : Option Addr}
/-- One operation's step. -/
abbrev Step (b r N : Nat) (w0 : World) (Q : Exit → Act → World → Prop) (n : Nat) (L : Array Bool) (a : Act) (w : World) (i : Nat) : Prop :=
  wpOp Try.prog picOps Q i (fun a' w' => Iv b r N w0 (n + 1) (L.setIfInBounds i true) a' w') a w
variable {Q : Exit → Act → World → Prop}
theorem sp_move (h : Iv b r N w0 n L a w) (hr : i ∈ Region.ready .any picOps L) (hi : i < 62) (hk : ks[i]? = some .box)
    (ho : (picOps[i]?).map (fun o => (o.dst, o.op, o.guard)) = some (some (i + 3), .move (.tmp 0), none)) : Step b r N w0 Q n L a w i :=
  st_move ho h.t0 (h.same hr hi hk rfl)
theorem sp_next {c : Int} (c0 : 1 ≤ c ∧ c ≤ 65536) (h : Iv b r N w0 n L a w) (hr : i ∈ Region.ready .any picOps L) (hi : i < 62) (hk : ks[i]? = some (.nx c))
    (ho : (picOps[i]?).map (fun o => (o.dst, o.op, o.guard)) = some (some (i + 3), .call { callee := .value (.func 27), args := #[.tmp (j + 3), .const (.int .i64 c)], argTypes := #[27, 3] }, none)) (hj : ks[j]? = some .box) (hd : ((picOps[i]?).map fun o => o.after.any fun e => Region.binds .any e && e.on == j) = some true)
    (hb0 : Nb w0 b aa len cap N) (hM : N ≤ 99980000) (hn : n < 63) : Step b r N w0 Q n L a w i := by
  obtain ⟨⟨M, hM1, hU⟩, _⟩ := h.m (h.open hr hi)
  refine st_call2 ho (h.get hr hi hj hd) (by simp [go_sem]) ?_
  refine (nx_any b len cap M aa c c0.1 c0.2 (by omega) _ (hb0.up hU)).mono ?_
  rintro e w2 ⟨y, M2, hy0, hy1, hM2, rfl, hU2⟩
  exact ⟨_, rfl, h.put hr hi hk ⟨y, ⟨hy0, hy1⟩, rfl⟩ hU2.keeps (M := M2) (by omega) (hU.then hb0.lt hU2)⟩
theorem sp_flag (h : Iv b r N w0 n L a w) (hr : i ∈ Region.ready .any picOps L) (hi : i < 62) (hk : ks[i]? = some .bo)
    (ho : (picOps[i]?).map (fun o => (o.dst, o.op, o.guard)) = some (some (i + 3), .call { callee := .value (.func 28), args := #[.tmp (j + 3)], argTypes := #[27] }, none)) (hj : ks[j]? = some .box) (hd : ((picOps[i]?).map fun o => o.after.any fun e => Region.binds .any e && e.on == j) = some true)
    (hb0 : Nb w0 b aa len cap N) (hM : N ≤ 99980000) (hn : n < 63) : Step b r N w0 Q n L a w i := by
  obtain ⟨⟨M, hM1, hU⟩, _⟩ := h.m (h.open hr hi)
  refine st_call1 ho (h.get hr hi hj hd) (by simp [go_sem]) ?_
  refine (flg_any b len cap M aa (by omega) _ (hb0.up hU)).mono ?_
  rintro e w2 ⟨f, M2, hM2, rfl, hU2⟩
  exact ⟨_, rfl, h.put hr hi hk ⟨f, rfl⟩ hU2.keeps (M := M2) (by omega) (hU.then hb0.lt hU2)⟩
theorem sp_byte (h : Iv b r N w0 n L a w) (hr : i ∈ Region.ready .any picOps L) (hi : i < 62) (hk : ks[i]? = some .by8)
    (ho : (picOps[i]?).map (fun o => (o.dst, o.op, o.guard)) = some (some (i + 3), .call { callee := .value (.func 32), args := #[.tmp (j + 3)], argTypes := #[27] }, none)) (hj : ks[j]? = some .box) (hd : ((picOps[i]?).map fun o => o.after.any fun e => Region.binds .any e && e.on == j) = some true)
    (hb0 : Nb w0 b aa len cap N) (hM : N ≤ 99980000) (hn : n < 63) : Step b r N w0 Q n L a w i := by
  obtain ⟨⟨M, hM1, hU⟩, _⟩ := h.m (h.open hr hi)
  refine st_call1 ho (h.get hr hi hj hd) (by simp [go_sem]) ?_
  refine (byt_any b len cap M aa (by omega) _ (hb0.up hU)).mono ?_
  rintro e w2 ⟨y, M2, hy0, hy1, hM2, rfl, hU2⟩
  exact ⟨_, rfl, h.put hr hi hk ⟨y, ⟨hy0, hy1⟩, rfl⟩ hU2.keeps (M := M2) (by omega) (hU.then hb0.lt hU2)⟩
theorem sp_eql {c : Int} (h : Iv b r N w0 n L a w) (hr : i ∈ Region.ready .any picOps L) (hi : i < 62) (hk : ks[i]? = some .bo)
    (ho : (picOps[i]?).map (fun o => (o.dst, o.op, o.guard)) = some (some (i + 3), .binOp .eql 3 (.tmp (j + 3)) (.const (.int .i64 0)) 3, none)) (hj : ks[j]? = some (.nx c)) (hd : ((picOps[i]?).map fun o => o.after.any fun e => Region.binds .any e && e.on == j) = some true) : Step b r N w0 Q n L a w i := by
  obtain ⟨y, _, e⟩ := h.get hr hi hj hd
  exact st_binc (v := .bool (y == 0)) ho e (by simp [go_sem]) (h.same hr hi hk ⟨_, rfl⟩)
theorem sp_and {c : Int} (h : Iv b r N w0 n L a w) (hr : i ∈ Region.ready .any picOps L) (hi : i < 62) (hk : ks[i]? = some .by8)
    (ho : (picOps[i]?).map (fun o => (o.dst, o.op, o.guard)) = some (some (i + 3), .binOp .and 5 (.tmp (j + 3)) (.const (.int .u8 c)) 5, none)) (hj : ks[j]? = some .by8) (hd : ((picOps[i]?).map fun o => o.after.any fun e => Region.binds .any e && e.on == j) = some true) : Step b r N w0 Q n L a w i := by
  obtain ⟨y, _, e⟩ := h.get hr hi hj hd
  exact st_binc (v := .int .u8 (bits .and .u8 y c)) ho e (by simp [go_sem]) (h.same hr hi hk ⟨_, S.pr_and_bd _ _, rfl⟩)
theorem sp_andt {j' : Nat} (h : Iv b r N w0 n L a w) (hr : i ∈ Region.ready .any picOps L) (hi : i < 62) (hk : ks[i]? = some .by8)
    (ho : (picOps[i]?).map (fun o => (o.dst, o.op, o.guard)) = some (some (i + 3), .binOp .and 5 (.tmp (j + 3)) (.tmp (j' + 3)) 5, none)) (hj : ks[j]? = some .by8) (hd : ((picOps[i]?).map fun o => o.after.any fun e => Region.binds .any e && e.on == j) = some true) (hj' : ks[j']? = some .by8) (hd' : ((picOps[i]?).map fun o => o.after.any fun e => Region.binds .any e && e.on == j') = some true) : Step b r N w0 Q n L a w i := by
  obtain ⟨y, _, e⟩ := h.get hr hi hj hd
  obtain ⟨y', _, e'⟩ := h.get hr hi hj' hd'
  exact st_bin (v := .int .u8 (bits .and .u8 y y')) ho e e' (by simp [go_sem]) (h.same hr hi hk ⟨_, S.pr_and_bd _ _, rfl⟩)
theorem sp_conv (h : Iv b r N w0 n L a w) (hr : i ∈ Region.ready .any picOps L) (hi : i < 62) (hk : ks[i]? = some .by8)
    (ho : (picOps[i]?).map (fun o => (o.dst, o.op, o.guard)) = some (some (i + 3), .convert 3 5 (.tmp (j + 3)), none)) (hj : ks[j]? = some (.nx 256)) (hd : ((picOps[i]?).map fun o => o.after.any fun e => Region.binds .any e && e.on == j) = some true) : Step b r N w0 Q n L a w i := by
  obtain ⟨y, hy, e⟩ := h.get hr hi hj hd
  have hwr : IntKind.u8.wrap y = y := by simp [IntKind.wrap, IntKind.bits, IntKind.signed]; omega
  exact st_conv (v := .int .u8 y) ho e (by simp [go_sem, hwr]) (h.same hr hi hk ⟨_, hy, rfl⟩)
end
theorem sp_slice {b r N : Nat} {w0 : World} {n : Nat} {L : Array Bool} {a : Act} {w : World} {Q : Exit → Act → World → Prop} (h : Iv b r N w0 n L a w) (hr : 0 ∈ Region.ready .any picOps L) {aa : Option Addr} {len cap : Nat} (hb0 : Nb w0 b aa len cap N) : Step b r N w0 Q n L a w 0 := by
  obtain ⟨⟨M, hM1, hU⟩, _⟩ := h.m (h.open hr (by omega))
  have hbw : b < w.heap.size := (hb0.up hU).lt
  refine st_buildSlice (xt := 24) (len := 6) (v := .slice (some ⟨w.heap.size, 0, none⟩) 6 6) (w' := w.alloc (.cells six 3)) (parts := #[(0, .const (.int .i64 0)), (1, .const (.int .i64 0)), (2, .const (.int .i64 0)), (3, .const (.int .i64 2)), (4, .const (.int .i64 3)), (5, .const (.int .i64 4))]) (t := 3) (by kernel_rfl) rfl ?_ ?_
  · simp [go_sem, six]
  · exact h.put hr (by omega) (k := .sl) rfl ⟨w.heap.size, rfl, by omega, heap_last w _⟩ (fun c _ hc => heap_past w _ hc) (M := M) (by omega) (hU.alloc _)
theorem sp_ix {b r N : Nat} {w0 : World} {n : Nat} {L : Array Bool} {a : Act} {w : World} {Q : Exit → Act → World → Prop} (h : Iv b r N w0 n L a w) (hr : 3 ∈ Region.ready .any picOps L) : Step b r N w0 Q n L a w 3 := by
  obtain ⟨bs, e, hne, hh⟩ := h.get (j := 0) (k := .sl) hr (by omega) rfl (by kernel_rfl)
  obtain ⟨y, hy, e'⟩ := h.get (j := 2) (k := .nx 6) hr (by omega) rfl (by kernel_rfl)
  obtain ⟨k, rfl⟩ : ∃ k : Nat, y = (k : Int) := ⟨y.toNat, by omega⟩
  have hk : k < 6 := by omega
  refine st_indexAddr (v := .pointer (some ⟨bs, k, none⟩)) (xt := 24) (t := 6) (by kernel_rfl) e e' ?_ (h.same hr (by omega) (k := .ix) rfl ⟨bs, k, rfl, hk, hne, hh⟩)
  have h6 : (k : Int) < 6 := hy.2
  simp [go_sem, h6]
theorem sp_load {b r N : Nat} {w0 : World} {n : Nat} {L : Array Bool} {a : Act} {w : World} {Q : Exit → Act → World → Prop} (h : Iv b r N w0 n L a w) (hr : 4 ∈ Region.ready .any picOps L) : Step b r N w0 Q n L a w 4 := by
  obtain ⟨bs, k, e, hk, hne, hh⟩ := h.get (j := 3) (k := .ix) hr (by omega) rfl (by kernel_rfl)
  have hc : ∃ z : Int, w.cell? ⟨bs, k, none⟩ = some (.int .i64 z) := by
    rw [cell_of_row w bs k _ _ _ hh]
    rcases (by omega : k = 0 ∨ k = 1 ∨ k = 2 ∨ k = 3 ∨ k = 4 ∨ k = 5) with rfl | rfl | rfl | rfl | rfl | rfl <;> exact ⟨_, rfl⟩
  obtain ⟨z, hc⟩ := hc
  refine st_load (v := .int .i64 z) (xt := 3) (t := 7) (by kernel_rfl) e ?_ (h.same hr (by omega) (k := .st) rfl ⟨z, rfl⟩)
  simp [go_sem, hc]
theorem sp_build {b r N : Nat} {w0 : World} {n : Nat} {L : Array Bool} {a : Act} {w : World} {Q : Exit → Act → World → Prop} (h : Iv b r N w0 n L a w) (hr : 61 ∈ Region.ready .any picOps L) : Step b r N w0 Q n L a w 61 := by
  obtain ⟨ySt, eSt⟩ := h.get (j := 4) (k := .st) hr (by omega) rfl (by kernel_rfl)
  obtain ⟨yLe, eLe⟩ := h.get (j := 6) (k := .bo) hr (by omega) rfl (by kernel_rfl)
  obtain ⟨yFo, eFo⟩ := h.get (j := 8) (k := .bo) hr (by omega) rfl (by kernel_rfl)
  obtain ⟨ySi, eSi⟩ := h.get (j := 10) (k := .bo) hr (by omega) rfl (by kernel_rfl)
  obtain ⟨yFt, eFt⟩ := h.get (j := 12) (k := .bo) hr (by omega) rfl (by kernel_rfl)
  obtain ⟨yLw, hLw, eLw⟩ := h.get (j := 15) (k := .by8) hr (by omega) rfl (by kernel_rfl)
  obtain ⟨yHg, hHg, eHg⟩ := h.get (j := 17) (k := .by8) hr (by omega) rfl (by kernel_rfl)
  obtain ⟨yAu, eAu⟩ := h.get (j := 20) (k := .bo) hr (by omega) rfl (by kernel_rfl)
  obtain ⟨yRo, eRo⟩ := h.get (j := 23) (k := .bo) hr (by omega) rfl (by kernel_rfl)
  obtain ⟨ySp, eSp⟩ := h.get (j := 26) (k := .bo) hr (by omega) rfl (by kernel_rfl)
  obtain ⟨yRI, eRI⟩ := h.get (j := 28) (k := .bo) hr (by omega) rfl (by kernel_rfl)
  obtain ⟨yPo, ePo⟩ := h.get (j := 31) (k := .bo) hr (by omega) rfl (by kernel_rfl)
  obtain ⟨yLi, hLi, eLi⟩ := h.get (j := 34) (k := .by8) hr (by omega) rfl (by kernel_rfl)
  obtain ⟨yEd, hEd, eEd⟩ := h.get (j := 37) (k := .by8) hr (by omega) rfl (by kernel_rfl)
  obtain ⟨yIS, hIS, eIS⟩ := h.get (j := 44) (k := .by8) hr (by omega) rfl (by kernel_rfl)
  obtain ⟨yIM, hIM, eIM⟩ := h.get (j := 51) (k := .by8) hr (by omega) rfl (by kernel_rfl)
  obtain ⟨yLo, hLo, eLo⟩ := h.get (j := 53) (k := .nx 8) hr (by omega) rfl (by kernel_rfl)
  obtain ⟨ySq, hSq, eSq⟩ := h.get (j := 55) (k := .nx 3) hr (by omega) rfl (by kernel_rfl)
  obtain ⟨ySv, hSv, eSv⟩ := h.get (j := 57) (k := .nx 8) hr (by omega) rfl (by kernel_rfl)
  obtain ⟨ySu, eSu⟩ := h.get (j := 60) (k := .bo) hr (by omega) rfl (by kernel_rfl)
  refine st_build (xt := 23) (t := 64) (parts := #[(0, .tmp 7), (1, .tmp 9), (2, .tmp 11), (3, .tmp 13), (4, .tmp 15), (5, .tmp 18), (6, .tmp 20), (7, .tmp 23), (8, .tmp 26), (9, .tmp 29), (10, .tmp 31), (11, .tmp 34), (12, .tmp 37), (13, .tmp 40), (14, .tmp 47), (15, .tmp 54), (16, .tmp 56), (17, .tmp 58), (18, .tmp 60), (19, .tmp 63)]) (vs := #[(0, .int .i64 ySt), (1, .bool yLe), (2, .bool yFo), (3, .bool ySi), (4, .bool yFt), (5, .int .u8 yLw), (6, .int .u8 yHg), (7, .bool yAu), (8, .bool yRo), (9, .bool ySp), (10, .bool yRI), (11, .bool yPo), (12, .int .u8 yLi), (13, .int .u8 yEd), (14, .int .u8 yIS), (15, .int .u8 yIM), (16, .int .i64 yLo), (17, .int .i64 ySq), (18, .int .i64 ySv), (19, .bool ySu)]) (v := .agg (S.Pc.cs ⟨ySt, yLe, yFo, ySi, yFt, yLw, yHg, yAu, yRo, ySp, yRI, yPo, yLi, yEd, yIS, yIM, yLo, ySq, ySv, ySu⟩)) (w' := w) (by kernel_rfl) ?_ ?_ (h.same hr (by omega) (k := .ag) rfl ⟨_, rfl, hIS, hLw, hHg⟩)
  · have q : ∀ t, a.eval (.tmp t) = a.tmps.getD t undef := fun _ => rfl
    change a.tmps.getD 7 undef = _ at eSt
    change a.tmps.getD 9 undef = _ at eLe
    change a.tmps.getD 11 undef = _ at eFo
    change a.tmps.getD 13 undef = _ at eSi
    change a.tmps.getD 15 undef = _ at eFt
    change a.tmps.getD 18 undef = _ at eLw
    change a.tmps.getD 20 undef = _ at eHg
    change a.tmps.getD 23 undef = _ at eAu
    change a.tmps.getD 26 undef = _ at eRo
    change a.tmps.getD 29 undef = _ at eSp
    change a.tmps.getD 31 undef = _ at eRI
    change a.tmps.getD 34 undef = _ at ePo
    change a.tmps.getD 37 undef = _ at eLi
    change a.tmps.getD 40 undef = _ at eEd
    change a.tmps.getD 47 undef = _ at eIS
    change a.tmps.getD 54 undef = _ at eIM
    change a.tmps.getD 56 undef = _ at eLo
    change a.tmps.getD 58 undef = _ at eSq
    change a.tmps.getD 60 undef = _ at eSv
    change a.tmps.getD 63 undef = _ at eSu
    simp only [List.map_toArray, List.map_cons, List.map_nil, q, eSt, eLe, eFo, eSi, eFt, eLw, eHg, eAu, eRo, eSp, eRI, ePo, eLi, eEd, eIS, eIM, eLo, eSq, eSv, eSu]
  · exact run_build w _ _ _ (by kernel_rfl)
theorem sp_store {b r N : Nat} {w0 : World} {n : Nat} {L : Array Bool} {a : Act} {w : World} {Q : Exit → Act → World → Prop} (h : Iv b r N w0 n L a w) (hz : L.size = 63) (hr : 62 ∈ Region.ready .any picOps L) (hrb : r ≠ b) (hrw : r < w0.heap.size) (hr1 : (rowOf w0 r).size = 20) : Step b r N w0 Q n L a w 62 := by
  have h62 : L.getD 62 false = false := by
    have h2 := unlisted (mem_ready.1 hr).1
    rw [Array.getD_eq_getD_getElem?, h2]
    rfl
  obtain ⟨⟨M, hM1, hU⟩, hs⟩ := h.m h62
  have hall : ∀ i, i < 62 → L.getD i false = true := by
    intro i hi
    refine ready_dep hr ?_
    have key : ((List.range 62).all fun i => ((picOps[62]?).map fun o => o.after.any fun e => Region.binds .any e && e.on == i) == some true) = true := by kernel_rfl
    simpa using List.all_eq_true.1 key i (List.mem_range.2 hi)
  obtain ⟨p, e, hok⟩ := hs 61 .ag rfl (hall 61 (by omega))
  have hrow : rowOf w r = rowOf w0 r := rowOf_eq (hU.keeps r hrb hrw)
  refine st_store (w' := w.setRow r p.cs) (xt := 23) (s := 2) (s' := 64) (by kernel_rfl) h.t2 e ?_ ?_
  · have h20 : (rowOf w r).size = 20 := by rw [hrow]; exact hr1
    have hcs : p.cs.size = 20 := rfl
    have hone : ones p.cs.toList = true := rfl
    simp only [go_sem]
    exact set_all (n := 20) (by kernel_rfl) w r p.cs rfl (by decide) h20 rfl
  · refine ⟨h.d, h.z, h.t0, h.t2, fun h' => ?_, fun _ => ⟨fun i hi => ?_, p, M, w, hok, by omega, hU, rfl⟩⟩
    · rw [listed_set_same L 62 (by omega)] at h'
      cases h'
    · rw [listed_set_ne L 62 i (by omega)]
      exact hall i hi
theorem sp_all {b r N : Nat} {w0 : World} {n : Nat} {L : Array Bool} {a : Act} {w : World} {Q : Exit → Act → World → Prop} {len cap : Nat} {aa : Option Addr} (hb0 : Nb w0 b aa len cap N) (hM : N ≤ 99980000) (hn : n < 63) (hz : L.size = 63) (hrb : r ≠ b) (hrw : r < w0.heap.size) (hr1 : (rowOf w0 r).size = 20) :
    ∀ i, Iv b r N w0 n L a w → i ∈ Region.ready .any picOps L → i < 63 → Step b r N w0 Q n L a w i := by
  intro i h hr hi
  match i, h, hr, hi with
  | 0, h, hr, _ => exact sp_slice h hr hb0
  | 1, h, hr, _ => exact sp_move h hr (by omega) rfl (by kernel_rfl)
  | 2, h, hr, _ => exact sp_next (c := 6) (j := 1) (by omega) h hr (by omega) rfl (by kernel_rfl) rfl (by kernel_rfl) hb0 hM hn
  | 3, h, hr, _ => exact sp_ix h hr
  | 4, h, hr, _ => exact sp_load h hr
  | 5, h, hr, _ => exact sp_move h hr (by omega) rfl (by kernel_rfl)
  | 6, h, hr, _ => exact sp_flag (j := 5) h hr (by omega) rfl (by kernel_rfl) rfl (by kernel_rfl) hb0 hM hn
  | 7, h, hr, _ => exact sp_move h hr (by omega) rfl (by kernel_rfl)
  | 8, h, hr, _ => exact sp_flag (j := 7) h hr (by omega) rfl (by kernel_rfl) rfl (by kernel_rfl) hb0 hM hn
  | 9, h, hr, _ => exact sp_move h hr (by omega) rfl (by kernel_rfl)
  | 10, h, hr, _ => exact sp_flag (j := 9) h hr (by omega) rfl (by kernel_rfl) rfl (by kernel_rfl) hb0 hM hn
  | 11, h, hr, _ => exact sp_move h hr (by omega) rfl (by kernel_rfl)
  | 12, h, hr, _ => exact sp_flag (j := 11) h hr (by omega) rfl (by kernel_rfl) rfl (by kernel_rfl) hb0 hM hn
  | 13, h, hr, _ => exact sp_move h hr (by omega) rfl (by kernel_rfl)
  | 14, h, hr, _ => exact sp_byte (j := 13) h hr (by omega) rfl (by kernel_rfl) rfl (by kernel_rfl) hb0 hM hn
  | 15, h, hr, _ => exact sp_and (j := 14) (c := 224) h hr (by omega) rfl (by kernel_rfl) rfl (by kernel_rfl)
  | 16, h, hr, _ => exact sp_move h hr (by omega) rfl (by kernel_rfl)
  | 17, h, hr, _ => exact sp_byte (j := 16) h hr (by omega) rfl (by kernel_rfl) rfl (by kernel_rfl) hb0 hM hn
  | 18, h, hr, _ => exact sp_move h hr (by omega) rfl (by kernel_rfl)
  | 19, h, hr, _ => exact sp_next (c := 4) (j := 18) (by omega) h hr (by omega) rfl (by kernel_rfl) rfl (by kernel_rfl) hb0 hM hn
  | 20, h, hr, _ => exact sp_eql (j := 19) h hr (by omega) rfl (by kernel_rfl) rfl (by kernel_rfl)
  | 21, h, hr, _ => exact sp_move h hr (by omega) rfl (by kernel_rfl)
  | 22, h, hr, _ => exact sp_next (c := 4) (j := 21) (by omega) h hr (by omega) rfl (by kernel_rfl) rfl (by kernel_rfl) hb0 hM hn
  | 23, h, hr, _ => exact sp_eql (j := 22) h hr (by omega) rfl (by kernel_rfl) rfl (by kernel_rfl)
  | 24, h, hr, _ => exact sp_move h hr (by omega) rfl (by kernel_rfl)
  | 25, h, hr, _ => exact sp_next (c := 4) (j := 24) (by omega) h hr (by omega) rfl (by kernel_rfl) rfl (by kernel_rfl) hb0 hM hn
  | 26, h, hr, _ => exact sp_eql (j := 25) h hr (by omega) rfl (by kernel_rfl) rfl (by kernel_rfl)
  | 27, h, hr, _ => exact sp_move h hr (by omega) rfl (by kernel_rfl)
  | 28, h, hr, _ => exact sp_flag (j := 27) h hr (by omega) rfl (by kernel_rfl) rfl (by kernel_rfl) hb0 hM hn
  | 29, h, hr, _ => exact sp_move h hr (by omega) rfl (by kernel_rfl)
  | 30, h, hr, _ => exact sp_next (c := 6) (j := 29) (by omega) h hr (by omega) rfl (by kernel_rfl) rfl (by kernel_rfl) hb0 hM hn
  | 31, h, hr, _ => exact sp_eql (j := 30) h hr (by omega) rfl (by kernel_rfl) rfl (by kernel_rfl)
  | 32, h, hr, _ => exact sp_move h hr (by omega) rfl (by kernel_rfl)
  | 33, h, hr, _ => exact sp_next (c := 256) (j := 32) (by omega) h hr (by omega) rfl (by kernel_rfl) rfl (by kernel_rfl) hb0 hM hn
  | 34, h, hr, _ => exact sp_conv (j := 33) h hr (by omega) rfl (by kernel_rfl) rfl (by kernel_rfl)
  | 35, h, hr, _ => exact sp_move h hr (by omega) rfl (by kernel_rfl)
  | 36, h, hr, _ => exact sp_next (c := 256) (j := 35) (by omega) h hr (by omega) rfl (by kernel_rfl) rfl (by kernel_rfl) hb0 hM hn
  | 37, h, hr, _ => exact sp_conv (j := 36) h hr (by omega) rfl (by kernel_rfl) rfl (by kernel_rfl)
  | 38, h, hr, _ => exact sp_move h hr (by omega) rfl (by kernel_rfl)
  | 39, h, hr, _ => exact sp_next (c := 256) (j := 38) (by omega) h hr (by omega) rfl (by kernel_rfl) rfl (by kernel_rfl) hb0 hM hn
  | 40, h, hr, _ => exact sp_conv (j := 39) h hr (by omega) rfl (by kernel_rfl) rfl (by kernel_rfl)
  | 41, h, hr, _ => exact sp_move h hr (by omega) rfl (by kernel_rfl)
  | 42, h, hr, _ => exact sp_next (c := 256) (j := 41) (by omega) h hr (by omega) rfl (by kernel_rfl) rfl (by kernel_rfl) hb0 hM hn
  | 43, h, hr, _ => exact sp_conv (j := 42) h hr (by omega) rfl (by kernel_rfl) rfl (by kernel_rfl)
  | 44, h, hr, _ => exact sp_andt (j := 40) (j' := 43) h hr (by omega) rfl (by kernel_rfl) rfl (by kernel_rfl) rfl (by kernel_rfl)
  | 45, h, hr, _ => exact sp_move h hr (by omega) rfl (by kernel_rfl)
  | 46, h, hr, _ => exact sp_next (c := 256) (j := 45) (by omega) h hr (by omega) rfl (by kernel_rfl) rfl (by kernel_rfl) hb0 hM hn
  | 47, h, hr, _ => exact sp_conv (j := 46) h hr (by omega) rfl (by kernel_rfl) rfl (by kernel_rfl)
  | 48, h, hr, _ => exact sp_move h hr (by omega) rfl (by kernel_rfl)
  | 49, h, hr, _ => exact sp_next (c := 256) (j := 48) (by omega) h hr (by omega) rfl (by kernel_rfl) rfl (by kernel_rfl) hb0 hM hn
  | 50, h, hr, _ => exact sp_conv (j := 49) h hr (by omega) rfl (by kernel_rfl) rfl (by kernel_rfl)
  | 51, h, hr, _ => exact sp_andt (j := 47) (j' := 50) h hr (by omega) rfl (by kernel_rfl) rfl (by kernel_rfl) rfl (by kernel_rfl)
  | 52, h, hr, _ => exact sp_move h hr (by omega) rfl (by kernel_rfl)
  | 53, h, hr, _ => exact sp_next (c := 8) (j := 52) (by omega) h hr (by omega) rfl (by kernel_rfl) rfl (by kernel_rfl) hb0 hM hn
  | 54, h, hr, _ => exact sp_move h hr (by omega) rfl (by kernel_rfl)
  | 55, h, hr, _ => exact sp_next (c := 3) (j := 54) (by omega) h hr (by omega) rfl (by kernel_rfl) rfl (by kernel_rfl) hb0 hM hn
  | 56, h, hr, _ => exact sp_move h hr (by omega) rfl (by kernel_rfl)
  | 57, h, hr, _ => exact sp_next (c := 8) (j := 56) (by omega) h hr (by omega) rfl (by kernel_rfl) rfl (by kernel_rfl) hb0 hM hn
  | 58, h, hr, _ => exact sp_move h hr (by omega) rfl (by kernel_rfl)
  | 59, h, hr, _ => exact sp_next (c := 5) (j := 58) (by omega) h hr (by omega) rfl (by kernel_rfl) rfl (by kernel_rfl) hb0 hM hn
  | 60, h, hr, _ => exact sp_eql (j := 59) h hr (by omega) rfl (by kernel_rfl) rfl (by kernel_rfl)
  | 61, h, hr, _ => exact sp_build h hr
  | 62, h, hr, _ => exact sp_store h hz hr hrb hrw hr1
  | i + 63, _, _, hi => exact absurd hi (by omega)
set_option maxRecDepth 100000 in
set_option maxHeartbeats 8000000 in
theorem pic_any (b len cap N : Nat) (a : Option Addr) (hM : N ≤ 99980000) (w : World) (h : Nb w b a len cap N) :
    Calls Try.prog 11 #[.pointer (some ⟨b, 0, none⟩)] w fun e w' => ∃ (p : S.Pc) (M : Nat), S.Ok p ∧ M ≤ N + 126 ∧ e = .returned (.agg p.cs) ∧ Up w b M w' := by
  have hbw := h.lt
  have H : Hid _ := Lib.hid h
  clear h
  go_enter Try.func11, Try.ntmps11
  go_wp2_with fail
  rename_i QQ KK hKK
  refine region_as (ops' := picOps) (by kernel_rfl) ?_
  refine wp_region_any (by kernel_rfl) ?_
  have hb0 : Nb ((w.alloc (.cells #[.int .i64 (0), .bool (false), .bool (false), .bool (false), .bool (false), .int .u8 (0), .int .u8 (0), .bool (false), .bool (false), .bool (false), .bool (false), .bool (false), .int .u8 (0), .int .u8 (0), .int .u8 (0), .int .u8 (0), .int .i64 (0), .int .i64 (0), .int .i64 (0), .bool (false)] 23)).drew) b a len cap N := (H.out.alloc _).drew
  have hrw : w.heap.size < ((w.alloc (.cells #[.int .i64 (0), .bool (false), .bool (false), .bool (false), .bool (false), .int .u8 (0), .int .u8 (0), .bool (false), .bool (false), .bool (false), .bool (false), .bool (false), .int .u8 (0), .int .u8 (0), .int .u8 (0), .int .u8 (0), .int .i64 (0), .int .i64 (0), .int .i64 (0), .bool (false)] 23)).drew).heap.size := by simp [go_sem]
  have hr1 : (rowOf ((w.alloc (.cells #[.int .i64 (0), .bool (false), .bool (false), .bool (false), .bool (false), .int .u8 (0), .int .u8 (0), .bool (false), .bool (false), .bool (false), .bool (false), .bool (false), .int .u8 (0), .int .u8 (0), .int .u8 (0), .int .u8 (0), .int .i64 (0), .int .i64 (0), .int .i64 (0), .bool (false)] 23)).drew) w.heap.size).size = 20 := by simp [go_sem]
  have hsz : (picOps).size = 63 := by kernel_rfl
  refine wpAny_inv (Iv b w.heap.size N ((w.alloc (.cells #[.int .i64 (0), .bool (false), .bool (false), .bool (false), .bool (false), .int .u8 (0), .int .u8 (0), .bool (false), .bool (false), .bool (false), .bool (false), .bool (false), .int .u8 (0), .int .u8 (0), .int .u8 (0), .int .u8 (0), .int .i64 (0), .int .i64 (0), .int .i64 (0), .bool (false)] 23)).drew)) (fun n L a' w' i hn hz h hr => ?_) (fun n L a' w' hn hz h hr => ?_) _ 0 _ _ _ (by rw [Nat.zero_add]) (by simp) (Nat.le_trans List.countP_le_length (by simp)) ?_
  · rw [hsz] at hn hz
    have hi : i < 63 := by
      have h2 := (Array.getElem?_eq_some_iff.1 (unlisted (mem_ready.1 hr).1)).1
      omega
    exact sp_all hb0 hM hn hz (by omega) hrw hr1 i h hr hi
  · have hl := all_listed (by kernel_rfl) hz hr 62 (by rw [hsz]; omega)
    obtain ⟨_, p, M, w1, hok, hM1, hU, rfl⟩ := h.l hl
    have hrow : (rowOf w1 w.heap.size).size = 20 := by rw [rowOf_eq (hU.keeps w.heap.size (by omega) hrw)]; exact hr1
    have hU' : Up w b M w1 := Up.pre (o := .cells #[.int .i64 (0), .bool (false), .bool (false), .bool (false), .bool (false), .int .u8 (0), .int .u8 (0), .bool (false), .bool (false), .bool (false), .bool (false), .bool (false), .int .u8 (0), .int .u8 (0), .int .u8 (0), .int .u8 (0), .int .i64 (0), .int .i64 (0), .int .i64 (0), .bool (false)] 23) hU hbw
    have hs : (w.setCell ⟨b, 1, none⟩ (.int .i64 (M : Int))).heap.size = w.heap.size := Array.size_modify ..
    rw [hsz] at hn
    refine hKK _ _ ?_
    go_wp2_with fail
    exact bodyPost_ret (v := .agg p.cs) (ret_PIC Try.results11 h.t2 (rowOf_setRow (by omega)) rfl) h.d ⟨p, M, hok, by omega, rfl, Adds.setRow hU' (by omega) _⟩
  · exact ⟨rfl, rfl, rfl, rfl, fun _ => ⟨⟨N, by omega, Up.refl hb0⟩, fun i k _ hl => by rw [replicate_getD] at hl; cases hl⟩, fun hl => by rw [replicate_getD] at hl; cases hl⟩
end Go.Proofs.Ytionembpmfahlaa
