/- What makes a law's items, its first statement: it reads slices' cells next to five calls, so its region draws its order: by what holds between its operations. Condition: the numbers' list lies in blocks below the box. -/
import Derived.Test.YtfhnfakjjfjohaaCI
import Derived.Test.YtfhnfakjjfjohaaMT
import Derived.Test.YtfhnfakjjfjohaaMW
namespace Go.Proofs.Ytfhnfakjjfjohaa
open Go.ChangeShapes Go.WideShapes Go.ChangeAt Go.RowKit
set_option linter.unusedVariables false
/-- What a slot holds. -/
inductive Jd where
  | box
  | nx (n : Int)
  | bo
  | sl (n : Nat) (c : Array Value)
  | ix (n : Nat) (c : Array Value)
  | st
  | ag
  | pt
def j8 : Array Value := #[.int .i64 1, .int .i64 1, .int .i64 1, .int .i64 2, .int .i64 3, .int .i64 4, .int .i64 0, .int .i64 5]
def j6 : Array Value := #[.int .i64 0, .int .i64 0, .int .i64 0, .int .i64 1, .int .i64 3, .int .i64 (-1)]
def Jd.ok (b z : Nat) (w : World) (v : Value) : Jd → Prop
  | .box => v = .pointer (some ⟨b, 0, none⟩)
  | .nx n => ∃ y : Int, (0 ≤ y ∧ y < n) ∧ v = .int .i64 y
  | .bo => ∃ f : Bool, v = .bool f
  | .sl n c => ∃ bs, v = .slice (some ⟨bs, 0, none⟩) n n ∧ bs ≠ b ∧ w.heap[bs]? = some (.cells c 3 (0, 0))
  | .ix n c => ∃ bs k, v = .pointer (some ⟨bs, k, none⟩) ∧ k < n ∧ bs ≠ b ∧ w.heap[bs]? = some (.cells c 3 (0, 0))
  | .st => ∃ y : Int, v = .int .i64 y
  | .ag => ∃ p : S.It, v = .agg p.cs
  | .pt => ∃ r, v = .pointer (some ⟨r, 0, none⟩) ∧ r ≠ b ∧ z ≤ r ∧ w.heap[r]? = some (.cells S.It.zero.cs 44 (0, 0))
def js : List Jd := [.sl 8 j8, .box, .nx 8, .ix 8 j8, .st, .sl 6 j6, .box, .nx 6, .ix 6 j6, .st, .box, .nx 8, .st, .box, .bo, .box, .bo, .ag, .pt]
/-- The slot of an operation. -/
def jsl (i : Nat) : Nat := if i = 18 then 6 else i + 15
/-- All blocks but b are as they were. -/
def KeepsJ (b : Nat) (w w' : World) : Prop := ∀ c, c ≠ b → c < w.heap.size → w'.heap[c]? = w.heap[c]?
theorem Jd.keep {b z : Nat} {w w' : World} {v : Value} (h : KeepsJ b w w') : ∀ {k : Jd}, k.ok b z w v → k.ok b z w' v
  | .box, hk => hk
  | .nx _, hk => hk
  | .bo, hk => hk
  | .sl _ _, ⟨bs, h1, h2, h3⟩ => ⟨bs, h1, h2, (h bs h2 (Array.getElem?_eq_some_iff.1 h3).1).trans h3⟩
  | .ix _ _, ⟨bs, k, h1, h0, h2, h3⟩ => ⟨bs, k, h1, h0, h2, (h bs h2 (Array.getElem?_eq_some_iff.1 h3).1).trans h3⟩
  | .st, hk => hk
  | .ag, hk => hk
  | .pt, ⟨r, h1, h2, h4, h3⟩ => ⟨r, h1, h2, h4, (h r h2 (Array.getElem?_eq_some_iff.1 h3).1).trans h3⟩
theorem Up.keepsJ {w w' : World} {b N : Nat} (h : Up w b N w') : KeepsJ b w w' := by
  obtain ⟨⟨n, os⟩, rfl⟩ := h
  intro c hc hl
  have e : (w.setCell ⟨b, 1, none⟩ (.int .i64 (N : Int))).heap.size = w.heap.size := Array.size_modify ..
  rw [More_heap _ _ _ (by rw [e]; exact hl), heap_setCell_other w ⟨b, 1, none⟩ c _ hc]
theorem Up.size {w w' : World} {b N : Nat} (h : Up w b N w') : w.heap.size ≤ w'.heap.size := by
  have := Adds.below h
  have e : (w.setCell ⟨b, 1, none⟩ (.int .i64 (N : Int))).heap.size = w.heap.size := Array.size_modify ..
  have := this.size
  omega
theorem Up.reflJ {w : World} {b len cap N : Nat} {a : Option Addr} (h : Nb w b a len cap N) : Up w b N w := by
  have e : w.setCell ⟨b, 1, none⟩ (.int .i64 (N : Int)) = w := by
    have hs := heap_setCell_same w b 1 _ _ (.int .i64 (N : Int)) h.1
    have hw : (w.setCell ⟨b, 1, none⟩ (.int .i64 (N : Int))).heap = w.heap := by
      apply Array.ext_getElem?
      intro k
      by_cases hk : k = b
      · subst hk; rw [hs, h.1]; rfl
      · exact heap_setCell_other w ⟨b, 1, none⟩ k _ hk
    show ({ w with heap := (w.setCell ⟨b, 1, none⟩ (.int .i64 (N : Int))).heap } : World) = w
    rw [hw]
  unfold Up
  rw [e]
  exact Adds.refl w
theorem Adds.setRowJ {w w' : World} (h : Adds w w') {b : Nat} (hb : w.heap.size ≤ b) (cs : Array Value) : Adds w (w'.setRow b cs) := by
  obtain ⟨⟨n, os⟩, rfl⟩ := h
  have e : (More w n os).setRow b cs = (More w n os).setRow b cs := rfl
  conv at e => rhs; simp only [World.setRow, More]; rw [modify_right _ _ _ _ hb]
  exact ⟨⟨n, _⟩, e⟩
/-- What holds between the operations: n of them have been carried out, those of L. -/
structure Jv (b N : Nat) (w0 : World) (a0 : Act) (n : Nat) (L : Array Bool) (a : Act) (w : World) : Prop where
  d : a.defers = a0.defers
  z : a.tmps.size = 65
  t3 : a.tmps.getD 3 undef = .pointer (some ⟨b, 0, none⟩)
  o : ∀ j, j ≠ 6 → (j < 15 ∨ 33 ≤ j) → a.tmps.getD j undef = a0.tmps.getD j undef
  m : L.getD 19 false = false → (∃ M, M ≤ N + 2 * n ∧ Up w0 b M w) ∧ ∀ i k, js[i]? = some k → L.getD i false = true → k.ok b w0.heap.size w (a.tmps.getD (jsl i) undef)
  l : L.getD 19 false = true → (∀ i, i < 19 → L.getD i false = true) ∧ ∃ (p : S.It) (M r : Nat) (w1 : World), M ≤ N + 2 * n ∧ Up w0 b M w1 ∧ (r ≠ b ∧ w0.heap.size ≤ r) ∧ a.tmps.getD 6 undef = .pointer (some ⟨r, 0, none⟩) ∧ w1.heap[r]? = some (.cells S.It.zero.cs 44 (0, 0)) ∧ w = w1.setRow r p.cs
section
variable {b N : Nat} {w0 : World} {a0 : Act} {n : Nat} {L : Array Bool} {a : Act} {w w' : World} {ops : Array Oper} {md : Region.Mode} {i : Nat}
theorem Jv.open (h : Jv b N w0 a0 n L a w) (hr : i ∈ Region.ready md ops L) (hi : i < 19) : L.getD 19 false = false := by
  cases h62 : L.getD 19 false with
  | false => rfl
  | true =>
    have h1 := (h.l h62).1 i hi
    have h2 := unlisted (mem_ready.1 hr).1
    rw [Array.getD_eq_getD_getElem?, h2] at h1
    cases h1
theorem jsl_inj {i j : Nat} (hi : i < 19) (hj : j < 19) (h : jsl i = jsl j) : i = j := by
  unfold jsl at h
  split at h <;> split at h <;> omega
theorem Jv.put (h : Jv b N w0 a0 n L a w) (hr : i ∈ Region.ready md ops L) (hi : i < 19) {k : Jd} (hk : js[i]? = some k) {v : Value} (hv : k.ok b w0.heap.size w' v) (hw : KeepsJ b w w') {M : Nat} (hM : M ≤ N + 2 * (n + 1)) (hU : Up w0 b M w') :
    Jv b N w0 a0 (n + 1) (L.setIfInBounds i true) (a.put (some (jsl i)) v) w' := by
  have h62 := h.open hr hi
  have hne : i ≠ 19 := by omega
  have g : ∀ j, j ≠ jsl i → (a.put (some (jsl i)) v).tmps.getD j undef = a.tmps.getD j undef := fun j hj => by
    simp [Act.put, Array.getElem?_setIfInBounds_ne (Ne.symm hj)]
  have hb : jsl i < 65 ∧ jsl i ≠ 3 ∧ (jsl i = 6 ∨ (15 ≤ jsl i ∧ jsl i < 33)) := by unfold jsl; split <;> omega
  have g' : (a.put (some (jsl i)) v).tmps.getD (jsl i) undef = v := by
    have : jsl i < a.tmps.size := by rw [h.z]; omega
    simp [Act.put, this]
  refine ⟨h.d, by simpa [Act.put] using h.z, by rw [g 3 (by omega)]; exact h.t3, fun j h6 hj => by rw [g j (by omega)]; exact h.o j h6 hj, fun _ => ⟨⟨M, hM, hU⟩, fun j k' hk' hl => ?_⟩, fun h' => ?_⟩
  · have hj : j < 19 := (List.getElem?_eq_some_iff.1 hk').1
    rcases listed_set L i j hl with e | hl'
    · subst e
      rw [hk] at hk'
      cases hk'
      rw [g']
      exact hv
    · by_cases e : j = i
      · subst e
        rw [hk] at hk'
        cases hk'
        rw [g']
        exact hv
      · rw [g (jsl j) (fun e' => e (jsl_inj hj hi e'))]
        exact Jd.keep hw ((h.m h62).2 j k' hk' hl')
  · rw [listed_set_ne L i 19 hne, h62] at h'
    cases h'
theorem Jv.same (h : Jv b N w0 a0 n L a w) (hr : i ∈ Region.ready md ops L) (hi : i < 19) {k : Jd} (hk : js[i]? = some k) {v : Value} (hv : k.ok b w0.heap.size w v) :
    Jv b N w0 a0 (n + 1) (L.setIfInBounds i true) (a.put (some (jsl i)) v) w := by
  obtain ⟨M, hM, hU⟩ := (h.m (h.open hr hi)).1
  exact h.put hr hi hk hv (fun _ _ _ => rfl) (by omega) hU
theorem Jv.get (h : Jv b N w0 a0 n L a w) (hr : i ∈ Region.ready md ops L) (hi : i < 19) {j : Nat} {k : Jd} (hk : js[j]? = some k) (hj : ((ops[i]?).map fun o => o.after.any fun e => Region.binds md e && e.on == j) = some true) : k.ok b w0.heap.size w (a.tmps.getD (jsl j) undef) :=
  (h.m (h.open hr hi)).2 j k hk (ready_dep hr hj)
end
/-- The operations of a code's region of that number. -/
def regOps : Code → Nat → Option (Array Oper)
  | .region i ops _, k => if i = k then some ops else none
  | .seq c d, k => (regOps c k).orElse fun _ => regOps d k
  | .block _ c, k => regOps c k
  | .loop c, k => regOps c k
  | .cond _ c d, k => (regOps c k).orElse fun _ => regOps d k
  | _, _ => none
@[noinline] def sixthOps (f : Func) : Array Oper := match f.body with
  | some c => (regOps c 6).getD #[]
  | _ => #[]
noncomputable abbrev mdOps : Array Oper := sixthOps Try.f9
theorem mdOps_size : (mdOps).size = 20 := by kernel_rfl
section
variable {b N : Nat} {w0 : World} {a0 : Act} {n : Nat} {L : Array Bool} {a : Act} {w : World} {i s t j : Nat} {len cap : Nat} {aa : Option Addr}
/-- One operation's step. -/
abbrev JStep (b N : Nat) (w0 : World) (a0 : Act) (Q : Exit → Act → World → Prop) (n : Nat) (L : Array Bool) (a : Act) (w : World) (i : Nat) : Prop :=
  wpOp Try.prog mdOps Q i (fun a' w' => Jv b N w0 a0 (n + 1) (L.setIfInBounds i true) a' w') a w
variable {Q : Exit → Act → World → Prop}
theorem jp_move (h : Jv b N w0 a0 n L a w) (hr : i ∈ Region.ready .any mdOps L) (hi : i < 19) (hk : js[i]? = some .box)
    (ho : (mdOps[i]?).map (fun o => (o.dst, o.op, o.guard)) = some (some (jsl i), .move (.tmp 3), none)) : JStep b N w0 a0 Q n L a w i :=
  st_move ho h.t3 (h.same hr hi hk rfl)
theorem jp_next {c : Int} (c0 : 1 ≤ c ∧ c ≤ 65536) (h : Jv b N w0 a0 n L a w) (hr : i ∈ Region.ready .any mdOps L) (hi : i < 19) (hk : js[i]? = some (.nx c))
    (ho : (mdOps[i]?).map (fun o => (o.dst, o.op, o.guard)) = some (some (jsl i), .call { callee := .value (.func 15), args := #[.tmp (jsl j), .const (.int .i64 c)], argTypes := #[35, 3] }, none)) (hj : js[j]? = some .box) (hd : ((mdOps[i]?).map fun o => o.after.any fun e => Region.binds .any e && e.on == j) = some true)
    (hb0 : Nb w0 b aa len cap N) (hM : N ≤ 90000000) (hn : n < 20) : JStep b N w0 a0 Q n L a w i := by
  obtain ⟨⟨M, hM1, hU⟩, _⟩ := h.m (h.open hr hi)
  refine st_call2 ho (h.get hr hi hj hd) (by simp [go_sem]) ?_
  refine (nx_any b len cap M aa c c0.1 c0.2 (by omega) _ (hb0.up hU)).mono ?_
  rintro e w2 ⟨y, M2, hy0, hy1, hM2, rfl, hU2⟩
  exact ⟨_, rfl, h.put hr hi hk ⟨y, ⟨hy0, hy1⟩, rfl⟩ hU2.keepsJ (M := M2) (by omega) (hU.then hb0.lt hU2)⟩
theorem jp_flag (h : Jv b N w0 a0 n L a w) (hr : i ∈ Region.ready .any mdOps L) (hi : i < 19) (hk : js[i]? = some .bo)
    (ho : (mdOps[i]?).map (fun o => (o.dst, o.op, o.guard)) = some (some (jsl i), .call { callee := .value (.func 22), args := #[.tmp (jsl j)], argTypes := #[35] }, none)) (hj : js[j]? = some .box) (hd : ((mdOps[i]?).map fun o => o.after.any fun e => Region.binds .any e && e.on == j) = some true)
    (hb0 : Nb w0 b aa len cap N) (hM : N ≤ 90000000) (hn : n < 20) : JStep b N w0 a0 Q n L a w i := by
  obtain ⟨⟨M, hM1, hU⟩, _⟩ := h.m (h.open hr hi)
  refine st_call1 ho (h.get hr hi hj hd) (by simp [go_sem]) ?_
  refine (flg_any b len cap M aa (by omega) _ (hb0.up hU)).mono ?_
  rintro e w2 ⟨f, M2, hM2, rfl, hU2⟩
  exact ⟨_, rfl, h.put hr hi hk ⟨f, rfl⟩ hU2.keepsJ (M := M2) (by omega) (hU.then hb0.lt hU2)⟩
end
theorem jp_slice0 {b N : Nat} {w0 : World} {a0 : Act} {n : Nat} {L : Array Bool} {a : Act} {w : World} {Q : Exit → Act → World → Prop} (h : Jv b N w0 a0 n L a w) (hr : 0 ∈ Region.ready .any mdOps L) {aa : Option Addr} {len cap : Nat} (hb0 : Nb w0 b aa len cap N) : JStep b N w0 a0 Q n L a w 0 := by
  obtain ⟨⟨M, hM1, hU⟩, _⟩ := h.m (h.open hr (by omega))
  have hbw : b < w.heap.size := (hb0.up hU).lt
  refine st_buildSlice (xt := 23) (len := 8) (v := .slice (some ⟨w.heap.size, 0, none⟩) 8 8) (w' := w.alloc (.cells j8 3)) (parts := #[(0, .const (.int .i64 1)), (1, .const (.int .i64 1)), (2, .const (.int .i64 1)), (3, .const (.int .i64 2)), (4, .const (.int .i64 3)), (5, .const (.int .i64 4)), (6, .const (.int .i64 0)), (7, .const (.int .i64 5))]) (t := 15) (by kernel_rfl) rfl ?_ ?_
  · simp [go_sem, j8]
  · exact h.put hr (by omega) (k := .sl 8 j8) rfl ⟨w.heap.size, rfl, by omega, heap_last w _⟩ (fun c _ hc => heap_past w _ hc) (M := M) (by omega) (hU.alloc _)
theorem jp_slice5 {b N : Nat} {w0 : World} {a0 : Act} {n : Nat} {L : Array Bool} {a : Act} {w : World} {Q : Exit → Act → World → Prop} (h : Jv b N w0 a0 n L a w) (hr : 5 ∈ Region.ready .any mdOps L) {aa : Option Addr} {len cap : Nat} (hb0 : Nb w0 b aa len cap N) : JStep b N w0 a0 Q n L a w 5 := by
  obtain ⟨⟨M, hM1, hU⟩, _⟩ := h.m (h.open hr (by omega))
  have hbw : b < w.heap.size := (hb0.up hU).lt
  refine st_buildSlice (xt := 23) (len := 6) (v := .slice (some ⟨w.heap.size, 0, none⟩) 6 6) (w' := w.alloc (.cells j6 3)) (parts := #[(0, .const (.int .i64 0)), (1, .const (.int .i64 0)), (2, .const (.int .i64 0)), (3, .const (.int .i64 1)), (4, .const (.int .i64 3)), (5, .const (.int .i64 (-1)))]) (t := 20) (by kernel_rfl) rfl ?_ ?_
  · simp [go_sem, j6]
  · exact h.put hr (by omega) (k := .sl 6 j6) rfl ⟨w.heap.size, rfl, by omega, heap_last w _⟩ (fun c _ hc => heap_past w _ hc) (M := M) (by omega) (hU.alloc _)
theorem jp_ix3 {b N : Nat} {w0 : World} {a0 : Act} {n : Nat} {L : Array Bool} {a : Act} {w : World} {Q : Exit → Act → World → Prop} (h : Jv b N w0 a0 n L a w) (hr : 3 ∈ Region.ready .any mdOps L) : JStep b N w0 a0 Q n L a w 3 := by
  obtain ⟨bs, e, hne, hh⟩ := h.get (j := 0) (k := .sl 8 j8) hr (by omega) rfl (by kernel_rfl)
  obtain ⟨y, hy, e'⟩ := h.get (j := 2) (k := .nx 8) hr (by omega) rfl (by kernel_rfl)
  obtain ⟨k, rfl⟩ : ∃ k : Nat, y = (k : Int) := ⟨y.toNat, by omega⟩
  have hk : k < 8 := by omega
  refine st_indexAddr (v := .pointer (some ⟨bs, k, none⟩)) (xt := 23) (t := 18) (by kernel_rfl) e e' ?_ (h.same hr (by omega) (k := .ix 8 j8) rfl ⟨bs, k, rfl, hk, hne, hh⟩)
  have h6 : (k : Int) < 8 := hy.2
  simp [go_sem, h6]
theorem jp_ix8 {b N : Nat} {w0 : World} {a0 : Act} {n : Nat} {L : Array Bool} {a : Act} {w : World} {Q : Exit → Act → World → Prop} (h : Jv b N w0 a0 n L a w) (hr : 8 ∈ Region.ready .any mdOps L) : JStep b N w0 a0 Q n L a w 8 := by
  obtain ⟨bs, e, hne, hh⟩ := h.get (j := 5) (k := .sl 6 j6) hr (by omega) rfl (by kernel_rfl)
  obtain ⟨y, hy, e'⟩ := h.get (j := 7) (k := .nx 6) hr (by omega) rfl (by kernel_rfl)
  obtain ⟨k, rfl⟩ : ∃ k : Nat, y = (k : Int) := ⟨y.toNat, by omega⟩
  have hk : k < 6 := by omega
  refine st_indexAddr (v := .pointer (some ⟨bs, k, none⟩)) (xt := 23) (t := 23) (by kernel_rfl) e e' ?_ (h.same hr (by omega) (k := .ix 6 j6) rfl ⟨bs, k, rfl, hk, hne, hh⟩)
  have h6 : (k : Int) < 6 := hy.2
  simp [go_sem, h6]
theorem jp_load4 {b N : Nat} {w0 : World} {a0 : Act} {n : Nat} {L : Array Bool} {a : Act} {w : World} {Q : Exit → Act → World → Prop} (h : Jv b N w0 a0 n L a w) (hr : 4 ∈ Region.ready .any mdOps L) : JStep b N w0 a0 Q n L a w 4 := by
  obtain ⟨bs, k, e, hk, hne, hh⟩ := h.get (j := 3) (k := .ix 8 j8) hr (by omega) rfl (by kernel_rfl)
  have hc : ∃ z : Int, w.cell? ⟨bs, k, none⟩ = some (.int .i64 z) := by
    rw [cell_of_row w bs k _ _ _ hh]
    have hq : k = 0 ∨ k = 1 ∨ k = 2 ∨ k = 3 ∨ k = 4 ∨ k = 5 ∨ k = 6 ∨ k = 7 := by omega
    repeat (first | (rcases hq with rfl | hq; exact ⟨_, rfl⟩) | (subst hq; exact ⟨_, rfl⟩))
  obtain ⟨z, hc⟩ := hc
  refine st_load (v := .int .i64 z) (xt := 3) (t := 19) (by kernel_rfl) e ?_ (h.same hr (by omega) (k := .st) rfl ⟨z, rfl⟩)
  simp [go_sem, hc]
theorem jp_load9 {b N : Nat} {w0 : World} {a0 : Act} {n : Nat} {L : Array Bool} {a : Act} {w : World} {Q : Exit → Act → World → Prop} (h : Jv b N w0 a0 n L a w) (hr : 9 ∈ Region.ready .any mdOps L) : JStep b N w0 a0 Q n L a w 9 := by
  obtain ⟨bs, k, e, hk, hne, hh⟩ := h.get (j := 8) (k := .ix 6 j6) hr (by omega) rfl (by kernel_rfl)
  have hc : ∃ z : Int, w.cell? ⟨bs, k, none⟩ = some (.int .i64 z) := by
    rw [cell_of_row w bs k _ _ _ hh]
    have hq : k = 0 ∨ k = 1 ∨ k = 2 ∨ k = 3 ∨ k = 4 ∨ k = 5 := by omega
    repeat (first | (rcases hq with rfl | hq; exact ⟨_, rfl⟩) | (subst hq; exact ⟨_, rfl⟩))
  obtain ⟨z, hc⟩ := hc
  refine st_load (v := .int .i64 z) (xt := 3) (t := 24) (by kernel_rfl) e ?_ (h.same hr (by omega) (k := .st) rfl ⟨z, rfl⟩)
  simp [go_sem, hc]
theorem jp_sub {b N : Nat} {w0 : World} {a0 : Act} {n : Nat} {L : Array Bool} {a : Act} {w : World} {Q : Exit → Act → World → Prop} (h : Jv b N w0 a0 n L a w) (hr : 12 ∈ Region.ready .any mdOps L) : JStep b N w0 a0 Q n L a w 12 := by
  obtain ⟨y, hy, e⟩ := h.get (j := 11) (k := .nx 8) hr (by omega) rfl (by kernel_rfl)
  exact st_binc (op := .sub) (c := .int .i64 1) (xt := 3) (yt := 3) (t := 27) (v := .int .i64 (IntKind.i64.wrap (y - 1))) (by kernel_rfl) e (by simp [go_sem]) (h.same hr (by omega) (k := .st) rfl ⟨_, rfl⟩)
theorem jp_build {b N : Nat} {w0 : World} {a0 : Act} {n : Nat} {L : Array Bool} {a : Act} {w : World} {Q : Exit → Act → World → Prop} (h : Jv b N w0 a0 n L a w) (hr : 17 ∈ Region.ready .any mdOps L) : JStep b N w0 a0 Q n L a w 17 := by
  obtain ⟨yk, ek⟩ := h.get (j := 4) (k := .st) hr (by omega) rfl (by kernel_rfl)
  obtain ⟨yw, ew⟩ := h.get (j := 9) (k := .st) hr (by omega) rfl (by kernel_rfl)
  obtain ⟨yn, en⟩ := h.get (j := 12) (k := .st) hr (by omega) rfl (by kernel_rfl)
  obtain ⟨ye, ee⟩ := h.get (j := 14) (k := .bo) hr (by omega) rfl (by kernel_rfl)
  obtain ⟨yo, eo⟩ := h.get (j := 16) (k := .bo) hr (by omega) rfl (by kernel_rfl)
  refine st_build (xt := 44) (t := 32) (parts := #[(0, .tmp 19), (2, .tmp 24), (3, .tmp 27), (4, .tmp 29), (5, .tmp 31)]) (vs := #[(0, .int .i64 yk), (2, .int .i64 yw), (3, .int .i64 yn), (4, .bool ye), (5, .bool yo)]) (v := .agg (S.It.cs ⟨yk, 0, 0, 0, 0, yw, yn, ye, yo⟩)) (w' := w) (by kernel_rfl) ?_ ?_ (h.same hr (by omega) (k := .ag) rfl ⟨_, rfl⟩)
  · have q : ∀ t, a.eval (.tmp t) = a.tmps.getD t undef := fun _ => rfl
    change a.tmps.getD 19 undef = _ at ek
    change a.tmps.getD 24 undef = _ at ew
    change a.tmps.getD 27 undef = _ at en
    change a.tmps.getD 29 undef = _ at ee
    change a.tmps.getD 31 undef = _ at eo
    simp only [List.map_toArray, List.map_cons, List.map_nil, q, ek, ew, en, ee, eo]
  · exact run_build w _ _ _ (by kernel_rfl)
theorem jp_alloc {b N : Nat} {w0 : World} {a0 : Act} {n : Nat} {L : Array Bool} {a : Act} {w : World} {Q : Exit → Act → World → Prop} (h : Jv b N w0 a0 n L a w) (hr : 18 ∈ Region.ready .any mdOps L) {aa : Option Addr} {len cap : Nat} (hb0 : Nb w0 b aa len cap N) : JStep b N w0 a0 Q n L a w 18 := by
  obtain ⟨⟨M, hM1, hU⟩, _⟩ := h.m (h.open hr (by omega))
  have hbw : b < w.heap.size := (hb0.up hU).lt
  obtain ⟨ty, pos, aft, ho⟩ := op_of (ops := mdOps) (i := 18) (d := some 6) (op := .alloc 44) (by kernel_rfl)
  refine st_val (t := 6) (v := .pointer (some ⟨w.heap.size, 0, none⟩)) (w' := w.alloc (.cells S.It.zero.cs 44)) ho rfl rfl ?_ ?_
  · simp [go_sem, S.It.cs, S.It.zero]
  · exact h.put hr (by omega) (k := .pt) rfl ⟨w.heap.size, rfl, by omega, hU.size, heap_last w _⟩ (fun c _ hc => heap_past w _ hc) (M := M) (by omega) (hU.alloc _)
theorem jp_store {b N : Nat} {w0 : World} {a0 : Act} {n : Nat} {L : Array Bool} {a : Act} {w : World} {Q : Exit → Act → World → Prop} (h : Jv b N w0 a0 n L a w) (hz : L.size = 20) (hr : 19 ∈ Region.ready .any mdOps L) : JStep b N w0 a0 Q n L a w 19 := by
  have h62 : L.getD 19 false = false := by
    have h2 := unlisted (mem_ready.1 hr).1
    rw [Array.getD_eq_getD_getElem?, h2]
    rfl
  obtain ⟨⟨M, hM1, hU⟩, hs⟩ := h.m h62
  have hall : ∀ i, i < 19 → L.getD i false = true := by
    intro i hi
    refine ready_dep hr ?_
    have key : ((List.range 19).all fun i => ((mdOps[19]?).map fun o => o.after.any fun e => Region.binds .any e && e.on == i) == some true) = true := by kernel_rfl
    simpa using List.all_eq_true.1 key i (List.mem_range.2 hi)
  obtain ⟨p, e⟩ := hs 17 .ag rfl (hall 17 (by omega))
  obtain ⟨r, e6, hrb, hrz, hrh⟩ := hs 18 .pt rfl (hall 18 (by omega))
  have hrow : rowOf w r = S.It.zero.cs := by unfold rowOf; rw [hrh]; rfl
  refine st_store (w' := w.setRow r p.cs) (xt := 44) (s := 6) (s' := 32) (by kernel_rfl) e6 e ?_ ?_
  · simp only [go_sem]
    exact set_all (n := 9) (by kernel_rfl) w r p.cs rfl (by decide) (by rw [hrow]; rfl) rfl
  · refine ⟨h.d, h.z, h.t3, h.o, fun h' => ?_, fun _ => ⟨fun i hi => ?_, p, M, r, w, by omega, hU, ⟨hrb, hrz⟩, e6, hrh, rfl⟩⟩
    · rw [listed_set_same L 19 (by omega)] at h'
      cases h'
    · rw [listed_set_ne L 19 i (by omega)]
      exact hall i hi
theorem jp_all {b N : Nat} {w0 : World} {a0 : Act} {n : Nat} {L : Array Bool} {a : Act} {w : World} {Q : Exit → Act → World → Prop} {len cap : Nat} {aa : Option Addr} (hb0 : Nb w0 b aa len cap N) (hM : N ≤ 90000000) (hn : n < 20) (hz : L.size = 20) :
    ∀ i, Jv b N w0 a0 n L a w → i ∈ Region.ready .any mdOps L → i < 20 → JStep b N w0 a0 Q n L a w i := by
  intro i h hr hi
  match i, h, hr, hi with
  | 0, h, hr, _ => exact jp_slice0 h hr hb0
  | 1, h, hr, _ => exact jp_move h hr (by omega) rfl (by kernel_rfl)
  | 2, h, hr, _ => exact jp_next (c := 8) (j := 1) (by omega) h hr (by omega) rfl (by kernel_rfl) rfl (by kernel_rfl) hb0 hM hn
  | 3, h, hr, _ => exact jp_ix3 h hr
  | 4, h, hr, _ => exact jp_load4 h hr
  | 5, h, hr, _ => exact jp_slice5 h hr hb0
  | 6, h, hr, _ => exact jp_move h hr (by omega) rfl (by kernel_rfl)
  | 7, h, hr, _ => exact jp_next (c := 6) (j := 6) (by omega) h hr (by omega) rfl (by kernel_rfl) rfl (by kernel_rfl) hb0 hM hn
  | 8, h, hr, _ => exact jp_ix8 h hr
  | 9, h, hr, _ => exact jp_load9 h hr
  | 10, h, hr, _ => exact jp_move h hr (by omega) rfl (by kernel_rfl)
  | 11, h, hr, _ => exact jp_next (c := 8) (j := 10) (by omega) h hr (by omega) rfl (by kernel_rfl) rfl (by kernel_rfl) hb0 hM hn
  | 12, h, hr, _ => exact jp_sub h hr
  | 13, h, hr, _ => exact jp_move h hr (by omega) rfl (by kernel_rfl)
  | 14, h, hr, _ => exact jp_flag (j := 13) h hr (by omega) rfl (by kernel_rfl) rfl (by kernel_rfl) hb0 hM hn
  | 15, h, hr, _ => exact jp_move h hr (by omega) rfl (by kernel_rfl)
  | 16, h, hr, _ => exact jp_flag (j := 15) h hr (by omega) rfl (by kernel_rfl) rfl (by kernel_rfl) hb0 hM hn
  | 17, h, hr, _ => exact jp_build h hr
  | 18, h, hr, _ => exact jp_alloc h hr hb0
  | 19, h, hr, _ => exact jp_store h hz hr
  | i + 20, _, _, hi => exact absurd hi (by omega)
/-- The whole region: an item in a block of its own, some numbers on. -/
theorem jp_region {b N : Nat} {w0 : World} {a0 : Act} {len cap : Nat} {aa : Option Addr} {Q : Exit → Act → World → Prop} (hb0 : Nb w0.drew b aa len cap N) (hM : N ≤ 90000000) (hz : a0.tmps.size = 65) (h3 : a0.tmps.getD 3 undef = .pointer (some ⟨b, 0, none⟩))
    (hK : ∀ (a : Act) (w : World) (p : S.It) (M r : Nat), a.defers = a0.defers → a.tmps.size = 65 → (∀ j, j ≠ 6 → (j < 15 ∨ 33 ≤ j) → a.tmps.getD j undef = a0.tmps.getD j undef) → a.tmps.getD 6 undef = .pointer (some ⟨r, 0, none⟩) → M ≤ N + 40 → Up w0 b M w → r ≠ b → w0.heap.size ≤ r → w.heap[r]? = some (.cells p.cs 44 (0, 0)) → Q .normal a w) :
    (Code.region 6 mdOps true).wp Try.prog Q a0 w0 := by
  refine wp_region_any (by kernel_rfl) ?_
  refine wpAny_inv (Jv b N w0.drew a0) (fun n L a' w' i hn hz' h hr => ?_) (fun n L a' w' hn hz' h hr => ?_) _ 0 _ _ _ (by rw [Nat.zero_add]) (by simp) (Nat.le_trans List.countP_le_length (by simp)) ?_
  · rw [mdOps_size] at hn hz'
    have hi : i < 20 := by
      have h2 := (Array.getElem?_eq_some_iff.1 (unlisted (mem_ready.1 hr).1)).1
      omega
    exact jp_all hb0 hM hn hz' i h hr hi
  · have hl := all_listed (by kernel_rfl) hz' hr 19 (by rw [mdOps_size]; omega)
    obtain ⟨_, p, M, r, w1, hM1, hU, ⟨hrb, hrz⟩, e6, hrh, rfl⟩ := h.l hl
    rw [mdOps_size] at hn
    have hs : (w0.drew.setCell ⟨b, 1, none⟩ (.int .i64 (M : Int))).heap.size = w0.drew.heap.size := Array.size_modify ..
    have hU1 : Up w0 b M (w1.setRow r p.cs) := Adds.setRowJ (w := w0.setCell ⟨b, 1, none⟩ (.int .i64 (M : Int))) hU (by rw [show (w0.setCell ⟨b, 1, none⟩ (.int .i64 (M : Int))).heap.size = w0.heap.size from Array.size_modify ..]; exact hrz) _
    exact hK a' _ p M r h.d h.z h.o e6 (by omega) hU1 hrb hrz (setRow_heap w1 r _ _ _ (0, 0) hrh)
  · exact ⟨rfl, hz, h3, fun _ _ _ => rfl, fun _ => ⟨⟨N, by omega, Up.reflJ hb0⟩, fun i k _ hl => by rw [replicate_getD] at hl; cases hl⟩, fun hl => by rw [replicate_getD] at hl; cases hl⟩
end Go.Proofs.Ytfhnfakjjfjohaa
