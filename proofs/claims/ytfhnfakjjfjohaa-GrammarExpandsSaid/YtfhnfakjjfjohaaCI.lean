/- A region that draws its order, walked by what holds between its operations: one step for each operation, not one for each order. No condition. -/
import Derived.Test.YtfhnfakjjfjohaaCN
import Derived.RegionTactic
import Derived.BigCall
namespace Go.Proofs.Ytfhnfakjjfjohaa
open Go.ChangeShapes Go.WideShapes Go.ChangeAt Go.RowKit
set_option linter.unusedVariables false
section
variable {P : Program} {ops : Array Oper} {Q : Exit → Act → World → Prop} {md : Region.Mode}
theorem count_set : ∀ (L : List Bool) (i : Nat), L[i]? = some false → (L.set i true).countP (fun b => !b) + 1 = L.countP (fun b => !b)
  | [], i, h => by simp at h
  | x :: xs, 0, h => by
    simp at h
    subst h
    simp
  | x :: xs, i + 1, h => by
    have k := count_set xs i (by simpa using h)
    simp only [List.set_cons_succ, List.countP_cons]
    omega
theorem unlisted {L : Array Bool} {i : Nat} (h : L.getD i true = false) : L[i]? = some false := by
  rw [Array.getD_eq_getD_getElem?] at h
  cases hx : L[i]? with
  | none => simp [hx] at h
  | some x => simp [hx] at h; rw [h]
theorem listed_set (L : Array Bool) (i j : Nat) (h : (L.setIfInBounds i true).getD j false = true) : j = i ∨ L.getD j false = true := by
  by_cases e : i = j
  · exact .inl e.symm
  · rw [Array.getD_eq_getD_getElem?, Array.getElem?_setIfInBounds_ne e] at h
    exact .inr (by rw [Array.getD_eq_getD_getElem?]; exact h)
theorem listed_set_ne (L : Array Bool) (i j : Nat) (h : i ≠ j) : (L.setIfInBounds i true).getD j false = L.getD j false := by
  rw [Array.getD_eq_getD_getElem?, Array.getElem?_setIfInBounds_ne h, Array.getD_eq_getD_getElem?]
theorem listed_set_same (L : Array Bool) (i : Nat) (h : i < L.size) : (L.setIfInBounds i true).getD i false = true := by
  rw [Array.getD_eq_getD_getElem?, Array.getElem?_setIfInBounds_self]
  simp [h]
theorem wpAny_inv (Inv : Nat → Array Bool → Act → World → Prop)
    (hs : ∀ n L a w i, n < ops.size → L.size = ops.size → Inv n L a w → i ∈ Region.ready md ops L → wpOp P ops Q i (fun a' w' => Inv (n + 1) (L.setIfInBounds i true) a' w') a w)
    (he : ∀ n L a w, n ≤ ops.size → L.size = ops.size → Inv n L a w → Region.ready md ops L = [] → Q .normal a w) :
    ∀ (fuel n : Nat) (L : Array Bool) (a : Act) (w : World), n + fuel = ops.size → L.size = ops.size → L.toList.countP (fun b => !b) ≤ fuel → Inv n L a w → wpAny P md ops Q fuel L a w
  | 0, n, L, a, w, hf, hz, hc, hI => by
    have hr : Region.ready md ops L = [] := by
      cases hr : Region.ready md ops L with
      | nil => rfl
      | cons i is =>
        have hi : i ∈ Region.ready md ops L := by rw [hr]; exact List.mem_cons_self
        have k := count_set L.toList i (by simpa using unlisted (mem_ready.1 hi).1)
        omega
    exact ⟨hr, he n L a w (by omega) hz hI hr⟩
  | fuel + 1, n, L, a, w, hf, hz, hc, hI => by
    refine ⟨fun hr => he n L a w (by omega) hz hI hr, fun i hi => wpOp_mono (fun a' w' h' => ?_) (hs n L a w i (by omega) hz hI hi)⟩
    have k := count_set L.toList i (by simpa using unlisted (mem_ready.1 hi).1)
    exact wpAny_inv Inv hs he fuel (n + 1) _ a' w' (by omega) (by simpa using hz) (by rw [Array.toList_setIfInBounds]; omega) h'
/-- What an operation that may come up waits for has come up. -/
theorem ready_dep {L : Array Bool} {i j : Nat} (h : i ∈ Region.ready md ops L) (hj : ((ops[i]?).map fun o => o.after.any fun e => Region.binds md e && e.on == j) = some true) : L.getD j false = true := by
  obtain ⟨_, o, ho, hall⟩ := mem_ready.1 h
  rw [ho] at hj
  simp only [Option.map_some, Option.some.injEq, Array.any_eq_true'] at hj
  obtain ⟨e, he, hb⟩ := hj
  simp only [Bool.and_eq_true, beq_iff_eq] at hb
  rw [← hb.2]
  exact hall e he hb.1
/-- If each operation waits for earlier ones alone, and nothing may come up, all have. -/
theorem all_listed {L : Array Bool} (hac : ((List.range ops.size).all fun i => ((ops[i]?).map fun o => o.after.all fun e => decide (e.on < i)).getD true) = true) (hz : L.size = ops.size) (hr : Region.ready md ops L = []) : ∀ i, i < ops.size → L.getD i false = true := by
  intro i
  induction i using Nat.strongRecOn with
  | _ i ih =>
    intro hi
    cases hl : L.getD i false with
    | true => rfl
    | false =>
      have hm : i ∈ Region.ready md ops L := mem_ready.2 ⟨by
        rw [Array.getD_eq_getD_getElem?] at hl ⊢
        have : L[i]? = some L[i] := Array.getElem?_eq_getElem (by omega)
        rw [this] at hl ⊢
        exact hl, ops[i], Array.getElem?_eq_getElem hi, fun e he _ => by
          have h1 := List.all_eq_true.1 hac i (List.mem_range.2 hi)
          rw [Array.getElem?_eq_getElem hi] at h1
          simp only [Option.map_some, Option.getD_some, Array.all_eq_true'] at h1
          have h2 : e.on < i := by simpa using h1 e he
          exact ih e.on h2 (by omega)⟩
      rw [hr] at hm
      cases hm
variable {i t s : Nat} {K : Act → World → Prop} {a : Act} {w w' : World} {v x y : Value}
/-- The operations of a function's second statement. -/
@[noinline] def secondOps (f : Func) : Array Oper := match f.body with
  | some (.seq _ (.seq (.region _ ops _) _)) => ops
  | _ => #[]
theorem replicate_getD (n i : Nat) : (Array.replicate n false).getD i false = false := by
  rw [Array.getD_eq_getD_getElem?, Array.getElem?_replicate]
  split <;> rfl
theorem region_as {id : Nat} {ops' : Array Oper} (h : ops = ops') (hw : (Code.region id ops' true).wp P Q a w) : (Code.region id ops true).wp P Q a w := h ▸ hw
theorem st_val {o : Oper} (ho : ops[i]? = some o) (hg : o.guard = none) (hd : o.dst = some t) (hr : (execOp a.eval o).run P w = .ok (.value v) w') (h : K (a.put (some t) v) w') : wpOp P ops Q i K a w := by
  unfold wpOp
  simp only [ho, Region.wanted, hg, if_true]
  refine .inl ?_
  unfold Oper.wp
  rw [hr]
  simp only [Oper.upon, hd]
  exact h
theorem st_skip {o : Oper} (ho : ops[i]? = some o) (hg : o.guard = none) (hd : o.dst = none) (hr : (execOp a.eval o).run P w = .ok .skip w') (h : K a w') : wpOp P ops Q i K a w := by
  unfold wpOp
  simp only [ho, Region.wanted, hg, if_true]
  refine .inl ?_
  unfold Oper.wp
  rw [hr]
  simp only [Oper.upon, hd]
  exact h
theorem st_enter {o : Oper} {f : FuncId} {args : Array Value} (ho : ops[i]? = some o) (hg : o.guard = none) (hd : o.dst = some t) (hr : (execOp a.eval o).run P w = .ok (.enter f args) w')
    (hc : Calls P f args w' fun e w'' => ∃ v, e = .returned v ∧ K (a.put (some t) v) w'') : wpOp P ops Q i K a w := by
  unfold wpOp
  simp only [ho, Region.wanted, hg, if_true]
  refine .inl ?_
  unfold Oper.wp
  rw [hr]
  simp only [Oper.upon, hd]
  refine hc.mono ?_
  rintro e w'' ⟨v, rfl, hk⟩
  exact hk
theorem op_of {d : Option Tmp} {op : Op} (h : (ops[i]?).map (fun o => (o.dst, o.op, o.guard)) = some (d, op, none)) : ∃ ty pos aft, ops[i]? = some { dst := d, op := op, type := ty, pos := pos, after := aft, guard := none } := by
  cases ho : ops[i]? with
  | none => rw [ho] at h; cases h
  | some o =>
    rw [ho] at h
    obtain ⟨d', op', ty, pos, aft, g⟩ := o
    simp only [Option.map_some, Option.some.injEq, Prod.mk.injEq] at h
    obtain ⟨rfl, rfl, rfl⟩ := h
    exact ⟨ty, pos, aft, rfl⟩
theorem st_move (ho : (ops[i]?).map (fun o => (o.dst, o.op, o.guard)) = some (some t, .move (.tmp s), none)) (hx : a.tmps.getD s undef = v) (h : K (a.put (some t) v) w) : wpOp P ops Q i K a w :=
  let ⟨ty, pos, aft, ho⟩ := op_of ho; st_val ho rfl rfl (by show Result.ok (Next.value (a.tmps.getD s undef)) w = _; rw [hx]) h
theorem st_call1 {f : FuncId} {ats : Array TypeId} (ho : (ops[i]?).map (fun o => (o.dst, o.op, o.guard)) = some (some t, .call { callee := .value (.func f), args := #[.tmp s], argTypes := ats }, none)) (hx : a.tmps.getD s undef = x)
    (hf : (callFunc f #[x]).run P w = .ok (.enter f #[x]) w) (hc : Calls P f #[x] w fun e w'' => ∃ v, e = .returned v ∧ K (a.put (some t) v) w'') : wpOp P ops Q i K a w :=
  let ⟨ty, pos, aft, ho⟩ := op_of ho; st_enter ho rfl rfl (by show (callFunc f (#[] ++ (#[Operand.tmp s] : Array Operand).map a.eval ++ #[])).run P w = _; have e : (#[] ++ (#[Operand.tmp s] : Array Operand).map a.eval ++ #[]) = #[x] := (by rw [← hx]; simp [Act.eval]); rw [e]; exact hf) hc
theorem st_call2 {f : FuncId} {ats : Array TypeId} {c : Value} (ho : (ops[i]?).map (fun o => (o.dst, o.op, o.guard)) = some (some t, .call { callee := .value (.func f), args := #[.tmp s, .const c], argTypes := ats }, none)) (hx : a.tmps.getD s undef = x)
    (hf : (callFunc f #[x, c]).run P w = .ok (.enter f #[x, c]) w) (hc : Calls P f #[x, c] w fun e w'' => ∃ v, e = .returned v ∧ K (a.put (some t) v) w'') : wpOp P ops Q i K a w :=
  let ⟨ty, pos, aft, ho⟩ := op_of ho; st_enter ho rfl rfl (by show (callFunc f (#[] ++ (#[Operand.tmp s, Operand.const c] : Array Operand).map a.eval ++ #[])).run P w = _; have e : (#[] ++ (#[Operand.tmp s, Operand.const c] : Array Operand).map a.eval ++ #[]) = #[x, c] := (by rw [← hx]; simp [Act.eval]); rw [e]; exact hf) hc
theorem st_binc {op : BinOp} {xt yt : TypeId} {c : Value} (ho : (ops[i]?).map (fun o => (o.dst, o.op, o.guard)) = some (some t, .binOp op xt (.tmp s) (.const c) yt, none)) (hx : a.tmps.getD s undef = x)
    (hr : (do eqGuard op xt (.tmp s) (.const c) x c; binOp op xt x c : Sem Value).run P w = .ok v w) (h : K (a.put (some t) v) w) : wpOp P ops Q i K a w :=
  let ⟨ty, pos, aft, ho⟩ := op_of ho; st_val ho rfl rfl (by
    subst hx
    show (do let z ← (do eqGuard op xt (.tmp s) (.const c) (a.tmps.getD s undef) c; binOp op xt (a.tmps.getD s undef) c : Sem Value); pure (Next.value z) : Sem Next).run P w = _
    rw [Sem.run_bind, hr]; rfl) h
theorem st_bin {op : BinOp} {xt yt : TypeId} {s' : Nat} (ho : (ops[i]?).map (fun o => (o.dst, o.op, o.guard)) = some (some t, .binOp op xt (.tmp s) (.tmp s') yt, none)) (hx : a.tmps.getD s undef = x) (hy : a.tmps.getD s' undef = y)
    (hr : (do eqGuard op xt (.tmp s) (.tmp s') x y; binOp op xt x y : Sem Value).run P w = .ok v w) (h : K (a.put (some t) v) w) : wpOp P ops Q i K a w :=
  let ⟨ty, pos, aft, ho⟩ := op_of ho; st_val ho rfl rfl (by
    subst hx hy
    show (do let z ← (do eqGuard op xt (.tmp s) (.tmp s') (a.tmps.getD s undef) (a.tmps.getD s' undef); binOp op xt (a.tmps.getD s undef) (a.tmps.getD s' undef) : Sem Value); pure (Next.value z) : Sem Next).run P w = _
    rw [Sem.run_bind, hr]; rfl) h
theorem st_conv {xt yt : TypeId} (ho : (ops[i]?).map (fun o => (o.dst, o.op, o.guard)) = some (some t, .convert xt yt (.tmp s), none)) (hx : a.tmps.getD s undef = x)
    (hr : (convert xt yt x).run P w = .ok v w) (h : K (a.put (some t) v) w) : wpOp P ops Q i K a w :=
  let ⟨ty, pos, aft, ho⟩ := op_of ho; st_val ho rfl rfl (by
    subst hx
    show (do let z ← convert xt yt (a.tmps.getD s undef); pure (Next.value z) : Sem Next).run P w = _
    rw [Sem.run_bind, hr]; rfl) h
theorem st_indexAddr {xt : TypeId} {s' : Nat} (ho : (ops[i]?).map (fun o => (o.dst, o.op, o.guard)) = some (some t, .indexAddr xt (.tmp s) (.tmp s'), none)) (hx : a.tmps.getD s undef = x) (hy : a.tmps.getD s' undef = y)
    (hr : (Instr.indexAt xt x y).run P w = .ok v w) (h : K (a.put (some t) v) w) : wpOp P ops Q i K a w :=
  let ⟨ty, pos, aft, ho⟩ := op_of ho; st_val ho rfl rfl (by
    subst hx hy
    show (do let z ← Instr.indexAt xt (a.tmps.getD s undef) (a.tmps.getD s' undef); pure (Next.value z) : Sem Next).run P w = _
    rw [Sem.run_bind, hr]; rfl) h
theorem st_load {xt : TypeId} (ho : (ops[i]?).map (fun o => (o.dst, o.op, o.guard)) = some (some t, .load xt (.tmp s), none)) (hx : a.tmps.getD s undef = x)
    (hr : (Instr.loadAt xt x).run P w = .ok v w) (h : K (a.put (some t) v) w) : wpOp P ops Q i K a w :=
  let ⟨ty, pos, aft, ho⟩ := op_of ho; st_val ho rfl rfl (by
    subst hx
    show (do let z ← Instr.loadAt xt (a.tmps.getD s undef); pure (Next.value z) : Sem Next).run P w = _
    rw [Sem.run_bind, hr]; rfl) h
theorem st_store {xt : TypeId} {s' : Nat} (ho : (ops[i]?).map (fun o => (o.dst, o.op, o.guard)) = some (none, .store xt (.tmp s) (.tmp s'), none)) (hx : a.tmps.getD s undef = x) (hy : a.tmps.getD s' undef = y)
    (hr : (Instr.storeAt xt x y).run P w = .ok () w') (h : K a w') : wpOp P ops Q i K a w :=
  let ⟨ty, pos, aft, ho⟩ := op_of ho; st_skip ho rfl rfl (by
    subst hx hy
    show (do Instr.storeAt xt (a.tmps.getD s undef) (a.tmps.getD s' undef); pure Next.skip : Sem Next).run P w = _
    rw [Sem.run_bind, hr]; rfl) h
theorem st_build {xt : TypeId} {parts : Array (Nat × Operand)} {vs : Array (Nat × Value)} (ho : (ops[i]?).map (fun o => (o.dst, o.op, o.guard)) = some (some t, .build xt parts, none)) (hp : (parts.map fun (i, x) => (i, a.eval x)) = vs)
    (hr : (Instr.build xt vs).run P w = .ok v w') (h : K (a.put (some t) v) w') : wpOp P ops Q i K a w :=
  let ⟨ty, pos, aft, ho⟩ := op_of ho; st_val ho rfl rfl (by
    subst hp
    show (do let z ← Instr.build xt (parts.map fun (i, x) => (i, a.eval x)); pure (Next.value z) : Sem Next).run P w = _
    rw [Sem.run_bind, hr]; rfl) h
theorem st_buildSlice {xt : TypeId} {len : Nat} {parts : Array (Nat × Operand)} {vs : Array (Nat × Value)} (ho : (ops[i]?).map (fun o => (o.dst, o.op, o.guard)) = some (some t, .buildSlice xt len parts, none)) (hp : (parts.map fun (i, x) => (i, a.eval x)) = vs)
    (hr : (Instr.buildSlice xt len vs).run P w = .ok v w') (h : K (a.put (some t) v) w') : wpOp P ops Q i K a w :=
  let ⟨ty, pos, aft, ho⟩ := op_of ho; st_val ho rfl rfl (by
    subst hp
    show (do let z ← Instr.buildSlice xt len (parts.map fun (i, x) => (i, a.eval x)); pure (Next.value z) : Sem Next).run P w = _
    rw [Sem.run_bind, hr]; rfl) h
end
end Go.Proofs.Ytfhnfakjjfjohaa
