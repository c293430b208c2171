/- Worlds that have only grown ('More': some draws, some blocks laid behind), a walk of a region that draws its order over such worlds, and arguments that consist of integers and bools alone, opened and read again in any world. No condition. -/
import GoSem.Claim
import GoSem.ClaimJoined
import Derived.WalkKit
import Derived.ProofKit
import Derived.OpenShut
import Derived.RowKit3
import Derived.Below
import Derived.Laws.StructEq
import Derived.ChangeKeysEq
import Derived.Deep.QuietTactic
import Derived.BigQuiet
namespace Go.Proofs.Ytfhnfakjjfjohaa
open Go.ChangeShapes Go.WideShapes Go.ChangeAt Go.RowKit
set_option linter.unusedVariables false
/-- The world with the blocks os behind, its count of draws n. -/
def More (w : World) (n : Nat) (os : Array Obj) : World := { w with heap := w.heap ++ os, drawn := n }
structure By where
  n : Nat
  os : Array Obj
instance : Inhabited By := ⟨⟨0, #[]⟩⟩
/-- Nothing that was there has changed: there are more draws and more blocks. -/
def Adds (w w' : World) : Prop := ∃ p : By, w' = More w p.n p.os
@[go_sem] theorem More_size (w : World) (n : Nat) (os : Array Obj) : (More w n os).heap.size = w.heap.size + os.size := by simp [More]
@[go_sem] theorem More_tape (w : World) (n : Nat) (os : Array Obj) : (More w n os).tape = w.tape := rfl
theorem More_heap (w : World) (n : Nat) (os : Array Obj) {k : Nat} (h : k < w.heap.size) : (More w n os).heap[k]? = w.heap[k]? := by simp [More, Array.getElem?_append, h]
/-- Block b lies in w. (Not reducible: the walk proves it by the rows below, none of which asks for a condition.) -/
def InB (b : Nat) (w : World) : Prop := b < w.heap.size
def Junk (b : Nat) (w : World) (os : Array Obj) : Prop := ¬ InB b w ∧ b < w.heap.size + os.size
@[go_sem] theorem InB_alloc (b : Nat) (w : World) (o : Obj) : InB b (w.alloc o) = (b = w.heap.size ∨ InB b w) := by
  have e : (w.alloc o).heap.size = w.heap.size + 1 := Array.size_push ..
  unfold InB; rw [e]; exact propext (by omega)
@[go_sem] theorem InB_More (b : Nat) (w : World) (n : Nat) (os : Array Obj) : InB b (More w n os) = (InB b w ∨ Junk b w os) := by
  unfold Junk InB; rw [More_size]; exact propext (by omega)
@[go_sem] theorem InB_drew (b : Nat) (w : World) : InB b w.drew = InB b w := propext ⟨fun h => h, fun h => h⟩
@[go_sem] theorem InB_drewN (b : Nat) (w : World) (n : Nat) : InB b (w.drewN n) = InB b w := propext ⟨fun h => h, fun h => h⟩
@[go_sem] theorem InB_setCell (b : Nat) (w : World) (a : Addr) (v : Value) : InB b (w.setCell a v) = InB b w := by
  have e : (w.setCell a v).heap.size = w.heap.size := Array.size_modify ..
  unfold InB; rw [e]
@[go_sem low] theorem InB_base (b : Nat) (w : World) : InB b w = (b < w.heap.size) := propext ⟨fun h => h, fun h => h⟩
@[go_sem] theorem More_cell (w : World) (n : Nat) (os : Array Obj) (b i : Nat) (s : _) (h : InB b w) : (More w n os).cell? ⟨b, i, s⟩ = w.cell? ⟨b, i, s⟩ := by simp only [World.cell?, More_heap w n os h]
@[go_sem] theorem More_frozen (w : World) (n : Nat) (os : Array Obj) (b i : Nat) (s : _) (h : InB b w) : (More w n os).frozen? ⟨b, i, s⟩ = w.frozen? ⟨b, i, s⟩ := by simp only [World.frozen?, More_heap w n os h]
@[go_sem] theorem alloc_cell (w : World) (o : Obj) (b i : Nat) (h : InB b w) : (w.alloc o).cell? ⟨b, i, none⟩ = w.cell? ⟨b, i, none⟩ := World.cell?_alloc_past o b i h
@[go_sem] theorem alloc_frozen (w : World) (o : Obj) (b i : Nat) (h : InB b w) : (w.alloc o).frozen? ⟨b, i, none⟩ = w.frozen? ⟨b, i, none⟩ := World.frozen?_alloc_past o b i h
@[go_sem] theorem alloc_setCell (w : World) (o : Obj) (b i : Nat) (v : Value) (h : InB b w) : (w.alloc o).setCell ⟨b, i, none⟩ v = (w.setCell ⟨b, i, none⟩ v).alloc o := World.setCell_alloc_past o b i v h
@[go_sem] theorem More_drew (w : World) (n : Nat) (os : Array Obj) : (More w n os).drew = More w (n + 1) os := rfl
@[go_sem] theorem More_of_drew (w : World) (n : Nat) (os : Array Obj) : More w.drew n os = More w n os := rfl
@[go_sem] theorem More_of_drewN (w : World) (m n : Nat) (os : Array Obj) : More (w.drewN m) n os = More w n os := rfl
theorem More_zero (w : World) : More w w.drawn #[] = w := by simp [More]
theorem More_more (w : World) (n m : Nat) (os os' : Array Obj) : More (More w n os) m os' = More w m (os ++ os') := by
  simp [More, Array.append_assoc]
theorem Adds.refl (w : World) : Adds w w := ⟨⟨w.drawn, #[]⟩, (More_zero w).symm⟩
theorem Adds.drew {w w' : World} (h : Adds w w') : Adds w w'.drew := by
  obtain ⟨⟨n, os⟩, rfl⟩ := h
  exact ⟨⟨n + 1, os⟩, rfl⟩
theorem Adds.drewN {w w' : World} (h : Adds w w') (m : Nat) : Adds w (w'.drewN m) := by
  obtain ⟨⟨n, os⟩, rfl⟩ := h
  exact ⟨⟨n + m, os⟩, rfl⟩
theorem Adds.alloc {w w' : World} (h : Adds w w') (o : Obj) : Adds w (w'.alloc o) := by
  obtain ⟨⟨n, os⟩, rfl⟩ := h
  exact ⟨⟨n, os.push o⟩, by simp [More, World.alloc]⟩
theorem Adds.more {w w' : World} (h : Adds w w') (m : Nat) (os' : Array Obj) : Adds w (More w' m os') := by
  obtain ⟨⟨n, os⟩, rfl⟩ := h
  exact ⟨⟨m, os ++ os'⟩, More_more ..⟩
theorem Adds.trans {w w' w'' : World} (h : Adds w w') (k : Adds w' w'') : Adds w w'' := by
  obtain ⟨⟨n, os⟩, rfl⟩ := k
  exact h.more n os
theorem modify_right (a b : Array Obj) (i : Nat) (f : Obj → Obj) (h : a.size ≤ i) : (a ++ b).modify i f = a ++ b.modify (i - a.size) f := by
  apply Array.ext_getElem?
  intro k
  simp only [Array.getElem?_modify, Array.getElem?_append]
  by_cases hk : k < a.size
  · have : i ≠ k := by omega
    simp [hk, this]
  · by_cases hik : i = k
    · subst hik; simp [hk]
    · have : i - a.size ≠ k - a.size := by omega
      simp [hk, hik, this]
theorem modify_left (a b : Array Obj) (i : Nat) (f : Obj → Obj) (h : i < a.size) : (a ++ b).modify i f = a.modify i f ++ b := by
  apply Array.ext_getElem?
  intro k
  simp only [Array.getElem?_modify, Array.getElem?_append, Array.size_modify]
  by_cases hk : k < a.size
  · simp [hk]
  · have : i ≠ k := by omega
    simp [hk, this]
@[go_sem] theorem More_setCell (w : World) (n : Nat) (os : Array Obj) (b i : Nat) (s : _) (v : Value) (h : InB b w) : (More w n os).setCell ⟨b, i, s⟩ v = More (w.setCell ⟨b, i, s⟩ v) n os := by
  unfold More World.setCell
  simp only []
  rw [modify_left _ _ _ _ h]
theorem Adds.setCell {w w' : World} (h : Adds w w') {a : Addr} (ha : w.heap.size ≤ a.block) (v : Value) : Adds w (w'.setCell a v) := by
  obtain ⟨⟨n, os⟩, rfl⟩ := h
  have e : (More w n os).setCell a v = (More w n os).setCell a v := rfl
  conv at e => rhs; simp only [World.setCell, More]; rw [modify_right _ _ _ _ ha]
  exact ⟨⟨n, _⟩, e⟩
theorem Adds.below {w w' : World} (h : Adds w w') : Below w.heap.size w w' := by
  obtain ⟨⟨n, os⟩, rfl⟩ := h
  exact ⟨rfl, rfl, rfl, by simp [More], fun k hk => More_heap w n os hk⟩
/-- The other way: what stands below the heap's end is as it was: the world has only grown. -/
theorem Adds.of_below {w w' : World} (h : Below w.heap.size w w') : Adds w w' := by
  refine ⟨⟨w'.drawn, w'.heap.extract w.heap.size w'.heap.size⟩, ?_⟩
  obtain ⟨hp, tp, dr, o, ou⟩ := w'
  obtain ⟨h1, h2, h3, h4, h5⟩ := h
  simp only at h1 h2 h3 h4 h5
  subst h1 h2 h3
  unfold More
  congr 1
  apply Array.ext_getElem?
  intro i
  rw [Array.getElem?_append]
  split
  · rename_i hi; exact h5 i hi
  · rename_i hi; rw [Array.getElem?_extract]; split
    · congr 1; omega
    · rename_i hj; simp only [Nat.min_self] at hj; rw [Array.getElem?_eq_none]; simp only [Nat.not_lt] at hi; show hp.size ≤ i; have : ¬ i - w.heap.size < hp.size - w.heap.size := hj; have h4' : w.heap.size ≤ hp.size := h4; omega
/-- One walk in the order of the text serves every order, where each operation reads and each callee only adds. -/
theorem wp_region_adds {P : Program} {id : Nat} {Q : Exit → Act → World → Prop} {a : Act} {w : World} {l : List Oper} (hm : P.follows .mixedOrders = true) (hB : Region.lexB .any l.toArray = true)
    (h : wpQuiet P l.toArray (fun w' => ∃ p : By, w' = More w p.n p.os) (fun a' => ∀ w', (∃ p : By, w' = More w p.n p.os) → Q .normal a' w') l a) : (Code.region id l.toArray true).wp P Q a w :=
  wp_region_quiet (C := fun w' => ∃ p : By, w' = More w p.n p.os) hm hB ⟨⟨w.drawn + 1, #[]⟩, by simp [More]⟩ (by simpa using h)
theorem calls_adds {P : Program} {f : FuncId} {args : Array Value} {w : World} {n : Nat} {os : Array Obj} {v : Value}
    (h : Calls P f args (More w n os) fun e w' => e = .returned v ∧ Adds (More w n os) w') : Calls P f args (More w n os) fun e w'' => e = .returned v ∧ ∃ p : By, w'' = More w p.n p.os :=
  h.mono fun _ _ ⟨he, ⟨m, os'⟩, hq⟩ => ⟨he, ⟨m, os ++ os'⟩, by rw [hq, More_more]⟩
theorem calls_same {P : Program} {f : FuncId} {args : Array Value} {w : World} {n : Nat} {os : Array Obj} {v : Value}
    (h : Calls P f args (More w n os) fun e w' => e = .returned v ∧ More w n os = w') : Calls P f args (More w n os) fun e w'' => e = .returned v ∧ ∃ p : By, w'' = More w p.n p.os :=
  h.mono fun _ _ ⟨he, hq⟩ => ⟨he, ⟨n, os⟩, hq.symm⟩
/-! ### Values that consist of integers and bools alone -/
inductive Leaf where
  | int (k : IntKind)
  | bool
/-- The cells of such a value. -/
def shaped : List Leaf → List Value → Prop
  | .int k :: L, .int k' n :: vs => k = k' ∧ shaped L vs
  | .bool :: L, .bool _ :: vs => shaped L vs
  | [], [] => True
  | _, _ => False
/-- The same, each integer within its kind. -/
def fits : List Leaf → List Value → Prop
  | .int k :: L, v :: vs => (∃ n, v = .int k n ∧ (Lit.int k n).wf = true) ∧ fits L vs
  | .bool :: L, v :: vs => (∃ b, v = .bool b) ∧ fits L vs
  | [], [] => True
  | _, _ => False
def flatFields (P : Program) (sub : TypeId → Option (List Leaf)) : Nat → List Field → Nat → Option (List Leaf)
  | off, [], tot => if off = tot then some [] else none
  | off, f :: fs, tot => if f.offset = off ∧ f.name ≠ "_" then (sub f.type).bind fun l => if l.length = P.cellsOf f.type then (flatFields P sub (off + l.length) fs tot).map (l ++ ·) else none else none
/-- The leaves of a type, if it consists of integers and bools alone. -/
def flat (P : Program) : Nat → TypeId → Option (List Leaf)
  | 0, _ => none
  | n + 1, t => match P.underlying t with
    | some .bool => some [.bool]
    | some (.int k) => some [.int k]
    | some (.struct fs) => if P.stoodInHeld t = false then flatFields P (flat P n) 0 fs.toList (P.cellsOf t) else none
    | _ => none
theorem fits_append : ∀ (l L : List Leaf) (xs : List Value), fits l (xs.take l.length) → fits L (xs.drop l.length) → fits (l ++ L) xs
  | [], L, xs, _, h => by simpa using h
  | .int k :: l, L, [], h, _ => by simp [fits] at h
  | .bool :: l, L, [], h, _ => by simp [fits] at h
  | .int k :: l, L, x :: xs, h, h' => by
    simp only [List.length_cons, List.take_succ_cons, fits] at h
    exact ⟨h.1, fits_append l L xs h.2 (by simpa using h')⟩
  | .bool :: l, L, x :: xs, h, h' => by
    simp only [List.length_cons, List.take_succ_cons, fits] at h
    exact ⟨h.1, fits_append l L xs h.2 (by simpa using h')⟩
theorem fits_fields {P : Program} {sub : TypeId → Option (List Leaf)} {cs : List Value} : ∀ (fs : List Field) (off tot : Nat) (L : List Leaf), flatFields P sub off fs tot = some L → cs.length = tot →
    (∀ f ∈ fs, ∀ l, sub f.type = some l → fits l ((cs.drop f.offset).take (P.cellsOf f.type))) → fits L (cs.drop off)
  | [], off, tot, L, h, hl, _ => by
    simp only [flatFields] at h
    split at h
    · obtain rfl := Option.some.inj h
      rw [List.drop_eq_nil_of_le (by omega)]
      trivial
    · cases h
  | f :: fs, off, tot, L, h, hl, hr => by
    simp only [flatFields] at h
    split at h
    · rename_i ho
      obtain ⟨ho, -⟩ := ho
      simp only [Option.bind_eq_some_iff] at h
      obtain ⟨l, h1, h2⟩ := h
      split at h2
      · rename_i hc
        simp only [Option.map_eq_some_iff] at h2
        obtain ⟨L', h3, rfl⟩ := h2
        have k1 := hr f (by simp) l h1
        rw [ho, ← hc] at k1
        refine fits_append l L' _ k1 ?_
        rw [List.drop_drop]
        exact fits_fields fs (off + l.length) tot L' h3 hl (fun g hg => hr g (by simp [hg]))
      · cases h2
    · cases h
section
variable {H : Type} {enc : TypeId × Value → H} {P : Program} {w : World} {base : Nat} {spare : Nat → Bool} {held : Bool}
theorem flat_fits : ∀ (n : Nat) (t : TypeId) (L : List Leaf) (fuel : Nat) (cs : List Value) (x : DataW H × List MemPlace), flat P n t = some L → DataW.trod enc P w base spare held fuel t cs = some x → fits L cs
  | 0, t, L, fuel, cs, x, h, _ => by simp [flat] at h
  | n + 1, t, L, fuel, cs, x, h, ht => by
    cases hu : P.underlying t with
    | none => simp [flat, hu] at h
    | some kd =>
      cases kd
      case bool =>
        simp [flat, hu] at h
        subst h
        obtain ⟨b, rfl, _⟩ := DataW.trod_bool hu ht
        exact ⟨⟨b, rfl⟩, trivial⟩
      case int k =>
        simp [flat, hu] at h
        subst h
        obtain ⟨m, rfl, _, hw⟩ := DataW.trod_int hu ht
        exact ⟨⟨m, rfl, hw⟩, trivial⟩
      case struct fs =>
        simp only [flat, hu] at h
        split at h
        · obtain ⟨xs, m, _, _, hl, hlen, hg⟩ := DataW.trod_struct hu ht
          have := fits_fields (cs := cs) fs.toList 0 _ L h hl (fun f hf l hs => by
            obtain ⟨j, hj⟩ := List.getElem?_of_mem hf
            have hj' : fs[j]? = some f := by simpa using hj
            have hjl : j < fs.size := (Array.getElem?_eq_some_iff.1 hj').1
            have hx : xs[j]? = some (xs[j]'(by omega)) := List.getElem?_eq_getElem (by omega)
            have h1 := hg j f hj'
            rw [hx] at h1
            exact flat_fits n f.type l m _ _ hs h1)
          simpa using this
        · cases h
      all_goals (simp [flat, hu] at h; done)
/-- A struct of integers and bools by value: its cells written out. -/
theorem open_flat {r : Reach} {b0 : Nat} {t : TypeId} {v : Value} {d : DataW H} {p : List MemPlace} (n : Nat) (L : List Leaf) (fs : Array Field) (hs : P.underlying t = some (.struct fs)) (hf : flat P n t = some L)
    (hv : Value.okWide P w r b0 t v) (h : DataW.Trod enc P w base spare held t v d p) : ∃ l : List Value, v = .agg l.toArray ∧ fits L l := by
  obtain ⟨cs, rfl, _⟩ := okWide_struct hs hv
  obtain ⟨fuel, ht⟩ := h
  exact ⟨cs.toList, by simp, flat_fits n t L fuel _ _ hf (by simpa [Value.cells] using ht)⟩
end
theorem fits_bool {L : List Leaf} {l : List Value} (h : fits (.bool :: L) l) : ∃ b l', l = .bool b :: l' ∧ fits L l' := by
  cases l with
  | nil => exact h.elim
  | cons v vs => obtain ⟨⟨b, rfl⟩, h⟩ := h; exact ⟨b, vs, rfl, h⟩
theorem fits_int {k : IntKind} {L : List Leaf} {l : List Value} (h : fits (.int k :: L) l) : ∃ n l', l = .int k n :: l' ∧ (Lit.int k n).wf = true ∧ fits L l' := by
  cases l with
  | nil => exact h.elim
  | cons v vs => obtain ⟨⟨b, rfl, hw⟩, h⟩ := h; exact ⟨b, vs, rfl, hw, h⟩
theorem fits_nil {l : List Value} (h : fits [] l) : l = [] := by
  cases l with
  | nil => rfl
  | cons v vs => exact h.elim
/-! ### == on such values -/
/-- Are these cells the same? -/
def same : List Value → List Value → Bool
  | .int _ a :: xs, .int _ b :: ys => (a == b) && same xs ys
  | .bool a :: xs, .bool b :: ys => (a == b) && same xs ys
  | [], [] => true
  | _, _ => false
@[go_sem] theorem same_int (k k' : IntKind) (a b : Int) (xs ys : List Value) : same (.int k a :: xs) (.int k' b :: ys) = ((a == b) && same xs ys) := rfl
@[go_sem] theorem same_bool (a b : Bool) (xs ys : List Value) : same (.bool a :: xs) (.bool b :: ys) = ((a == b) && same xs ys) := rfl
@[go_sem] theorem same_nil : same [] [] = true := rfl
theorem shaped_length : ∀ (L : List Leaf) (xs : List Value), shaped L xs → xs.length = L.length
  | [], [], _ => rfl
  | .int k :: L, .int k' n :: vs, h => by simp [shaped_length L vs h.2]
  | .bool :: L, .bool _ :: vs, h => by simp [shaped_length L vs h]
  | [], _ :: _, h => h.elim
  | .int _ :: _, [], h => h.elim
  | .bool :: _, [], h => h.elim
  | .int _ :: _, .bool _ :: _, h => h.elim
  | .bool :: _, .int _ _ :: _, h => h.elim
theorem shaped_split : ∀ (l L : List Leaf) (xs : List Value), shaped (l ++ L) xs → shaped l (xs.take l.length) ∧ shaped L (xs.drop l.length)
  | [], L, xs, h => ⟨trivial, by simpa using h⟩
  | .int k :: l, L, .int k' n :: xs, h => by
    have := shaped_split l L xs h.2
    exact ⟨⟨h.1, this.1⟩, by simpa using this.2⟩
  | .bool :: l, L, .bool b :: xs, h => by
    have := shaped_split l L xs h
    exact ⟨this.1, by simpa using this.2⟩
theorem same_append : ∀ (l L : List Leaf) (xs ys : List Value), shaped (l ++ L) xs → shaped (l ++ L) ys → same xs ys = (same (xs.take l.length) (ys.take l.length) && same (xs.drop l.length) (ys.drop l.length))
  | [], L, xs, ys, _, _ => by simp [same_nil]
  | .int k :: l, L, .int k' n :: xs, .int k'' m :: ys, h, h' => by
    simp [same_int, same_append l L xs ys h.2 h'.2, Bool.and_assoc]
  | .bool :: l, L, .bool b :: xs, .bool c :: ys, h, h' => by
    simp [same_bool, same_append l L xs ys h h', Bool.and_assoc]
/-- The value of these cells at a type. -/
def valAt (P : Program) (t : TypeId) (xs : List Value) : Value := match P.underlying t with
  | some (.struct _) => .agg xs.toArray
  | _ => xs.headD undef
theorem flat_len {P : Program} {sub : TypeId → Option (List Leaf)} : ∀ (fs : List Field) (off tot : Nat) (L : List Leaf), flatFields P sub off fs tot = some L → off + L.length = tot
  | [], off, tot, L, h => by
    simp only [flatFields] at h
    split at h
    · obtain rfl := Option.some.inj h; simpa
    · cases h
  | f :: fs, off, tot, L, h => by
    simp only [flatFields] at h
    split at h
    · simp only [Option.bind_eq_some_iff] at h
      obtain ⟨l, h1, h2⟩ := h
      split at h2
      · simp only [Option.map_eq_some_iff] at h2
        obtain ⟨L', h3, rfl⟩ := h2
        have := flat_len fs _ tot L' h3
        simp; omega
      · cases h2
    · cases h
theorem part_flat {P : Program} {n : Nat} {t : TypeId} {l : List Leaf} (hf : flat P n t = some l) (hc : l.length = P.cellsOf t) (xs : Array Value) (off : Nat) (hs : shaped l ((xs.toList.drop off).take l.length)) (w : World) :
    (part t xs off).run P w = .ok (valAt P t ((xs.toList.drop off).take l.length)) w := by
  cases n with
  | zero => simp [flat] at hf
  | succ n =>
    cases hu : P.underlying t with
    | none => simp [flat, hu] at hf
    | some kd =>
      have one : ∀ lf, l = [lf] → ∃ v, xs[off]? = some v ∧ (xs.toList.drop off).take l.length = [v] := by
        intro lf e
        have := shaped_length _ _ hs
        rw [e] at this ⊢
        match hm : xs.toList.drop off, this with
        | v :: r, _ =>
          have h0 : (xs.toList.drop off)[0]? = some v := by rw [hm]; rfl
          exact ⟨v, by simpa using h0, by simp⟩
      cases kd
      case bool =>
        simp [flat, hu] at hf
        obtain ⟨v, e1, e2⟩ := one _ hf.symm
        simp [part, isAgg, run_underlying hu, e1, e2, valAt, hu]
      case int k =>
        simp [flat, hu] at hf
        obtain ⟨v, e1, e2⟩ := one _ hf.symm
        simp [part, isAgg, run_underlying hu, e1, e2, valAt, hu]
      case struct fs =>
        obtain ⟨i, hi⟩ := info_of_underlying hu
        have hl : (xs.extract off (off + P.cellsOf t)) = ((xs.toList.drop off).take l.length).toArray := by
          apply Array.toList_inj.1
          rw [Array.toList_extract, hc]
          simp [List.extract]
        simp [part, isAgg, run_underlying hu, run_sizeOf w hi, valAt, hu, hl]
      all_goals (simp [flat, hu] at hf; done)
theorem eq_flat {P : Program} : ∀ (n d : Nat) (t : TypeId) (L : List Leaf) (xs ys : List Value) (w : World), flat P n t = some L → shaped L xs → shaped L ys →
    (Op.equalIn (d + n) t (valAt P t xs) (valAt P t ys)).run P w = .ok (same xs ys) w
  | 0, d, t, L, xs, ys, w, hf, _, _ => by simp [flat] at hf
  | n + 1, d, t, L, xs, ys, w, hf, hx, hy => by
    cases hu : P.underlying t with
    | none => simp [flat, hu] at hf
    | some kd =>
      cases kd
      case bool =>
        simp [flat, hu] at hf
        subst hf
        match xs, ys, hx, hy with
        | [.bool a], [.bool b], _, _ => simp only [valAt, hu, List.headD_cons, same_bool, same_nil, Bool.and_true]; exact run_equalIn_bool w (d + n) t a b hu
      case int k =>
        simp [flat, hu] at hf
        subst hf
        match xs, ys, hx, hy with
        | [.int q a], [.int q' b], hx, hy =>
          obtain ⟨rfl, _⟩ := hx
          obtain ⟨rfl, _⟩ := hy
          simp only [valAt, hu, List.headD_cons, same_int, same_nil, Bool.and_true]; exact run_equalIn_int w (d + n) t _ k a b hu
      case struct fs =>
        simp only [flat, hu] at hf
        split at hf
        · rename_i hst
          have hfs : P.fieldsOf t = fs := by simp [Program.fieldsOf, hu]
          simp only [valAt, hu]
          rw [show d + (n + 1) = (d + n) + 1 from rfl, run_equalIn_struct w (d + n) t _ _ (by rw [hfs]; exact hu) hst, hfs]
          have key : ∀ (l : List Field) (off tot : Nat) (L : List Leaf), flatFields P (flat P n) off l tot = some L → shaped L (xs.drop off) → shaped L (ys.drop off) →
              (Op.eqFields (d + n) xs.toArray ys.toArray l).run P w = .ok (same (xs.drop off) (ys.drop off)) w := by
            intro l
            induction l with
            | nil =>
              intro off tot L h h1 h2
              simp only [flatFields] at h
              split at h
              · obtain rfl := Option.some.inj h
                have e1 : xs.drop off = [] := by exact List.eq_nil_of_length_eq_zero (shaped_length _ _ h1)
                have e2 : ys.drop off = [] := by exact List.eq_nil_of_length_eq_zero (shaped_length _ _ h2)
                simp [Op.eqFields, e1, e2, same_nil]
              · cases h
            | cons f fs ih =>
              intro off tot L h h1 h2
              simp only [flatFields] at h
              split at h
              · rename_i ho
                obtain ⟨ho, hn⟩ := ho
                simp only [Option.bind_eq_some_iff] at h
                obtain ⟨l, hl, h⟩ := h
                split at h
                · rename_i hc
                  simp only [Option.map_eq_some_iff] at h
                  obtain ⟨L', h3, rfl⟩ := h
                  obtain ⟨s1, t1⟩ := shaped_split l L' _ h1
                  obtain ⟨s2, t2⟩ := shaped_split l L' _ h2
                  have p1 := part_flat hl hc xs.toArray f.offset (by simpa [ho] using s1) w
                  have p2 := part_flat hl hc ys.toArray f.offset (by simpa [ho] using s2) w
                  have ee := eq_flat n d f.type l _ _ w hl (by simpa [ho] using s1 : shaped l ((xs.toArray.toList.drop f.offset).take l.length)) (by simpa [ho] using s2 : shaped l ((ys.toArray.toList.drop f.offset).take l.length))
                  have rest := ih (off + l.length) tot L' h3 (by simpa [List.drop_drop] using t1) (by simpa [List.drop_drop] using t2)
                  simp only [Op.eqFields, hn, ne_eq, not_false_eq_true, if_true, Sem.run_bind, p1, p2, ee, Result.andThen_ok]
                  rw [same_append l L' _ _ h1 h2]
                  simp only [List.drop_drop, ho]
                  cases hb : same (List.take l.length (List.drop off xs)) (List.take l.length (List.drop off ys))
                  · simp
                  · simp [rest]
                · cases h
              · cases h
          simpa using key fs.toList 0 _ L hf (by simpa using hx) (by simpa using hy)
        · cases hf
      all_goals (simp [flat, hu] at hf; done)
/-- == on two structs of integers and bools. -/
theorem eq_agg {P : Program} (n : Nat) {t : TypeId} (L : List Leaf) (fs : Array Field) (hs : P.underlying t = some (.struct fs)) (hf : flat P n t = some L) (hn : n ≤ 10000) (xs ys : Array Value) (w : World) (hx : shaped L xs.toList) (hy : shaped L ys.toList) :
    (Op.equalIn 10000 t (.agg xs) (.agg ys)).run P w = .ok (same xs.toList ys.toList) w := by
  have := eq_flat n (10000 - n) t L xs.toList ys.toList w hf hx hy
  rw [show 10000 - n + n = 10000 by omega] at this
  simpa [valAt, hs] using this
end Go.Proofs.Ytfhnfakjjfjohaa
