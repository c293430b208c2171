/- Plain functions of chapter 24: an input's control byte, the check byte, the bytes of a list of inputs and the inputs of a list of bytes; what a changed byte does. No condition. -/
import Derived.Test.YtjjcahdieldmcaaS1
namespace Go.Proofs.Ytjjcahdieldmcaa.S
open Go.ChangeShapes Go.WideShapes Go.ChangeAt Go.RowKit
set_option linter.unusedVariables false
/-- An input: Ready, Hold, Reset, Sid, Trap, R75, R65, R55, Requests, Port. -/
structure Inp where
  r : Bool
  h : Bool
  z : Bool
  s : Bool
  t : Bool
  a : Bool
  b : Bool
  c : Bool
  q : Int
  p : Int
instance : Inhabited Inp := ⟨⟨false, false, false, false, false, false, false, false, 0, 0⟩⟩
def Inp.cs (x : Inp) : Array Value := #[.bool x.r, .bool x.h, .bool x.z, .bool x.s, .bool x.t, .bool x.a, .bool x.b, .bool x.c, .int .u8 x.q, .int .u8 x.p]
def Inp.ok (x : Inp) : Prop := (0 ≤ x.q ∧ x.q < 256) ∧ (0 ≤ x.p ∧ x.p < 256)
def idle : Inp := ⟨true, false, false, false, false, false, false, false, 0, 0⟩
def btm (c m : Int) : Bool := bits .and .u8 c m != 0
def chk (c r p : Int) : Int := bits .xor .u8 (bits .xor .u8 (bits .xor .u8 c r) p) 165
def inp (c r p : Int) : Inp := ⟨!btm c 1, btm c 2, btm c 4, btm c 8, btm c 16, btm c 32, btm c 64, btm c 128, r, p⟩
/-- The input of four bytes. -/
def ent (c r p k : Int) : Inp := if k = chk c r p then inp c r p else idle
theorem ent_yes (c r p : Int) : ent c r p (chk c r p) = inp c r p := if_pos rfl
theorem ent_no {c r p k : Int} (h : k ≠ chk c r p) : ent c r p k = idle := if_neg h
def wh (b : Bool) (m : Int) : Int := if b then m else 0
def pw (k : Int) : Int := 2 ^ k.toNat
def ctl (x : Inp) : Int := bits .or .u8 (bits .or .u8 (bits .or .u8 (bits .or .u8 (bits .or .u8 (bits .or .u8 (bits .or .u8 (wh (!x.r) 1) (wh x.h 2)) (wh x.z 4)) (wh x.s 8)) (wh x.t 16)) (wh x.a 32)) (wh x.b 64)) (wh x.c 128)
def byt (z : Int) : Prop := 0 ≤ z ∧ z < 256
theorem xor_byt {a b : Int} (ha : byt a) (hb : byt b) : byt (bits .xor .u8 a b) := by
  rw [u8_xor a b ha.1 ha.2 hb.1 hb.2]
  obtain ⟨a0, a1⟩ := ha
  obtain ⟨b0, b1⟩ := hb
  have : a.toNat ^^^ b.toNat < 2 ^ 8 := Nat.xor_lt_two_pow (by omega) (by omega)
  exact ⟨by omega, by omega⟩
theorem chk_byt {c r p : Int} (hc : byt c) (hr : byt r) (hp : byt p) : byt (chk c r p) := xor_byt (xor_byt (xor_byt hc hr) hp) ⟨by decide, by decide⟩
theorem ctl_all : ∀ r h z s t a b c : Bool, (decide (0 ≤ ctl ⟨r, h, z, s, t, a, b, c, 0, 0⟩) && decide (ctl ⟨r, h, z, s, t, a, b, c, 0, 0⟩ < 256) && ((!btm (ctl ⟨r, h, z, s, t, a, b, c, 0, 0⟩) 1) == r) && (btm (ctl ⟨r, h, z, s, t, a, b, c, 0, 0⟩) 2 == h) && (btm (ctl ⟨r, h, z, s, t, a, b, c, 0, 0⟩) 4 == z) && (btm (ctl ⟨r, h, z, s, t, a, b, c, 0, 0⟩) 8 == s) &&
    (btm (ctl ⟨r, h, z, s, t, a, b, c, 0, 0⟩) 16 == t) && (btm (ctl ⟨r, h, z, s, t, a, b, c, 0, 0⟩) 32 == a) && (btm (ctl ⟨r, h, z, s, t, a, b, c, 0, 0⟩) 64 == b) && (btm (ctl ⟨r, h, z, s, t, a, b, c, 0, 0⟩) 128 == c)) = true := by
  intro r h z s t a b c
  cases r <;> cases h <;> cases z <;> cases s <;> cases t <;> cases a <;> cases b <;> cases c <;> decide +kernel
theorem ctl_facts (x : Inp) : byt (ctl x) ∧ inp (ctl x) x.q x.p = x := by
  obtain ⟨r, h, z, s, t, a, b, c, q, p⟩ := x
  have hk := ctl_all r h z s t a b c
  have e : ctl ⟨r, h, z, s, t, a, b, c, q, p⟩ = ctl ⟨r, h, z, s, t, a, b, c, 0, 0⟩ := rfl
  simp only [Bool.and_eq_true, decide_eq_true_eq, beq_iff_eq] at hk
  obtain ⟨⟨⟨⟨⟨⟨⟨⟨⟨h0, h1⟩, e1⟩, e2⟩, e3⟩, e4⟩, e5⟩, e6⟩, e7⟩, e8⟩ := hk
  rw [e]
  refine ⟨⟨h0, h1⟩, ?_⟩
  unfold inp
  rw [e1, e2, e3, e4, e5, e6, e7, e8]
theorem ent_ctl (x : Inp) : ent (ctl x) x.q x.p (chk (ctl x) x.q x.p) = x := by rw [ent_yes, (ctl_facts x).2]
/-- A changed byte is another one; so is the check byte of three bytes of which one is changed. -/
theorem xor_ne {a y : Int} (ha : byt a) (hy : byt y) (h : y ≠ 0) : bits .xor .u8 a y ≠ a := by
  rw [u8_xor a y ha.1 ha.2 hy.1 hy.2]
  intro e
  obtain ⟨a0, a1⟩ := ha
  obtain ⟨y0, y1⟩ := hy
  have e1 : a.toNat ^^^ y.toNat = a.toNat := by omega
  have e2 : a.toNat ^^^ (a.toNat ^^^ y.toNat) = 0 := by rw [e1, Nat.xor_self]
  rw [← Nat.xor_assoc, Nat.xor_self, Nat.zero_xor] at e2
  omega
theorem xor_inj {a b c : Int} (ha : byt a) (hb : byt b) (hc : byt c) (h : bits .xor .u8 a c = bits .xor .u8 b c) : a = b := by
  rw [u8_xor a c ha.1 ha.2 hc.1 hc.2, u8_xor b c hb.1 hb.2 hc.1 hc.2] at h
  obtain ⟨a0, a1⟩ := ha
  obtain ⟨b0, b1⟩ := hb
  have e1 : a.toNat ^^^ c.toNat = b.toNat ^^^ c.toNat := by omega
  have e2 : (a.toNat ^^^ c.toNat) ^^^ c.toNat = (b.toNat ^^^ c.toNat) ^^^ c.toNat := by rw [e1]
  rw [Nat.xor_assoc, Nat.xor_assoc, Nat.xor_self, Nat.xor_zero, Nat.xor_zero] at e2
  omega
theorem xor_comm {a b : Int} (ha : byt a) (hb : byt b) : bits .xor .u8 a b = bits .xor .u8 b a := by
  rw [u8_xor a b ha.1 ha.2 hb.1 hb.2, u8_xor b a hb.1 hb.2 ha.1 ha.2, Nat.xor_comm]
theorem xor_inj2 {a b c : Int} (ha : byt a) (hb : byt b) (hc : byt c) (h : bits .xor .u8 c a = bits .xor .u8 c b) : a = b := by
  rw [xor_comm hc ha, xor_comm hc hb] at h
  exact xor_inj ha hb hc h
theorem b165 : byt 165 := ⟨by decide, by decide⟩
theorem hurt0 {c r p y : Int} (hc : byt c) (hr : byt r) (hp : byt p) (hy : byt y) (h : y ≠ 0) : ent (bits .xor .u8 c y) r p (chk c r p) = idle := ent_no fun e => by
  have hcy := xor_byt hc hy
  have e3 := xor_inj (xor_byt (xor_byt hc hr) hp) (xor_byt (xor_byt hcy hr) hp) b165 e
  have e2 := xor_inj (xor_byt hc hr) (xor_byt hcy hr) hp e3
  exact xor_ne hc hy h (xor_inj hc hcy hr e2).symm
theorem hurt1 {c r p y : Int} (hc : byt c) (hr : byt r) (hp : byt p) (hy : byt y) (h : y ≠ 0) : ent c (bits .xor .u8 r y) p (chk c r p) = idle := ent_no fun e => by
  have hry := xor_byt hr hy
  have e3 := xor_inj (xor_byt (xor_byt hc hr) hp) (xor_byt (xor_byt hc hry) hp) b165 e
  have e2 := xor_inj (xor_byt hc hr) (xor_byt hc hry) hp e3
  exact xor_ne hr hy h (xor_inj2 hr hry hc e2).symm
theorem hurt2 {c r p y : Int} (hc : byt c) (hr : byt r) (hp : byt p) (hy : byt y) (h : y ≠ 0) : ent c r (bits .xor .u8 p y) (chk c r p) = idle := ent_no fun e => by
  have hpy := xor_byt hp hy
  have e3 := xor_inj (xor_byt (xor_byt hc hr) hp) (xor_byt (xor_byt hc hr) hpy) b165 e
  exact xor_ne hp hy h (xor_inj2 hp hpy (xor_byt hc hr) e3).symm
theorem hurt3 {c r p y : Int} (hc : byt c) (hr : byt r) (hp : byt p) (hy : byt y) (h : y ≠ 0) : ent c r p (bits .xor .u8 (chk c r p) y) = idle := ent_no fun e => xor_ne (chk_byt hc hr hp) hy h e
/-- Entry i of a list of bytes; the inputs of a list of bytes. -/
def el (zs : List Int) (i : Nat) : Inp := ent (zs.getD (i * 4) 0) (zs.getD (i * 4 + 1) 0) (zs.getD (i * 4 + 2) 0) (zs.getD (i * 4 + 3) 0)
def dec (zs : List Int) : List Inp := (List.range (min (zs.length / 4) 65536)).map (el zs)
def enc1 (x : Inp) : List Int := [ctl x, x.q, x.p, chk (ctl x) x.q x.p]
def encs (l : List Inp) : List Int := l.flatMap enc1
def enc (l : List Inp) : List Int := encs (l.take 65536)
/-- The first k inputs of n, the others zero. -/
def decK (z : Inp) (zs : List Int) (n k : Nat) : List Inp := (List.range n).map fun i => if i < k then el zs i else z
theorem decK_zero (z : Inp) (zs : List Int) (n : Nat) : decK z zs n 0 = List.replicate n z := by
  apply List.ext_getElem?
  intro i
  unfold decK
  rw [List.getElem?_map, List.getElem?_replicate]
  by_cases h : i < n
  · rw [List.getElem?_range h, if_pos h]; rfl
  · rw [List.getElem?_eq_none (by simp; omega), if_neg h]; rfl
theorem decK_len (z : Inp) (zs : List Int) (n k : Nat) : (decK z zs n k).length = n := by simp [decK]
theorem decK_step (z : Inp) (zs : List Int) (n k : Nat) (h : k < n) : (decK z zs n k).set k (el zs k) = decK z zs n (k + 1) := by
  apply List.ext_getElem?
  intro i
  rw [List.getElem?_set]
  unfold decK
  rw [List.getElem?_map, List.getElem?_map]
  by_cases he : k = i
  · subst he
    rw [if_pos rfl, List.getElem?_range h, if_pos (by simp; exact h)]; simp
  · rw [if_neg he]
    by_cases hi : i < n
    · rw [List.getElem?_range hi]
      simp only [Option.map_some]
      congr 1
      by_cases h1 : i < k
      · rw [if_pos h1, if_pos (by omega)]
      · rw [if_neg h1, if_neg (by omega)]
    · rw [List.getElem?_eq_none (by simp; omega)]; rfl
theorem decK_all (z : Inp) (zs : List Int) (n : Nat) (h : n = min (zs.length / 4) 65536) : decK z zs n n = dec zs := by
  subst h
  unfold decK dec
  apply List.map_congr_left
  intro i hi
  rw [if_pos (List.mem_range.1 hi)]
theorem dec_len (zs : List Int) : (dec zs).length = min (zs.length / 4) 65536 := by simp [dec]
theorem encs_len : ∀ l : List Inp, (encs l).length = l.length * 4
  | [] => rfl
  | x :: l => by
    have e : encs (x :: l) = enc1 x ++ encs l := rfl
    rw [e, List.length_append, encs_len l, List.length_cons]; show 4 + _ = _; omega
theorem enc_len (l : List Inp) : (enc l).length = min l.length 65536 * 4 := by unfold enc; rw [encs_len, List.length_take]; omega
theorem encs_cons (x : Inp) (l : List Inp) : encs (x :: l) = ctl x :: x.q :: x.p :: chk (ctl x) x.q x.p :: encs l := rfl
theorem encs_app (l m : List Inp) : encs (l ++ m) = encs l ++ encs m := by simp [encs]
theorem encs_step {l : List Inp} {k : Nat} {x : Inp} (h : l[k]? = some x) : encs (l.take (k + 1)) = encs (l.take k) ++ enc1 x := by
  have hk := (List.getElem?_eq_some_iff.1 h).1
  rw [List.take_add_one, h, encs_app]
  simp [encs]
theorem encs_get : ∀ (l : List Inp) (i : Nat) (x : Inp), l[i]? = some x → (encs l)[i * 4]? = some (ctl x) ∧ (encs l)[i * 4 + 1]? = some x.q ∧ (encs l)[i * 4 + 2]? = some x.p ∧ (encs l)[i * 4 + 3]? = some (chk (ctl x) x.q x.p)
  | [], i, x, h => by simp at h
  | y :: l, 0, x, h => by simp at h; subst h; exact ⟨rfl, rfl, rfl, rfl⟩
  | y :: l, i + 1, x, h => by
    have := encs_get l i x (by simpa using h)
    rw [encs_cons, show (i + 1) * 4 = i * 4 + 1 + 1 + 1 + 1 by omega]
    simpa using this
theorem getD_of {zs : List Int} {i : Nat} {z : Int} (h : zs[i]? = some z) : zs.getD i 0 = z := by simp [List.getD, h]
theorem el_encs {l : List Inp} {i : Nat} {x : Inp} (h : l[i]? = some x) : el (encs l) i = x := by
  obtain ⟨h0, h1, h2, h3⟩ := encs_get l i x h
  unfold el
  rw [getD_of h0, getD_of h1, getD_of h2, getD_of h3, ent_ctl]
/-- The inputs of a list are decoded from its bytes again. -/
theorem dec_encs (l : List Inp) (h : l.length ≤ 65536) : dec (encs l) = l := by
  apply List.ext_getElem?
  intro i
  unfold dec
  rw [encs_len, List.getElem?_map]
  by_cases hi : i < l.length
  · rw [List.getElem?_range (by omega)]
    obtain ⟨x, hx⟩ : ∃ x, l[i]? = some x := ⟨_, List.getElem?_eq_getElem hi⟩
    rw [Option.map_some, el_encs hx, hx]
  · rw [List.getElem?_eq_none (by simp; omega), List.getElem?_eq_none (by omega)]; rfl
theorem enc_small {l : List Inp} (h : l.length ≤ 65536) : enc l = encs l := by unfold enc; rw [List.take_of_length_le h]
theorem dec_enc (l : List Inp) (h : l.length ≤ 65536) : dec (enc l) = l := by rw [enc_small h, dec_encs l h]
theorem encs_byt {l : List Inp} (h : ∀ x ∈ l, x.ok) : ∀ z ∈ encs l, byt z := by
  intro z hz
  simp only [encs, List.mem_flatMap] at hz
  obtain ⟨x, hx, hz⟩ := hz
  have hc := (ctl_facts x).1
  have ho := h x hx
  simp only [enc1, List.mem_cons, List.not_mem_nil, or_false] at hz
  rcases hz with rfl | rfl | rfl | rfl
  · exact hc
  · exact ho.1
  · exact ho.2
  · exact chk_byt hc ho.1 ho.2
theorem enc_byt {l : List Inp} (h : ∀ x ∈ l, x.ok) : ∀ z ∈ enc l, byt z := encs_byt fun x hx => h x (List.mem_of_mem_take hx)
theorem getD_set_ne (zs : List Int) {k j : Nat} (y : Int) (h : k ≠ j) : (zs.set k y).getD j 0 = zs.getD j 0 := by simp [List.getD, List.getElem?_set_ne h]
theorem getD_set_eq (zs : List Int) {k : Nat} (y : Int) (h : k < zs.length) : (zs.set k y).getD k 0 = y := by simp [List.getD, h]
/-- A changed byte makes its entry idle and leaves all others as they are. -/
theorem dec_hurt {l : List Inp} (hl : l.length ≤ 65536) (ho : ∀ x ∈ l, x.ok) {k : Nat} (hk : k < l.length * 4) {y : Int} (hy : byt y) (h0 : y ≠ 0) :
    dec ((encs l).set k (bits .xor .u8 ((encs l).getD k 0) y)) = l.set (k / 4) idle := by
  apply List.ext_getElem?
  intro i
  unfold dec
  rw [List.length_set, encs_len, List.getElem?_map]
  by_cases hi : i < l.length
  · rw [List.getElem?_range (by omega), Option.map_some]
    obtain ⟨x, hx⟩ : ∃ x, l[i]? = some x := ⟨_, List.getElem?_eq_getElem hi⟩
    obtain ⟨g0, g1, g2, g3⟩ := encs_get l i x hx
    have hc := (ctl_facts x).1
    have hx' := ho x (List.mem_of_getElem? hx)
    have hlen := encs_len l
    by_cases he : k / 4 = i
    · rw [List.getElem?_set, if_pos he, if_pos (by omega)]
      congr 1
      unfold el
      rcases (by omega : k = i * 4 ∨ k = i * 4 + 1 ∨ k = i * 4 + 2 ∨ k = i * 4 + 3) with rfl | rfl | rfl | rfl
      · rw [getD_set_eq _ _ (by omega), getD_set_ne _ _ (by omega), getD_set_ne _ _ (by omega), getD_set_ne _ _ (by omega), getD_of g0, getD_of g1, getD_of g2, getD_of g3]
        exact hurt0 hc hx'.1 hx'.2 hy h0
      · rw [getD_set_eq _ _ (by omega), getD_set_ne _ _ (by omega), getD_set_ne _ _ (by omega), getD_set_ne _ _ (by omega), getD_of g0, getD_of g1, getD_of g2, getD_of g3]
        exact hurt1 hc hx'.1 hx'.2 hy h0
      · rw [getD_set_eq _ _ (by omega), getD_set_ne _ _ (by omega), getD_set_ne _ _ (by omega), getD_set_ne _ _ (by omega), getD_of g0, getD_of g1, getD_of g2, getD_of g3]
        exact hurt2 hc hx'.1 hx'.2 hy h0
      · rw [getD_set_eq _ _ (by omega), getD_set_ne _ _ (by omega), getD_set_ne _ _ (by omega), getD_set_ne _ _ (by omega), getD_of g0, getD_of g1, getD_of g2, getD_of g3]
        exact hurt3 hc hx'.1 hx'.2 hy h0
    · rw [List.getElem?_set_ne he, hx]
      congr 1
      have e : el ((encs l).set k (bits .xor .u8 ((encs l).getD k 0) y)) i = el (encs l) i := by
        unfold el
        rw [getD_set_ne _ _ (by omega), getD_set_ne _ _ (by omega), getD_set_ne _ _ (by omega), getD_set_ne _ _ (by omega)]
      rw [e, el_encs hx]
  · rw [List.getElem?_eq_none (by simp; omega), List.getElem?_eq_none (by simp; omega)]; rfl
end Go.Proofs.Ytjjcahdieldmcaa.S
