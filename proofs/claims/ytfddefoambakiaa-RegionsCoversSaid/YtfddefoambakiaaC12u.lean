/- The contracts of stage 12 for lists of any length up to 2^24, in the form that the laws take. Conditions: the lists have at most 16,777,215 cells. -/
import Derived.Test.YtfddefoambakiaaC12j
import Derived.Test.YtfddefoambakiaaC12t
namespace Go.Proofs.Ytfddefoambakiaa
open Go.ChangeShapes Go.WideShapes Go.ChangeAt Go.RowKit
set_option linter.unusedVariables false
theorem norm_h (a : Option Addr) (len cap : Nat) (l : List Cl) (w : World) (h : Held w a len l) (hlen : len ≤ 16777215) :
    Calls Try.prog 14 #[.slice a len cap] w fun e w' => ∃ ad n c, e = .returned (.slice ad n c) ∧ Hid (Held w' ad n (Sm.nrm l)) ∧ Hid (n ≤ len) ∧ n ≤ c ∧ Adds w w' := by
  refine (normAt_any a len cap l w h (by omega)).mono ?_
  rintro e w' ⟨r, rfl, hO, hA⟩
  have h2 := Sm.nrm_len l
  have h3 := h.1
  obtain ⟨ad, n, c, rfl, hn, h4, h5, _⟩ := hO.form2
  have hn' := hn.out
  exact ⟨ad, n, c, rfl, hO.held (by omega), show n ≤ len by omega, h4, hA⟩
theorem put_h (a : Option Addr) (len cap : Nat) (l : List Cl) (x v : Int) (w : World) (h : Held w a len l) (hlen : len ≤ 16777215) :
    Calls Try.prog 16 #[.slice a len cap, .int .u16 x, .int .u8 v] w fun e w' => ∃ ad n c, e = .returned (.slice ad n c) ∧ Hid (Held w' ad n (Sm.put (Sm.nrm l) (x, v))) ∧ Hid (n ≤ len + 1) ∧ n ≤ c ∧ Adds w w' := by
  refine (put_of 16777216 (fun a len cap l w h hl => normAt_any a len cap l w h (by omega)) (Nat.le_refl _) a len cap l x v w h (by omega)).mono ?_
  rintro e w' ⟨r, rfl, hO, hA⟩
  have h1 := Sm.put_len (Sm.nrm l) (x, v)
  have h2 := Sm.nrm_len l
  have h3 := h.1
  obtain ⟨ad, n, c, rfl, hn, h4, h5, _⟩ := hO.form2
  have hn' := hn.out
  exact ⟨ad, n, c, rfl, hO.held (by omega), show n ≤ len + 1 by omega, h4, hA⟩
theorem rput_h (a : Option Addr) (len cap : Nat) (l : List Cl) (x v : Int) (w : World) (h : Held w a len l) (hlen : len ≤ 16777215) :
    Calls Try.prog 17 #[.slice a len cap, .int .u16 x, .int .u8 v] w fun e w' => ∃ ad n c, e = .returned (.slice ad n c) ∧ Hid (Held w' ad n (Sm.put (Sm.nrm l) (x, v))) ∧ Hid (n ≤ len + 1) ∧ n ≤ c ∧ Adds w w' := by
  refine (rPut_any a len cap l x v w h (by omega)).mono ?_
  rintro e w' ⟨r, rfl, hO, hA⟩
  have h1 := Sm.put_len (Sm.nrm l) (x, v)
  have h2 := Sm.nrm_len l
  have h3 := h.1
  obtain ⟨ad, n, c, rfl, hn, h4, h5, _⟩ := hO.form2
  have hn' := hn.out
  exact ⟨ad, n, c, rfl, hO.held (by omega), show n ≤ len + 1 by omega, h4, hA⟩
theorem same_h (a a' : Option Addr) (len cap len' cap' : Nat) (d : List Cl) (w : World) (h : Held w a len d) (h' : Held w a' len' d) :
    Calls Try.prog 13 #[.slice a len cap, .slice a' len' cap'] w fun e w' => e = .returned (.bool true) ∧ Adds w w' := by
  have := same_any a a' len cap len' cap' d d w h h'
  rwa [Sm.same_refl] at this
theorem valnrm (a : Option Addr) (n c : Nat) (d : List Cl) (w : World) (h : Held w a n (Sm.nrm d)) : Calls Try.prog 18 #[.slice a n c] w fun e w' => e = .returned (.bool true) ∧ Adds w w' := by
  have := valid_any a n c _ w h
  rwa [(Sm.valid_iff _).2 (Sm.V_nrm d)] at this
theorem load_h (a : Option Addr) (len cap : Nat) (b : List Int) (z : Int) (w : World) (h : HeldB w a len b) (hlen : len ≤ 65535) (hlc : len ≤ cap) (hcap : cap ≤ 9223372036854775807) (z0 : 0 ≤ z) (z1 : z < 65536) :
    Calls Try.prog 19 #[.int .u16 z, .slice a len cap] w fun e w' => ∃ ad n c, e = .returned (.slice ad n c) ∧ Hid (Held w' ad n (Sm.nrm (Sm.lod z b))) ∧ Hid (n ≤ len) ∧ n ≤ c ∧ Adds w w' := by
  refine (load_of 65536 (fun a len cap l w h hl => normAt_any a len cap l w h (by omega)) (Nat.le_refl _) a len cap b z w h (by omega) hlc hcap z0 z1).mono ?_
  rintro e w' ⟨r, rfl, hO, hA⟩
  have h2 := Sm.nrm_len (Sm.lod z b)
  have h3 := h.1
  rw [Sm.lod_len] at h2
  obtain ⟨ad, n, c, rfl, hn, h4, h5, _⟩ := hO.form2
  have hn' := hn.out
  exact ⟨ad, n, c, rfl, hO.held (by omega), show n ≤ len by omega, h4, hA⟩
theorem rload_h (a : Option Addr) (len cap : Nat) (b : List Int) (z : Int) (w : World) (h : HeldB w a len b) (hlen : len ≤ 65535) (z0 : 0 ≤ z) (z1 : z < 65536) :
    Calls Try.prog 21 #[.int .u16 z, .slice a len cap] w fun e w' => ∃ ad n c, e = .returned (.slice ad n c) ∧ Hid (Held w' ad n (Sm.nrm (Sm.lod z b))) ∧ Hid (n ≤ len) ∧ n ≤ c ∧ Adds w w' := by
  refine (rload_any a len cap b z w h (by omega) z0 z1).mono ?_
  rintro e w' ⟨r, rfl, hO, hA⟩
  have h2 := Sm.nrm_len (Sm.lod z b)
  have h3 := h.1
  rw [Sm.lod_len] at h2
  obtain ⟨ad, n, c, rfl, hn, h4, h5, _⟩ := hO.form2
  have hn' := hn.out
  exact ⟨ad, n, c, rfl, hO.held (by omega), show n ≤ len by omega, h4, hA⟩
theorem Sm.lod_at (z : Int) (b : List Int) {i : Nat} {v : Int} (h : b[i]? = some v) : (Sm.lod z b)[i]? = some ((z + (i : Int)) % 65536, v) := by
  have hi : i < b.length := (List.getElem?_eq_some_iff.1 h).1
  simp only [Sm.lod, List.getElem?_map, List.getElem?_range hi, Option.map_some]
  rw [List.getD_eq_getElem?_getD, h]; rfl
theorem Sm.get_lod (z : Int) (b : List Int) {i : Nat} {v : Int} (hb : b.length ≤ 65536) (h : b[i]? = some v) : Sm.get (Sm.lod z b) ((z + (i : Int)) % 65536) = v := by
  refine Sm.get_at (Sm.lod_at z b h) ?_
  intro c hc
  obtain ⟨t, ht, hg⟩ := Sm.mem_drop_get hc
  have htl : t < b.length := by have := (List.getElem?_eq_some_iff.1 hg).1; rwa [Sm.lod_len] at this
  have hg2 := Sm.lod_at z b (List.getElem?_eq_getElem htl)
  rw [hg] at hg2
  cases hg2
  simp only
  omega
/-- A slice of bytes of the input. -/
theorem heldB_of {w : World} {a : Option Addr} {len cap : Nat} {zs : List Int} (h : IsRow .u8 w a len cap zs) : HeldB w a len (zs.take len) ∧ len ≤ cap ∧ cap ≤ 9223372036854775807 := by
  rcases h with ⟨rfl, rfl, rfl, rfl⟩ | ⟨x, rfl, h2, h3, h4, h5, h6⟩
  · exact ⟨⟨rfl, fun h => absurd h (by omega)⟩, by omega, by omega⟩
  · refine ⟨⟨by simp; omega, fun hn => ?_⟩, h2, by simpa [maxLen] using h3⟩
    obtain ⟨bx, ox, sp⟩ := x
    have hx0 := h5 0 (by omega)
    rw [show (⟨bx, ox, sp⟩ : Addr).add 0 = ⟨bx, ox, sp⟩ by simp [Addr.add]] at hx0
    obtain rfl : sp = none := cell_spot hx0
    refine ⟨bx, ox, rfl, cell_lt hx0, fun j v hj => ?_⟩
    have hjl := (List.getElem?_eq_some_iff.1 hj).1
    simp at hjl
    have := h5 j (by omega)
    rw [add_plain] at this
    rw [this]
    rw [List.getElem?_take, if_pos (by omega)] at hj
    rw [List.getD_eq_getElem?_getD, hj]; rfl
end Go.Proofs.Ytfddefoambakiaa
