/- memory.Load, its Normalize given, and the reference's. Conditions: the slice holds a list of bytes that is short enough for that Normalize. -/
import Derived.Test.YtfddefoambakiaaC12o
namespace Go.Proofs.Ytfddefoambakiaa
open Go.ChangeShapes Go.WideShapes Go.ChangeAt Go.RowKit
set_option linter.unusedVariables false
def HeldB (w : World) (a : Option Addr) (n : Nat) (b : List Int) : Prop := b.length = n ∧ (0 < n → ∃ g o, a = some ⟨g, o, none⟩ ∧ g < w.heap.size ∧ ∀ j v, b[j]? = some v → w.cell? ⟨g, o + j, none⟩ = some (.int .u8 v))
theorem HeldB.adds {w w' : World} {a : Option Addr} {n : Nat} {b : List Int} (h : HeldB w a n b) (k : Adds w w') : HeldB w' a n b :=
  ⟨h.1, fun hn => by
    obtain ⟨g, o, ha, hb, hat⟩ := h.2 hn
    exact ⟨g, o, ha, by have := k.size; omega, fun j v hv => (k.cell hb).trans (hat j v hv)⟩⟩
theorem Sm.lod_len (x : Int) (b : List Int) : (Sm.lod x b).length = b.length := by simp [Sm.lod]
theorem Sm.lod_take (x : Int) (b : List Int) {k : Nat} {v : Int} (h : b[k]? = some v) : (Sm.lod x b).take (k + 1) = (Sm.lod x b).take k ++ [((x + (k : Int)) % 65536, v)] := by
  have hk : k < b.length := (List.getElem?_eq_some_iff.1 h).1
  refine Sm.take_snoc ?_
  simp only [Sm.lod, List.getElem?_map, List.getElem?_range hk, Option.map_some]
  rw [List.getD_eq_getElem?_getD, h]; rfl
set_option maxHeartbeats 2000000 in
theorem rload_any (a : Option Addr) (len cap : Nat) (b : List Int) (z : Int) (w : World) (h : HeldB w a len b) (hb16 : len ≤ 65536) (z0 : 0 ≤ z) (z1 : z < 65536) :
    Calls Try.prog 21 #[.int .u16 z, .slice a len cap] w fun e w' => ∃ r, e = .returned r ∧ Owns w' w.heap.size r (Sm.nrm (Sm.lod z b)) ∧ Adds w w' := by
  have HL : Hid (b.length = len) := h.1
  have hat := h.2
  clear h
  go_enter Try.func21, Try.ntmps21
  go_wp2
  go_loopw [5, 9] (fun v5 i wr => ∃ k : Nat, k ≤ len ∧ i = .int .i64 k ∧ Owns wr w.heap.size v5 ((Sm.lod z b).take k) ∧ Adds w wr) (fun _ i _ => len - (intOf i).toNat)
  case atStart => exact ⟨0, Nat.zero_le _, rfl, Owns.nil _ _, Adds.refl _⟩
  case round =>
    obtain ⟨k, hk, rfl, hO, hA⟩ := hrel
    have hsz := hA.size
    by_cases hlt : k < len
    · obtain ⟨g, o, rfl, hg, hat⟩ := hat (by omega)
      obtain ⟨v, hv⟩ : ∃ v, b[k]? = some v := ⟨b[k]'(by have := HL.out; omega), List.getElem?_eq_getElem (by have := HL.out; omega)⟩
      have g1 : wr.cell? ⟨g, o + k, none⟩ = some (.int .u8 v) := (hA.cell hg).trans (hat k v hv)
      have HT : Hid _ := Lib.hid (Sm.lod_take z b hv)
      have hol : ((Sm.lod z b).take k).length ≤ k := List.length_take_le _ _
      have HOL : Hid _ := Lib.hid hol
      have hltz : (k : Int) < (len : Int) := by omega
      have hgr : g < wr.heap.size := by omega
      have hw0 : IntKind.u16.wrap (k : Int) = (k : Int) := by simp [IntKind.wrap, IntKind.bits, IntKind.signed]; omega
      clear hat hv hol
      go_wp2_with (at_builtin; refine wpList_app1 rfl _ _ rfl w.heap.size u5 ((Sm.lod z b).take k) ((z + (k : Int)) % 65536) v _ _ rfl rfl (by simp) hO (by have := HOL.out; omega) (by omega) ?_; intro v1 w2 hO2 hg2 _; have hA2 : Adds w w2 := hA.grown hg2 hO; clear hg2)
      go_roundw
      case rel => exact ⟨k + 1, by omega, by go_num, by rw [HT.out]; exact hO2, hA2⟩
      case measure => simp [intOf] <;> omega
    · have hltz : ¬ (k : Int) < (len : Int) := by omega
      have e2 : (Sm.lod z b).take k = Sm.lod z b := List.take_of_length_le (by rw [Sm.lod_len]; have := HL.out; omega)
      rw [e2] at hO
      obtain ⟨a1, n1, cap1, rfl, hn1, hc1, hc2, _⟩ := hO.form2
      have hn2 : n1 ≤ 65536 := by have q1 := hn1.out; rw [Sm.lod_len] at q1; have := HL.out; omega
      have HH : Hid _ := Lib.hid (hO.held (by rw [Sm.lod_len]; have := HL.out; omega))
      clear e2 hat
      go_wp2_with (go_at_call 15; refine (rnrm_any _ _ _ _ _ HH.out (by omega)).mono ?_; rintro e w2 ⟨r, rfl, hO2, hA2⟩)
      go_ret
      exact ⟨_, rfl, hO2.mono hsz, hA.trans hA2⟩
set_option maxHeartbeats 2000000 in
theorem load_of (N : Nat) (hN : NormAt N) (hN2 : N ≤ 65536) (a : Option Addr) (len cap : Nat) (b : List Int) (z : Int) (w : World) (h : HeldB w a len b) (hlN : len < N) (hlc : len ≤ cap) (hcap : cap ≤ 9223372036854775807) (z0 : 0 ≤ z) (z1 : z < 65536) :
    Calls Try.prog 19 #[.int .u16 z, .slice a len cap] w fun e w' => ∃ r, e = .returned r ∧ Owns w' w.heap.size r (Sm.nrm (Sm.lod z b)) ∧ Adds w w' := by
  have HL : Hid (b.length = len) := h.1
  have HN : Hid _ := Lib.hid hN
  have hat := h.2
  have hz : (len : Int) - 65536 ≤ 0 := by omega
  have hz1 : IntKind.i64.wrap ((len : Int) - 65536) = (len : Int) - 65536 := by rw [IntKind.wrap_i64]; omega
  clear h hN
  obtain ⟨i0, hi0, hz0, hzs, hzb⟩ := info_parts cellInfo
  have hw0 : IntKind.u16.wrap (0 : Int) = 0 := by simp [IntKind.wrap, IntKind.bits, IntKind.signed]
  have hw2 : IntKind.u16.wrap (z + 0) = z := by simp [IntKind.wrap, IntKind.bits, IntKind.signed]; omega
  have hw3 : IntKind.u16.wrap z = z := by simp [IntKind.wrap, IntKind.bits, IntKind.signed]; omega
  have hw4 : z % 65536 = z := by omega
  go_enter Try.func19, Try.ntmps19
  go_wp2_with (at_make; refine wpList_make_own _ rfl _ _ 22 rfl w.heap.size 59 i0 _ 2 Try.underlying22 hi0 hz0 hzs .i64 .i64 (len : Int) len rfl rfl rfl (by rw [hzb]; omega) (by unfold maxLen; omega) (Nat.le_refl _) ?_; intro w1 hO1 hg1)
  have hO1' : Owns w1 w.heap.size (.slice (some ⟨w.heap.size, 0, none⟩) 0 len) [] := hO1
  have hA1 : Adds w w1 := Adds.of_below ((Below.refl _ w).grown hg1 (Nat.le_refl _) (fun k hk => by cases hk))
  clear hO1 hg1 hz hz1 hw2 hw3 hw4
  go_loopw [6, 26] (fun v5 i wr => ∃ k : Nat, k ≤ len ∧ i = .int .i64 k ∧ Owns wr w.heap.size v5 ((Sm.lod z b).take k) ∧ Adds w wr) (fun _ i _ => len - (intOf i).toNat)
  case atStart => exact ⟨0, Nat.zero_le _, rfl, hO1', hA1⟩
  case round =>
    obtain ⟨k, hk, rfl, hO, hA⟩ := hrel
    have hsz := hA.size
    by_cases hlt : k < len
    · obtain ⟨g, o, rfl, hg, hat⟩ := hat (by omega)
      obtain ⟨v, hv⟩ : ∃ v, b[k]? = some v := ⟨b[k]'(by have := HL.out; omega), List.getElem?_eq_getElem (by have := HL.out; omega)⟩
      have g1 : wr.cell? ⟨g, o + k, none⟩ = some (.int .u8 v) := (hA.cell hg).trans (hat k v hv)
      have HT : Hid _ := Lib.hid (Sm.lod_take z b hv)
      have hol : ((Sm.lod z b).take k).length ≤ k := List.length_take_le _ _
      have HOL : Hid _ := Lib.hid hol
      have hltz : (k : Int) < (len : Int) := by omega
      have hgr : g < wr.heap.size := by omega
      clear hat hv hol
      go_wp2_with (at_builtin; refine wpList_app1 rfl _ _ rfl w.heap.size u6 ((Sm.lod z b).take k) ((z + (k : Int)) % 65536) v _ _ rfl rfl (by simp) hO (by have := HOL.out; omega) (by omega) ?_; intro v1 w2 hO2 hg2 _; have hA2 : Adds w w2 := hA.grown hg2 hO; clear hg2)
      go_roundw
      case rel => exact ⟨k + 1, by omega, by go_num, by rw [HT.out]; exact hO2, hA2⟩
      case measure => simp [intOf] <;> omega
    · have hltz : ¬ (k : Int) < (len : Int) := by omega
      have e2 : (Sm.lod z b).take k = Sm.lod z b := List.take_of_length_le (by rw [Sm.lod_len]; have := HL.out; omega)
      rw [e2] at hO
      obtain ⟨a1, n1, cap1, rfl, hn1, hc1, hc2, _⟩ := hO.form2
      have hn2 : n1 ≤ len := by have q1 := hn1.out; rw [Sm.lod_len] at q1; have := HL.out; omega
      have HH : Hid _ := Lib.hid (hO.held (by rw [Sm.lod_len]; have := HL.out; omega))
      clear e2 hat
      go_wp2_with (go_at_call 14; refine (HN.out _ _ _ _ _ HH.out (by omega)).mono ?_; rintro e w2 ⟨r, rfl, hO2, hA2⟩)
      go_ret
      exact ⟨_, rfl, hO2.mono hsz, hA.trans hA2⟩
end Go.Proofs.Ytfddefoambakiaa
