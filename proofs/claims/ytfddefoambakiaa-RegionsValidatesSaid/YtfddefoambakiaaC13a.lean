/- Contracts of package regions and of its reference: Find, Validate, Read, Waits, Limit. Conditions: the slices hold the lists. -/
import Derived.Test.YtfddefoambakiaaS13
import Derived.Test.YtfddefoambakiaaC12u
namespace Go.Proofs.Ytfddefoambakiaa
open Go.ChangeShapes Go.WideShapes Go.ChangeAt Go.RowKit
set_option linter.unusedVariables false
set_option maxHeartbeats 1000000 in
theorem find_any (a : Option Addr) (len cap : Nat) (l : List Rg) (x : Int) (w : World) (h : HeldR w a len l) : Calls Try.prog 28 #[.slice a len cap, .int .u16 x] w fun e w' => e = .returned (.int .i64 (Sm.fnd l x)) ∧ Adds w w' := by
  obtain ⟨hl, hbig, hat⟩ := h
  have HL : Hid _ := Lib.hid hl
  have HA : Hid _ := Lib.hid hat
  clear hl hat
  go_enter Try.func28, Try.ntmps28
  go_wp2
  go_loopw [9] (fun i wr => ∃ k : Nat, k ≤ len ∧ i = .int .i64 k ∧ Adds w wr ∧ Hid (Sm.fnd l x = Sm.fndFrom x (l.drop k) k)) (fun i _ => len - (intOf i).toNat)
  case atStart => exact ⟨0, Nat.zero_le _, rfl, Adds.refl _, rfl⟩
  case round =>
    obtain ⟨k, hk, rfl, ⟨⟨n1, os1⟩, rfl⟩, HF⟩ := hrel
    by_cases hlt : k < len
    · have hltz : (k : Int) < (len : Int) := by omega
      obtain ⟨r, hr⟩ : ∃ r, l[k]? = some r := ⟨l[k]'(by have := HL.out; omega), List.getElem?_eq_getElem _⟩
      obtain ⟨b, o, rfl, hb, hat⟩ := HA.out (by omega)
      obtain ⟨h1, h2, h3, h4⟩ := hat k r hr
      have HHit : Hid _ := Lib.hid (fun h => Sm.fnd_hit hr h HF.out)
      have HMiss : Hid _ := Lib.hid (fun h => Sm.fnd_miss hr h HF.out)
      obtain ⟨fr, tw, ram, wt⟩ := r
      simp only at h1 h2 h3 h4
      clear hat hr
      by_cases q1 : fr ≤ x
      · by_cases q2 : x ≤ tw
        · have HV : Hid _ := Lib.hid (HHit.out (Sm.has_yes q1 q2))
          go_wp2_with fail
          go_ret
          exact ⟨rn HV.out.symm, by (repeat (first | with_reducible exact Adds.refl _ | with_reducible apply Adds.drew | with_reducible apply Adds.drewN | with_reducible apply Adds.alloc | with_reducible apply Adds.more | (with_reducible refine Adds.setCell ?_ ?_ _) | (focus (simp [go_sem]; done)) | (focus (simp [go_sem]; omega))))⟩
        · have HV : Hid _ := Lib.hid (HMiss.out (Sm.has_no2 q2))
          have q2' : decide (x ≤ tw) = false := decide_eq_false q2
          go_wp2_with fail
          go_roundw
          case rel => exact ⟨k + 1, by omega, by go_num, by (repeat (first | with_reducible exact Adds.refl _ | with_reducible apply Adds.drew | with_reducible apply Adds.drewN | with_reducible apply Adds.alloc | with_reducible apply Adds.more | (with_reducible refine Adds.setCell ?_ ?_ _) | (focus (simp [go_sem]; done)) | (focus (simp [go_sem]; omega)))), HV⟩
          case measure => simp [intOf] <;> omega
      · have HV : Hid _ := Lib.hid (HMiss.out (Sm.has_no1 q1))
        have q1' : decide (fr ≤ x) = false := decide_eq_false q1
        go_wp2_with fail
        go_roundw
        case rel => exact ⟨k + 1, by omega, by go_num, by (repeat (first | with_reducible exact Adds.refl _ | with_reducible apply Adds.drew | with_reducible apply Adds.drewN | with_reducible apply Adds.alloc | with_reducible apply Adds.more | (with_reducible refine Adds.setCell ?_ ?_ _) | (focus (simp [go_sem]; done)) | (focus (simp [go_sem]; omega)))), HV⟩
        case measure => simp [intOf] <;> omega
    · have hltz : ¬ (k : Int) < (len : Int) := by omega
      have HV : Hid _ := Lib.hid (Sm.fnd_end (by have := HL.out; omega) HF.out)
      go_wp2_with fail
      go_ret
      exact ⟨rn HV.out.symm, by (repeat (first | with_reducible exact Adds.refl _ | with_reducible apply Adds.drew | with_reducible apply Adds.drewN | with_reducible apply Adds.alloc | with_reducible apply Adds.more | (with_reducible refine Adds.setCell ?_ ?_ _) | (focus (simp [go_sem]; done)) | (focus (simp [go_sem]; omega))))⟩
set_option maxHeartbeats 1000000 in
theorem rfind_any (a : Option Addr) (len cap : Nat) (l : List Rg) (x : Int) (w : World) (h : HeldR w a len l) : Calls Try.prog 29 #[.slice a len cap, .int .u16 x] w fun e w' => e = .returned (.int .i64 (Sm.fnd l x)) ∧ Adds w w' := by
  obtain ⟨hl, hbig, hat⟩ := h
  have HL : Hid _ := Lib.hid hl
  have HA : Hid _ := Lib.hid hat
  clear hl hat
  go_enter Try.func29, Try.ntmps29
  go_wp2
  go_loopw [9] (fun i wr => ∃ k : Nat, k ≤ len ∧ i = .int .i64 k ∧ Adds w wr ∧ Hid (Sm.fnd l x = Sm.fndFrom x (l.drop k) k)) (fun i _ => len - (intOf i).toNat)
  case atStart => exact ⟨0, Nat.zero_le _, rfl, Adds.refl _, rfl⟩
  case round =>
    obtain ⟨k, hk, rfl, ⟨⟨n1, os1⟩, rfl⟩, HF⟩ := hrel
    by_cases hlt : k < len
    · have hltz : (k : Int) < (len : Int) := by omega
      obtain ⟨r, hr⟩ : ∃ r, l[k]? = some r := ⟨l[k]'(by have := HL.out; omega), List.getElem?_eq_getElem _⟩
      obtain ⟨b, o, rfl, hb, hat⟩ := HA.out (by omega)
      obtain ⟨h1, h2, h3, h4⟩ := hat k r hr
      have HHit : Hid _ := Lib.hid (fun h => Sm.fnd_hit hr h HF.out)
      have HMiss : Hid _ := Lib.hid (fun h => Sm.fnd_miss hr h HF.out)
      obtain ⟨fr, tw, ram, wt⟩ := r
      simp only at h1 h2 h3 h4
      clear hat hr
      by_cases q1 : fr ≤ x
      · by_cases q2 : x ≤ tw
        · have HV : Hid _ := Lib.hid (HHit.out (Sm.has_yes q1 q2))
          go_wp2_with fail
          go_ret
          exact ⟨rn HV.out.symm, by (repeat (first | with_reducible exact Adds.refl _ | with_reducible apply Adds.drew | with_reducible apply Adds.drewN | with_reducible apply Adds.alloc | with_reducible apply Adds.more | (with_reducible refine Adds.setCell ?_ ?_ _) | (focus (simp [go_sem]; done)) | (focus (simp [go_sem]; omega))))⟩
        · have HV : Hid _ := Lib.hid (HMiss.out (Sm.has_no2 q2))
          have q2' : decide (x ≤ tw) = false := decide_eq_false q2
          go_wp2_with fail
          go_roundw
          case rel => exact ⟨k + 1, by omega, by go_num, by (repeat (first | with_reducible exact Adds.refl _ | with_reducible apply Adds.drew | with_reducible apply Adds.drewN | with_reducible apply Adds.alloc | with_reducible apply Adds.more | (with_reducible refine Adds.setCell ?_ ?_ _) | (focus (simp [go_sem]; done)) | (focus (simp [go_sem]; omega)))), HV⟩
          case measure => simp [intOf] <;> omega
      · have HV : Hid _ := Lib.hid (HMiss.out (Sm.has_no1 q1))
        have q1' : decide (fr ≤ x) = false := decide_eq_false q1
        go_wp2_with fail
        go_roundw
        case rel => exact ⟨k + 1, by omega, by go_num, by (repeat (first | with_reducible exact Adds.refl _ | with_reducible apply Adds.drew | with_reducible apply Adds.drewN | with_reducible apply Adds.alloc | with_reducible apply Adds.more | (with_reducible refine Adds.setCell ?_ ?_ _) | (focus (simp [go_sem]; done)) | (focus (simp [go_sem]; omega)))), HV⟩
        case measure => simp [intOf] <;> omega
    · have hltz : ¬ (k : Int) < (len : Int) := by omega
      have HV : Hid _ := Lib.hid (Sm.fnd_end (by have := HL.out; omega) HF.out)
      go_wp2_with fail
      go_ret
      exact ⟨rn HV.out.symm, by (repeat (first | with_reducible exact Adds.refl _ | with_reducible apply Adds.drew | with_reducible apply Adds.drewN | with_reducible apply Adds.alloc | with_reducible apply Adds.more | (with_reducible refine Adds.setCell ?_ ?_ _) | (focus (simp [go_sem]; done)) | (focus (simp [go_sem]; omega))))⟩
end Go.Proofs.Ytfddefoambakiaa
