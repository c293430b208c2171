/- Plain functions for the document's chapter 7: sums and differences of words. No condition. -/
import Derived.Test.YtnbkfdefkonodaaS5
namespace Go.Proofs.Ytnbkfdefkonodaa.S
open Go.ChangeShapes Go.WideShapes Go.ChangeAt Go.RowKit
set_option linter.unusedVariables false
def ovf16 (s : Int) : Bool := decide (s < -32768) || decide (32767 < s)
/-- The sum of words, its carry, and V on each chip. -/
def wsR (a b : Int) : Int := (a + b) % 65536
def wsO (a b : Int) : Bool := decide (65535 < a + b)
def wsV (c a b : Int) (v : Bool) : Bool := if c = 2 then ovf16 (sg16 a + sg16 b) else v
theorem wsV85 (a b : Int) (v : Bool) : wsV 2 a b v = ovf16 (sg16 a + sg16 b) := by simp [wsV]
theorem wsV80 {c : Int} (hc : ¬c = 2) (a b : Int) (v : Bool) : wsV c a b v = v := by simp [wsV, hc]
theorem ws_wrap (a b : Int) : IntKind.u16.wrap (a + b) = wsR a b := by simp [wsR, IntKind.wrap, IntKind.bits, IntKind.signed]
theorem wsR_bd (a b : Int) : 0 ≤ wsR a b ∧ wsR a b < 65536 := by unfold wsR; omega
theorem ws_comm (c a b : Int) (v : Bool) : wsR b a = wsR a b ∧ wsO b a = wsO a b ∧ wsV c b a v = wsV c a b v := by
  unfold wsR wsO wsV
  rw [Int.add_comm b a, Int.add_comm (sg16 b)]
  exact ⟨rfl, rfl, rfl⟩
/-- The difference of words in two steps: the borrow, the high byte and the rest. -/
def wdB (a b : Int) : Bool := difO (a % 256) (b % 256) false
def wdL (a b : Int) : Int := difR (a % 256) (b % 256) false
def wdT (a b : Int) : Int := difR (a / 256) (b / 256) (wdB a b)
def wdH (a b : Int) : Bool := difH (a / 256) (b / 256) (wdB a b)
def wdV (a b : Int) : Bool := difV (a / 256) (b / 256) (wdB a b)
def wdC (a b : Int) : Bool := difO (a / 256) (b / 256) (wdB a b)
def wdR (a b : Int) : Int := joi (wdT a b) (wdL a b)
def wdK (a b : Int) : Bool := maj (b15 a) (!b15 b) (b15 (wdR a b))
theorem wdL_bd (a b : Int) : 0 ≤ wdL a b ∧ wdL a b < 256 := difR_bd _ _ _
theorem wdT_bd (a b : Int) : 0 ≤ wdT a b ∧ wdT a b < 256 := difR_bd _ _ _
theorem wdR_bd (a b : Int) : 0 ≤ wdR a b ∧ wdR a b < 65536 := joi_bd _ _ (wdT_bd a b).1 (wdT_bd a b).2 (wdL_bd a b).1 (wdL_bd a b).2
theorem wdR_join (a b : Int) : wdR a b = 256 * wdT a b + wdL a b := joi_eq _ _ (wdT_bd a b).1 (wdT_bd a b).2 (wdL_bd a b).1 (wdL_bd a b).2
theorem wdB_one (a b : Int) : one (wdB a b) = if a % 256 < b % 256 then 1 else 0 := by
  unfold wdB difO one
  by_cases h : a % 256 < b % 256 <;> simp [h] <;> omega
theorem wdR_eq (a b : Int) (a0 : 0 ≤ a) (a1 : a < 65536) (b0 : 0 ≤ b) (b1 : b < 65536) : wdR a b = (a - b) % 65536 := by
  rw [wdR_join]
  unfold wdT wdL difR
  rw [wdB_one]
  have : one false = 0 := rfl
  rw [this]
  split <;> omega
theorem wdC_eq (a b : Int) (a0 : 0 ≤ a) (a1 : a < 65536) (b0 : 0 ≤ b) (b1 : b < 65536) : wdC a b = decide (a < b) := by
  unfold wdC difO
  rw [wdB_one]
  refine dec_iff ?_
  split <;> omega
theorem wdZ_eq (a b : Int) (a0 : 0 ≤ a) (a1 : a < 65536) (b0 : 0 ≤ b) (b1 : b < 65536) : (wdR a b == 0) = (a == b) := by
  have h1 : (wdR a b == 0) = decide (wdR a b = 0) := rfl
  have h2 : (a == b) = decide (a = b) := rfl
  rw [h1, h2, wdR_eq a b a0 a1 b0 b1]
  exact dec_iff (by omega)
theorem wdZ2 (a b : Int) : (wdT a b == 0 && wdL a b == 0) = (wdR a b == 0) := by
  have h1 : (wdR a b == 0) = decide (wdR a b = 0) := rfl
  have h2 : (wdT a b == 0) = decide (wdT a b = 0) := rfl
  have h3 : (wdL a b == 0) = decide (wdL a b = 0) := rfl
  have h4 := wdT_bd a b
  have h5 := wdL_bd a b
  rw [h1, h2, h3, wdR_join, ← Bool.decide_and]
  exact dec_iff (by omega)
theorem wdS2 (a b : Int) : decide (128 ≤ wdT a b) = b15 (wdR a b) := by
  have h4 := wdT_bd a b
  have h5 := wdL_bd a b
  unfold b15
  rw [wdR_join]
  exact dec_iff (by omega)
theorem lt15 (b : Int) : decide (b < 32768) = !b15 b := by
  unfold b15
  exact dec_not (by omega)
theorem wd_undoes (a b : Int) (a0 : 0 ≤ a) (a1 : a < 65536) (b0 : 0 ≤ b) (b1 : b < 65536) : wdR (wsR a b) b = a ∧ wdC (wsR a b) b = wsO a b := by
  obtain ⟨r0, r1⟩ := wsR_bd a b
  rw [wdR_eq _ b r0 r1 b0 b1, wdC_eq _ b r0 r1 b0 b1]
  unfold wsR wsO
  exact ⟨by omega, dec_iff (by omega)⟩
theorem i16w (a : Int) (a0 : 0 ≤ a) (a1 : a < 65536) : IntKind.i16.wrap a = sg16 a := by
  unfold sg16
  split <;> simp [IntKind.wrap, IntKind.bits, IntKind.signed] <;> omega
/-- S and V together tell which signed word is less. -/
theorem wd_signed (a b : Int) (a0 : 0 ≤ a) (a1 : a < 65536) (b0 : 0 ≤ b) (b1 : b < 65536) : (b15 (wdR a b) != wdV a b) = decide (sg16 a < sg16 b) := by
  obtain ⟨t, ht⟩ : ∃ t, t = sgn (a / 256) - sgn (b / 256) - one (wdB a b) := ⟨_, rfl⟩
  have e2 : wdV a b = (decide (t < -128) || decide (127 < t)) := by rw [ht]; rfl
  have e3 : wdT a b = t % 256 ∧ -256 ≤ t ∧ t ≤ 255 ∧ (sg16 a < sg16 b ↔ t < 0) := by
    rw [ht]
    unfold wdT difR
    rw [wdB_one]
    unfold sgn sg16
    refine ⟨?_, ?_, ?_, ?_⟩ <;> (repeat' split) <;> omega
  obtain ⟨e3, t0, t1, e4⟩ := e3
  rw [← wdS2, e2, e3, dec_iff e4]
  by_cases p : 128 ≤ t % 256 <;> by_cases q : t < -128 <;> by_cases r : 127 < t <;> simp [p, q, r] <;> omega
end Go.Proofs.Ytnbkfdefkonodaa.S
