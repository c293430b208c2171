/- Plain facts for decimal numbers of eight digits, two at a time. Conditions: the numbers are from 0 to 99999999. -/
import Derived.Test.YthjlegljhflejaaS6
namespace Go.Proofs.Ythjlegljhflejaa.S
open Go.ChangeShapes Go.WideShapes Go.ChangeAt Go.RowKit
set_option linter.unusedVariables false
/-- The sum of the lower digits, and its carry, for a bound e. -/
def ls (m n e : Int) : Int := (m % e + n % e) % e
def lc (m n e : Int) : Bool := decide (e ≤ m % e + n % e)
theorem dig_go100 (m : Int) (m0 : 0 ≤ m) : IntKind.u8.wrap (m % 100 / 10 * 16 + m % 10) = dig (m % 100) := by
  unfold dig
  simp [IntKind.wrap, IntKind.bits, IntKind.signed]
  omega
theorem dig_back (x : Int) (x0 : 0 ≤ x) (x1 : x < 100) : dig x / 16 * 10 + dig x % 16 = x := by unfold dig; omega
theorem one_lc (m n e : Int) : one (lc m n e) = if e ≤ m % e + n % e then 1 else 0 := by
  unfold one lc
  by_cases h : e ≤ m % e + n % e <;> simp [h]
theorem ls_1 (m n : Int) (m0 : 0 ≤ m) (n0 : 0 ≤ n) : ls m n 1 + 1 * ((m / 1 % 100 + n / 1 % 100 + one (lc m n 1)) % 100) = ls m n 100 ∧ decide (99 < m / 1 % 100 + n / 1 % 100 + one (lc m n 1)) = lc m n 100 := by
  rw [one_lc]
  have h1 : m % 100 = m % 1 + 1 * (m / 1 % 100) := by omega
  have h2 : n % 100 = n % 1 + 1 * (n / 1 % 100) := by omega
  unfold ls lc
  rw [h1, h2]
  generalize m / 1 % 100 = x at *
  generalize n / 1 % 100 = y at *
  split
  · exact ⟨by omega, dec_iff (by omega)⟩
  · exact ⟨by omega, dec_iff (by omega)⟩
theorem ls_100 (m n : Int) (m0 : 0 ≤ m) (n0 : 0 ≤ n) : ls m n 100 + 100 * ((m / 100 % 100 + n / 100 % 100 + one (lc m n 100)) % 100) = ls m n 10000 ∧ decide (99 < m / 100 % 100 + n / 100 % 100 + one (lc m n 100)) = lc m n 10000 := by
  rw [one_lc]
  have h1 : m % 10000 = m % 100 + 100 * (m / 100 % 100) := by omega
  have h2 : n % 10000 = n % 100 + 100 * (n / 100 % 100) := by omega
  unfold ls lc
  rw [h1, h2]
  generalize m / 100 % 100 = x at *
  generalize n / 100 % 100 = y at *
  split
  · exact ⟨by omega, dec_iff (by omega)⟩
  · exact ⟨by omega, dec_iff (by omega)⟩
theorem ls_10000 (m n : Int) (m0 : 0 ≤ m) (n0 : 0 ≤ n) : ls m n 10000 + 10000 * ((m / 10000 % 100 + n / 10000 % 100 + one (lc m n 10000)) % 100) = ls m n 1000000 ∧ decide (99 < m / 10000 % 100 + n / 10000 % 100 + one (lc m n 10000)) = lc m n 1000000 := by
  rw [one_lc]
  have h1 : m % 1000000 = m % 10000 + 10000 * (m / 10000 % 100) := by omega
  have h2 : n % 1000000 = n % 10000 + 10000 * (n / 10000 % 100) := by omega
  unfold ls lc
  rw [h1, h2]
  generalize m / 10000 % 100 = x at *
  generalize n / 10000 % 100 = y at *
  split
  · exact ⟨by omega, dec_iff (by omega)⟩
  · exact ⟨by omega, dec_iff (by omega)⟩
theorem ls_1000000 (m n : Int) (m0 : 0 ≤ m) (n0 : 0 ≤ n) : ls m n 1000000 + 1000000 * ((m / 1000000 % 100 + n / 1000000 % 100 + one (lc m n 1000000)) % 100) = ls m n 100000000 ∧ decide (99 < m / 1000000 % 100 + n / 1000000 % 100 + one (lc m n 1000000)) = lc m n 100000000 := by
  rw [one_lc]
  have h1 : m % 100000000 = m % 1000000 + 1000000 * (m / 1000000 % 100) := by omega
  have h2 : n % 100000000 = n % 1000000 + 1000000 * (n / 1000000 % 100) := by omega
  unfold ls lc
  rw [h1, h2]
  generalize m / 1000000 % 100 = x at *
  generalize n / 1000000 % 100 = y at *
  split
  · exact ⟨by omega, dec_iff (by omega)⟩
  · exact ⟨by omega, dec_iff (by omega)⟩
theorem ls_end (m n : Int) (m0 : 0 ≤ m) (m1 : m < 100000000) (n0 : 0 ≤ n) (n1 : n < 100000000) : ls m n 100000000 + 100000000 * one (lc m n 100000000) = m + n := by
  rw [one_lc]
  unfold ls
  split <;> omega
end Go.Proofs.Ythjlegljhflejaa.S
