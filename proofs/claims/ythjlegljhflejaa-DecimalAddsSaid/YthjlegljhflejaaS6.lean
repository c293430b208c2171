/- Plain functions for the document's chapter 6: the decimal adjustment. No condition. -/
import Derived.Test.YthjlegljhflejaaS4
namespace Go.Proofs.Ythjlegljhflejaa.S
open Go.ChangeShapes Go.WideShapes Go.ChangeAt Go.RowKit
set_option linter.unusedVariables false
/-- What an adjustment adds. -/
def dX (a : Int) (ac cy : Bool) : Int := (if ac || decide (9 < a % 16) then 6 else 0) + (if cy || decide (153 < a) then 96 else 0)
/-- Does it add 0x60? -/
def dH (a : Int) (cy : Bool) : Bool := cy || decide (153 < a)
/-- The same, on digits. -/
def cor (h l : Int) (ac cy : Bool) : Int :=
  if ac || decide (9 < l) then (if cy || decide (9 < h) || (decide (h = 9) && decide (9 < l)) then 102 else 6) else if cy || decide (9 < h) then 96 else 0
theorem dX_bd (a : Int) (ac cy : Bool) : 0 ≤ dX a ac cy ∧ dX a ac cy < 256 := by
  unfold dX
  split <;> split <;> omega
theorem cor_bd (h l : Int) (ac cy : Bool) : 0 ≤ cor h l ac cy ∧ cor h l ac cy < 256 := by
  unfold cor
  split <;> split <;> omega
theorem cor_fin : ∀ n : Fin 256, ∀ ac cy : Bool, cor ((n.val : Int) / 16) ((n.val : Int) % 16) ac cy = dX n.val ac cy ∧ decide (96 ≤ dX n.val ac cy) = dH n.val cy := by decide +kernel
theorem cor_eq (a : Int) (a0 : 0 ≤ a) (a1 : a < 256) (ac cy : Bool) : cor (a / 16) (a % 16) ac cy = dX a ac cy ∧ decide (96 ≤ dX a ac cy) = dH a cy := by
  have h := cor_fin ⟨a.toNat, by omega⟩ ac cy
  simpa [Int.toNat_of_nonneg a0] using h
/-- The byte of two decimal digits. -/
def dig (m : Int) : Int := m / 10 * 16 + m % 10
theorem dig_bd (m : Int) (m0 : 0 ≤ m) (m1 : m < 100) : 0 ≤ dig m ∧ dig m < 256 := by unfold dig; omega
theorem dig_adds_fin : ∀ m n : Fin 100, ∀ c : Bool, sumR (sumR (dig m.val) (dig n.val) c) (dX (sumR (dig m.val) (dig n.val) c) (sumH (dig m.val) (dig n.val) c) (sumO (dig m.val) (dig n.val) c)) false = dig ((m.val + n.val + one c) % 100) ∧ dH (sumR (dig m.val) (dig n.val) c) (sumO (dig m.val) (dig n.val) c) = decide (99 < (m.val : Int) + n.val + one c) := by decide +kernel
theorem dig_adds (m n : Int) (c : Bool) (m0 : 0 ≤ m) (m1 : m < 100) (n0 : 0 ≤ n) (n1 : n < 100) : sumR (sumR (dig m) (dig n) c) (dX (sumR (dig m) (dig n) c) (sumH (dig m) (dig n) c) (sumO (dig m) (dig n) c)) false = dig ((m + n + one c) % 100) ∧ dH (sumR (dig m) (dig n) c) (sumO (dig m) (dig n) c) = decide (99 < m + n + one c) := by
  have h := dig_adds_fin ⟨m.toNat, by omega⟩ ⟨n.toNat, by omega⟩ c
  simpa [Int.toNat_of_nonneg m0, Int.toNat_of_nonneg n0] using h
theorem dig_keeps_fin : ∀ m : Fin 100, dX (dig m.val) false false = 0 ∧ sumR (dig m.val) 0 false = dig m.val ∧ dH (dig m.val) false = false ∧ sumH (dig m.val) 0 false = false := by decide +kernel
theorem dig_keeps (m : Int) (m0 : 0 ≤ m) (m1 : m < 100) : dX (dig m) false false = 0 ∧ sumR (dig m) 0 false = dig m ∧ dH (dig m) false = false ∧ sumH (dig m) 0 false = false := by
  have h := dig_keeps_fin ⟨m.toNat, by omega⟩
  simpa [Int.toNat_of_nonneg m0] using h
theorem dig_go (m : Int) (m0 : 0 ≤ m) (m1 : m < 100) : IntKind.u8.wrap (m / 10 * 16 + m % 10) = dig m := by
  unfold dig
  simp [IntKind.wrap, IntKind.bits, IntKind.signed]
  omega
end Go.Proofs.Ythjlegljhflejaa.S
