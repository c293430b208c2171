/- Plain functions on integers for the document's chapter 1: sums and differences of bytes with their carries, parity, majority, words. No condition. -/
import GoSem.Claim
import GoSem.ClaimJoined
import Derived.WalkKit
import Derived.ProofKit
import Derived.KernelRfl
import Derived.Laws.BitsAllLaws
namespace Go.Proofs.Ytfhnfakjjfjohaa.S
open Go.ChangeShapes Go.WideShapes Go.ChangeAt Go.RowKit
set_option linter.unusedVariables false
def one (b : Bool) : Int := if b then 1 else 0
def sgn (a : Int) : Int := if a < 128 then a else a - 256
def ovf (s : Int) : Bool := decide (s < -128) || decide (127 < s)
def sumR (a b : Int) (c : Bool) : Int := (a + b + one c) % 256
def sumO (a b : Int) (c : Bool) : Bool := decide (255 < a + b + one c)
def sumH (a b : Int) (c : Bool) : Bool := decide (15 < a % 16 + b % 16 + one c)
def sumV (a b : Int) (c : Bool) : Bool := ovf (sgn a + sgn b + one c)
def difR (a b : Int) (c : Bool) : Int := (a - b - one c) % 256
def difO (a b : Int) (c : Bool) : Bool := decide (a - b - one c < 0)
def difH (a b : Int) (c : Bool) : Bool := decide (15 < a % 16 + (15 - b % 16) + (1 - one c))
def difV (a b : Int) (c : Bool) : Bool := ovf (sgn a - sgn b - one c)
def maj (a b c : Bool) : Bool := (a && b) || (a && c) || (b && c)
def joi (h l : Int) : Int := bits .or .u16 (h * 256) l
def parN (a : Int) : Nat → Bool
  | 0 => true
  | k + 1 => if a / 2 ^ k % 2 = 1 then !parN a k else parN a k
def par (a : Int) : Bool := parN a 8
theorem one_bd (b : Bool) : 0 ≤ one b ∧ one b ≤ 1 := by cases b <;> simp [one]
theorem sgn_bd (a : Int) (h0 : 0 ≤ a) (h1 : a < 256) : -128 ≤ sgn a ∧ sgn a ≤ 127 := by unfold sgn; split <;> omega
theorem sgn_wrap (a : Int) (h0 : 0 ≤ a) (h1 : a < 256) : wrap64 (IntKind.i8.wrap a) = sgn a := by
  unfold sgn
  split <;> simp [wrap64, IntKind.wrap, IntKind.bits, IntKind.signed] <;> omega
theorem sumR_bd (a b : Int) (c : Bool) : 0 ≤ sumR a b c ∧ sumR a b c < 256 := by unfold sumR; omega
theorem difR_bd (a b : Int) (c : Bool) : 0 ≤ difR a b c ∧ difR a b c < 256 := by unfold difR; omega
theorem par_xor_fin : ∀ n : Fin 256, ∀ k : Fin 8, par (bits .xor .u8 (n.val : Int) (2 ^ k.val)) = !par (n.val : Int) ∧ 0 ≤ bits .xor .u8 (n.val : Int) (2 ^ k.val) ∧ bits .xor .u8 (n.val : Int) (2 ^ k.val) < 256 := by decide +kernel
theorem par_xor (a : Int) (a0 : 0 ≤ a) (a1 : a < 256) (k : Nat) (hk : k < 8) : par (bits .xor .u8 a (2 ^ k)) = !par a ∧ 0 ≤ bits .xor .u8 a (2 ^ k) ∧ bits .xor .u8 a (2 ^ k) < 256 := by
  have h := par_xor_fin ⟨a.toNat, by omega⟩ ⟨k, hk⟩
  simpa [Int.toNat_of_nonneg a0] using h
theorem and1_fin : ∀ n : Fin 256, bits .and .u8 (n.val : Int) 1 = (n.val : Int) % 2 := by decide +kernel
theorem and1 (a : Int) (a0 : 0 ≤ a) (a1 : a < 256) : bits .and .u8 a 1 = a % 2 := by
  have h := and1_fin ⟨a.toNat, by omega⟩
  simpa [Int.toNat_of_nonneg a0] using h
theorem bit_test (a : Int) (a0 : 0 ≤ a) (a1 : a < 256) (d : Int) (d0 : 0 < d) : (bits .and .u8 (a / d) 1 == 1) = decide (a / d % 2 = 1) := by
  have h0 : 0 ≤ a / d := Int.ediv_nonneg a0 (Int.le_of_lt d0)
  have h1 : a / d ≤ a := Int.ediv_le_self d a0
  rw [and1 (a / d) h0 (by omega)]
  rfl
theorem joi_eq (h l : Int) (h0 : 0 ≤ h) (h1 : h < 256) (l0 : 0 ≤ l) (l1 : l < 256) : joi h l = 256 * h + l := by
  unfold joi
  rw [u16_or _ _ (by omega) (by omega) l0 (by omega)]
  have e : (h * 256).toNat = 2 ^ 8 * h.toNat := by omega
  rw [e, ← Nat.two_pow_add_eq_or_of_lt (by omega)]
  omega
theorem joi_bd (h l : Int) (h0 : 0 ≤ h) (h1 : h < 256) (l0 : 0 ≤ l) (l1 : l < 256) : 0 ≤ joi h l ∧ joi h l < 65536 := by
  rw [joi_eq h l h0 h1 l0 l1]; omega
theorem dec_iff {p q : Prop} [Decidable p] [Decidable q] (h : p ↔ q) : decide p = decide q := by simp [h]
theorem dec_not {p q : Prop} [Decidable p] [Decidable q] (h : p ↔ ¬q) : decide p = !decide q := by simp [h]
theorem ovf_eq {s t : Int} (h : s = t) : ovf s = ovf t := by rw [h]
theorem dif_sum (a b : Int) (c : Bool) (a0 : 0 ≤ a) (a1 : a < 256) (b0 : 0 ≤ b) (b1 : b < 256) :
    difR a b c = sumR a (255 - b) (!c) ∧ difO a b c = !sumO a (255 - b) (!c) ∧ difH a b c = sumH a (255 - b) (!c) ∧ difV a b c = sumV a (255 - b) (!c) := by
  have hc : one (!c) = 1 - one c := by cases c <;> decide
  refine ⟨?_, ?_, ?_, ?_⟩
  · unfold difR sumR; rw [hc]; omega
  · unfold difO sumO; rw [hc]; exact dec_not (by omega)
  · unfold difH sumH; rw [hc]; exact dec_iff (by omega)
  · unfold difV sumV; rw [hc]; refine ovf_eq ?_; unfold sgn; split <;> split <;> (try split) <;> omega
theorem sum_comm (a b : Int) (c : Bool) : sumR b a c = sumR a b c ∧ sumO b a c = sumO a b c ∧ sumH b a c = sumH a b c ∧ sumV b a c = sumV a b c := by
  refine ⟨?_, ?_, ?_, ?_⟩
  · unfold sumR; omega
  · unfold sumO; exact dec_iff (by omega)
  · unfold sumH; exact dec_iff (by omega)
  · unfold sumV; exact ovf_eq (by omega)
theorem sum_undo (a b : Int) (c : Bool) (a0 : 0 ≤ a) (a1 : a < 256) (b0 : 0 ≤ b) (b1 : b < 256) : difR (sumR a b c) b c = a := by
  have := one_bd c
  unfold difR sumR; omega
theorem chain (a b : Int) (a0 : 0 ≤ a) (a1 : a < 65536) (b0 : 0 ≤ b) (b1 : b < 65536) :
    joi (sumR (a / 256) (b / 256) (sumO (a % 256) (b % 256) false)) (sumR (a % 256) (b % 256) false) = IntKind.u16.wrap (a + b) ∧
    sumO (a / 256) (b / 256) (sumO (a % 256) (b % 256) false) = decide (65535 < a + b) := by
  have hw : IntKind.u16.wrap (a + b) = (a + b) % 65536 := by simp [IntKind.wrap, IntKind.bits, IntKind.signed]
  rw [joi_eq _ _ (sumR_bd _ _ _).1 (sumR_bd _ _ _).2 (sumR_bd _ _ _).1 (sumR_bd _ _ _).2, hw]
  by_cases h : 255 < a % 256 + b % 256
  · have e : sumO (a % 256) (b % 256) false = true := by unfold sumO one; simp [h]
    rw [e]; unfold sumR sumO one
    refine ⟨by simp; omega, dec_iff (by simp; omega)⟩
  · have e : sumO (a % 256) (b % 256) false = false := by unfold sumO one; simp; omega
    rw [e]; unfold sumR sumO one
    refine ⟨by simp; omega, dec_iff (by simp; omega)⟩
end Go.Proofs.Ytfhnfakjjfjohaa.S
