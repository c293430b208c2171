/- Plain facts on chapter 3's operations, for its statements. Conditions: bytes are from 0 to 255, words from 0 to 65535. -/
import Derived.Test.YtdchbhlnehenkaaS3
namespace Go.Proofs.Ytdchbhlnehenkaa.S
open Go.ChangeShapes Go.WideShapes Go.ChangeAt Go.RowKit
set_option linter.unusedVariables false
theorem cmp_lt (a b : Int) : difO a b false = decide (a < b) := by
  unfold difO one
  exact dec_iff (by simp; omega)
theorem cmp_eq (a b : Int) (a0 : 0 ≤ a) (a1 : a < 256) (b0 : 0 ≤ b) (b1 : b < 256) : (difR a b false == 0) = (a == b) := by
  unfold difR one
  rw [Bool.eq_iff_iff]
  simp only [beq_iff_eq]
  simp only [Bool.false_eq_true, if_false]
  omega
theorem dif_wrap (a b : Int) : IntKind.u8.wrap (a - b) = difR a b false := by
  unfold difR one
  simp [IntKind.wrap, IntKind.bits, IntKind.signed]
theorem i8w (a : Int) (a0 : 0 ≤ a) (a1 : a < 256) : IntKind.i8.wrap a = sgn a := by
  unfold sgn
  split <;> simp [IntKind.wrap, IntKind.bits, IntKind.signed] <;> omega
theorem cmp_signed (a b : Int) (a0 : 0 ≤ a) (a1 : a < 256) (b0 : 0 ≤ b) (b1 : b < 256) : (has (difR a b false) 7 != difV a b false) = decide (sgn a < sgn b) := by
  rw [has7 _ (difR_bd a b false).1 (difR_bd a b false).2]
  have h1 : decide (128 ≤ difR a b false) = decide (128 ≤ (a - b) % 256) := by simp [difR, one]
  have h2 : difV a b false = (decide (sgn a - sgn b < -128) || decide (127 < sgn a - sgn b)) := by simp [difV, ovf, one]
  rw [h1, h2]
  by_cases p : 128 ≤ (a - b) % 256 <;> by_cases q : sgn a - sgn b < -128 <;> by_cases r : 127 < sgn a - sgn b <;> simp [p, q, r] <;> unfold sgn at * <;> split at * <;> split at * <;> omega
theorem dif_chain (a b : Int) (a0 : 0 ≤ a) (a1 : a < 65536) (b0 : 0 ≤ b) (b1 : b < 65536) :
    joi (difR (a / 256) (b / 256) (difO (a % 256) (b % 256) false)) (difR (a % 256) (b % 256) false) = IntKind.u16.wrap (a - b) ∧
    difO (a / 256) (b / 256) (difO (a % 256) (b % 256) false) = decide (a < b) := by
  have hw : IntKind.u16.wrap (a - b) = (a - b) % 65536 := by simp [IntKind.wrap, IntKind.bits, IntKind.signed]
  rw [joi_eq _ _ (difR_bd _ _ _).1 (difR_bd _ _ _).2 (difR_bd _ _ _).1 (difR_bd _ _ _).2, hw]
  by_cases h : a % 256 < b % 256
  · have e : difO (a % 256) (b % 256) false = true := by rw [cmp_lt]; simp [h]
    rw [e]; unfold difR difO one
    refine ⟨by simp; omega, dec_iff (by simp; omega)⟩
  · have e : difO (a % 256) (b % 256) false = false := by rw [cmp_lt]; simp; omega
    rw [e]; unfold difR difO one
    refine ⟨by simp; omega, dec_iff (by simp; omega)⟩
theorem u8_same (f : BinOp) (g : Nat → Nat → Nat) (a b : Int) (h : bits f .u8 (a.toNat : Int) (b.toNat : Int) = (g a.toNat b.toNat : Nat)) (a0 : 0 ≤ a) (b0 : 0 ≤ b) : bits f .u8 a b = (g a.toNat b.toNat : Nat) := by
  rwa [Int.toNat_of_nonneg a0, Int.toNat_of_nonneg b0] at h
theorem and_self (a : Int) (a0 : 0 ≤ a) (a1 : a < 256) : bits .and .u8 a a = a := by
  rw [u8_and a a a0 a1 a0 a1, Nat.and_self]; omega
theorem or_self (a : Int) (a0 : 0 ≤ a) (a1 : a < 256) : bits .or .u8 a a = a := by
  rw [u8_or a a a0 a1 a0 a1, Nat.or_self]; omega
theorem xor_self (a : Int) (a0 : 0 ≤ a) (a1 : a < 256) : bits .xor .u8 a a = 0 := by
  rw [u8_xor a a a0 a1 a0 a1, Nat.xor_self]; rfl
theorem and_xor_or (a b : Int) (a0 : 0 ≤ a) (a1 : a < 256) (b0 : 0 ≤ b) (b1 : b < 256) : bits .xor .u8 (bits .and .u8 a b) (bits .xor .u8 a b) = bits .or .u8 a b := by
  obtain ⟨p0, p1⟩ := and_bd a b
  obtain ⟨q0, q1⟩ := xor_bd a b
  rw [u8_xor _ _ p0 p1 q0 q1, u8_and a b a0 a1 b0 b1, u8_xor a b a0 a1 b0 b1, u8_or a b a0 a1 b0 b1]
  simp only [Int.toNat_natCast]
  congr 1
  apply Nat.eq_of_testBit_eq
  intro i
  simp only [Nat.testBit_xor, Nat.testBit_and, Nat.testBit_or]
  cases a.toNat.testBit i <;> cases b.toNat.testBit i <;> rfl
theorem has0 : has 0 7 = false := by decide
theorem par0 : par 0 = true := by decide
theorem aH_same {op : Int} (h : ¬op % 8 = 4) (c d a b : Int) (cy : Bool) : aH c op a b cy = aH d op a b cy := by simp [aH, h]
end Go.Proofs.Ytdchbhlnehenkaa.S
