/- Plain functions of chapter 23: the registers of a DMA master behind a write, the byte that is read. No condition. -/
import Derived.Test.YtnjnodcakiekmaaS1
namespace Go.Proofs.Ytnjnodcakiekmaa.S
open Go.ChangeShapes Go.WideShapes Go.ChangeAt Go.RowKit
set_option linter.unusedVariables false
theorem ones_and23 (n m : Int) (j : Nat) (hm : (BitVec.ofInt 64 m).toNat = 2 ^ j - 1) (hj : j ≤ 60) : bits .and .i64 n m = n % ((2 ^ j : Nat) : Int) := by
  have hp : (2 ^ j : Nat) ∣ 2 ^ 64 := Nat.pow_dvd_pow 2 (by omega)
  have hl : (2 ^ j : Nat) ≤ 2 ^ 60 := Nat.pow_le_pow_right (by decide) hj
  have h0 : 0 < (2 ^ j : Nat) := Nat.pow_pos (by decide)
  have e : (BitVec.ofInt 64 n &&& BitVec.ofInt 64 m).toNat = (n % ((2 ^ 64 : Nat) : Int)).toNat % 2 ^ j := by
    rw [BitVec.toNat_and, BitVec.toNat_ofInt, hm, Nat.and_two_pow_sub_one_eq_mod]
  have e2 : (((n % ((2 ^ 64 : Nat) : Int)).toNat % 2 ^ j : Nat) : Int) = n % ((2 ^ j : Nat) : Int) := by
    rw [Int.natCast_emod, Int.toNat_of_nonneg (Int.emod_nonneg _ (by decide)), Int.emod_emod_of_dvd _ (Int.natCast_dvd_natCast.2 hp)]
  show IntKind.i64.wrap ((BitVec.ofInt 64 n &&& BitVec.ofInt 64 m).toNat : Nat) = _
  rw [e, e2]
  have l0 : 0 ≤ n % ((2 ^ j : Nat) : Int) := Int.emod_nonneg _ (by omega)
  have l1 : n % ((2 ^ j : Nat) : Int) < ((2 ^ j : Nat) : Int) := Int.emod_lt_of_pos _ (by omega)
  exact IntWalk.i64_in _ (by omega)
theorem dm_and3 (n : Int) : bits .and .i64 n 3 = n % 4 := ones_and23 n 3 2 (by decide) (by decide)
/-- At, Value and Left behind a write of v to register r; the byte of register r. -/
def dmA (r a v : Int) : Int := if r % 4 = 0 then joi (a / 256) v else if r % 4 = 1 then joi v (a % 256) else a
def dmV (r x v : Int) : Int := if r % 4 = 2 then v else x
def dmL (r l v : Int) : Int := if r % 4 = 3 then v else l
def dmR (r a x l : Int) : Int := if r % 4 = 0 then a % 256 else if r % 4 = 1 then a / 256 else if r % 4 = 2 then x else l % 256
theorem dm_hi (a : Int) (a0 : 0 ≤ a) (a1 : a < 65536) : bits .and .u16 a 65280 = a / 256 * 256 := by
  rw [u16_and a 65280 a0 a1 (by decide) (by decide)]
  have e : (65280 : Int).toNat = 65280 := rfl
  rw [e]
  have d : (a.toNat &&& 65280) / 2 ^ 8 = a.toNat / 2 ^ 8 &&& 65280 / 2 ^ 8 := Nat.and_div_two_pow ..
  have m : (a.toNat &&& 65280) % 2 ^ 8 = a.toNat % 2 ^ 8 &&& 65280 % 2 ^ 8 := Nat.and_mod_two_pow ..
  have k : a.toNat / 2 ^ 8 &&& 65280 / 2 ^ 8 = a.toNat / 2 ^ 8 % 2 ^ 8 := Nat.and_two_pow_sub_one_eq_mod _ 8
  have z : a.toNat % 2 ^ 8 &&& 65280 % 2 ^ 8 = 0 := Nat.and_zero _
  rw [k] at d
  rw [z] at m
  omega
theorem dm_or0 (a v : Int) (a0 : 0 ≤ a) (a1 : a < 65536) : bits .or .u16 (bits .and .u16 a 65280) v = joi (a / 256) v := by rw [dm_hi a a0 a1]; rfl
theorem dm_lo (a : Int) (a0 : 0 ≤ a) (a1 : a < 65536) : bits .and .u16 a 255 = a % 256 := by
  rw [u16_and a 255 a0 a1 (by decide) (by decide)]
  have k : a.toNat &&& (255 : Int).toNat = a.toNat % 2 ^ 8 := Nat.and_two_pow_sub_one_eq_mod _ 8
  rw [k]
  omega
theorem dm_or1 (a v : Int) (a0 : 0 ≤ a) (a1 : a < 65536) (v0 : 0 ≤ v) (v1 : v < 256) : bits .or .u16 (bits .and .u16 a 255) (v * 256) = joi v (a % 256) := by
  rw [dm_lo a a0 a1]
  unfold joi
  rw [u16_or _ _ (by omega) (by omega) (by omega) (by omega), u16_or _ _ (by omega) (by omega) (by omega) (by omega), Nat.or_comm]
theorem dmA_bd (r a v : Int) (a0 : 0 ≤ a) (a1 : a < 65536) (v0 : 0 ≤ v) (v1 : v < 256) : 0 ≤ dmA r a v ∧ dmA r a v < 65536 := by
  unfold dmA
  split
  · exact joi_bd _ _ (by omega) (by omega) v0 v1
  · split
    · exact joi_bd _ _ v0 v1 (by omega) (by omega)
    · exact ⟨a0, a1⟩
theorem dmV_bd (r x v : Int) (x0 : 0 ≤ x) (x1 : x < 256) (v0 : 0 ≤ v) (v1 : v < 256) : 0 ≤ dmV r x v ∧ dmV r x v < 256 := by
  unfold dmV; split <;> omega
/-- What is written is read. -/
theorem dm_back (r a x l v : Int) (a0 : 0 ≤ a) (a1 : a < 65536) (v0 : 0 ≤ v) (v1 : v < 256) : dmR r (dmA r a v) (dmV r x v) (dmL r l v) = v := by
  rcases (by omega : r % 4 = 0 ∨ r % 4 = 1 ∨ r % 4 = 2 ∨ r % 4 = 3) with h | h | h | h
  · simp only [dmR, dmA, h, if_true]
    rw [joi_eq _ _ (by omega) (by omega) v0 v1]; omega
  · simp only [dmR, dmA, h, if_true]
    rw [joi_eq _ _ v0 v1 (by omega) (by omega)]; simp; omega
  · simp [dmR, dmV, h]
  · simp [dmR, dmL, h]; omega
end Go.Proofs.Ytnjnodcakiekmaa.S
