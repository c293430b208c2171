/- Plain functions for the document's chapter 5: rotations of bytes, shifts of words. No condition. -/
import Derived.Test.YtnbkfdefkonodaaS2
import Derived.Laws.Bits128
namespace Go.Proofs.Ytnbkfdefkonodaa.S
open Go.ChangeShapes Go.WideShapes Go.ChangeAt Go.RowKit
set_option linter.unusedVariables false
/-- Bits 7 and 0 of a byte (0 of a word too), 15 of a word. -/
def b7 (a : Int) : Bool := decide (128 ≤ a)
def b0 (a : Int) : Bool := decide (a % 2 = 1)
def b15 (v : Int) : Bool := decide (32768 ≤ v)
/-- A place up with c below, a place down with c above. -/
def up (a : Int) (c : Bool) : Int := (2 * a + one c) % 256
def dn (a : Int) (c : Bool) : Int := (a / 2 + 128 * one c) % 256
/-- The four rotations. -/
def rotR (op a : Int) (c : Bool) : Int := if op % 4 = 0 then up a (b7 a) else if op % 4 = 1 then dn a (b0 a) else if op % 4 = 2 then up a c else dn a c
def rotO (op a : Int) : Bool := if op % 4 = 0 then b7 a else if op % 4 = 1 then b0 a else if op % 4 = 2 then b7 a else b0 a
theorem ro0 {op : Int} (h : op % 4 = 0) (a : Int) (c : Bool) : rotR op a c = up a (b7 a) ∧ rotO op a = b7 a := by simp [rotR, rotO, h]
theorem ro1 {op : Int} (h : op % 4 = 1) (a : Int) (c : Bool) : rotR op a c = dn a (b0 a) ∧ rotO op a = b0 a := by simp [rotR, rotO, h]
theorem ro2 {op : Int} (h : op % 4 = 2) (a : Int) (c : Bool) : rotR op a c = up a c ∧ rotO op a = b7 a := by simp [rotR, rotO, h]
theorem ro3 {op : Int} (h : op % 4 = 3) (a : Int) (c : Bool) : rotR op a c = dn a c ∧ rotO op a = b0 a := by simp [rotR, rotO, h]
/-- The words: down with bit 15 kept, up with c below, and whether bit 15 changes. -/
def arR (v : Int) : Int := v / 2 + 32768 * one (b15 v)
def rdR (v : Int) (c : Bool) : Int := (2 * v + one c) % 65536
def rdV (v : Int) : Bool := b15 (rdR v false) != b15 v
theorem and3 (n : Int) : bits .and .i64 n 3 = n % 4 := by
  have h3 : (BitVec.ofInt 64 3).toNat = 2 ^ 2 - 1 := by decide
  have key : (BitVec.ofInt 64 n &&& BitVec.ofInt 64 3).toNat = (n % ((2 ^ 64 : Nat) : Int)).toNat % 2 ^ 2 := by
    rw [BitVec.toNat_and, BitVec.toNat_ofInt, h3, Nat.and_two_pow_sub_one_eq_mod]
  show IntKind.i64.wrap ((BitVec.ofInt 64 n &&& BitVec.ofInt 64 3).toNat : Nat) = n % 4
  rw [key, IntKind.wrap_i64]
  omega
theorem up_bd (a : Int) (c : Bool) : 0 ≤ up a c ∧ up a c < 256 := by unfold up; omega
theorem dn_bd (a : Int) (c : Bool) : 0 ≤ dn a c ∧ dn a c < 256 := by unfold dn; omega
theorem rdR_bd (v : Int) (c : Bool) : 0 ≤ rdR v c ∧ rdR v c < 65536 := by unfold rdR; omega
theorem arR_bd (v : Int) (v0 : 0 ≤ v) (v1 : v < 65536) : 0 ≤ arR v ∧ arR v < 65536 := by
  unfold arR b15 one; split <;> (rename_i h; simp at h; omega)
theorem rotR_bd (op a : Int) (c : Bool) : 0 ≤ rotR op a c ∧ rotR op a c < 256 := by
  unfold rotR; (repeat' split) <;> first | exact up_bd _ _ | exact dn_bd _ _
-- bytes: what the text computes
theorem bit7_fin : ∀ n : Fin 256, (bits .and .u8 (n.val : Int) 128 != 0) = b7 n.val ∧ (bits .and .u8 (n.val : Int) 1 != 0) = b0 n.val ∧ (bits .and .u8 (n.val : Int) 1 == 1) = b0 n.val := by decide +kernel
theorem bit7_eq (a : Int) (a0 : 0 ≤ a) (a1 : a < 256) : (bits .and .u8 a 128 != 0) = b7 a ∧ (bits .and .u8 a 1 != 0) = b0 a ∧ (bits .and .u8 a 1 == 1) = b0 a := by
  have h := bit7_fin ⟨a.toNat, by omega⟩
  simpa [Int.toNat_of_nonneg a0] using h
theorem ups_fin : ∀ n : Fin 256, bits .or .u8 (((n.val : Int) * 2 % 256)) 1 = up n.val true ∧ bits .or .u8 ((n.val : Int) / 2) 128 = dn n.val true ∧
    (n.val : Int) * 2 % 256 = up n.val false ∧ (n.val : Int) / 2 = dn n.val false ∧
    bits .or .u8 (((n.val : Int) * 2 % 256)) ((n.val : Int) / 128) = up n.val (b7 n.val) ∧ bits .or .u8 ((n.val : Int) / 2) (((n.val : Int) * 128 % 256)) = dn n.val (b0 n.val) ∧
    ∀ c : Bool, bits .or .u8 (((n.val : Int) * 2 % 256)) (pl c 0) = up n.val c ∧ bits .or .u8 ((n.val : Int) / 2) (pl c 7) = dn n.val c := by decide +kernel
theorem ups (a : Int) (a0 : 0 ≤ a) (a1 : a < 256) : bits .or .u8 (a * 2 % 256) 1 = up a true ∧ bits .or .u8 (a / 2) 128 = dn a true ∧
    a * 2 % 256 = up a false ∧ a / 2 = dn a false ∧
    bits .or .u8 (a * 2 % 256) (a / 128) = up a (b7 a) ∧ bits .or .u8 (a / 2) (a * 128 % 256) = dn a (b0 a) ∧
    ∀ c : Bool, bits .or .u8 (a * 2 % 256) (pl c 0) = up a c ∧ bits .or .u8 (a / 2) (pl c 7) = dn a c := by
  have h := ups_fin ⟨a.toNat, by omega⟩
  simp only [Int.toNat_of_nonneg a0] at h
  exact h
-- words: what the text computes
theorem w_hi (v : Int) (v0 : 0 ≤ v) (v1 : v < 65536) : bits .and .u16 v 32768 = 32768 * one (b15 v) := by
  rw [u16_and v 32768 v0 v1 (by decide) (by decide)]
  have e : v.toNat &&& (32768 : Int).toNat = v.toNat / 2 ^ 15 % 2 * 2 ^ 15 := nat_bit 15 v.toNat
  rw [e]; unfold b15 one
  split <;> (rename_i h; simp at h; omega)
theorem w_top (v : Int) (v0 : 0 ≤ v) (v1 : v < 65536) : (bits .and .u16 v 32768 != 0) = b15 v := by
  rw [w_hi v v0 v1]; cases b15 v <;> rfl
theorem w_low (v : Int) (v0 : 0 ≤ v) (v1 : v < 65536) : (bits .and .u16 v 1 != 0) = b0 v ∧ (bits .and .u16 v 1 == 1) = b0 v := by
  rw [u16_and v 1 v0 v1 (by decide) (by decide)]
  have e : v.toNat &&& (1 : Int).toNat = v.toNat % 2 := nat_mask1 v.toNat
  rw [e]; unfold b0
  rcases (by omega : v % 2 = 0 ∨ v % 2 = 1) with h | h
  · rw [(by omega : ((v.toNat % 2 : Nat) : Int) = 0), h]; decide
  · rw [(by omega : ((v.toNat % 2 : Nat) : Int) = 1), h]; decide
theorem w_ar (v : Int) (v0 : 0 ≤ v) (v1 : v < 65536) : bits .or .u16 (v / 2) (bits .and .u16 v 32768) = arR v := by
  rw [w_hi v v0 v1]; unfold arR
  have hb := one_bd (b15 v)
  rw [u16_or _ _ (by omega) (by omega) (by omega) (by omega)]
  cases h : b15 v
  · simp [one]; omega
  · have e : (32768 * one true : Int).toNat = 2 ^ 15 * 1 := by decide
    rw [e, Nat.or_comm, ← Nat.two_pow_add_eq_or_of_lt (by omega)]
    have e2 : one true = 1 := rfl
    rw [e2]; omega
theorem w_up (v : Int) (v0 : 0 ≤ v) (v1 : v < 65536) (c : Bool) : bits .or .u16 (IntKind.u16.wrap (v * 2)) (one c) = rdR v c := by
  have hw : IntKind.u16.wrap (v * 2) = (v * 2) % 65536 := by simp [IntKind.wrap, IntKind.bits, IntKind.signed]
  rw [hw]
  rw [u16_or _ _ (by omega) (by omega) (one_bd c).1 (by have := one_bd c; omega)]
  have e : ((v * 2) % 65536).toNat = 2 ^ 1 * (v % 32768).toNat := by omega
  rw [e, ← Nat.two_pow_add_eq_or_of_lt (by have := one_bd c; omega)]
  unfold rdR
  have := one_bd c
  omega
theorem w_up0 (v : Int) : IntKind.u16.wrap (v * 2) = rdR v false := by
  simp [IntKind.wrap, IntKind.bits, IntKind.signed, rdR, one]; omega
theorem b15_rd (v : Int) (c : Bool) : b15 (rdR v c) = b15 (rdR v false) := by
  unfold b15 rdR; cases c <;> simp [one]; omega
theorem w_over (v r : Int) (v0 : 0 ≤ v) (v1 : v < 65536) (r0 : 0 ≤ r) (r1 : r < 65536) : (bits .and .u16 (bits .xor .u16 r v) 32768 != 0) = (b15 r != b15 v) := by
  rw [u16_xor r v r0 r1 v0 v1]
  have x1 : (r.toNat ^^^ v.toNat) < 2 ^ 16 := Nat.xor_lt_two_pow (by omega) (by omega)
  rw [w_hi _ (by omega) (by omega)]
  have hx : ((r.toNat ^^^ v.toNat) / 2 ^ 15) = (r.toNat / 2 ^ 15) ^^^ (v.toNat / 2 ^ 15) := by
    simp only [← Nat.shiftRight_eq_div_pow]; exact Nat.shiftRight_xor_distrib ..
  have eb : b15 ((r.toNat ^^^ v.toNat : Nat) : Int) = decide ((r.toNat ^^^ v.toNat) / 2 ^ 15 = 1) := by unfold b15; exact dec_iff (by omega)
  have er : b15 r = decide (r.toNat / 2 ^ 15 = 1) := by unfold b15; exact dec_iff (by omega)
  have ev : b15 v = decide (v.toNat / 2 ^ 15 = 1) := by unfold b15; exact dec_iff (by omega)
  rw [eb, er, ev, hx]
  rcases (by omega : r.toNat / 2 ^ 15 = 0 ∨ r.toNat / 2 ^ 15 = 1) with h | h <;> rcases (by omega : v.toNat / 2 ^ 15 = 0 ∨ v.toNat / 2 ^ 15 = 1) with g | g <;> rw [h, g] <;> decide
theorem w_rd (v : Int) (c : Bool) (v0 : 0 ≤ v) (v1 : v < 65536) : (bits .and .u16 (bits .xor .u16 (rdR v c) v) 32768 != 0) = rdV v := by
  rw [w_over v _ v0 v1 (rdR_bd v c).1 (rdR_bd v c).2, b15_rd]; rfl
theorem w_rdr (v : Int) (c : Bool) (v0 : 0 ≤ v) (v1 : v < 65536) : (bits .and .u16 (rdR v c) 32768 != bits .and .u16 v 32768) = rdV v := by
  rw [w_hi v v0 v1, w_hi _ (rdR_bd v c).1 (rdR_bd v c).2, b15_rd]
  unfold rdV
  cases b15 (rdR v false) <;> cases b15 v <;> rfl
-- there and back
theorem dn_up (a : Int) (c : Bool) (a0 : 0 ≤ a) (a1 : a < 256) : dn (up a c) (b7 a) = a ∧ b0 (up a c) = c := by
  unfold dn up b0 b7
  cases c <;> (refine ⟨?_, ?_⟩) <;> simp [one] <;> (try split) <;> omega
theorem b0_up (a : Int) (c : Bool) : b0 (up a c) = c := by
  unfold up b0; cases c <;> simp [one] <;> omega
theorem up_dn (a : Int) (c : Bool) (a0 : 0 ≤ a) (a1 : a < 256) : dn (up a c) (b7 a) = a := (dn_up a c a0 a1).1
theorem und (a : Int) (c : Bool) (a0 : 0 ≤ a) (a1 : a < 256) : rotR 1 (rotR 0 a c) (rotO 0 a) = a ∧ rotR 3 (rotR 2 a c) (rotO 2 a) = a ∧ rotO 3 (rotR 2 a c) = c := by
  rw [(ro0 (op := 0) rfl a c).1, (ro0 (op := 0) rfl a c).2, (ro2 (op := 2) rfl a c).1, (ro2 (op := 2) rfl a c).2]
  rw [(ro1 (op := 1) rfl _ _).1, (ro3 (op := 3) rfl _ _).1, (ro3 (op := 3) rfl _ c).2]
  refine ⟨?_, up_dn a c a0 a1, b0_up a c⟩
  rw [b0_up]
  exact up_dn a (b7 a) a0 a1
-- many turns
def rlcI (a : Int) : Nat → Int
  | 0 => a
  | k + 1 => up (rlcI a k) (b7 (rlcI a k))
def rlcO (a : Int) (c : Bool) : Nat → Bool
  | 0 => c
  | k + 1 => b7 (rlcI a k)
theorem rlc_turn (a : Int) (c : Bool) (k : Nat) : rotR 0 (rlcI a k) (rlcO a c k) = rlcI a (k + 1) ∧ rotO 0 (rlcI a k) = rlcO a c (k + 1) := by
  rw [(ro0 (op := 0) rfl _ _).1, (ro0 (op := 0) rfl _ c).2]
  exact ⟨rfl, rfl⟩
theorem rlc8_fin : ∀ n : Fin 256, rlcI n.val 8 = n.val ∧ rlcO n.val false 8 = b0 n.val ∧ rlcO n.val true 8 = b0 n.val := by decide +kernel
theorem rlc8 (a : Int) (c : Bool) (a0 : 0 ≤ a) (a1 : a < 256) : rlcI a 8 = a ∧ rlcO a c 8 = b0 a := by
  have h := rlc8_fin ⟨a.toNat, by omega⟩
  simp only [Int.toNat_of_nonneg a0] at h
  refine ⟨h.1, ?_⟩
  cases c
  · exact h.2.1
  · exact h.2.2
theorem rlcI_bd (a : Int) (a0 : 0 ≤ a) (a1 : a < 256) : (k : Nat) → 0 ≤ rlcI a k ∧ rlcI a k < 256
  | 0 => ⟨a0, a1⟩
  | k + 1 => up_bd _ _
mutual
def ralI (a : Int) (c : Bool) : Nat → Int
  | 0 => a
  | k + 1 => up (ralI a c k) (ralO a c k)
def ralO (a : Int) (c : Bool) : Nat → Bool
  | 0 => c
  | k + 1 => b7 (ralI a c k)
end
theorem ral_turn (a : Int) (c : Bool) (k : Nat) : rotR 2 (ralI a c k) (ralO a c k) = ralI a c (k + 1) ∧ rotO 2 (ralI a c k) = ralO a c (k + 1) := by
  rw [(ro2 (op := 2) rfl _ _).1, (ro2 (op := 2) rfl _ c).2]
  exact ⟨by rw [ralI], by rw [ralO]⟩
theorem ral_zero (a : Int) (c : Bool) : ralI a c 0 = a ∧ ralO a c 0 = c := ⟨by rw [ralI], by rw [ralO]⟩
theorem ral9_fin : ∀ n : Fin 256, ∀ c : Bool, ralI n.val c 9 = n.val ∧ ralO n.val c 9 = c := by decide +kernel
theorem ral9 (a : Int) (c : Bool) (a0 : 0 ≤ a) (a1 : a < 256) : ralI a c 9 = a ∧ ralO a c 9 = c := by
  have h := ral9_fin ⟨a.toNat, by omega⟩ c
  simp only [Int.toNat_of_nonneg a0] at h
  exact h
theorem ralI_bd (a : Int) (c : Bool) (a0 : 0 ≤ a) (a1 : a < 256) : (k : Nat) → 0 ≤ ralI a c k ∧ ralI a c k < 256
  | 0 => by rw [ralI]; exact ⟨a0, a1⟩
  | k + 1 => by rw [ralI]; exact up_bd _ _
/-- Seventeen bits n, k places round. -/
def rd17 (n : Int) (k : Nat) : Int := n % 2 ^ (17 - k) * 2 ^ k + n / 2 ^ (17 - k)
def rdI (v : Int) (c : Bool) (k : Nat) : Int := rd17 (v + 65536 * one c) k % 65536
def rdO (v : Int) (c : Bool) (k : Nat) : Bool := decide (65536 ≤ rd17 (v + 65536 * one c) k)
theorem rdI_bd (v : Int) (c : Bool) (k : Nat) : 0 ≤ rdI v c k ∧ rdI v c k < 65536 := by unfold rdI; omega
theorem rd17_0 (n : Int) (n0 : 0 ≤ n) (n1 : n < 131072) : n % 65536 * 2 + n / 65536 = (2 * (n % 131072 * 1 + n / 131072)) % 131072 + (n % 131072 * 1 + n / 131072) / 65536 ∧ 0 ≤ n % 131072 * 1 + n / 131072 ∧ n % 131072 * 1 + n / 131072 < 131072 := by
  have h1 : n / 131072 = n / 65536 / 2 := by omega
  have h2 : n % 131072 = n / 65536 % 2 * 65536 + n % 65536 := by omega
  rw [h1, h2]
  have p0 : 0 ≤ n / 65536 ∧ n / 65536 < 2 := by omega
  have s0 : 0 ≤ n % 65536 ∧ n % 65536 < 65536 := by omega
  clear h1 h2 n0 n1
  generalize n / 65536 = p at p0 ⊢
  generalize n % 65536 = s at s0 ⊢
  rcases (by omega : p % 2 = 0 ∨ p % 2 = 1) with h | h <;> rw [h] <;> omega
theorem rd17_1 (n : Int) (n0 : 0 ≤ n) (n1 : n < 131072) : n % 32768 * 4 + n / 32768 = (2 * (n % 65536 * 2 + n / 65536)) % 131072 + (n % 65536 * 2 + n / 65536) / 65536 ∧ 0 ≤ n % 65536 * 2 + n / 65536 ∧ n % 65536 * 2 + n / 65536 < 131072 := by
  have h1 : n / 65536 = n / 32768 / 2 := by omega
  have h2 : n % 65536 = n / 32768 % 2 * 32768 + n % 32768 := by omega
  rw [h1, h2]
  have p0 : 0 ≤ n / 32768 ∧ n / 32768 < 4 := by omega
  have s0 : 0 ≤ n % 32768 ∧ n % 32768 < 32768 := by omega
  clear h1 h2 n0 n1
  generalize n / 32768 = p at p0 ⊢
  generalize n % 32768 = s at s0 ⊢
  rcases (by omega : p % 2 = 0 ∨ p % 2 = 1) with h | h <;> rw [h] <;> omega
theorem rd17_2 (n : Int) (n0 : 0 ≤ n) (n1 : n < 131072) : n % 16384 * 8 + n / 16384 = (2 * (n % 32768 * 4 + n / 32768)) % 131072 + (n % 32768 * 4 + n / 32768) / 65536 ∧ 0 ≤ n % 32768 * 4 + n / 32768 ∧ n % 32768 * 4 + n / 32768 < 131072 := by
  have h1 : n / 32768 = n / 16384 / 2 := by omega
  have h2 : n % 32768 = n / 16384 % 2 * 16384 + n % 16384 := by omega
  rw [h1, h2]
  have p0 : 0 ≤ n / 16384 ∧ n / 16384 < 8 := by omega
  have s0 : 0 ≤ n % 16384 ∧ n % 16384 < 16384 := by omega
  clear h1 h2 n0 n1
  generalize n / 16384 = p at p0 ⊢
  generalize n % 16384 = s at s0 ⊢
  rcases (by omega : p % 2 = 0 ∨ p % 2 = 1) with h | h <;> rw [h] <;> omega
theorem rd17_3 (n : Int) (n0 : 0 ≤ n) (n1 : n < 131072) : n % 8192 * 16 + n / 8192 = (2 * (n % 16384 * 8 + n / 16384)) % 131072 + (n % 16384 * 8 + n / 16384) / 65536 ∧ 0 ≤ n % 16384 * 8 + n / 16384 ∧ n % 16384 * 8 + n / 16384 < 131072 := by
  have h1 : n / 16384 = n / 8192 / 2 := by omega
  have h2 : n % 16384 = n / 8192 % 2 * 8192 + n % 8192 := by omega
  rw [h1, h2]
  have p0 : 0 ≤ n / 8192 ∧ n / 8192 < 16 := by omega
  have s0 : 0 ≤ n % 8192 ∧ n % 8192 < 8192 := by omega
  clear h1 h2 n0 n1
  generalize n / 8192 = p at p0 ⊢
  generalize n % 8192 = s at s0 ⊢
  rcases (by omega : p % 2 = 0 ∨ p % 2 = 1) with h | h <;> rw [h] <;> omega
theorem rd17_4 (n : Int) (n0 : 0 ≤ n) (n1 : n < 131072) : n % 4096 * 32 + n / 4096 = (2 * (n % 8192 * 16 + n / 8192)) % 131072 + (n % 8192 * 16 + n / 8192) / 65536 ∧ 0 ≤ n % 8192 * 16 + n / 8192 ∧ n % 8192 * 16 + n / 8192 < 131072 := by
  have h1 : n / 8192 = n / 4096 / 2 := by omega
  have h2 : n % 8192 = n / 4096 % 2 * 4096 + n % 4096 := by omega
  rw [h1, h2]
  have p0 : 0 ≤ n / 4096 ∧ n / 4096 < 32 := by omega
  have s0 : 0 ≤ n % 4096 ∧ n % 4096 < 4096 := by omega
  clear h1 h2 n0 n1
  generalize n / 4096 = p at p0 ⊢
  generalize n % 4096 = s at s0 ⊢
  rcases (by omega : p % 2 = 0 ∨ p % 2 = 1) with h | h <;> rw [h] <;> omega
theorem rd17_5 (n : Int) (n0 : 0 ≤ n) (n1 : n < 131072) : n % 2048 * 64 + n / 2048 = (2 * (n % 4096 * 32 + n / 4096)) % 131072 + (n % 4096 * 32 + n / 4096) / 65536 ∧ 0 ≤ n % 4096 * 32 + n / 4096 ∧ n % 4096 * 32 + n / 4096 < 131072 := by
  have h1 : n / 4096 = n / 2048 / 2 := by omega
  have h2 : n % 4096 = n / 2048 % 2 * 2048 + n % 2048 := by omega
  rw [h1, h2]
  have p0 : 0 ≤ n / 2048 ∧ n / 2048 < 64 := by omega
  have s0 : 0 ≤ n % 2048 ∧ n % 2048 < 2048 := by omega
  clear h1 h2 n0 n1
  generalize n / 2048 = p at p0 ⊢
  generalize n % 2048 = s at s0 ⊢
  rcases (by omega : p % 2 = 0 ∨ p % 2 = 1) with h | h <;> rw [h] <;> omega
theorem rd17_6 (n : Int) (n0 : 0 ≤ n) (n1 : n < 131072) : n % 1024 * 128 + n / 1024 = (2 * (n % 2048 * 64 + n / 2048)) % 131072 + (n % 2048 * 64 + n / 2048) / 65536 ∧ 0 ≤ n % 2048 * 64 + n / 2048 ∧ n % 2048 * 64 + n / 2048 < 131072 := by
  have h1 : n / 2048 = n / 1024 / 2 := by omega
  have h2 : n % 2048 = n / 1024 % 2 * 1024 + n % 1024 := by omega
  rw [h1, h2]
  have p0 : 0 ≤ n / 1024 ∧ n / 1024 < 128 := by omega
  have s0 : 0 ≤ n % 1024 ∧ n % 1024 < 1024 := by omega
  clear h1 h2 n0 n1
  generalize n / 1024 = p at p0 ⊢
  generalize n % 1024 = s at s0 ⊢
  rcases (by omega : p % 2 = 0 ∨ p % 2 = 1) with h | h <;> rw [h] <;> omega
theorem rd17_7 (n : Int) (n0 : 0 ≤ n) (n1 : n < 131072) : n % 512 * 256 + n / 512 = (2 * (n % 1024 * 128 + n / 1024)) % 131072 + (n % 1024 * 128 + n / 1024) / 65536 ∧ 0 ≤ n % 1024 * 128 + n / 1024 ∧ n % 1024 * 128 + n / 1024 < 131072 := by
  have h1 : n / 1024 = n / 512 / 2 := by omega
  have h2 : n % 1024 = n / 512 % 2 * 512 + n % 512 := by omega
  rw [h1, h2]
  have p0 : 0 ≤ n / 512 ∧ n / 512 < 256 := by omega
  have s0 : 0 ≤ n % 512 ∧ n % 512 < 512 := by omega
  clear h1 h2 n0 n1
  generalize n / 512 = p at p0 ⊢
  generalize n % 512 = s at s0 ⊢
  rcases (by omega : p % 2 = 0 ∨ p % 2 = 1) with h | h <;> rw [h] <;> omega
theorem rd17_8 (n : Int) (n0 : 0 ≤ n) (n1 : n < 131072) : n % 256 * 512 + n / 256 = (2 * (n % 512 * 256 + n / 512)) % 131072 + (n % 512 * 256 + n / 512) / 65536 ∧ 0 ≤ n % 512 * 256 + n / 512 ∧ n % 512 * 256 + n / 512 < 131072 := by
  have h1 : n / 512 = n / 256 / 2 := by omega
  have h2 : n % 512 = n / 256 % 2 * 256 + n % 256 := by omega
  rw [h1, h2]
  have p0 : 0 ≤ n / 256 ∧ n / 256 < 512 := by omega
  have s0 : 0 ≤ n % 256 ∧ n % 256 < 256 := by omega
  clear h1 h2 n0 n1
  generalize n / 256 = p at p0 ⊢
  generalize n % 256 = s at s0 ⊢
  rcases (by omega : p % 2 = 0 ∨ p % 2 = 1) with h | h <;> rw [h] <;> omega
theorem rd17_9 (n : Int) (n0 : 0 ≤ n) (n1 : n < 131072) : n % 128 * 1024 + n / 128 = (2 * (n % 256 * 512 + n / 256)) % 131072 + (n % 256 * 512 + n / 256) / 65536 ∧ 0 ≤ n % 256 * 512 + n / 256 ∧ n % 256 * 512 + n / 256 < 131072 := by
  have h1 : n / 256 = n / 128 / 2 := by omega
  have h2 : n % 256 = n / 128 % 2 * 128 + n % 128 := by omega
  rw [h1, h2]
  have p0 : 0 ≤ n / 128 ∧ n / 128 < 1024 := by omega
  have s0 : 0 ≤ n % 128 ∧ n % 128 < 128 := by omega
  clear h1 h2 n0 n1
  generalize n / 128 = p at p0 ⊢
  generalize n % 128 = s at s0 ⊢
  rcases (by omega : p % 2 = 0 ∨ p % 2 = 1) with h | h <;> rw [h] <;> omega
theorem rd17_10 (n : Int) (n0 : 0 ≤ n) (n1 : n < 131072) : n % 64 * 2048 + n / 64 = (2 * (n % 128 * 1024 + n / 128)) % 131072 + (n % 128 * 1024 + n / 128) / 65536 ∧ 0 ≤ n % 128 * 1024 + n / 128 ∧ n % 128 * 1024 + n / 128 < 131072 := by
  have h1 : n / 128 = n / 64 / 2 := by omega
  have h2 : n % 128 = n / 64 % 2 * 64 + n % 64 := by omega
  rw [h1, h2]
  have p0 : 0 ≤ n / 64 ∧ n / 64 < 2048 := by omega
  have s0 : 0 ≤ n % 64 ∧ n % 64 < 64 := by omega
  clear h1 h2 n0 n1
  generalize n / 64 = p at p0 ⊢
  generalize n % 64 = s at s0 ⊢
  rcases (by omega : p % 2 = 0 ∨ p % 2 = 1) with h | h <;> rw [h] <;> omega
theorem rd17_11 (n : Int) (n0 : 0 ≤ n) (n1 : n < 131072) : n % 32 * 4096 + n / 32 = (2 * (n % 64 * 2048 + n / 64)) % 131072 + (n % 64 * 2048 + n / 64) / 65536 ∧ 0 ≤ n % 64 * 2048 + n / 64 ∧ n % 64 * 2048 + n / 64 < 131072 := by
  have h1 : n / 64 = n / 32 / 2 := by omega
  have h2 : n % 64 = n / 32 % 2 * 32 + n % 32 := by omega
  rw [h1, h2]
  have p0 : 0 ≤ n / 32 ∧ n / 32 < 4096 := by omega
  have s0 : 0 ≤ n % 32 ∧ n % 32 < 32 := by omega
  clear h1 h2 n0 n1
  generalize n / 32 = p at p0 ⊢
  generalize n % 32 = s at s0 ⊢
  rcases (by omega : p % 2 = 0 ∨ p % 2 = 1) with h | h <;> rw [h] <;> omega
theorem rd17_12 (n : Int) (n0 : 0 ≤ n) (n1 : n < 131072) : n % 16 * 8192 + n / 16 = (2 * (n % 32 * 4096 + n / 32)) % 131072 + (n % 32 * 4096 + n / 32) / 65536 ∧ 0 ≤ n % 32 * 4096 + n / 32 ∧ n % 32 * 4096 + n / 32 < 131072 := by
  have h1 : n / 32 = n / 16 / 2 := by omega
  have h2 : n % 32 = n / 16 % 2 * 16 + n % 16 := by omega
  rw [h1, h2]
  have p0 : 0 ≤ n / 16 ∧ n / 16 < 8192 := by omega
  have s0 : 0 ≤ n % 16 ∧ n % 16 < 16 := by omega
  clear h1 h2 n0 n1
  generalize n / 16 = p at p0 ⊢
  generalize n % 16 = s at s0 ⊢
  rcases (by omega : p % 2 = 0 ∨ p % 2 = 1) with h | h <;> rw [h] <;> omega
theorem rd17_13 (n : Int) (n0 : 0 ≤ n) (n1 : n < 131072) : n % 8 * 16384 + n / 8 = (2 * (n % 16 * 8192 + n / 16)) % 131072 + (n % 16 * 8192 + n / 16) / 65536 ∧ 0 ≤ n % 16 * 8192 + n / 16 ∧ n % 16 * 8192 + n / 16 < 131072 := by
  have h1 : n / 16 = n / 8 / 2 := by omega
  have h2 : n % 16 = n / 8 % 2 * 8 + n % 8 := by omega
  rw [h1, h2]
  have p0 : 0 ≤ n / 8 ∧ n / 8 < 16384 := by omega
  have s0 : 0 ≤ n % 8 ∧ n % 8 < 8 := by omega
  clear h1 h2 n0 n1
  generalize n / 8 = p at p0 ⊢
  generalize n % 8 = s at s0 ⊢
  rcases (by omega : p % 2 = 0 ∨ p % 2 = 1) with h | h <;> rw [h] <;> omega
theorem rd17_14 (n : Int) (n0 : 0 ≤ n) (n1 : n < 131072) : n % 4 * 32768 + n / 4 = (2 * (n % 8 * 16384 + n / 8)) % 131072 + (n % 8 * 16384 + n / 8) / 65536 ∧ 0 ≤ n % 8 * 16384 + n / 8 ∧ n % 8 * 16384 + n / 8 < 131072 := by
  have h1 : n / 8 = n / 4 / 2 := by omega
  have h2 : n % 8 = n / 4 % 2 * 4 + n % 4 := by omega
  rw [h1, h2]
  have p0 : 0 ≤ n / 4 ∧ n / 4 < 32768 := by omega
  have s0 : 0 ≤ n % 4 ∧ n % 4 < 4 := by omega
  clear h1 h2 n0 n1
  generalize n / 4 = p at p0 ⊢
  generalize n % 4 = s at s0 ⊢
  rcases (by omega : p % 2 = 0 ∨ p % 2 = 1) with h | h <;> rw [h] <;> omega
theorem rd17_15 (n : Int) (n0 : 0 ≤ n) (n1 : n < 131072) : n % 2 * 65536 + n / 2 = (2 * (n % 4 * 32768 + n / 4)) % 131072 + (n % 4 * 32768 + n / 4) / 65536 ∧ 0 ≤ n % 4 * 32768 + n / 4 ∧ n % 4 * 32768 + n / 4 < 131072 := by
  have h1 : n / 4 = n / 2 / 2 := by omega
  have h2 : n % 4 = n / 2 % 2 * 2 + n % 2 := by omega
  rw [h1, h2]
  have p0 : 0 ≤ n / 2 ∧ n / 2 < 65536 := by omega
  have s0 : 0 ≤ n % 2 ∧ n % 2 < 2 := by omega
  clear h1 h2 n0 n1
  generalize n / 2 = p at p0 ⊢
  generalize n % 2 = s at s0 ⊢
  rcases (by omega : p % 2 = 0 ∨ p % 2 = 1) with h | h <;> rw [h] <;> omega
theorem rd17_16 (n : Int) (n0 : 0 ≤ n) (n1 : n < 131072) : n % 1 * 131072 + n / 1 = (2 * (n % 2 * 65536 + n / 2)) % 131072 + (n % 2 * 65536 + n / 2) / 65536 ∧ 0 ≤ n % 2 * 65536 + n / 2 ∧ n % 2 * 65536 + n / 2 < 131072 := by
  have h1 : n / 2 = n / 1 / 2 := by omega
  have h2 : n % 2 = n / 1 % 2 * 1 + n % 1 := by omega
  rw [h1, h2]
  have p0 : 0 ≤ n / 1 ∧ n / 1 < 131072 := by omega
  have s0 : 0 ≤ n % 1 ∧ n % 1 < 1 := by omega
  clear h1 h2 n0 n1
  generalize n / 1 = p at p0 ⊢
  generalize n % 1 = s at s0 ⊢
  rcases (by omega : p % 2 = 0 ∨ p % 2 = 1) with h | h <;> rw [h] <;> omega
theorem rd17_step (n : Int) (n0 : 0 ≤ n) (n1 : n < 131072) (k : Nat) (hk : k < 17) : rd17 n (k + 1) = (2 * rd17 n k) % 131072 + rd17 n k / 65536 ∧ 0 ≤ rd17 n k ∧ rd17 n k < 131072 := by
  rcases (by omega : k = 0 ∨ k = 1 ∨ k = 2 ∨ k = 3 ∨ k = 4 ∨ k = 5 ∨ k = 6 ∨ k = 7 ∨ k = 8 ∨ k = 9 ∨ k = 10 ∨ k = 11 ∨ k = 12 ∨ k = 13 ∨ k = 14 ∨ k = 15 ∨ k = 16) with h | h | h | h | h | h | h | h | h | h | h | h | h | h | h | h | h <;> subst h
  · exact rd17_0 n n0 n1
  · exact rd17_1 n n0 n1
  · exact rd17_2 n n0 n1
  · exact rd17_3 n n0 n1
  · exact rd17_4 n n0 n1
  · exact rd17_5 n n0 n1
  · exact rd17_6 n n0 n1
  · exact rd17_7 n n0 n1
  · exact rd17_8 n n0 n1
  · exact rd17_9 n n0 n1
  · exact rd17_10 n n0 n1
  · exact rd17_11 n n0 n1
  · exact rd17_12 n n0 n1
  · exact rd17_13 n n0 n1
  · exact rd17_14 n n0 n1
  · exact rd17_15 n n0 n1
  · exact rd17_16 n n0 n1
theorem rd_step (v : Int) (c : Bool) (v0 : 0 ≤ v) (v1 : v < 65536) (k : Nat) (hk : k < 17) : rdR (rdI v c k) (rdO v c k) = rdI v c (k + 1) ∧ b15 (rdI v c k) = rdO v c (k + 1) := by
  have hc := one_bd c
  obtain ⟨h1, h2, h3⟩ := rd17_step (v + 65536 * one c) (by omega) (by omega) k hk
  unfold rdI rdO b15 rdR
  rw [h1]
  generalize rd17 _ k = m at h2 h3
  unfold one
  refine ⟨?_, dec_iff (by omega)⟩
  by_cases h : 65536 ≤ m
  · have e1 : m % 65536 = m - 65536 := by omega
    have e2 : m / 65536 = 1 := by omega
    have e3 : 2 * m % 131072 = 2 * (m - 65536) := by omega
    rw [e1, e2, e3, decide_eq_true h]; rfl
  · have e1 : m % 65536 = m := by omega
    have e2 : m / 65536 = 0 := by omega
    have e3 : 2 * m % 131072 = 2 * m := by omega
    rw [e1, e2, e3, decide_eq_false h]; rfl
theorem rd_zero (v : Int) (c : Bool) (v0 : 0 ≤ v) (v1 : v < 65536) : rdI v c 0 = v ∧ rdO v c 0 = c := by
  unfold rdI rdO rd17
  cases c <;> simp [one] <;> omega
theorem rd_seventeen (v : Int) (c : Bool) (v0 : 0 ≤ v) (v1 : v < 65536) : rdI v c 17 = v ∧ rdO v c 17 = c := by
  unfold rdI rdO rd17
  cases c <;> simp [one] <;> omega
-- halves and doubles
def sg16 (v : Int) : Int := if v < 32768 then v else v - 65536
theorem sg16_wrap (v : Int) (h0 : 0 ≤ v) (h1 : v < 65536) : wrap64 (IntKind.i16.wrap v) = sg16 v := by
  unfold sg16
  split <;> simp [wrap64, IntKind.wrap, IntKind.bits, IntKind.signed] <;> omega
theorem sg16_bd (v : Int) (h0 : 0 ≤ v) (h1 : v < 65536) : -32768 ≤ sg16 v ∧ sg16 v < 32768 := by unfold sg16; split <;> omega
theorem half (v : Int) (v0 : 0 ≤ v) (v1 : v < 65536) : 2 * sg16 (arR v) + one (b0 v) = sg16 v := by
  unfold sg16 arR b15 b0 one
  by_cases h : 32768 ≤ v <;> by_cases g : v % 2 = 1 <;> simp [h, g] <;> (repeat' split) <;> omega
theorem twice (v : Int) (c : Bool) (v0 : 0 ≤ v) (v1 : v < 65536) : rdR v c + 65536 * one (b15 v) = 2 * v + one c := by
  have hc := one_bd c
  unfold rdR
  generalize one c = d at hc
  unfold b15 one
  by_cases h : 32768 ≤ v <;> simp [h] <;> omega
theorem over2 (v : Int) (v0 : 0 ≤ v) (v1 : v < 65536) : rdV v = (decide (2 * sg16 v < -32768) || decide (32767 < 2 * sg16 v)) := by
  have e : b15 (rdR v false) = decide (16384 ≤ v % 32768) := by unfold b15 rdR one; exact dec_iff (by simp; omega)
  unfold rdV
  rw [e]
  unfold b15 sg16
  by_cases h : v < 32768
  · rw [if_pos h, decide_eq_false (by omega : ¬ 32768 ≤ v), decide_eq_false (by omega : ¬ 2 * v < -32768)]
    by_cases g : v % 32768 < 16384
    · rw [decide_eq_false (by omega), decide_eq_false (by omega)]; rfl
    · rw [decide_eq_true (by omega), decide_eq_true (by omega)]; rfl
  · rw [if_neg h, decide_eq_true (by omega : 32768 ≤ v), decide_eq_false (by omega : ¬ 32767 < 2 * (v - 65536))]
    by_cases g : v % 32768 < 16384
    · rw [decide_eq_false (by omega), decide_eq_true (by omega)]; rfl
    · rw [decide_eq_true (by omega), decide_eq_false (by omega)]; rfl
end Go.Proofs.Ytnbkfdefkonodaa.S
