/- Plain functions for the document's chapter 2: the byte of flags and back. No condition. -/
import Derived.Test.YtkoonimngcpdjaaS1
namespace Go.Proofs.Ytkoonimngcpdjaa.S
open Go.ChangeShapes Go.WideShapes Go.ChangeAt Go.RowKit
set_option linter.unusedVariables false
/-- Bit n of a byte. -/
def has (b n : Int) : Bool := decide (b / 2 ^ n.toNat % 2 = 1)
/-- A flag at its place. -/
def pl (f : Bool) (n : Int) : Int := if f then 2 ^ n.toNat else 0
/-- The five flags of both chips in their byte. -/
def pk (s z ac p cy : Bool) : Int := 128 * one s + 64 * one z + 16 * one ac + 4 * one p + one cy
/-- The byte of flags. -/
def pack (c : Int) (s z k ac p v cy : Bool) : Int := pk s z ac p cy + (if c = 2 then 32 * one k + 2 * one v else 2)
def uk (c b : Int) : Bool := decide (c = 2) && has b 5
def uv (c b : Int) : Bool := decide (c = 2) && has b 1
theorem uk85 {c : Int} (hc : c = 2) (b : Int) : uk c b = has b 5 := by simp [uk, hc]
theorem uv85 {c : Int} (hc : c = 2) (b : Int) : uv c b = has b 1 := by simp [uv, hc]
theorem uk80 {c : Int} (hc : ¬c = 2) (b : Int) : uk c b = false := by simp [uk, hc]
theorem uv80 {c : Int} (hc : ¬c = 2) (b : Int) : uv c b = false := by simp [uv, hc]
theorem pl_bd (f : Bool) (n : Int) (n0 : 0 ≤ n) (n1 : n < 8) : 0 ≤ pl f n ∧ pl f n < 256 := by
  rcases (by omega : n = 0 ∨ n = 1 ∨ n = 2 ∨ n = 3 ∨ n = 4 ∨ n = 5 ∨ n = 6 ∨ n = 7) with h | h | h | h | h | h | h | h <;> subst h <;> cases f <;> decide
theorem pk_or : ∀ s z ac p cy : Bool, bits .or .u8 (bits .or .u8 (bits .or .u8 (bits .or .u8 (pl s 7) (pl z 6)) (pl ac 4)) (pl p 2)) (pl cy 0) = pk s z ac p cy := by decide +kernel
theorem pack_or : ∀ s z k ac p v cy : Bool, bits .or .u8 (bits .or .u8 (pk s z ac p cy) (pl k 5)) (pl v 1) = pk s z ac p cy + (32 * one k + 2 * one v) := by decide +kernel
theorem pack_or2 : ∀ s z ac p cy : Bool, bits .or .u8 (pk s z ac p cy) 2 = pk s z ac p cy + 2 := by decide +kernel
theorem pl1 : pl true 1 = 2 := by decide
theorem pk_bd (s z ac p cy : Bool) : 0 ≤ pk s z ac p cy ∧ pk s z ac p cy < 256 := by
  revert s z ac p cy; decide +kernel
theorem pack_85 {c : Int} (hc : c = 2) (s z k ac p v cy : Bool) : pack c s z k ac p v cy = pk s z ac p cy + (32 * one k + 2 * one v) := by simp [pack, hc]
theorem pack_80 {c : Int} (hc : ¬c = 2) (s z k ac p v cy : Bool) : pack c s z k ac p v cy = pk s z ac p cy + 2 := by simp [pack, hc]
theorem pack_bd85 : ∀ s z k ac p v cy : Bool, 0 ≤ pack 2 s z k ac p v cy ∧ pack 2 s z k ac p v cy < 256 := by decide +kernel
theorem pack_bd80 : ∀ s z k ac p v cy : Bool, 0 ≤ pack 1 s z k ac p v cy ∧ pack 1 s z k ac p v cy < 256 := by decide +kernel
theorem pack_bd (c : Int) (s z k ac p v cy : Bool) : 0 ≤ pack c s z k ac p v cy ∧ pack c s z k ac p v cy < 256 := by
  by_cases hc : c = 2
  · subst hc; exact pack_bd85 ..
  · have : pack c s z k ac p v cy = pack 1 s z k ac p v cy := by simp [pack, hc]
    rw [this]; exact pack_bd80 ..
theorem has_pack85 : ∀ s z k ac p v cy : Bool, has (pack 2 s z k ac p v cy) 7 = s ∧ has (pack 2 s z k ac p v cy) 6 = z ∧ has (pack 2 s z k ac p v cy) 5 = k ∧ has (pack 2 s z k ac p v cy) 4 = ac ∧ has (pack 2 s z k ac p v cy) 2 = p ∧ has (pack 2 s z k ac p v cy) 1 = v ∧ has (pack 2 s z k ac p v cy) 0 = cy := by decide +kernel
theorem has_pack80 : ∀ s z k ac p v cy : Bool, has (pack 1 s z k ac p v cy) 7 = s ∧ has (pack 1 s z k ac p v cy) 6 = z ∧ has (pack 1 s z k ac p v cy) 4 = ac ∧ has (pack 1 s z k ac p v cy) 2 = p ∧ has (pack 1 s z k ac p v cy) 0 = cy := by decide +kernel
theorem mask_fin : ∀ n : Fin 256, (bits .and .u8 (n.val : Int) 128 != 0) = has (n.val : Int) 7 ∧ (bits .and .u8 (n.val : Int) 64 != 0) = has (n.val : Int) 6 ∧ (bits .and .u8 (n.val : Int) 32 != 0) = has (n.val : Int) 5 ∧ (bits .and .u8 (n.val : Int) 16 != 0) = has (n.val : Int) 4 ∧ (bits .and .u8 (n.val : Int) 4 != 0) = has (n.val : Int) 2 ∧ (bits .and .u8 (n.val : Int) 2 != 0) = has (n.val : Int) 1 ∧ (bits .and .u8 (n.val : Int) 1 != 0) = has (n.val : Int) 0 := by decide +kernel
theorem mask (a : Int) (a0 : 0 ≤ a) (a1 : a < 256) : (bits .and .u8 a 128 != 0) = has a 7 ∧ (bits .and .u8 a 64 != 0) = has a 6 ∧ (bits .and .u8 a 32 != 0) = has a 5 ∧ (bits .and .u8 a 16 != 0) = has a 4 ∧ (bits .and .u8 a 4 != 0) = has a 2 ∧ (bits .and .u8 a 2 != 0) = has a 1 ∧ (bits .and .u8 a 1 != 0) = has a 0 := by
  have h := mask_fin ⟨a.toNat, by omega⟩
  simpa [Int.toNat_of_nonneg a0] using h
theorem has7 (a : Int) (a0 : 0 ≤ a) (a1 : a < 256) : has a 7 = decide (128 ≤ a) := by
  unfold has
  exact dec_iff (by simp; omega)
theorem unpack_pack85 (s z k ac p v cy : Bool) : has (pack 2 s z k ac p v cy) 7 = s ∧ has (pack 2 s z k ac p v cy) 6 = z ∧ uk 2 (pack 2 s z k ac p v cy) = k ∧ has (pack 2 s z k ac p v cy) 4 = ac ∧ has (pack 2 s z k ac p v cy) 2 = p ∧ uv 2 (pack 2 s z k ac p v cy) = v ∧ has (pack 2 s z k ac p v cy) 0 = cy := has_pack85 s z k ac p v cy
theorem unpack_pack80 (s z k ac p v cy : Bool) : has (pack 1 s z k ac p v cy) 7 = s ∧ has (pack 1 s z k ac p v cy) 6 = z ∧ uk 1 (pack 1 s z k ac p v cy) = false ∧ has (pack 1 s z k ac p v cy) 4 = ac ∧ has (pack 1 s z k ac p v cy) 2 = p ∧ uv 1 (pack 1 s z k ac p v cy) = false ∧ has (pack 1 s z k ac p v cy) 0 = cy := by
  obtain ⟨h1, h2, h3, h4, h5⟩ := has_pack80 s z k ac p v cy
  exact ⟨h1, h2, rfl, h3, h4, rfl, h5⟩
theorem pack_unpack80_fin : ∀ n : Fin 256, bits .andNot .u8 (bits .xor .u8 (pack 1 (has n.val 7) (has n.val 6) (uk 1 n.val) (has n.val 4) (has n.val 2) (uv 1 n.val) (has n.val 0)) n.val) 42 = 0 ∧ bits .and .u8 (pack 1 (has n.val 7) (has n.val 6) (uk 1 n.val) (has n.val 4) (has n.val 2) (uv 1 n.val) (has n.val 0)) 42 = 2 := by decide +kernel
theorem pack_unpack85_fin : ∀ n : Fin 256, bits .andNot .u8 (bits .xor .u8 (pack 2 (has n.val 7) (has n.val 6) (uk 2 n.val) (has n.val 4) (has n.val 2) (uv 2 n.val) (has n.val 0)) n.val) 8 = 0 ∧ bits .and .u8 (pack 2 (has n.val 7) (has n.val 6) (uk 2 n.val) (has n.val 4) (has n.val 2) (uv 2 n.val) (has n.val 0)) 8 = 0 := by decide +kernel
theorem pack_unpack80 (a : Int) (a0 : 0 ≤ a) (a1 : a < 256) : bits .andNot .u8 (bits .xor .u8 (pack 1 (has a 7) (has a 6) (uk 1 a) (has a 4) (has a 2) (uv 1 a) (has a 0)) a) 42 = 0 ∧ bits .and .u8 (pack 1 (has a 7) (has a 6) (uk 1 a) (has a 4) (has a 2) (uv 1 a) (has a 0)) 42 = 2 := by
  have h := pack_unpack80_fin ⟨a.toNat, by omega⟩
  simpa [Int.toNat_of_nonneg a0] using h
theorem pack_unpack85 (a : Int) (a0 : 0 ≤ a) (a1 : a < 256) : bits .andNot .u8 (bits .xor .u8 (pack 2 (has a 7) (has a 6) (uk 2 a) (has a 4) (has a 2) (uv 2 a) (has a 0)) a) 8 = 0 ∧ bits .and .u8 (pack 2 (has a 7) (has a 6) (uk 2 a) (has a 4) (has a 2) (uv 2 a) (has a 0)) 8 = 0 := by
  have h := pack_unpack85_fin ⟨a.toNat, by omega⟩
  simpa [Int.toNat_of_nonneg a0] using h
end Go.Proofs.Ytkoonimngcpdjaa.S
