/- Plain functions for the document's chapter 14: the byte of RIM, the state after SIM. No condition. -/
import Derived.Test.YtfhnfakjjfjohaaS1
namespace Go.Proofs.Ytfhnfakjjfjohaa.S
open Go.ChangeShapes Go.WideShapes Go.ChangeAt Go.RowKit
set_option linter.unusedVariables false
/-- A state of a processor. -/
structure Cp where
  (Ch A B C D E H L : Int) (fS fZ fK fAC fP fV fCY : Bool) (SP PC : Int) (IE De Ha : Bool) (Ma : Int) (Tr R7 WT W7 Sa SI SO : Bool)
/-- Its cells. -/
def Cp.cs (c : Cp) : Array Value := #[.int .i64 c.Ch, .int .u8 c.A, .int .u8 c.B, .int .u8 c.C, .int .u8 c.D, .int .u8 c.E, .int .u8 c.H, .int .u8 c.L, .bool c.fS, .bool c.fZ, .bool c.fK, .bool c.fAC, .bool c.fP, .bool c.fV, .bool c.fCY, .int .u16 c.SP, .int .u16 c.PC, .bool c.IE, .bool c.De, .bool c.Ha, .int .u8 c.Ma, .bool c.Tr, .bool c.R7, .bool c.WT, .bool c.W7, .bool c.Sa, .bool c.SI, .bool c.SO]
/-- A bit if the condition holds. -/
def bt (b : Bool) (n : Int) : Int := if b then n else 0
/-- The byte of RIM. -/
def rim (sid r75 r65 r55 ie : Bool) (m : Int) : Int := 128 * one sid + 64 * one r75 + 32 * one r65 + 16 * one r55 + 8 * one ie + m % 8
/-- Is a bit of the mask n set? -/
def hs (a n : Int) : Bool := bits .and .u8 a n != 0
def pick (b x y : Bool) : Bool := if b then x else y
def pickN (b : Bool) (x y : Int) : Int := if b then x else y
theorem bt_t (n : Int) : bt true n = n := rfl
theorem bt_f (n : Int) : bt false n = 0 := rfl
theorem low3_fin : ∀ n : Fin 256, bits .and .u8 (n.val : Int) 7 = (n.val : Int) % 8 := by decide +kernel
theorem low3 (a : Int) (a0 : 0 ≤ a) (a1 : a < 256) : bits .and .u8 a 7 = a % 8 := by
  have h := low3_fin ⟨a.toNat, by omega⟩
  simpa [Int.toNat_of_nonneg a0] using h
theorem rim_or_fin : ∀ sid r75 r65 r55 ie : Bool, ∀ m : Fin 8, bits .or .u8 (bits .or .u8 (bits .or .u8 (bits .or .u8 (bits .or .u8 (bt sid 128) (bt r75 64)) (bt r65 32)) (bt r55 16)) (bt ie 8)) (m.val : Int) = rim sid r75 r65 r55 ie (m.val : Int) := by decide +kernel
theorem rim_or (sid r75 r65 r55 ie : Bool) (m : Int) : bits .or .u8 (bits .or .u8 (bits .or .u8 (bits .or .u8 (bits .or .u8 (bt sid 128) (bt r75 64)) (bt r65 32)) (bt r55 16)) (bt ie 8)) (m % 8) = rim sid r75 r65 r55 ie m := by
  have h := rim_or_fin sid r75 r65 r55 ie ⟨(m % 8).toNat, by omega⟩
  have e : ((m % 8).toNat : Int) = m % 8 := Int.toNat_of_nonneg (by omega)
  simp only [e] at h
  rw [h]
  unfold rim
  omega
/-- The bit n if the condition holds. -/
def bp (b : Bool) (n : Int) : Int := if b then 2 ^ n.toNat else 0
theorem rim_orp (sid r75 r65 r55 ie : Bool) (m : Int) : bits .or .u8 (bits .or .u8 (bits .or .u8 (bits .or .u8 (bits .or .u8 (bp sid 7) (bp r75 6)) (bp r65 5)) (bp r55 4)) (bp ie 3)) (m % 8) = rim sid r75 r65 r55 ie m := by
  have e : ∀ b : Bool, bp b 7 = bt b 128 ∧ bp b 6 = bt b 64 ∧ bp b 5 = bt b 32 ∧ bp b 4 = bt b 16 ∧ bp b 3 = bt b 8 := by decide
  rw [(e sid).1, (e r75).2.1, (e r65).2.2.1, (e r55).2.2.2.1, (e ie).2.2.2.2]
  exact rim_or ..
theorem rim_bd (sid r75 r65 r55 ie : Bool) (m : Int) : 0 ≤ rim sid r75 r65 r55 ie m ∧ rim sid r75 r65 r55 ie m < 256 := by
  have h1 := one_bd sid; have h2 := one_bd r75; have h3 := one_bd r65; have h4 := one_bd r55; have h5 := one_bd ie
  unfold rim; omega
theorem rim_low (sid r75 r65 r55 ie : Bool) (m : Int) : bits .and .u8 (rim sid r75 r65 r55 ie m) 7 = m % 8 := by
  obtain ⟨h0, h1⟩ := rim_bd sid r75 r65 r55 ie m
  rw [low3 _ h0 h1]
  unfold rim; omega
theorem rim_ie_fin : ∀ sid r75 r65 r55 ie : Bool, ∀ m : Fin 8, bits .and .u8 (rim sid r75 r65 r55 ie (m.val : Int)) 8 = bt ie 8 := by decide +kernel
theorem rim_ie (sid r75 r65 r55 ie : Bool) (m : Int) : bits .and .u8 (rim sid r75 r65 r55 ie m) 8 = bt ie 8 := by
  have h := rim_ie_fin sid r75 r65 r55 ie ⟨(m % 8).toNat, by omega⟩
  have e : ((m % 8).toNat : Int) = m % 8 := Int.toNat_of_nonneg (by omega)
  simp only [e] at h
  rw [← h]
  unfold rim
  rw [Int.emod_emod_of_dvd _ (by decide)]
theorem bt8 (b : Bool) : (bt b 8 != 0) = b ∧ (bt b 8 == 0) = !b := by cases b <;> decide
theorem rim_ne (sid r75 r65 r55 ie : Bool) (m : Int) : (bits .and .u8 (rim sid r75 r65 r55 ie m) 8 != 0) = ie := by rw [rim_ie]; exact (bt8 ie).1
theorem rim_eq (sid r75 r65 r55 ie : Bool) (m : Int) : (bits .and .u8 (rim sid r75 r65 r55 ie m) 8 == 0) = !ie := by rw [rim_ie]; exact (bt8 ie).2
theorem or8_fin : ∀ n : Fin 256, hs (bits .or .u8 (n.val : Int) 8) 8 = true ∧ bits .or .u8 (n.val : Int) 8 % 8 = (n.val : Int) % 8 ∧ 0 ≤ bits .or .u8 (n.val : Int) 8 ∧ bits .or .u8 (n.val : Int) 8 < 256 := by decide +kernel
theorem or8 (a : Int) (a0 : 0 ≤ a) (a1 : a < 256) : hs (bits .or .u8 a 8) 8 = true ∧ bits .or .u8 a 8 % 8 = a % 8 ∧ 0 ≤ bits .or .u8 a 8 ∧ bits .or .u8 a 8 < 256 := by
  have h := or8_fin ⟨a.toNat, by omega⟩
  simpa [Int.toNat_of_nonneg a0] using h
theorem without_fin : ∀ n : Fin 256, hs (bits .andNot .u8 (n.val : Int) 88) 64 = false ∧ hs (bits .andNot .u8 (n.val : Int) 88) 16 = false ∧ hs (bits .andNot .u8 (n.val : Int) 88) 8 = false ∧ 0 ≤ bits .andNot .u8 (n.val : Int) 88 ∧ bits .andNot .u8 (n.val : Int) 88 < 256 := by decide +kernel
theorem without (a : Int) (a0 : 0 ≤ a) (a1 : a < 256) : hs (bits .andNot .u8 a 88) 64 = false ∧ hs (bits .andNot .u8 a 88) 16 = false ∧ hs (bits .andNot .u8 a 88) 8 = false ∧ 0 ≤ bits .andNot .u8 a 88 ∧ bits .andNot .u8 a 88 < 256 := by
  have h := without_fin ⟨a.toNat, by omega⟩
  simpa [Int.toNat_of_nonneg a0] using h
end Go.Proofs.Ytfhnfakjjfjohaa.S
