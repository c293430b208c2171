/- Plain functions for the document's chapter 3: the operations of the accumulator. No condition. -/
import Derived.Test.YthjlegljhflejaaS2
import Derived.Laws.Bits128
namespace Go.Proofs.Ythjlegljhflejaa.S
open Go.ChangeShapes Go.WideShapes Go.ChangeAt Go.RowKit
set_option linter.unusedVariables false
/-- The result before a comparison takes it back. -/
def aR (op a b : Int) (cy : Bool) : Int :=
  if op % 8 = 0 then sumR a b false else if op % 8 = 1 then sumR a b cy else if op % 8 = 2 then difR a b false else if op % 8 = 3 then difR a b cy
  else if op % 8 = 4 then bits .and .u8 a b else if op % 8 = 5 then bits .xor .u8 a b else if op % 8 = 6 then bits .or .u8 a b else difR a b false
def aO (op a b : Int) (cy : Bool) : Bool :=
  if op % 8 = 0 then sumO a b false else if op % 8 = 1 then sumO a b cy else if op % 8 = 2 then difO a b false else if op % 8 = 3 then difO a b cy
  else if op % 8 = 4 then false else if op % 8 = 5 then false else if op % 8 = 6 then false else difO a b false
def aH (c op a b : Int) (cy : Bool) : Bool :=
  if op % 8 = 0 then sumH a b false else if op % 8 = 1 then sumH a b cy else if op % 8 = 2 then difH a b false else if op % 8 = 3 then difH a b cy
  else if op % 8 = 4 then (decide (c = 2) || (bits .and .u8 (bits .or .u8 a b) 8 != 0)) else if op % 8 = 5 then false else if op % 8 = 6 then false else difH a b false
def aW (op a b : Int) (cy : Bool) : Bool :=
  if op % 8 = 0 then sumV a b false else if op % 8 = 1 then sumV a b cy else if op % 8 = 2 then difV a b false else if op % 8 = 3 then difV a b cy
  else if op % 8 = 4 then false else if op % 8 = 5 then false else if op % 8 = 6 then false else difV a b false
/-- Does it subtract? -/
def sub (op : Int) : Bool := decide (op % 8 = 2) || decide (op % 8 = 3) || decide (op % 8 = 7)
def big (a : Int) : Bool := decide (128 ≤ a)
def aV (c op a b : Int) (cy : Bool) : Bool := decide (c = 2) && aW op a b cy
def aK (c op a b : Int) (cy : Bool) : Bool := decide (c = 2) && maj (big a) (big b != sub op) (big (aR op a b cy))
def aX (op a b : Int) (cy : Bool) : Int := if op % 8 = 7 then a else aR op a b cy
theorem and7 (n : Int) : bits .and .i64 n 7 = n % 8 := by
  have h7 : (BitVec.ofInt 64 7).toNat = 2 ^ 3 - 1 := by decide
  have key : (BitVec.ofInt 64 n &&& BitVec.ofInt 64 7).toNat = (n % ((2 ^ 64 : Nat) : Int)).toNat % 2 ^ 3 := by
    rw [BitVec.toNat_and, BitVec.toNat_ofInt, h7, Nat.and_two_pow_sub_one_eq_mod]
  show IntKind.i64.wrap ((BitVec.ofInt 64 n &&& BitVec.ofInt 64 7).toNat : Nat) = n % 8
  rw [key, IntKind.wrap_i64]
  omega
theorem u8_bd (n : Int) : 0 ≤ IntKind.u8.wrap n ∧ IntKind.u8.wrap n < 256 := by simp [IntKind.wrap, IntKind.bits, IntKind.signed]; omega
theorem and_bd (a b : Int) : 0 ≤ bits .and .u8 a b ∧ bits .and .u8 a b < 256 := u8_bd _
theorem or_bd (a b : Int) : 0 ≤ bits .or .u8 a b ∧ bits .or .u8 a b < 256 := u8_bd _
theorem xor_bd (a b : Int) : 0 ≤ bits .xor .u8 a b ∧ bits .xor .u8 a b < 256 := u8_bd _
section
variable {op : Int}
theorem al0 (h : op % 8 = 0) (c a b : Int) (cy : Bool) : aR op a b cy = sumR a b false ∧ aO op a b cy = sumO a b false ∧ aH c op a b cy = sumH a b false ∧ aW op a b cy = sumV a b false ∧ sub op = false ∧ aX op a b cy = sumR a b false := by simp [aR, aO, aH, aW, sub, aX, h]
theorem al1 (h : op % 8 = 1) (c a b : Int) (cy : Bool) : aR op a b cy = sumR a b cy ∧ aO op a b cy = sumO a b cy ∧ aH c op a b cy = sumH a b cy ∧ aW op a b cy = sumV a b cy ∧ sub op = false ∧ aX op a b cy = sumR a b cy := by simp [aR, aO, aH, aW, sub, aX, h]
theorem al2 (h : op % 8 = 2) (c a b : Int) (cy : Bool) : aR op a b cy = difR a b false ∧ aO op a b cy = difO a b false ∧ aH c op a b cy = difH a b false ∧ aW op a b cy = difV a b false ∧ sub op = true ∧ aX op a b cy = difR a b false := by simp [aR, aO, aH, aW, sub, aX, h]
theorem al3 (h : op % 8 = 3) (c a b : Int) (cy : Bool) : aR op a b cy = difR a b cy ∧ aO op a b cy = difO a b cy ∧ aH c op a b cy = difH a b cy ∧ aW op a b cy = difV a b cy ∧ sub op = true ∧ aX op a b cy = difR a b cy := by simp [aR, aO, aH, aW, sub, aX, h]
theorem al4 (h : op % 8 = 4) (c a b : Int) (cy : Bool) : aR op a b cy = bits .and .u8 a b ∧ aO op a b cy = false ∧ aH c op a b cy = (decide (c = 2) || (bits .and .u8 (bits .or .u8 a b) 8 != 0)) ∧ aW op a b cy = false ∧ sub op = false ∧ aX op a b cy = bits .and .u8 a b := by simp [aR, aO, aH, aW, sub, aX, h]
theorem al5 (h : op % 8 = 5) (c a b : Int) (cy : Bool) : aR op a b cy = bits .xor .u8 a b ∧ aO op a b cy = false ∧ aH c op a b cy = false ∧ aW op a b cy = false ∧ sub op = false ∧ aX op a b cy = bits .xor .u8 a b := by simp [aR, aO, aH, aW, sub, aX, h]
theorem al6 (h : op % 8 = 6) (c a b : Int) (cy : Bool) : aR op a b cy = bits .or .u8 a b ∧ aO op a b cy = false ∧ aH c op a b cy = false ∧ aW op a b cy = false ∧ sub op = false ∧ aX op a b cy = bits .or .u8 a b := by simp [aR, aO, aH, aW, sub, aX, h]
theorem al7 (h : op % 8 = 7) (c a b : Int) (cy : Bool) : aR op a b cy = difR a b false ∧ aO op a b cy = difO a b false ∧ aH c op a b cy = difH a b false ∧ aW op a b cy = difV a b false ∧ sub op = true ∧ aX op a b cy = a := by simp [aR, aO, aH, aW, sub, aX, h]
end
theorem aR_bd (op a b : Int) (cy : Bool) : 0 ≤ aR op a b cy ∧ aR op a b cy < 256 := by
  rcases (by omega : op % 8 = 0 ∨ op % 8 = 1 ∨ op % 8 = 2 ∨ op % 8 = 3 ∨ op % 8 = 4 ∨ op % 8 = 5 ∨ op % 8 = 6 ∨ op % 8 = 7) with h | h | h | h | h | h | h | h
  · rw [(al0 h 0 a b cy).1]; exact sumR_bd ..
  · rw [(al1 h 0 a b cy).1]; exact sumR_bd ..
  · rw [(al2 h 0 a b cy).1]; exact difR_bd ..
  · rw [(al3 h 0 a b cy).1]; exact difR_bd ..
  · rw [(al4 h 0 a b cy).1]; exact and_bd ..
  · rw [(al5 h 0 a b cy).1]; exact xor_bd ..
  · rw [(al6 h 0 a b cy).1]; exact or_bd ..
  · rw [(al7 h 0 a b cy).1]; exact difR_bd ..
theorem aK85 (op a b : Int) (cy : Bool) : aK 2 op a b cy = maj (big a) (big b != sub op) (big (aR op a b cy)) := by simp [aK]
theorem aK80 {c : Int} (hc : ¬c = 2) (op a b : Int) (cy : Bool) : aK c op a b cy = false := by simp [aK, hc]
theorem aV85 (op a b : Int) (cy : Bool) : aV 2 op a b cy = aW op a b cy := by simp [aV]
theorem aV80 {c : Int} (hc : ¬c = 2) (op a b : Int) (cy : Bool) : aV c op a b cy = false := by simp [aV, hc]
end Go.Proofs.Ythjlegljhflejaa.S
