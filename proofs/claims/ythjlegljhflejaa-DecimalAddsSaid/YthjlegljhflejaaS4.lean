/- Plain functions for the document's chapter 4: increments and decrements. No condition. -/
import Derived.Test.YthjlegljhflejaaS3
namespace Go.Proofs.Ythjlegljhflejaa.S
open Go.ChangeShapes Go.WideShapes Go.ChangeAt Go.RowKit
set_option linter.unusedVariables false
/-- K and V of a step from v to r. -/
def nK (c v : Int) (d : Bool) (r : Int) : Bool := decide (c = 2) && maj (big v) d (big r)
def nV (c : Int) (o : Bool) : Bool := decide (c = 2) && o
theorem nK85 (v : Int) (d : Bool) (r : Int) : nK 2 v d r = maj (big v) d (big r) := by simp [nK]
theorem nK80 {c : Int} (hc : ¬c = 2) (v : Int) (d : Bool) (r : Int) : nK c v d r = false := by simp [nK, hc]
theorem nV85 (o : Bool) : nV 2 o = o := by simp [nV]
theorem nV80 {c : Int} (hc : ¬c = 2) (o : Bool) : nV c o = false := by simp [nV, hc]
/-- The word after v, the word before it, and K of both. -/
def inc (v : Int) : Int := (v + 1) % 65536
def dec (v : Int) : Int := (v - 1) % 65536
def wK (c : Int) (x k : Bool) : Bool := if c = 2 then x else k
theorem wK85 (x k : Bool) : wK 2 x k = x := by simp [wK]
theorem wK80 {c : Int} (hc : ¬c = 2) (x k : Bool) : wK c x k = k := by simp [wK, hc]
theorem u16_wrap (n : Int) : IntKind.u16.wrap n = n % 65536 := by simp [IntKind.wrap, IntKind.bits, IntKind.signed]
theorem inc_wrap (v : Int) : IntKind.u16.wrap (v + 1) = inc v := u16_wrap _
theorem dec_wrap (v : Int) : IntKind.u16.wrap (v - 1) = dec v := u16_wrap _
theorem inc_bd (v : Int) : 0 ≤ inc v ∧ inc v < 65536 := by unfold inc; omega
theorem dec_bd (v : Int) : 0 ≤ dec v ∧ dec v < 65536 := by unfold dec; omega
theorem inc_lt (v : Int) (v0 : 0 ≤ v) (v1 : v < 65536) : decide (inc v < v) = (v == 65535) := by
  have : (v == 65535) = decide (v = 65535) := rfl
  rw [this]; unfold inc; exact dec_iff (by omega)
theorem dec_gt (v : Int) (v0 : 0 ≤ v) (v1 : v < 65536) : decide (v < dec v) = (v == 0) := by
  have : (v == 0) = decide (v = 0) := rfl
  rw [this]; unfold dec; exact dec_iff (by omega)
theorem inc_zero (v : Int) (v0 : 0 ≤ v) (v1 : v < 65536) : (inc v == 0) = (v == 65535) := by
  have h1 : (v == 65535) = decide (v = 65535) := rfl
  have h2 : (inc v == 0) = decide (inc v = 0) := rfl
  rw [h1, h2]; unfold inc; exact dec_iff (by omega)
theorem dec_ones (v : Int) (v0 : 0 ≤ v) (v1 : v < 65536) : (dec v == 65535) = (v == 0) := by
  have h1 : (v == 0) = decide (v = 0) := rfl
  have h2 : (dec v == 65535) = decide (dec v = 65535) := rfl
  rw [h1, h2]; unfold dec; exact dec_iff (by omega)
theorem dec_inc (v : Int) (v0 : 0 ≤ v) (v1 : v < 65536) : dec (inc v) = v := by unfold dec inc; omega
theorem dif_sum1 (v : Int) (v0 : 0 ≤ v) (v1 : v < 256) : difR (sumR v 1 false) 1 false = v := sum_undo v 1 false v0 v1 (by omega) (by omega)
end Go.Proofs.Ythjlegljhflejaa.S
