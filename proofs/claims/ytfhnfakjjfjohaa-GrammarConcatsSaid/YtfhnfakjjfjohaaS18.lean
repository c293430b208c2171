/- Plain functions of chapter 18: the status byte of the 8080, the three levels of the 8085, which cycles read and which write. No condition. -/
import Derived.Test.YtfhnfakjjfjohaaS1
namespace Go.Proofs.Ytfhnfakjjfjohaa
set_option linter.unusedVariables false
/-- The status byte of a kind. -/
def S.stB (n : Int) : Int :=
  if n = 1 then 162 else if n = 2 then 130 else if n = 4 then 134 else if n = 5 then 4 else if n = 6 then 66 else if n = 7 then 16 else
  if n = 8 then 35 else if n = 9 then 3 else if n = 10 then 138 else 0
/-- IO/M of a kind. -/
def S.stM (n : Int) : Bool := decide (n = 6) || decide (n = 7) || decide (n = 8) || decide (n = 9) || decide (n = 12)
/-- S1 of a kind. -/
def S.st1 (n : Int) : Bool := decide (n = 1) || decide (n = 2) || decide (n = 4) || decide (n = 6) || decide (n = 8) || decide (n = 9) || decide (n = 11) || decide (n = 12)
/-- S0 of a kind. -/
def S.st0 (n : Int) : Bool := decide (n = 1) || decide (n = 3) || decide (n = 5) || decide (n = 7) || decide (n = 8) || decide (n = 9) || decide (n = 12)
/-- Is a byte read in cycles of this kind? -/
def S.stR (n : Int) : Bool := decide (n = 1) || decide (n = 2) || decide (n = 4) || decide (n = 6) || decide (n = 8) || decide (n = 9)
/-- Is a byte written in cycles of this kind? -/
def S.stW (n : Int) : Bool := decide (n = 3) || decide (n = 5) || decide (n = 7)
theorem S.stR_not (n : Int) (h : S.stR n = true) : S.stW n = false := by
  simp only [S.stR, Bool.or_eq_true, decide_eq_true_eq] at h
  rcases h with ((((rfl | rfl) | rfl) | rfl) | rfl) | rfl <;> rfl
theorem S.stB_no (n : Int) (h1 : ¬n = 1) (h2 : ¬n = 2) (h3 : ¬n = 3) (h4 : ¬n = 4) (h5 : ¬n = 5) (h6 : ¬n = 6) (h7 : ¬n = 7) (h8 : ¬n = 8) (h9 : ¬n = 9) (h10 : ¬n = 10) (h11 : ¬n = 11) (h12 : ¬n = 12) : S.stB n = 0 := by
  simp [S.stB, *]
theorem S.stM_no (n : Int) (h1 : ¬n = 1) (h2 : ¬n = 2) (h3 : ¬n = 3) (h4 : ¬n = 4) (h5 : ¬n = 5) (h6 : ¬n = 6) (h7 : ¬n = 7) (h8 : ¬n = 8) (h9 : ¬n = 9) (h10 : ¬n = 10) (h11 : ¬n = 11) (h12 : ¬n = 12) : S.stM n = false := by
  simp [S.stM, *]
theorem S.st1_no (n : Int) (h1 : ¬n = 1) (h2 : ¬n = 2) (h3 : ¬n = 3) (h4 : ¬n = 4) (h5 : ¬n = 5) (h6 : ¬n = 6) (h7 : ¬n = 7) (h8 : ¬n = 8) (h9 : ¬n = 9) (h10 : ¬n = 10) (h11 : ¬n = 11) (h12 : ¬n = 12) : S.st1 n = false := by
  simp [S.st1, *]
theorem S.st0_no (n : Int) (h1 : ¬n = 1) (h2 : ¬n = 2) (h3 : ¬n = 3) (h4 : ¬n = 4) (h5 : ¬n = 5) (h6 : ¬n = 6) (h7 : ¬n = 7) (h8 : ¬n = 8) (h9 : ¬n = 9) (h10 : ¬n = 10) (h11 : ¬n = 11) (h12 : ¬n = 12) : S.st0 n = false := by
  simp [S.st0, *]
theorem S.stR_no (n : Int) (h1 : ¬n = 1) (h2 : ¬n = 2) (h3 : ¬n = 3) (h4 : ¬n = 4) (h5 : ¬n = 5) (h6 : ¬n = 6) (h7 : ¬n = 7) (h8 : ¬n = 8) (h9 : ¬n = 9) (h10 : ¬n = 10) (h11 : ¬n = 11) (h12 : ¬n = 12) : S.stR n = false := by
  simp [S.stR, *]
theorem S.stW_no (n : Int) (h1 : ¬n = 1) (h2 : ¬n = 2) (h3 : ¬n = 3) (h4 : ¬n = 4) (h5 : ¬n = 5) (h6 : ¬n = 6) (h7 : ¬n = 7) (h8 : ¬n = 8) (h9 : ¬n = 9) (h10 : ¬n = 10) (h11 : ¬n = 11) (h12 : ¬n = 12) : S.stW n = false := by
  simp [S.stW, *]
end Go.Proofs.Ytfhnfakjjfjohaa
