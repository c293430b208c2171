/- Plain functions for the document's chapter 15: the latches, the source that is served, the state in which a service begins, the vectors. No condition. -/
import Derived.Test.YtaanpmmhhgnklaaS14
namespace Go.Proofs.Ytaanpmmhhgnklaa.S
open Go.ChangeShapes Go.WideShapes Go.ChangeAt Go.RowKit
set_option linter.unusedVariables false
/-- The latch of TRAP after a level, on a chip. -/
def latT (c : Int) (l cur was : Bool) : Bool := if c = 2 then l && (cur || !was) else cur
/-- The latch of RST 7.5 after a level. -/
def lat7 (c : Int) (l cur was : Bool) : Bool := if c = 2 then cur || l && !was else cur
/-- The level of before. -/
def latW (c : Int) (l was : Bool) : Bool := if c = 2 then l else was
/-- Is the mask's bit n clear? -/
def fr (m n : Int) : Bool := bits .and .u8 m n == 0
/-- The source that is served. -/
def pik (c : Int) (ie de : Bool) (m : Int) (tr r7 r6 r5 i : Bool) : Int :=
  if c = 2 ∧ tr = true then 1 else if ie = false ∨ de = true then 0 else if c = 2 ∧ r7 = true ∧ fr m 4 = true then 2 else if c = 2 ∧ r6 = true ∧ fr m 2 = true then 3 else if c = 2 ∧ r5 = true ∧ fr m 1 = true then 4 else if i = true then 5 else 0
/-- What the service of a source switches off. -/
def off (k : Int) (b : Bool) : Bool := if 1 ≤ k ∧ k ≤ 5 then false else b
/-- One of two, whether a number is n. -/
def sw (k n : Int) (x y : Bool) : Bool := if k = n then x else y
/-- The vectors. -/
def vec (k : Int) : Int := if k = 1 then 36 else if k = 2 then 60 else if k = 3 then 52 else if k = 4 then 44 else 0
/-- The mask after RESET. -/
def rsm (c : Int) : Int := if c = 2 then 7 else 0
theorem pik_bd (c : Int) (ie de : Bool) (m : Int) (tr r7 r6 r5 i : Bool) : 0 ≤ pik c ie de m tr r7 r6 r5 i ∧ pik c ie de m tr r7 r6 r5 i ≤ 5 := by
  unfold pik; repeat' split
  all_goals omega
/-- What is requested, of the lines that only the 8085 has; of INTR. -/
def ask (c : Int) (f r x : Bool) : Bool := decide (c = 2) && (f && (r && x))
theorem pik_spec (c : Int) (ie de : Bool) (m : Int) (tr r7 r6 r5 i : Bool) :
    (pik c ie de m tr r7 r6 r5 i = 0 ∧ (decide (c = 2) && tr) = false ∧ ask c (ie && !de) r7 (fr m 4) = false ∧ ask c (ie && !de) r6 (fr m 2) = false ∧ ask c (ie && !de) r5 (fr m 1) = false ∧ ((ie && !de) && i) = false) ∨
    (pik c ie de m tr r7 r6 r5 i = 1 ∧ (decide (c = 2) && tr) = true) ∨
    (pik c ie de m tr r7 r6 r5 i = 2 ∧ (decide (c = 2) && tr) = false ∧ ask c (ie && !de) r7 (fr m 4) = true) ∨
    (pik c ie de m tr r7 r6 r5 i = 3 ∧ (decide (c = 2) && tr) = false ∧ ask c (ie && !de) r7 (fr m 4) = false ∧ ask c (ie && !de) r6 (fr m 2) = true) ∨
    (pik c ie de m tr r7 r6 r5 i = 4 ∧ (decide (c = 2) && tr) = false ∧ ask c (ie && !de) r7 (fr m 4) = false ∧ ask c (ie && !de) r6 (fr m 2) = false ∧ ask c (ie && !de) r5 (fr m 1) = true) ∨
    (pik c ie de m tr r7 r6 r5 i = 5 ∧ (decide (c = 2) && tr) = false ∧ ask c (ie && !de) r7 (fr m 4) = false ∧ ask c (ie && !de) r6 (fr m 2) = false ∧ ask c (ie && !de) r5 (fr m 1) = false ∧ ((ie && !de) && i) = true) := by
  have e : ∀ a b : Bool, (a = true ∧ b = true) = ((a && b) = true) := by intro a b; simp
  have e' : (ie = false ∨ de = true) = ((ie && !de) = false) := by cases ie <;> cases de <;> simp
  unfold pik ask
  simp only [e', e]
  generalize fr m 4 = x4, fr m 2 = x2, fr m 1 = x1
  generalize (ie && !de) = f
  clear e e'
  by_cases hc : c = 2
  · simp only [hc, true_and, decide_true, Bool.true_and]
    generalize (r7 && x4) = p2, (r6 && x2) = p3, (r5 && x1) = p4
    clear hc
    cases tr <;> cases f <;> cases p2 <;> cases p3 <;> cases p4 <;> cases i <;> simp
  · simp only [hc, false_and, decide_false, Bool.false_and, if_false]
    clear hc
    cases f <;> cases i <;> simp
/-- After a service has begun, nothing but TRAP is served. -/
theorem pik_off (c m : Int) (tr r7 r6 r5 i : Bool) : pik c false false m tr r7 r6 r5 i = 0 ∨ (pik c false false m tr r7 r6 r5 i = 1 ∧ tr = true) := by
  unfold pik
  by_cases h : c = 2 ∧ tr = true
  · right; exact ⟨by rw [if_pos h], h.2⟩
  · left; rw [if_neg h]; rfl
theorem off_0 (b : Bool) : off 0 b = b := rfl
theorem sw_01 (x y : Bool) : sw 0 1 x y = y := rfl
theorem sw_02 (x y : Bool) : sw 0 2 x y = y := rfl
theorem off_1 (b : Bool) : off 1 b = false := rfl
theorem sw_11 (x y : Bool) : sw 1 1 x y = x := rfl
theorem sw_12 (x y : Bool) : sw 1 2 x y = y := rfl
theorem off_2 (b : Bool) : off 2 b = false := rfl
theorem sw_21 (x y : Bool) : sw 2 1 x y = y := rfl
theorem sw_22 (x y : Bool) : sw 2 2 x y = x := rfl
theorem off_3 (b : Bool) : off 3 b = false := rfl
theorem sw_31 (x y : Bool) : sw 3 1 x y = y := rfl
theorem sw_32 (x y : Bool) : sw 3 2 x y = y := rfl
theorem off_4 (b : Bool) : off 4 b = false := rfl
theorem sw_41 (x y : Bool) : sw 4 1 x y = y := rfl
theorem sw_42 (x y : Bool) : sw 4 2 x y = y := rfl
theorem off_5 (b : Bool) : off 5 b = false := rfl
theorem sw_51 (x y : Bool) : sw 5 1 x y = y := rfl
theorem sw_52 (x y : Bool) : sw 5 2 x y = y := rfl
end Go.Proofs.Ytaanpmmhhgnklaa.S
