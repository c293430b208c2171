/- Plain functions of chapter 10: which conditions hold. No condition. -/
import Derived.Test.YtodghchpoomaaaaS1
namespace Go.Proofs.Ytodghchpoomaaaa
set_option linter.unusedVariables false
/-- Does condition n hold with these flags? -/
def S.cnd (n : Int) (s z k p v c : Bool) : Bool :=
  if n = 0 then !z else if n = 1 then z else if n = 2 then !c else if n = 3 then c else if n = 4 then !p else if n = 5 then p else
  if n = 6 then !s else if n = 7 then s else if n = 8 then !k else if n = 9 then k else if n = 10 then v else decide (n = 11)
/-- Is it the first one of a pair? -/
def S.neg (n : Int) : Bool := decide (n = 0) || decide (n = 2) || decide (n = 4) || decide (n = 6) || decide (n = 8)
theorem S.cnd_no (n : Int) (s z k p v c : Bool) (h0 : ¬n = 0) (h1 : ¬n = 1) (h2 : ¬n = 2) (h3 : ¬n = 3) (h4 : ¬n = 4) (h5 : ¬n = 5) (h6 : ¬n = 6) (h7 : ¬n = 7) (h8 : ¬n = 8) (h9 : ¬n = 9) (h10 : ¬n = 10) (h11 : ¬n = 11) : S.cnd n s z k p v c = false := by
  simp [S.cnd, *]
theorem S.dep_0 (n : Nat) (s z k p v c : Bool) (h : n < 11) : (S.cnd n s z k p v c == S.cnd n (s) (!z) (k) (p) (v) (c)) = !((0 : Int) == ((n / 2 : Nat) : Int)) := by
  rcases (by omega : n = 0 ∨ n = 1 ∨ n = 2 ∨ n = 3 ∨ n = 4 ∨ n = 5 ∨ n = 6 ∨ n = 7 ∨ n = 8 ∨ n = 9 ∨ n = 10) with rfl | rfl | rfl | rfl | rfl | rfl | rfl | rfl | rfl | rfl | rfl <;> clear h <;> revert s z k p v c <;> decide
theorem S.dep_1 (n : Nat) (s z k p v c : Bool) (h : n < 11) : (S.cnd n s z k p v c == S.cnd n (s) (z) (k) (p) (v) (!c)) = !((1 : Int) == ((n / 2 : Nat) : Int)) := by
  rcases (by omega : n = 0 ∨ n = 1 ∨ n = 2 ∨ n = 3 ∨ n = 4 ∨ n = 5 ∨ n = 6 ∨ n = 7 ∨ n = 8 ∨ n = 9 ∨ n = 10) with rfl | rfl | rfl | rfl | rfl | rfl | rfl | rfl | rfl | rfl | rfl <;> clear h <;> revert s z k p v c <;> decide
theorem S.dep_2 (n : Nat) (s z k p v c : Bool) (h : n < 11) : (S.cnd n s z k p v c == S.cnd n (s) (z) (k) (!p) (v) (c)) = !((2 : Int) == ((n / 2 : Nat) : Int)) := by
  rcases (by omega : n = 0 ∨ n = 1 ∨ n = 2 ∨ n = 3 ∨ n = 4 ∨ n = 5 ∨ n = 6 ∨ n = 7 ∨ n = 8 ∨ n = 9 ∨ n = 10) with rfl | rfl | rfl | rfl | rfl | rfl | rfl | rfl | rfl | rfl | rfl <;> clear h <;> revert s z k p v c <;> decide
theorem S.dep_3 (n : Nat) (s z k p v c : Bool) (h : n < 11) : (S.cnd n s z k p v c == S.cnd n (!s) (z) (k) (p) (v) (c)) = !((3 : Int) == ((n / 2 : Nat) : Int)) := by
  rcases (by omega : n = 0 ∨ n = 1 ∨ n = 2 ∨ n = 3 ∨ n = 4 ∨ n = 5 ∨ n = 6 ∨ n = 7 ∨ n = 8 ∨ n = 9 ∨ n = 10) with rfl | rfl | rfl | rfl | rfl | rfl | rfl | rfl | rfl | rfl | rfl <;> clear h <;> revert s z k p v c <;> decide
theorem S.dep_4 (n : Nat) (s z k p v c : Bool) (h : n < 11) : (S.cnd n s z k p v c == S.cnd n (s) (z) (!k) (p) (v) (c)) = !((4 : Int) == ((n / 2 : Nat) : Int)) := by
  rcases (by omega : n = 0 ∨ n = 1 ∨ n = 2 ∨ n = 3 ∨ n = 4 ∨ n = 5 ∨ n = 6 ∨ n = 7 ∨ n = 8 ∨ n = 9 ∨ n = 10) with rfl | rfl | rfl | rfl | rfl | rfl | rfl | rfl | rfl | rfl | rfl <;> clear h <;> revert s z k p v c <;> decide
theorem S.dep_5 (n : Nat) (s z k p v c : Bool) (h : n < 11) : (S.cnd n s z k p v c == S.cnd n (s) (z) (k) (p) (!v) (c)) = !((5 : Int) == ((n / 2 : Nat) : Int)) := by
  rcases (by omega : n = 0 ∨ n = 1 ∨ n = 2 ∨ n = 3 ∨ n = 4 ∨ n = 5 ∨ n = 6 ∨ n = 7 ∨ n = 8 ∨ n = 9 ∨ n = 10) with rfl | rfl | rfl | rfl | rfl | rfl | rfl | rfl | rfl | rfl | rfl <;> clear h <;> revert s z k p v c <;> decide
theorem S.dep_6 (n : Nat) (s z k p v c : Bool) (h : n < 11) : (S.cnd n s z k p v c == S.cnd n (s) (z) (k) (p) (v) (c)) = !((6 : Int) == ((n / 2 : Nat) : Int)) := by
  rcases (by omega : n = 0 ∨ n = 1 ∨ n = 2 ∨ n = 3 ∨ n = 4 ∨ n = 5 ∨ n = 6 ∨ n = 7 ∨ n = 8 ∨ n = 9 ∨ n = 10) with rfl | rfl | rfl | rfl | rfl | rfl | rfl | rfl | rfl | rfl | rfl <;> clear h <;> revert s z k p v c <;> decide
end Go.Proofs.Ytodghchpoomaaaa
