/- Plain functions for the document's chapter 8: registers and pairs. No condition. -/
import Derived.Test.YtkoonimngcpdjaaS2
namespace Go.Proofs.Ytkoonimngcpdjaa.S
open Go.ChangeShapes Go.WideShapes Go.ChangeAt Go.RowKit
set_option linter.unusedVariables false
theorem ones_and (n m : Int) (j : Nat) (hm : (BitVec.ofInt 64 m).toNat = 2 ^ j - 1) (hj : j ≤ 60) : bits .and .i64 n m = n % ((2 ^ j : Nat) : Int) := by
  have hp : (2 ^ j : Nat) ∣ 2 ^ 64 := Nat.pow_dvd_pow 2 (by omega)
  have hl : (2 ^ j : Nat) ≤ 2 ^ 60 := Nat.pow_le_pow_right (by decide) hj
  have h0 : 0 < (2 ^ j : Nat) := Nat.pow_pos (by decide)
  have e : (BitVec.ofInt 64 n &&& BitVec.ofInt 64 m).toNat = (n % ((2 ^ 64 : Nat) : Int)).toNat % 2 ^ j := by
    rw [BitVec.toNat_and, BitVec.toNat_ofInt, hm, Nat.and_two_pow_sub_one_eq_mod]
  have e2 : (((n % ((2 ^ 64 : Nat) : Int)).toNat % 2 ^ j : Nat) : Int) = n % ((2 ^ j : Nat) : Int) := by
    rw [Int.natCast_emod, Int.toNat_of_nonneg (Int.emod_nonneg _ (by decide)), Int.emod_emod_of_dvd _ (Int.natCast_dvd_natCast.2 hp)]
  show IntKind.i64.wrap ((BitVec.ofInt 64 n &&& BitVec.ofInt 64 m).toNat : Nat) = _
  rw [e, e2]
  have l0 : 0 ≤ n % ((2 ^ j : Nat) : Int) := Int.emod_nonneg _ (by omega)
  have l1 : n % ((2 ^ j : Nat) : Int) < ((2 ^ j : Nat) : Int) := Int.emod_lt_of_pos _ (by omega)
  exact IntWalk.i64_in _ (by omega)
theorem and7 (n : Int) : bits .and .i64 n 7 = n % 8 := ones_and n 7 3 (by decide) (by decide)
theorem and3 (n : Int) : bits .and .i64 n 3 = n % 4 := ones_and n 3 2 (by decide) (by decide)
/-- Register n. -/
def rg (n a b c d e h l : Int) : Int :=
  if n % 8 = 0 then b else if n % 8 = 1 then c else if n % 8 = 2 then d else if n % 8 = 3 then e else if n % 8 = 4 then h else if n % 8 = 5 then l else if n % 8 = 6 then 0 else a
/-- Register i behind Set of register n. -/
def st (i n v x : Int) : Int := if n % 8 = i then v else x
/-- A part of pair i behind SetPair of pair n. -/
def sq (i n v x : Int) : Int := if n % 4 = i then v else x
/-- Pair n. -/
def pr (n b c d e h l sp : Int) : Int :=
  if n % 4 = 0 then joi b c else if n % 4 = 1 then joi d e else if n % 4 = 2 then joi h l else sp
theorem st_of {n j : Int} (h : n % 8 = j) (i v x : Int) : st i n v x = if j = i then v else x := by unfold st; rw [h]
theorem sq_of {n j : Int} (h : n % 4 = j) (i v x : Int) : sq i n v x = if j = i then v else x := by unfold sq; rw [h]
theorem st_at (i v x : Int) (n : Int) (h : n % 8 = i) : st i n v x = v := by unfold st; rw [if_pos h]
theorem st_no (i v x : Int) (n : Int) (h : ¬n % 8 = i) : st i n v x = x := by unfold st; rw [if_neg h]
theorem sq_at (i v x : Int) (n : Int) (h : n % 4 = i) : sq i n v x = v := by unfold sq; rw [if_pos h]
theorem sq_no (i v x : Int) (n : Int) (h : ¬n % 4 = i) : sq i n v x = x := by unfold sq; rw [if_neg h]
theorem rg_0 {n : Int} (k : n % 8 = 0) (a b c d e h l : Int) : rg n a b c d e h l = b := by
  unfold rg; rw [k]; rfl
theorem rg_1 {n : Int} (k : n % 8 = 1) (a b c d e h l : Int) : rg n a b c d e h l = c := by
  unfold rg; rw [k]; rfl
theorem rg_2 {n : Int} (k : n % 8 = 2) (a b c d e h l : Int) : rg n a b c d e h l = d := by
  unfold rg; rw [k]; rfl
theorem rg_3 {n : Int} (k : n % 8 = 3) (a b c d e h l : Int) : rg n a b c d e h l = e := by
  unfold rg; rw [k]; rfl
theorem rg_4 {n : Int} (k : n % 8 = 4) (a b c d e h l : Int) : rg n a b c d e h l = h := by
  unfold rg; rw [k]; rfl
theorem rg_5 {n : Int} (k : n % 8 = 5) (a b c d e h l : Int) : rg n a b c d e h l = l := by
  unfold rg; rw [k]; rfl
theorem rg_6 {n : Int} (k : n % 8 = 6) (a b c d e h l : Int) : rg n a b c d e h l = 0 := by
  unfold rg; rw [k]; rfl
theorem rg_7 {n : Int} (k : n % 8 = 7) (a b c d e h l : Int) : rg n a b c d e h l = a := by
  unfold rg; rw [k]; rfl
theorem pr_0 {n : Int} (k : n % 4 = 0) (b c d e h l sp : Int) : pr n b c d e h l sp = joi b c := by
  unfold pr; rw [k]; rfl
theorem pr_1 {n : Int} (k : n % 4 = 1) (b c d e h l sp : Int) : pr n b c d e h l sp = joi d e := by
  unfold pr; rw [k]; rfl
theorem pr_2 {n : Int} (k : n % 4 = 2) (b c d e h l sp : Int) : pr n b c d e h l sp = joi h l := by
  unfold pr; rw [k]; rfl
theorem pr_3 {n : Int} (k : n % 4 = 3) (b c d e h l sp : Int) : pr n b c d e h l sp = sp := by
  unfold pr; rw [k]; rfl
/-- The pair of SetPair's two steps is the registers' own. -/
theorem twice (j : Int) (h0 : 0 ≤ j) (h1 : j < 3) (n : Int) (k : n % 4 = j) (i x v u : Int) (i0 : 0 ≤ i) (i1 : i < 8) : st i (2 * j + 1) u (st i (2 * j) v x) = if i = 2 * j then v else if i = 2 * j + 1 then u else x := by
  unfold st
  have e0 : 2 * j % 8 = 2 * j := by omega
  have e1 : (2 * j + 1) % 8 = 2 * j + 1 := by omega
  rw [e0, e1]
  by_cases p : i = 2 * j
  · subst p; rw [if_neg (by omega), if_pos rfl, if_pos rfl]
  · by_cases q : i = 2 * j + 1
    · subst q; rw [if_pos rfl, if_neg (by omega), if_pos rfl]
    · rw [if_neg (by omega), if_neg (by omega), if_neg p, if_neg q]
theorem rg_set (n v a b c d e h l : Int) (n0 : 0 ≤ n) (n1 : n < 8) (n6 : ¬n = 6) : rg n (st 7 n v a) (st 0 n v b) (st 1 n v c) (st 2 n v d) (st 3 n v e) (st 4 n v h) (st 5 n v l) = v := by
  rcases (by omega : n = 0 ∨ n = 1 ∨ n = 2 ∨ n = 3 ∨ n = 4 ∨ n = 5 ∨ n = 7) with rfl | rfl | rfl | rfl | rfl | rfl | rfl <;> rfl
theorem rg_other (n k v a b c d e h l : Int) (n0 : 0 ≤ n) (n1 : n < 8) (k0 : 0 ≤ k) (k1 : k < 8) (hk : ¬k = n) : rg k (st 7 n v a) (st 0 n v b) (st 1 n v c) (st 2 n v d) (st 3 n v e) (st 4 n v h) (st 5 n v l) = rg k a b c d e h l := by
  have hn : n % 8 = n := by omega
  rcases (by omega : k = 0 ∨ k = 1 ∨ k = 2 ∨ k = 3 ∨ k = 4 ∨ k = 5 ∨ k = 6 ∨ k = 7) with rfl | rfl | rfl | rfl | rfl | rfl | rfl | rfl <;> simp only [rg, Int.reduceMod, Int.reduceEq, if_true, if_false] <;> first | rfl | exact st_no _ _ _ _ (by omega)
theorem pr_set (n w b c d e h l sp : Int) (n0 : 0 ≤ n) (n1 : n < 4) (w0 : 0 ≤ w) (w1 : w < 65536) : pr n (sq 0 n (w / 256) b) (sq 0 n (w % 256) c) (sq 1 n (w / 256) d) (sq 1 n (w % 256) e) (sq 2 n (w / 256) h) (sq 2 n (w % 256) l) (sq 3 n w sp) = w := by
  have e : joi (w / 256) (w % 256) = w := by rw [joi_eq _ _ (by omega) (by omega) (by omega) (by omega)]; omega
  rcases (by omega : n = 0 ∨ n = 1 ∨ n = 2 ∨ n = 3) with rfl | rfl | rfl | rfl <;> simp [pr, sq, e]
theorem pr_other (n k w b c d e h l sp : Int) (n0 : 0 ≤ n) (n1 : n < 4) (k0 : 0 ≤ k) (k1 : k < 4) (hk : ¬k = n) : pr k (sq 0 n (w / 256) b) (sq 0 n (w % 256) c) (sq 1 n (w / 256) d) (sq 1 n (w % 256) e) (sq 2 n (w / 256) h) (sq 2 n (w % 256) l) (sq 3 n w sp) = pr k b c d e h l sp := by
  have hn : n % 4 = n := by omega
  rcases (by omega : k = 0 ∨ k = 1 ∨ k = 2 ∨ k = 3) with rfl | rfl | rfl | rfl <;> simp only [pr, Int.reduceMod, Int.reduceEq, if_true, if_false]
  · rw [sq_no _ _ _ _ (by omega), sq_no _ _ _ _ (by omega)]
  · rw [sq_no _ _ _ _ (by omega), sq_no _ _ _ _ (by omega)]
  · rw [sq_no _ _ _ _ (by omega), sq_no _ _ _ _ (by omega)]
  · rw [sq_no _ _ _ _ (by omega)]
theorem rg_pair (n w a b c d e h l : Int) (n0 : 0 ≤ n) (n1 : n < 3) : rg (2 * n) a (sq 0 n (w / 256) b) (sq 0 n (w % 256) c) (sq 1 n (w / 256) d) (sq 1 n (w % 256) e) (sq 2 n (w / 256) h) (sq 2 n (w % 256) l) = w / 256 ∧
    rg (2 * n + 1) a (sq 0 n (w / 256) b) (sq 0 n (w % 256) c) (sq 1 n (w / 256) d) (sq 1 n (w % 256) e) (sq 2 n (w / 256) h) (sq 2 n (w % 256) l) = w % 256 := by
  rcases (by omega : n = 0 ∨ n = 1 ∨ n = 2) with rfl | rfl | rfl <;> exact ⟨rfl, rfl⟩
end Go.Proofs.Ytkoonimngcpdjaa.S
