/- Plain functions of chapter 21: the rank of a line, the first line of a set, the line that is served. No condition. -/
import Derived.Test.YtionembpmfahlaaS1
import Derived.Laws.Bits128
import Derived.Lib.BitFns
namespace Go.Proofs.Ytionembpmfahlaa.S
open Go.ChangeShapes Go.WideShapes Go.ChangeAt Go.RowKit
set_option linter.unusedVariables false
/-- The rank of line l if n is the lowest. -/
def rk (l n : Int) : Int := (l - n - 1) % 8
/-- Is bit i of a set on? -/
def onB (s i : Int) : Bool := decide (s / 2 ^ i.toNat % 2 = 1)
/-- The first of the last k lines of the order that begins with line f whose bit is on, or -1. -/
def fst (s f : Int) : Nat → Int
  | 0 => -1
  | k + 1 => if onB s ((f + 7 - k) % 8) then (f + 7 - k) % 8 else fst s f k
/-- The line with the least rank in a set, or -1. -/
def hi (s n : Int) : Int := fst s ((n + 1) % 8) 8
/-- The same, line by line upwards: after the lines below k. -/
def bst (s n : Int) : Nat → Int
  | 0 => -1
  | k + 1 => if onB s k = true ∧ (bst s n k < 0 ∨ rk k n < rk (bst s n k) n) then k else bst s n k
/-- A set turned to the right by f. -/
def rot (s : Int) (f : Nat) : Int := (s / 2 ^ f + s * 2 ^ (8 - f)) % 256
/-- Which lines in service block? -/
def blk (m s : Int) (sp : Bool) : Int := if sp then bits .andNot .u8 s m else s
/-- The line that is served: q is requested, b blocks. -/
def pk (q b n : Int) : Int := if 0 ≤ hi q n ∧ (hi b n < 0 ∨ rk (hi q n) n < rk (hi b n) n) then hi q n else -1
theorem pr_and7 (n : Int) : bits .and .i64 n 7 = n % 8 := by
  have h7 : (BitVec.ofInt 64 7).toNat = 2 ^ 3 - 1 := by decide
  have key : (BitVec.ofInt 64 n &&& BitVec.ofInt 64 7).toNat = (n % ((2 ^ 64 : Nat) : Int)).toNat % 2 ^ 3 := by
    rw [BitVec.toNat_and, BitVec.toNat_ofInt, h7, Nat.and_two_pow_sub_one_eq_mod]
  show IntKind.i64.wrap ((BitVec.ofInt 64 n &&& BitVec.ofInt 64 7).toNat : Nat) = n % 8
  rw [key, IntKind.wrap_i64]
  omega
theorem rk_bd (l n : Int) : 0 ≤ rk l n ∧ rk l n < 8 := by unfold rk; omega
theorem rk_inj {a b n : Int} (a0 : 0 ≤ a) (a1 : a < 8) (b0 : 0 ≤ b) (b1 : b < 8) (h : rk a n = rk b n) : a = b := by unfold rk at h; omega
theorem fst_spec (s f : Int) : ∀ k : Nat, (fst s f k = -1 ∧ ∀ j : Nat, j < k → onB s ((f + 7 - j) % 8) = false) ∨
    ∃ j : Nat, j < k ∧ fst s f k = (f + 7 - j) % 8 ∧ onB s ((f + 7 - j) % 8) = true ∧ ∀ i : Nat, j < i → i < k → onB s ((f + 7 - i) % 8) = false
  | 0 => .inl ⟨rfl, fun j hj => by omega⟩
  | k + 1 => by
    cases ho : onB s ((f + 7 - k) % 8) with
    | true => exact .inr ⟨k, by omega, by simp [fst, ho], ho, fun i h1 h2 => by omega⟩
    | false =>
      have e : fst s f (k + 1) = fst s f k := by simp [fst, ho]
      rw [e]
      rcases fst_spec s f k with ⟨h1, h2⟩ | ⟨j, h1, h2, h3, h4⟩
      · refine .inl ⟨h1, fun j hj => ?_⟩
        by_cases hk : j = k
        · subst hk; exact ho
        · exact h2 j (by omega)
      · refine .inr ⟨j, by omega, h2, h3, fun i hi hik => ?_⟩
        by_cases hk : i = k
        · subst hk; exact ho
        · exact h4 i hi (by omega)
/-- Either no line is on, or the first line is on and none before it is. -/
theorem hi_spec (s n : Int) : (hi s n = -1 ∧ ∀ i : Int, 0 ≤ i → i < 8 → onB s i = false) ∨
    (0 ≤ hi s n ∧ hi s n < 8 ∧ onB s (hi s n) = true ∧ ∀ i : Int, 0 ≤ i → i < 8 → onB s i = true → rk (hi s n) n ≤ rk i n) := by
  have key : ∀ i : Int, 0 ≤ i → i < 8 → ((n + 1) % 8 + 7 - ((7 - (rk i n).toNat : Nat) : Int)) % 8 = i := by
    intro i h0 h1
    have hb := rk_bd i n
    unfold rk at hb ⊢
    omega
  rcases fst_spec s ((n + 1) % 8) 8 with ⟨h1, h2⟩ | ⟨j, h1, h2, h3, h4⟩
  · refine .inl ⟨h1, fun i i0 i1 => ?_⟩
    rw [← key i i0 i1]
    exact h2 _ (by omega)
  · refine .inr ⟨?_, ?_, ?_, fun i i0 i1 ho => ?_⟩
    · unfold hi; rw [h2]; omega
    · unfold hi; rw [h2]; omega
    · unfold hi; rw [h2]; exact h3
    · unfold hi; rw [h2]
      have hb := rk_bd i n
      rw [← key i i0 i1] at ho
      by_cases hj : j < 7 - (rk i n).toNat
      · rw [h4 _ hj (by omega)] at ho; cases ho
      · have e : rk (((n + 1) % 8 + 7 - (j : Int)) % 8) n = 7 - j := by unfold rk; omega
        rw [e]; omega
theorem hi_bd (s n : Int) : -1 ≤ hi s n ∧ hi s n < 8 := by
  rcases hi_spec s n with ⟨h, _⟩ | ⟨h1, h2, _⟩ <;> omega
theorem bst_spec (s n : Int) : ∀ k : Nat, (bst s n k = -1 ∧ ∀ i : Int, 0 ≤ i → i < k → onB s i = false) ∨
    (0 ≤ bst s n k ∧ bst s n k < k ∧ onB s (bst s n k) = true ∧ ∀ i : Int, 0 ≤ i → i < k → onB s i = true → rk (bst s n k) n ≤ rk i n)
  | 0 => .inl ⟨rfl, fun i h0 h1 => by omega⟩
  | k + 1 => by
    have hb := bst_spec s n k
    by_cases h : onB s k = true ∧ (bst s n k < 0 ∨ rk k n < rk (bst s n k) n)
    · have e : bst s n (k + 1) = k := by simp only [bst]; rw [if_pos h]
      rw [e]
      refine .inr ⟨by omega, by omega, h.1, fun i i0 i1 ho => ?_⟩
      by_cases hk : i = k
      · subst hk; exact Int.le_refl _
      · rcases hb with ⟨h1, h2⟩ | ⟨h1, h2, h3, h4⟩
        · rw [h2 i i0 (by omega)] at ho; cases ho
        · have := h4 i i0 (by omega) ho
          rcases h.2 with h5 | h5 <;> omega
    · have e : bst s n (k + 1) = bst s n k := by simp only [bst]; rw [if_neg h]
      rw [e]
      rcases hb with ⟨h1, h2⟩ | ⟨h1, h2, h3, h4⟩
      · refine .inl ⟨h1, fun i i0 i1 => ?_⟩
        by_cases hk : i = k
        · subst hk
          cases ho : onB s k with
          | false => rfl
          | true => exact absurd ⟨ho, .inl (by omega)⟩ h
        · exact h2 i i0 (by omega)
      · refine .inr ⟨h1, by omega, h3, fun i i0 i1 ho => ?_⟩
        by_cases hk : i = k
        · subst hk
          have : ¬ rk k n < rk (bst s n k) n := fun hl => h ⟨ho, .inr hl⟩
          omega
        · exact h4 i i0 (by omega) ho
theorem bst_hi (s n : Int) : bst s n 8 = hi s n := by
  rcases bst_spec s n 8 with ⟨h1, h2⟩ | ⟨h1, h2, h3, h4⟩ <;> rcases hi_spec s n with ⟨k1, k2⟩ | ⟨k1, k2, k3, k4⟩
  · omega
  · rw [h2 _ k1 (by omega)] at k3; cases k3
  · rw [k2 _ h1 (by omega)] at h3; cases h3
  · refine rk_inj (n := n) h1 (by omega) k1 k2 ?_
    have a := h4 _ k1 (by omega) k3
    have b := k4 _ h1 (by omega) h3
    omega
theorem bst_bd (s n : Int) (k : Nat) (hk : k ≤ 8) : -1 ≤ bst s n k ∧ bst s n k < 8 := by
  rcases bst_spec s n k with ⟨h, _⟩ | ⟨h1, h2, _⟩ <;> omega
theorem bst_on {s n : Int} {k : Nat} (h : onB s k = true ∧ (bst s n k < 0 ∨ rk k n < rk (bst s n k) n)) : bst s n (k + 1) = k := by simp only [bst]; rw [if_pos h]
theorem bst_off {s n : Int} {k : Nat} (h : ¬(onB s k = true ∧ (bst s n k < 0 ∨ rk k n < rk (bst s n k) n))) : bst s n (k + 1) = bst s n k := by simp only [bst]; rw [if_neg h]
theorem hi_zero (n : Int) : hi 0 n = -1 := by
  rcases hi_spec 0 n with ⟨h, _⟩ | ⟨_, _, h3, _⟩
  · exact h
  · simp [onB] at h3
theorem some_fin : ∀ s : Fin 256, s.val ≠ 0 → ∃ i : Fin 8, onB (s.val : Int) (i.val : Int) = true := by decide +kernel
theorem hi_pos (s n : Int) (s0 : 0 ≤ s) (s1 : s < 256) (h : s ≠ 0) : 0 ≤ hi s n := by
  obtain ⟨i, hi'⟩ := some_fin ⟨s.toNat, by omega⟩ (by simp; omega)
  simp only [Int.toNat_of_nonneg s0] at hi'
  rcases hi_spec s n with ⟨_, h2⟩ | ⟨h1, _⟩
  · rw [h2 _ (by omega) (by omega)] at hi'; cases hi'
  · exact h1
theorem onB_nat (a : Nat) (i : Int) : onB (a : Int) i = a.testBit i.toNat := by
  unfold onB
  rw [Nat.testBit_eq_decide_div_mod_eq]
  refine dec_iff ?_
  have e : ((a : Int) / 2 ^ i.toNat % 2) = ((a / 2 ^ i.toNat % 2 : Nat) : Int) := by simp
  rw [e]; omega
theorem onB_andNot (a b i : Int) (a0 : 0 ≤ a) (a1 : a < 256) (b0 : 0 ≤ b) (b1 : b < 256) (i1 : i < 8) : onB (bits .andNot .u8 a b) i = (onB a i && !onB b i) := by
  obtain ⟨x, rfl⟩ := Int.eq_ofNat_of_zero_le a0
  obtain ⟨y, rfl⟩ := Int.eq_ofNat_of_zero_le b0
  rw [u8_andNot_nat x y (by omega) (by omega), onB_nat, onB_nat, onB_nat, Nat.testBit_and]
  have e : 255 - y = 2 ^ 8 - (y + 1) := by omega
  rw [e, Nat.testBit_two_pow_sub_succ (by omega)]
  have : i.toNat < 8 := by omega
  simp [this]
theorem onB_or (a b i : Int) (a0 : 0 ≤ a) (a1 : a < 256) (b0 : 0 ≤ b) (b1 : b < 256) : onB (bits .or .u8 a b) i = (onB a i || onB b i) := by
  obtain ⟨x, rfl⟩ := Int.eq_ofNat_of_zero_le a0
  obtain ⟨y, rfl⟩ := Int.eq_ofNat_of_zero_le b0
  rw [u8_or_nat x y (by omega) (by omega), onB_nat, onB_nat, onB_nat, Nat.testBit_or]
theorem pr_u8_bd (n : Int) : 0 ≤ IntKind.u8.wrap n ∧ IntKind.u8.wrap n < 256 := by simp [IntKind.wrap, IntKind.bits, IntKind.signed]; omega
theorem andNot_bd (a b : Int) : 0 ≤ bits .andNot .u8 a b ∧ bits .andNot .u8 a b < 256 := pr_u8_bd _
theorem pr_and_bd (a b : Int) : 0 ≤ bits .and .u8 a b ∧ bits .and .u8 a b < 256 := pr_u8_bd _
theorem pr_or_bd (a b : Int) : 0 ≤ bits .or .u8 a b ∧ bits .or .u8 a b < 256 := pr_u8_bd _
theorem blk_bd (m s : Int) (sp : Bool) (s0 : 0 ≤ s) (s1 : s < 256) : 0 ≤ blk m s sp ∧ blk m s sp < 256 := by
  cases sp
  · exact ⟨s0, s1⟩
  · exact andNot_bd _ _
theorem rot_bd (s : Int) (f : Nat) : 0 ≤ rot s f ∧ rot s f < 256 := by unfold rot; omega
theorem rot_fin : ∀ x : Fin 256, ∀ f : Fin 8, bits .or .u8 ((x.val : Int) * 2 ^ (8 - f.val) % 256) ((x.val : Int) / 2 ^ f.val) = rot (x.val : Int) f.val := by decide +kernel
theorem rot0_fin : ∀ x : Fin 256, bits .or .u8 (x.val : Int) ((x.val : Int) / 256) = rot (x.val : Int) 0 := by decide +kernel
/-- What the bytes' rotation and its zeros say, for each set and each first line. -/
theorem hi_rot_fin : ∀ s : Fin 256, ∀ f : Fin 8, s.val ≠ 0 → ((f.val : Int) + (Lib.trailingZeros8 (rot (s.val : Int) f.val).toNat : Int)) % 8 = fst (s.val : Int) (f.val : Int) 8 := by decide +kernel
theorem hi_rot (s n : Int) (f : Nat) (s0 : 0 ≤ s) (s1 : s < 256) (hs : ¬s = 0) (hf : f < 8) (h : (n + 1) % 8 = f) : ((f : Int) + (Lib.trailingZeros8 (rot s f).toNat : Int)) % 8 = hi s n := by
  have := hi_rot_fin ⟨s.toNat, by omega⟩ ⟨f, hf⟩ (by simp; omega)
  simp only [Int.toNat_of_nonneg s0] at this
  unfold hi
  rw [h, this]
theorem pk_spec (q b n : Int) :
    (pk q b n = -1 ∧ (hi q n = -1 ∨ (0 ≤ hi q n ∧ ∃ i : Int, 0 ≤ i ∧ i < 8 ∧ onB b i = true ∧ rk i n ≤ rk (hi q n) n))) ∨
    (0 ≤ pk q b n ∧ pk q b n < 8 ∧ onB q (pk q b n) = true ∧ (∀ i : Int, 0 ≤ i → i < 8 → onB q i = true → rk (pk q b n) n ≤ rk i n) ∧ ∀ i : Int, 0 ≤ i → i < 8 → onB b i = true → rk (pk q b n) n < rk i n) := by
  by_cases h : 0 ≤ hi q n ∧ (hi b n < 0 ∨ rk (hi q n) n < rk (hi b n) n)
  · have e : pk q b n = hi q n := by unfold pk; rw [if_pos h]
    rw [e]
    rcases hi_spec q n with ⟨h1, h2⟩ | ⟨h1, h2, h3, h4⟩
    · omega
    · refine .inr ⟨h1, h2, h3, h4, fun i i0 i1 ho => ?_⟩
      rcases hi_spec b n with ⟨k1, k2⟩ | ⟨k1, k2, k3, k4⟩
      · rw [k2 i i0 i1] at ho; cases ho
      · have := k4 i i0 i1 ho
        rcases h.2 with h5 | h5 <;> omega
  · have e : pk q b n = -1 := by unfold pk; rw [if_neg h]
    refine .inl ⟨e, ?_⟩
    rcases hi_spec q n with ⟨h1, h2⟩ | ⟨h1, h2, h3, h4⟩
    · exact .inl h1
    · refine .inr ⟨h1, ?_⟩
      rcases hi_spec b n with ⟨k1, k2⟩ | ⟨k1, k2, k3, k4⟩
      · exact absurd ⟨h1, .inl (by omega)⟩ h
      · refine ⟨hi b n, k1, k2, k3, ?_⟩
        have : ¬ rk (hi q n) n < rk (hi b n) n := fun hl => h ⟨h1, .inr hl⟩
        omega
/-- More requests: the line that is served has no greater rank. -/
theorem pk_grows (q r b n : Int) (hq : ∀ i : Int, 0 ≤ i → i < 8 → onB q i = true → onB r i = true) (h : 0 ≤ pk q b n) : 0 ≤ pk r b n ∧ pk r b n < 8 ∧ rk (pk r b n) n ≤ rk (pk q b n) n := by
  rcases pk_spec q b n with ⟨h1, _⟩ | ⟨h1, h2, h3, h4, h5⟩
  · omega
  · have hr := hq _ h1 h2 h3
    rcases pk_spec r b n with ⟨k1, k2⟩ | ⟨k1, k2, k3, k4, k5⟩
    · rcases hi_spec r n with ⟨l1, l2⟩ | ⟨l1, l2, l3, l4⟩
      · rw [l2 _ h1 h2] at hr; cases hr
      · rcases k2 with k2 | ⟨_, i, i0, i1, ho, hl⟩
        · omega
        · have a := h5 i i0 i1 ho
          have c := l4 _ h1 h2 hr
          omega
    · exact ⟨k1, k2, k4 _ h1 h2 hr⟩
theorem on_val (s i : Int) (s0 : 0 ≤ s) (s1 : s < 256) : bits .and .u8 (s / 2 ^ i.toNat) 1 = s / 2 ^ i.toNat % 2 := by
  have h : (0 : Int) < 2 ^ i.toNat := Int.pow_pos (by decide)
  have h0 : 0 ≤ s / 2 ^ i.toNat := Int.ediv_nonneg s0 (Int.le_of_lt h)
  have h1 : s / 2 ^ i.toNat ≤ s := Int.ediv_le_self _ s0
  exact and1 _ h0 (by omega)
theorem on_one {s i : Int} (s0 : 0 ≤ s) (s1 : s < 256) (h : onB s i = true) : bits .and .u8 (s / 2 ^ i.toNat) 1 = 1 := by
  rw [on_val s i s0 s1]
  simpa [onB] using h
theorem on_no {s i : Int} (s0 : 0 ≤ s) (s1 : s < 256) (h : onB s i = false) : bits .and .u8 (s / 2 ^ i.toNat) 1 = 0 := by
  rw [on_val s i s0 s1]
  have h' : ¬ s / 2 ^ i.toNat % 2 = 1 := by simpa [onB] using h
  omega
theorem onB_blk (m s : Int) (sp : Bool) (i : Int) (m0 : 0 ≤ m) (m1 : m < 256) (s0 : 0 ≤ s) (s1 : s < 256) (i1 : i < 8) : onB (blk m s sp) i = (onB s i && !(sp && onB m i)) := by
  cases sp
  · simp [blk]
  · simp only [blk, if_true, Bool.true_and]
    exact onB_andNot s m i s0 s1 m0 m1 i1
end Go.Proofs.Ytionembpmfahlaa.S
