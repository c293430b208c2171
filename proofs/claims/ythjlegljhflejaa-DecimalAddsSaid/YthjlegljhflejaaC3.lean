/- Contracts of package alu and of the reference's chapter 3: each returns the plain functions' values and leaves what was there alone. Conditions: bytes are from 0 to 255. -/
import Derived.Test.YthjlegljhflejaaC2
import Derived.Test.YthjlegljhflejaaS3
import Derived.RegionTactic
namespace Go.Proofs.Ythjlegljhflejaa
open Go.ChangeShapes Go.WideShapes Go.ChangeAt Go.RowKit
set_option linter.unusedVariables false
theorem sign_any (a : Int) (w : World) : Calls Try.prog 26 #[.int .u8 a] w fun e w' => e = .returned (.bool (S.big a)) ∧ w = w' := by
  go_enter Try.func26, Try.ntmps26
  go_wp2
  go_ret
  exact ⟨rfl, rfl⟩
theorem subtracts_any (k : Int) (r : Bool) (k0 : 0 ≤ k) (k1 : k < 8) (h : S.sub k = r) (w : World) : Calls Try.prog 27 #[.int .i64 k] w fun e w' => e = .returned (.bool r) ∧ w = w' := by
  subst h
  rcases (by omega : k = 0 ∨ k = 1 ∨ k = 2 ∨ k = 3 ∨ k = 4 ∨ k = 5 ∨ k = 6 ∨ k = 7) with rfl | rfl | rfl | rfl | rfl | rfl | rfl | rfl
  all_goals
    go_enter Try.func27, Try.ntmps27
    go_wp2
    go_ret
    exact ⟨rfl, rfl⟩
theorem sumc_any (a b : Int) (c : Bool) (q : Addr) (a0 : 0 ≤ a) (a1 : a < 256) (b0 : 0 ≤ b) (b1 : b < 256) (w : World) (hq : w.cell? q = some (.bool c)) :
    Calls Try.prog 44 #[.int .u8 a, .int .u8 b, .pointer (some q)] w fun e w' => e = .returned (.tuple #[.int .u8 (S.sumR a b c), .bool (S.sumO a b c), .bool (S.sumH a b c), .bool (S.sumV a b c)]) ∧ w = w' := by
  go_enter Try.func44, Try.ntmps44
  go_wp2_with (first | (go_at_call 16; refine (sum_any _ _ _ a0 a1 b0 b1 _).mono ?_; rintro e w' ⟨rfl, rfl⟩))
  exact bodyPost_ret (v := .tuple #[.int .u8 (S.sumR a b c), .bool (S.sumO a b c), .bool (S.sumH a b c), .bool (S.sumV a b c)]) (by simp [results, Try.results44, go_sem]) rfl ⟨rfl, rfl⟩
theorem difc_any (a b : Int) (c : Bool) (q : Addr) (a0 : 0 ≤ a) (a1 : a < 256) (b0 : 0 ≤ b) (b1 : b < 256) (w : World) (hq : w.cell? q = some (.bool c)) :
    Calls Try.prog 45 #[.int .u8 a, .int .u8 b, .pointer (some q)] w fun e w' => e = .returned (.tuple #[.int .u8 (S.difR a b c), .bool (S.difO a b c), .bool (S.difH a b c), .bool (S.difV a b c)]) ∧ w = w' := by
  go_enter Try.func45, Try.ntmps45
  go_wp2_with (first | (go_at_call 46; refine (dif_any _ _ _ a0 a1 b0 b1 _).mono ?_; rintro e w' ⟨rfl, rfl⟩))
  exact bodyPost_ret (v := .tuple #[.int .u8 (S.difR a b c), .bool (S.difO a b c), .bool (S.difH a b c), .bool (S.difV a b c)]) (by simp [results, Try.results45, go_sem]) rfl ⟨rfl, rfl⟩
theorem andc_85 (a b : Int) (q : Addr) (w : World) (hq : w.cell? q = some (.int .i64 2)) :
    Calls Try.prog 47 #[.int .u8 a, .int .u8 b, .pointer (some q)] w fun e w' => e = .returned (.tuple #[.int .u8 (bits .and .u8 a b), .bool false, .bool true, .bool false]) ∧ w = w' := by
  go_enter Try.func47, Try.ntmps47
  go_wp2
  exact bodyPost_ret (v := .tuple #[.int .u8 (bits .and .u8 a b), .bool false, .bool true, .bool false]) (by simp [results, Try.results47, go_sem]) rfl ⟨rfl, rfl⟩
theorem andc_80 (a b c : Int) (hc : ¬c = 2) (q : Addr) (w : World) (hq : w.cell? q = some (.int .i64 c)) :
    Calls Try.prog 47 #[.int .u8 a, .int .u8 b, .pointer (some q)] w fun e w' => e = .returned (.tuple #[.int .u8 (bits .and .u8 a b), .bool false, .bool (bits .and .u8 (bits .or .u8 a b) 8 != 0), .bool false]) ∧ w = w' := by
  go_enter Try.func47, Try.ntmps47
  go_wp2
  exact bodyPost_ret (v := .tuple #[.int .u8 (bits .and .u8 a b), .bool false, .bool (bits .and .u8 (bits .or .u8 a b) 8 != 0), .bool false]) (by simp [results, Try.results47, go_sem, hc]) rfl ⟨rfl, rfl⟩
theorem xorf_any (a b : Int) (w : World) : Calls Try.prog 41 #[.int .u8 a, .int .u8 b] w fun e w' => e = .returned (.int .u8 (bits .xor .u8 a b)) ∧ w = w' := by
  go_enter Try.func41, Try.ntmps41
  go_wp2
  go_ret
  exact ⟨rfl, rfl⟩
theorem orf_any (a b : Int) (w : World) : Calls Try.prog 42 #[.int .u8 a, .int .u8 b] w fun e w' => e = .returned (.int .u8 (bits .or .u8 a b)) ∧ w = w' := by
  go_enter Try.func42, Try.ntmps42
  go_wp2
  go_ret
  exact ⟨rfl, rfl⟩
theorem logc_xor (a b : Int) (q : Addr) (w : World) (hq : w.cell? q = some (.func (.func 41) #[] #[])) :
    Calls Try.prog 48 #[.int .u8 a, .int .u8 b, .pointer (some q)] w fun e w' => e = .returned (.tuple #[.int .u8 (bits .xor .u8 a b), .bool false, .bool false, .bool false]) ∧ w = w' := by
  go_enter Try.func48, Try.ntmps48
  go_wp2_with (first | (go_at_call 41; refine (xorf_any _ _ _).mono ?_; rintro e w' ⟨rfl, rfl⟩))
  exact bodyPost_ret (v := .tuple #[.int .u8 (bits .xor .u8 a b), .bool false, .bool false, .bool false]) (by simp [results, Try.results48, go_sem]) rfl ⟨rfl, rfl⟩
theorem logc_or (a b : Int) (q : Addr) (w : World) (hq : w.cell? q = some (.func (.func 42) #[] #[])) :
    Calls Try.prog 48 #[.int .u8 a, .int .u8 b, .pointer (some q)] w fun e w' => e = .returned (.tuple #[.int .u8 (bits .or .u8 a b), .bool false, .bool false, .bool false]) ∧ w = w' := by
  go_enter Try.func48, Try.ntmps48
  go_wp2_with (first | (go_at_call 42; refine (orf_any _ _ _).mono ?_; rintro e w' ⟨rfl, rfl⟩))
  exact bodyPost_ret (v := .tuple #[.int .u8 (bits .or .u8 a b), .bool false, .bool false, .bool false]) (by simp [results, Try.results48, go_sem]) rfl ⟨rfl, rfl⟩
end Go.Proofs.Ythjlegljhflejaa
