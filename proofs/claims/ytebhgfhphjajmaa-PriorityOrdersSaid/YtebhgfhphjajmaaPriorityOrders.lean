/- The statement PriorityOrdersSaid of package tstatelaw21: for every input the law returns true, and its arguments read as before. No condition. -/
import Derived.Test.YtebhgfhphjajmaaRows
import Derived.Test.YtebhgfhphjajmaaM1
import Derived.Test.YtebhgfhphjajmaaC21
import Derived.Test.YtebhgfhphjajmaaCM
import Derived.WalkKit
import Derived.ProofKit
import Derived.OpenShut
import Derived.ShutString
import Derived.ChangeOld
import Derived.Below
import Derived.Carry
namespace Go.Proofs.Ytebhgfhphjajmaa.priorityOrders
open Go.ChangeShapes Go.WideShapes Go.ChangeAt Go.RowKit
open Go.ChangeMaps (open_string shut_string)
set_option linter.unusedVariables false

theorem own : ownKnob Try.prog.godebug = none := by kernel_rfl
theorem laidOut : laidOutB Try.prog = true := by kernel_rfl

theorem rk_go (l n : Int) : S.rk l n = (l - n - 1) % 8 := rfl
/-- Which ranks have been seen, when the lines below j have been. -/
def seen (n j : Int) : Array Value := #[.bool (decide ((n + 1 + 0) % 8 < j)), .bool (decide ((n + 1 + 1) % 8 < j)), .bool (decide ((n + 1 + 2) % 8 < j)), .bool (decide ((n + 1 + 3) % 8 < j)), .bool (decide ((n + 1 + 4) % 8 < j)), .bool (decide ((n + 1 + 5) % 8 < j)), .bool (decide ((n + 1 + 6) % 8 < j)), .bool (decide ((n + 1 + 7) % 8 < j))]
set_option maxRecDepth 100000 in
set_option maxHeartbeats 4000000 in
theorem ord_0 (a0 : Int) (hk : S.plc a0 8 = 0) (w : World) : Calls Try.prog 5 #[.int .i64 a0] w fun e w' => e = .returned (.bool true) ∧ Below w.heap.size w w' := by
  go_enter Try.func5, Try.ntmps5
  go_wp2_with (first | (go_at_call 8; refine (mplace_any _ _ (by decide) (by decide) _).mono ?_; rintro e w' ⟨rfl, rfl⟩; rw [hk]))
  go_loopw [5] (fun i wr => ∃ j : Nat, j ≤ 8 ∧ i = .int .i64 j ∧ ∃ p : By, wr = More (w.alloc (.cells (seen 0 j) 30)) p.n p.os) (fun i _ => 8 - (intOf i).toNat)
  case atStart => exact ⟨0, by omega, rfl, ⟨w.drawn, #[]⟩, (More_zero _).symm⟩
  case round =>
    obtain ⟨j, hj, rfl, ⟨⟨n0, os0⟩, rfl⟩⟩ := hrel
    rcases (by omega : j = 0 ∨ j = 1 ∨ j = 2 ∨ j = 3 ∨ j = 4 ∨ j = 5 ∨ j = 6 ∨ j = 7 ∨ j = 8) with rfl | rfl | rfl | rfl | rfl | rfl | rfl | rfl | rfl
    · rw [show seen 0 ((0 : Nat) : Int) = #[.bool false, .bool false, .bool false, .bool false, .bool false, .bool false, .bool false, .bool false] from rfl]
      go_wp2_with (first | (go_at_call 9; refine (pr_rank _ _ _).mono ?_; rintro e w' ⟨rfl, rfl⟩; rw [rk_go]))
      go_roundw
      case rel => exact ⟨1, by omega, rfl, ⟨_, _⟩, rfl⟩
      case measure => simp [intOf]
    · rw [show seen 0 ((1 : Nat) : Int) = #[.bool false, .bool false, .bool false, .bool false, .bool false, .bool false, .bool false, .bool true] from rfl]
      go_wp2_with (first | (go_at_call 9; refine (pr_rank _ _ _).mono ?_; rintro e w' ⟨rfl, rfl⟩; rw [rk_go]))
      go_roundw
      case rel => exact ⟨2, by omega, rfl, ⟨_, _⟩, rfl⟩
      case measure => simp [intOf]
    · rw [show seen 0 ((2 : Nat) : Int) = #[.bool true, .bool false, .bool false, .bool false, .bool false, .bool false, .bool false, .bool true] from rfl]
      go_wp2_with (first | (go_at_call 9; refine (pr_rank _ _ _).mono ?_; rintro e w' ⟨rfl, rfl⟩; rw [rk_go]))
      go_roundw
      case rel => exact ⟨3, by omega, rfl, ⟨_, _⟩, rfl⟩
      case measure => simp [intOf]
    · rw [show seen 0 ((3 : Nat) : Int) = #[.bool true, .bool true, .bool false, .bool false, .bool false, .bool false, .bool false, .bool true] from rfl]
      go_wp2_with (first | (go_at_call 9; refine (pr_rank _ _ _).mono ?_; rintro e w' ⟨rfl, rfl⟩; rw [rk_go]))
      go_roundw
      case rel => exact ⟨4, by omega, rfl, ⟨_, _⟩, rfl⟩
      case measure => simp [intOf]
    · rw [show seen 0 ((4 : Nat) : Int) = #[.bool true, .bool true, .bool true, .bool false, .bool false, .bool false, .bool false, .bool true] from rfl]
      go_wp2_with (first | (go_at_call 9; refine (pr_rank _ _ _).mono ?_; rintro e w' ⟨rfl, rfl⟩; rw [rk_go]))
      go_roundw
      case rel => exact ⟨5, by omega, rfl, ⟨_, _⟩, rfl⟩
      case measure => simp [intOf]
    · rw [show seen 0 ((5 : Nat) : Int) = #[.bool true, .bool true, .bool true, .bool true, .bool false, .bool false, .bool false, .bool true] from rfl]
      go_wp2_with (first | (go_at_call 9; refine (pr_rank _ _ _).mono ?_; rintro e w' ⟨rfl, rfl⟩; rw [rk_go]))
      go_roundw
      case rel => exact ⟨6, by omega, rfl, ⟨_, _⟩, rfl⟩
      case measure => simp [intOf]
    · rw [show seen 0 ((6 : Nat) : Int) = #[.bool true, .bool true, .bool true, .bool true, .bool true, .bool false, .bool false, .bool true] from rfl]
      go_wp2_with (first | (go_at_call 9; refine (pr_rank _ _ _).mono ?_; rintro e w' ⟨rfl, rfl⟩; rw [rk_go]))
      go_roundw
      case rel => exact ⟨7, by omega, rfl, ⟨_, _⟩, rfl⟩
      case measure => simp [intOf]
    · rw [show seen 0 ((7 : Nat) : Int) = #[.bool true, .bool true, .bool true, .bool true, .bool true, .bool true, .bool false, .bool true] from rfl]
      go_wp2_with (first | (go_at_call 9; refine (pr_rank _ _ _).mono ?_; rintro e w' ⟨rfl, rfl⟩; rw [rk_go]))
      go_roundw
      case rel => exact ⟨8, by omega, rfl, ⟨_, _⟩, rfl⟩
      case measure => simp [intOf]
    · rw [show seen 0 ((8 : Nat) : Int) = #[.bool true, .bool true, .bool true, .bool true, .bool true, .bool true, .bool true, .bool true] from rfl]
      go_wp2_with (first | (go_at_call 9; refine (pr_rank _ _ _).mono ?_; rintro e w' ⟨rfl, rfl⟩; rw [rk_go]) | (go_at_call 13; refine (known21_any _).mono ?_; rintro e w' ⟨rfl, rfl⟩))
      go_ret
      exact ⟨rfl, Adds.below (by (repeat (first | with_reducible exact Adds.refl _ | with_reducible apply Adds.drew | with_reducible apply Adds.drewN | with_reducible apply Adds.alloc | with_reducible apply Adds.more | (with_reducible refine Adds.setCell ?_ ?_ _) | (focus (simp [go_sem]; done)) | (focus (simp [go_sem]; omega)))))⟩
set_option maxRecDepth 100000 in
set_option maxHeartbeats 4000000 in
theorem ord_1 (a0 : Int) (hk : S.plc a0 8 = 1) (w : World) : Calls Try.prog 5 #[.int .i64 a0] w fun e w' => e = .returned (.bool true) ∧ Below w.heap.size w w' := by
  go_enter Try.func5, Try.ntmps5
  go_wp2_with (first | (go_at_call 8; refine (mplace_any _ _ (by decide) (by decide) _).mono ?_; rintro e w' ⟨rfl, rfl⟩; rw [hk]))
  go_loopw [5] (fun i wr => ∃ j : Nat, j ≤ 8 ∧ i = .int .i64 j ∧ ∃ p : By, wr = More (w.alloc (.cells (seen 1 j) 30)) p.n p.os) (fun i _ => 8 - (intOf i).toNat)
  case atStart => exact ⟨0, by omega, rfl, ⟨w.drawn, #[]⟩, (More_zero _).symm⟩
  case round =>
    obtain ⟨j, hj, rfl, ⟨⟨n0, os0⟩, rfl⟩⟩ := hrel
    rcases (by omega : j = 0 ∨ j = 1 ∨ j = 2 ∨ j = 3 ∨ j = 4 ∨ j = 5 ∨ j = 6 ∨ j = 7 ∨ j = 8) with rfl | rfl | rfl | rfl | rfl | rfl | rfl | rfl | rfl
    · rw [show seen 1 ((0 : Nat) : Int) = #[.bool false, .bool false, .bool false, .bool false, .bool false, .bool false, .bool false, .bool false] from rfl]
      go_wp2_with (first | (go_at_call 9; refine (pr_rank _ _ _).mono ?_; rintro e w' ⟨rfl, rfl⟩; rw [rk_go]))
      go_roundw
      case rel => exact ⟨1, by omega, rfl, ⟨_, _⟩, rfl⟩
      case measure => simp [intOf]
    · rw [show seen 1 ((1 : Nat) : Int) = #[.bool false, .bool false, .bool false, .bool false, .bool false, .bool false, .bool true, .bool false] from rfl]
      go_wp2_with (first | (go_at_call 9; refine (pr_rank _ _ _).mono ?_; rintro e w' ⟨rfl, rfl⟩; rw [rk_go]))
      go_roundw
      case rel => exact ⟨2, by omega, rfl, ⟨_, _⟩, rfl⟩
      case measure => simp [intOf]
    · rw [show seen 1 ((2 : Nat) : Int) = #[.bool false, .bool false, .bool false, .bool false, .bool false, .bool false, .bool true, .bool true] from rfl]
      go_wp2_with (first | (go_at_call 9; refine (pr_rank _ _ _).mono ?_; rintro e w' ⟨rfl, rfl⟩; rw [rk_go]))
      go_roundw
      case rel => exact ⟨3, by omega, rfl, ⟨_, _⟩, rfl⟩
      case measure => simp [intOf]
    · rw [show seen 1 ((3 : Nat) : Int) = #[.bool true, .bool false, .bool false, .bool false, .bool false, .bool false, .bool true, .bool true] from rfl]
      go_wp2_with (first | (go_at_call 9; refine (pr_rank _ _ _).mono ?_; rintro e w' ⟨rfl, rfl⟩; rw [rk_go]))
      go_roundw
      case rel => exact ⟨4, by omega, rfl, ⟨_, _⟩, rfl⟩
      case measure => simp [intOf]
    · rw [show seen 1 ((4 : Nat) : Int) = #[.bool true, .bool true, .bool false, .bool false, .bool false, .bool false, .bool true, .bool true] from rfl]
      go_wp2_with (first | (go_at_call 9; refine (pr_rank _ _ _).mono ?_; rintro e w' ⟨rfl, rfl⟩; rw [rk_go]))
      go_roundw
      case rel => exact ⟨5, by omega, rfl, ⟨_, _⟩, rfl⟩
      case measure => simp [intOf]
    · rw [show seen 1 ((5 : Nat) : Int) = #[.bool true, .bool true, .bool true, .bool false, .bool false, .bool false, .bool true, .bool true] from rfl]
      go_wp2_with (first | (go_at_call 9; refine (pr_rank _ _ _).mono ?_; rintro e w' ⟨rfl, rfl⟩; rw [rk_go]))
      go_roundw
      case rel => exact ⟨6, by omega, rfl, ⟨_, _⟩, rfl⟩
      case measure => simp [intOf]
    · rw [show seen 1 ((6 : Nat) : Int) = #[.bool true, .bool true, .bool true, .bool true, .bool false, .bool false, .bool true, .bool true] from rfl]
      go_wp2_with (first | (go_at_call 9; refine (pr_rank _ _ _).mono ?_; rintro e w' ⟨rfl, rfl⟩; rw [rk_go]))
      go_roundw
      case rel => exact ⟨7, by omega, rfl, ⟨_, _⟩, rfl⟩
      case measure => simp [intOf]
    · rw [show seen 1 ((7 : Nat) : Int) = #[.bool true, .bool true, .bool true, .bool true, .bool true, .bool false, .bool true, .bool true] from rfl]
      go_wp2_with (first | (go_at_call 9; refine (pr_rank _ _ _).mono ?_; rintro e w' ⟨rfl, rfl⟩; rw [rk_go]))
      go_roundw
      case rel => exact ⟨8, by omega, rfl, ⟨_, _⟩, rfl⟩
      case measure => simp [intOf]
    · rw [show seen 1 ((8 : Nat) : Int) = #[.bool true, .bool true, .bool true, .bool true, .bool true, .bool true, .bool true, .bool true] from rfl]
      go_wp2_with (first | (go_at_call 9; refine (pr_rank _ _ _).mono ?_; rintro e w' ⟨rfl, rfl⟩; rw [rk_go]) | (go_at_call 13; refine (known21_any _).mono ?_; rintro e w' ⟨rfl, rfl⟩))
      go_ret
      exact ⟨rfl, Adds.below (by (repeat (first | with_reducible exact Adds.refl _ | with_reducible apply Adds.drew | with_reducible apply Adds.drewN | with_reducible apply Adds.alloc | with_reducible apply Adds.more | (with_reducible refine Adds.setCell ?_ ?_ _) | (focus (simp [go_sem]; done)) | (focus (simp [go_sem]; omega)))))⟩
set_option maxRecDepth 100000 in
set_option maxHeartbeats 4000000 in
theorem ord_2 (a0 : Int) (hk : S.plc a0 8 = 2) (w : World) : Calls Try.prog 5 #[.int .i64 a0] w fun e w' => e = .returned (.bool true) ∧ Below w.heap.size w w' := by
  go_enter Try.func5, Try.ntmps5
  go_wp2_with (first | (go_at_call 8; refine (mplace_any _ _ (by decide) (by decide) _).mono ?_; rintro e w' ⟨rfl, rfl⟩; rw [hk]))
  go_loopw [5] (fun i wr => ∃ j : Nat, j ≤ 8 ∧ i = .int .i64 j ∧ ∃ p : By, wr = More (w.alloc (.cells (seen 2 j) 30)) p.n p.os) (fun i _ => 8 - (intOf i).toNat)
  case atStart => exact ⟨0, by omega, rfl, ⟨w.drawn, #[]⟩, (More_zero _).symm⟩
  case round =>
    obtain ⟨j, hj, rfl, ⟨⟨n0, os0⟩, rfl⟩⟩ := hrel
    rcases (by omega : j = 0 ∨ j = 1 ∨ j = 2 ∨ j = 3 ∨ j = 4 ∨ j = 5 ∨ j = 6 ∨ j = 7 ∨ j = 8) with rfl | rfl | rfl | rfl | rfl | rfl | rfl | rfl | rfl
    · rw [show seen 2 ((0 : Nat) : Int) = #[.bool false, .bool false, .bool false, .bool false, .bool false, .bool false, .bool false, .bool false] from rfl]
      go_wp2_with (first | (go_at_call 9; refine (pr_rank _ _ _).mono ?_; rintro e w' ⟨rfl, rfl⟩; rw [rk_go]))
      go_roundw
      case rel => exact ⟨1, by omega, rfl, ⟨_, _⟩, rfl⟩
      case measure => simp [intOf]
    · rw [show seen 2 ((1 : Nat) : Int) = #[.bool false, .bool false, .bool false, .bool false, .bool false, .bool true, .bool false, .bool false] from rfl]
      go_wp2_with (first | (go_at_call 9; refine (pr_rank _ _ _).mono ?_; rintro e w' ⟨rfl, rfl⟩; rw [rk_go]))
      go_roundw
      case rel => exact ⟨2, by omega, rfl, ⟨_, _⟩, rfl⟩
      case measure => simp [intOf]
    · rw [show seen 2 ((2 : Nat) : Int) = #[.bool false, .bool false, .bool false, .bool false, .bool false, .bool true, .bool true, .bool false] from rfl]
      go_wp2_with (first | (go_at_call 9; refine (pr_rank _ _ _).mono ?_; rintro e w' ⟨rfl, rfl⟩; rw [rk_go]))
      go_roundw
      case rel => exact ⟨3, by omega, rfl, ⟨_, _⟩, rfl⟩
      case measure => simp [intOf]
    · rw [show seen 2 ((3 : Nat) : Int) = #[.bool false, .bool false, .bool false, .bool false, .bool false, .bool true, .bool true, .bool true] from rfl]
      go_wp2_with (first | (go_at_call 9; refine (pr_rank _ _ _).mono ?_; rintro e w' ⟨rfl, rfl⟩; rw [rk_go]))
      go_roundw
      case rel => exact ⟨4, by omega, rfl, ⟨_, _⟩, rfl⟩
      case measure => simp [intOf]
    · rw [show seen 2 ((4 : Nat) : Int) = #[.bool true, .bool false, .bool false, .bool false, .bool false, .bool true, .bool true, .bool true] from rfl]
      go_wp2_with (first | (go_at_call 9; refine (pr_rank _ _ _).mono ?_; rintro e w' ⟨rfl, rfl⟩; rw [rk_go]))
      go_roundw
      case rel => exact ⟨5, by omega, rfl, ⟨_, _⟩, rfl⟩
      case measure => simp [intOf]
    · rw [show seen 2 ((5 : Nat) : Int) = #[.bool true, .bool true, .bool false, .bool false, .bool false, .bool true, .bool true, .bool true] from rfl]
      go_wp2_with (first | (go_at_call 9; refine (pr_rank _ _ _).mono ?_; rintro e w' ⟨rfl, rfl⟩; rw [rk_go]))
      go_roundw
      case rel => exact ⟨6, by omega, rfl, ⟨_, _⟩, rfl⟩
      case measure => simp [intOf]
    · rw [show seen 2 ((6 : Nat) : Int) = #[.bool true, .bool true, .bool true, .bool false, .bool false, .bool true, .bool true, .bool true] from rfl]
      go_wp2_with (first | (go_at_call 9; refine (pr_rank _ _ _).mono ?_; rintro e w' ⟨rfl, rfl⟩; rw [rk_go]))
      go_roundw
      case rel => exact ⟨7, by omega, rfl, ⟨_, _⟩, rfl⟩
      case measure => simp [intOf]
    · rw [show seen 2 ((7 : Nat) : Int) = #[.bool true, .bool true, .bool true, .bool true, .bool false, .bool true, .bool true, .bool true] from rfl]
      go_wp2_with (first | (go_at_call 9; refine (pr_rank _ _ _).mono ?_; rintro e w' ⟨rfl, rfl⟩; rw [rk_go]))
      go_roundw
      case rel => exact ⟨8, by omega, rfl, ⟨_, _⟩, rfl⟩
      case measure => simp [intOf]
    · rw [show seen 2 ((8 : Nat) : Int) = #[.bool true, .bool true, .bool true, .bool true, .bool true, .bool true, .bool true, .bool true] from rfl]
      go_wp2_with (first | (go_at_call 9; refine (pr_rank _ _ _).mono ?_; rintro e w' ⟨rfl, rfl⟩; rw [rk_go]) | (go_at_call 13; refine (known21_any _).mono ?_; rintro e w' ⟨rfl, rfl⟩))
      go_ret
      exact ⟨rfl, Adds.below (by (repeat (first | with_reducible exact Adds.refl _ | with_reducible apply Adds.drew | with_reducible apply Adds.drewN | with_reducible apply Adds.alloc | with_reducible apply Adds.more | (with_reducible refine Adds.setCell ?_ ?_ _) | (focus (simp [go_sem]; done)) | (focus (simp [go_sem]; omega)))))⟩
set_option maxRecDepth 100000 in
set_option maxHeartbeats 4000000 in
theorem ord_3 (a0 : Int) (hk : S.plc a0 8 = 3) (w : World) : Calls Try.prog 5 #[.int .i64 a0] w fun e w' => e = .returned (.bool true) ∧ Below w.heap.size w w' := by
  go_enter Try.func5, Try.ntmps5
  go_wp2_with (first | (go_at_call 8; refine (mplace_any _ _ (by decide) (by decide) _).mono ?_; rintro e w' ⟨rfl, rfl⟩; rw [hk]))
  go_loopw [5] (fun i wr => ∃ j : Nat, j ≤ 8 ∧ i = .int .i64 j ∧ ∃ p : By, wr = More (w.alloc (.cells (seen 3 j) 30)) p.n p.os) (fun i _ => 8 - (intOf i).toNat)
  case atStart => exact ⟨0, by omega, rfl, ⟨w.drawn, #[]⟩, (More_zero _).symm⟩
  case round =>
    obtain ⟨j, hj, rfl, ⟨⟨n0, os0⟩, rfl⟩⟩ := hrel
    rcases (by omega : j = 0 ∨ j = 1 ∨ j = 2 ∨ j = 3 ∨ j = 4 ∨ j = 5 ∨ j = 6 ∨ j = 7 ∨ j = 8) with rfl | rfl | rfl | rfl | rfl | rfl | rfl | rfl | rfl
    · rw [show seen 3 ((0 : Nat) : Int) = #[.bool false, .bool false, .bool false, .bool false, .bool false, .bool false, .bool false, .bool false] from rfl]
      go_wp2_with (first | (go_at_call 9; refine (pr_rank _ _ _).mono ?_; rintro e w' ⟨rfl, rfl⟩; rw [rk_go]))
      go_roundw
      case rel => exact ⟨1, by omega, rfl, ⟨_, _⟩, rfl⟩
      case measure => simp [intOf]
    · rw [show seen 3 ((1 : Nat) : Int) = #[.bool false, .bool false, .bool false, .bool false, .bool true, .bool false, .bool false, .bool false] from rfl]
      go_wp2_with (first | (go_at_call 9; refine (pr_rank _ _ _).mono ?_; rintro e w' ⟨rfl, rfl⟩; rw [rk_go]))
      go_roundw
      case rel => exact ⟨2, by omega, rfl, ⟨_, _⟩, rfl⟩
      case measure => simp [intOf]
    · rw [show seen 3 ((2 : Nat) : Int) = #[.bool false, .bool false, .bool false, .bool false, .bool true, .bool true, .bool false, .bool false] from rfl]
      go_wp2_with (first | (go_at_call 9; refine (pr_rank _ _ _).mono ?_; rintro e w' ⟨rfl, rfl⟩; rw [rk_go]))
      go_roundw
      case rel => exact ⟨3, by omega, rfl, ⟨_, _⟩, rfl⟩
      case measure => simp [intOf]
    · rw [show seen 3 ((3 : Nat) : Int) = #[.bool false, .bool false, .bool false, .bool false, .bool true, .bool true, .bool true, .bool false] from rfl]
      go_wp2_with (first | (go_at_call 9; refine (pr_rank _ _ _).mono ?_; rintro e w' ⟨rfl, rfl⟩; rw [rk_go]))
      go_roundw
      case rel => exact ⟨4, by omega, rfl, ⟨_, _⟩, rfl⟩
      case measure => simp [intOf]
    · rw [show seen 3 ((4 : Nat) : Int) = #[.bool false, .bool false, .bool false, .bool false, .bool true, .bool true, .bool true, .bool true] from rfl]
      go_wp2_with (first | (go_at_call 9; refine (pr_rank _ _ _).mono ?_; rintro e w' ⟨rfl, rfl⟩; rw [rk_go]))
      go_roundw
      case rel => exact ⟨5, by omega, rfl, ⟨_, _⟩, rfl⟩
      case measure => simp [intOf]
    · rw [show seen 3 ((5 : Nat) : Int) = #[.bool true, .bool false, .bool false, .bool false, .bool true, .bool true, .bool true, .bool true] from rfl]
      go_wp2_with (first | (go_at_call 9; refine (pr_rank _ _ _).mono ?_; rintro e w' ⟨rfl, rfl⟩; rw [rk_go]))
      go_roundw
      case rel => exact ⟨6, by omega, rfl, ⟨_, _⟩, rfl⟩
      case measure => simp [intOf]
    · rw [show seen 3 ((6 : Nat) : Int) = #[.bool true, .bool true, .bool false, .bool false, .bool true, .bool true, .bool true, .bool true] from rfl]
      go_wp2_with (first | (go_at_call 9; refine (pr_rank _ _ _).mono ?_; rintro e w' ⟨rfl, rfl⟩; rw [rk_go]))
      go_roundw
      case rel => exact ⟨7, by omega, rfl, ⟨_, _⟩, rfl⟩
      case measure => simp [intOf]
    · rw [show seen 3 ((7 : Nat) : Int) = #[.bool true, .bool true, .bool true, .bool false, .bool true, .bool true, .bool true, .bool true] from rfl]
      go_wp2_with (first | (go_at_call 9; refine (pr_rank _ _ _).mono ?_; rintro e w' ⟨rfl, rfl⟩; rw [rk_go]))
      go_roundw
      case rel => exact ⟨8, by omega, rfl, ⟨_, _⟩, rfl⟩
      case measure => simp [intOf]
    · rw [show seen 3 ((8 : Nat) : Int) = #[.bool true, .bool true, .bool true, .bool true, .bool true, .bool true, .bool true, .bool true] from rfl]
      go_wp2_with (first | (go_at_call 9; refine (pr_rank _ _ _).mono ?_; rintro e w' ⟨rfl, rfl⟩; rw [rk_go]) | (go_at_call 13; refine (known21_any _).mono ?_; rintro e w' ⟨rfl, rfl⟩))
      go_ret
      exact ⟨rfl, Adds.below (by (repeat (first | with_reducible exact Adds.refl _ | with_reducible apply Adds.drew | with_reducible apply Adds.drewN | with_reducible apply Adds.alloc | with_reducible apply Adds.more | (with_reducible refine Adds.setCell ?_ ?_ _) | (focus (simp [go_sem]; done)) | (focus (simp [go_sem]; omega)))))⟩
set_option maxRecDepth 100000 in
set_option maxHeartbeats 4000000 in
theorem ord_4 (a0 : Int) (hk : S.plc a0 8 = 4) (w : World) : Calls Try.prog 5 #[.int .i64 a0] w fun e w' => e = .returned (.bool true) ∧ Below w.heap.size w w' := by
  go_enter Try.func5, Try.ntmps5
  go_wp2_with (first | (go_at_call 8; refine (mplace_any _ _ (by decide) (by decide) _).mono ?_; rintro e w' ⟨rfl, rfl⟩; rw [hk]))
  go_loopw [5] (fun i wr => ∃ j : Nat, j ≤ 8 ∧ i = .int .i64 j ∧ ∃ p : By, wr = More (w.alloc (.cells (seen 4 j) 30)) p.n p.os) (fun i _ => 8 - (intOf i).toNat)
  case atStart => exact ⟨0, by omega, rfl, ⟨w.drawn, #[]⟩, (More_zero _).symm⟩
  case round =>
    obtain ⟨j, hj, rfl, ⟨⟨n0, os0⟩, rfl⟩⟩ := hrel
    rcases (by omega : j = 0 ∨ j = 1 ∨ j = 2 ∨ j = 3 ∨ j = 4 ∨ j = 5 ∨ j = 6 ∨ j = 7 ∨ j = 8) with rfl | rfl | rfl | rfl | rfl | rfl | rfl | rfl | rfl
    · rw [show seen 4 ((0 : Nat) : Int) = #[.bool false, .bool false, .bool false, .bool false, .bool false, .bool false, .bool false, .bool false] from rfl]
      go_wp2_with (first | (go_at_call 9; refine (pr_rank _ _ _).mono ?_; rintro e w' ⟨rfl, rfl⟩; rw [rk_go]))
      go_roundw
      case rel => exact ⟨1, by omega, rfl, ⟨_, _⟩, rfl⟩
      case measure => simp [intOf]
    · rw [show seen 4 ((1 : Nat) : Int) = #[.bool false, .bool false, .bool false, .bool true, .bool false, .bool false, .bool false, .bool false] from rfl]
      go_wp2_with (first | (go_at_call 9; refine (pr_rank _ _ _).mono ?_; rintro e w' ⟨rfl, rfl⟩; rw [rk_go]))
      go_roundw
      case rel => exact ⟨2, by omega, rfl, ⟨_, _⟩, rfl⟩
      case measure => simp [intOf]
    · rw [show seen 4 ((2 : Nat) : Int) = #[.bool false, .bool false, .bool false, .bool true, .bool true, .bool false, .bool false, .bool false] from rfl]
      go_wp2_with (first | (go_at_call 9; refine (pr_rank _ _ _).mono ?_; rintro e w' ⟨rfl, rfl⟩; rw [rk_go]))
      go_roundw
      case rel => exact ⟨3, by omega, rfl, ⟨_, _⟩, rfl⟩
      case measure => simp [intOf]
    · rw [show seen 4 ((3 : Nat) : Int) = #[.bool false, .bool false, .bool false, .bool true, .bool true, .bool true, .bool false, .bool false] from rfl]
      go_wp2_with (first | (go_at_call 9; refine (pr_rank _ _ _).mono ?_; rintro e w' ⟨rfl, rfl⟩; rw [rk_go]))
      go_roundw
      case rel => exact ⟨4, by omega, rfl, ⟨_, _⟩, rfl⟩
      case measure => simp [intOf]
    · rw [show seen 4 ((4 : Nat) : Int) = #[.bool false, .bool false, .bool false, .bool true, .bool true, .bool true, .bool true, .bool false] from rfl]
      go_wp2_with (first | (go_at_call 9; refine (pr_rank _ _ _).mono ?_; rintro e w' ⟨rfl, rfl⟩; rw [rk_go]))
      go_roundw
      case rel => exact ⟨5, by omega, rfl, ⟨_, _⟩, rfl⟩
      case measure => simp [intOf]
    · rw [show seen 4 ((5 : Nat) : Int) = #[.bool false, .bool false, .bool false, .bool true, .bool true, .bool true, .bool true, .bool true] from rfl]
      go_wp2_with (first | (go_at_call 9; refine (pr_rank _ _ _).mono ?_; rintro e w' ⟨rfl, rfl⟩; rw [rk_go]))
      go_roundw
      case rel => exact ⟨6, by omega, rfl, ⟨_, _⟩, rfl⟩
      case measure => simp [intOf]
    · rw [show seen 4 ((6 : Nat) : Int) = #[.bool true, .bool false, .bool false, .bool true, .bool true, .bool true, .bool true, .bool true] from rfl]
      go_wp2_with (first | (go_at_call 9; refine (pr_rank _ _ _).mono ?_; rintro e w' ⟨rfl, rfl⟩; rw [rk_go]))
      go_roundw
      case rel => exact ⟨7, by omega, rfl, ⟨_, _⟩, rfl⟩
      case measure => simp [intOf]
    · rw [show seen 4 ((7 : Nat) : Int) = #[.bool true, .bool true, .bool false, .bool true, .bool true, .bool true, .bool true, .bool true] from rfl]
      go_wp2_with (first | (go_at_call 9; refine (pr_rank _ _ _).mono ?_; rintro e w' ⟨rfl, rfl⟩; rw [rk_go]))
      go_roundw
      case rel => exact ⟨8, by omega, rfl, ⟨_, _⟩, rfl⟩
      case measure => simp [intOf]
    · rw [show seen 4 ((8 : Nat) : Int) = #[.bool true, .bool true, .bool true, .bool true, .bool true, .bool true, .bool true, .bool true] from rfl]
      go_wp2_with (first | (go_at_call 9; refine (pr_rank _ _ _).mono ?_; rintro e w' ⟨rfl, rfl⟩; rw [rk_go]) | (go_at_call 13; refine (known21_any _).mono ?_; rintro e w' ⟨rfl, rfl⟩))
      go_ret
      exact ⟨rfl, Adds.below (by (repeat (first | with_reducible exact Adds.refl _ | with_reducible apply Adds.drew | with_reducible apply Adds.drewN | with_reducible apply Adds.alloc | with_reducible apply Adds.more | (with_reducible refine Adds.setCell ?_ ?_ _) | (focus (simp [go_sem]; done)) | (focus (simp [go_sem]; omega)))))⟩
set_option maxRecDepth 100000 in
set_option maxHeartbeats 4000000 in
theorem ord_5 (a0 : Int) (hk : S.plc a0 8 = 5) (w : World) : Calls Try.prog 5 #[.int .i64 a0] w fun e w' => e = .returned (.bool true) ∧ Below w.heap.size w w' := by
  go_enter Try.func5, Try.ntmps5
  go_wp2_with (first | (go_at_call 8; refine (mplace_any _ _ (by decide) (by decide) _).mono ?_; rintro e w' ⟨rfl, rfl⟩; rw [hk]))
  go_loopw [5] (fun i wr => ∃ j : Nat, j ≤ 8 ∧ i = .int .i64 j ∧ ∃ p : By, wr = More (w.alloc (.cells (seen 5 j) 30)) p.n p.os) (fun i _ => 8 - (intOf i).toNat)
  case atStart => exact ⟨0, by omega, rfl, ⟨w.drawn, #[]⟩, (More_zero _).symm⟩
  case round =>
    obtain ⟨j, hj, rfl, ⟨⟨n0, os0⟩, rfl⟩⟩ := hrel
    rcases (by omega : j = 0 ∨ j = 1 ∨ j = 2 ∨ j = 3 ∨ j = 4 ∨ j = 5 ∨ j = 6 ∨ j = 7 ∨ j = 8) with rfl | rfl | rfl | rfl | rfl | rfl | rfl | rfl | rfl
    · rw [show seen 5 ((0 : Nat) : Int) = #[.bool false, .bool false, .bool false, .bool false, .bool false, .bool false, .bool false, .bool false] from rfl]
      go_wp2_with (first | (go_at_call 9; refine (pr_rank _ _ _).mono ?_; rintro e w' ⟨rfl, rfl⟩; rw [rk_go]))
      go_roundw
      case rel => exact ⟨1, by omega, rfl, ⟨_, _⟩, rfl⟩
      case measure => simp [intOf]
    · rw [show seen 5 ((1 : Nat) : Int) = #[.bool false, .bool false, .bool true, .bool false, .bool false, .bool false, .bool false, .bool false] from rfl]
      go_wp2_with (first | (go_at_call 9; refine (pr_rank _ _ _).mono ?_; rintro e w' ⟨rfl, rfl⟩; rw [rk_go]))
      go_roundw
      case rel => exact ⟨2, by omega, rfl, ⟨_, _⟩, rfl⟩
      case measure => simp [intOf]
    · rw [show seen 5 ((2 : Nat) : Int) = #[.bool false, .bool false, .bool true, .bool true, .bool false, .bool false, .bool false, .bool false] from rfl]
      go_wp2_with (first | (go_at_call 9; refine (pr_rank _ _ _).mono ?_; rintro e w' ⟨rfl, rfl⟩; rw [rk_go]))
      go_roundw
      case rel => exact ⟨3, by omega, rfl, ⟨_, _⟩, rfl⟩
      case measure => simp [intOf]
    · rw [show seen 5 ((3 : Nat) : Int) = #[.bool false, .bool false, .bool true, .bool true, .bool true, .bool false, .bool false, .bool false] from rfl]
      go_wp2_with (first | (go_at_call 9; refine (pr_rank _ _ _).mono ?_; rintro e w' ⟨rfl, rfl⟩; rw [rk_go]))
      go_roundw
      case rel => exact ⟨4, by omega, rfl, ⟨_, _⟩, rfl⟩
      case measure => simp [intOf]
    · rw [show seen 5 ((4 : Nat) : Int) = #[.bool false, .bool false, .bool true, .bool true, .bool true, .bool true, .bool false, .bool false] from rfl]
      go_wp2_with (first | (go_at_call 9; refine (pr_rank _ _ _).mono ?_; rintro e w' ⟨rfl, rfl⟩; rw [rk_go]))
      go_roundw
      case rel => exact ⟨5, by omega, rfl, ⟨_, _⟩, rfl⟩
      case measure => simp [intOf]
    · rw [show seen 5 ((5 : Nat) : Int) = #[.bool false, .bool false, .bool true, .bool true, .bool true, .bool true, .bool true, .bool false] from rfl]
      go_wp2_with (first | (go_at_call 9; refine (pr_rank _ _ _).mono ?_; rintro e w' ⟨rfl, rfl⟩; rw [rk_go]))
      go_roundw
      case rel => exact ⟨6, by omega, rfl, ⟨_, _⟩, rfl⟩
      case measure => simp [intOf]
    · rw [show seen 5 ((6 : Nat) : Int) = #[.bool false, .bool false, .bool true, .bool true, .bool true, .bool true, .bool true, .bool true] from rfl]
      go_wp2_with (first | (go_at_call 9; refine (pr_rank _ _ _).mono ?_; rintro e w' ⟨rfl, rfl⟩; rw [rk_go]))
      go_roundw
      case rel => exact ⟨7, by omega, rfl, ⟨_, _⟩, rfl⟩
      case measure => simp [intOf]
    · rw [show seen 5 ((7 : Nat) : Int) = #[.bool true, .bool false, .bool true, .bool true, .bool true, .bool true, .bool true, .bool true] from rfl]
      go_wp2_with (first | (go_at_call 9; refine (pr_rank _ _ _).mono ?_; rintro e w' ⟨rfl, rfl⟩; rw [rk_go]))
      go_roundw
      case rel => exact ⟨8, by omega, rfl, ⟨_, _⟩, rfl⟩
      case measure => simp [intOf]
    · rw [show seen 5 ((8 : Nat) : Int) = #[.bool true, .bool true, .bool true, .bool true, .bool true, .bool true, .bool true, .bool true] from rfl]
      go_wp2_with (first | (go_at_call 9; refine (pr_rank _ _ _).mono ?_; rintro e w' ⟨rfl, rfl⟩; rw [rk_go]) | (go_at_call 13; refine (known21_any _).mono ?_; rintro e w' ⟨rfl, rfl⟩))
      go_ret
      exact ⟨rfl, Adds.below (by (repeat (first | with_reducible exact Adds.refl _ | with_reducible apply Adds.drew | with_reducible apply Adds.drewN | with_reducible apply Adds.alloc | with_reducible apply Adds.more | (with_reducible refine Adds.setCell ?_ ?_ _) | (focus (simp [go_sem]; done)) | (focus (simp [go_sem]; omega)))))⟩
set_option maxRecDepth 100000 in
set_option maxHeartbeats 4000000 in
theorem ord_6 (a0 : Int) (hk : S.plc a0 8 = 6) (w : World) : Calls Try.prog 5 #[.int .i64 a0] w fun e w' => e = .returned (.bool true) ∧ Below w.heap.size w w' := by
  go_enter Try.func5, Try.ntmps5
  go_wp2_with (first | (go_at_call 8; refine (mplace_any _ _ (by decide) (by decide) _).mono ?_; rintro e w' ⟨rfl, rfl⟩; rw [hk]))
  go_loopw [5] (fun i wr => ∃ j : Nat, j ≤ 8 ∧ i = .int .i64 j ∧ ∃ p : By, wr = More (w.alloc (.cells (seen 6 j) 30)) p.n p.os) (fun i _ => 8 - (intOf i).toNat)
  case atStart => exact ⟨0, by omega, rfl, ⟨w.drawn, #[]⟩, (More_zero _).symm⟩
  case round =>
    obtain ⟨j, hj, rfl, ⟨⟨n0, os0⟩, rfl⟩⟩ := hrel
    rcases (by omega : j = 0 ∨ j = 1 ∨ j = 2 ∨ j = 3 ∨ j = 4 ∨ j = 5 ∨ j = 6 ∨ j = 7 ∨ j = 8) with rfl | rfl | rfl | rfl | rfl | rfl | rfl | rfl | rfl
    · rw [show seen 6 ((0 : Nat) : Int) = #[.bool false, .bool false, .bool false, .bool false, .bool false, .bool false, .bool false, .bool false] from rfl]
      go_wp2_with (first | (go_at_call 9; refine (pr_rank _ _ _).mono ?_; rintro e w' ⟨rfl, rfl⟩; rw [rk_go]))
      go_roundw
      case rel => exact ⟨1, by omega, rfl, ⟨_, _⟩, rfl⟩
      case measure => simp [intOf]
    · rw [show seen 6 ((1 : Nat) : Int) = #[.bool false, .bool true, .bool false, .bool false, .bool false, .bool false, .bool false, .bool false] from rfl]
      go_wp2_with (first | (go_at_call 9; refine (pr_rank _ _ _).mono ?_; rintro e w' ⟨rfl, rfl⟩; rw [rk_go]))
      go_roundw
      case rel => exact ⟨2, by omega, rfl, ⟨_, _⟩, rfl⟩
      case measure => simp [intOf]
    · rw [show seen 6 ((2 : Nat) : Int) = #[.bool false, .bool true, .bool true, .bool false, .bool false, .bool false, .bool false, .bool false] from rfl]
      go_wp2_with (first | (go_at_call 9; refine (pr_rank _ _ _).mono ?_; rintro e w' ⟨rfl, rfl⟩; rw [rk_go]))
      go_roundw
      case rel => exact ⟨3, by omega, rfl, ⟨_, _⟩, rfl⟩
      case measure => simp [intOf]
    · rw [show seen 6 ((3 : Nat) : Int) = #[.bool false, .bool true, .bool true, .bool true, .bool false, .bool false, .bool false, .bool false] from rfl]
      go_wp2_with (first | (go_at_call 9; refine (pr_rank _ _ _).mono ?_; rintro e w' ⟨rfl, rfl⟩; rw [rk_go]))
      go_roundw
      case rel => exact ⟨4, by omega, rfl, ⟨_, _⟩, rfl⟩
      case measure => simp [intOf]
    · rw [show seen 6 ((4 : Nat) : Int) = #[.bool false, .bool true, .bool true, .bool true, .bool true, .bool false, .bool false, .bool false] from rfl]
      go_wp2_with (first | (go_at_call 9; refine (pr_rank _ _ _).mono ?_; rintro e w' ⟨rfl, rfl⟩; rw [rk_go]))
      go_roundw
      case rel => exact ⟨5, by omega, rfl, ⟨_, _⟩, rfl⟩
      case measure => simp [intOf]
    · rw [show seen 6 ((5 : Nat) : Int) = #[.bool false, .bool true, .bool true, .bool true, .bool true, .bool true, .bool false, .bool false] from rfl]
      go_wp2_with (first | (go_at_call 9; refine (pr_rank _ _ _).mono ?_; rintro e w' ⟨rfl, rfl⟩; rw [rk_go]))
      go_roundw
      case rel => exact ⟨6, by omega, rfl, ⟨_, _⟩, rfl⟩
      case measure => simp [intOf]
    · rw [show seen 6 ((6 : Nat) : Int) = #[.bool false, .bool true, .bool true, .bool true, .bool true, .bool true, .bool true, .bool false] from rfl]
      go_wp2_with (first | (go_at_call 9; refine (pr_rank _ _ _).mono ?_; rintro e w' ⟨rfl, rfl⟩; rw [rk_go]))
      go_roundw
      case rel => exact ⟨7, by omega, rfl, ⟨_, _⟩, rfl⟩
      case measure => simp [intOf]
    · rw [show seen 6 ((7 : Nat) : Int) = #[.bool false, .bool true, .bool true, .bool true, .bool true, .bool true, .bool true, .bool true] from rfl]
      go_wp2_with (first | (go_at_call 9; refine (pr_rank _ _ _).mono ?_; rintro e w' ⟨rfl, rfl⟩; rw [rk_go]))
      go_roundw
      case rel => exact ⟨8, by omega, rfl, ⟨_, _⟩, rfl⟩
      case measure => simp [intOf]
    · rw [show seen 6 ((8 : Nat) : Int) = #[.bool true, .bool true, .bool true, .bool true, .bool true, .bool true, .bool true, .bool true] from rfl]
      go_wp2_with (first | (go_at_call 9; refine (pr_rank _ _ _).mono ?_; rintro e w' ⟨rfl, rfl⟩; rw [rk_go]) | (go_at_call 13; refine (known21_any _).mono ?_; rintro e w' ⟨rfl, rfl⟩))
      go_ret
      exact ⟨rfl, Adds.below (by (repeat (first | with_reducible exact Adds.refl _ | with_reducible apply Adds.drew | with_reducible apply Adds.drewN | with_reducible apply Adds.alloc | with_reducible apply Adds.more | (with_reducible refine Adds.setCell ?_ ?_ _) | (focus (simp [go_sem]; done)) | (focus (simp [go_sem]; omega)))))⟩
set_option maxRecDepth 100000 in
set_option maxHeartbeats 4000000 in
theorem ord_7 (a0 : Int) (hk : S.plc a0 8 = 7) (w : World) : Calls Try.prog 5 #[.int .i64 a0] w fun e w' => e = .returned (.bool true) ∧ Below w.heap.size w w' := by
  go_enter Try.func5, Try.ntmps5
  go_wp2_with (first | (go_at_call 8; refine (mplace_any _ _ (by decide) (by decide) _).mono ?_; rintro e w' ⟨rfl, rfl⟩; rw [hk]))
  go_loopw [5] (fun i wr => ∃ j : Nat, j ≤ 8 ∧ i = .int .i64 j ∧ ∃ p : By, wr = More (w.alloc (.cells (seen 7 j) 30)) p.n p.os) (fun i _ => 8 - (intOf i).toNat)
  case atStart => exact ⟨0, by omega, rfl, ⟨w.drawn, #[]⟩, (More_zero _).symm⟩
  case round =>
    obtain ⟨j, hj, rfl, ⟨⟨n0, os0⟩, rfl⟩⟩ := hrel
    rcases (by omega : j = 0 ∨ j = 1 ∨ j = 2 ∨ j = 3 ∨ j = 4 ∨ j = 5 ∨ j = 6 ∨ j = 7 ∨ j = 8) with rfl | rfl | rfl | rfl | rfl | rfl | rfl | rfl | rfl
    · rw [show seen 7 ((0 : Nat) : Int) = #[.bool false, .bool false, .bool false, .bool false, .bool false, .bool false, .bool false, .bool false] from rfl]
      go_wp2_with (first | (go_at_call 9; refine (pr_rank _ _ _).mono ?_; rintro e w' ⟨rfl, rfl⟩; rw [rk_go]))
      go_roundw
      case rel => exact ⟨1, by omega, rfl, ⟨_, _⟩, rfl⟩
      case measure => simp [intOf]
    · rw [show seen 7 ((1 : Nat) : Int) = #[.bool true, .bool false, .bool false, .bool false, .bool false, .bool false, .bool false, .bool false] from rfl]
      go_wp2_with (first | (go_at_call 9; refine (pr_rank _ _ _).mono ?_; rintro e w' ⟨rfl, rfl⟩; rw [rk_go]))
      go_roundw
      case rel => exact ⟨2, by omega, rfl, ⟨_, _⟩, rfl⟩
      case measure => simp [intOf]
    · rw [show seen 7 ((2 : Nat) : Int) = #[.bool true, .bool true, .bool false, .bool false, .bool false, .bool false, .bool false, .bool false] from rfl]
      go_wp2_with (first | (go_at_call 9; refine (pr_rank _ _ _).mono ?_; rintro e w' ⟨rfl, rfl⟩; rw [rk_go]))
      go_roundw
      case rel => exact ⟨3, by omega, rfl, ⟨_, _⟩, rfl⟩
      case measure => simp [intOf]
    · rw [show seen 7 ((3 : Nat) : Int) = #[.bool true, .bool true, .bool true, .bool false, .bool false, .bool false, .bool false, .bool false] from rfl]
      go_wp2_with (first | (go_at_call 9; refine (pr_rank _ _ _).mono ?_; rintro e w' ⟨rfl, rfl⟩; rw [rk_go]))
      go_roundw
      case rel => exact ⟨4, by omega, rfl, ⟨_, _⟩, rfl⟩
      case measure => simp [intOf]
    · rw [show seen 7 ((4 : Nat) : Int) = #[.bool true, .bool true, .bool true, .bool true, .bool false, .bool false, .bool false, .bool false] from rfl]
      go_wp2_with (first | (go_at_call 9; refine (pr_rank _ _ _).mono ?_; rintro e w' ⟨rfl, rfl⟩; rw [rk_go]))
      go_roundw
      case rel => exact ⟨5, by omega, rfl, ⟨_, _⟩, rfl⟩
      case measure => simp [intOf]
    · rw [show seen 7 ((5 : Nat) : Int) = #[.bool true, .bool true, .bool true, .bool true, .bool true, .bool false, .bool false, .bool false] from rfl]
      go_wp2_with (first | (go_at_call 9; refine (pr_rank _ _ _).mono ?_; rintro e w' ⟨rfl, rfl⟩; rw [rk_go]))
      go_roundw
      case rel => exact ⟨6, by omega, rfl, ⟨_, _⟩, rfl⟩
      case measure => simp [intOf]
    · rw [show seen 7 ((6 : Nat) : Int) = #[.bool true, .bool true, .bool true, .bool true, .bool true, .bool true, .bool false, .bool false] from rfl]
      go_wp2_with (first | (go_at_call 9; refine (pr_rank _ _ _).mono ?_; rintro e w' ⟨rfl, rfl⟩; rw [rk_go]))
      go_roundw
      case rel => exact ⟨7, by omega, rfl, ⟨_, _⟩, rfl⟩
      case measure => simp [intOf]
    · rw [show seen 7 ((7 : Nat) : Int) = #[.bool true, .bool true, .bool true, .bool true, .bool true, .bool true, .bool true, .bool false] from rfl]
      go_wp2_with (first | (go_at_call 9; refine (pr_rank _ _ _).mono ?_; rintro e w' ⟨rfl, rfl⟩; rw [rk_go]))
      go_roundw
      case rel => exact ⟨8, by omega, rfl, ⟨_, _⟩, rfl⟩
      case measure => simp [intOf]
    · rw [show seen 7 ((8 : Nat) : Int) = #[.bool true, .bool true, .bool true, .bool true, .bool true, .bool true, .bool true, .bool true] from rfl]
      go_wp2_with (first | (go_at_call 9; refine (pr_rank _ _ _).mono ?_; rintro e w' ⟨rfl, rfl⟩; rw [rk_go]) | (go_at_call 13; refine (known21_any _).mono ?_; rintro e w' ⟨rfl, rfl⟩))
      go_ret
      exact ⟨rfl, Adds.below (by (repeat (first | with_reducible exact Adds.refl _ | with_reducible apply Adds.drew | with_reducible apply Adds.drewN | with_reducible apply Adds.alloc | with_reducible apply Adds.more | (with_reducible refine Adds.setCell ?_ ?_ _) | (focus (simp [go_sem]; done)) | (focus (simp [go_sem]; omega)))))⟩
set_option maxRecDepth 100000 in
set_option maxHeartbeats 2000000 in
/-- The walk. -/
theorem walk (a0 : Int) (w : World) (w0 : (Lit.int .i64 a0).wf = true) :
    Calls Try.prog 5 #[.int .i64 a0] w fun e w' => e = .returned (.bool true) ∧ Below w.heap.size w w' := by
  have bk := S.plc_bd a0 8 (by omega)
  generalize hk : S.plc a0 8 = k at bk
  rcases (by omega : k = 0 ∨ k = 1 ∨ k = 2 ∨ k = 3 ∨ k = 4 ∨ k = 5 ∨ k = 6 ∨ k = 7) with rfl | rfl | rfl | rfl | rfl | rfl | rfl | rfl
  · exact ord_0 a0 hk w
  · exact ord_1 a0 hk w
  · exact ord_2 a0 hk w
  · exact ord_3 a0 hk w
  · exact ord_4 a0 hk w
  · exact ord_5 a0 hk w
  · exact ord_6 a0 hk w
  · exact ord_7 a0 hk w


set_option maxRecDepth 100000 in
theorem lifted (os : Os) (started : os.Started) (H : Type) (enc : TypeId × Value → H) :
    ReturnsInHanded {} Try.checked os 5 .any (Rows.priorityOrdersSpec.pre6 enc Try.prog Try.f5 Rows.priorityOrdersRow.domain false) (Rows.priorityOrdersSpec.post enc Try.prog Try.f5 false true false false) := by
  refine returnsInHanded_of_change (C := Try.checked) own started (by kernel_rfl) Try.func5
    (ChangeSpec.witness6 (enc := enc) (C := Try.checked) false ⟨#[], #[.int .i64 0], []⟩ 8 (by kernel_rfl) (by kernel_rfl) (by kernel_rfl) (by kernel_rfl)) ?_
  intro W base args ds gs before hval0 hW hcnd _
  have hval : ∀ (j : Nat) t v, Try.f5.params[j]? = some t → args[j]? = some v → Value.okWide Try.prog W .any base t v := hval0
  have hW' := hW
  obtain ⟨p, q, hA0, hV, rfl, hfz, hnd⟩ := hW
  have hA : DataW.TrodAll enc Try.prog W 0 (fun _ => true) true Try.f5.params.toList args.toList ds p := hA0
  rw [Try.params5] at hA hval
  obtain ⟨v0, vs0, d0, ds0, p0, q0, hargs, rfl, rfl, h0, r0⟩ := trodAll_cons hA
  obtain ⟨rfl, rfl, rfl⟩ := trodAll_nil r0
  obtain rfl : args = #[v0] := by cases args; simp_all
  obtain ⟨rfl, rfl⟩ := trodVars_none hV
  have k0 := h0
  have lt0 : ∀ x ∈ p0, x.block < W.heap.size := by obtain ⟨m, hm⟩ := k0; exact DataW.trod_lt m _ _ _ hm
  obtain ⟨a0, rfl, -, -, w0⟩ := open_int Try.underlying3 (hval 0 3 v0 rfl rfl) h0
  clear hA0 hval0
  refine (walk a0 W w0).mono fun e W' ⟨he, bel⟩ => ?_
  subst he
  exact ⟨_, rfl, _, _, _, [], _, [], hW', trodAll_mk1 (shut_bool Try.underlying4 _), (trodAll_cons_mk (Below.trod laidOut (by kernel_rfl) (of_decide_eq_true (by kernel_rfl)) k0 bel lt0) trodAll_mk0), rfl, bel.frame _, fun h => by cases h⟩

theorem over : Rows.priorityOrdersRow.holds Try.pinned (OpenSpec.ofChange Rows.priorityOrdersSpec) :=
  OpenClaim.holds_of_wide 5 Try.f5 rfl rfl rfl rfl rfl rfl rfl ⟨rfl, rfl, rfl, rfl, rfl⟩ rfl rfl rfl rfl rfl (by kernel_rfl) Try.func5 (by kernel_rfl)
    (of_decide_eq_true (by kernel_rfl)) (by unfold Func.isWrapper; first | (rw [if_pos (by decide +kernel)]; kernel_rfl) | (rw [if_neg (by decide +kernel)]; exact ⟨rfl, rfl⟩))
    (fun os started H enc _ => lifted os started H enc)

/-- The statement. -/
theorem proved : Rows.PriorityOrdersSaid := over
#print axioms proved
end Go.Proofs.Ytebhgfhphjajmaa.priorityOrders
