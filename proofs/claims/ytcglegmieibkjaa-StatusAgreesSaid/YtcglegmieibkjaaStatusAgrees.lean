/- The statement StatusAgreesSaid of package tstatelaw18: for every input the law returns true, and its arguments read as before. No condition. -/
import Derived.Test.YtcglegmieibkjaaRows
import Derived.Test.YtcglegmieibkjaaM1
import Derived.Test.YtcglegmieibkjaaC18
import Derived.Test.YtcglegmieibkjaaCM
import Derived.WalkKit
import Derived.ProofKit
import Derived.OpenShut
import Derived.ShutString
import Derived.ChangeOld
import Derived.Below
import Derived.Carry
namespace Go.Proofs.Ytcglegmieibkjaa.statusAgrees
open Go.ChangeShapes Go.WideShapes Go.ChangeAt Go.RowKit
open Go.ChangeMaps (open_string shut_string)
set_option linter.unusedVariables false

theorem own : ownKnob Try.prog.godebug = none := by kernel_rfl
theorem laidOut : laidOutB Try.prog = true := by kernel_rfl

set_option maxRecDepth 100000 in
set_option maxHeartbeats 2000000 in
/-- The walk. -/
theorem walk (a0 : Int) (w : World) (w0 : (Lit.int .i64 a0).wf = true) :
    Calls Try.prog 6 #[.int .i64 a0] w fun e w' => e = .returned (.bool true) ∧ Below w.heap.size w w' := by
  have bk := S.plc_bd a0 12 (by omega)
  generalize hk : S.plc a0 12 = k at bk
  rcases (by omega : k = 0 ∨ k = 1 ∨ k = 2 ∨ k = 3 ∨ k = 4 ∨ k = 5 ∨ k = 6 ∨ k = 7 ∨ k = 8 ∨ k = 9 ∨ k = 10 ∨ k = 11) with rfl | rfl | rfl | rfl | rfl | rfl | rfl | rfl | rfl | rfl | rfl | rfl
  · have eB : S.stB 1 = 162 := rfl
    have e1 : S.st1 1 = true := rfl
    have e0 : S.st0 1 = true := rfl
    have eR : S.stR 1 = true := rfl
    have eW : S.stW 1 = false := rfl
    go_enter Try.func6, Try.ntmps6
    go_wp2_with (first | (go_at_call 7; refine (mplace_any _ _ (by decide) (by decide) _).mono ?_; rintro e w' ⟨rfl, rfl⟩; rw [hk]) | (go_at_call 11; refine (st_lines _ _).mono ?_; rintro e w' ⟨rfl, ⟨⟨n1, os1⟩, rfl⟩⟩; rw [e1, e0]) | (go_at_call 8; refine (st_byte _ _).mono ?_; rintro e w' ⟨rfl, ⟨⟨n2, os2⟩, rfl⟩⟩; rw [eB]) | (go_at_call 13; refine (st_reads _ _).mono ?_; rintro e w' ⟨rfl, ⟨⟨n3, os3⟩, rfl⟩⟩; rw [eR]) | (go_at_call 15; refine (st_writes _ _).mono ?_; rintro e w' ⟨rfl, ⟨⟨n4, os4⟩, rfl⟩⟩; rw [eW]) | (go_at_call 10; refine (known18_any _).mono ?_; rintro e w' ⟨rfl, ⟨⟨n5, os5⟩, rfl⟩⟩))
    go_ret
    exact ⟨rfl, Adds.below (by (repeat (first | with_reducible exact Adds.refl _ | with_reducible apply Adds.drew | with_reducible apply Adds.drewN | with_reducible apply Adds.alloc | with_reducible apply Adds.more | (with_reducible refine Adds.setCell ?_ ?_ _) | (focus (simp [go_sem]; done)) | (focus (simp [go_sem]; omega)))))⟩
  · have eB : S.stB 2 = 130 := rfl
    have e1 : S.st1 2 = true := rfl
    have e0 : S.st0 2 = false := rfl
    have eR : S.stR 2 = true := rfl
    have eW : S.stW 2 = false := rfl
    go_enter Try.func6, Try.ntmps6
    go_wp2_with (first | (go_at_call 7; refine (mplace_any _ _ (by decide) (by decide) _).mono ?_; rintro e w' ⟨rfl, rfl⟩; rw [hk]) | (go_at_call 11; refine (st_lines _ _).mono ?_; rintro e w' ⟨rfl, ⟨⟨n1, os1⟩, rfl⟩⟩; rw [e1, e0]) | (go_at_call 8; refine (st_byte _ _).mono ?_; rintro e w' ⟨rfl, ⟨⟨n2, os2⟩, rfl⟩⟩; rw [eB]) | (go_at_call 13; refine (st_reads _ _).mono ?_; rintro e w' ⟨rfl, ⟨⟨n3, os3⟩, rfl⟩⟩; rw [eR]) | (go_at_call 15; refine (st_writes _ _).mono ?_; rintro e w' ⟨rfl, ⟨⟨n4, os4⟩, rfl⟩⟩; rw [eW]) | (go_at_call 10; refine (known18_any _).mono ?_; rintro e w' ⟨rfl, ⟨⟨n5, os5⟩, rfl⟩⟩))
    go_ret
    exact ⟨rfl, Adds.below (by (repeat (first | with_reducible exact Adds.refl _ | with_reducible apply Adds.drew | with_reducible apply Adds.drewN | with_reducible apply Adds.alloc | with_reducible apply Adds.more | (with_reducible refine Adds.setCell ?_ ?_ _) | (focus (simp [go_sem]; done)) | (focus (simp [go_sem]; omega)))))⟩
  · have eB : S.stB 3 = 0 := rfl
    have e1 : S.st1 3 = false := rfl
    have e0 : S.st0 3 = true := rfl
    have eR : S.stR 3 = false := rfl
    have eW : S.stW 3 = true := rfl
    go_enter Try.func6, Try.ntmps6
    go_wp2_with (first | (go_at_call 7; refine (mplace_any _ _ (by decide) (by decide) _).mono ?_; rintro e w' ⟨rfl, rfl⟩; rw [hk]) | (go_at_call 11; refine (st_lines _ _).mono ?_; rintro e w' ⟨rfl, ⟨⟨n1, os1⟩, rfl⟩⟩; rw [e1, e0]) | (go_at_call 8; refine (st_byte _ _).mono ?_; rintro e w' ⟨rfl, ⟨⟨n2, os2⟩, rfl⟩⟩; rw [eB]) | (go_at_call 13; refine (st_reads _ _).mono ?_; rintro e w' ⟨rfl, ⟨⟨n3, os3⟩, rfl⟩⟩; rw [eR]) | (go_at_call 15; refine (st_writes _ _).mono ?_; rintro e w' ⟨rfl, ⟨⟨n4, os4⟩, rfl⟩⟩; rw [eW]) | (go_at_call 10; refine (known18_any _).mono ?_; rintro e w' ⟨rfl, ⟨⟨n5, os5⟩, rfl⟩⟩))
    go_ret
    exact ⟨rfl, Adds.below (by (repeat (first | with_reducible exact Adds.refl _ | with_reducible apply Adds.drew | with_reducible apply Adds.drewN | with_reducible apply Adds.alloc | with_reducible apply Adds.more | (with_reducible refine Adds.setCell ?_ ?_ _) | (focus (simp [go_sem]; done)) | (focus (simp [go_sem]; omega)))))⟩
  · have eB : S.stB 4 = 134 := rfl
    have e1 : S.st1 4 = true := rfl
    have e0 : S.st0 4 = false := rfl
    have eR : S.stR 4 = true := rfl
    have eW : S.stW 4 = false := rfl
    go_enter Try.func6, Try.ntmps6
    go_wp2_with (first | (go_at_call 7; refine (mplace_any _ _ (by decide) (by decide) _).mono ?_; rintro e w' ⟨rfl, rfl⟩; rw [hk]) | (go_at_call 11; refine (st_lines _ _).mono ?_; rintro e w' ⟨rfl, ⟨⟨n1, os1⟩, rfl⟩⟩; rw [e1, e0]) | (go_at_call 8; refine (st_byte _ _).mono ?_; rintro e w' ⟨rfl, ⟨⟨n2, os2⟩, rfl⟩⟩; rw [eB]) | (go_at_call 13; refine (st_reads _ _).mono ?_; rintro e w' ⟨rfl, ⟨⟨n3, os3⟩, rfl⟩⟩; rw [eR]) | (go_at_call 15; refine (st_writes _ _).mono ?_; rintro e w' ⟨rfl, ⟨⟨n4, os4⟩, rfl⟩⟩; rw [eW]) | (go_at_call 10; refine (known18_any _).mono ?_; rintro e w' ⟨rfl, ⟨⟨n5, os5⟩, rfl⟩⟩))
    go_ret
    exact ⟨rfl, Adds.below (by (repeat (first | with_reducible exact Adds.refl _ | with_reducible apply Adds.drew | with_reducible apply Adds.drewN | with_reducible apply Adds.alloc | with_reducible apply Adds.more | (with_reducible refine Adds.setCell ?_ ?_ _) | (focus (simp [go_sem]; done)) | (focus (simp [go_sem]; omega)))))⟩
  · have eB : S.stB 5 = 4 := rfl
    have e1 : S.st1 5 = false := rfl
    have e0 : S.st0 5 = true := rfl
    have eR : S.stR 5 = false := rfl
    have eW : S.stW 5 = true := rfl
    go_enter Try.func6, Try.ntmps6
    go_wp2_with (first | (go_at_call 7; refine (mplace_any _ _ (by decide) (by decide) _).mono ?_; rintro e w' ⟨rfl, rfl⟩; rw [hk]) | (go_at_call 11; refine (st_lines _ _).mono ?_; rintro e w' ⟨rfl, ⟨⟨n1, os1⟩, rfl⟩⟩; rw [e1, e0]) | (go_at_call 8; refine (st_byte _ _).mono ?_; rintro e w' ⟨rfl, ⟨⟨n2, os2⟩, rfl⟩⟩; rw [eB]) | (go_at_call 13; refine (st_reads _ _).mono ?_; rintro e w' ⟨rfl, ⟨⟨n3, os3⟩, rfl⟩⟩; rw [eR]) | (go_at_call 15; refine (st_writes _ _).mono ?_; rintro e w' ⟨rfl, ⟨⟨n4, os4⟩, rfl⟩⟩; rw [eW]) | (go_at_call 10; refine (known18_any _).mono ?_; rintro e w' ⟨rfl, ⟨⟨n5, os5⟩, rfl⟩⟩))
    go_ret
    exact ⟨rfl, Adds.below (by (repeat (first | with_reducible exact Adds.refl _ | with_reducible apply Adds.drew | with_reducible apply Adds.drewN | with_reducible apply Adds.alloc | with_reducible apply Adds.more | (with_reducible refine Adds.setCell ?_ ?_ _) | (focus (simp [go_sem]; done)) | (focus (simp [go_sem]; omega)))))⟩
  · have eB : S.stB 6 = 66 := rfl
    have e1 : S.st1 6 = true := rfl
    have e0 : S.st0 6 = false := rfl
    have eR : S.stR 6 = true := rfl
    have eW : S.stW 6 = false := rfl
    go_enter Try.func6, Try.ntmps6
    go_wp2_with (first | (go_at_call 7; refine (mplace_any _ _ (by decide) (by decide) _).mono ?_; rintro e w' ⟨rfl, rfl⟩; rw [hk]) | (go_at_call 11; refine (st_lines _ _).mono ?_; rintro e w' ⟨rfl, ⟨⟨n1, os1⟩, rfl⟩⟩; rw [e1, e0]) | (go_at_call 8; refine (st_byte _ _).mono ?_; rintro e w' ⟨rfl, ⟨⟨n2, os2⟩, rfl⟩⟩; rw [eB]) | (go_at_call 13; refine (st_reads _ _).mono ?_; rintro e w' ⟨rfl, ⟨⟨n3, os3⟩, rfl⟩⟩; rw [eR]) | (go_at_call 15; refine (st_writes _ _).mono ?_; rintro e w' ⟨rfl, ⟨⟨n4, os4⟩, rfl⟩⟩; rw [eW]) | (go_at_call 10; refine (known18_any _).mono ?_; rintro e w' ⟨rfl, ⟨⟨n5, os5⟩, rfl⟩⟩))
    go_ret
    exact ⟨rfl, Adds.below (by (repeat (first | with_reducible exact Adds.refl _ | with_reducible apply Adds.drew | with_reducible apply Adds.drewN | with_reducible apply Adds.alloc | with_reducible apply Adds.more | (with_reducible refine Adds.setCell ?_ ?_ _) | (focus (simp [go_sem]; done)) | (focus (simp [go_sem]; omega)))))⟩
  · have eB : S.stB 7 = 16 := rfl
    have e1 : S.st1 7 = false := rfl
    have e0 : S.st0 7 = true := rfl
    have eR : S.stR 7 = false := rfl
    have eW : S.stW 7 = true := rfl
    go_enter Try.func6, Try.ntmps6
    go_wp2_with (first | (go_at_call 7; refine (mplace_any _ _ (by decide) (by decide) _).mono ?_; rintro e w' ⟨rfl, rfl⟩; rw [hk]) | (go_at_call 11; refine (st_lines _ _).mono ?_; rintro e w' ⟨rfl, ⟨⟨n1, os1⟩, rfl⟩⟩; rw [e1, e0]) | (go_at_call 8; refine (st_byte _ _).mono ?_; rintro e w' ⟨rfl, ⟨⟨n2, os2⟩, rfl⟩⟩; rw [eB]) | (go_at_call 13; refine (st_reads _ _).mono ?_; rintro e w' ⟨rfl, ⟨⟨n3, os3⟩, rfl⟩⟩; rw [eR]) | (go_at_call 15; refine (st_writes _ _).mono ?_; rintro e w' ⟨rfl, ⟨⟨n4, os4⟩, rfl⟩⟩; rw [eW]) | (go_at_call 10; refine (known18_any _).mono ?_; rintro e w' ⟨rfl, ⟨⟨n5, os5⟩, rfl⟩⟩))
    go_ret
    exact ⟨rfl, Adds.below (by (repeat (first | with_reducible exact Adds.refl _ | with_reducible apply Adds.drew | with_reducible apply Adds.drewN | with_reducible apply Adds.alloc | with_reducible apply Adds.more | (with_reducible refine Adds.setCell ?_ ?_ _) | (focus (simp [go_sem]; done)) | (focus (simp [go_sem]; omega)))))⟩
  · have eB : S.stB 8 = 35 := rfl
    have e1 : S.st1 8 = true := rfl
    have e0 : S.st0 8 = true := rfl
    have eR : S.stR 8 = true := rfl
    have eW : S.stW 8 = false := rfl
    go_enter Try.func6, Try.ntmps6
    go_wp2_with (first | (go_at_call 7; refine (mplace_any _ _ (by decide) (by decide) _).mono ?_; rintro e w' ⟨rfl, rfl⟩; rw [hk]) | (go_at_call 11; refine (st_lines _ _).mono ?_; rintro e w' ⟨rfl, ⟨⟨n1, os1⟩, rfl⟩⟩; rw [e1, e0]) | (go_at_call 8; refine (st_byte _ _).mono ?_; rintro e w' ⟨rfl, ⟨⟨n2, os2⟩, rfl⟩⟩; rw [eB]) | (go_at_call 13; refine (st_reads _ _).mono ?_; rintro e w' ⟨rfl, ⟨⟨n3, os3⟩, rfl⟩⟩; rw [eR]) | (go_at_call 15; refine (st_writes _ _).mono ?_; rintro e w' ⟨rfl, ⟨⟨n4, os4⟩, rfl⟩⟩; rw [eW]) | (go_at_call 10; refine (known18_any _).mono ?_; rintro e w' ⟨rfl, ⟨⟨n5, os5⟩, rfl⟩⟩))
    go_ret
    exact ⟨rfl, Adds.below (by (repeat (first | with_reducible exact Adds.refl _ | with_reducible apply Adds.drew | with_reducible apply Adds.drewN | with_reducible apply Adds.alloc | with_reducible apply Adds.more | (with_reducible refine Adds.setCell ?_ ?_ _) | (focus (simp [go_sem]; done)) | (focus (simp [go_sem]; omega)))))⟩
  · have eB : S.stB 9 = 3 := rfl
    have e1 : S.st1 9 = true := rfl
    have e0 : S.st0 9 = true := rfl
    have eR : S.stR 9 = true := rfl
    have eW : S.stW 9 = false := rfl
    go_enter Try.func6, Try.ntmps6
    go_wp2_with (first | (go_at_call 7; refine (mplace_any _ _ (by decide) (by decide) _).mono ?_; rintro e w' ⟨rfl, rfl⟩; rw [hk]) | (go_at_call 11; refine (st_lines _ _).mono ?_; rintro e w' ⟨rfl, ⟨⟨n1, os1⟩, rfl⟩⟩; rw [e1, e0]) | (go_at_call 8; refine (st_byte _ _).mono ?_; rintro e w' ⟨rfl, ⟨⟨n2, os2⟩, rfl⟩⟩; rw [eB]) | (go_at_call 13; refine (st_reads _ _).mono ?_; rintro e w' ⟨rfl, ⟨⟨n3, os3⟩, rfl⟩⟩; rw [eR]) | (go_at_call 15; refine (st_writes _ _).mono ?_; rintro e w' ⟨rfl, ⟨⟨n4, os4⟩, rfl⟩⟩; rw [eW]) | (go_at_call 10; refine (known18_any _).mono ?_; rintro e w' ⟨rfl, ⟨⟨n5, os5⟩, rfl⟩⟩))
    go_ret
    exact ⟨rfl, Adds.below (by (repeat (first | with_reducible exact Adds.refl _ | with_reducible apply Adds.drew | with_reducible apply Adds.drewN | with_reducible apply Adds.alloc | with_reducible apply Adds.more | (with_reducible refine Adds.setCell ?_ ?_ _) | (focus (simp [go_sem]; done)) | (focus (simp [go_sem]; omega)))))⟩
  · have eB : S.stB 10 = 138 := rfl
    have e1 : S.st1 10 = false := rfl
    have e0 : S.st0 10 = false := rfl
    have eR : S.stR 10 = false := rfl
    have eW : S.stW 10 = false := rfl
    go_enter Try.func6, Try.ntmps6
    go_wp2_with (first | (go_at_call 7; refine (mplace_any _ _ (by decide) (by decide) _).mono ?_; rintro e w' ⟨rfl, rfl⟩; rw [hk]) | (go_at_call 11; refine (st_lines _ _).mono ?_; rintro e w' ⟨rfl, ⟨⟨n1, os1⟩, rfl⟩⟩; rw [e1, e0]) | (go_at_call 8; refine (st_byte _ _).mono ?_; rintro e w' ⟨rfl, ⟨⟨n2, os2⟩, rfl⟩⟩; rw [eB]) | (go_at_call 13; refine (st_reads _ _).mono ?_; rintro e w' ⟨rfl, ⟨⟨n3, os3⟩, rfl⟩⟩; rw [eR]) | (go_at_call 15; refine (st_writes _ _).mono ?_; rintro e w' ⟨rfl, ⟨⟨n4, os4⟩, rfl⟩⟩; rw [eW]) | (go_at_call 10; refine (known18_any _).mono ?_; rintro e w' ⟨rfl, ⟨⟨n5, os5⟩, rfl⟩⟩))
    go_ret
    exact ⟨rfl, Adds.below (by (repeat (first | with_reducible exact Adds.refl _ | with_reducible apply Adds.drew | with_reducible apply Adds.drewN | with_reducible apply Adds.alloc | with_reducible apply Adds.more | (with_reducible refine Adds.setCell ?_ ?_ _) | (focus (simp [go_sem]; done)) | (focus (simp [go_sem]; omega)))))⟩
  · have eB : S.stB 11 = 0 := rfl
    have e1 : S.st1 11 = true := rfl
    have e0 : S.st0 11 = false := rfl
    have eR : S.stR 11 = false := rfl
    have eW : S.stW 11 = false := rfl
    go_enter Try.func6, Try.ntmps6
    go_wp2_with (first | (go_at_call 7; refine (mplace_any _ _ (by decide) (by decide) _).mono ?_; rintro e w' ⟨rfl, rfl⟩; rw [hk]) | (go_at_call 11; refine (st_lines _ _).mono ?_; rintro e w' ⟨rfl, ⟨⟨n1, os1⟩, rfl⟩⟩; rw [e1, e0]) | (go_at_call 8; refine (st_byte _ _).mono ?_; rintro e w' ⟨rfl, ⟨⟨n2, os2⟩, rfl⟩⟩; rw [eB]) | (go_at_call 13; refine (st_reads _ _).mono ?_; rintro e w' ⟨rfl, ⟨⟨n3, os3⟩, rfl⟩⟩; rw [eR]) | (go_at_call 15; refine (st_writes _ _).mono ?_; rintro e w' ⟨rfl, ⟨⟨n4, os4⟩, rfl⟩⟩; rw [eW]) | (go_at_call 10; refine (known18_any _).mono ?_; rintro e w' ⟨rfl, ⟨⟨n5, os5⟩, rfl⟩⟩))
    go_ret
    exact ⟨rfl, Adds.below (by (repeat (first | with_reducible exact Adds.refl _ | with_reducible apply Adds.drew | with_reducible apply Adds.drewN | with_reducible apply Adds.alloc | with_reducible apply Adds.more | (with_reducible refine Adds.setCell ?_ ?_ _) | (focus (simp [go_sem]; done)) | (focus (simp [go_sem]; omega)))))⟩
  · have eB : S.stB 12 = 0 := rfl
    have e1 : S.st1 12 = true := rfl
    have e0 : S.st0 12 = true := rfl
    have eR : S.stR 12 = false := rfl
    have eW : S.stW 12 = false := rfl
    go_enter Try.func6, Try.ntmps6
    go_wp2_with (first | (go_at_call 7; refine (mplace_any _ _ (by decide) (by decide) _).mono ?_; rintro e w' ⟨rfl, rfl⟩; rw [hk]) | (go_at_call 11; refine (st_lines _ _).mono ?_; rintro e w' ⟨rfl, ⟨⟨n1, os1⟩, rfl⟩⟩; rw [e1, e0]) | (go_at_call 8; refine (st_byte _ _).mono ?_; rintro e w' ⟨rfl, ⟨⟨n2, os2⟩, rfl⟩⟩; rw [eB]) | (go_at_call 13; refine (st_reads _ _).mono ?_; rintro e w' ⟨rfl, ⟨⟨n3, os3⟩, rfl⟩⟩; rw [eR]) | (go_at_call 15; refine (st_writes _ _).mono ?_; rintro e w' ⟨rfl, ⟨⟨n4, os4⟩, rfl⟩⟩; rw [eW]) | (go_at_call 10; refine (known18_any _).mono ?_; rintro e w' ⟨rfl, ⟨⟨n5, os5⟩, rfl⟩⟩))
    go_ret
    exact ⟨rfl, Adds.below (by (repeat (first | with_reducible exact Adds.refl _ | with_reducible apply Adds.drew | with_reducible apply Adds.drewN | with_reducible apply Adds.alloc | with_reducible apply Adds.more | (with_reducible refine Adds.setCell ?_ ?_ _) | (focus (simp [go_sem]; done)) | (focus (simp [go_sem]; omega)))))⟩

set_option maxRecDepth 100000 in
theorem lifted (os : Os) (started : os.Started) (H : Type) (enc : TypeId × Value → H) :
    ReturnsInHanded {} Try.checked os 6 .any (Rows.statusAgreesSpec.pre6 enc Try.prog Try.f6 Rows.statusAgreesRow.domain false) (Rows.statusAgreesSpec.post enc Try.prog Try.f6 false true false false) := by
  refine returnsInHanded_of_change (C := Try.checked) own started (by kernel_rfl) Try.func6
    (ChangeSpec.witness6 (enc := enc) (C := Try.checked) false ⟨#[], #[.int .i64 0], []⟩ 8 (by kernel_rfl) (by kernel_rfl) (by kernel_rfl) (by kernel_rfl)) ?_
  intro W base args ds gs before hval0 hW hcnd _
  have hval : ∀ (j : Nat) t v, Try.f6.params[j]? = some t → args[j]? = some v → Value.okWide Try.prog W .any base t v := hval0
  have hW' := hW
  obtain ⟨p, q, hA0, hV, rfl, hfz, hnd⟩ := hW
  have hA : DataW.TrodAll enc Try.prog W 0 (fun _ => true) true Try.f6.params.toList args.toList ds p := hA0
  rw [Try.params6] at hA hval
  obtain ⟨v0, vs0, d0, ds0, p0, q0, hargs, rfl, rfl, h0, r0⟩ := trodAll_cons hA
  obtain ⟨rfl, rfl, rfl⟩ := trodAll_nil r0
  obtain rfl : args = #[v0] := by cases args; simp_all
  obtain ⟨rfl, rfl⟩ := trodVars_none hV
  have k0 := h0
  have lt0 : ∀ x ∈ p0, x.block < W.heap.size := by obtain ⟨m, hm⟩ := k0; exact DataW.trod_lt m _ _ _ hm
  obtain ⟨a0, rfl, -, -, w0⟩ := open_int Try.underlying3 (hval 0 3 v0 rfl rfl) h0
  clear hA0 hval0
  refine (walk a0 W w0).mono fun e W' ⟨he, bel⟩ => ?_
  subst he
  exact ⟨_, rfl, _, _, _, [], _, [], hW', trodAll_mk1 (shut_bool Try.underlying4 _), (trodAll_cons_mk (Below.trod laidOut (by kernel_rfl) (of_decide_eq_true (by kernel_rfl)) k0 bel lt0) trodAll_mk0), rfl, bel.frame _, fun h => by cases h⟩

theorem over : Rows.statusAgreesRow.holds Try.pinned (OpenSpec.ofChange Rows.statusAgreesSpec) :=
  OpenClaim.holds_of_wide 6 Try.f6 rfl rfl rfl rfl rfl rfl rfl ⟨rfl, rfl, rfl, rfl, rfl⟩ rfl rfl rfl rfl rfl (by kernel_rfl) Try.func6 (by kernel_rfl)
    (of_decide_eq_true (by kernel_rfl)) (by unfold Func.isWrapper; first | (rw [if_pos (by decide +kernel)]; kernel_rfl) | (rw [if_neg (by decide +kernel)]; exact ⟨rfl, rfl⟩))
    (fun os started H enc _ => lifted os started H enc)

/-- The statement. -/
theorem proved : Rows.StatusAgreesSaid := over
#print axioms proved
end Go.Proofs.Ytcglegmieibkjaa.statusAgrees
