/- The statement PicInitializesSaid of package tstatelaw22: for every input the law returns true, and its arguments read as before. No condition. -/
import Derived.Test.YtionembpmfahlaaRows
import Derived.Test.YtionembpmfahlaaM1
import Derived.Test.YtionembpmfahlaaC22m
import Derived.WalkKit
import Derived.ProofKit
import Derived.OpenShut
import Derived.ShutString
import Derived.ChangeOld
import Derived.Below
import Derived.Carry
namespace Go.Proofs.Ytionembpmfahlaa.picInitializes
open Go.ChangeShapes Go.WideShapes Go.ChangeAt Go.RowKit
open Go.ChangeMaps (open_string shut_string)
set_option linter.unusedVariables false

theorem own : ownKnob Try.prog.godebug = none := by kernel_rfl
theorem laidOut : laidOutB Try.prog = true := by kernel_rfl

theorem p1 (p : S.Pc) (ok : S.Ok p) (v : Int) (hv : 0 ≤ v ∧ v < 256) (x y : Bool) (hx : (bits .and .u8 v 2 != 0) = x) (hy : (bits .and .u8 v 1 != 0) = y) (w : World) : Calls Try.prog 21 #[.agg #[.int .i64 p.St, .bool p.Le, .bool p.Fo, .bool p.Si, .bool p.Ft, .int .u8 p.Lw, .int .u8 p.Hg, .bool p.Au, .bool p.Ro, .bool p.Sp, .bool p.RI, .bool p.Po, .int .u8 p.Li, .int .u8 p.Ed, .int .u8 p.IS, .int .u8 p.IM, .int .i64 p.Lo, .int .i64 p.Sq, .int .i64 p.Sv, .bool p.Su], .bool false, .int .u8 (bits .or .u8 v 16)] w fun e w' => e = .returned (.agg #[.int .i64 2, .bool (bits .and .u8 v 8 != 0), .bool (bits .and .u8 v 4 != 0), .bool x, .bool y, .int .u8 (bits .and .u8 v 224), .int .u8 0, .bool false, .bool false, .bool false, .bool false, .bool false, .int .u8 p.Li, .int .u8 0, .int .u8 0, .int .u8 0, .int .i64 7, .int .i64 0, .int .i64 0, .bool false]) ∧ Adds w w' := by
  obtain ⟨hb, he⟩ := S.wr_ini p v hv.1 hv.2
  have h := write_any p false (bits .or .u8 v 16) hb.1 hb.2 ok.1.1 ok.1.2 w
  rw [he] at h
  subst hx hy
  exact h
theorem q00_2 (b8 b4 : Bool) (lw li a2 a3 a4 : Int) (hv : 0 ≤ a2 ∧ a2 < 256) (w : World) : Calls Try.prog 21 #[.agg #[.int .i64 2, .bool b8, .bool b4, .bool false, .bool false, .int .u8 lw, .int .u8 0, .bool false, .bool false, .bool false, .bool false, .bool false, .int .u8 li, .int .u8 0, .int .u8 0, .int .u8 0, .int .i64 7, .int .i64 0, .int .i64 0, .bool false], .bool true, .int .u8 a2] w fun e w' => e = .returned (.agg #[.int .i64 3, .bool b8, .bool b4, .bool false, .bool false, .int .u8 lw, .int .u8 a2, .bool false, .bool false, .bool false, .bool false, .bool false, .int .u8 li, .int .u8 0, .int .u8 0, .int .u8 0, .int .i64 7, .int .i64 0, .int .i64 0, .bool false]) ∧ Adds w w' := by
  have h := write_any (⟨2, b8, b4, false, false, lw, 0, false, false, false, false, false, li, 0, 0, 0, 7, 0, 0, false⟩ : S.Pc) true a2 hv.1 hv.2 (by show (0 : Int) ≤ 0; omega) (by show (0 : Int) < 256; omega) w
  rw [show S.wr (⟨2, b8, b4, false, false, lw, 0, false, false, false, false, false, li, 0, 0, 0, 7, 0, 0, false⟩ : S.Pc) true a2 = (⟨3, b8, b4, false, false, lw, a2, false, false, false, false, false, li, 0, 0, 0, 7, 0, 0, false⟩ : S.Pc) from rfl] at h
  exact h
theorem q00_3 (b8 b4 : Bool) (lw li a2 a3 a4 : Int) (hv : 0 ≤ a3 ∧ a3 < 256) (w : World) : Calls Try.prog 21 #[.agg #[.int .i64 3, .bool b8, .bool b4, .bool false, .bool false, .int .u8 lw, .int .u8 a2, .bool false, .bool false, .bool false, .bool false, .bool false, .int .u8 li, .int .u8 0, .int .u8 0, .int .u8 0, .int .i64 7, .int .i64 0, .int .i64 0, .bool false], .bool true, .int .u8 a3] w fun e w' => e = .returned (.agg #[.int .i64 0, .bool b8, .bool b4, .bool false, .bool false, .int .u8 lw, .int .u8 a2, .bool false, .bool false, .bool false, .bool false, .bool false, .int .u8 li, .int .u8 0, .int .u8 0, .int .u8 0, .int .i64 7, .int .i64 0, .int .i64 0, .bool false]) ∧ Adds w w' := by
  have h := write_any (⟨3, b8, b4, false, false, lw, a2, false, false, false, false, false, li, 0, 0, 0, 7, 0, 0, false⟩ : S.Pc) true a3 hv.1 hv.2 (by show (0 : Int) ≤ 0; omega) (by show (0 : Int) < 256; omega) w
  rw [show S.wr (⟨3, b8, b4, false, false, lw, a2, false, false, false, false, false, li, 0, 0, 0, 7, 0, 0, false⟩ : S.Pc) true a3 = (⟨0, b8, b4, false, false, lw, a2, false, false, false, false, false, li, 0, 0, 0, 7, 0, 0, false⟩ : S.Pc) from rfl] at h
  exact h
theorem q00_4 (b8 b4 : Bool) (lw li a2 a3 a4 : Int) (hv : 0 ≤ a3 ∧ a3 < 256) (w : World) : Calls Try.prog 21 #[.agg #[.int .i64 0, .bool b8, .bool b4, .bool false, .bool false, .int .u8 lw, .int .u8 a2, .bool false, .bool false, .bool false, .bool false, .bool false, .int .u8 li, .int .u8 0, .int .u8 0, .int .u8 0, .int .i64 7, .int .i64 0, .int .i64 0, .bool false], .bool true, .int .u8 a3] w fun e w' => e = .returned (.agg #[.int .i64 0, .bool b8, .bool b4, .bool false, .bool false, .int .u8 lw, .int .u8 a2, .bool false, .bool false, .bool false, .bool false, .bool false, .int .u8 li, .int .u8 0, .int .u8 0, .int .u8 a3, .int .i64 7, .int .i64 0, .int .i64 0, .bool false]) ∧ Adds w w' := by
  have h := write_any (⟨0, b8, b4, false, false, lw, a2, false, false, false, false, false, li, 0, 0, 0, 7, 0, 0, false⟩ : S.Pc) true a3 hv.1 hv.2 (by show (0 : Int) ≤ 0; omega) (by show (0 : Int) < 256; omega) w
  rw [show S.wr (⟨0, b8, b4, false, false, lw, a2, false, false, false, false, false, li, 0, 0, 0, 7, 0, 0, false⟩ : S.Pc) true a3 = (⟨0, b8, b4, false, false, lw, a2, false, false, false, false, false, li, 0, 0, a3, 7, 0, 0, false⟩ : S.Pc) from rfl] at h
  exact h
theorem q01_2 (b8 b4 : Bool) (lw li a2 a3 a4 : Int) (hv : 0 ≤ a2 ∧ a2 < 256) (w : World) : Calls Try.prog 21 #[.agg #[.int .i64 2, .bool b8, .bool b4, .bool false, .bool true, .int .u8 lw, .int .u8 0, .bool false, .bool false, .bool false, .bool false, .bool false, .int .u8 li, .int .u8 0, .int .u8 0, .int .u8 0, .int .i64 7, .int .i64 0, .int .i64 0, .bool false], .bool true, .int .u8 a2] w fun e w' => e = .returned (.agg #[.int .i64 3, .bool b8, .bool b4, .bool false, .bool true, .int .u8 lw, .int .u8 a2, .bool false, .bool false, .bool false, .bool false, .bool false, .int .u8 li, .int .u8 0, .int .u8 0, .int .u8 0, .int .i64 7, .int .i64 0, .int .i64 0, .bool false]) ∧ Adds w w' := by
  have h := write_any (⟨2, b8, b4, false, true, lw, 0, false, false, false, false, false, li, 0, 0, 0, 7, 0, 0, false⟩ : S.Pc) true a2 hv.1 hv.2 (by show (0 : Int) ≤ 0; omega) (by show (0 : Int) < 256; omega) w
  rw [show S.wr (⟨2, b8, b4, false, true, lw, 0, false, false, false, false, false, li, 0, 0, 0, 7, 0, 0, false⟩ : S.Pc) true a2 = (⟨3, b8, b4, false, true, lw, a2, false, false, false, false, false, li, 0, 0, 0, 7, 0, 0, false⟩ : S.Pc) from rfl] at h
  exact h
theorem q01_3 (b8 b4 : Bool) (lw li a2 a3 a4 : Int) (hv : 0 ≤ a3 ∧ a3 < 256) (w : World) : Calls Try.prog 21 #[.agg #[.int .i64 3, .bool b8, .bool b4, .bool false, .bool true, .int .u8 lw, .int .u8 a2, .bool false, .bool false, .bool false, .bool false, .bool false, .int .u8 li, .int .u8 0, .int .u8 0, .int .u8 0, .int .i64 7, .int .i64 0, .int .i64 0, .bool false], .bool true, .int .u8 a3] w fun e w' => e = .returned (.agg #[.int .i64 4, .bool b8, .bool b4, .bool false, .bool true, .int .u8 lw, .int .u8 a2, .bool false, .bool false, .bool false, .bool false, .bool false, .int .u8 li, .int .u8 0, .int .u8 0, .int .u8 0, .int .i64 7, .int .i64 0, .int .i64 0, .bool false]) ∧ Adds w w' := by
  have h := write_any (⟨3, b8, b4, false, true, lw, a2, false, false, false, false, false, li, 0, 0, 0, 7, 0, 0, false⟩ : S.Pc) true a3 hv.1 hv.2 (by show (0 : Int) ≤ 0; omega) (by show (0 : Int) < 256; omega) w
  rw [show S.wr (⟨3, b8, b4, false, true, lw, a2, false, false, false, false, false, li, 0, 0, 0, 7, 0, 0, false⟩ : S.Pc) true a3 = (⟨4, b8, b4, false, true, lw, a2, false, false, false, false, false, li, 0, 0, 0, 7, 0, 0, false⟩ : S.Pc) from rfl] at h
  exact h
theorem q01_4 (b8 b4 : Bool) (lw li a2 a3 a4 : Int) (hv : 0 ≤ a4 ∧ a4 < 256) (w : World) : Calls Try.prog 21 #[.agg #[.int .i64 4, .bool b8, .bool b4, .bool false, .bool true, .int .u8 lw, .int .u8 a2, .bool false, .bool false, .bool false, .bool false, .bool false, .int .u8 li, .int .u8 0, .int .u8 0, .int .u8 0, .int .i64 7, .int .i64 0, .int .i64 0, .bool false], .bool true, .int .u8 a4] w fun e w' => e = .returned (.agg #[.int .i64 0, .bool b8, .bool b4, .bool false, .bool true, .int .u8 lw, .int .u8 a2, .bool (bits .and .u8 a4 2 != 0), .bool false, .bool false, .bool false, .bool false, .int .u8 li, .int .u8 0, .int .u8 0, .int .u8 0, .int .i64 7, .int .i64 0, .int .i64 0, .bool false]) ∧ Adds w w' := by
  have h := write_any (⟨4, b8, b4, false, true, lw, a2, false, false, false, false, false, li, 0, 0, 0, 7, 0, 0, false⟩ : S.Pc) true a4 hv.1 hv.2 (by show (0 : Int) ≤ 0; omega) (by show (0 : Int) < 256; omega) w
  rw [show S.wr (⟨4, b8, b4, false, true, lw, a2, false, false, false, false, false, li, 0, 0, 0, 7, 0, 0, false⟩ : S.Pc) true a4 = (⟨0, b8, b4, false, true, lw, a2, bits .and .u8 a4 2 != 0, false, false, false, false, li, 0, 0, 0, 7, 0, 0, false⟩ : S.Pc) from rfl] at h
  exact h
theorem q01_5 (b8 b4 : Bool) (lw li a2 a3 a4 : Int) (hv : 0 ≤ a3 ∧ a3 < 256) (w : World) : Calls Try.prog 21 #[.agg #[.int .i64 0, .bool b8, .bool b4, .bool false, .bool true, .int .u8 lw, .int .u8 a2, .bool (bits .and .u8 a4 2 != 0), .bool false, .bool false, .bool false, .bool false, .int .u8 li, .int .u8 0, .int .u8 0, .int .u8 0, .int .i64 7, .int .i64 0, .int .i64 0, .bool false], .bool true, .int .u8 a3] w fun e w' => e = .returned (.agg #[.int .i64 0, .bool b8, .bool b4, .bool false, .bool true, .int .u8 lw, .int .u8 a2, .bool (bits .and .u8 a4 2 != 0), .bool false, .bool false, .bool false, .bool false, .int .u8 li, .int .u8 0, .int .u8 0, .int .u8 a3, .int .i64 7, .int .i64 0, .int .i64 0, .bool false]) ∧ Adds w w' := by
  have h := write_any (⟨0, b8, b4, false, true, lw, a2, bits .and .u8 a4 2 != 0, false, false, false, false, li, 0, 0, 0, 7, 0, 0, false⟩ : S.Pc) true a3 hv.1 hv.2 (by show (0 : Int) ≤ 0; omega) (by show (0 : Int) < 256; omega) w
  rw [show S.wr (⟨0, b8, b4, false, true, lw, a2, bits .and .u8 a4 2 != 0, false, false, false, false, li, 0, 0, 0, 7, 0, 0, false⟩ : S.Pc) true a3 = (⟨0, b8, b4, false, true, lw, a2, bits .and .u8 a4 2 != 0, false, false, false, false, li, 0, 0, a3, 7, 0, 0, false⟩ : S.Pc) from rfl] at h
  exact h
theorem q10_2 (b8 b4 : Bool) (lw li a2 a3 a4 : Int) (hv : 0 ≤ a2 ∧ a2 < 256) (w : World) : Calls Try.prog 21 #[.agg #[.int .i64 2, .bool b8, .bool b4, .bool true, .bool false, .int .u8 lw, .int .u8 0, .bool false, .bool false, .bool false, .bool false, .bool false, .int .u8 li, .int .u8 0, .int .u8 0, .int .u8 0, .int .i64 7, .int .i64 0, .int .i64 0, .bool false], .bool true, .int .u8 a2] w fun e w' => e = .returned (.agg #[.int .i64 0, .bool b8, .bool b4, .bool true, .bool false, .int .u8 lw, .int .u8 a2, .bool false, .bool false, .bool false, .bool false, .bool false, .int .u8 li, .int .u8 0, .int .u8 0, .int .u8 0, .int .i64 7, .int .i64 0, .int .i64 0, .bool false]) ∧ Adds w w' := by
  have h := write_any (⟨2, b8, b4, true, false, lw, 0, false, false, false, false, false, li, 0, 0, 0, 7, 0, 0, false⟩ : S.Pc) true a2 hv.1 hv.2 (by show (0 : Int) ≤ 0; omega) (by show (0 : Int) < 256; omega) w
  rw [show S.wr (⟨2, b8, b4, true, false, lw, 0, false, false, false, false, false, li, 0, 0, 0, 7, 0, 0, false⟩ : S.Pc) true a2 = (⟨0, b8, b4, true, false, lw, a2, false, false, false, false, false, li, 0, 0, 0, 7, 0, 0, false⟩ : S.Pc) from rfl] at h
  exact h
theorem q10_3 (b8 b4 : Bool) (lw li a2 a3 a4 : Int) (hv : 0 ≤ a3 ∧ a3 < 256) (w : World) : Calls Try.prog 21 #[.agg #[.int .i64 0, .bool b8, .bool b4, .bool true, .bool false, .int .u8 lw, .int .u8 a2, .bool false, .bool false, .bool false, .bool false, .bool false, .int .u8 li, .int .u8 0, .int .u8 0, .int .u8 0, .int .i64 7, .int .i64 0, .int .i64 0, .bool false], .bool true, .int .u8 a3] w fun e w' => e = .returned (.agg #[.int .i64 0, .bool b8, .bool b4, .bool true, .bool false, .int .u8 lw, .int .u8 a2, .bool false, .bool false, .bool false, .bool false, .bool false, .int .u8 li, .int .u8 0, .int .u8 0, .int .u8 a3, .int .i64 7, .int .i64 0, .int .i64 0, .bool false]) ∧ Adds w w' := by
  have h := write_any (⟨0, b8, b4, true, false, lw, a2, false, false, false, false, false, li, 0, 0, 0, 7, 0, 0, false⟩ : S.Pc) true a3 hv.1 hv.2 (by show (0 : Int) ≤ 0; omega) (by show (0 : Int) < 256; omega) w
  rw [show S.wr (⟨0, b8, b4, true, false, lw, a2, false, false, false, false, false, li, 0, 0, 0, 7, 0, 0, false⟩ : S.Pc) true a3 = (⟨0, b8, b4, true, false, lw, a2, false, false, false, false, false, li, 0, 0, a3, 7, 0, 0, false⟩ : S.Pc) from rfl] at h
  exact h
theorem q11_2 (b8 b4 : Bool) (lw li a2 a3 a4 : Int) (hv : 0 ≤ a2 ∧ a2 < 256) (w : World) : Calls Try.prog 21 #[.agg #[.int .i64 2, .bool b8, .bool b4, .bool true, .bool true, .int .u8 lw, .int .u8 0, .bool false, .bool false, .bool false, .bool false, .bool false, .int .u8 li, .int .u8 0, .int .u8 0, .int .u8 0, .int .i64 7, .int .i64 0, .int .i64 0, .bool false], .bool true, .int .u8 a2] w fun e w' => e = .returned (.agg #[.int .i64 4, .bool b8, .bool b4, .bool true, .bool true, .int .u8 lw, .int .u8 a2, .bool false, .bool false, .bool false, .bool false, .bool false, .int .u8 li, .int .u8 0, .int .u8 0, .int .u8 0, .int .i64 7, .int .i64 0, .int .i64 0, .bool false]) ∧ Adds w w' := by
  have h := write_any (⟨2, b8, b4, true, true, lw, 0, false, false, false, false, false, li, 0, 0, 0, 7, 0, 0, false⟩ : S.Pc) true a2 hv.1 hv.2 (by show (0 : Int) ≤ 0; omega) (by show (0 : Int) < 256; omega) w
  rw [show S.wr (⟨2, b8, b4, true, true, lw, 0, false, false, false, false, false, li, 0, 0, 0, 7, 0, 0, false⟩ : S.Pc) true a2 = (⟨4, b8, b4, true, true, lw, a2, false, false, false, false, false, li, 0, 0, 0, 7, 0, 0, false⟩ : S.Pc) from rfl] at h
  exact h
theorem q11_3 (b8 b4 : Bool) (lw li a2 a3 a4 : Int) (hv : 0 ≤ a4 ∧ a4 < 256) (w : World) : Calls Try.prog 21 #[.agg #[.int .i64 4, .bool b8, .bool b4, .bool true, .bool true, .int .u8 lw, .int .u8 a2, .bool false, .bool false, .bool false, .bool false, .bool false, .int .u8 li, .int .u8 0, .int .u8 0, .int .u8 0, .int .i64 7, .int .i64 0, .int .i64 0, .bool false], .bool true, .int .u8 a4] w fun e w' => e = .returned (.agg #[.int .i64 0, .bool b8, .bool b4, .bool true, .bool true, .int .u8 lw, .int .u8 a2, .bool (bits .and .u8 a4 2 != 0), .bool false, .bool false, .bool false, .bool false, .int .u8 li, .int .u8 0, .int .u8 0, .int .u8 0, .int .i64 7, .int .i64 0, .int .i64 0, .bool false]) ∧ Adds w w' := by
  have h := write_any (⟨4, b8, b4, true, true, lw, a2, false, false, false, false, false, li, 0, 0, 0, 7, 0, 0, false⟩ : S.Pc) true a4 hv.1 hv.2 (by show (0 : Int) ≤ 0; omega) (by show (0 : Int) < 256; omega) w
  rw [show S.wr (⟨4, b8, b4, true, true, lw, a2, false, false, false, false, false, li, 0, 0, 0, 7, 0, 0, false⟩ : S.Pc) true a4 = (⟨0, b8, b4, true, true, lw, a2, bits .and .u8 a4 2 != 0, false, false, false, false, li, 0, 0, 0, 7, 0, 0, false⟩ : S.Pc) from rfl] at h
  exact h
theorem q11_4 (b8 b4 : Bool) (lw li a2 a3 a4 : Int) (hv : 0 ≤ a3 ∧ a3 < 256) (w : World) : Calls Try.prog 21 #[.agg #[.int .i64 0, .bool b8, .bool b4, .bool true, .bool true, .int .u8 lw, .int .u8 a2, .bool (bits .and .u8 a4 2 != 0), .bool false, .bool false, .bool false, .bool false, .int .u8 li, .int .u8 0, .int .u8 0, .int .u8 0, .int .i64 7, .int .i64 0, .int .i64 0, .bool false], .bool true, .int .u8 a3] w fun e w' => e = .returned (.agg #[.int .i64 0, .bool b8, .bool b4, .bool true, .bool true, .int .u8 lw, .int .u8 a2, .bool (bits .and .u8 a4 2 != 0), .bool false, .bool false, .bool false, .bool false, .int .u8 li, .int .u8 0, .int .u8 0, .int .u8 a3, .int .i64 7, .int .i64 0, .int .i64 0, .bool false]) ∧ Adds w w' := by
  have h := write_any (⟨0, b8, b4, true, true, lw, a2, bits .and .u8 a4 2 != 0, false, false, false, false, li, 0, 0, 0, 7, 0, 0, false⟩ : S.Pc) true a3 hv.1 hv.2 (by show (0 : Int) ≤ 0; omega) (by show (0 : Int) < 256; omega) w
  rw [show S.wr (⟨0, b8, b4, true, true, lw, a2, bits .and .u8 a4 2 != 0, false, false, false, false, li, 0, 0, 0, 7, 0, 0, false⟩ : S.Pc) true a3 = (⟨0, b8, b4, true, true, lw, a2, bits .and .u8 a4 2 != 0, false, false, false, false, li, 0, 0, a3, 7, 0, 0, false⟩ : S.Pc) from rfl] at h
  exact h
set_option maxRecDepth 100000 in
set_option maxHeartbeats 4000000 in
theorem core (p : S.Pc) (ok : S.Ok p) (a1 a2 a3 a4 : Int) (hv1 : Hid (0 ≤ a1 ∧ a1 < 256)) (hv2 : Hid (0 ≤ a2 ∧ a2 < 256)) (hv3 : Hid (0 ≤ a3 ∧ a3 < 256)) (hv4 : Hid (0 ≤ a4 ∧ a4 < 256)) (w : World) :
    Calls Try.prog 9 #[.agg #[.int .i64 p.St, .bool p.Le, .bool p.Fo, .bool p.Si, .bool p.Ft, .int .u8 p.Lw, .int .u8 p.Hg, .bool p.Au, .bool p.Ro, .bool p.Sp, .bool p.RI, .bool p.Po, .int .u8 p.Li, .int .u8 p.Ed, .int .u8 p.IS, .int .u8 p.IM, .int .i64 p.Lo, .int .i64 p.Sq, .int .i64 p.Sv, .bool p.Su], .int .u8 a1, .int .u8 a2, .int .u8 a3, .int .u8 a4] w fun e w' => e = .returned (.bool true) ∧ Below w.heap.size w w' := by
  have okp : Hid (S.Ok p) := ok
  clear ok
  by_cases h2 : bits .and .u8 a1 2 = 0
  · by_cases h1 : bits .and .u8 a1 1 = 0
    · have E2 : Hid _ := (by simpa using h2 : (bits .and .u8 a1 2 != 0) = false)
      have E1 : Hid _ := (by simpa using h1 : (bits .and .u8 a1 1 != 0) = false)
      go_enter Try.func9, Try.ntmps9
      go_wp2_with (first | (go_at_call 21; (with_reducible refine (p1 p okp.out a1 hv1.out false false E2.out E1.out _).mono ?_); rintro e w' ⟨rfl, ⟨⟨m1, ms1⟩, rfl⟩⟩) | (go_at_call 21; (with_reducible refine (q00_2 _ _ _ _ a2 a3 a4 hv2.out _).mono ?_); rintro e w' ⟨rfl, ⟨⟨m1, ms1⟩, rfl⟩⟩) | (go_at_call 21; (with_reducible refine (q00_3 _ _ _ _ a2 a3 a4 hv3.out _).mono ?_); rintro e w' ⟨rfl, ⟨⟨m1, ms1⟩, rfl⟩⟩) | (go_at_call 21; (with_reducible refine (q00_4 _ _ _ _ a2 a3 a4 hv3.out _).mono ?_); rintro e w' ⟨rfl, ⟨⟨m1, ms1⟩, rfl⟩⟩) | (go_at_call 10; refine (known22_any _).mono ?_; rintro e w' ⟨rfl, ⟨⟨nk, osk⟩, rfl⟩⟩))
      go_ret
      exact ⟨rfl, Adds.below (by (repeat (first | with_reducible exact Adds.refl _ | with_reducible apply Adds.drew | with_reducible apply Adds.drewN | with_reducible apply Adds.alloc | with_reducible apply Adds.more | (with_reducible refine Adds.setCell ?_ ?_ _) | (focus (simp [go_sem]; done)) | (focus (simp [go_sem]; omega)))))⟩
    · have E2 : Hid _ := (by simpa using h2 : (bits .and .u8 a1 2 != 0) = false)
      have E1 : Hid _ := (by simpa using h1 : (bits .and .u8 a1 1 != 0) = true)
      go_enter Try.func9, Try.ntmps9
      go_wp2_with (first | (go_at_call 21; (with_reducible refine (p1 p okp.out a1 hv1.out false true E2.out E1.out _).mono ?_); rintro e w' ⟨rfl, ⟨⟨m1, ms1⟩, rfl⟩⟩) | (go_at_call 21; (with_reducible refine (q01_2 _ _ _ _ a2 a3 a4 hv2.out _).mono ?_); rintro e w' ⟨rfl, ⟨⟨m1, ms1⟩, rfl⟩⟩) | (go_at_call 21; (with_reducible refine (q01_3 _ _ _ _ a2 a3 a4 hv3.out _).mono ?_); rintro e w' ⟨rfl, ⟨⟨m1, ms1⟩, rfl⟩⟩) | (go_at_call 21; (with_reducible refine (q01_4 _ _ _ _ a2 a3 a4 hv4.out _).mono ?_); rintro e w' ⟨rfl, ⟨⟨m1, ms1⟩, rfl⟩⟩) | (go_at_call 21; (with_reducible refine (q01_5 _ _ _ _ a2 a3 a4 hv3.out _).mono ?_); rintro e w' ⟨rfl, ⟨⟨m1, ms1⟩, rfl⟩⟩) | (go_at_call 10; refine (known22_any _).mono ?_; rintro e w' ⟨rfl, ⟨⟨nk, osk⟩, rfl⟩⟩))
      go_ret
      exact ⟨rfl, Adds.below (by (repeat (first | with_reducible exact Adds.refl _ | with_reducible apply Adds.drew | with_reducible apply Adds.drewN | with_reducible apply Adds.alloc | with_reducible apply Adds.more | (with_reducible refine Adds.setCell ?_ ?_ _) | (focus (simp [go_sem]; done)) | (focus (simp [go_sem]; omega)))))⟩
  · by_cases h1 : bits .and .u8 a1 1 = 0
    · have E2 : Hid _ := (by simpa using h2 : (bits .and .u8 a1 2 != 0) = true)
      have E1 : Hid _ := (by simpa using h1 : (bits .and .u8 a1 1 != 0) = false)
      go_enter Try.func9, Try.ntmps9
      go_wp2_with (first | (go_at_call 21; (with_reducible refine (p1 p okp.out a1 hv1.out true false E2.out E1.out _).mono ?_); rintro e w' ⟨rfl, ⟨⟨m1, ms1⟩, rfl⟩⟩) | (go_at_call 21; (with_reducible refine (q10_2 _ _ _ _ a2 a3 a4 hv2.out _).mono ?_); rintro e w' ⟨rfl, ⟨⟨m1, ms1⟩, rfl⟩⟩) | (go_at_call 21; (with_reducible refine (q10_3 _ _ _ _ a2 a3 a4 hv3.out _).mono ?_); rintro e w' ⟨rfl, ⟨⟨m1, ms1⟩, rfl⟩⟩) | (go_at_call 10; refine (known22_any _).mono ?_; rintro e w' ⟨rfl, ⟨⟨nk, osk⟩, rfl⟩⟩))
      go_ret
      exact ⟨rfl, Adds.below (by (repeat (first | with_reducible exact Adds.refl _ | with_reducible apply Adds.drew | with_reducible apply Adds.drewN | with_reducible apply Adds.alloc | with_reducible apply Adds.more | (with_reducible refine Adds.setCell ?_ ?_ _) | (focus (simp [go_sem]; done)) | (focus (simp [go_sem]; omega)))))⟩
    · have E2 : Hid _ := (by simpa using h2 : (bits .and .u8 a1 2 != 0) = true)
      have E1 : Hid _ := (by simpa using h1 : (bits .and .u8 a1 1 != 0) = true)
      go_enter Try.func9, Try.ntmps9
      go_wp2_with (first | (go_at_call 21; (with_reducible refine (p1 p okp.out a1 hv1.out true true E2.out E1.out _).mono ?_); rintro e w' ⟨rfl, ⟨⟨m1, ms1⟩, rfl⟩⟩) | (go_at_call 21; (with_reducible refine (q11_2 _ _ _ _ a2 a3 a4 hv2.out _).mono ?_); rintro e w' ⟨rfl, ⟨⟨m1, ms1⟩, rfl⟩⟩) | (go_at_call 21; (with_reducible refine (q11_3 _ _ _ _ a2 a3 a4 hv4.out _).mono ?_); rintro e w' ⟨rfl, ⟨⟨m1, ms1⟩, rfl⟩⟩) | (go_at_call 21; (with_reducible refine (q11_4 _ _ _ _ a2 a3 a4 hv3.out _).mono ?_); rintro e w' ⟨rfl, ⟨⟨m1, ms1⟩, rfl⟩⟩) | (go_at_call 10; refine (known22_any _).mono ?_; rintro e w' ⟨rfl, ⟨⟨nk, osk⟩, rfl⟩⟩))
      go_ret
      exact ⟨rfl, Adds.below (by (repeat (first | with_reducible exact Adds.refl _ | with_reducible apply Adds.drew | with_reducible apply Adds.drewN | with_reducible apply Adds.alloc | with_reducible apply Adds.more | (with_reducible refine Adds.setCell ?_ ?_ _) | (focus (simp [go_sem]; done)) | (focus (simp [go_sem]; omega)))))⟩
set_option maxRecDepth 100000 in
set_option maxHeartbeats 2000000 in
/-- The walk. -/
theorem walk (a0_Stage : Int) (a0_Level : Bool) (a0_Four : Bool) (a0_Single : Bool) (a0_Fourth : Bool) (a0_Low : Int) (a0_High : Int) (a0_Auto : Bool) (a0_Rotate : Bool) (a0_Special : Bool) (a0_ReadISR : Bool) (a0_Poll : Bool) (a0_Lines : Int) (a0_Edge : Int) (a0_ISR : Int) (a0_IMR : Int) (a0_Lowest : Int) (a0_Step : Int) (a0_Serving : Int) (a0_Spurious : Bool) (a1 : Int) (a2 : Int) (a3 : Int) (a4 : Int) (w : World) (w0_Stage : (Lit.int .i64 a0_Stage).wf = true) (w0_Low : (Lit.int .u8 a0_Low).wf = true) (w0_High : (Lit.int .u8 a0_High).wf = true) (w0_Lines : (Lit.int .u8 a0_Lines).wf = true) (w0_Edge : (Lit.int .u8 a0_Edge).wf = true) (w0_ISR : (Lit.int .u8 a0_ISR).wf = true) (w0_IMR : (Lit.int .u8 a0_IMR).wf = true) (w0_Lowest : (Lit.int .i64 a0_Lowest).wf = true) (w0_Step : (Lit.int .i64 a0_Step).wf = true) (w0_Serving : (Lit.int .i64 a0_Serving).wf = true) (w1 : (Lit.int .u8 a1).wf = true) (w2 : (Lit.int .u8 a2).wf = true) (w3 : (Lit.int .u8 a3).wf = true) (w4 : (Lit.int .u8 a4).wf = true) :
    Calls Try.prog 9 #[.agg #[.int .i64 a0_Stage, .bool a0_Level, .bool a0_Four, .bool a0_Single, .bool a0_Fourth, .int .u8 a0_Low, .int .u8 a0_High, .bool a0_Auto, .bool a0_Rotate, .bool a0_Special, .bool a0_ReadISR, .bool a0_Poll, .int .u8 a0_Lines, .int .u8 a0_Edge, .int .u8 a0_ISR, .int .u8 a0_IMR, .int .i64 a0_Lowest, .int .i64 a0_Step, .int .i64 a0_Serving, .bool a0_Spurious], .int .u8 a1, .int .u8 a2, .int .u8 a3, .int .u8 a4] w fun e w' => e = .returned (.bool true) ∧ Below w.heap.size w w' := by
  have b1 := b256 (bounds_u8 w1)
  have hv2 : Hid _ := b256 (bounds_u8 w2)
  have hv3 : Hid _ := b256 (bounds_u8 w3)
  have hv4 : Hid _ := b256 (bounds_u8 w4)
  exact core ⟨a0_Stage, a0_Level, a0_Four, a0_Single, a0_Fourth, a0_Low, a0_High, a0_Auto, a0_Rotate, a0_Special, a0_ReadISR, a0_Poll, a0_Lines, a0_Edge, a0_ISR, a0_IMR, a0_Lowest, a0_Step, a0_Serving, a0_Spurious⟩ ⟨b256 (bounds_u8 w0_ISR), b256 (bounds_u8 w0_Low), b256 (bounds_u8 w0_High)⟩ a1 a2 a3 a4 b1 hv2 hv3 hv4 w


set_option maxRecDepth 100000 in
theorem lifted (os : Os) (started : os.Started) (H : Type) (enc : TypeId × Value → H) :
    ReturnsInHanded {} Try.checked os 9 .any (Rows.picInitializesSpec.pre6 enc Try.prog Try.f9 Rows.picInitializesRow.domain false) (Rows.picInitializesSpec.post enc Try.prog Try.f9 false true false false) := by
  refine returnsInHanded_of_change (C := Try.checked) own started (by kernel_rfl) Try.func9
    (ChangeSpec.witness6 (enc := enc) (C := Try.checked) false ⟨#[], #[.agg #[.int .i64 0, .bool false, .bool false, .bool false, .bool false, .int .u8 0, .int .u8 0, .bool false, .bool false, .bool false, .bool false, .bool false, .int .u8 0, .int .u8 0, .int .u8 0, .int .u8 0, .int .i64 0, .int .i64 0, .int .i64 0, .bool false], .int .u8 0, .int .u8 0, .int .u8 0, .int .u8 0], []⟩ 8 (by kernel_rfl) (by kernel_rfl) (by kernel_rfl) (by kernel_rfl)) ?_
  intro W base args ds gs before hval0 hW hcnd _
  have hval : ∀ (j : Nat) t v, Try.f9.params[j]? = some t → args[j]? = some v → Value.okWide Try.prog W .any base t v := hval0
  have hW' := hW
  obtain ⟨p, q, hA0, hV, rfl, hfz, hnd⟩ := hW
  have hA : DataW.TrodAll enc Try.prog W 0 (fun _ => true) true Try.f9.params.toList args.toList ds p := hA0
  rw [Try.params9] at hA hval
  obtain ⟨v0, vs0, d0, ds0, p0, q0, hargs, rfl, rfl, h0, r0⟩ := trodAll_cons hA
  obtain ⟨v1, vs1, d1, ds1, p1, q1, rfl, rfl, rfl, h1, r1⟩ := trodAll_cons r0
  obtain ⟨v2, vs2, d2, ds2, p2, q2, rfl, rfl, rfl, h2, r2⟩ := trodAll_cons r1
  obtain ⟨v3, vs3, d3, ds3, p3, q3, rfl, rfl, rfl, h3, r3⟩ := trodAll_cons r2
  obtain ⟨v4, vs4, d4, ds4, p4, q4, rfl, rfl, rfl, h4, r4⟩ := trodAll_cons r3
  obtain ⟨rfl, rfl, rfl⟩ := trodAll_nil r4
  obtain rfl : args = #[v0, v1, v2, v3, v4] := by cases args; simp_all
  obtain ⟨rfl, rfl⟩ := trodVars_none hV
  have k0 := h0
  have lt0 : ∀ x ∈ p0, x.block < W.heap.size := by obtain ⟨m, hm⟩ := k0; exact DataW.trod_lt m _ _ _ hm
  obtain ⟨l0, rfl, g0_0⟩ := open_flat 9 [.int .i64, .bool, .bool, .bool, .bool, .int .u8, .int .u8, .bool, .bool, .bool, .bool, .bool, .int .u8, .int .u8, .int .u8, .int .u8, .int .i64, .int .i64, .int .i64, .bool] _ Try.underlying23 (by kernel_rfl) (hval 0 23 v0 rfl rfl) h0
  obtain ⟨a0_Stage, l0_1, rfl, w0_Stage, g0_1⟩ := fits_int g0_0
  obtain ⟨a0_Level, l0_2, rfl, g0_2⟩ := fits_bool g0_1
  obtain ⟨a0_Four, l0_3, rfl, g0_3⟩ := fits_bool g0_2
  obtain ⟨a0_Single, l0_4, rfl, g0_4⟩ := fits_bool g0_3
  obtain ⟨a0_Fourth, l0_5, rfl, g0_5⟩ := fits_bool g0_4
  obtain ⟨a0_Low, l0_6, rfl, w0_Low, g0_6⟩ := fits_int g0_5
  obtain ⟨a0_High, l0_7, rfl, w0_High, g0_7⟩ := fits_int g0_6
  obtain ⟨a0_Auto, l0_8, rfl, g0_8⟩ := fits_bool g0_7
  obtain ⟨a0_Rotate, l0_9, rfl, g0_9⟩ := fits_bool g0_8
  obtain ⟨a0_Special, l0_10, rfl, g0_10⟩ := fits_bool g0_9
  obtain ⟨a0_ReadISR, l0_11, rfl, g0_11⟩ := fits_bool g0_10
  obtain ⟨a0_Poll, l0_12, rfl, g0_12⟩ := fits_bool g0_11
  obtain ⟨a0_Lines, l0_13, rfl, w0_Lines, g0_13⟩ := fits_int g0_12
  obtain ⟨a0_Edge, l0_14, rfl, w0_Edge, g0_14⟩ := fits_int g0_13
  obtain ⟨a0_ISR, l0_15, rfl, w0_ISR, g0_15⟩ := fits_int g0_14
  obtain ⟨a0_IMR, l0_16, rfl, w0_IMR, g0_16⟩ := fits_int g0_15
  obtain ⟨a0_Lowest, l0_17, rfl, w0_Lowest, g0_17⟩ := fits_int g0_16
  obtain ⟨a0_Step, l0_18, rfl, w0_Step, g0_18⟩ := fits_int g0_17
  obtain ⟨a0_Serving, l0_19, rfl, w0_Serving, g0_19⟩ := fits_int g0_18
  obtain ⟨a0_Spurious, l0_20, rfl, g0_20⟩ := fits_bool g0_19
  obtain rfl := fits_nil g0_20
  have k1 := h1
  have lt1 : ∀ x ∈ p1, x.block < W.heap.size := by obtain ⟨m, hm⟩ := k1; exact DataW.trod_lt m _ _ _ hm
  obtain ⟨a1, rfl, -, -, w1⟩ := open_int Try.underlying5 (hval 1 5 v1 rfl rfl) h1
  have k2 := h2
  have lt2 : ∀ x ∈ p2, x.block < W.heap.size := by obtain ⟨m, hm⟩ := k2; exact DataW.trod_lt m _ _ _ hm
  obtain ⟨a2, rfl, -, -, w2⟩ := open_int Try.underlying5 (hval 2 5 v2 rfl rfl) h2
  have k3 := h3
  have lt3 : ∀ x ∈ p3, x.block < W.heap.size := by obtain ⟨m, hm⟩ := k3; exact DataW.trod_lt m _ _ _ hm
  obtain ⟨a3, rfl, -, -, w3⟩ := open_int Try.underlying5 (hval 3 5 v3 rfl rfl) h3
  have k4 := h4
  have lt4 : ∀ x ∈ p4, x.block < W.heap.size := by obtain ⟨m, hm⟩ := k4; exact DataW.trod_lt m _ _ _ hm
  obtain ⟨a4, rfl, -, -, w4⟩ := open_int Try.underlying5 (hval 4 5 v4 rfl rfl) h4
  clear hA0 hval0
  refine (walk a0_Stage a0_Level a0_Four a0_Single a0_Fourth a0_Low a0_High a0_Auto a0_Rotate a0_Special a0_ReadISR a0_Poll a0_Lines a0_Edge a0_ISR a0_IMR a0_Lowest a0_Step a0_Serving a0_Spurious a1 a2 a3 a4 W w0_Stage w0_Low w0_High w0_Lines w0_Edge w0_ISR w0_IMR w0_Lowest w0_Step w0_Serving w1 w2 w3 w4).mono fun e W' ⟨he, bel⟩ => ?_
  subst he
  exact ⟨_, rfl, _, _, _, [], _, [], hW', trodAll_mk1 (shut_bool Try.underlying4 _), (trodAll_cons_mk (Below.trod laidOut (by kernel_rfl) (of_decide_eq_true (by kernel_rfl)) k0 bel lt0) (trodAll_cons_mk (Below.trod laidOut (by kernel_rfl) (of_decide_eq_true (by kernel_rfl)) k1 bel lt1) (trodAll_cons_mk (Below.trod laidOut (by kernel_rfl) (of_decide_eq_true (by kernel_rfl)) k2 bel lt2) (trodAll_cons_mk (Below.trod laidOut (by kernel_rfl) (of_decide_eq_true (by kernel_rfl)) k3 bel lt3) (trodAll_cons_mk (Below.trod laidOut (by kernel_rfl) (of_decide_eq_true (by kernel_rfl)) k4 bel lt4) trodAll_mk0))))), rfl, bel.frame _, fun h => by cases h⟩

theorem over : Rows.picInitializesRow.holds Try.pinned (OpenSpec.ofChange Rows.picInitializesSpec) :=
  OpenClaim.holds_of_wide 9 Try.f9 rfl rfl rfl rfl rfl rfl rfl ⟨rfl, rfl, rfl, rfl, rfl⟩ rfl rfl rfl rfl rfl (by kernel_rfl) Try.func9 (by kernel_rfl)
    (of_decide_eq_true (by kernel_rfl)) (by unfold Func.isWrapper; first | (rw [if_pos (by decide +kernel)]; kernel_rfl) | (rw [if_neg (by decide +kernel)]; exact ⟨rfl, rfl⟩))
    (fun os started H enc _ => lifted os started H enc)

/-- The statement. -/
theorem proved : Rows.PicInitializesSaid := over
#print axioms proved
end Go.Proofs.Ytionembpmfahlaa.picInitializes
