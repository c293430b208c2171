/- The statement IrqPrioritySaid of package tstatelaw15: for every input the law returns true, and its arguments read as before. No condition. -/
import Derived.Test.YtaanpmmhhgnklaaRows
import Derived.Test.YtaanpmmhhgnklaaM1
import Derived.Test.YtaanpmmhhgnklaaC15k
import Derived.Test.YtaanpmmhhgnklaaCP
import Derived.WalkKit
import Derived.ProofKit
import Derived.OpenShut
import Derived.ShutString
import Derived.ChangeOld
import Derived.Below
import Derived.Carry
namespace Go.Proofs.Ytaanpmmhhgnklaa.irqPriority
open Go.ChangeShapes Go.WideShapes Go.ChangeAt Go.RowKit
open Go.ChangeMaps (open_string shut_string)
set_option linter.unusedVariables false

theorem own : ownKnob Try.prog.godebug = none := by kernel_rfl
theorem laidOut : laidOutB Try.prog = true := by kernel_rfl

def IsRow (k : IntKind) (w : World) (a : Option Addr) (len cap : Nat) (zs : List Int) : Prop :=
  (a = none ∧ len = 0 ∧ cap = 0 ∧ zs = []) ∨
  ∃ x, a = some x ∧ len ≤ cap ∧ cap ≤ maxLen ∧ zs.length = cap ∧ (∀ i, i < zs.length → w.cell? (x.add i) = some (.int k (zs.getD i 0))) ∧ ∀ n ∈ zs, (Lit.int k n).wf = true

set_option maxRecDepth 100000 in
set_option maxHeartbeats 2000000 in
/-- The walk. -/
theorem walk (a0 : Option Addr) (len0 cap0 : Nat) (z0 : List Int) (w : World) (w0 : IsRow .i64 w a0 len0 cap0 z0) :
    Calls Try.prog 6 #[.slice a0 len0 cap0] w fun e w' => e = .returned (.bool true) ∧ Below w.heap.size w w' := by
  by_cases h80 : 80 < len0
  · clear w0
    go_enter Try.func6, Try.ntmps6
    go_wp2_with (go_at_call 9; refine (known15_any _).mono ?_; rintro e w' ⟨rfl, ⟨⟨nk, osk⟩, rfl⟩⟩)
    go_ret
    exact ⟨rfl, Adds.below (by (repeat (first | with_reducible exact Adds.refl _ | with_reducible apply Adds.drew | with_reducible apply Adds.drewN | with_reducible apply Adds.alloc | with_reducible apply Adds.more | (with_reducible refine Adds.setCell ?_ ?_ _) | (focus (simp [go_sem]; done)) | (focus (simp [go_sem]; omega)))))⟩
  have HN := Lib.hid (fun M : Nat => Nb.at (N := M) (b := w.heap.size) rfl w0 (by omega))
  have R0 := Lib.hid w0
  clear w0
  go_enter Try.func6, Try.ntmps6
  go_upto_region 4 with (go_at_call 10; (with_reducible refine (from_any a0 len0 cap0 _).mono ?_); rintro e w' ⟨rfl, rfl⟩)
  go_cut [4, 5] from 4 (fun p4 p5 wx => ∃ (c : S.Cp) (gRe gHo gRs gSi gTr gR7 gR6 gR5 gIn : Bool) (bc bl : Nat), p4 = .pointer (some ⟨bc, 0, none⟩) ∧ p5 = .pointer (some ⟨bl, 0, none⟩) ∧ InB bc wx ∧ InB bl wx ∧ rowOf wx bc = #[.int .i64 c.Ch, .int .u8 c.A, .int .u8 c.B, .int .u8 c.C, .int .u8 c.D, .int .u8 c.E, .int .u8 c.H, .int .u8 c.L, .bool c.fS, .bool c.fZ, .bool c.fK, .bool c.fAC, .bool c.fP, .bool c.fV, .bool c.fCY, .int .u16 c.SP, .int .u16 c.PC, .bool c.IE, .bool c.De, .bool c.Ha, .int .u8 c.Ma, .bool c.Tr, .bool c.R7, .bool c.WT, .bool c.W7, .bool c.Sa, .bool c.SI, .bool c.SO] ∧ rowOf wx bl = #[.bool gRe, .bool gHo, .bool gRs, .bool gSi, .bool gTr, .bool gR7, .bool gR6, .bool gR5, .bool gIn] ∧ Adds w wx)
  case first =>
    go_wp2_with (first
      | (go_at_call 11; (refine (cpu_any _ len0 cap0 0 a0 (by omega) _ (Nb.from (by simp [go_sem]) R0.out (by omega))).mono ?_); rintro e w' ⟨cp, M, ⟨hm0, hm1⟩, hM, rfl, ⟨n1, os1⟩, rfl⟩; simp only [S.Cp.cs])
      | (go_at_call 12; (refine (lns_one _ len0 cap0 M a0 (by omega) _ (Nb.more (HN.out _) _ _)).mono ?_); rintro e w' ⟨gRe, gHo, gRs, gSi, gTr, gR7, gR6, gR5, gIn, M2, hM2, rfl, ⟨n2, os2⟩, rfl⟩))
    go_meet
    exact ⟨cp, gRe, gHo, gRs, gSi, gTr, gR7, gR6, gR5, gIn, _, _, rfl, rfl, by simp [go_sem], by simp [go_sem], by simp [go_sem], by simp [go_sem], by (repeat (first | with_reducible exact Adds.refl _ | with_reducible apply Adds.drew | with_reducible apply Adds.drewN | with_reducible apply Adds.alloc | with_reducible apply Adds.more | (with_reducible refine Adds.setCell ?_ ?_ _) | (focus (simp [go_sem]; done)) | (focus (simp [go_sem]; omega))))⟩
  case rest =>
    obtain ⟨⟨cCh, cA, cB, cC, cD, cE, cH, cL, cfS, cfZ, cfK, cfAC, cfP, cfV, cfCY, cSP, cPC, cIE, cDe, cHa, cMa, cTr, cR7, cWT, cW7, cSa, cSI, cSO⟩, gRe, gHo, gRs, gSi, gTr, gR7, gR6, gR5, gIn, bc, bl, rfl, rfl, hbc, hbl, hC, hL, hA⟩ := hcut
    rename World => w4
    have q0 := rowOf_cell hC (i := 0) rfl
    have q1 := rowOf_cell hC (i := 17) rfl
    have q2 := rowOf_cell hC (i := 18) rfl
    have q3 := rowOf_cell hC (i := 20) rfl
    have q4 := rowOf_cell hC (i := 21) rfl
    have q5 := rowOf_cell hC (i := 22) rfl
    have q6 := rowOf_cell hL (i := 6) rfl
    have q7 := rowOf_cell hL (i := 7) rfl
    have q8 := rowOf_cell hL (i := 8) rfl
    have g4 : (bits .and .u8 cMa 4 == 0) = S.fr cMa 4 := rfl
    have g2 : (bits .and .u8 cMa 2 == 0) = S.fr cMa 2 := rfl
    have g1 : (bits .and .u8 cMa 1 == 0) = S.fr cMa 1 := rfl
    have HA := Lib.hid hA
    clear hA
    go_upto_region 6 with fail
    go_cut [7] from 7 (fun v wx => v = .bool (cIE && !cDe) ∧ wx = w4)
    case first =>
      go_wp2_with fail
      all_goals go_meet
      all_goals exact ⟨by simp [*], rfl⟩
    case rest =>
      obtain ⟨rfl, rfl⟩ := hcut
      rename World => w5
      go_upto_region 7 with fail
      go_cut [8] from 6 (fun v wx => ∃ (b : Nat) (d1 d2 d3 d4 d5 : Bool), v = .pointer (some ⟨b, 0, none⟩) ∧ b = w5.heap.size ∧ Hid (d1 = (decide (cCh = 2) && cTr) ∧ d2 = S.ask cCh (cIE && !cDe) cR7 (S.fr cMa 4) ∧ d3 = S.ask cCh (cIE && !cDe) gR6 (S.fr cMa 2) ∧ d4 = S.ask cCh (cIE && !cDe) gR5 (S.fr cMa 1) ∧ d5 = ((cIE && !cDe) && gIn)) ∧ wx = w5.alloc (.cells #[.bool true, .bool d1, .bool d2, .bool d3, .bool d4, .bool d5] 45))
      case first =>
        generalize hf : (cIE && !cDe) = f
        have HF := Lib.hid hf
        clear hf
        go_wp2_with fail
        all_goals go_meet
        all_goals have hf := HF.out
        all_goals exact ⟨_, _, _, _, _, _, rfl, rfl, ⟨by simp [*], by simp [S.ask, *], by simp [S.ask, *], by simp [S.ask, *], by simp [*]⟩, rfl⟩
      case rest =>
        obtain ⟨b, d1, d2, d3, d4, d5, rfl, rfl, HD, rfl⟩ := hcut
        obtain ⟨e1, e2, e3, e4, e5⟩ := HD.out
        clear HD
        rcases S.pik_spec cCh cIE cDe cMa cTr cR7 gR6 gR5 gIn with ⟨hk, h1, h2, h3, h4, h5⟩ | ⟨hk, h1⟩ | ⟨hk, h1, h2⟩ | ⟨hk, h1, h2, h3⟩ | ⟨hk, h1, h2, h3, h4⟩ | ⟨hk, h1, h2, h3, h4, h5⟩
        · have HK := Lib.hid hk
          clear hk g1 g2 g4 q0 q1 q2 q3 q4 q5 q6 q7 q8
          rw [h1] at e1
          subst e1
          clear h1
          rw [h2] at e2
          subst e2
          clear h2
          rw [h3] at e3
          subst e3
          clear h3
          rw [h4] at e4
          subst e4
          clear h4
          rw [h5] at e5
          subst e5
          clear h5
          go_wp2_with (go_at_call 15; (refine (pick_any _ _ _ _ _ _ _ _ _ _ _ _ _ _ _ _ _ _ _ _ _ _ _ _ _ _ _ _ _ _ _ _ _ _ _ _ _ _).mono ?_); rintro e w' ⟨rfl, ⟨⟨n3, os3⟩, rfl⟩⟩; rw [HK.out])
          go_loopw [10] (fun i wr => ∃ k : Int, (1 ≤ k ∧ k ≤ 6) ∧ i = .int .i64 k ∧ Adds (w5.alloc (.cells #[.bool true, .bool false, .bool false, .bool false, .bool false, .bool false] 45)) wr) (fun i _ => 6 - (intOf i).toNat)
          case atStart => exact ⟨1, by omega, rfl, by (repeat (first | with_reducible exact Adds.refl _ | with_reducible apply Adds.drew | with_reducible apply Adds.drewN | with_reducible apply Adds.alloc | with_reducible apply Adds.more | (with_reducible refine Adds.setCell ?_ ?_ _) | (focus (simp [go_sem]; done)) | (focus (simp [go_sem]; omega))))⟩
          case round =>
            obtain ⟨k, hk, rfl, ⟨⟨n0, os0⟩, rfl⟩⟩ := hrel
            rcases (by omega : k = 1 ∨ k = 2 ∨ k = 3 ∨ k = 4 ∨ k = 5 ∨ k = 6) with rfl | rfl | rfl | rfl | rfl | rfl
            · try cases d1
              all_goals go_wp2_with fail
              all_goals go_roundw
              all_goals first | exact ⟨2, by omega, rfl, by (repeat (first | with_reducible exact Adds.refl _ | with_reducible apply Adds.drew | with_reducible apply Adds.drewN | with_reducible apply Adds.alloc | with_reducible apply Adds.more | (with_reducible refine Adds.setCell ?_ ?_ _) | (focus (simp [go_sem]; done)) | (focus (simp [go_sem]; omega))))⟩ | simp [intOf]
            · try cases d2
              all_goals go_wp2_with fail
              all_goals go_roundw
              all_goals first | exact ⟨3, by omega, rfl, by (repeat (first | with_reducible exact Adds.refl _ | with_reducible apply Adds.drew | with_reducible apply Adds.drewN | with_reducible apply Adds.alloc | with_reducible apply Adds.more | (with_reducible refine Adds.setCell ?_ ?_ _) | (focus (simp [go_sem]; done)) | (focus (simp [go_sem]; omega))))⟩ | simp [intOf]
            · try cases d3
              all_goals go_wp2_with fail
              all_goals go_roundw
              all_goals first | exact ⟨4, by omega, rfl, by (repeat (first | with_reducible exact Adds.refl _ | with_reducible apply Adds.drew | with_reducible apply Adds.drewN | with_reducible apply Adds.alloc | with_reducible apply Adds.more | (with_reducible refine Adds.setCell ?_ ?_ _) | (focus (simp [go_sem]; done)) | (focus (simp [go_sem]; omega))))⟩ | simp [intOf]
            · try cases d4
              all_goals go_wp2_with fail
              all_goals go_roundw
              all_goals first | exact ⟨5, by omega, rfl, by (repeat (first | with_reducible exact Adds.refl _ | with_reducible apply Adds.drew | with_reducible apply Adds.drewN | with_reducible apply Adds.alloc | with_reducible apply Adds.more | (with_reducible refine Adds.setCell ?_ ?_ _) | (focus (simp [go_sem]; done)) | (focus (simp [go_sem]; omega))))⟩ | simp [intOf]
            · try cases d5
              all_goals go_wp2_with fail
              all_goals go_roundw
              all_goals first | exact ⟨6, by omega, rfl, by (repeat (first | with_reducible exact Adds.refl _ | with_reducible apply Adds.drew | with_reducible apply Adds.drewN | with_reducible apply Adds.alloc | with_reducible apply Adds.more | (with_reducible refine Adds.setCell ?_ ?_ _) | (focus (simp [go_sem]; done)) | (focus (simp [go_sem]; omega))))⟩ | simp [intOf]
            · go_wp2_with (go_at_call 9; refine (known15_any _).mono ?_; rintro e w' ⟨rfl, ⟨⟨nk, osk⟩, rfl⟩⟩)
              go_ret
              exact ⟨rfl, Adds.below (HA.out.trans (by (repeat (first | with_reducible exact Adds.refl _ | with_reducible apply Adds.drew | with_reducible apply Adds.drewN | with_reducible apply Adds.alloc | with_reducible apply Adds.more | (with_reducible refine Adds.setCell ?_ ?_ _) | (focus (simp [go_sem]; done)) | (focus (simp [go_sem]; omega))))))⟩
        · have HK := Lib.hid hk
          clear hk g1 g2 g4 q0 q1 q2 q3 q4 q5 q6 q7 q8
          rw [h1] at e1
          subst e1
          clear h1
          clear e2 e3 e4 e5
          go_wp2_with (go_at_call 15; (refine (pick_any _ _ _ _ _ _ _ _ _ _ _ _ _ _ _ _ _ _ _ _ _ _ _ _ _ _ _ _ _ _ _ _ _ _ _ _ _ _).mono ?_); rintro e w' ⟨rfl, ⟨⟨n3, os3⟩, rfl⟩⟩; rw [HK.out])
          go_loopw [10] (fun i wr => ∃ k : Int, (1 ≤ k ∧ k ≤ 6) ∧ i = .int .i64 k ∧ Adds (w5.alloc (.cells #[.bool true, .bool true, .bool d2, .bool d3, .bool d4, .bool d5] 45)) wr) (fun i _ => 6 - (intOf i).toNat)
          case atStart => exact ⟨1, by omega, rfl, by (repeat (first | with_reducible exact Adds.refl _ | with_reducible apply Adds.drew | with_reducible apply Adds.drewN | with_reducible apply Adds.alloc | with_reducible apply Adds.more | (with_reducible refine Adds.setCell ?_ ?_ _) | (focus (simp [go_sem]; done)) | (focus (simp [go_sem]; omega))))⟩
          case round =>
            obtain ⟨k, hk, rfl, ⟨⟨n0, os0⟩, rfl⟩⟩ := hrel
            rcases (by omega : k = 1 ∨ k = 2 ∨ k = 3 ∨ k = 4 ∨ k = 5 ∨ k = 6) with rfl | rfl | rfl | rfl | rfl | rfl
            · try cases d1
              all_goals go_wp2_with fail
              all_goals go_roundw
              all_goals first | exact ⟨2, by omega, rfl, by (repeat (first | with_reducible exact Adds.refl _ | with_reducible apply Adds.drew | with_reducible apply Adds.drewN | with_reducible apply Adds.alloc | with_reducible apply Adds.more | (with_reducible refine Adds.setCell ?_ ?_ _) | (focus (simp [go_sem]; done)) | (focus (simp [go_sem]; omega))))⟩ | simp [intOf]
            · try cases d2
              all_goals go_wp2_with fail
              all_goals go_roundw
              all_goals first | exact ⟨3, by omega, rfl, by (repeat (first | with_reducible exact Adds.refl _ | with_reducible apply Adds.drew | with_reducible apply Adds.drewN | with_reducible apply Adds.alloc | with_reducible apply Adds.more | (with_reducible refine Adds.setCell ?_ ?_ _) | (focus (simp [go_sem]; done)) | (focus (simp [go_sem]; omega))))⟩ | simp [intOf]
            · try cases d3
              all_goals go_wp2_with fail
              all_goals go_roundw
              all_goals first | exact ⟨4, by omega, rfl, by (repeat (first | with_reducible exact Adds.refl _ | with_reducible apply Adds.drew | with_reducible apply Adds.drewN | with_reducible apply Adds.alloc | with_reducible apply Adds.more | (with_reducible refine Adds.setCell ?_ ?_ _) | (focus (simp [go_sem]; done)) | (focus (simp [go_sem]; omega))))⟩ | simp [intOf]
            · try cases d4
              all_goals go_wp2_with fail
              all_goals go_roundw
              all_goals first | exact ⟨5, by omega, rfl, by (repeat (first | with_reducible exact Adds.refl _ | with_reducible apply Adds.drew | with_reducible apply Adds.drewN | with_reducible apply Adds.alloc | with_reducible apply Adds.more | (with_reducible refine Adds.setCell ?_ ?_ _) | (focus (simp [go_sem]; done)) | (focus (simp [go_sem]; omega))))⟩ | simp [intOf]
            · try cases d5
              all_goals go_wp2_with fail
              all_goals go_roundw
              all_goals first | exact ⟨6, by omega, rfl, by (repeat (first | with_reducible exact Adds.refl _ | with_reducible apply Adds.drew | with_reducible apply Adds.drewN | with_reducible apply Adds.alloc | with_reducible apply Adds.more | (with_reducible refine Adds.setCell ?_ ?_ _) | (focus (simp [go_sem]; done)) | (focus (simp [go_sem]; omega))))⟩ | simp [intOf]
            · go_wp2_with (go_at_call 9; refine (known15_any _).mono ?_; rintro e w' ⟨rfl, ⟨⟨nk, osk⟩, rfl⟩⟩)
              go_ret
              exact ⟨rfl, Adds.below (HA.out.trans (by (repeat (first | with_reducible exact Adds.refl _ | with_reducible apply Adds.drew | with_reducible apply Adds.drewN | with_reducible apply Adds.alloc | with_reducible apply Adds.more | (with_reducible refine Adds.setCell ?_ ?_ _) | (focus (simp [go_sem]; done)) | (focus (simp [go_sem]; omega))))))⟩
        · have HK := Lib.hid hk
          clear hk g1 g2 g4 q0 q1 q2 q3 q4 q5 q6 q7 q8
          rw [h1] at e1
          subst e1
          clear h1
          rw [h2] at e2
          subst e2
          clear h2
          clear e3 e4 e5
          go_wp2_with (go_at_call 15; (refine (pick_any _ _ _ _ _ _ _ _ _ _ _ _ _ _ _ _ _ _ _ _ _ _ _ _ _ _ _ _ _ _ _ _ _ _ _ _ _ _).mono ?_); rintro e w' ⟨rfl, ⟨⟨n3, os3⟩, rfl⟩⟩; rw [HK.out])
          go_loopw [10] (fun i wr => ∃ k : Int, (1 ≤ k ∧ k ≤ 6) ∧ i = .int .i64 k ∧ Adds (w5.alloc (.cells #[.bool true, .bool false, .bool true, .bool d3, .bool d4, .bool d5] 45)) wr) (fun i _ => 6 - (intOf i).toNat)
          case atStart => exact ⟨1, by omega, rfl, by (repeat (first | with_reducible exact Adds.refl _ | with_reducible apply Adds.drew | with_reducible apply Adds.drewN | with_reducible apply Adds.alloc | with_reducible apply Adds.more | (with_reducible refine Adds.setCell ?_ ?_ _) | (focus (simp [go_sem]; done)) | (focus (simp [go_sem]; omega))))⟩
          case round =>
            obtain ⟨k, hk, rfl, ⟨⟨n0, os0⟩, rfl⟩⟩ := hrel
            rcases (by omega : k = 1 ∨ k = 2 ∨ k = 3 ∨ k = 4 ∨ k = 5 ∨ k = 6) with rfl | rfl | rfl | rfl | rfl | rfl
            · try cases d1
              all_goals go_wp2_with fail
              all_goals go_roundw
              all_goals first | exact ⟨2, by omega, rfl, by (repeat (first | with_reducible exact Adds.refl _ | with_reducible apply Adds.drew | with_reducible apply Adds.drewN | with_reducible apply Adds.alloc | with_reducible apply Adds.more | (with_reducible refine Adds.setCell ?_ ?_ _) | (focus (simp [go_sem]; done)) | (focus (simp [go_sem]; omega))))⟩ | simp [intOf]
            · try cases d2
              all_goals go_wp2_with fail
              all_goals go_roundw
              all_goals first | exact ⟨3, by omega, rfl, by (repeat (first | with_reducible exact Adds.refl _ | with_reducible apply Adds.drew | with_reducible apply Adds.drewN | with_reducible apply Adds.alloc | with_reducible apply Adds.more | (with_reducible refine Adds.setCell ?_ ?_ _) | (focus (simp [go_sem]; done)) | (focus (simp [go_sem]; omega))))⟩ | simp [intOf]
            · try cases d3
              all_goals go_wp2_with fail
              all_goals go_roundw
              all_goals first | exact ⟨4, by omega, rfl, by (repeat (first | with_reducible exact Adds.refl _ | with_reducible apply Adds.drew | with_reducible apply Adds.drewN | with_reducible apply Adds.alloc | with_reducible apply Adds.more | (with_reducible refine Adds.setCell ?_ ?_ _) | (focus (simp [go_sem]; done)) | (focus (simp [go_sem]; omega))))⟩ | simp [intOf]
            · try cases d4
              all_goals go_wp2_with fail
              all_goals go_roundw
              all_goals first | exact ⟨5, by omega, rfl, by (repeat (first | with_reducible exact Adds.refl _ | with_reducible apply Adds.drew | with_reducible apply Adds.drewN | with_reducible apply Adds.alloc | with_reducible apply Adds.more | (with_reducible refine Adds.setCell ?_ ?_ _) | (focus (simp [go_sem]; done)) | (focus (simp [go_sem]; omega))))⟩ | simp [intOf]
            · try cases d5
              all_goals go_wp2_with fail
              all_goals go_roundw
              all_goals first | exact ⟨6, by omega, rfl, by (repeat (first | with_reducible exact Adds.refl _ | with_reducible apply Adds.drew | with_reducible apply Adds.drewN | with_reducible apply Adds.alloc | with_reducible apply Adds.more | (with_reducible refine Adds.setCell ?_ ?_ _) | (focus (simp [go_sem]; done)) | (focus (simp [go_sem]; omega))))⟩ | simp [intOf]
            · go_wp2_with (go_at_call 9; refine (known15_any _).mono ?_; rintro e w' ⟨rfl, ⟨⟨nk, osk⟩, rfl⟩⟩)
              go_ret
              exact ⟨rfl, Adds.below (HA.out.trans (by (repeat (first | with_reducible exact Adds.refl _ | with_reducible apply Adds.drew | with_reducible apply Adds.drewN | with_reducible apply Adds.alloc | with_reducible apply Adds.more | (with_reducible refine Adds.setCell ?_ ?_ _) | (focus (simp [go_sem]; done)) | (focus (simp [go_sem]; omega))))))⟩
        · have HK := Lib.hid hk
          clear hk g1 g2 g4 q0 q1 q2 q3 q4 q5 q6 q7 q8
          rw [h1] at e1
          subst e1
          clear h1
          rw [h2] at e2
          subst e2
          clear h2
          rw [h3] at e3
          subst e3
          clear h3
          clear e4 e5
          go_wp2_with (go_at_call 15; (refine (pick_any _ _ _ _ _ _ _ _ _ _ _ _ _ _ _ _ _ _ _ _ _ _ _ _ _ _ _ _ _ _ _ _ _ _ _ _ _ _).mono ?_); rintro e w' ⟨rfl, ⟨⟨n3, os3⟩, rfl⟩⟩; rw [HK.out])
          go_loopw [10] (fun i wr => ∃ k : Int, (1 ≤ k ∧ k ≤ 6) ∧ i = .int .i64 k ∧ Adds (w5.alloc (.cells #[.bool true, .bool false, .bool false, .bool true, .bool d4, .bool d5] 45)) wr) (fun i _ => 6 - (intOf i).toNat)
          case atStart => exact ⟨1, by omega, rfl, by (repeat (first | with_reducible exact Adds.refl _ | with_reducible apply Adds.drew | with_reducible apply Adds.drewN | with_reducible apply Adds.alloc | with_reducible apply Adds.more | (with_reducible refine Adds.setCell ?_ ?_ _) | (focus (simp [go_sem]; done)) | (focus (simp [go_sem]; omega))))⟩
          case round =>
            obtain ⟨k, hk, rfl, ⟨⟨n0, os0⟩, rfl⟩⟩ := hrel
            rcases (by omega : k = 1 ∨ k = 2 ∨ k = 3 ∨ k = 4 ∨ k = 5 ∨ k = 6) with rfl | rfl | rfl | rfl | rfl | rfl
            · try cases d1
              all_goals go_wp2_with fail
              all_goals go_roundw
              all_goals first | exact ⟨2, by omega, rfl, by (repeat (first | with_reducible exact Adds.refl _ | with_reducible apply Adds.drew | with_reducible apply Adds.drewN | with_reducible apply Adds.alloc | with_reducible apply Adds.more | (with_reducible refine Adds.setCell ?_ ?_ _) | (focus (simp [go_sem]; done)) | (focus (simp [go_sem]; omega))))⟩ | simp [intOf]
            · try cases d2
              all_goals go_wp2_with fail
              all_goals go_roundw
              all_goals first | exact ⟨3, by omega, rfl, by (repeat (first | with_reducible exact Adds.refl _ | with_reducible apply Adds.drew | with_reducible apply Adds.drewN | with_reducible apply Adds.alloc | with_reducible apply Adds.more | (with_reducible refine Adds.setCell ?_ ?_ _) | (focus (simp [go_sem]; done)) | (focus (simp [go_sem]; omega))))⟩ | simp [intOf]
            · try cases d3
              all_goals go_wp2_with fail
              all_goals go_roundw
              all_goals first | exact ⟨4, by omega, rfl, by (repeat (first | with_reducible exact Adds.refl _ | with_reducible apply Adds.drew | with_reducible apply Adds.drewN | with_reducible apply Adds.alloc | with_reducible apply Adds.more | (with_reducible refine Adds.setCell ?_ ?_ _) | (focus (simp [go_sem]; done)) | (focus (simp [go_sem]; omega))))⟩ | simp [intOf]
            · try cases d4
              all_goals go_wp2_with fail
              all_goals go_roundw
              all_goals first | exact ⟨5, by omega, rfl, by (repeat (first | with_reducible exact Adds.refl _ | with_reducible apply Adds.drew | with_reducible apply Adds.drewN | with_reducible apply Adds.alloc | with_reducible apply Adds.more | (with_reducible refine Adds.setCell ?_ ?_ _) | (focus (simp [go_sem]; done)) | (focus (simp [go_sem]; omega))))⟩ | simp [intOf]
            · try cases d5
              all_goals go_wp2_with fail
              all_goals go_roundw
              all_goals first | exact ⟨6, by omega, rfl, by (repeat (first | with_reducible exact Adds.refl _ | with_reducible apply Adds.drew | with_reducible apply Adds.drewN | with_reducible apply Adds.alloc | with_reducible apply Adds.more | (with_reducible refine Adds.setCell ?_ ?_ _) | (focus (simp [go_sem]; done)) | (focus (simp [go_sem]; omega))))⟩ | simp [intOf]
            · go_wp2_with (go_at_call 9; refine (known15_any _).mono ?_; rintro e w' ⟨rfl, ⟨⟨nk, osk⟩, rfl⟩⟩)
              go_ret
              exact ⟨rfl, Adds.below (HA.out.trans (by (repeat (first | with_reducible exact Adds.refl _ | with_reducible apply Adds.drew | with_reducible apply Adds.drewN | with_reducible apply Adds.alloc | with_reducible apply Adds.more | (with_reducible refine Adds.setCell ?_ ?_ _) | (focus (simp [go_sem]; done)) | (focus (simp [go_sem]; omega))))))⟩
        · have HK := Lib.hid hk
          clear hk g1 g2 g4 q0 q1 q2 q3 q4 q5 q6 q7 q8
          rw [h1] at e1
          subst e1
          clear h1
          rw [h2] at e2
          subst e2
          clear h2
          rw [h3] at e3
          subst e3
          clear h3
          rw [h4] at e4
          subst e4
          clear h4
          clear e5
          go_wp2_with (go_at_call 15; (refine (pick_any _ _ _ _ _ _ _ _ _ _ _ _ _ _ _ _ _ _ _ _ _ _ _ _ _ _ _ _ _ _ _ _ _ _ _ _ _ _).mono ?_); rintro e w' ⟨rfl, ⟨⟨n3, os3⟩, rfl⟩⟩; rw [HK.out])
          go_loopw [10] (fun i wr => ∃ k : Int, (1 ≤ k ∧ k ≤ 6) ∧ i = .int .i64 k ∧ Adds (w5.alloc (.cells #[.bool true, .bool false, .bool false, .bool false, .bool true, .bool d5] 45)) wr) (fun i _ => 6 - (intOf i).toNat)
          case atStart => exact ⟨1, by omega, rfl, by (repeat (first | with_reducible exact Adds.refl _ | with_reducible apply Adds.drew | with_reducible apply Adds.drewN | with_reducible apply Adds.alloc | with_reducible apply Adds.more | (with_reducible refine Adds.setCell ?_ ?_ _) | (focus (simp [go_sem]; done)) | (focus (simp [go_sem]; omega))))⟩
          case round =>
            obtain ⟨k, hk, rfl, ⟨⟨n0, os0⟩, rfl⟩⟩ := hrel
            rcases (by omega : k = 1 ∨ k = 2 ∨ k = 3 ∨ k = 4 ∨ k = 5 ∨ k = 6) with rfl | rfl | rfl | rfl | rfl | rfl
            · try cases d1
              all_goals go_wp2_with fail
              all_goals go_roundw
              all_goals first | exact ⟨2, by omega, rfl, by (repeat (first | with_reducible exact Adds.refl _ | with_reducible apply Adds.drew | with_reducible apply Adds.drewN | with_reducible apply Adds.alloc | with_reducible apply Adds.more | (with_reducible refine Adds.setCell ?_ ?_ _) | (focus (simp [go_sem]; done)) | (focus (simp [go_sem]; omega))))⟩ | simp [intOf]
            · try cases d2
              all_goals go_wp2_with fail
              all_goals go_roundw
              all_goals first | exact ⟨3, by omega, rfl, by (repeat (first | with_reducible exact Adds.refl _ | with_reducible apply Adds.drew | with_reducible apply Adds.drewN | with_reducible apply Adds.alloc | with_reducible apply Adds.more | (with_reducible refine Adds.setCell ?_ ?_ _) | (focus (simp [go_sem]; done)) | (focus (simp [go_sem]; omega))))⟩ | simp [intOf]
            · try cases d3
              all_goals go_wp2_with fail
              all_goals go_roundw
              all_goals first | exact ⟨4, by omega, rfl, by (repeat (first | with_reducible exact Adds.refl _ | with_reducible apply Adds.drew | with_reducible apply Adds.drewN | with_reducible apply Adds.alloc | with_reducible apply Adds.more | (with_reducible refine Adds.setCell ?_ ?_ _) | (focus (simp [go_sem]; done)) | (focus (simp [go_sem]; omega))))⟩ | simp [intOf]
            · try cases d4
              all_goals go_wp2_with fail
              all_goals go_roundw
              all_goals first | exact ⟨5, by omega, rfl, by (repeat (first | with_reducible exact Adds.refl _ | with_reducible apply Adds.drew | with_reducible apply Adds.drewN | with_reducible apply Adds.alloc | with_reducible apply Adds.more | (with_reducible refine Adds.setCell ?_ ?_ _) | (focus (simp [go_sem]; done)) | (focus (simp [go_sem]; omega))))⟩ | simp [intOf]
            · try cases d5
              all_goals go_wp2_with fail
              all_goals go_roundw
              all_goals first | exact ⟨6, by omega, rfl, by (repeat (first | with_reducible exact Adds.refl _ | with_reducible apply Adds.drew | with_reducible apply Adds.drewN | with_reducible apply Adds.alloc | with_reducible apply Adds.more | (with_reducible refine Adds.setCell ?_ ?_ _) | (focus (simp [go_sem]; done)) | (focus (simp [go_sem]; omega))))⟩ | simp [intOf]
            · go_wp2_with (go_at_call 9; refine (known15_any _).mono ?_; rintro e w' ⟨rfl, ⟨⟨nk, osk⟩, rfl⟩⟩)
              go_ret
              exact ⟨rfl, Adds.below (HA.out.trans (by (repeat (first | with_reducible exact Adds.refl _ | with_reducible apply Adds.drew | with_reducible apply Adds.drewN | with_reducible apply Adds.alloc | with_reducible apply Adds.more | (with_reducible refine Adds.setCell ?_ ?_ _) | (focus (simp [go_sem]; done)) | (focus (simp [go_sem]; omega))))))⟩
        · have HK := Lib.hid hk
          clear hk g1 g2 g4 q0 q1 q2 q3 q4 q5 q6 q7 q8
          rw [h1] at e1
          subst e1
          clear h1
          rw [h2] at e2
          subst e2
          clear h2
          rw [h3] at e3
          subst e3
          clear h3
          rw [h4] at e4
          subst e4
          clear h4
          rw [h5] at e5
          subst e5
          clear h5
          go_wp2_with (go_at_call 15; (refine (pick_any _ _ _ _ _ _ _ _ _ _ _ _ _ _ _ _ _ _ _ _ _ _ _ _ _ _ _ _ _ _ _ _ _ _ _ _ _ _).mono ?_); rintro e w' ⟨rfl, ⟨⟨n3, os3⟩, rfl⟩⟩; rw [HK.out])
          go_loopw [10] (fun i wr => ∃ k : Int, (1 ≤ k ∧ k ≤ 6) ∧ i = .int .i64 k ∧ Adds (w5.alloc (.cells #[.bool true, .bool false, .bool false, .bool false, .bool false, .bool true] 45)) wr) (fun i _ => 6 - (intOf i).toNat)
          case atStart => exact ⟨1, by omega, rfl, by (repeat (first | with_reducible exact Adds.refl _ | with_reducible apply Adds.drew | with_reducible apply Adds.drewN | with_reducible apply Adds.alloc | with_reducible apply Adds.more | (with_reducible refine Adds.setCell ?_ ?_ _) | (focus (simp [go_sem]; done)) | (focus (simp [go_sem]; omega))))⟩
          case round =>
            obtain ⟨k, hk, rfl, ⟨⟨n0, os0⟩, rfl⟩⟩ := hrel
            rcases (by omega : k = 1 ∨ k = 2 ∨ k = 3 ∨ k = 4 ∨ k = 5 ∨ k = 6) with rfl | rfl | rfl | rfl | rfl | rfl
            · try cases d1
              all_goals go_wp2_with fail
              all_goals go_roundw
              all_goals first | exact ⟨2, by omega, rfl, by (repeat (first | with_reducible exact Adds.refl _ | with_reducible apply Adds.drew | with_reducible apply Adds.drewN | with_reducible apply Adds.alloc | with_reducible apply Adds.more | (with_reducible refine Adds.setCell ?_ ?_ _) | (focus (simp [go_sem]; done)) | (focus (simp [go_sem]; omega))))⟩ | simp [intOf]
            · try cases d2
              all_goals go_wp2_with fail
              all_goals go_roundw
              all_goals first | exact ⟨3, by omega, rfl, by (repeat (first | with_reducible exact Adds.refl _ | with_reducible apply Adds.drew | with_reducible apply Adds.drewN | with_reducible apply Adds.alloc | with_reducible apply Adds.more | (with_reducible refine Adds.setCell ?_ ?_ _) | (focus (simp [go_sem]; done)) | (focus (simp [go_sem]; omega))))⟩ | simp [intOf]
            · try cases d3
              all_goals go_wp2_with fail
              all_goals go_roundw
              all_goals first | exact ⟨4, by omega, rfl, by (repeat (first | with_reducible exact Adds.refl _ | with_reducible apply Adds.drew | with_reducible apply Adds.drewN | with_reducible apply Adds.alloc | with_reducible apply Adds.more | (with_reducible refine Adds.setCell ?_ ?_ _) | (focus (simp [go_sem]; done)) | (focus (simp [go_sem]; omega))))⟩ | simp [intOf]
            · try cases d4
              all_goals go_wp2_with fail
              all_goals go_roundw
              all_goals first | exact ⟨5, by omega, rfl, by (repeat (first | with_reducible exact Adds.refl _ | with_reducible apply Adds.drew | with_reducible apply Adds.drewN | with_reducible apply Adds.alloc | with_reducible apply Adds.more | (with_reducible refine Adds.setCell ?_ ?_ _) | (focus (simp [go_sem]; done)) | (focus (simp [go_sem]; omega))))⟩ | simp [intOf]
            · try cases d5
              all_goals go_wp2_with fail
              all_goals go_roundw
              all_goals first | exact ⟨6, by omega, rfl, by (repeat (first | with_reducible exact Adds.refl _ | with_reducible apply Adds.drew | with_reducible apply Adds.drewN | with_reducible apply Adds.alloc | with_reducible apply Adds.more | (with_reducible refine Adds.setCell ?_ ?_ _) | (focus (simp [go_sem]; done)) | (focus (simp [go_sem]; omega))))⟩ | simp [intOf]
            · go_wp2_with (go_at_call 9; refine (known15_any _).mono ?_; rintro e w' ⟨rfl, ⟨⟨nk, osk⟩, rfl⟩⟩)
              go_ret
              exact ⟨rfl, Adds.below (HA.out.trans (by (repeat (first | with_reducible exact Adds.refl _ | with_reducible apply Adds.drew | with_reducible apply Adds.drewN | with_reducible apply Adds.alloc | with_reducible apply Adds.more | (with_reducible refine Adds.setCell ?_ ?_ _) | (focus (simp [go_sem]; done)) | (focus (simp [go_sem]; omega))))))⟩

set_option maxRecDepth 100000 in
theorem lifted (os : Os) (started : os.Started) (H : Type) (enc : TypeId × Value → H) :
    ReturnsInHanded {} Try.checked os 6 .any (Rows.irqPrioritySpec.pre6 enc Try.prog Try.f6 Rows.irqPriorityRow.domain false) (Rows.irqPrioritySpec.post enc Try.prog Try.f6 false true false false) := by
  refine returnsInHanded_of_change (C := Try.checked) own started (by kernel_rfl) Try.func6
    (ChangeSpec.witness6 (enc := enc) (C := Try.checked) false ⟨#[], #[.slice none 0 0], []⟩ 8 (by kernel_rfl) (by kernel_rfl) (by kernel_rfl) (by kernel_rfl)) ?_
  intro W base args ds gs before hval0 hW hcnd _
  have hval : ∀ (j : Nat) t v, Try.f6.params[j]? = some t → args[j]? = some v → Value.okWide Try.prog W .any base t v := hval0
  have hW' := hW
  obtain ⟨p, q, hA0, hV, rfl, hfz, hnd⟩ := hW
  have hA : DataW.TrodAll enc Try.prog W 0 (fun _ => true) true Try.f6.params.toList args.toList ds p := hA0
  rw [Try.params6] at hA hval
  obtain ⟨v0, vs0, d0, ds0, p0, q0, hargs, rfl, rfl, h0, r0⟩ := trodAll_cons hA
  obtain ⟨rfl, rfl, rfl⟩ := trodAll_nil r0
  obtain rfl : args = #[v0] := by cases args; simp_all
  obtain ⟨rfl, rfl⟩ := trodVars_none hV
  have k0 := h0
  have lt0 : ∀ x ∈ p0, x.block < W.heap.size := by obtain ⟨m, hm⟩ := k0; exact DataW.trod_lt m _ _ _ hm
  obtain ⟨a0, len0, cap0, rfl⟩ := okWide_slice Try.underlying31 (hval 0 31 v0 rfl rfl)
  obtain ⟨z0, w0⟩ : ∃ zs, IsRow .i64 W a0 len0 cap0 zs := by
    obtain ⟨fuel, hf⟩ := h0
    rcases open_ints Try.underlying31 Try.underlying3 (by kernel_rfl) hf with ⟨hcs, _⟩ | ⟨x, l, c, zs, hcs, _, hl, hm, hz, _, hcell, hwz⟩
    · simp [Value.cells] at hcs
      obtain ⟨rfl, rfl, rfl⟩ := hcs
      exact ⟨[], .inl ⟨rfl, rfl, rfl, rfl⟩⟩
    · simp [Value.cells] at hcs
      obtain ⟨rfl, rfl, rfl⟩ := hcs
      exact ⟨zs, .inr ⟨_, rfl, hl, hm, by simpa using hz, hcell, hwz⟩⟩
  clear hA0 hval0
  refine (walk a0 len0 cap0 z0 W w0).mono fun e W' ⟨he, bel⟩ => ?_
  subst he
  exact ⟨_, rfl, _, _, _, [], _, [], hW', trodAll_mk1 (shut_bool Try.underlying4 _), (trodAll_cons_mk (Below.trod laidOut (by kernel_rfl) (of_decide_eq_true (by kernel_rfl)) k0 bel lt0) trodAll_mk0), rfl, bel.frame _, fun h => by cases h⟩

theorem over : Rows.irqPriorityRow.holds Try.pinned (OpenSpec.ofChange Rows.irqPrioritySpec) :=
  OpenClaim.holds_of_wide 6 Try.f6 rfl rfl rfl rfl rfl rfl rfl ⟨rfl, rfl, rfl, rfl, rfl⟩ rfl rfl rfl rfl rfl (by kernel_rfl) Try.func6 (by kernel_rfl)
    (of_decide_eq_true (by kernel_rfl)) (by unfold Func.isWrapper; first | (rw [if_pos (by decide +kernel)]; kernel_rfl) | (rw [if_neg (by decide +kernel)]; exact ⟨rfl, rfl⟩))
    (fun os started H enc _ => lifted os started H enc)

/-- The statement. -/
theorem proved : Rows.IrqPrioritySaid := over
#print axioms proved
end Go.Proofs.Ytaanpmmhhgnklaa.irqPriority
