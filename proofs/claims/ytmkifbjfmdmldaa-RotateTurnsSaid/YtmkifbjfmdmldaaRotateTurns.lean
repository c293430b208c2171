/- The statement RotateTurnsSaid of package tstatelaw5: for every input the law returns true, and its arguments read as before. No condition. -/
import Derived.Test.YtmkifbjfmdmldaaRows
import Derived.Test.YtmkifbjfmdmldaaM1
import Derived.Test.YtmkifbjfmdmldaaC5
import Derived.WalkKit
import Derived.ProofKit
import Derived.OpenShut
import Derived.ShutString
import Derived.ChangeOld
import Derived.Below
import Derived.Carry
namespace Go.Proofs.Ytmkifbjfmdmldaa.rotateTurns
open Go.ChangeShapes Go.WideShapes Go.ChangeAt Go.RowKit
open Go.ChangeMaps (open_string shut_string)
set_option linter.unusedVariables false

theorem own : ownKnob Try.prog.godebug = none := by kernel_rfl
theorem laidOut : laidOutB Try.prog = true := by kernel_rfl

set_option maxHeartbeats 2000000 in
/-- The walk. -/
theorem walk (a0 : Int) (a1 : Int) (a2 : Bool) (w : World) (w0 : (Lit.int .u8 a0).wf = true) (w1 : (Lit.int .u16 a1).wf = true) :
    Calls Try.prog 6 #[.int .u8 a0, .int .u16 a1, .bool a2] w fun e w' => e = .returned (.bool true) ∧ Below w.heap.size w w' := by
  have b0 := bounds_u8 w0
  have b1 := bounds_u16 w1
  have z0 : Hid _ := S.ral_zero a0 a2
  have z1 : Hid _ := S.rd_zero a1 a2 b1.1 (by omega)
  have t0 : Hid _ := S.rlc8 a0 a2 b0.1 (by omega)
  have t1 : Hid _ := S.ral9 a0 a2 b0.1 (by omega)
  have t2 : Hid _ := S.rd_seventeen a1 a2 b1.1 (by omega)
  have t3 : Hid _ := (S.bit7_eq a0 b0.1 (by omega)).2.2
  go_enter Try.func6, Try.ntmps6
  go_wp2_with fail
  go_loopw [7, 10, 13] (fun x d i wr => ∃ k : Nat, k ≤ 8 ∧ i = .int .i64 k ∧ x = .int .u8 (S.rlcI a0 k) ∧ d = .bool (S.rlcO a0 a2 k) ∧ Adds w wr) (fun _ _ i _ => 8 - (intOf i).toNat)
  case atStart => exact ⟨0, by omega, rfl, rfl, rfl, by (repeat (first | with_reducible exact Adds.refl _ | with_reducible apply Adds.drew | with_reducible apply Adds.drewN | with_reducible apply Adds.alloc | with_reducible apply Adds.more | (with_reducible refine Adds.setCell ?_ ?_ _) | (focus (simp [go_sem]; done)) | (focus (simp [go_sem]; omega))))⟩
  case round =>
    obtain ⟨k, hk, rfl, rfl, rfl, ⟨⟨n0, os0⟩, rfl⟩⟩ := hrel
    rcases (by omega : k = 8 ∨ k < 8) with rfl | hlt
    · rw [t0.out.1, t0.out.2, show ((8 : Nat) : Int) = 8 from rfl]
      go_wp2_with fail
      go_loopw [8, 11, 14] (fun x d i wr => ∃ k : Nat, k ≤ 9 ∧ i = .int .i64 k ∧ x = .int .u8 (S.ralI a0 a2 k) ∧ d = .bool (S.ralO a0 a2 k) ∧ Adds w wr) (fun _ _ i _ => 9 - (intOf i).toNat)
      case atStart => exact ⟨0, by omega, rfl, by rw [z0.out.1], by rw [z0.out.2], by (repeat (first | with_reducible exact Adds.refl _ | with_reducible apply Adds.drew | with_reducible apply Adds.drewN | with_reducible apply Adds.alloc | with_reducible apply Adds.more | (with_reducible refine Adds.setCell ?_ ?_ _) | (focus (simp [go_sem]; done)) | (focus (simp [go_sem]; omega))))⟩
      case round =>
        obtain ⟨k, hk, rfl, rfl, rfl, ⟨⟨n2, os2⟩, rfl⟩⟩ := hrel
        rcases (by omega : k = 9 ∨ k < 9) with rfl | hlt
        · rw [t1.out.1, t1.out.2, show ((9 : Nat) : Int) = 9 from rfl]
          go_wp2_with fail
          go_loopw [9, 12, 15] (fun x d i wr => ∃ k : Nat, k ≤ 17 ∧ i = .int .i64 k ∧ x = .int .u16 (S.rdI a1 a2 k) ∧ d = .bool (S.rdO a1 a2 k) ∧ Adds w wr) (fun _ _ i _ => 17 - (intOf i).toNat)
          case atStart => exact ⟨0, by omega, rfl, by rw [z1.out.1], by rw [z1.out.2], by (repeat (first | with_reducible exact Adds.refl _ | with_reducible apply Adds.drew | with_reducible apply Adds.drewN | with_reducible apply Adds.alloc | with_reducible apply Adds.more | (with_reducible refine Adds.setCell ?_ ?_ _) | (focus (simp [go_sem]; done)) | (focus (simp [go_sem]; omega))))⟩
          case round =>
            obtain ⟨k, hk, rfl, rfl, rfl, ⟨⟨n4, os4⟩, rfl⟩⟩ := hrel
            rcases (by omega : k = 17 ∨ k < 17) with rfl | hlt
            · rw [t2.out.1, t2.out.2]
              have t4 := t3.out
              go_wp2_with (first | (go_at_call 10; refine (known5_any _).mono ?_; rintro e w' ⟨rfl, ⟨⟨n1, os1⟩, rfl⟩⟩))
              go_ret
              exact ⟨rfl, Adds.below (by (repeat (first | with_reducible exact Adds.refl _ | with_reducible apply Adds.drew | with_reducible apply Adds.drewN | with_reducible apply Adds.alloc | with_reducible apply Adds.more | (with_reducible refine Adds.setCell ?_ ?_ _) | (focus (simp [go_sem]; done)) | (focus (simp [go_sem]; omega)))))⟩
            · have hd : (k : Int) < 17 := by omega
              obtain ⟨hb0, hb1⟩ := S.rdI_bd a1 a2 k
              have ht := S.rd_step a1 a2 b1.1 (by omega) k hlt
              go_wp2_with (first | (go_at_call 13; refine (rdel_any _ _ hb0 hb1 _).mono ?_; rintro e w' ⟨rfl, rfl⟩))
              go_roundw
              case rel => exact ⟨k + 1, by omega, by go_num, rfl, rfl, by (repeat (first | with_reducible exact Adds.refl _ | with_reducible apply Adds.drew | with_reducible apply Adds.drewN | with_reducible apply Adds.alloc | with_reducible apply Adds.more | (with_reducible refine Adds.setCell ?_ ?_ _) | (focus (simp [go_sem]; done)) | (focus (simp [go_sem]; omega))))⟩
              case measure => simp [intOf]; omega
        · have hb := S.ralI_bd a0 a2 b0.1 (by omega) k
          have hd : (k : Int) < 9 := by omega
          have ht := S.ral_turn a0 a2 k
          go_wp2_with (first | (go_at_call 8; refine (byte_any _ _ _ hb.1 hb.2 _).mono ?_; rintro e w' ⟨rfl, ⟨⟨n1, os1⟩, rfl⟩⟩))
          go_roundw
          case rel => exact ⟨k + 1, by omega, by go_num, rfl, rfl, by (repeat (first | with_reducible exact Adds.refl _ | with_reducible apply Adds.drew | with_reducible apply Adds.drewN | with_reducible apply Adds.alloc | with_reducible apply Adds.more | (with_reducible refine Adds.setCell ?_ ?_ _) | (focus (simp [go_sem]; done)) | (focus (simp [go_sem]; omega))))⟩
          case measure => simp [intOf]; omega
    · have hb := S.rlcI_bd a0 b0.1 (by omega) k
      have hd : (k : Int) < 8 := by omega
      have ht := S.rlc_turn a0 a2 k
      go_wp2_with (first | (go_at_call 8; refine (byte_any _ _ _ hb.1 hb.2 _).mono ?_; rintro e w' ⟨rfl, ⟨⟨n1, os1⟩, rfl⟩⟩))
      go_roundw
      case rel => exact ⟨k + 1, by omega, by go_num, rfl, rfl, by (repeat (first | with_reducible exact Adds.refl _ | with_reducible apply Adds.drew | with_reducible apply Adds.drewN | with_reducible apply Adds.alloc | with_reducible apply Adds.more | (with_reducible refine Adds.setCell ?_ ?_ _) | (focus (simp [go_sem]; done)) | (focus (simp [go_sem]; omega))))⟩
      case measure => simp [intOf]; omega

set_option maxRecDepth 100000 in
theorem lifted (os : Os) (started : os.Started) (H : Type) (enc : TypeId × Value → H) :
    ReturnsInHanded {} Try.checked os 6 .any (Rows.rotateTurnsSpec.pre6 enc Try.prog Try.f6 Rows.rotateTurnsRow.domain false) (Rows.rotateTurnsSpec.post enc Try.prog Try.f6 false true false false) := by
  refine returnsInHanded_of_change (C := Try.checked) own started (by kernel_rfl) Try.func6
    (ChangeSpec.witness6 (enc := enc) (C := Try.checked) false ⟨#[], #[.int .u8 0, .int .u16 0, .bool false], []⟩ 8 (by kernel_rfl) (by kernel_rfl) (by kernel_rfl) (by kernel_rfl)) ?_
  intro W base args ds gs before hval0 hW hcnd _
  have hval : ∀ (j : Nat) t v, Try.f6.params[j]? = some t → args[j]? = some v → Value.okWide Try.prog W .any base t v := hval0
  have hW' := hW
  obtain ⟨p, q, hA0, hV, rfl, hfz, hnd⟩ := hW
  have hA : DataW.TrodAll enc Try.prog W 0 (fun _ => true) true Try.f6.params.toList args.toList ds p := hA0
  rw [Try.params6] at hA hval
  obtain ⟨v0, vs0, d0, ds0, p0, q0, hargs, rfl, rfl, h0, r0⟩ := trodAll_cons hA
  obtain ⟨v1, vs1, d1, ds1, p1, q1, rfl, rfl, rfl, h1, r1⟩ := trodAll_cons r0
  obtain ⟨v2, vs2, d2, ds2, p2, q2, rfl, rfl, rfl, h2, r2⟩ := trodAll_cons r1
  obtain ⟨rfl, rfl, rfl⟩ := trodAll_nil r2
  obtain rfl : args = #[v0, v1, v2] := by cases args; simp_all
  obtain ⟨rfl, rfl⟩ := trodVars_none hV
  have k0 := h0
  have lt0 : ∀ x ∈ p0, x.block < W.heap.size := by obtain ⟨m, hm⟩ := k0; exact DataW.trod_lt m _ _ _ hm
  obtain ⟨a0, rfl, -, -, w0⟩ := open_int Try.underlying5 (hval 0 5 v0 rfl rfl) h0
  have k1 := h1
  have lt1 : ∀ x ∈ p1, x.block < W.heap.size := by obtain ⟨m, hm⟩ := k1; exact DataW.trod_lt m _ _ _ hm
  obtain ⟨a1, rfl, -, -, w1⟩ := open_int Try.underlying26 (hval 1 26 v1 rfl rfl) h1
  have k2 := h2
  have lt2 : ∀ x ∈ p2, x.block < W.heap.size := by obtain ⟨m, hm⟩ := k2; exact DataW.trod_lt m _ _ _ hm
  obtain ⟨a2, rfl, -, -⟩ := open_bool Try.underlying4 (hval 2 4 v2 rfl rfl) h2
  clear hA0 hval0
  refine (walk a0 a1 a2 W w0 w1).mono fun e W' ⟨he, bel⟩ => ?_
  subst he
  exact ⟨_, rfl, _, _, _, [], _, [], hW', trodAll_mk1 (shut_bool Try.underlying4 _), (trodAll_cons_mk (Below.trod laidOut (by kernel_rfl) (of_decide_eq_true (by kernel_rfl)) k0 bel lt0) (trodAll_cons_mk (Below.trod laidOut (by kernel_rfl) (of_decide_eq_true (by kernel_rfl)) k1 bel lt1) (trodAll_cons_mk (Below.trod laidOut (by kernel_rfl) (of_decide_eq_true (by kernel_rfl)) k2 bel lt2) trodAll_mk0))), rfl, bel.frame _, fun h => by cases h⟩

theorem over : Rows.rotateTurnsRow.holds Try.pinned (OpenSpec.ofChange Rows.rotateTurnsSpec) :=
  OpenClaim.holds_of_wide 6 Try.f6 rfl rfl rfl rfl rfl rfl rfl ⟨rfl, rfl, rfl, rfl, rfl⟩ rfl rfl rfl rfl rfl (by kernel_rfl) Try.func6 (by kernel_rfl)
    (of_decide_eq_true (by kernel_rfl)) (by unfold Func.isWrapper; first | (rw [if_pos (by decide +kernel)]; kernel_rfl) | (rw [if_neg (by decide +kernel)]; exact ⟨rfl, rfl⟩))
    (fun os started H enc _ => lifted os started H enc)

/-- The statement. -/
theorem proved : Rows.RotateTurnsSaid := over
#print axioms proved
end Go.Proofs.Ytmkifbjfmdmldaa.rotateTurns
