/- Contracts of the reference's SamePins (where both lists are the same: it says so), and of States, Valid and what it calls, at the example. Condition: the lists have at most 4611686018427387904 elements. -/
import Derived.Test.YtfhnfakjjfjohaaMW
import Derived.Test.YtfhnfakjjfjohaaMT
import Derived.Lib.Hide
namespace Go.Proofs.Ytfhnfakjjfjohaa
open Go.ChangeShapes Go.WideShapes Go.ChangeAt Go.RowKit
set_option linter.unusedVariables false
theorem same_reflQ (x : S.Pn) : same [.int .i64 x.st, .int .u16 x.ad, .int .u8 x.da, .bool x.sy, .bool x.db, .bool x.wa, .bool x.it, .bool x.al, .bool x.im, .bool x.s1, .bool x.s0, .bool x.rd, .bool x.ia, .bool x.so, .bool x.wr, .bool x.hl, .bool x.fl] [.int .i64 x.st, .int .u16 x.ad, .int .u8 x.da, .bool x.sy, .bool x.db, .bool x.wa, .bool x.it, .bool x.al, .bool x.im, .bool x.s1, .bool x.s0, .bool x.rd, .bool x.ia, .bool x.so, .bool x.wr, .bool x.hl, .bool x.fl] = true := by simp [same]
set_option maxRecDepth 100000 in
set_option maxHeartbeats 4000000 in
theorem spins_any (a a' : Option Addr) (len cap cap' : Nat) (l : List S.Pn) (w : World) (h : HeldQ w a len l) (h' : HeldQ w a' len l) :
    Calls Try.prog 10 #[.slice a len cap, .slice a' len cap'] w fun e w' => e = .returned (.bool true) ∧ Adds w w' := by
  obtain ⟨hl, hbig, hat⟩ := h
  obtain ⟨_, _, hat2⟩ := h'
  have HL := Lib.hid hl
  have HAT := Lib.hid hat
  have HAT2 := Lib.hid hat2
  clear hl hat hat2
  go_enter Try.func10, Try.ntmps10
  go_wp2_with fail
  go_loopw [13] (fun i wr => ∃ k : Nat, k ≤ len ∧ i = .int .i64 (k : Int) ∧ Adds w wr) (fun i _ => len - (intOf i).toNat)
  case atStart => exact ⟨0, Nat.zero_le _, rfl, Adds.refl _⟩
  case round =>
    obtain ⟨k, hk, rfl, hA⟩ := hrel
    have HA := Lib.hid hA
    clear hA
    by_cases hlt : k < len
    · obtain ⟨b, o, rfl, hb, hat⟩ := HAT.out (by omega)
      obtain ⟨b2, o2, rfl, hb2, hat2⟩ := HAT2.out (by omega)
      obtain ⟨x, hx⟩ := get_el (d := l) (k := k) (by have := HL.out; omega)
      have hL : ∀ n os, (wholeVar 46 ⟨b, o + k * 17, none⟩).run Try.prog (More wr n os) = .ok (.agg #[.int .i64 x.st, .int .u16 x.ad, .int .u8 x.da, .bool x.sy, .bool x.db, .bool x.wa, .bool x.it, .bool x.al, .bool x.im, .bool x.s1, .bool x.s0, .bool x.rd, .bool x.ia, .bool x.so, .bool x.wr, .bool x.hl, .bool x.fl]) (More wr n os) := AtQ.loadM (AtG.keep (w' := wr) hat fun i => HA.out.cell hb) (by have := HA.out.size; omega) hx _ rfl
      have hL2 : ∀ n os, (wholeVar 46 ⟨b2, o2 + k * 17, none⟩).run Try.prog (More wr n os) = .ok (.agg #[.int .i64 x.st, .int .u16 x.ad, .int .u8 x.da, .bool x.sy, .bool x.db, .bool x.wa, .bool x.it, .bool x.al, .bool x.im, .bool x.s1, .bool x.s0, .bool x.rd, .bool x.ia, .bool x.so, .bool x.wr, .bool x.hl, .bool x.fl]) (More wr n os) := AtQ.loadM (AtG.keep (w' := wr) hat2 fun i => HA.out.cell hb2) (by have := HA.out.size; omega) hx _ rfl
      have q1 : (k : Int) < (len : Int) := by omega
      clear hat hat2 hx HAT HAT2
      go_wp2_with fail
      refine wp_region_adds (by kernel_rfl) (by kernel_rfl) ?_
      repeat (go_big_quiet_step (fail))
      refine wpQuiet_nil ?_
      intro _ hw1
      obtain ⟨⟨nq, osq⟩, hw2⟩ := hw1
      subst hw2
      go_wp2_with fail
      go_roundw
      case rel => exact ⟨k + 1, by omega, by go_num, HA.out.trans (by (repeat (first | with_reducible exact Adds.refl _ | with_reducible apply Adds.drew | with_reducible apply Adds.drewN | with_reducible apply Adds.alloc | with_reducible apply Adds.more | (with_reducible refine Adds.setCell ?_ ?_ _) | (focus (simp [go_sem]; done)) | (focus (simp [go_sem]; omega)))))⟩
      case measure => simp [intOf]; omega
    · have q1 : ¬ (k : Int) < (len : Int) := by omega
      clear HAT HAT2
      go_wp2_with fail
      go_ret
      exact ⟨rfl, HA.out⟩
theorem accepts_1 (w : World) : Calls Try.prog 42 #[.int .i64 1] w fun e w' => e = .returned (.bool true) ∧ Adds w w' := by
  go_enter Try.func42, Try.ntmps42
  go_wp2_with fail
  go_ret
  exact ⟨rfl, by (repeat (first | with_reducible exact Adds.refl _ | with_reducible apply Adds.drew | with_reducible apply Adds.drewN | with_reducible apply Adds.alloc | with_reducible apply Adds.more | (with_reducible refine Adds.setCell ?_ ?_ _) | (focus (simp [go_sem]; done)) | (focus (simp [go_sem]; omega))))⟩
theorem pwaits_ex (w : World) : Calls Try.prog 36 #[.agg #[.int .i64 1, .int .i64 1, .int .u16 0, .int .u8 0, .int .i64 4, .int .i64 1, .int .i64 4, .bool false, .bool false]] w fun e w' => e = .returned (.bool true) ∧ Adds w w' := by
  go_enter Try.func36, Try.ntmps36
  go_wp2_with (go_at_call 42; refine (accepts_1 _).mono ?_; rintro e w' ⟨rfl, ⟨⟨n1, os1⟩, rfl⟩⟩)
  go_ret
  exact ⟨rfl, by (repeat (first | with_reducible exact Adds.refl _ | with_reducible apply Adds.drew | with_reducible apply Adds.drewN | with_reducible apply Adds.alloc | with_reducible apply Adds.more | (with_reducible refine Adds.setCell ?_ ?_ _) | (focus (simp [go_sem]; done)) | (focus (simp [go_sem]; omega))))⟩
theorem possible_ex (w : World) : Calls Try.prog 27 #[.agg #[.int .i64 1, .int .i64 1, .int .u16 0, .int .u8 0, .int .i64 4, .int .i64 1, .int .i64 4, .bool false, .bool false]] w fun e w' => e = .returned (.bool true) ∧ Adds w w' := by
  go_enter Try.func27, Try.ntmps27
  go_wp2_with (go_at_call 36; refine (pwaits_ex _).mono ?_; rintro e w' ⟨rfl, ⟨⟨n1, os1⟩, rfl⟩⟩)
  go_ret
  exact ⟨rfl, by (repeat (first | with_reducible exact Adds.refl _ | with_reducible apply Adds.drew | with_reducible apply Adds.drewN | with_reducible apply Adds.alloc | with_reducible apply Adds.more | (with_reducible refine Adds.setCell ?_ ?_ _) | (focus (simp [go_sem]; done)) | (focus (simp [go_sem]; omega))))⟩
end Go.Proofs.Ytfhnfakjjfjohaa
