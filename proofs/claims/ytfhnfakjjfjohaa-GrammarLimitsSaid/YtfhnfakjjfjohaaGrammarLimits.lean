/- The statement GrammarLimitsSaid of package tstatelaw26: for every input the law returns true, and its arguments read as before. No condition. -/
import Derived.Test.YtfhnfakjjfjohaaRows
import Derived.Test.YtfhnfakjjfjohaaM1
import Derived.Test.YtfhnfakjjfjohaaCM
import Derived.Test.YtfhnfakjjfjohaaC26n
import Derived.Test.YtfhnfakjjfjohaaC26u
import Derived.Test.YtfhnfakjjfjohaaC26x
import Derived.WalkKit
import Derived.ProofKit
import Derived.OpenShut
import Derived.ShutString
import Derived.ChangeOld
import Derived.Below
import Derived.Carry
namespace Go.Proofs.Ytfhnfakjjfjohaa.grammarLimits
open Go.ChangeShapes Go.WideShapes Go.ChangeAt Go.RowKit
open Go.ChangeMaps (open_string shut_string)
set_option linter.unusedVariables false

theorem own : ownKnob Try.prog.godebug = none := by kernel_rfl
theorem laidOut : laidOutB Try.prog = true := by kernel_rfl

theorem lenH (on : Bool) (k n m : Int) (hk : k = 2 ∨ k = 3 ∨ k = 4) (hm : S.lim n = m) : (S.ex on [⟨k, 0, 0, 0, 0, 0, n, false, false⟩]).length = m.toNat := by
  simp only [S.ex, S.ex1, S.sts, S.sps, List.flatMap_cons, List.flatMap_nil, List.append_nil, List.length_map]
  rcases hk with rfl | rfl | rfl <;> simp [S.reps, S.rep, hm]
theorem lenC (on : Bool) (n m : Int) (hm : S.lim n = m) (h0 : 0 ≤ m) : (S.ex on [⟨1, 2, 0, 0, 3, n, 3, false, false⟩]).length = m.toNat + 3 := by
  have h3 : S.cnt 3 3 = 3 := rfl
  simp only [S.ex, S.ex1, S.sts, S.sps, List.flatMap_cons, List.flatMap_nil, List.append_nil, List.length_map, h3, hm]
  simp [S.reps, S.rep, S.part7, S.all7]
set_option maxRecDepth 100000 in
set_option maxHeartbeats 2000000 in
/-- The walk. -/
theorem walk (a0 : Int) (a1 : Int) (a2 : Int) (w : World) (w0 : (Lit.int .i64 a0).wf = true) (w1 : (Lit.int .i64 a1).wf = true) (w2 : (Lit.int .i64 a2).wf = true) :
    Calls Try.prog 6 #[.int .i64 a0, .int .i64 a1, .int .i64 a2] w fun e w' => e = .returned (.bool true) ∧ Below w.heap.size w w' := by
  obtain ⟨pb0, pb1⟩ := S.plc_bd a0 3 (by omega)
  obtain ⟨qb0, qb1⟩ := S.plc_bd a1 3 (by omega)
  obtain ⟨rb0, rb1⟩ := S.plc_bd a2 2 (by omega)
  obtain ⟨p, hp⟩ : ∃ p, S.plc a0 3 = p := ⟨_, rfl⟩
  obtain ⟨q, hq⟩ : ∃ q, S.plc a1 3 = q := ⟨_, rfl⟩
  obtain ⟨r, hr⟩ : ∃ r, S.plc a2 2 = r := ⟨_, rfl⟩
  rw [hp] at pb0 pb1
  rw [hq] at qb0 qb1
  rw [hr] at rb0 rb1
  have HP := Lib.hid hp
  have HQ := Lib.hid hq
  have HR := Lib.hid hr
  clear hp hq hr
  rcases (by omega : p = 0 ∨ p = 1 ∨ p = 2) with rfl | rfl | rfl <;> rcases (by omega : q = 0 ∨ q = 1 ∨ q = 2) with rfl | rfl | rfl
  · have H1 := Lib.hid (lenH ((1 + r) == 2) 2 65535 65535 (by omega) (by unfold S.lim; omega))
    have H2 := Lib.hid (lenC ((1 + r) == 2) 65535 65535 (by unfold S.lim; omega) (by omega))
    go_enter Try.func6, Try.ntmps6
    go_wp2_with (first
      | (go_at_call 13; (with_reducible refine (mplace_any a0 3 (by omega) (by omega) _).mono ?_); rintro e w' ⟨rfl, rfl⟩; rw [HP.out])
      | (go_at_call 13; (with_reducible refine (mplace_any a1 3 (by omega) (by omega) _).mono ?_); rintro e w' ⟨rfl, rfl⟩; rw [HQ.out])
      | (go_at_call 13; (with_reducible refine (mplace_any a2 2 (by omega) (by omega) _).mono ?_); rintro e w' ⟨rfl, rfl⟩; rw [HR.out])
      | (go_at_call 11; (with_reducible refine (expand_any (1 + r) (some ⟨w.heap.size + 1 + 1, 0, none⟩) 1 1 [⟨2, 0, 0, 0, 0, 0, 65535, false, false⟩] (by omega) _ ?hA65535Q2).mono ?_); (exact held_laid _ _ _ (by simp) _ rfl _); rintro e wB ⟨v, rfl, hO2, hA2⟩; obtain ⟨ad2, n2, c2, rfl, hn2, -, -, -, -⟩ := hO2.form2; obtain rfl : n2 = 65535 := hn2.out.symm.trans H1.out; have A2 := Lib.hid (Adds.trans (by (repeat (first | with_reducible exact Adds.refl _ | with_reducible apply Adds.drew | with_reducible apply Adds.drewN | with_reducible apply Adds.alloc | with_reducible apply Adds.more | (with_reducible refine Adds.setCell ?_ ?_ _) | (focus (simp [go_sem]; done)) | (focus (simp [go_sem]; omega))))) hA2 : Adds w wB); have RY : rowOf wB (w.heap.size + 1) = #[.int .i64 1, .int .i64 2, .int .u16 0, .int .u8 0, .int .i64 3, .int .i64 65535, .int .i64 3, .bool false, .bool false] := (rowOf_eq (hA2.below.block (w.heap.size + 1) (by simp [go_sem]))).trans (by simp [go_sem]); have hbY : w.heap.size + 1 < wB.heap.size := (by have := hA2.size; simp [go_sem] at this; omega); clear hO2 hn2 hA2)
      | (go_at_call 11; (with_reducible refine (expand_any (1 + r) (some ⟨wB.heap.size, 0, none⟩) 1 1 [⟨1, 2, 0, 0, 3, 65535, 3, false, false⟩] (by omega) _ ?hB65535Q2).mono ?_); (exact held_laid _ _ _ (by simp) _ rfl _); rintro e wC ⟨v, rfl, hO3, hA3⟩; obtain ⟨ad3, n3, c3, rfl, hn3, -, -, -, -⟩ := hO3.form2; obtain rfl : n3 = 65538 := hn3.out.symm.trans H2.out; have A3 := Lib.hid (A2.out.trans (Adds.trans (by (repeat (first | with_reducible exact Adds.refl _ | with_reducible apply Adds.drew | with_reducible apply Adds.drewN | with_reducible apply Adds.alloc | with_reducible apply Adds.more | (with_reducible refine Adds.setCell ?_ ?_ _) | (focus (simp [go_sem]; done)) | (focus (simp [go_sem]; omega))))) hA3) : Adds w wC); clear hO3 hn3 hA3)
      | (go_at_call 8; (with_reducible refine (known26 _).mono ?_); rintro e wD ⟨rfl, A4⟩))
    go_ret
    exact ⟨rfl, (A3.out.trans A4).below⟩
  · have H1 := Lib.hid (lenH ((1 + r) == 2) 3 65535 65535 (by omega) (by unfold S.lim; omega))
    have H2 := Lib.hid (lenC ((1 + r) == 2) 65535 65535 (by unfold S.lim; omega) (by omega))
    go_enter Try.func6, Try.ntmps6
    go_wp2_with (first
      | (go_at_call 13; (with_reducible refine (mplace_any a0 3 (by omega) (by omega) _).mono ?_); rintro e w' ⟨rfl, rfl⟩; rw [HP.out])
      | (go_at_call 13; (with_reducible refine (mplace_any a1 3 (by omega) (by omega) _).mono ?_); rintro e w' ⟨rfl, rfl⟩; rw [HQ.out])
      | (go_at_call 13; (with_reducible refine (mplace_any a2 2 (by omega) (by omega) _).mono ?_); rintro e w' ⟨rfl, rfl⟩; rw [HR.out])
      | (go_at_call 11; (with_reducible refine (expand_any (1 + r) (some ⟨w.heap.size + 1 + 1, 0, none⟩) 1 1 [⟨3, 0, 0, 0, 0, 0, 65535, false, false⟩] (by omega) _ ?hA65535Q3).mono ?_); (exact held_laid _ _ _ (by simp) _ rfl _); rintro e wB ⟨v, rfl, hO2, hA2⟩; obtain ⟨ad2, n2, c2, rfl, hn2, -, -, -, -⟩ := hO2.form2; obtain rfl : n2 = 65535 := hn2.out.symm.trans H1.out; have A2 := Lib.hid (Adds.trans (by (repeat (first | with_reducible exact Adds.refl _ | with_reducible apply Adds.drew | with_reducible apply Adds.drewN | with_reducible apply Adds.alloc | with_reducible apply Adds.more | (with_reducible refine Adds.setCell ?_ ?_ _) | (focus (simp [go_sem]; done)) | (focus (simp [go_sem]; omega))))) hA2 : Adds w wB); have RY : rowOf wB (w.heap.size + 1) = #[.int .i64 1, .int .i64 2, .int .u16 0, .int .u8 0, .int .i64 3, .int .i64 65535, .int .i64 3, .bool false, .bool false] := (rowOf_eq (hA2.below.block (w.heap.size + 1) (by simp [go_sem]))).trans (by simp [go_sem]); have hbY : w.heap.size + 1 < wB.heap.size := (by have := hA2.size; simp [go_sem] at this; omega); clear hO2 hn2 hA2)
      | (go_at_call 11; (with_reducible refine (expand_any (1 + r) (some ⟨wB.heap.size, 0, none⟩) 1 1 [⟨1, 2, 0, 0, 3, 65535, 3, false, false⟩] (by omega) _ ?hB65535Q3).mono ?_); (exact held_laid _ _ _ (by simp) _ rfl _); rintro e wC ⟨v, rfl, hO3, hA3⟩; obtain ⟨ad3, n3, c3, rfl, hn3, -, -, -, -⟩ := hO3.form2; obtain rfl : n3 = 65538 := hn3.out.symm.trans H2.out; have A3 := Lib.hid (A2.out.trans (Adds.trans (by (repeat (first | with_reducible exact Adds.refl _ | with_reducible apply Adds.drew | with_reducible apply Adds.drewN | with_reducible apply Adds.alloc | with_reducible apply Adds.more | (with_reducible refine Adds.setCell ?_ ?_ _) | (focus (simp [go_sem]; done)) | (focus (simp [go_sem]; omega))))) hA3) : Adds w wC); clear hO3 hn3 hA3)
      | (go_at_call 8; (with_reducible refine (known26 _).mono ?_); rintro e wD ⟨rfl, A4⟩))
    go_ret
    exact ⟨rfl, (A3.out.trans A4).below⟩
  · have H1 := Lib.hid (lenH ((1 + r) == 2) 4 65535 65535 (by omega) (by unfold S.lim; omega))
    have H2 := Lib.hid (lenC ((1 + r) == 2) 65535 65535 (by unfold S.lim; omega) (by omega))
    go_enter Try.func6, Try.ntmps6
    go_wp2_with (first
      | (go_at_call 13; (with_reducible refine (mplace_any a0 3 (by omega) (by omega) _).mono ?_); rintro e w' ⟨rfl, rfl⟩; rw [HP.out])
      | (go_at_call 13; (with_reducible refine (mplace_any a1 3 (by omega) (by omega) _).mono ?_); rintro e w' ⟨rfl, rfl⟩; rw [HQ.out])
      | (go_at_call 13; (with_reducible refine (mplace_any a2 2 (by omega) (by omega) _).mono ?_); rintro e w' ⟨rfl, rfl⟩; rw [HR.out])
      | (go_at_call 11; (with_reducible refine (expand_any (1 + r) (some ⟨w.heap.size + 1 + 1, 0, none⟩) 1 1 [⟨4, 0, 0, 0, 0, 0, 65535, false, false⟩] (by omega) _ ?hA65535Q4).mono ?_); (exact held_laid _ _ _ (by simp) _ rfl _); rintro e wB ⟨v, rfl, hO2, hA2⟩; obtain ⟨ad2, n2, c2, rfl, hn2, -, -, -, -⟩ := hO2.form2; obtain rfl : n2 = 65535 := hn2.out.symm.trans H1.out; have A2 := Lib.hid (Adds.trans (by (repeat (first | with_reducible exact Adds.refl _ | with_reducible apply Adds.drew | with_reducible apply Adds.drewN | with_reducible apply Adds.alloc | with_reducible apply Adds.more | (with_reducible refine Adds.setCell ?_ ?_ _) | (focus (simp [go_sem]; done)) | (focus (simp [go_sem]; omega))))) hA2 : Adds w wB); have RY : rowOf wB (w.heap.size + 1) = #[.int .i64 1, .int .i64 2, .int .u16 0, .int .u8 0, .int .i64 3, .int .i64 65535, .int .i64 3, .bool false, .bool false] := (rowOf_eq (hA2.below.block (w.heap.size + 1) (by simp [go_sem]))).trans (by simp [go_sem]); have hbY : w.heap.size + 1 < wB.heap.size := (by have := hA2.size; simp [go_sem] at this; omega); clear hO2 hn2 hA2)
      | (go_at_call 11; (with_reducible refine (expand_any (1 + r) (some ⟨wB.heap.size, 0, none⟩) 1 1 [⟨1, 2, 0, 0, 3, 65535, 3, false, false⟩] (by omega) _ ?hB65535Q4).mono ?_); (exact held_laid _ _ _ (by simp) _ rfl _); rintro e wC ⟨v, rfl, hO3, hA3⟩; obtain ⟨ad3, n3, c3, rfl, hn3, -, -, -, -⟩ := hO3.form2; obtain rfl : n3 = 65538 := hn3.out.symm.trans H2.out; have A3 := Lib.hid (A2.out.trans (Adds.trans (by (repeat (first | with_reducible exact Adds.refl _ | with_reducible apply Adds.drew | with_reducible apply Adds.drewN | with_reducible apply Adds.alloc | with_reducible apply Adds.more | (with_reducible refine Adds.setCell ?_ ?_ _) | (focus (simp [go_sem]; done)) | (focus (simp [go_sem]; omega))))) hA3) : Adds w wC); clear hO3 hn3 hA3)
      | (go_at_call 8; (with_reducible refine (known26 _).mono ?_); rintro e wD ⟨rfl, A4⟩))
    go_ret
    exact ⟨rfl, (A3.out.trans A4).below⟩
  · have H1 := Lib.hid (lenH ((1 + r) == 2) 2 65536 65536 (by omega) (by unfold S.lim; omega))
    have H2 := Lib.hid (lenC ((1 + r) == 2) 65536 65536 (by unfold S.lim; omega) (by omega))
    go_enter Try.func6, Try.ntmps6
    go_wp2_with (first
      | (go_at_call 13; (with_reducible refine (mplace_any a0 3 (by omega) (by omega) _).mono ?_); rintro e w' ⟨rfl, rfl⟩; rw [HP.out])
      | (go_at_call 13; (with_reducible refine (mplace_any a1 3 (by omega) (by omega) _).mono ?_); rintro e w' ⟨rfl, rfl⟩; rw [HQ.out])
      | (go_at_call 13; (with_reducible refine (mplace_any a2 2 (by omega) (by omega) _).mono ?_); rintro e w' ⟨rfl, rfl⟩; rw [HR.out])
      | (go_at_call 11; (with_reducible refine (expand_any (1 + r) (some ⟨w.heap.size + 1 + 1, 0, none⟩) 1 1 [⟨2, 0, 0, 0, 0, 0, 65536, false, false⟩] (by omega) _ ?hA65536Q2).mono ?_); (exact held_laid _ _ _ (by simp) _ rfl _); rintro e wB ⟨v, rfl, hO2, hA2⟩; obtain ⟨ad2, n2, c2, rfl, hn2, -, -, -, -⟩ := hO2.form2; obtain rfl : n2 = 65536 := hn2.out.symm.trans H1.out; have A2 := Lib.hid (Adds.trans (by (repeat (first | with_reducible exact Adds.refl _ | with_reducible apply Adds.drew | with_reducible apply Adds.drewN | with_reducible apply Adds.alloc | with_reducible apply Adds.more | (with_reducible refine Adds.setCell ?_ ?_ _) | (focus (simp [go_sem]; done)) | (focus (simp [go_sem]; omega))))) hA2 : Adds w wB); have RY : rowOf wB (w.heap.size + 1) = #[.int .i64 1, .int .i64 2, .int .u16 0, .int .u8 0, .int .i64 3, .int .i64 65536, .int .i64 3, .bool false, .bool false] := (rowOf_eq (hA2.below.block (w.heap.size + 1) (by simp [go_sem]))).trans (by simp [go_sem]); have hbY : w.heap.size + 1 < wB.heap.size := (by have := hA2.size; simp [go_sem] at this; omega); clear hO2 hn2 hA2)
      | (go_at_call 11; (with_reducible refine (expand_any (1 + r) (some ⟨wB.heap.size, 0, none⟩) 1 1 [⟨1, 2, 0, 0, 3, 65536, 3, false, false⟩] (by omega) _ ?hB65536Q2).mono ?_); (exact held_laid _ _ _ (by simp) _ rfl _); rintro e wC ⟨v, rfl, hO3, hA3⟩; obtain ⟨ad3, n3, c3, rfl, hn3, -, -, -, -⟩ := hO3.form2; obtain rfl : n3 = 65539 := hn3.out.symm.trans H2.out; have A3 := Lib.hid (A2.out.trans (Adds.trans (by (repeat (first | with_reducible exact Adds.refl _ | with_reducible apply Adds.drew | with_reducible apply Adds.drewN | with_reducible apply Adds.alloc | with_reducible apply Adds.more | (with_reducible refine Adds.setCell ?_ ?_ _) | (focus (simp [go_sem]; done)) | (focus (simp [go_sem]; omega))))) hA3) : Adds w wC); clear hO3 hn3 hA3)
      | (go_at_call 8; (with_reducible refine (known26 _).mono ?_); rintro e wD ⟨rfl, A4⟩))
    go_ret
    exact ⟨rfl, (A3.out.trans A4).below⟩
  · have H1 := Lib.hid (lenH ((1 + r) == 2) 3 65536 65536 (by omega) (by unfold S.lim; omega))
    have H2 := Lib.hid (lenC ((1 + r) == 2) 65536 65536 (by unfold S.lim; omega) (by omega))
    go_enter Try.func6, Try.ntmps6
    go_wp2_with (first
      | (go_at_call 13; (with_reducible refine (mplace_any a0 3 (by omega) (by omega) _).mono ?_); rintro e w' ⟨rfl, rfl⟩; rw [HP.out])
      | (go_at_call 13; (with_reducible refine (mplace_any a1 3 (by omega) (by omega) _).mono ?_); rintro e w' ⟨rfl, rfl⟩; rw [HQ.out])
      | (go_at_call 13; (with_reducible refine (mplace_any a2 2 (by omega) (by omega) _).mono ?_); rintro e w' ⟨rfl, rfl⟩; rw [HR.out])
      | (go_at_call 11; (with_reducible refine (expand_any (1 + r) (some ⟨w.heap.size + 1 + 1, 0, none⟩) 1 1 [⟨3, 0, 0, 0, 0, 0, 65536, false, false⟩] (by omega) _ ?hA65536Q3).mono ?_); (exact held_laid _ _ _ (by simp) _ rfl _); rintro e wB ⟨v, rfl, hO2, hA2⟩; obtain ⟨ad2, n2, c2, rfl, hn2, -, -, -, -⟩ := hO2.form2; obtain rfl : n2 = 65536 := hn2.out.symm.trans H1.out; have A2 := Lib.hid (Adds.trans (by (repeat (first | with_reducible exact Adds.refl _ | with_reducible apply Adds.drew | with_reducible apply Adds.drewN | with_reducible apply Adds.alloc | with_reducible apply Adds.more | (with_reducible refine Adds.setCell ?_ ?_ _) | (focus (simp [go_sem]; done)) | (focus (simp [go_sem]; omega))))) hA2 : Adds w wB); have RY : rowOf wB (w.heap.size + 1) = #[.int .i64 1, .int .i64 2, .int .u16 0, .int .u8 0, .int .i64 3, .int .i64 65536, .int .i64 3, .bool false, .bool false] := (rowOf_eq (hA2.below.block (w.heap.size + 1) (by simp [go_sem]))).trans (by simp [go_sem]); have hbY : w.heap.size + 1 < wB.heap.size := (by have := hA2.size; simp [go_sem] at this; omega); clear hO2 hn2 hA2)
      | (go_at_call 11; (with_reducible refine (expand_any (1 + r) (some ⟨wB.heap.size, 0, none⟩) 1 1 [⟨1, 2, 0, 0, 3, 65536, 3, false, false⟩] (by omega) _ ?hB65536Q3).mono ?_); (exact held_laid _ _ _ (by simp) _ rfl _); rintro e wC ⟨v, rfl, hO3, hA3⟩; obtain ⟨ad3, n3, c3, rfl, hn3, -, -, -, -⟩ := hO3.form2; obtain rfl : n3 = 65539 := hn3.out.symm.trans H2.out; have A3 := Lib.hid (A2.out.trans (Adds.trans (by (repeat (first | with_reducible exact Adds.refl _ | with_reducible apply Adds.drew | with_reducible apply Adds.drewN | with_reducible apply Adds.alloc | with_reducible apply Adds.more | (with_reducible refine Adds.setCell ?_ ?_ _) | (focus (simp [go_sem]; done)) | (focus (simp [go_sem]; omega))))) hA3) : Adds w wC); clear hO3 hn3 hA3)
      | (go_at_call 8; (with_reducible refine (known26 _).mono ?_); rintro e wD ⟨rfl, A4⟩))
    go_ret
    exact ⟨rfl, (A3.out.trans A4).below⟩
  · have H1 := Lib.hid (lenH ((1 + r) == 2) 4 65536 65536 (by omega) (by unfold S.lim; omega))
    have H2 := Lib.hid (lenC ((1 + r) == 2) 65536 65536 (by unfold S.lim; omega) (by omega))
    go_enter Try.func6, Try.ntmps6
    go_wp2_with (first
      | (go_at_call 13; (with_reducible refine (mplace_any a0 3 (by omega) (by omega) _).mono ?_); rintro e w' ⟨rfl, rfl⟩; rw [HP.out])
      | (go_at_call 13; (with_reducible refine (mplace_any a1 3 (by omega) (by omega) _).mono ?_); rintro e w' ⟨rfl, rfl⟩; rw [HQ.out])
      | (go_at_call 13; (with_reducible refine (mplace_any a2 2 (by omega) (by omega) _).mono ?_); rintro e w' ⟨rfl, rfl⟩; rw [HR.out])
      | (go_at_call 11; (with_reducible refine (expand_any (1 + r) (some ⟨w.heap.size + 1 + 1, 0, none⟩) 1 1 [⟨4, 0, 0, 0, 0, 0, 65536, false, false⟩] (by omega) _ ?hA65536Q4).mono ?_); (exact held_laid _ _ _ (by simp) _ rfl _); rintro e wB ⟨v, rfl, hO2, hA2⟩; obtain ⟨ad2, n2, c2, rfl, hn2, -, -, -, -⟩ := hO2.form2; obtain rfl : n2 = 65536 := hn2.out.symm.trans H1.out; have A2 := Lib.hid (Adds.trans (by (repeat (first | with_reducible exact Adds.refl _ | with_reducible apply Adds.drew | with_reducible apply Adds.drewN | with_reducible apply Adds.alloc | with_reducible apply Adds.more | (with_reducible refine Adds.setCell ?_ ?_ _) | (focus (simp [go_sem]; done)) | (focus (simp [go_sem]; omega))))) hA2 : Adds w wB); have RY : rowOf wB (w.heap.size + 1) = #[.int .i64 1, .int .i64 2, .int .u16 0, .int .u8 0, .int .i64 3, .int .i64 65536, .int .i64 3, .bool false, .bool false] := (rowOf_eq (hA2.below.block (w.heap.size + 1) (by simp [go_sem]))).trans (by simp [go_sem]); have hbY : w.heap.size + 1 < wB.heap.size := (by have := hA2.size; simp [go_sem] at this; omega); clear hO2 hn2 hA2)
      | (go_at_call 11; (with_reducible refine (expand_any (1 + r) (some ⟨wB.heap.size, 0, none⟩) 1 1 [⟨1, 2, 0, 0, 3, 65536, 3, false, false⟩] (by omega) _ ?hB65536Q4).mono ?_); (exact held_laid _ _ _ (by simp) _ rfl _); rintro e wC ⟨v, rfl, hO3, hA3⟩; obtain ⟨ad3, n3, c3, rfl, hn3, -, -, -, -⟩ := hO3.form2; obtain rfl : n3 = 65539 := hn3.out.symm.trans H2.out; have A3 := Lib.hid (A2.out.trans (Adds.trans (by (repeat (first | with_reducible exact Adds.refl _ | with_reducible apply Adds.drew | with_reducible apply Adds.drewN | with_reducible apply Adds.alloc | with_reducible apply Adds.more | (with_reducible refine Adds.setCell ?_ ?_ _) | (focus (simp [go_sem]; done)) | (focus (simp [go_sem]; omega))))) hA3) : Adds w wC); clear hO3 hn3 hA3)
      | (go_at_call 8; (with_reducible refine (known26 _).mono ?_); rintro e wD ⟨rfl, A4⟩))
    go_ret
    exact ⟨rfl, (A3.out.trans A4).below⟩
  · have H1 := Lib.hid (lenH ((1 + r) == 2) 2 65537 65536 (by omega) (by unfold S.lim; omega))
    have H2 := Lib.hid (lenC ((1 + r) == 2) 65537 65536 (by unfold S.lim; omega) (by omega))
    go_enter Try.func6, Try.ntmps6
    go_wp2_with (first
      | (go_at_call 13; (with_reducible refine (mplace_any a0 3 (by omega) (by omega) _).mono ?_); rintro e w' ⟨rfl, rfl⟩; rw [HP.out])
      | (go_at_call 13; (with_reducible refine (mplace_any a1 3 (by omega) (by omega) _).mono ?_); rintro e w' ⟨rfl, rfl⟩; rw [HQ.out])
      | (go_at_call 13; (with_reducible refine (mplace_any a2 2 (by omega) (by omega) _).mono ?_); rintro e w' ⟨rfl, rfl⟩; rw [HR.out])
      | (go_at_call 11; (with_reducible refine (expand_any (1 + r) (some ⟨w.heap.size + 1 + 1, 0, none⟩) 1 1 [⟨2, 0, 0, 0, 0, 0, 65537, false, false⟩] (by omega) _ ?hA65537Q2).mono ?_); (exact held_laid _ _ _ (by simp) _ rfl _); rintro e wB ⟨v, rfl, hO2, hA2⟩; obtain ⟨ad2, n2, c2, rfl, hn2, -, -, -, -⟩ := hO2.form2; obtain rfl : n2 = 65536 := hn2.out.symm.trans H1.out; have A2 := Lib.hid (Adds.trans (by (repeat (first | with_reducible exact Adds.refl _ | with_reducible apply Adds.drew | with_reducible apply Adds.drewN | with_reducible apply Adds.alloc | with_reducible apply Adds.more | (with_reducible refine Adds.setCell ?_ ?_ _) | (focus (simp [go_sem]; done)) | (focus (simp [go_sem]; omega))))) hA2 : Adds w wB); have RY : rowOf wB (w.heap.size + 1) = #[.int .i64 1, .int .i64 2, .int .u16 0, .int .u8 0, .int .i64 3, .int .i64 65537, .int .i64 3, .bool false, .bool false] := (rowOf_eq (hA2.below.block (w.heap.size + 1) (by simp [go_sem]))).trans (by simp [go_sem]); have hbY : w.heap.size + 1 < wB.heap.size := (by have := hA2.size; simp [go_sem] at this; omega); clear hO2 hn2 hA2)
      | (go_at_call 11; (with_reducible refine (expand_any (1 + r) (some ⟨wB.heap.size, 0, none⟩) 1 1 [⟨1, 2, 0, 0, 3, 65537, 3, false, false⟩] (by omega) _ ?hB65537Q2).mono ?_); (exact held_laid _ _ _ (by simp) _ rfl _); rintro e wC ⟨v, rfl, hO3, hA3⟩; obtain ⟨ad3, n3, c3, rfl, hn3, -, -, -, -⟩ := hO3.form2; obtain rfl : n3 = 65539 := hn3.out.symm.trans H2.out; have A3 := Lib.hid (A2.out.trans (Adds.trans (by (repeat (first | with_reducible exact Adds.refl _ | with_reducible apply Adds.drew | with_reducible apply Adds.drewN | with_reducible apply Adds.alloc | with_reducible apply Adds.more | (with_reducible refine Adds.setCell ?_ ?_ _) | (focus (simp [go_sem]; done)) | (focus (simp [go_sem]; omega))))) hA3) : Adds w wC); clear hO3 hn3 hA3)
      | (go_at_call 8; (with_reducible refine (known26 _).mono ?_); rintro e wD ⟨rfl, A4⟩))
    go_ret
    exact ⟨rfl, (A3.out.trans A4).below⟩
  · have H1 := Lib.hid (lenH ((1 + r) == 2) 3 65537 65536 (by omega) (by unfold S.lim; omega))
    have H2 := Lib.hid (lenC ((1 + r) == 2) 65537 65536 (by unfold S.lim; omega) (by omega))
    go_enter Try.func6, Try.ntmps6
    go_wp2_with (first
      | (go_at_call 13; (with_reducible refine (mplace_any a0 3 (by omega) (by omega) _).mono ?_); rintro e w' ⟨rfl, rfl⟩; rw [HP.out])
      | (go_at_call 13; (with_reducible refine (mplace_any a1 3 (by omega) (by omega) _).mono ?_); rintro e w' ⟨rfl, rfl⟩; rw [HQ.out])
      | (go_at_call 13; (with_reducible refine (mplace_any a2 2 (by omega) (by omega) _).mono ?_); rintro e w' ⟨rfl, rfl⟩; rw [HR.out])
      | (go_at_call 11; (with_reducible refine (expand_any (1 + r) (some ⟨w.heap.size + 1 + 1, 0, none⟩) 1 1 [⟨3, 0, 0, 0, 0, 0, 65537, false, false⟩] (by omega) _ ?hA65537Q3).mono ?_); (exact held_laid _ _ _ (by simp) _ rfl _); rintro e wB ⟨v, rfl, hO2, hA2⟩; obtain ⟨ad2, n2, c2, rfl, hn2, -, -, -, -⟩ := hO2.form2; obtain rfl : n2 = 65536 := hn2.out.symm.trans H1.out; have A2 := Lib.hid (Adds.trans (by (repeat (first | with_reducible exact Adds.refl _ | with_reducible apply Adds.drew | with_reducible apply Adds.drewN | with_reducible apply Adds.alloc | with_reducible apply Adds.more | (with_reducible refine Adds.setCell ?_ ?_ _) | (focus (simp [go_sem]; done)) | (focus (simp [go_sem]; omega))))) hA2 : Adds w wB); have RY : rowOf wB (w.heap.size + 1) = #[.int .i64 1, .int .i64 2, .int .u16 0, .int .u8 0, .int .i64 3, .int .i64 65537, .int .i64 3, .bool false, .bool false] := (rowOf_eq (hA2.below.block (w.heap.size + 1) (by simp [go_sem]))).trans (by simp [go_sem]); have hbY : w.heap.size + 1 < wB.heap.size := (by have := hA2.size; simp [go_sem] at this; omega); clear hO2 hn2 hA2)
      | (go_at_call 11; (with_reducible refine (expand_any (1 + r) (some ⟨wB.heap.size, 0, none⟩) 1 1 [⟨1, 2, 0, 0, 3, 65537, 3, false, false⟩] (by omega) _ ?hB65537Q3).mono ?_); (exact held_laid _ _ _ (by simp) _ rfl _); rintro e wC ⟨v, rfl, hO3, hA3⟩; obtain ⟨ad3, n3, c3, rfl, hn3, -, -, -, -⟩ := hO3.form2; obtain rfl : n3 = 65539 := hn3.out.symm.trans H2.out; have A3 := Lib.hid (A2.out.trans (Adds.trans (by (repeat (first | with_reducible exact Adds.refl _ | with_reducible apply Adds.drew | with_reducible apply Adds.drewN | with_reducible apply Adds.alloc | with_reducible apply Adds.more | (with_reducible refine Adds.setCell ?_ ?_ _) | (focus (simp [go_sem]; done)) | (focus (simp [go_sem]; omega))))) hA3) : Adds w wC); clear hO3 hn3 hA3)
      | (go_at_call 8; (with_reducible refine (known26 _).mono ?_); rintro e wD ⟨rfl, A4⟩))
    go_ret
    exact ⟨rfl, (A3.out.trans A4).below⟩
  · have H1 := Lib.hid (lenH ((1 + r) == 2) 4 65537 65536 (by omega) (by unfold S.lim; omega))
    have H2 := Lib.hid (lenC ((1 + r) == 2) 65537 65536 (by unfold S.lim; omega) (by omega))
    go_enter Try.func6, Try.ntmps6
    go_wp2_with (first
      | (go_at_call 13; (with_reducible refine (mplace_any a0 3 (by omega) (by omega) _).mono ?_); rintro e w' ⟨rfl, rfl⟩; rw [HP.out])
      | (go_at_call 13; (with_reducible refine (mplace_any a1 3 (by omega) (by omega) _).mono ?_); rintro e w' ⟨rfl, rfl⟩; rw [HQ.out])
      | (go_at_call 13; (with_reducible refine (mplace_any a2 2 (by omega) (by omega) _).mono ?_); rintro e w' ⟨rfl, rfl⟩; rw [HR.out])
      | (go_at_call 11; (with_reducible refine (expand_any (1 + r) (some ⟨w.heap.size + 1 + 1, 0, none⟩) 1 1 [⟨4, 0, 0, 0, 0, 0, 65537, false, false⟩] (by omega) _ ?hA65537Q4).mono ?_); (exact held_laid _ _ _ (by simp) _ rfl _); rintro e wB ⟨v, rfl, hO2, hA2⟩; obtain ⟨ad2, n2, c2, rfl, hn2, -, -, -, -⟩ := hO2.form2; obtain rfl : n2 = 65536 := hn2.out.symm.trans H1.out; have A2 := Lib.hid (Adds.trans (by (repeat (first | with_reducible exact Adds.refl _ | with_reducible apply Adds.drew | with_reducible apply Adds.drewN | with_reducible apply Adds.alloc | with_reducible apply Adds.more | (with_reducible refine Adds.setCell ?_ ?_ _) | (focus (simp [go_sem]; done)) | (focus (simp [go_sem]; omega))))) hA2 : Adds w wB); have RY : rowOf wB (w.heap.size + 1) = #[.int .i64 1, .int .i64 2, .int .u16 0, .int .u8 0, .int .i64 3, .int .i64 65537, .int .i64 3, .bool false, .bool false] := (rowOf_eq (hA2.below.block (w.heap.size + 1) (by simp [go_sem]))).trans (by simp [go_sem]); have hbY : w.heap.size + 1 < wB.heap.size := (by have := hA2.size; simp [go_sem] at this; omega); clear hO2 hn2 hA2)
      | (go_at_call 11; (with_reducible refine (expand_any (1 + r) (some ⟨wB.heap.size, 0, none⟩) 1 1 [⟨1, 2, 0, 0, 3, 65537, 3, false, false⟩] (by omega) _ ?hB65537Q4).mono ?_); (exact held_laid _ _ _ (by simp) _ rfl _); rintro e wC ⟨v, rfl, hO3, hA3⟩; obtain ⟨ad3, n3, c3, rfl, hn3, -, -, -, -⟩ := hO3.form2; obtain rfl : n3 = 65539 := hn3.out.symm.trans H2.out; have A3 := Lib.hid (A2.out.trans (Adds.trans (by (repeat (first | with_reducible exact Adds.refl _ | with_reducible apply Adds.drew | with_reducible apply Adds.drewN | with_reducible apply Adds.alloc | with_reducible apply Adds.more | (with_reducible refine Adds.setCell ?_ ?_ _) | (focus (simp [go_sem]; done)) | (focus (simp [go_sem]; omega))))) hA3) : Adds w wC); clear hO3 hn3 hA3)
      | (go_at_call 8; (with_reducible refine (known26 _).mono ?_); rintro e wD ⟨rfl, A4⟩))
    go_ret
    exact ⟨rfl, (A3.out.trans A4).below⟩


set_option maxRecDepth 100000 in
theorem lifted (os : Os) (started : os.Started) (H : Type) (enc : TypeId × Value → H) :
    ReturnsInHanded {} Try.checked os 6 .any (Rows.grammarLimitsSpec.pre6 enc Try.prog Try.f6 Rows.grammarLimitsRow.domain false) (Rows.grammarLimitsSpec.post enc Try.prog Try.f6 false true false false) := by
  refine returnsInHanded_of_change (C := Try.checked) own started (by kernel_rfl) Try.func6
    (ChangeSpec.witness6 (enc := enc) (C := Try.checked) false ⟨#[], #[.int .i64 0, .int .i64 0, .int .i64 0], []⟩ 8 (by kernel_rfl) (by kernel_rfl) (by kernel_rfl) (by kernel_rfl)) ?_
  intro W base args ds gs before hval0 hW hcnd _
  have hval : ∀ (j : Nat) t v, Try.f6.params[j]? = some t → args[j]? = some v → Value.okWide Try.prog W .any base t v := hval0
  have hW' := hW
  obtain ⟨p, q, hA0, hV, rfl, hfz, hnd⟩ := hW
  have hA : DataW.TrodAll enc Try.prog W 0 (fun _ => true) true Try.f6.params.toList args.toList ds p := hA0
  rw [Try.params6] at hA hval
  obtain ⟨v0, vs0, d0, ds0, p0, q0, hargs, rfl, rfl, h0, r0⟩ := trodAll_cons hA
  obtain ⟨v1, vs1, d1, ds1, p1, q1, rfl, rfl, rfl, h1, r1⟩ := trodAll_cons r0
  obtain ⟨v2, vs2, d2, ds2, p2, q2, rfl, rfl, rfl, h2, r2⟩ := trodAll_cons r1
  obtain ⟨rfl, rfl, rfl⟩ := trodAll_nil r2
  obtain rfl : args = #[v0, v1, v2] := by cases args; simp_all
  obtain ⟨rfl, rfl⟩ := trodVars_none hV
  have k0 := h0
  have lt0 : ∀ x ∈ p0, x.block < W.heap.size := by obtain ⟨m, hm⟩ := k0; exact DataW.trod_lt m _ _ _ hm
  obtain ⟨a0, rfl, -, -, w0⟩ := open_int Try.underlying3 (hval 0 3 v0 rfl rfl) h0
  have k1 := h1
  have lt1 : ∀ x ∈ p1, x.block < W.heap.size := by obtain ⟨m, hm⟩ := k1; exact DataW.trod_lt m _ _ _ hm
  obtain ⟨a1, rfl, -, -, w1⟩ := open_int Try.underlying3 (hval 1 3 v1 rfl rfl) h1
  have k2 := h2
  have lt2 : ∀ x ∈ p2, x.block < W.heap.size := by obtain ⟨m, hm⟩ := k2; exact DataW.trod_lt m _ _ _ hm
  obtain ⟨a2, rfl, -, -, w2⟩ := open_int Try.underlying3 (hval 2 3 v2 rfl rfl) h2
  clear hA0 hval0
  refine (walk a0 a1 a2 W w0 w1 w2).mono fun e W' ⟨he, bel⟩ => ?_
  subst he
  exact ⟨_, rfl, _, _, _, [], _, [], hW', trodAll_mk1 (shut_bool Try.underlying4 _), (trodAll_cons_mk (Below.trod laidOut (by kernel_rfl) (of_decide_eq_true (by kernel_rfl)) k0 bel lt0) (trodAll_cons_mk (Below.trod laidOut (by kernel_rfl) (of_decide_eq_true (by kernel_rfl)) k1 bel lt1) (trodAll_cons_mk (Below.trod laidOut (by kernel_rfl) (of_decide_eq_true (by kernel_rfl)) k2 bel lt2) trodAll_mk0))), rfl, bel.frame _, fun h => by cases h⟩

theorem over : Rows.grammarLimitsRow.holds Try.pinned (OpenSpec.ofChange Rows.grammarLimitsSpec) :=
  OpenClaim.holds_of_wide 6 Try.f6 rfl rfl rfl rfl rfl rfl rfl ⟨rfl, rfl, rfl, rfl, rfl⟩ rfl rfl rfl rfl rfl (by kernel_rfl) Try.func6 (by kernel_rfl)
    (of_decide_eq_true (by kernel_rfl)) (by unfold Func.isWrapper; first | (rw [if_pos (by decide +kernel)]; kernel_rfl) | (rw [if_neg (by decide +kernel)]; exact ⟨rfl, rfl⟩))
    (fun os started H enc _ => lifted os started H enc)

/-- The statement. -/
theorem proved : Rows.GrammarLimitsSaid := over
#print axioms proved
end Go.Proofs.Ytfhnfakjjfjohaa.grammarLimits
