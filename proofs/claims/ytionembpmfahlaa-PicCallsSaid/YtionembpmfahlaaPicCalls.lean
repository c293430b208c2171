/- The statement PicCallsSaid of package tstatelaw22: for every input the law returns true, and its arguments read as before. No condition. -/
import Derived.Test.YtionembpmfahlaaRows
import Derived.Test.YtionembpmfahlaaM1
import Derived.Test.YtionembpmfahlaaC22m
import Derived.WalkKit
import Derived.ProofKit
import Derived.OpenShut
import Derived.ShutString
import Derived.ChangeOld
import Derived.Below
import Derived.Carry
namespace Go.Proofs.Ytionembpmfahlaa.picCalls
open Go.ChangeShapes Go.WideShapes Go.ChangeAt Go.RowKit
open Go.ChangeMaps (open_string shut_string)
set_option linter.unusedVariables false

theorem own : ownKnob Try.prog.godebug = none := by kernel_rfl
theorem laidOut : laidOutB Try.prog = true := by kernel_rfl

def IsRow (k : IntKind) (w : World) (a : Option Addr) (len cap : Nat) (zs : List Int) : Prop :=
  (a = none ∧ len = 0 ∧ cap = 0 ∧ zs = []) ∨
  ∃ x, a = some x ∧ len ≤ cap ∧ cap ≤ maxLen ∧ zs.length = cap ∧ (∀ i, i < zs.length → w.cell? (x.add i) = some (.int k (zs.getD i 0))) ∧ ∀ n ∈ zs, (Lit.int k n).wf = true

set_option maxRecDepth 100000 in
set_option maxHeartbeats 2000000 in
/-- The walk. -/
theorem walk (a0 : Option Addr) (len0 cap0 : Nat) (z0 : List Int) (a1 : Int) (a2 : Int) (w : World) (w0 : IsRow .i64 w a0 len0 cap0 z0) (w1 : (Lit.int .u8 a1).wf = true) (w2 : (Lit.int .u8 a2).wf = true) :
    Calls Try.prog 7 #[.slice a0 len0 cap0, .int .u8 a1, .int .u8 a2] w fun e w' => e = .returned (.bool true) ∧ Below w.heap.size w w' := by
  by_cases h80 : 80 < len0
  · clear w0
    go_enter Try.func7, Try.ntmps7
    go_wp2_with (go_at_call 10; refine (known22_any _).mono ?_; rintro e w' ⟨rfl, ⟨⟨nk, osk⟩, rfl⟩⟩)
    go_ret
    exact ⟨rfl, Adds.below (by (repeat (first | with_reducible exact Adds.refl _ | with_reducible apply Adds.drew | with_reducible apply Adds.drewN | with_reducible apply Adds.alloc | with_reducible apply Adds.more | (with_reducible refine Adds.setCell ?_ ?_ _) | (focus (simp [go_sem]; done)) | (focus (simp [go_sem]; omega)))))⟩
  have R0 := Lib.hid w0
  clear w0
  go_enter Try.func7, Try.ntmps7
  go_upto_region 3 with fail
  go_cut [7] from 7 (fun v wx => ∃ (p : S.Pc) (bp : Nat), v = .pointer (some ⟨bp, 0, none⟩) ∧ S.Ok p ∧ p.Sq = 0 ∧ InB bp wx ∧ rowOf wx bp = #[.int .i64 p.St, .bool p.Le, .bool p.Fo, .bool p.Si, .bool p.Ft, .int .u8 p.Lw, .int .u8 p.Hg, .bool p.Au, .bool p.Ro, .bool p.Sp, .bool p.RI, .bool p.Po, .int .u8 p.Li, .int .u8 p.Ed, .int .u8 p.IS, .int .u8 p.IM, .int .i64 p.Lo, .int .i64 p.Sq, .int .i64 p.Sv, .bool p.Su] ∧ Adds w wx)
  case first =>
    go_wp2_with (go_at_call 29; (refine (ready_any a0 len0 cap0 z0 _ R0.out (by omega)).mono ?_); rintro e w' ⟨p, ok, hsq, rfl, ⟨⟨n1, os1⟩, rfl⟩⟩; simp only [S.Pc.cs])
    go_meet
    exact ⟨p, _, rfl, ok, hsq, by simp [go_sem], by simp [go_sem, hsq], by (repeat (first | with_reducible exact Adds.refl _ | with_reducible apply Adds.drew | with_reducible apply Adds.drewN | with_reducible apply Adds.alloc | with_reducible apply Adds.more | (with_reducible refine Adds.setCell ?_ ?_ _) | (focus (simp [go_sem]; done)) | (focus (simp [go_sem]; omega))))⟩
  case rest =>
    obtain ⟨⟨pSt, pLe, pFo, pSi, pFt, pLw, pHg, pAu, pRo, pSp, pRI, pPo, pLi, pEd, pIS, pIM, pLo, pSq, pSv, pSu⟩, bp, rfl, ok, hsq, hbp, hrow, hA⟩ := hcut
    rename World => w4
    have HA := Lib.hid hA
    clear hA
    have hsz : (rowOf w4 bp).size = 20 := by rw [hrow]; rfl
    have q2 := rowOf_cell hrow (i := 2) rfl
    have q5 := rowOf_cell hrow (i := 5) rfl
    have q6 := rowOf_cell hrow (i := 6) rfl
    have q7 := rowOf_cell hrow (i := 7) rfl
    have q9 := rowOf_cell hrow (i := 9) rfl
    have q14 := rowOf_cell hrow (i := 14) rfl
    have q15 := rowOf_cell hrow (i := 15) rfl
    have q16 := rowOf_cell hrow (i := 16) rfl
    cases pFo
    · cases pAu
      · obtain ⟨t, ht⟩ : ∃ t, S.pkc ⟨pSt, pLe, false, pSi, pFt, pLw, pHg, false, pRo, pSp, pRI, pPo, pLi, pEd, pIS, pIM, pLo, pSq, pSv, pSu⟩ = t := ⟨_, rfl⟩
        have hb := S.pkc_bd ⟨pSt, pLe, false, pSi, pFt, pLw, pHg, false, pRo, pSp, pRI, pPo, pLi, pEd, pIS, pIM, pLo, pSq, pSv, pSu⟩
        rw [ht] at hb
        obtain ⟨⟨l1, l2⟩, l3, l4⟩ := S.low_bd pLw ok.2.1.1 ok.2.1.2
        have hh : 0 ≤ pHg ∧ pHg < 256 := ok.2.2
        obtain ⟨r1, r2, r3, E1, V1, ok1, E2, V2, ok2, E3, V3, G1, G2⟩ := S.calls_spec ⟨pSt, pLe, false, pSi, pFt, pLw, pHg, false, pRo, pSp, pRI, pPo, pLi, pEd, pIS, pIM, pLo, pSq, pSv, pSu⟩ ok hsq a1 a2 t ht
        have HP : Hid (0 ≤ (⟨pSt, pLe, false, pSi, pFt, pLw, pHg, false, pRo, pSp, pRI, pPo, pLi, pEd, pIS, pIM, pLo, pSq, pSv, pSu⟩ : S.Pc).IS ∧ (⟨pSt, pLe, false, pSi, pFt, pLw, pHg, false, pRo, pSp, pRI, pPo, pLi, pEd, pIS, pIM, pLo, pSq, pSv, pSu⟩ : S.Pc).IS < 256) := ok.1
        have HQ : Hid (0 ≤ pIS ∧ pIS < 256) := ok.1
        have HT : Hid (S.pk (bits .andNot .u8 (S.req ⟨pSt, pLe, false, pSi, pFt, pLw, pHg, false, pRo, pSp, pRI, pPo, pLi, pEd, pIS, pIM, pLo, pSq, pSv, pSu⟩) pIM) (S.blk pIM pIS pSp) pLo = t) := ht
        have e1 := Lib.hid E1
        have e2 := Lib.hid E2
        have e3 := Lib.hid E3
        have v1 := Lib.hid V1
        have v3 : Hid (S.ackV (S.raise r2 a2) = pHg) := V3
        have o1 : Hid (0 ≤ (S.raise r1 a1).IS ∧ (S.raise r1 a1).IS < 256) := ok1.1
        have o2 : Hid (0 ≤ (S.raise r2 a2).IS ∧ (S.raise r2 a2).IS < 256) := ok2.1
        rcases (by omega : t = -1 ∨ 0 ≤ t) with ht1 | ht1
        · subst ht1
          have v2 : Hid _ := (by simpa using V2 : S.ackV (S.raise r1 a1) = bits .and .u8 pLw 192 + 8 * 7)
          have g2 : r3.IS = pIS := by simpa using G2
          clear E1 E2 E3 V1 V2 V3 ok1 ok2 ok hsq ht G2
          go_wp2_with fail
          refine wp_region_adds (by kernel_rfl) (by kernel_rfl) ?_
          repeat (go_big_quiet_step (first | (go_at_call 16; exact calls_adds (rreq_any ⟨pSt, pLe, false, pSi, pFt, pLw, pHg, false, pRo, pSp, pRI, pPo, pLi, pEd, pIS, pIM, pLo, pSq, pSv, pSu⟩ _)) | (go_at_call 30; exact calls_same (HT.out ▸ rpr_pick _ _ _ _ _ HQ.out.1 HQ.out.2 _))))
          refine wpQuiet_nil ?_
          intro _ hw1
          obtain ⟨⟨nq, osq⟩, hw2⟩ := hw1
          subst hw2
          go_wp2_with (first | (go_at_call 13; (with_reducible refine (raise_any r1 a1 _).mono ?_); rintro e w' ⟨rfl, ⟨⟨m2, ms2⟩, rfl⟩⟩; simp only [S.Pc.cs]) | (go_at_call 13; (with_reducible refine (raise_any r2 a2 _).mono ?_); rintro e w' ⟨rfl, ⟨⟨m4, ms4⟩, rfl⟩⟩; simp only [S.Pc.cs]) | (go_at_call 25; (with_reducible refine (ack_any (S.raise r1 a1) o1.out.1 o1.out.2 _).mono ?_); rintro e w' ⟨rfl, ⟨⟨m3, ms3⟩, rfl⟩⟩; rw [e2.out, v2.out]; simp only [S.Pc.cs]) | (go_at_call 25; (with_reducible refine (ack_any (S.raise r2 a2) o2.out.1 o2.out.2 _).mono ?_); rintro e w' ⟨rfl, ⟨⟨m5, ms5⟩, rfl⟩⟩; rw [e3.out, v3.out]; simp only [S.Pc.cs]) | (go_at_call 25; (with_reducible refine (ack_any ⟨pSt, pLe, false, pSi, pFt, pLw, pHg, false, pRo, pSp, pRI, pPo, pLi, pEd, pIS, pIM, pLo, pSq, pSv, pSu⟩ HP.out.1 HP.out.2 _).mono ?_); rintro e w' ⟨rfl, ⟨⟨m1, ms1⟩, rfl⟩⟩; rw [e1.out, v1.out]; simp only [S.Pc.cs]) | (go_at_call 10; refine (known22_any _).mono ?_; rintro e w' ⟨rfl, ⟨⟨nk, osk⟩, rfl⟩⟩))
          go_ret
          exact ⟨rfl, Adds.below (HA.out.trans (by (repeat (first | with_reducible exact Adds.refl _ | with_reducible apply Adds.drew | with_reducible apply Adds.drewN | with_reducible apply Adds.alloc | with_reducible apply Adds.more | (with_reducible refine Adds.setCell ?_ ?_ _) | (focus (simp [go_sem]; done)) | (focus (simp [go_sem]; omega))))))⟩
        · have hn1 : ¬ t = -1 := by omega
          have v2 : Hid _ := (by simpa [hn1] using V2 : S.ackV (S.raise r1 a1) = bits .and .u8 pLw 192 + 8 * t)
          have g2 : r3.IS = bits .or .u8 pIS (2 ^ t.toNat % 256) := by simpa [hn1] using G2
          have g3 : decide (0 ≤ t) = true := by simpa using ht1
          have g4 : decide (t < 0) = false := by simpa using ht1
          clear E1 E2 E3 V1 V2 V3 ok1 ok2 ok hsq ht G2
          go_wp2_with fail
          refine wp_region_adds (by kernel_rfl) (by kernel_rfl) ?_
          repeat (go_big_quiet_step (first | (go_at_call 16; exact calls_adds (rreq_any ⟨pSt, pLe, false, pSi, pFt, pLw, pHg, false, pRo, pSp, pRI, pPo, pLi, pEd, pIS, pIM, pLo, pSq, pSv, pSu⟩ _)) | (go_at_call 30; exact calls_same (HT.out ▸ rpr_pick _ _ _ _ _ HQ.out.1 HQ.out.2 _))))
          refine wpQuiet_nil ?_
          intro _ hw1
          obtain ⟨⟨nq, osq⟩, hw2⟩ := hw1
          subst hw2
          go_wp2_with (first | (go_at_call 13; (with_reducible refine (raise_any r1 a1 _).mono ?_); rintro e w' ⟨rfl, ⟨⟨m2, ms2⟩, rfl⟩⟩; simp only [S.Pc.cs]) | (go_at_call 13; (with_reducible refine (raise_any r2 a2 _).mono ?_); rintro e w' ⟨rfl, ⟨⟨m4, ms4⟩, rfl⟩⟩; simp only [S.Pc.cs]) | (go_at_call 25; (with_reducible refine (ack_any (S.raise r1 a1) o1.out.1 o1.out.2 _).mono ?_); rintro e w' ⟨rfl, ⟨⟨m3, ms3⟩, rfl⟩⟩; rw [e2.out, v2.out]; simp only [S.Pc.cs]) | (go_at_call 25; (with_reducible refine (ack_any (S.raise r2 a2) o2.out.1 o2.out.2 _).mono ?_); rintro e w' ⟨rfl, ⟨⟨m5, ms5⟩, rfl⟩⟩; rw [e3.out, v3.out]; simp only [S.Pc.cs]) | (go_at_call 25; (with_reducible refine (ack_any ⟨pSt, pLe, false, pSi, pFt, pLw, pHg, false, pRo, pSp, pRI, pPo, pLi, pEd, pIS, pIM, pLo, pSq, pSv, pSu⟩ HP.out.1 HP.out.2 _).mono ?_); rintro e w' ⟨rfl, ⟨⟨m1, ms1⟩, rfl⟩⟩; rw [e1.out, v1.out]; simp only [S.Pc.cs]) | (go_at_call 10; refine (known22_any _).mono ?_; rintro e w' ⟨rfl, ⟨⟨nk, osk⟩, rfl⟩⟩))
          go_ret
          exact ⟨rfl, Adds.below (HA.out.trans (by (repeat (first | with_reducible exact Adds.refl _ | with_reducible apply Adds.drew | with_reducible apply Adds.drewN | with_reducible apply Adds.alloc | with_reducible apply Adds.more | (with_reducible refine Adds.setCell ?_ ?_ _) | (focus (simp [go_sem]; done)) | (focus (simp [go_sem]; omega))))))⟩
      · obtain ⟨t, ht⟩ : ∃ t, S.pkc ⟨pSt, pLe, false, pSi, pFt, pLw, pHg, true, pRo, pSp, pRI, pPo, pLi, pEd, pIS, pIM, pLo, pSq, pSv, pSu⟩ = t := ⟨_, rfl⟩
        have hb := S.pkc_bd ⟨pSt, pLe, false, pSi, pFt, pLw, pHg, true, pRo, pSp, pRI, pPo, pLi, pEd, pIS, pIM, pLo, pSq, pSv, pSu⟩
        rw [ht] at hb
        obtain ⟨⟨l1, l2⟩, l3, l4⟩ := S.low_bd pLw ok.2.1.1 ok.2.1.2
        have hh : 0 ≤ pHg ∧ pHg < 256 := ok.2.2
        obtain ⟨r1, r2, r3, E1, V1, ok1, E2, V2, ok2, E3, V3, G1, G2⟩ := S.calls_spec ⟨pSt, pLe, false, pSi, pFt, pLw, pHg, true, pRo, pSp, pRI, pPo, pLi, pEd, pIS, pIM, pLo, pSq, pSv, pSu⟩ ok hsq a1 a2 t ht
        have HP : Hid (0 ≤ (⟨pSt, pLe, false, pSi, pFt, pLw, pHg, true, pRo, pSp, pRI, pPo, pLi, pEd, pIS, pIM, pLo, pSq, pSv, pSu⟩ : S.Pc).IS ∧ (⟨pSt, pLe, false, pSi, pFt, pLw, pHg, true, pRo, pSp, pRI, pPo, pLi, pEd, pIS, pIM, pLo, pSq, pSv, pSu⟩ : S.Pc).IS < 256) := ok.1
        have HQ : Hid (0 ≤ pIS ∧ pIS < 256) := ok.1
        have HT : Hid (S.pk (bits .andNot .u8 (S.req ⟨pSt, pLe, false, pSi, pFt, pLw, pHg, true, pRo, pSp, pRI, pPo, pLi, pEd, pIS, pIM, pLo, pSq, pSv, pSu⟩) pIM) (S.blk pIM pIS pSp) pLo = t) := ht
        have e1 := Lib.hid E1
        have e2 := Lib.hid E2
        have e3 := Lib.hid E3
        have v1 := Lib.hid V1
        have v3 : Hid (S.ackV (S.raise r2 a2) = pHg) := V3
        have o1 : Hid (0 ≤ (S.raise r1 a1).IS ∧ (S.raise r1 a1).IS < 256) := ok1.1
        have o2 : Hid (0 ≤ (S.raise r2 a2).IS ∧ (S.raise r2 a2).IS < 256) := ok2.1
        rcases (by omega : t = -1 ∨ 0 ≤ t) with ht1 | ht1
        · subst ht1
          have v2 : Hid _ := (by simpa using V2 : S.ackV (S.raise r1 a1) = bits .and .u8 pLw 192 + 8 * 7)
          have g2 : r3.IS = pIS := by simpa using G2
          clear E1 E2 E3 V1 V2 V3 ok1 ok2 ok hsq ht G2
          go_wp2_with fail
          refine wp_region_adds (by kernel_rfl) (by kernel_rfl) ?_
          repeat (go_big_quiet_step (first | (go_at_call 16; exact calls_adds (rreq_any ⟨pSt, pLe, false, pSi, pFt, pLw, pHg, true, pRo, pSp, pRI, pPo, pLi, pEd, pIS, pIM, pLo, pSq, pSv, pSu⟩ _)) | (go_at_call 30; exact calls_same (HT.out ▸ rpr_pick _ _ _ _ _ HQ.out.1 HQ.out.2 _))))
          refine wpQuiet_nil ?_
          intro _ hw1
          obtain ⟨⟨nq, osq⟩, hw2⟩ := hw1
          subst hw2
          go_wp2_with (first | (go_at_call 13; (with_reducible refine (raise_any r1 a1 _).mono ?_); rintro e w' ⟨rfl, ⟨⟨m2, ms2⟩, rfl⟩⟩; simp only [S.Pc.cs]) | (go_at_call 13; (with_reducible refine (raise_any r2 a2 _).mono ?_); rintro e w' ⟨rfl, ⟨⟨m4, ms4⟩, rfl⟩⟩; simp only [S.Pc.cs]) | (go_at_call 25; (with_reducible refine (ack_any (S.raise r1 a1) o1.out.1 o1.out.2 _).mono ?_); rintro e w' ⟨rfl, ⟨⟨m3, ms3⟩, rfl⟩⟩; rw [e2.out, v2.out]; simp only [S.Pc.cs]) | (go_at_call 25; (with_reducible refine (ack_any (S.raise r2 a2) o2.out.1 o2.out.2 _).mono ?_); rintro e w' ⟨rfl, ⟨⟨m5, ms5⟩, rfl⟩⟩; rw [e3.out, v3.out]; simp only [S.Pc.cs]) | (go_at_call 25; (with_reducible refine (ack_any ⟨pSt, pLe, false, pSi, pFt, pLw, pHg, true, pRo, pSp, pRI, pPo, pLi, pEd, pIS, pIM, pLo, pSq, pSv, pSu⟩ HP.out.1 HP.out.2 _).mono ?_); rintro e w' ⟨rfl, ⟨⟨m1, ms1⟩, rfl⟩⟩; rw [e1.out, v1.out]; simp only [S.Pc.cs]) | (go_at_call 10; refine (known22_any _).mono ?_; rintro e w' ⟨rfl, ⟨⟨nk, osk⟩, rfl⟩⟩))
          go_ret
          exact ⟨rfl, Adds.below (HA.out.trans (by (repeat (first | with_reducible exact Adds.refl _ | with_reducible apply Adds.drew | with_reducible apply Adds.drewN | with_reducible apply Adds.alloc | with_reducible apply Adds.more | (with_reducible refine Adds.setCell ?_ ?_ _) | (focus (simp [go_sem]; done)) | (focus (simp [go_sem]; omega))))))⟩
        · have hn1 : ¬ t = -1 := by omega
          have v2 : Hid _ := (by simpa [hn1] using V2 : S.ackV (S.raise r1 a1) = bits .and .u8 pLw 192 + 8 * t)
          have g2 : r3.IS = bits .andNot .u8 pIS (2 ^ t.toNat % 256) := by simpa [hn1] using G2
          have g3 : decide (0 ≤ t) = true := by simpa using ht1
          have g4 : decide (t < 0) = false := by simpa using ht1
          clear E1 E2 E3 V1 V2 V3 ok1 ok2 ok hsq ht G2
          go_wp2_with fail
          refine wp_region_adds (by kernel_rfl) (by kernel_rfl) ?_
          repeat (go_big_quiet_step (first | (go_at_call 16; exact calls_adds (rreq_any ⟨pSt, pLe, false, pSi, pFt, pLw, pHg, true, pRo, pSp, pRI, pPo, pLi, pEd, pIS, pIM, pLo, pSq, pSv, pSu⟩ _)) | (go_at_call 30; exact calls_same (HT.out ▸ rpr_pick _ _ _ _ _ HQ.out.1 HQ.out.2 _))))
          refine wpQuiet_nil ?_
          intro _ hw1
          obtain ⟨⟨nq, osq⟩, hw2⟩ := hw1
          subst hw2
          go_wp2_with (first | (go_at_call 13; (with_reducible refine (raise_any r1 a1 _).mono ?_); rintro e w' ⟨rfl, ⟨⟨m2, ms2⟩, rfl⟩⟩; simp only [S.Pc.cs]) | (go_at_call 13; (with_reducible refine (raise_any r2 a2 _).mono ?_); rintro e w' ⟨rfl, ⟨⟨m4, ms4⟩, rfl⟩⟩; simp only [S.Pc.cs]) | (go_at_call 25; (with_reducible refine (ack_any (S.raise r1 a1) o1.out.1 o1.out.2 _).mono ?_); rintro e w' ⟨rfl, ⟨⟨m3, ms3⟩, rfl⟩⟩; rw [e2.out, v2.out]; simp only [S.Pc.cs]) | (go_at_call 25; (with_reducible refine (ack_any (S.raise r2 a2) o2.out.1 o2.out.2 _).mono ?_); rintro e w' ⟨rfl, ⟨⟨m5, ms5⟩, rfl⟩⟩; rw [e3.out, v3.out]; simp only [S.Pc.cs]) | (go_at_call 25; (with_reducible refine (ack_any ⟨pSt, pLe, false, pSi, pFt, pLw, pHg, true, pRo, pSp, pRI, pPo, pLi, pEd, pIS, pIM, pLo, pSq, pSv, pSu⟩ HP.out.1 HP.out.2 _).mono ?_); rintro e w' ⟨rfl, ⟨⟨m1, ms1⟩, rfl⟩⟩; rw [e1.out, v1.out]; simp only [S.Pc.cs]) | (go_at_call 10; refine (known22_any _).mono ?_; rintro e w' ⟨rfl, ⟨⟨nk, osk⟩, rfl⟩⟩))
          go_ret
          exact ⟨rfl, Adds.below (HA.out.trans (by (repeat (first | with_reducible exact Adds.refl _ | with_reducible apply Adds.drew | with_reducible apply Adds.drewN | with_reducible apply Adds.alloc | with_reducible apply Adds.more | (with_reducible refine Adds.setCell ?_ ?_ _) | (focus (simp [go_sem]; done)) | (focus (simp [go_sem]; omega))))))⟩
    · cases pAu
      · obtain ⟨t, ht⟩ : ∃ t, S.pkc ⟨pSt, pLe, true, pSi, pFt, pLw, pHg, false, pRo, pSp, pRI, pPo, pLi, pEd, pIS, pIM, pLo, pSq, pSv, pSu⟩ = t := ⟨_, rfl⟩
        have hb := S.pkc_bd ⟨pSt, pLe, true, pSi, pFt, pLw, pHg, false, pRo, pSp, pRI, pPo, pLi, pEd, pIS, pIM, pLo, pSq, pSv, pSu⟩
        rw [ht] at hb
        obtain ⟨⟨l1, l2⟩, l3, l4⟩ := S.low_bd pLw ok.2.1.1 ok.2.1.2
        have hh : 0 ≤ pHg ∧ pHg < 256 := ok.2.2
        obtain ⟨r1, r2, r3, E1, V1, ok1, E2, V2, ok2, E3, V3, G1, G2⟩ := S.calls_spec ⟨pSt, pLe, true, pSi, pFt, pLw, pHg, false, pRo, pSp, pRI, pPo, pLi, pEd, pIS, pIM, pLo, pSq, pSv, pSu⟩ ok hsq a1 a2 t ht
        have HP : Hid (0 ≤ (⟨pSt, pLe, true, pSi, pFt, pLw, pHg, false, pRo, pSp, pRI, pPo, pLi, pEd, pIS, pIM, pLo, pSq, pSv, pSu⟩ : S.Pc).IS ∧ (⟨pSt, pLe, true, pSi, pFt, pLw, pHg, false, pRo, pSp, pRI, pPo, pLi, pEd, pIS, pIM, pLo, pSq, pSv, pSu⟩ : S.Pc).IS < 256) := ok.1
        have HQ : Hid (0 ≤ pIS ∧ pIS < 256) := ok.1
        have HT : Hid (S.pk (bits .andNot .u8 (S.req ⟨pSt, pLe, true, pSi, pFt, pLw, pHg, false, pRo, pSp, pRI, pPo, pLi, pEd, pIS, pIM, pLo, pSq, pSv, pSu⟩) pIM) (S.blk pIM pIS pSp) pLo = t) := ht
        have e1 := Lib.hid E1
        have e2 := Lib.hid E2
        have e3 := Lib.hid E3
        have v1 := Lib.hid V1
        have v3 : Hid (S.ackV (S.raise r2 a2) = pHg) := V3
        have o1 : Hid (0 ≤ (S.raise r1 a1).IS ∧ (S.raise r1 a1).IS < 256) := ok1.1
        have o2 : Hid (0 ≤ (S.raise r2 a2).IS ∧ (S.raise r2 a2).IS < 256) := ok2.1
        rcases (by omega : t = -1 ∨ 0 ≤ t) with ht1 | ht1
        · subst ht1
          have v2 : Hid _ := (by simpa using V2 : S.ackV (S.raise r1 a1) = bits .and .u8 pLw 224 + 4 * 7)
          have g2 : r3.IS = pIS := by simpa using G2
          clear E1 E2 E3 V1 V2 V3 ok1 ok2 ok hsq ht G2
          go_wp2_with fail
          refine wp_region_adds (by kernel_rfl) (by kernel_rfl) ?_
          repeat (go_big_quiet_step (first | (go_at_call 16; exact calls_adds (rreq_any ⟨pSt, pLe, true, pSi, pFt, pLw, pHg, false, pRo, pSp, pRI, pPo, pLi, pEd, pIS, pIM, pLo, pSq, pSv, pSu⟩ _)) | (go_at_call 30; exact calls_same (HT.out ▸ rpr_pick _ _ _ _ _ HQ.out.1 HQ.out.2 _))))
          refine wpQuiet_nil ?_
          intro _ hw1
          obtain ⟨⟨nq, osq⟩, hw2⟩ := hw1
          subst hw2
          go_wp2_with (first | (go_at_call 13; (with_reducible refine (raise_any r1 a1 _).mono ?_); rintro e w' ⟨rfl, ⟨⟨m2, ms2⟩, rfl⟩⟩; simp only [S.Pc.cs]) | (go_at_call 13; (with_reducible refine (raise_any r2 a2 _).mono ?_); rintro e w' ⟨rfl, ⟨⟨m4, ms4⟩, rfl⟩⟩; simp only [S.Pc.cs]) | (go_at_call 25; (with_reducible refine (ack_any (S.raise r1 a1) o1.out.1 o1.out.2 _).mono ?_); rintro e w' ⟨rfl, ⟨⟨m3, ms3⟩, rfl⟩⟩; rw [e2.out, v2.out]; simp only [S.Pc.cs]) | (go_at_call 25; (with_reducible refine (ack_any (S.raise r2 a2) o2.out.1 o2.out.2 _).mono ?_); rintro e w' ⟨rfl, ⟨⟨m5, ms5⟩, rfl⟩⟩; rw [e3.out, v3.out]; simp only [S.Pc.cs]) | (go_at_call 25; (with_reducible refine (ack_any ⟨pSt, pLe, true, pSi, pFt, pLw, pHg, false, pRo, pSp, pRI, pPo, pLi, pEd, pIS, pIM, pLo, pSq, pSv, pSu⟩ HP.out.1 HP.out.2 _).mono ?_); rintro e w' ⟨rfl, ⟨⟨m1, ms1⟩, rfl⟩⟩; rw [e1.out, v1.out]; simp only [S.Pc.cs]) | (go_at_call 10; refine (known22_any _).mono ?_; rintro e w' ⟨rfl, ⟨⟨nk, osk⟩, rfl⟩⟩))
          go_ret
          exact ⟨rfl, Adds.below (HA.out.trans (by (repeat (first | with_reducible exact Adds.refl _ | with_reducible apply Adds.drew | with_reducible apply Adds.drewN | with_reducible apply Adds.alloc | with_reducible apply Adds.more | (with_reducible refine Adds.setCell ?_ ?_ _) | (focus (simp [go_sem]; done)) | (focus (simp [go_sem]; omega))))))⟩
        · have hn1 : ¬ t = -1 := by omega
          have v2 : Hid _ := (by simpa [hn1] using V2 : S.ackV (S.raise r1 a1) = bits .and .u8 pLw 224 + 4 * t)
          have g2 : r3.IS = bits .or .u8 pIS (2 ^ t.toNat % 256) := by simpa [hn1] using G2
          have g3 : decide (0 ≤ t) = true := by simpa using ht1
          have g4 : decide (t < 0) = false := by simpa using ht1
          clear E1 E2 E3 V1 V2 V3 ok1 ok2 ok hsq ht G2
          go_wp2_with fail
          refine wp_region_adds (by kernel_rfl) (by kernel_rfl) ?_
          repeat (go_big_quiet_step (first | (go_at_call 16; exact calls_adds (rreq_any ⟨pSt, pLe, true, pSi, pFt, pLw, pHg, false, pRo, pSp, pRI, pPo, pLi, pEd, pIS, pIM, pLo, pSq, pSv, pSu⟩ _)) | (go_at_call 30; exact calls_same (HT.out ▸ rpr_pick _ _ _ _ _ HQ.out.1 HQ.out.2 _))))
          refine wpQuiet_nil ?_
          intro _ hw1
          obtain ⟨⟨nq, osq⟩, hw2⟩ := hw1
          subst hw2
          go_wp2_with (first | (go_at_call 13; (with_reducible refine (raise_any r1 a1 _).mono ?_); rintro e w' ⟨rfl, ⟨⟨m2, ms2⟩, rfl⟩⟩; simp only [S.Pc.cs]) | (go_at_call 13; (with_reducible refine (raise_any r2 a2 _).mono ?_); rintro e w' ⟨rfl, ⟨⟨m4, ms4⟩, rfl⟩⟩; simp only [S.Pc.cs]) | (go_at_call 25; (with_reducible refine (ack_any (S.raise r1 a1) o1.out.1 o1.out.2 _).mono ?_); rintro e w' ⟨rfl, ⟨⟨m3, ms3⟩, rfl⟩⟩; rw [e2.out, v2.out]; simp only [S.Pc.cs]) | (go_at_call 25; (with_reducible refine (ack_any (S.raise r2 a2) o2.out.1 o2.out.2 _).mono ?_); rintro e w' ⟨rfl, ⟨⟨m5, ms5⟩, rfl⟩⟩; rw [e3.out, v3.out]; simp only [S.Pc.cs]) | (go_at_call 25; (with_reducible refine (ack_any ⟨pSt, pLe, true, pSi, pFt, pLw, pHg, false, pRo, pSp, pRI, pPo, pLi, pEd, pIS, pIM, pLo, pSq, pSv, pSu⟩ HP.out.1 HP.out.2 _).mono ?_); rintro e w' ⟨rfl, ⟨⟨m1, ms1⟩, rfl⟩⟩; rw [e1.out, v1.out]; simp only [S.Pc.cs]) | (go_at_call 10; refine (known22_any _).mono ?_; rintro e w' ⟨rfl, ⟨⟨nk, osk⟩, rfl⟩⟩))
          go_ret
          exact ⟨rfl, Adds.below (HA.out.trans (by (repeat (first | with_reducible exact Adds.refl _ | with_reducible apply Adds.drew | with_reducible apply Adds.drewN | with_reducible apply Adds.alloc | with_reducible apply Adds.more | (with_reducible refine Adds.setCell ?_ ?_ _) | (focus (simp [go_sem]; done)) | (focus (simp [go_sem]; omega))))))⟩
      · obtain ⟨t, ht⟩ : ∃ t, S.pkc ⟨pSt, pLe, true, pSi, pFt, pLw, pHg, true, pRo, pSp, pRI, pPo, pLi, pEd, pIS, pIM, pLo, pSq, pSv, pSu⟩ = t := ⟨_, rfl⟩
        have hb := S.pkc_bd ⟨pSt, pLe, true, pSi, pFt, pLw, pHg, true, pRo, pSp, pRI, pPo, pLi, pEd, pIS, pIM, pLo, pSq, pSv, pSu⟩
        rw [ht] at hb
        obtain ⟨⟨l1, l2⟩, l3, l4⟩ := S.low_bd pLw ok.2.1.1 ok.2.1.2
        have hh : 0 ≤ pHg ∧ pHg < 256 := ok.2.2
        obtain ⟨r1, r2, r3, E1, V1, ok1, E2, V2, ok2, E3, V3, G1, G2⟩ := S.calls_spec ⟨pSt, pLe, true, pSi, pFt, pLw, pHg, true, pRo, pSp, pRI, pPo, pLi, pEd, pIS, pIM, pLo, pSq, pSv, pSu⟩ ok hsq a1 a2 t ht
        have HP : Hid (0 ≤ (⟨pSt, pLe, true, pSi, pFt, pLw, pHg, true, pRo, pSp, pRI, pPo, pLi, pEd, pIS, pIM, pLo, pSq, pSv, pSu⟩ : S.Pc).IS ∧ (⟨pSt, pLe, true, pSi, pFt, pLw, pHg, true, pRo, pSp, pRI, pPo, pLi, pEd, pIS, pIM, pLo, pSq, pSv, pSu⟩ : S.Pc).IS < 256) := ok.1
        have HQ : Hid (0 ≤ pIS ∧ pIS < 256) := ok.1
        have HT : Hid (S.pk (bits .andNot .u8 (S.req ⟨pSt, pLe, true, pSi, pFt, pLw, pHg, true, pRo, pSp, pRI, pPo, pLi, pEd, pIS, pIM, pLo, pSq, pSv, pSu⟩) pIM) (S.blk pIM pIS pSp) pLo = t) := ht
        have e1 := Lib.hid E1
        have e2 := Lib.hid E2
        have e3 := Lib.hid E3
        have v1 := Lib.hid V1
        have v3 : Hid (S.ackV (S.raise r2 a2) = pHg) := V3
        have o1 : Hid (0 ≤ (S.raise r1 a1).IS ∧ (S.raise r1 a1).IS < 256) := ok1.1
        have o2 : Hid (0 ≤ (S.raise r2 a2).IS ∧ (S.raise r2 a2).IS < 256) := ok2.1
        rcases (by omega : t = -1 ∨ 0 ≤ t) with ht1 | ht1
        · subst ht1
          have v2 : Hid _ := (by simpa using V2 : S.ackV (S.raise r1 a1) = bits .and .u8 pLw 224 + 4 * 7)
          have g2 : r3.IS = pIS := by simpa using G2
          clear E1 E2 E3 V1 V2 V3 ok1 ok2 ok hsq ht G2
          go_wp2_with fail
          refine wp_region_adds (by kernel_rfl) (by kernel_rfl) ?_
          repeat (go_big_quiet_step (first | (go_at_call 16; exact calls_adds (rreq_any ⟨pSt, pLe, true, pSi, pFt, pLw, pHg, true, pRo, pSp, pRI, pPo, pLi, pEd, pIS, pIM, pLo, pSq, pSv, pSu⟩ _)) | (go_at_call 30; exact calls_same (HT.out ▸ rpr_pick _ _ _ _ _ HQ.out.1 HQ.out.2 _))))
          refine wpQuiet_nil ?_
          intro _ hw1
          obtain ⟨⟨nq, osq⟩, hw2⟩ := hw1
          subst hw2
          go_wp2_with (first | (go_at_call 13; (with_reducible refine (raise_any r1 a1 _).mono ?_); rintro e w' ⟨rfl, ⟨⟨m2, ms2⟩, rfl⟩⟩; simp only [S.Pc.cs]) | (go_at_call 13; (with_reducible refine (raise_any r2 a2 _).mono ?_); rintro e w' ⟨rfl, ⟨⟨m4, ms4⟩, rfl⟩⟩; simp only [S.Pc.cs]) | (go_at_call 25; (with_reducible refine (ack_any (S.raise r1 a1) o1.out.1 o1.out.2 _).mono ?_); rintro e w' ⟨rfl, ⟨⟨m3, ms3⟩, rfl⟩⟩; rw [e2.out, v2.out]; simp only [S.Pc.cs]) | (go_at_call 25; (with_reducible refine (ack_any (S.raise r2 a2) o2.out.1 o2.out.2 _).mono ?_); rintro e w' ⟨rfl, ⟨⟨m5, ms5⟩, rfl⟩⟩; rw [e3.out, v3.out]; simp only [S.Pc.cs]) | (go_at_call 25; (with_reducible refine (ack_any ⟨pSt, pLe, true, pSi, pFt, pLw, pHg, true, pRo, pSp, pRI, pPo, pLi, pEd, pIS, pIM, pLo, pSq, pSv, pSu⟩ HP.out.1 HP.out.2 _).mono ?_); rintro e w' ⟨rfl, ⟨⟨m1, ms1⟩, rfl⟩⟩; rw [e1.out, v1.out]; simp only [S.Pc.cs]) | (go_at_call 10; refine (known22_any _).mono ?_; rintro e w' ⟨rfl, ⟨⟨nk, osk⟩, rfl⟩⟩))
          go_ret
          exact ⟨rfl, Adds.below (HA.out.trans (by (repeat (first | with_reducible exact Adds.refl _ | with_reducible apply Adds.drew | with_reducible apply Adds.drewN | with_reducible apply Adds.alloc | with_reducible apply Adds.more | (with_reducible refine Adds.setCell ?_ ?_ _) | (focus (simp [go_sem]; done)) | (focus (simp [go_sem]; omega))))))⟩
        · have hn1 : ¬ t = -1 := by omega
          have v2 : Hid _ := (by simpa [hn1] using V2 : S.ackV (S.raise r1 a1) = bits .and .u8 pLw 224 + 4 * t)
          have g2 : r3.IS = bits .andNot .u8 pIS (2 ^ t.toNat % 256) := by simpa [hn1] using G2
          have g3 : decide (0 ≤ t) = true := by simpa using ht1
          have g4 : decide (t < 0) = false := by simpa using ht1
          clear E1 E2 E3 V1 V2 V3 ok1 ok2 ok hsq ht G2
          go_wp2_with fail
          refine wp_region_adds (by kernel_rfl) (by kernel_rfl) ?_
          repeat (go_big_quiet_step (first | (go_at_call 16; exact calls_adds (rreq_any ⟨pSt, pLe, true, pSi, pFt, pLw, pHg, true, pRo, pSp, pRI, pPo, pLi, pEd, pIS, pIM, pLo, pSq, pSv, pSu⟩ _)) | (go_at_call 30; exact calls_same (HT.out ▸ rpr_pick _ _ _ _ _ HQ.out.1 HQ.out.2 _))))
          refine wpQuiet_nil ?_
          intro _ hw1
          obtain ⟨⟨nq, osq⟩, hw2⟩ := hw1
          subst hw2
          go_wp2_with (first | (go_at_call 13; (with_reducible refine (raise_any r1 a1 _).mono ?_); rintro e w' ⟨rfl, ⟨⟨m2, ms2⟩, rfl⟩⟩; simp only [S.Pc.cs]) | (go_at_call 13; (with_reducible refine (raise_any r2 a2 _).mono ?_); rintro e w' ⟨rfl, ⟨⟨m4, ms4⟩, rfl⟩⟩; simp only [S.Pc.cs]) | (go_at_call 25; (with_reducible refine (ack_any (S.raise r1 a1) o1.out.1 o1.out.2 _).mono ?_); rintro e w' ⟨rfl, ⟨⟨m3, ms3⟩, rfl⟩⟩; rw [e2.out, v2.out]; simp only [S.Pc.cs]) | (go_at_call 25; (with_reducible refine (ack_any (S.raise r2 a2) o2.out.1 o2.out.2 _).mono ?_); rintro e w' ⟨rfl, ⟨⟨m5, ms5⟩, rfl⟩⟩; rw [e3.out, v3.out]; simp only [S.Pc.cs]) | (go_at_call 25; (with_reducible refine (ack_any ⟨pSt, pLe, true, pSi, pFt, pLw, pHg, true, pRo, pSp, pRI, pPo, pLi, pEd, pIS, pIM, pLo, pSq, pSv, pSu⟩ HP.out.1 HP.out.2 _).mono ?_); rintro e w' ⟨rfl, ⟨⟨m1, ms1⟩, rfl⟩⟩; rw [e1.out, v1.out]; simp only [S.Pc.cs]) | (go_at_call 10; refine (known22_any _).mono ?_; rintro e w' ⟨rfl, ⟨⟨nk, osk⟩, rfl⟩⟩))
          go_ret
          exact ⟨rfl, Adds.below (HA.out.trans (by (repeat (first | with_reducible exact Adds.refl _ | with_reducible apply Adds.drew | with_reducible apply Adds.drewN | with_reducible apply Adds.alloc | with_reducible apply Adds.more | (with_reducible refine Adds.setCell ?_ ?_ _) | (focus (simp [go_sem]; done)) | (focus (simp [go_sem]; omega))))))⟩

set_option maxRecDepth 100000 in
theorem lifted (os : Os) (started : os.Started) (H : Type) (enc : TypeId × Value → H) :
    ReturnsInHanded {} Try.checked os 7 .any (Rows.picCallsSpec.pre6 enc Try.prog Try.f7 Rows.picCallsRow.domain false) (Rows.picCallsSpec.post enc Try.prog Try.f7 false true false false) := by
  refine returnsInHanded_of_change (C := Try.checked) own started (by kernel_rfl) Try.func7
    (ChangeSpec.witness6 (enc := enc) (C := Try.checked) false ⟨#[], #[.slice none 0 0, .int .u8 0, .int .u8 0], []⟩ 8 (by kernel_rfl) (by kernel_rfl) (by kernel_rfl) (by kernel_rfl)) ?_
  intro W base args ds gs before hval0 hW hcnd _
  have hval : ∀ (j : Nat) t v, Try.f7.params[j]? = some t → args[j]? = some v → Value.okWide Try.prog W .any base t v := hval0
  have hW' := hW
  obtain ⟨p, q, hA0, hV, rfl, hfz, hnd⟩ := hW
  have hA : DataW.TrodAll enc Try.prog W 0 (fun _ => true) true Try.f7.params.toList args.toList ds p := hA0
  rw [Try.params7] at hA hval
  obtain ⟨v0, vs0, d0, ds0, p0, q0, hargs, rfl, rfl, h0, r0⟩ := trodAll_cons hA
  obtain ⟨v1, vs1, d1, ds1, p1, q1, rfl, rfl, rfl, h1, r1⟩ := trodAll_cons r0
  obtain ⟨v2, vs2, d2, ds2, p2, q2, rfl, rfl, rfl, h2, r2⟩ := trodAll_cons r1
  obtain ⟨rfl, rfl, rfl⟩ := trodAll_nil r2
  obtain rfl : args = #[v0, v1, v2] := by cases args; simp_all
  obtain ⟨rfl, rfl⟩ := trodVars_none hV
  have k0 := h0
  have lt0 : ∀ x ∈ p0, x.block < W.heap.size := by obtain ⟨m, hm⟩ := k0; exact DataW.trod_lt m _ _ _ hm
  obtain ⟨a0, len0, cap0, rfl⟩ := okWide_slice Try.underlying24 (hval 0 24 v0 rfl rfl)
  obtain ⟨z0, w0⟩ : ∃ zs, IsRow .i64 W a0 len0 cap0 zs := by
    obtain ⟨fuel, hf⟩ := h0
    rcases open_ints Try.underlying24 Try.underlying3 (by kernel_rfl) hf with ⟨hcs, _⟩ | ⟨x, l, c, zs, hcs, _, hl, hm, hz, _, hcell, hwz⟩
    · simp [Value.cells] at hcs
      obtain ⟨rfl, rfl, rfl⟩ := hcs
      exact ⟨[], .inl ⟨rfl, rfl, rfl, rfl⟩⟩
    · simp [Value.cells] at hcs
      obtain ⟨rfl, rfl, rfl⟩ := hcs
      exact ⟨zs, .inr ⟨_, rfl, hl, hm, by simpa using hz, hcell, hwz⟩⟩
  have k1 := h1
  have lt1 : ∀ x ∈ p1, x.block < W.heap.size := by obtain ⟨m, hm⟩ := k1; exact DataW.trod_lt m _ _ _ hm
  obtain ⟨a1, rfl, -, -, w1⟩ := open_int Try.underlying5 (hval 1 5 v1 rfl rfl) h1
  have k2 := h2
  have lt2 : ∀ x ∈ p2, x.block < W.heap.size := by obtain ⟨m, hm⟩ := k2; exact DataW.trod_lt m _ _ _ hm
  obtain ⟨a2, rfl, -, -, w2⟩ := open_int Try.underlying5 (hval 2 5 v2 rfl rfl) h2
  clear hA0 hval0
  refine (walk a0 len0 cap0 z0 a1 a2 W w0 w1 w2).mono fun e W' ⟨he, bel⟩ => ?_
  subst he
  exact ⟨_, rfl, _, _, _, [], _, [], hW', trodAll_mk1 (shut_bool Try.underlying4 _), (trodAll_cons_mk (Below.trod laidOut (by kernel_rfl) (of_decide_eq_true (by kernel_rfl)) k0 bel lt0) (trodAll_cons_mk (Below.trod laidOut (by kernel_rfl) (of_decide_eq_true (by kernel_rfl)) k1 bel lt1) (trodAll_cons_mk (Below.trod laidOut (by kernel_rfl) (of_decide_eq_true (by kernel_rfl)) k2 bel lt2) trodAll_mk0))), rfl, bel.frame _, fun h => by cases h⟩

theorem over : Rows.picCallsRow.holds Try.pinned (OpenSpec.ofChange Rows.picCallsSpec) :=
  OpenClaim.holds_of_wide 7 Try.f7 rfl rfl rfl rfl rfl rfl rfl ⟨rfl, rfl, rfl, rfl, rfl⟩ rfl rfl rfl rfl rfl (by kernel_rfl) Try.func7 (by kernel_rfl)
    (of_decide_eq_true (by kernel_rfl)) (by unfold Func.isWrapper; first | (rw [if_pos (by decide +kernel)]; kernel_rfl) | (rw [if_neg (by decide +kernel)]; exact ⟨rfl, rfl⟩))
    (fun os started H enc _ => lifted os started H enc)

/-- The statement. -/
theorem proved : Rows.PicCallsSaid := over
#print axioms proved
end Go.Proofs.Ytionembpmfahlaa.picCalls
