/- The statement PicBlocksSaid of package tstatelaw22: for every input the law returns true, and its arguments read as before. No condition. -/
import Derived.Test.YtionembpmfahlaaRows
import Derived.Test.YtionembpmfahlaaM1
import Derived.Test.YtionembpmfahlaaC22m
import Derived.WalkKit
import Derived.ProofKit
import Derived.OpenShut
import Derived.ShutString
import Derived.ChangeOld
import Derived.Below
import Derived.Carry
namespace Go.Proofs.Ytionembpmfahlaa.picBlocks
open Go.ChangeShapes Go.WideShapes Go.ChangeAt Go.RowKit
open Go.ChangeMaps (open_string shut_string)
set_option linter.unusedVariables false

theorem own : ownKnob Try.prog.godebug = none := by kernel_rfl
theorem laidOut : laidOutB Try.prog = true := by kernel_rfl

def IsRow (k : IntKind) (w : World) (a : Option Addr) (len cap : Nat) (zs : List Int) : Prop :=
  (a = none ∧ len = 0 ∧ cap = 0 ∧ zs = []) ∨
  ∃ x, a = some x ∧ len ≤ cap ∧ cap ≤ maxLen ∧ zs.length = cap ∧ (∀ i, i < zs.length → w.cell? (x.add i) = some (.int k (zs.getD i 0))) ∧ ∀ n ∈ zs, (Lit.int k n).wf = true

set_option maxRecDepth 100000 in
set_option maxHeartbeats 2000000 in
/-- The walk. -/
theorem walk (a0 : Option Addr) (len0 cap0 : Nat) (z0 : List Int) (a1 : Int) (w : World) (w0 : IsRow .i64 w a0 len0 cap0 z0) (w1 : (Lit.int .u8 a1).wf = true) :
    Calls Try.prog 8 #[.slice a0 len0 cap0, .int .u8 a1] w fun e w' => e = .returned (.bool true) ∧ Below w.heap.size w w' := by
  by_cases h80 : 80 < len0
  · clear w0
    go_enter Try.func8, Try.ntmps8
    go_wp2_with (go_at_call 10; refine (known22_any _).mono ?_; rintro e w' ⟨rfl, ⟨⟨nk, osk⟩, rfl⟩⟩)
    go_ret
    exact ⟨rfl, Adds.below (by (repeat (first | with_reducible exact Adds.refl _ | with_reducible apply Adds.drew | with_reducible apply Adds.drewN | with_reducible apply Adds.alloc | with_reducible apply Adds.more | (with_reducible refine Adds.setCell ?_ ?_ _) | (focus (simp [go_sem]; done)) | (focus (simp [go_sem]; omega)))))⟩
  have R0 := Lib.hid w0
  clear w0
  go_enter Try.func8, Try.ntmps8
  go_upto_region 4 with (go_at_call 29; (refine (ready_any a0 len0 cap0 z0 _ R0.out (by omega)).mono ?_); rintro e w' ⟨p, ok, hsq, rfl, ⟨⟨n1, os1⟩, rfl⟩⟩; simp only [S.Pc.cs])
  go_cut [5] from 5 (fun v wx => ∃ (p : S.Pc) (bp : Nat), v = .pointer (some ⟨bp, 0, none⟩) ∧ S.Ok p ∧ InB bp wx ∧ rowOf wx bp = #[.int .i64 p.St, .bool p.Le, .bool p.Fo, .bool p.Si, .bool p.Ft, .int .u8 p.Lw, .int .u8 p.Hg, .bool (false), .bool p.Ro, .bool (false), .bool p.RI, .bool p.Po, .int .u8 p.Li, .int .u8 p.Ed, .int .u8 (0), .int .u8 p.IM, .int .i64 p.Lo, .int .i64 (0), .int .i64 p.Sv, .bool p.Su] ∧ Adds w wx)
  case first =>
    go_wp2_with fail
    go_meet
    exact ⟨p, _, rfl, ok, by simp [go_sem], by simp [go_sem], by (repeat (first | with_reducible exact Adds.refl _ | with_reducible apply Adds.drew | with_reducible apply Adds.drewN | with_reducible apply Adds.alloc | with_reducible apply Adds.more | (with_reducible refine Adds.setCell ?_ ?_ _) | (focus (simp [go_sem]; done)) | (focus (simp [go_sem]; omega))))⟩
  case rest =>
    obtain ⟨⟨pSt, pLe, pFo, pSi, pFt, pLw, pHg, pAu, pRo, pSp, pRI, pPo, pLi, pEd, pIS, pIM, pLo, pSq, pSv, pSu⟩, bp, rfl, ok0, hbp, hrow, hA⟩ := hcut
    rename World => w4
    have HA := Lib.hid hA
    clear hA
    have hsz : (rowOf w4 bp).size = 20 := by rw [hrow]; rfl
    have q15 := rowOf_cell hrow (i := 15) rfl
    have q16 := rowOf_cell hrow (i := 16) rfl
    have ok : S.Ok ⟨pSt, pLe, pFo, pSi, pFt, pLw, pHg, false, pRo, false, pRI, pPo, pLi, pEd, 0, pIM, pLo, 0, pSv, pSu⟩ := ⟨⟨by show (0 : Int) ≤ 0; omega, by show (0 : Int) < 256; omega⟩, ok0.2⟩
    clear ok0
    obtain ⟨t, ht⟩ : ∃ t, S.pkc ⟨pSt, pLe, pFo, pSi, pFt, pLw, pHg, false, pRo, false, pRI, pPo, pLi, pEd, 0, pIM, pLo, 0, pSv, pSu⟩ = t := ⟨_, rfl⟩
    have hb := S.pkc_bd ⟨pSt, pLe, pFo, pSi, pFt, pLw, pHg, false, pRo, false, pRI, pPo, pLi, pEd, 0, pIM, pLo, 0, pSv, pSu⟩
    rw [ht] at hb
    have HT : Hid (S.pk (bits .andNot .u8 (S.req ⟨pSt, pLe, pFo, pSi, pFt, pLw, pHg, false, pRo, false, pRI, pPo, pLi, pEd, 0, pIM, pLo, 0, pSv, pSu⟩) pIM) (S.blk pIM 0 false) pLo = t) := ht
    have HP : Hid (0 ≤ (⟨pSt, pLe, pFo, pSi, pFt, pLw, pHg, false, pRo, false, pRI, pPo, pLi, pEd, 0, pIM, pLo, 0, pSv, pSu⟩ : S.Pc).IS ∧ (⟨pSt, pLe, pFo, pSi, pFt, pLw, pHg, false, pRo, false, pRI, pPo, pLi, pEd, 0, pIM, pLo, 0, pSv, pSu⟩ : S.Pc).IS < 256) := ok.1
    rcases (by omega : t = -1 ∨ 0 ≤ t) with ht1 | ht1
    · subst ht1
      have HI : Hid (S.int ⟨pSt, pLe, pFo, pSi, pFt, pLw, pHg, false, pRo, false, pRI, pPo, pLi, pEd, 0, pIM, pLo, 0, pSv, pSu⟩ = false) := by
        unfold S.int
        rw [ht]
        rfl
      clear ht ok
      go_wp2_with fail
      refine wp_region_adds (by kernel_rfl) (by kernel_rfl) ?_
      repeat (go_big_quiet_step (first | (go_at_call 16; exact calls_adds (rreq_any ⟨pSt, pLe, pFo, pSi, pFt, pLw, pHg, false, pRo, false, pRI, pPo, pLi, pEd, 0, pIM, pLo, 0, pSv, pSu⟩ _)) | (go_at_call 30; exact calls_same (HT.out ▸ rpr_pick _ _ _ _ _ (Int.le_refl 0) (by decide) _))))
      refine wpQuiet_nil ?_
      intro _ hw1
      obtain ⟨⟨nq, osq⟩, hw2⟩ := hw1
      subst hw2
      go_wp2_with (first | (go_at_call 17; (with_reducible refine (int_any ⟨pSt, pLe, pFo, pSi, pFt, pLw, pHg, false, pRo, false, pRI, pPo, pLi, pEd, 0, pIM, pLo, 0, pSv, pSu⟩ HP.out.1 HP.out.2 _).mono ?_); rintro e w' ⟨rfl, ⟨⟨m1, ms1⟩, rfl⟩⟩; rw [HI.out]) | (go_at_call 10; refine (known22_any _).mono ?_; rintro e w' ⟨rfl, ⟨⟨nk, osk⟩, rfl⟩⟩))
      go_ret
      exact ⟨rfl, Adds.below (HA.out.trans (by (repeat (first | with_reducible exact Adds.refl _ | with_reducible apply Adds.drew | with_reducible apply Adds.drewN | with_reducible apply Adds.alloc | with_reducible apply Adds.more | (with_reducible refine Adds.setCell ?_ ?_ _) | (focus (simp [go_sem]; done)) | (focus (simp [go_sem]; omega))))))⟩
    · obtain ⟨q, E, g1, g2, g3, g4, x1, x2, x3, x4, x5⟩ := S.blocks_spec ⟨pSt, pLe, pFo, pSi, pFt, pLw, pHg, false, pRo, false, pRI, pPo, pLi, pEd, 0, pIM, pLo, 0, pSv, pSu⟩ rfl rfl rfl rfl t ht ht1
      obtain ⟨bt0, -, -, -, -⟩ := S.bl_spec t ht1 hb.2
      obtain ⟨r1, e1⟩ : ∃ r, S.ack ⟨pSt, pLe, pFo, pSi, pFt, pLw, pHg, false, pRo, false, pRI, pPo, pLi, pEd, 0, pIM, pLo, 0, pSv, pSu⟩ = r := ⟨_, rfl⟩
      rw [e1] at E
      obtain ⟨r2, e2⟩ : ∃ r, S.ack r1 = r := ⟨_, rfl⟩
      rw [e2] at E
      have ok1 : S.Ok r1 := e1 ▸ S.Ok_ack ok
      have ok2 : S.Ok r2 := e2 ▸ S.Ok_ack ok1
      have ok3 : S.Ok q := E ▸ S.Ok_ack ok2
      have h1 : Hid (0 ≤ r1.IS ∧ r1.IS < 256) := ok1.1
      have h2 : Hid (0 ≤ r2.IS ∧ r2.IS < 256) := ok2.1
      have h3 : Hid (0 ≤ q.IS ∧ q.IS < 256) := ok3.1
      have h4 : Hid (0 ≤ (S.raise q a1).IS ∧ (S.raise q a1).IS < 256) := ok3.1
      have E1 := Lib.hid e1
      have E2 := Lib.hid e2
      have E3 := Lib.hid E
      obtain ⟨u, eu⟩ : ∃ u, S.pk (bits .andNot .u8 (S.req (S.raise q a1)) (S.raise q a1).IM) (S.blk (S.raise q a1).IM (S.raise q a1).IS false) (S.raise q a1).Lo = u := ⟨_, rfl⟩
      have hu : u = -1 ∨ (0 ≤ u ∧ S.rk u pLo < S.rk t pLo) := by
        by_cases hn : u = -1
        · exact .inl hn
        · have eq1 : S.pk (bits .andNot .u8 (S.req (S.raise q a1)) (S.raise q a1).IM) (S.bl t) pLo = u := by
            rw [← eu]
            show _ = S.pk _ q.IS q.Lo
            rw [g1, g3]
          rw [← eq1] at hn ⊢
          exact .inr (S.next_less _ t pLo ht1 hb.2 hn)
      have EU := Lib.hid eu
      have G1 : Hid (q.IS = 2 ^ t.toNat % 256) := g1
      have X1 := Lib.hid x1
      have X2 : Hid ((S.wr q false 32).Lo = pLo) := x2
      have X3 := Lib.hid x3
      have X4 := Lib.hid x4
      have X5 := Lib.hid x5
      have hv6 : Hid (0 ≤ 96 + t ∧ 96 + t < 256) := ⟨by omega, by omega⟩
      have m6 : (96 + t) % 256 = 96 + t := by omega
      have k3 : decide (0 ≤ t) = true := by simpa using ht1
      have k4 : decide (t < 0) = false := by simpa using ht1
      clear ht ok e1 e2 E g1 g2 g3 g4 x1 x2 x3 x4 x5 ok1 ok2 ok3 eu bt0
      go_wp2_with fail
      refine wp_region_adds (by kernel_rfl) (by kernel_rfl) ?_
      repeat (go_big_quiet_step (first | (go_at_call 16; exact calls_adds (rreq_any ⟨pSt, pLe, pFo, pSi, pFt, pLw, pHg, false, pRo, false, pRI, pPo, pLi, pEd, 0, pIM, pLo, 0, pSv, pSu⟩ _)) | (go_at_call 30; exact calls_same (HT.out ▸ rpr_pick _ _ _ _ _ (Int.le_refl 0) (by decide) _))))
      refine wpQuiet_nil ?_
      intro _ hw1
      obtain ⟨⟨nq, osq⟩, hw2⟩ := hw1
      subst hw2
      go_wp2_with (first | (go_at_call 25; (with_reducible refine (ack_any ⟨pSt, pLe, pFo, pSi, pFt, pLw, pHg, false, pRo, false, pRI, pPo, pLi, pEd, 0, pIM, pLo, 0, pSv, pSu⟩ HP.out.1 HP.out.2 _).mono ?_); rintro e w' ⟨rfl, ⟨⟨m1, ms1⟩, rfl⟩⟩; rw [E1.out]; simp only [S.Pc.cs]) | (go_at_call 25; (with_reducible refine (ack_any r1 h1.out.1 h1.out.2 _).mono ?_); rintro e w' ⟨rfl, ⟨⟨m2, ms2⟩, rfl⟩⟩; rw [E2.out]; simp only [S.Pc.cs]) | (go_at_call 25; (with_reducible refine (ack_any r2 h2.out.1 h2.out.2 _).mono ?_); rintro e w' ⟨rfl, ⟨⟨m3, ms3⟩, rfl⟩⟩; rw [E3.out]; simp only [S.Pc.cs]) | (go_at_call 13; (with_reducible refine (raise_any q a1 _).mono ?_); rintro e w' ⟨rfl, ⟨⟨m4, ms4⟩, rfl⟩⟩; simp only [S.Pc.cs]))
      refine wp_region_adds (by kernel_rfl) (by kernel_rfl) ?_
      repeat (go_big_quiet_step (first | (go_at_call 16; exact calls_adds (rreq_any (S.raise q a1) _)) | (go_at_call 30; exact calls_same (EU.out ▸ rpr_pick _ _ _ _ _ h4.out.1 h4.out.2 _))))
      refine wpQuiet_nil ?_
      intro _ hw1
      obtain ⟨⟨nq, osq⟩, hw2⟩ := hw1
      subst hw2
      rcases hu with hu | ⟨hu1, hu2⟩
      · subst hu
        go_wp2_with fail
        refine wp_region_adds (by kernel_rfl) (by kernel_rfl) ?_
        repeat (go_big_quiet_step (first | (go_at_call 31; exact calls_same (rpr_rank _ _ _))))
        refine wpQuiet_nil ?_
        intro _ hw1
        obtain ⟨⟨nq, osq⟩, hw2⟩ := hw1
        subst hw2
        go_wp2_with (first | (go_at_call 21; (with_reducible refine (write_any q false 32 (by decide) (by decide) h3.out.1 h3.out.2 _).mono ?_); rintro e w' ⟨rfl, ⟨⟨m5, ms5⟩, rfl⟩⟩; simp only [S.Pc.cs]) | (go_at_call 21; (with_reducible refine (write_any q false 160 (by decide) (by decide) h3.out.1 h3.out.2 _).mono ?_); rintro e w' ⟨rfl, ⟨⟨m7, ms7⟩, rfl⟩⟩; simp only [S.Pc.cs]) | (go_at_call 21; (with_reducible refine (write_any q false (96 + t) hv6.out.1 hv6.out.2 h3.out.1 h3.out.2 _).mono ?_); rintro e w' ⟨rfl, ⟨⟨m6, ms6⟩, rfl⟩⟩; simp only [S.Pc.cs]))
        have y1 := G1.out
        have y2 := X1.out
        have y3 := X2.out
        have y4 := X3.out
        have y5 := X4.out
        have y6 := X5.out
        refine wp_region_adds (by kernel_rfl) (by kernel_rfl) ?_
        repeat (go_big_quiet_step (first | (go_at_call 10; exact calls_adds (known22_any _))))
        refine wpQuiet_nil ?_
        intro _ hw1
        obtain ⟨⟨nq, osq⟩, hw2⟩ := hw1
        subst hw2
        go_wp2_with fail
        go_ret
        exact ⟨rfl, Adds.below (HA.out.trans (by (repeat (first | with_reducible exact Adds.refl _ | with_reducible apply Adds.drew | with_reducible apply Adds.drewN | with_reducible apply Adds.alloc | with_reducible apply Adds.more | (with_reducible refine Adds.setCell ?_ ?_ _) | (focus (simp [go_sem]; done)) | (focus (simp [go_sem]; omega))))))⟩
      · obtain ⟨k5, k6⟩ : decide (0 ≤ u) = true ∧ decide (S.rk t pLo ≤ S.rk u pLo) = false := ⟨decide_eq_true hu1, decide_eq_false (by omega)⟩
        go_wp2_with fail
        refine wp_region_adds (by kernel_rfl) (by kernel_rfl) ?_
        repeat (go_big_quiet_step (first | (go_at_call 31; exact calls_same (rpr_rank _ _ _))))
        refine wpQuiet_nil ?_
        intro _ hw1
        obtain ⟨⟨nq, osq⟩, hw2⟩ := hw1
        subst hw2
        go_wp2_with (first | (go_at_call 21; (with_reducible refine (write_any q false 32 (by decide) (by decide) h3.out.1 h3.out.2 _).mono ?_); rintro e w' ⟨rfl, ⟨⟨m5, ms5⟩, rfl⟩⟩; simp only [S.Pc.cs]) | (go_at_call 21; (with_reducible refine (write_any q false 160 (by decide) (by decide) h3.out.1 h3.out.2 _).mono ?_); rintro e w' ⟨rfl, ⟨⟨m7, ms7⟩, rfl⟩⟩; simp only [S.Pc.cs]) | (go_at_call 21; (with_reducible refine (write_any q false (96 + t) hv6.out.1 hv6.out.2 h3.out.1 h3.out.2 _).mono ?_); rintro e w' ⟨rfl, ⟨⟨m6, ms6⟩, rfl⟩⟩; simp only [S.Pc.cs]))
        have y1 := G1.out
        have y2 := X1.out
        have y3 := X2.out
        have y4 := X3.out
        have y5 := X4.out
        have y6 := X5.out
        refine wp_region_adds (by kernel_rfl) (by kernel_rfl) ?_
        repeat (go_big_quiet_step (first | (go_at_call 10; exact calls_adds (known22_any _))))
        refine wpQuiet_nil ?_
        intro _ hw1
        obtain ⟨⟨nq, osq⟩, hw2⟩ := hw1
        subst hw2
        go_wp2_with fail
        go_ret
        exact ⟨rfl, Adds.below (HA.out.trans (by (repeat (first | with_reducible exact Adds.refl _ | with_reducible apply Adds.drew | with_reducible apply Adds.drewN | with_reducible apply Adds.alloc | with_reducible apply Adds.more | (with_reducible refine Adds.setCell ?_ ?_ _) | (focus (simp [go_sem]; done)) | (focus (simp [go_sem]; omega))))))⟩

set_option maxRecDepth 100000 in
theorem lifted (os : Os) (started : os.Started) (H : Type) (enc : TypeId × Value → H) :
    ReturnsInHanded {} Try.checked os 8 .any (Rows.picBlocksSpec.pre6 enc Try.prog Try.f8 Rows.picBlocksRow.domain false) (Rows.picBlocksSpec.post enc Try.prog Try.f8 false true false false) := by
  refine returnsInHanded_of_change (C := Try.checked) own started (by kernel_rfl) Try.func8
    (ChangeSpec.witness6 (enc := enc) (C := Try.checked) false ⟨#[], #[.slice none 0 0, .int .u8 0], []⟩ 8 (by kernel_rfl) (by kernel_rfl) (by kernel_rfl) (by kernel_rfl)) ?_
  intro W base args ds gs before hval0 hW hcnd _
  have hval : ∀ (j : Nat) t v, Try.f8.params[j]? = some t → args[j]? = some v → Value.okWide Try.prog W .any base t v := hval0
  have hW' := hW
  obtain ⟨p, q, hA0, hV, rfl, hfz, hnd⟩ := hW
  have hA : DataW.TrodAll enc Try.prog W 0 (fun _ => true) true Try.f8.params.toList args.toList ds p := hA0
  rw [Try.params8] at hA hval
  obtain ⟨v0, vs0, d0, ds0, p0, q0, hargs, rfl, rfl, h0, r0⟩ := trodAll_cons hA
  obtain ⟨v1, vs1, d1, ds1, p1, q1, rfl, rfl, rfl, h1, r1⟩ := trodAll_cons r0
  obtain ⟨rfl, rfl, rfl⟩ := trodAll_nil r1
  obtain rfl : args = #[v0, v1] := by cases args; simp_all
  obtain ⟨rfl, rfl⟩ := trodVars_none hV
  have k0 := h0
  have lt0 : ∀ x ∈ p0, x.block < W.heap.size := by obtain ⟨m, hm⟩ := k0; exact DataW.trod_lt m _ _ _ hm
  obtain ⟨a0, len0, cap0, rfl⟩ := okWide_slice Try.underlying24 (hval 0 24 v0 rfl rfl)
  obtain ⟨z0, w0⟩ : ∃ zs, IsRow .i64 W a0 len0 cap0 zs := by
    obtain ⟨fuel, hf⟩ := h0
    rcases open_ints Try.underlying24 Try.underlying3 (by kernel_rfl) hf with ⟨hcs, _⟩ | ⟨x, l, c, zs, hcs, _, hl, hm, hz, _, hcell, hwz⟩
    · simp [Value.cells] at hcs
      obtain ⟨rfl, rfl, rfl⟩ := hcs
      exact ⟨[], .inl ⟨rfl, rfl, rfl, rfl⟩⟩
    · simp [Value.cells] at hcs
      obtain ⟨rfl, rfl, rfl⟩ := hcs
      exact ⟨zs, .inr ⟨_, rfl, hl, hm, by simpa using hz, hcell, hwz⟩⟩
  have k1 := h1
  have lt1 : ∀ x ∈ p1, x.block < W.heap.size := by obtain ⟨m, hm⟩ := k1; exact DataW.trod_lt m _ _ _ hm
  obtain ⟨a1, rfl, -, -, w1⟩ := open_int Try.underlying5 (hval 1 5 v1 rfl rfl) h1
  clear hA0 hval0
  refine (walk a0 len0 cap0 z0 a1 W w0 w1).mono fun e W' ⟨he, bel⟩ => ?_
  subst he
  exact ⟨_, rfl, _, _, _, [], _, [], hW', trodAll_mk1 (shut_bool Try.underlying4 _), (trodAll_cons_mk (Below.trod laidOut (by kernel_rfl) (of_decide_eq_true (by kernel_rfl)) k0 bel lt0) (trodAll_cons_mk (Below.trod laidOut (by kernel_rfl) (of_decide_eq_true (by kernel_rfl)) k1 bel lt1) trodAll_mk0)), rfl, bel.frame _, fun h => by cases h⟩

theorem over : Rows.picBlocksRow.holds Try.pinned (OpenSpec.ofChange Rows.picBlocksSpec) :=
  OpenClaim.holds_of_wide 8 Try.f8 rfl rfl rfl rfl rfl rfl rfl ⟨rfl, rfl, rfl, rfl, rfl⟩ rfl rfl rfl rfl rfl (by kernel_rfl) Try.func8 (by kernel_rfl)
    (of_decide_eq_true (by kernel_rfl)) (by unfold Func.isWrapper; first | (rw [if_pos (by decide +kernel)]; kernel_rfl) | (rw [if_neg (by decide +kernel)]; exact ⟨rfl, rfl⟩))
    (fun os started H enc _ => lifted os started H enc)

/-- The statement. -/
theorem proved : Rows.PicBlocksSaid := over
#print axioms proved
end Go.Proofs.Ytionembpmfahlaa.picBlocks
