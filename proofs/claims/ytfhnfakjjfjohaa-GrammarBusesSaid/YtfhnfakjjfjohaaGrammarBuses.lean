/- The statement GrammarBusesSaid of package tstatelaw26: for every input the law returns true, and its arguments read as before. No condition. -/
import Derived.Test.YtfhnfakjjfjohaaRows
import Derived.Test.YtfhnfakjjfjohaaM1
import Derived.Test.YtfhnfakjjfjohaaCM
import Derived.Test.YtfhnfakjjfjohaaCN
import Derived.Test.YtfhnfakjjfjohaaC26e
import Derived.Test.YtfhnfakjjfjohaaC26n
import Derived.Test.YtfhnfakjjfjohaaC26u
import Derived.Test.YtfhnfakjjfjohaaC26x
import Derived.WalkKit
import Derived.ProofKit
import Derived.OpenShut
import Derived.ShutString
import Derived.ChangeOld
import Derived.Below
import Derived.Carry
namespace Go.Proofs.Ytfhnfakjjfjohaa.grammarBuses
open Go.ChangeShapes Go.WideShapes Go.ChangeAt Go.RowKit
open Go.ChangeMaps (open_string shut_string)
set_option linter.unusedVariables false

theorem own : ownKnob Try.prog.godebug = none := by kernel_rfl
theorem laidOut : laidOutB Try.prog = true := by kernel_rfl

theorem up_grown26 {w w' : World} {b N : Nat} (u : Up w b N w') : w.grownBy w' (some b) := by
  have g1 : w.grownBy (w.setCell ⟨b, 1, none⟩ (.int .i64 (N : Int))) (some b) := ⟨rfl, rfl, rfl, by simp, fun k _ hk => heap_setCell_other w ⟨b, 1, none⟩ k _ (fun e => hk (by simp [e]))⟩
  exact g1.trans (Adds.grownBy u (some b))
theorem box_adds26 {w w1 : World} {o : Obj} (h : (w.alloc o).grownBy w1 (some w.heap.size)) : Adds w w1 :=
  Adds.of_below ⟨h.os, h.tape, h.output, by have := h.size; simp at this; omega, fun k hk => by
    rw [h.block k (by simp; omega) (by simp; omega)]; exact heap_past w o hk⟩
/-- A complete cycle's records. -/
theorem bus (on : Bool) (c a d s : Int) (h3 : 3 ≤ s) (h6 : s ≤ 6) : ((S.ex on [⟨1, c, a, d, s, 0, s, false, false⟩]).length : Int) = s ∧ (∀ j : Nat, (j : Int) < s → ∃ p, (S.ex on [⟨1, c, a, d, s, 0, s, false, false⟩])[j]? = some p ∧ p.ad = a ∧ p.st = (j : Int) + 1 ∧ p.fl = false ∧ p.hl = false) ∧ (S.ex on [⟨1, c, a, d, s, 0, s, false, false⟩])[2]? = some (S.pn on ⟨1, c, a, d, s, 0, s, false, false⟩ 3) := by
  have hl : S.lim 0 = 0 := rfl
  rcases (by omega : s = 3 ∨ s = 4 ∨ s = 5 ∨ s = 6) with rfl | rfl | rfl | rfl
  · have hs : S.ex on [⟨1, c, a, d, 3, 0, 3, false, false⟩] = ([1, 2, 3] : List Int).map (S.pn on ⟨1, c, a, d, 3, 0, 3, false, false⟩) := by
      have hc : S.cnt 3 3 = 3 := rfl
      simp only [S.ex, S.ex1, S.sts, S.sps, List.flatMap_cons, List.flatMap_nil, List.append_nil, hc, hl]
      rfl
    rw [hs]
    refine ⟨rfl, fun j hj => ?_, rfl⟩
    have hj' : j < 3 := by omega
    match j, hj' with
    | 0, _ => exact ⟨_, rfl, by cases on <;> rfl, by cases on <;> rfl, by cases on <;> rfl, by cases on <;> rfl⟩
    | 1, _ => exact ⟨_, rfl, by cases on <;> rfl, by cases on <;> rfl, by cases on <;> rfl, by cases on <;> rfl⟩
    | 2, _ => exact ⟨_, rfl, by cases on <;> rfl, by cases on <;> rfl, by cases on <;> rfl, by cases on <;> rfl⟩
    | 3, _ => first | omega | exact ⟨_, rfl, by cases on <;> rfl, by cases on <;> rfl, by cases on <;> rfl, by cases on <;> rfl⟩
    | 4, _ => first | omega | exact ⟨_, rfl, by cases on <;> rfl, by cases on <;> rfl, by cases on <;> rfl, by cases on <;> rfl⟩
    | 5, _ => first | omega | exact ⟨_, rfl, by cases on <;> rfl, by cases on <;> rfl, by cases on <;> rfl, by cases on <;> rfl⟩
    | j + 6, h => exact absurd h (by omega)
  · have hs : S.ex on [⟨1, c, a, d, 4, 0, 4, false, false⟩] = ([1, 2, 3, 4] : List Int).map (S.pn on ⟨1, c, a, d, 4, 0, 4, false, false⟩) := by
      have hc : S.cnt 4 4 = 4 := rfl
      simp only [S.ex, S.ex1, S.sts, S.sps, List.flatMap_cons, List.flatMap_nil, List.append_nil, hc, hl]
      rfl
    rw [hs]
    refine ⟨rfl, fun j hj => ?_, rfl⟩
    have hj' : j < 4 := by omega
    match j, hj' with
    | 0, _ => exact ⟨_, rfl, by cases on <;> rfl, by cases on <;> rfl, by cases on <;> rfl, by cases on <;> rfl⟩
    | 1, _ => exact ⟨_, rfl, by cases on <;> rfl, by cases on <;> rfl, by cases on <;> rfl, by cases on <;> rfl⟩
    | 2, _ => exact ⟨_, rfl, by cases on <;> rfl, by cases on <;> rfl, by cases on <;> rfl, by cases on <;> rfl⟩
    | 3, _ => first | omega | exact ⟨_, rfl, by cases on <;> rfl, by cases on <;> rfl, by cases on <;> rfl, by cases on <;> rfl⟩
    | 4, _ => first | omega | exact ⟨_, rfl, by cases on <;> rfl, by cases on <;> rfl, by cases on <;> rfl, by cases on <;> rfl⟩
    | 5, _ => first | omega | exact ⟨_, rfl, by cases on <;> rfl, by cases on <;> rfl, by cases on <;> rfl, by cases on <;> rfl⟩
    | j + 6, h => exact absurd h (by omega)
  · have hs : S.ex on [⟨1, c, a, d, 5, 0, 5, false, false⟩] = ([1, 2, 3, 4, 5] : List Int).map (S.pn on ⟨1, c, a, d, 5, 0, 5, false, false⟩) := by
      have hc : S.cnt 5 5 = 5 := rfl
      simp only [S.ex, S.ex1, S.sts, S.sps, List.flatMap_cons, List.flatMap_nil, List.append_nil, hc, hl]
      rfl
    rw [hs]
    refine ⟨rfl, fun j hj => ?_, rfl⟩
    have hj' : j < 5 := by omega
    match j, hj' with
    | 0, _ => exact ⟨_, rfl, by cases on <;> rfl, by cases on <;> rfl, by cases on <;> rfl, by cases on <;> rfl⟩
    | 1, _ => exact ⟨_, rfl, by cases on <;> rfl, by cases on <;> rfl, by cases on <;> rfl, by cases on <;> rfl⟩
    | 2, _ => exact ⟨_, rfl, by cases on <;> rfl, by cases on <;> rfl, by cases on <;> rfl, by cases on <;> rfl⟩
    | 3, _ => first | omega | exact ⟨_, rfl, by cases on <;> rfl, by cases on <;> rfl, by cases on <;> rfl, by cases on <;> rfl⟩
    | 4, _ => first | omega | exact ⟨_, rfl, by cases on <;> rfl, by cases on <;> rfl, by cases on <;> rfl, by cases on <;> rfl⟩
    | 5, _ => first | omega | exact ⟨_, rfl, by cases on <;> rfl, by cases on <;> rfl, by cases on <;> rfl, by cases on <;> rfl⟩
    | j + 6, h => exact absurd h (by omega)
  · have hs : S.ex on [⟨1, c, a, d, 6, 0, 6, false, false⟩] = ([1, 2, 3, 4, 5, 6] : List Int).map (S.pn on ⟨1, c, a, d, 6, 0, 6, false, false⟩) := by
      have hc : S.cnt 6 6 = 6 := rfl
      simp only [S.ex, S.ex1, S.sts, S.sps, List.flatMap_cons, List.flatMap_nil, List.append_nil, hc, hl]
      rfl
    rw [hs]
    refine ⟨rfl, fun j hj => ?_, rfl⟩
    have hj' : j < 6 := by omega
    match j, hj' with
    | 0, _ => exact ⟨_, rfl, by cases on <;> rfl, by cases on <;> rfl, by cases on <;> rfl, by cases on <;> rfl⟩
    | 1, _ => exact ⟨_, rfl, by cases on <;> rfl, by cases on <;> rfl, by cases on <;> rfl, by cases on <;> rfl⟩
    | 2, _ => exact ⟨_, rfl, by cases on <;> rfl, by cases on <;> rfl, by cases on <;> rfl, by cases on <;> rfl⟩
    | 3, _ => first | omega | exact ⟨_, rfl, by cases on <;> rfl, by cases on <;> rfl, by cases on <;> rfl, by cases on <;> rfl⟩
    | 4, _ => first | omega | exact ⟨_, rfl, by cases on <;> rfl, by cases on <;> rfl, by cases on <;> rfl, by cases on <;> rfl⟩
    | 5, _ => first | omega | exact ⟨_, rfl, by cases on <;> rfl, by cases on <;> rfl, by cases on <;> rfl, by cases on <;> rfl⟩
    | j + 6, h => exact absurd h (by omega)
set_option maxRecDepth 100000 in
set_option maxHeartbeats 2000000 in
/-- The walk. -/
theorem walk (a0 : Option Addr) (len0 cap0 : Nat) (z0 : List Int) (a1 : Int) (w : World) (w0 : IsRow .i64 w a0 len0 cap0 z0) (w1 : (Lit.int .i64 a1).wf = true) :
    Calls Try.prog 5 #[.slice a0 len0 cap0, .int .i64 a1] w fun e w' => e = .returned (.bool true) ∧ Below w.heap.size w w' := by
  by_cases h60 : 60 < len0
  · clear w0
    go_enter Try.func5, Try.ntmps5
    go_wp2_with (go_at_call 8; refine (known26 _).mono ?_; rintro e w' ⟨rfl, hK⟩)
    go_ret
    exact ⟨rfl, hK.below⟩
  have H0 := Lib.hid (Nb.from rfl w0 (by omega))
  clear w0
  obtain ⟨rb0, rb1⟩ := S.plc_bd a1 2 (by omega)
  obtain ⟨r, hr⟩ : ∃ r, S.plc a1 2 = r := ⟨_, rfl⟩
  rw [hr] at rb0 rb1
  have HR := Lib.hid hr
  clear hr
  go_enter Try.func5, Try.ntmps5
  go_upto_region 6 with (first
    | (go_at_call 14; (with_reducible refine (from_any a0 len0 cap0 w).mono ?_); rintro e w' ⟨rfl, rfl⟩)
    | (go_at_call 13; (with_reducible refine (mplace_any a1 2 (by omega) (by omega) _).mono ?_); rintro e w' ⟨rfl, rfl⟩; rw [HR.out])
    | (go_at_call 15; (with_reducible refine (nx_any w.heap.size len0 cap0 0 a0 12 (by omega) (by omega) (by omega) _ H0.out).mono ?_); rintro e wB ⟨y1, M1, hy10, hy11, hM1, rfl, hU⟩; have HB := Lib.hid (H0.out.up hU); have GB := Lib.hid (up_grown26 hU); clear hU)
    | (go_at_call 16; (with_reducible refine (wrd_any w.heap.size len0 cap0 M1 a0 (by omega) wB HB.out).mono ?_); rintro e wC ⟨y2, M2, hy20, hy21, hM2, rfl, hU⟩; have HC := Lib.hid (HB.out.up hU); have GC := Lib.hid (GB.out.trans (up_grown26 hU)); clear hU)
    | (go_at_call 17; (with_reducible refine (byt_any w.heap.size len0 cap0 M2 a0 (by omega) wC HC.out).mono ?_); rintro e wD ⟨y3, M3, hy30, hy31, hM3, rfl, hU⟩; have HD := Lib.hid (HC.out.up hU); have GD := Lib.hid (GC.out.trans (up_grown26 hU)); clear hU)
    | (go_at_call 15; (with_reducible refine (nx_any w.heap.size len0 cap0 M3 a0 4 (by omega) (by omega) (by omega) wD HD.out).mono ?_); rintro e wE ⟨y4, M4, hy40, hy41, hM4, rfl, hU⟩; have GE := Lib.hid (GD.out.trans (up_grown26 hU)); clear hU))
  obtain ⟨ck, hck⟩ : ∃ z, 1 + y1 = z := ⟨_, rfl⟩
  obtain ⟨st, hst⟩ : ∃ z, 3 + y4 = z := ⟨_, rfl⟩
  have hs3 : 3 ≤ st := by omega
  have hs6 : st ≤ 6 := by omega
  rw [hck, hst]
  have AW := Lib.hid (box_adds26 GE.out)
  have HB2 := Lib.hid (bus ((1 + r) == 2) ck y2 y3 st hs3 hs6)
  have HDA := Lib.hid (show (S.pn ((1 + r) == 2) ⟨1, ck, y2, y3, st, 0, st, false, false⟩ 3).da = S.tr ck y3 3 by cases ((1 + r) == 2) <;> rfl)
  have HWR := Lib.hid (show (S.pn ((1 + r) == 2) ⟨1, ck, y2, y3, st, 0, st, false, false⟩ 3).wr = S.stW ck by cases ((1 + r) == 2) <;> simp [S.pn])
  clear hck hst HB HC HD GB GC GD GE
  cases hR : S.stR ck <;> cases hW : S.stW ck
  · have HRR := Lib.hid hR
    have HWW := Lib.hid hW
    have HTR := Lib.hid (show S.tr ck y3 3 = 0 by simp [S.tr, hR, hW])
    clear hR hW
    go_wp2_with (go_at_call 11; (with_reducible refine (expand_any (1 + r) (some ⟨wE.heap.size + 1, 0, none⟩) 1 1 [⟨1, ck, y2, y3, st, 0, st, false, false⟩] (by omega) _ ?hqfalsefalse).mono ?_); (exact held_laid _ _ _ (by simp) _ rfl _); rintro e wF ⟨v, rfl, hO, hA⟩; obtain ⟨ad, nn, cc, rfl, hn, -, -, -, -⟩ := hO.form2; have hns : (nn : Int) = st := (by have h1 := HB2.out.1; rw [hn.out] at h1; exact h1); obtain ⟨g, rfl, hg1, hg2⟩ := hO.head (by omega); have hgne : ((nn : Int) != st) = false := (by simp [hns]); have HAt := Lib.hid hO.at_; have AF := Lib.hid (AW.out.trans (Adds.trans (by (repeat (first | with_reducible exact Adds.refl _ | with_reducible apply Adds.drew | with_reducible apply Adds.drewN | with_reducible apply Adds.alloc | with_reducible apply Adds.more | (with_reducible refine Adds.setCell ?_ ?_ _) | (focus (simp [go_sem]; done)) | (focus (simp [go_sem]; omega))))) hA)); have k0 : wF.cell? ⟨wE.heap.size, 0, none⟩ = some (.int .i64 ck) := (hA.cell (by simp; omega)).trans (by simp [go_sem]); have k2 : wF.cell? ⟨wE.heap.size, 2, none⟩ = some (.int .u8 y3) := (hA.cell (by simp; omega)).trans (by simp [go_sem]); have k3 : wF.cell? ⟨wE.heap.size, 3, none⟩ = some (.int .i64 st) := (hA.cell (by simp; omega)).trans (by simp [go_sem]); have k1 : wF.cell? ⟨wE.heap.size, 1, none⟩ = some (.int .u16 y2) := (hA.cell (by simp; omega)).trans (by simp [go_sem]); have hbx : wE.heap.size < wF.heap.size := (by have := hA.size; simp at this; omega); clear hO hA hn)
    have hnn6 : nn ≤ 6 := by omega
    go_loopw [44] (fun i wr => ∃ k : Nat, k ≤ nn ∧ i = .int .i64 (k : Int) ∧ Hid (Adds wF wr)) (fun i _ => nn - (intOf i).toNat)
    case atStart => exact ⟨0, Nat.zero_le _, rfl, Adds.refl _⟩
    case round =>
      obtain ⟨k, hk, rfl, HS⟩ := hrel
      rename World => wS
      have hsS := HS.out.size
      have j0 := (HS.out.cell hbx).trans k0
      have j1 := (HS.out.cell hbx).trans k1
      have j2 := (HS.out.cell hbx).trans k2
      have hgS : g < wS.heap.size := by omega
      have hbS : wE.heap.size < wS.heap.size := by omega
      by_cases hlt : k < nn
      · obtain ⟨p, hp, pa, ps, pf, ph⟩ := HB2.out.2.1 k (by omega)
        have e0 : wS.cell? ⟨g, k * 17, none⟩ = some (.int .i64 ((k : Int) + 1)) := (HS.out.cell hg2).trans (by have := HAt.out.el csQ_len hp (k := 0) (u := .int .i64 p.st) rfl; rw [ps] at this; simpa using this)
        have e1 : wS.cell? ⟨g, k * 17 + 1, none⟩ = some (.int .u16 y2) := (HS.out.cell hg2).trans (by have := HAt.out.el csQ_len hp (k := 1) (u := .int .u16 p.ad) rfl; rw [pa] at this; simpa using this)
        have e16 : wS.cell? ⟨g, k * 17 + 16, none⟩ = some (.bool false) := (HS.out.cell hg2).trans (by have := HAt.out.el csQ_len hp (k := 16) (u := .bool p.fl) rfl; rw [pf] at this; simpa using this)
        have e15 : wS.cell? ⟨g, k * 17 + 15, none⟩ = some (.bool false) := (HS.out.cell hg2).trans (by have := HAt.out.el csQ_len hp (k := 15) (u := .bool p.hl) rfl; rw [ph] at this; simpa using this)
        have q1 : (k : Int) < (nn : Int) := by omega
        have q1s : (k : Int) < st := by omega
        clear hp pa ps pf ph k0 k1 k2 k3 hns hgne
        go_wp2_with fail
        refine wp_region_adds (by kernel_rfl) (by kernel_rfl) ?_
        repeat (go_big_quiet_step (fail))
        refine wpQuiet_nil ?_
        intro _ hw1
        obtain ⟨⟨nq, osq⟩, hw2⟩ := hw1
        subst hw2
        go_wp2_with fail
        go_roundw
        case rel => exact ⟨k + 1, by omega, by go_num, HS.out.trans (by (repeat (first | with_reducible exact Adds.refl _ | with_reducible apply Adds.drew | with_reducible apply Adds.drewN | with_reducible apply Adds.alloc | with_reducible apply Adds.more | (with_reducible refine Adds.setCell ?_ ?_ _) | (focus (simp [go_sem]; done)) | (focus (simp [go_sem]; omega)))))⟩
        case measure => simp [intOf]; omega
      · obtain rfl : k = nn := by omega
        have e36 : wS.cell? ⟨g, 36, none⟩ = some (.int .u8 0) := (HS.out.cell hg2).trans (by have := HAt.out.el csQ_len HB2.out.2.2 (k := 2) (u := .int .u8 _) rfl; rw [HDA.out, HTR.out] at this; exact this)
        have e48 : wS.cell? ⟨g, 48, none⟩ = some (.bool false) := (HS.out.cell hg2).trans (by have := HAt.out.el csQ_len HB2.out.2.2 (k := 14) (u := .bool _) rfl; rw [HWR.out, HWW.out] at this; exact this)
        have q2 : (2 : Int) < (k : Int) := by omega
        have q1s : ¬ (k : Int) < st := by omega
        clear k0 k1 k2 k3 hns hgne
        go_wp2_with fail
        refine wp_region_adds (by kernel_rfl) (by kernel_rfl) ?_
        repeat (go_big_quiet_step (first | (go_at_call 18; exact calls_adds (rreads_is ck false HRR.out _)) | (go_at_call 19; exact calls_adds (rwrites_is ck false HWW.out _))))
        refine wpQuiet_nil ?_
        intro _ hw1
        obtain ⟨⟨nq, osq⟩, hw2⟩ := hw1
        subst hw2
        go_wp2_with fail
        refine wp_region_adds (by kernel_rfl) (by kernel_rfl) ?_
        repeat (go_big_quiet_step (first | (go_at_call 19; exact calls_adds (rwrites_is ck false HWW.out _)) | (go_at_call 8; exact calls_adds (known26 _))))
        refine wpQuiet_nil ?_
        intro _ hw1
        obtain ⟨⟨nq, osq⟩, hw2⟩ := hw1
        subst hw2
        go_wp2_with fail
        go_ret
        exact ⟨rfl, ((AF.out.trans HS.out).trans (by (repeat (first | with_reducible exact Adds.refl _ | with_reducible apply Adds.drew | with_reducible apply Adds.drewN | with_reducible apply Adds.alloc | with_reducible apply Adds.more | (with_reducible refine Adds.setCell ?_ ?_ _) | (focus (simp [go_sem]; done)) | (focus (simp [go_sem]; omega)))))).below⟩
  · have HRR := Lib.hid hR
    have HWW := Lib.hid hW
    have HTR := Lib.hid (show S.tr ck y3 3 = y3 by simp [S.tr, hR, hW])
    clear hR hW
    go_wp2_with (go_at_call 11; (with_reducible refine (expand_any (1 + r) (some ⟨wE.heap.size + 1, 0, none⟩) 1 1 [⟨1, ck, y2, y3, st, 0, st, false, false⟩] (by omega) _ ?hqfalsetrue).mono ?_); (exact held_laid _ _ _ (by simp) _ rfl _); rintro e wF ⟨v, rfl, hO, hA⟩; obtain ⟨ad, nn, cc, rfl, hn, -, -, -, -⟩ := hO.form2; have hns : (nn : Int) = st := (by have h1 := HB2.out.1; rw [hn.out] at h1; exact h1); obtain ⟨g, rfl, hg1, hg2⟩ := hO.head (by omega); have hgne : ((nn : Int) != st) = false := (by simp [hns]); have HAt := Lib.hid hO.at_; have AF := Lib.hid (AW.out.trans (Adds.trans (by (repeat (first | with_reducible exact Adds.refl _ | with_reducible apply Adds.drew | with_reducible apply Adds.drewN | with_reducible apply Adds.alloc | with_reducible apply Adds.more | (with_reducible refine Adds.setCell ?_ ?_ _) | (focus (simp [go_sem]; done)) | (focus (simp [go_sem]; omega))))) hA)); have k0 : wF.cell? ⟨wE.heap.size, 0, none⟩ = some (.int .i64 ck) := (hA.cell (by simp; omega)).trans (by simp [go_sem]); have k2 : wF.cell? ⟨wE.heap.size, 2, none⟩ = some (.int .u8 y3) := (hA.cell (by simp; omega)).trans (by simp [go_sem]); have k3 : wF.cell? ⟨wE.heap.size, 3, none⟩ = some (.int .i64 st) := (hA.cell (by simp; omega)).trans (by simp [go_sem]); have k1 : wF.cell? ⟨wE.heap.size, 1, none⟩ = some (.int .u16 y2) := (hA.cell (by simp; omega)).trans (by simp [go_sem]); have hbx : wE.heap.size < wF.heap.size := (by have := hA.size; simp at this; omega); clear hO hA hn)
    have hnn6 : nn ≤ 6 := by omega
    go_loopw [44] (fun i wr => ∃ k : Nat, k ≤ nn ∧ i = .int .i64 (k : Int) ∧ Hid (Adds wF wr)) (fun i _ => nn - (intOf i).toNat)
    case atStart => exact ⟨0, Nat.zero_le _, rfl, Adds.refl _⟩
    case round =>
      obtain ⟨k, hk, rfl, HS⟩ := hrel
      rename World => wS
      have hsS := HS.out.size
      have j0 := (HS.out.cell hbx).trans k0
      have j1 := (HS.out.cell hbx).trans k1
      have j2 := (HS.out.cell hbx).trans k2
      have hgS : g < wS.heap.size := by omega
      have hbS : wE.heap.size < wS.heap.size := by omega
      by_cases hlt : k < nn
      · obtain ⟨p, hp, pa, ps, pf, ph⟩ := HB2.out.2.1 k (by omega)
        have e0 : wS.cell? ⟨g, k * 17, none⟩ = some (.int .i64 ((k : Int) + 1)) := (HS.out.cell hg2).trans (by have := HAt.out.el csQ_len hp (k := 0) (u := .int .i64 p.st) rfl; rw [ps] at this; simpa using this)
        have e1 : wS.cell? ⟨g, k * 17 + 1, none⟩ = some (.int .u16 y2) := (HS.out.cell hg2).trans (by have := HAt.out.el csQ_len hp (k := 1) (u := .int .u16 p.ad) rfl; rw [pa] at this; simpa using this)
        have e16 : wS.cell? ⟨g, k * 17 + 16, none⟩ = some (.bool false) := (HS.out.cell hg2).trans (by have := HAt.out.el csQ_len hp (k := 16) (u := .bool p.fl) rfl; rw [pf] at this; simpa using this)
        have e15 : wS.cell? ⟨g, k * 17 + 15, none⟩ = some (.bool false) := (HS.out.cell hg2).trans (by have := HAt.out.el csQ_len hp (k := 15) (u := .bool p.hl) rfl; rw [ph] at this; simpa using this)
        have q1 : (k : Int) < (nn : Int) := by omega
        have q1s : (k : Int) < st := by omega
        clear hp pa ps pf ph k0 k1 k2 k3 hns hgne
        go_wp2_with fail
        refine wp_region_adds (by kernel_rfl) (by kernel_rfl) ?_
        repeat (go_big_quiet_step (fail))
        refine wpQuiet_nil ?_
        intro _ hw1
        obtain ⟨⟨nq, osq⟩, hw2⟩ := hw1
        subst hw2
        go_wp2_with fail
        go_roundw
        case rel => exact ⟨k + 1, by omega, by go_num, HS.out.trans (by (repeat (first | with_reducible exact Adds.refl _ | with_reducible apply Adds.drew | with_reducible apply Adds.drewN | with_reducible apply Adds.alloc | with_reducible apply Adds.more | (with_reducible refine Adds.setCell ?_ ?_ _) | (focus (simp [go_sem]; done)) | (focus (simp [go_sem]; omega)))))⟩
        case measure => simp [intOf]; omega
      · obtain rfl : k = nn := by omega
        have e36 : wS.cell? ⟨g, 36, none⟩ = some (.int .u8 y3) := (HS.out.cell hg2).trans (by have := HAt.out.el csQ_len HB2.out.2.2 (k := 2) (u := .int .u8 _) rfl; rw [HDA.out, HTR.out] at this; exact this)
        have e48 : wS.cell? ⟨g, 48, none⟩ = some (.bool true) := (HS.out.cell hg2).trans (by have := HAt.out.el csQ_len HB2.out.2.2 (k := 14) (u := .bool _) rfl; rw [HWR.out, HWW.out] at this; exact this)
        have q2 : (2 : Int) < (k : Int) := by omega
        have q1s : ¬ (k : Int) < st := by omega
        clear k0 k1 k2 k3 hns hgne
        go_wp2_with fail
        refine wp_region_adds (by kernel_rfl) (by kernel_rfl) ?_
        repeat (go_big_quiet_step (first | (go_at_call 18; exact calls_adds (rreads_is ck false HRR.out _)) | (go_at_call 19; exact calls_adds (rwrites_is ck true HWW.out _))))
        refine wpQuiet_nil ?_
        intro _ hw1
        obtain ⟨⟨nq, osq⟩, hw2⟩ := hw1
        subst hw2
        go_wp2_with fail
        refine wp_region_adds (by kernel_rfl) (by kernel_rfl) ?_
        repeat (go_big_quiet_step (first | (go_at_call 19; exact calls_adds (rwrites_is ck true HWW.out _)) | (go_at_call 8; exact calls_adds (known26 _))))
        refine wpQuiet_nil ?_
        intro _ hw1
        obtain ⟨⟨nq, osq⟩, hw2⟩ := hw1
        subst hw2
        go_wp2_with fail
        go_ret
        exact ⟨rfl, ((AF.out.trans HS.out).trans (by (repeat (first | with_reducible exact Adds.refl _ | with_reducible apply Adds.drew | with_reducible apply Adds.drewN | with_reducible apply Adds.alloc | with_reducible apply Adds.more | (with_reducible refine Adds.setCell ?_ ?_ _) | (focus (simp [go_sem]; done)) | (focus (simp [go_sem]; omega)))))).below⟩
  · have HRR := Lib.hid hR
    have HWW := Lib.hid hW
    have HTR := Lib.hid (show S.tr ck y3 3 = y3 by simp [S.tr, hR, hW])
    clear hR hW
    go_wp2_with (go_at_call 11; (with_reducible refine (expand_any (1 + r) (some ⟨wE.heap.size + 1, 0, none⟩) 1 1 [⟨1, ck, y2, y3, st, 0, st, false, false⟩] (by omega) _ ?hqtruefalse).mono ?_); (exact held_laid _ _ _ (by simp) _ rfl _); rintro e wF ⟨v, rfl, hO, hA⟩; obtain ⟨ad, nn, cc, rfl, hn, -, -, -, -⟩ := hO.form2; have hns : (nn : Int) = st := (by have h1 := HB2.out.1; rw [hn.out] at h1; exact h1); obtain ⟨g, rfl, hg1, hg2⟩ := hO.head (by omega); have hgne : ((nn : Int) != st) = false := (by simp [hns]); have HAt := Lib.hid hO.at_; have AF := Lib.hid (AW.out.trans (Adds.trans (by (repeat (first | with_reducible exact Adds.refl _ | with_reducible apply Adds.drew | with_reducible apply Adds.drewN | with_reducible apply Adds.alloc | with_reducible apply Adds.more | (with_reducible refine Adds.setCell ?_ ?_ _) | (focus (simp [go_sem]; done)) | (focus (simp [go_sem]; omega))))) hA)); have k0 : wF.cell? ⟨wE.heap.size, 0, none⟩ = some (.int .i64 ck) := (hA.cell (by simp; omega)).trans (by simp [go_sem]); have k2 : wF.cell? ⟨wE.heap.size, 2, none⟩ = some (.int .u8 y3) := (hA.cell (by simp; omega)).trans (by simp [go_sem]); have k3 : wF.cell? ⟨wE.heap.size, 3, none⟩ = some (.int .i64 st) := (hA.cell (by simp; omega)).trans (by simp [go_sem]); have k1 : wF.cell? ⟨wE.heap.size, 1, none⟩ = some (.int .u16 y2) := (hA.cell (by simp; omega)).trans (by simp [go_sem]); have hbx : wE.heap.size < wF.heap.size := (by have := hA.size; simp at this; omega); clear hO hA hn)
    have hnn6 : nn ≤ 6 := by omega
    go_loopw [44] (fun i wr => ∃ k : Nat, k ≤ nn ∧ i = .int .i64 (k : Int) ∧ Hid (Adds wF wr)) (fun i _ => nn - (intOf i).toNat)
    case atStart => exact ⟨0, Nat.zero_le _, rfl, Adds.refl _⟩
    case round =>
      obtain ⟨k, hk, rfl, HS⟩ := hrel
      rename World => wS
      have hsS := HS.out.size
      have j0 := (HS.out.cell hbx).trans k0
      have j1 := (HS.out.cell hbx).trans k1
      have j2 := (HS.out.cell hbx).trans k2
      have hgS : g < wS.heap.size := by omega
      have hbS : wE.heap.size < wS.heap.size := by omega
      by_cases hlt : k < nn
      · obtain ⟨p, hp, pa, ps, pf, ph⟩ := HB2.out.2.1 k (by omega)
        have e0 : wS.cell? ⟨g, k * 17, none⟩ = some (.int .i64 ((k : Int) + 1)) := (HS.out.cell hg2).trans (by have := HAt.out.el csQ_len hp (k := 0) (u := .int .i64 p.st) rfl; rw [ps] at this; simpa using this)
        have e1 : wS.cell? ⟨g, k * 17 + 1, none⟩ = some (.int .u16 y2) := (HS.out.cell hg2).trans (by have := HAt.out.el csQ_len hp (k := 1) (u := .int .u16 p.ad) rfl; rw [pa] at this; simpa using this)
        have e16 : wS.cell? ⟨g, k * 17 + 16, none⟩ = some (.bool false) := (HS.out.cell hg2).trans (by have := HAt.out.el csQ_len hp (k := 16) (u := .bool p.fl) rfl; rw [pf] at this; simpa using this)
        have e15 : wS.cell? ⟨g, k * 17 + 15, none⟩ = some (.bool false) := (HS.out.cell hg2).trans (by have := HAt.out.el csQ_len hp (k := 15) (u := .bool p.hl) rfl; rw [ph] at this; simpa using this)
        have q1 : (k : Int) < (nn : Int) := by omega
        have q1s : (k : Int) < st := by omega
        clear hp pa ps pf ph k0 k1 k2 k3 hns hgne
        go_wp2_with fail
        refine wp_region_adds (by kernel_rfl) (by kernel_rfl) ?_
        repeat (go_big_quiet_step (fail))
        refine wpQuiet_nil ?_
        intro _ hw1
        obtain ⟨⟨nq, osq⟩, hw2⟩ := hw1
        subst hw2
        go_wp2_with fail
        go_roundw
        case rel => exact ⟨k + 1, by omega, by go_num, HS.out.trans (by (repeat (first | with_reducible exact Adds.refl _ | with_reducible apply Adds.drew | with_reducible apply Adds.drewN | with_reducible apply Adds.alloc | with_reducible apply Adds.more | (with_reducible refine Adds.setCell ?_ ?_ _) | (focus (simp [go_sem]; done)) | (focus (simp [go_sem]; omega)))))⟩
        case measure => simp [intOf]; omega
      · obtain rfl : k = nn := by omega
        have e36 : wS.cell? ⟨g, 36, none⟩ = some (.int .u8 y3) := (HS.out.cell hg2).trans (by have := HAt.out.el csQ_len HB2.out.2.2 (k := 2) (u := .int .u8 _) rfl; rw [HDA.out, HTR.out] at this; exact this)
        have e48 : wS.cell? ⟨g, 48, none⟩ = some (.bool false) := (HS.out.cell hg2).trans (by have := HAt.out.el csQ_len HB2.out.2.2 (k := 14) (u := .bool _) rfl; rw [HWR.out, HWW.out] at this; exact this)
        have q2 : (2 : Int) < (k : Int) := by omega
        have q1s : ¬ (k : Int) < st := by omega
        clear k0 k1 k2 k3 hns hgne
        go_wp2_with fail
        refine wp_region_adds (by kernel_rfl) (by kernel_rfl) ?_
        repeat (go_big_quiet_step (first | (go_at_call 18; exact calls_adds (rreads_is ck true HRR.out _)) | (go_at_call 19; exact calls_adds (rwrites_is ck false HWW.out _))))
        refine wpQuiet_nil ?_
        intro _ hw1
        obtain ⟨⟨nq, osq⟩, hw2⟩ := hw1
        subst hw2
        go_wp2_with fail
        refine wp_region_adds (by kernel_rfl) (by kernel_rfl) ?_
        repeat (go_big_quiet_step (first | (go_at_call 19; exact calls_adds (rwrites_is ck false HWW.out _)) | (go_at_call 8; exact calls_adds (known26 _))))
        refine wpQuiet_nil ?_
        intro _ hw1
        obtain ⟨⟨nq, osq⟩, hw2⟩ := hw1
        subst hw2
        go_wp2_with fail
        go_ret
        exact ⟨rfl, ((AF.out.trans HS.out).trans (by (repeat (first | with_reducible exact Adds.refl _ | with_reducible apply Adds.drew | with_reducible apply Adds.drewN | with_reducible apply Adds.alloc | with_reducible apply Adds.more | (with_reducible refine Adds.setCell ?_ ?_ _) | (focus (simp [go_sem]; done)) | (focus (simp [go_sem]; omega)))))).below⟩
  · have HRR := Lib.hid hR
    have HWW := Lib.hid hW
    have HTR := Lib.hid (show S.tr ck y3 3 = y3 by simp [S.tr, hR, hW])
    clear hR hW
    go_wp2_with (go_at_call 11; (with_reducible refine (expand_any (1 + r) (some ⟨wE.heap.size + 1, 0, none⟩) 1 1 [⟨1, ck, y2, y3, st, 0, st, false, false⟩] (by omega) _ ?hqtruetrue).mono ?_); (exact held_laid _ _ _ (by simp) _ rfl _); rintro e wF ⟨v, rfl, hO, hA⟩; obtain ⟨ad, nn, cc, rfl, hn, -, -, -, -⟩ := hO.form2; have hns : (nn : Int) = st := (by have h1 := HB2.out.1; rw [hn.out] at h1; exact h1); obtain ⟨g, rfl, hg1, hg2⟩ := hO.head (by omega); have hgne : ((nn : Int) != st) = false := (by simp [hns]); have HAt := Lib.hid hO.at_; have AF := Lib.hid (AW.out.trans (Adds.trans (by (repeat (first | with_reducible exact Adds.refl _ | with_reducible apply Adds.drew | with_reducible apply Adds.drewN | with_reducible apply Adds.alloc | with_reducible apply Adds.more | (with_reducible refine Adds.setCell ?_ ?_ _) | (focus (simp [go_sem]; done)) | (focus (simp [go_sem]; omega))))) hA)); have k0 : wF.cell? ⟨wE.heap.size, 0, none⟩ = some (.int .i64 ck) := (hA.cell (by simp; omega)).trans (by simp [go_sem]); have k2 : wF.cell? ⟨wE.heap.size, 2, none⟩ = some (.int .u8 y3) := (hA.cell (by simp; omega)).trans (by simp [go_sem]); have k3 : wF.cell? ⟨wE.heap.size, 3, none⟩ = some (.int .i64 st) := (hA.cell (by simp; omega)).trans (by simp [go_sem]); have k1 : wF.cell? ⟨wE.heap.size, 1, none⟩ = some (.int .u16 y2) := (hA.cell (by simp; omega)).trans (by simp [go_sem]); have hbx : wE.heap.size < wF.heap.size := (by have := hA.size; simp at this; omega); clear hO hA hn)
    have hnn6 : nn ≤ 6 := by omega
    go_loopw [44] (fun i wr => ∃ k : Nat, k ≤ nn ∧ i = .int .i64 (k : Int) ∧ Hid (Adds wF wr)) (fun i _ => nn - (intOf i).toNat)
    case atStart => exact ⟨0, Nat.zero_le _, rfl, Adds.refl _⟩
    case round =>
      obtain ⟨k, hk, rfl, HS⟩ := hrel
      rename World => wS
      have hsS := HS.out.size
      have j0 := (HS.out.cell hbx).trans k0
      have j1 := (HS.out.cell hbx).trans k1
      have j2 := (HS.out.cell hbx).trans k2
      have hgS : g < wS.heap.size := by omega
      have hbS : wE.heap.size < wS.heap.size := by omega
      by_cases hlt : k < nn
      · obtain ⟨p, hp, pa, ps, pf, ph⟩ := HB2.out.2.1 k (by omega)
        have e0 : wS.cell? ⟨g, k * 17, none⟩ = some (.int .i64 ((k : Int) + 1)) := (HS.out.cell hg2).trans (by have := HAt.out.el csQ_len hp (k := 0) (u := .int .i64 p.st) rfl; rw [ps] at this; simpa using this)
        have e1 : wS.cell? ⟨g, k * 17 + 1, none⟩ = some (.int .u16 y2) := (HS.out.cell hg2).trans (by have := HAt.out.el csQ_len hp (k := 1) (u := .int .u16 p.ad) rfl; rw [pa] at this; simpa using this)
        have e16 : wS.cell? ⟨g, k * 17 + 16, none⟩ = some (.bool false) := (HS.out.cell hg2).trans (by have := HAt.out.el csQ_len hp (k := 16) (u := .bool p.fl) rfl; rw [pf] at this; simpa using this)
        have e15 : wS.cell? ⟨g, k * 17 + 15, none⟩ = some (.bool false) := (HS.out.cell hg2).trans (by have := HAt.out.el csQ_len hp (k := 15) (u := .bool p.hl) rfl; rw [ph] at this; simpa using this)
        have q1 : (k : Int) < (nn : Int) := by omega
        have q1s : (k : Int) < st := by omega
        clear hp pa ps pf ph k0 k1 k2 k3 hns hgne
        go_wp2_with fail
        refine wp_region_adds (by kernel_rfl) (by kernel_rfl) ?_
        repeat (go_big_quiet_step (fail))
        refine wpQuiet_nil ?_
        intro _ hw1
        obtain ⟨⟨nq, osq⟩, hw2⟩ := hw1
        subst hw2
        go_wp2_with fail
        go_roundw
        case rel => exact ⟨k + 1, by omega, by go_num, HS.out.trans (by (repeat (first | with_reducible exact Adds.refl _ | with_reducible apply Adds.drew | with_reducible apply Adds.drewN | with_reducible apply Adds.alloc | with_reducible apply Adds.more | (with_reducible refine Adds.setCell ?_ ?_ _) | (focus (simp [go_sem]; done)) | (focus (simp [go_sem]; omega)))))⟩
        case measure => simp [intOf]; omega
      · obtain rfl : k = nn := by omega
        have e36 : wS.cell? ⟨g, 36, none⟩ = some (.int .u8 y3) := (HS.out.cell hg2).trans (by have := HAt.out.el csQ_len HB2.out.2.2 (k := 2) (u := .int .u8 _) rfl; rw [HDA.out, HTR.out] at this; exact this)
        have e48 : wS.cell? ⟨g, 48, none⟩ = some (.bool true) := (HS.out.cell hg2).trans (by have := HAt.out.el csQ_len HB2.out.2.2 (k := 14) (u := .bool _) rfl; rw [HWR.out, HWW.out] at this; exact this)
        have q2 : (2 : Int) < (k : Int) := by omega
        have q1s : ¬ (k : Int) < st := by omega
        clear k0 k1 k2 k3 hns hgne
        go_wp2_with fail
        refine wp_region_adds (by kernel_rfl) (by kernel_rfl) ?_
        repeat (go_big_quiet_step (first | (go_at_call 18; exact calls_adds (rreads_is ck true HRR.out _)) | (go_at_call 19; exact calls_adds (rwrites_is ck true HWW.out _))))
        refine wpQuiet_nil ?_
        intro _ hw1
        obtain ⟨⟨nq, osq⟩, hw2⟩ := hw1
        subst hw2
        go_wp2_with fail
        refine wp_region_adds (by kernel_rfl) (by kernel_rfl) ?_
        repeat (go_big_quiet_step (first | (go_at_call 19; exact calls_adds (rwrites_is ck true HWW.out _)) | (go_at_call 8; exact calls_adds (known26 _))))
        refine wpQuiet_nil ?_
        intro _ hw1
        obtain ⟨⟨nq, osq⟩, hw2⟩ := hw1
        subst hw2
        go_wp2_with fail
        go_ret
        exact ⟨rfl, ((AF.out.trans HS.out).trans (by (repeat (first | with_reducible exact Adds.refl _ | with_reducible apply Adds.drew | with_reducible apply Adds.drewN | with_reducible apply Adds.alloc | with_reducible apply Adds.more | (with_reducible refine Adds.setCell ?_ ?_ _) | (focus (simp [go_sem]; done)) | (focus (simp [go_sem]; omega)))))).below⟩


set_option maxRecDepth 100000 in
theorem lifted (os : Os) (started : os.Started) (H : Type) (enc : TypeId × Value → H) :
    ReturnsInHanded {} Try.checked os 5 .any (Rows.grammarBusesSpec.pre6 enc Try.prog Try.f5 Rows.grammarBusesRow.domain false) (Rows.grammarBusesSpec.post enc Try.prog Try.f5 false true false false) := by
  refine returnsInHanded_of_change (C := Try.checked) own started (by kernel_rfl) Try.func5
    (ChangeSpec.witness6 (enc := enc) (C := Try.checked) false ⟨#[], #[.slice none 0 0, .int .i64 0], []⟩ 8 (by kernel_rfl) (by kernel_rfl) (by kernel_rfl) (by kernel_rfl)) ?_
  intro W base args ds gs before hval0 hW hcnd _
  have hval : ∀ (j : Nat) t v, Try.f5.params[j]? = some t → args[j]? = some v → Value.okWide Try.prog W .any base t v := hval0
  have hW' := hW
  obtain ⟨p, q, hA0, hV, rfl, hfz, hnd⟩ := hW
  have hA : DataW.TrodAll enc Try.prog W 0 (fun _ => true) true Try.f5.params.toList args.toList ds p := hA0
  rw [Try.params5] at hA hval
  obtain ⟨v0, vs0, d0, ds0, p0, q0, hargs, rfl, rfl, h0, r0⟩ := trodAll_cons hA
  obtain ⟨v1, vs1, d1, ds1, p1, q1, rfl, rfl, rfl, h1, r1⟩ := trodAll_cons r0
  obtain ⟨rfl, rfl, rfl⟩ := trodAll_nil r1
  obtain rfl : args = #[v0, v1] := by cases args; simp_all
  obtain ⟨rfl, rfl⟩ := trodVars_none hV
  have k0 := h0
  have lt0 : ∀ x ∈ p0, x.block < W.heap.size := by obtain ⟨m, hm⟩ := k0; exact DataW.trod_lt m _ _ _ hm
  obtain ⟨a0, len0, cap0, rfl⟩ := okWide_slice Try.underlying23 (hval 0 23 v0 rfl rfl)
  obtain ⟨z0, w0⟩ : ∃ zs, IsRow .i64 W a0 len0 cap0 zs := by
    obtain ⟨fuel, hf⟩ := h0
    rcases open_ints Try.underlying23 Try.underlying3 (by kernel_rfl) hf with ⟨hcs, _⟩ | ⟨x, l, c, zs, hcs, _, hl, hm, hz, _, hcell, hwz⟩
    · simp [Value.cells] at hcs
      obtain ⟨rfl, rfl, rfl⟩ := hcs
      exact ⟨[], .inl ⟨rfl, rfl, rfl, rfl⟩⟩
    · simp [Value.cells] at hcs
      obtain ⟨rfl, rfl, rfl⟩ := hcs
      exact ⟨zs, .inr ⟨_, rfl, hl, hm, by simpa using hz, hcell, hwz⟩⟩
  have k1 := h1
  have lt1 : ∀ x ∈ p1, x.block < W.heap.size := by obtain ⟨m, hm⟩ := k1; exact DataW.trod_lt m _ _ _ hm
  obtain ⟨a1, rfl, -, -, w1⟩ := open_int Try.underlying3 (hval 1 3 v1 rfl rfl) h1
  clear hA0 hval0
  refine (walk a0 len0 cap0 z0 a1 W w0 w1).mono fun e W' ⟨he, bel⟩ => ?_
  subst he
  exact ⟨_, rfl, _, _, _, [], _, [], hW', trodAll_mk1 (shut_bool Try.underlying4 _), (trodAll_cons_mk (Below.trod laidOut (by kernel_rfl) (of_decide_eq_true (by kernel_rfl)) k0 bel lt0) (trodAll_cons_mk (Below.trod laidOut (by kernel_rfl) (of_decide_eq_true (by kernel_rfl)) k1 bel lt1) trodAll_mk0)), rfl, bel.frame _, fun h => by cases h⟩

theorem over : Rows.grammarBusesRow.holds Try.pinned (OpenSpec.ofChange Rows.grammarBusesSpec) :=
  OpenClaim.holds_of_wide 5 Try.f5 rfl rfl rfl rfl rfl rfl rfl ⟨rfl, rfl, rfl, rfl, rfl⟩ rfl rfl rfl rfl rfl (by kernel_rfl) Try.func5 (by kernel_rfl)
    (of_decide_eq_true (by kernel_rfl)) (by unfold Func.isWrapper; first | (rw [if_pos (by decide +kernel)]; kernel_rfl) | (rw [if_neg (by decide +kernel)]; exact ⟨rfl, rfl⟩))
    (fun os started H enc _ => lifted os started H enc)

/-- The statement. -/
theorem proved : Rows.GrammarBusesSaid := over
#print axioms proved
end Go.Proofs.Ytfhnfakjjfjohaa.grammarBuses
