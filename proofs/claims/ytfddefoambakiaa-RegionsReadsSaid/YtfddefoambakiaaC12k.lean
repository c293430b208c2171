/- memory.Get: a range over slices.Backward. Conditions: the slice holds the cells of a list. -/
import Derived.RangeFuncNested
import Derived.RangeFuncBound
import Derived.RangeFuncCalls
import Derived.RangeFuncLeaves
import Derived.Shelf.Abstract
import Derived.Shelf.RegionOpen
import Derived.WalkKit
import Derived.OwnWalkIn
import Derived.TacticsInMore
import Derived.LoopNIn
import Derived.LoopIn
import Derived.Lib.Hide
import Derived.Test.YtfddefoambakiaaMC
namespace Go.Proofs.Ytfddefoambakiaa
open Go.ChangeShapes Go.WideShapes Go.ChangeAt Go.RowKit Go.Shelf
set_option linter.unusedVariables false
attribute [local go_sem] Oper.semAt_some
theorem cell_new_l (W : World) (v : Value) (t : TypeId) : (W.alloc (.cells #[v] t)).cell? ⟨W.heap.size, 0, none⟩ = some v ∧ (W.alloc (.cells #[v] t)).frozen? ⟨W.heap.size, 0, none⟩ = false := ⟨(Boxed.new W t v).cell, (Boxed.new W t v).frozen⟩
theorem cell_alloc_l {W : World} {a : Addr} {v : Value} (o : Obj) (h : W.cell? a = some v) : (W.alloc o).cell? a = some v := cell_kept h (World.grownBy_alloc W o none) (fun r e => by cases e)
theorem frozen_alloc_l {W : World} {a : Addr} {v : Value} (o : Obj) (h : W.cell? a = some v) (hf : W.frozen? a = false) : (W.alloc o).frozen? a = false := (frozen_kept h (World.grownBy_alloc W o none) (fun r e => by cases e)).trans hf
/-- What comes in round k. -/
def Sm.bk (d : List Cl) (k : Nat) : Nat × Cl := (d.length - 1 - k, d[d.length - 1 - k]?.getD (0, 0))
def Sm.bks (d : List Cl) (k : Nat) : List (Nat × Cl) := (List.range k).map (Sm.bk d)
theorem Sm.bks_succ (d : List Cl) (k : Nat) : Sm.bks d (k + 1) = Sm.bks d k ++ [Sm.bk d k] := by simp [Sm.bks, List.range_succ]
theorem Sm.bks_len (d : List Cl) (k : Nat) : (Sm.bks d k).length = k := by simp [Sm.bks]
theorem Sm.bk_of {d : List Cl} {k z : Nat} {x v : Int} (h : d[z]? = some (x, v)) (hz : z + k + 1 = d.length) : Sm.bk d k = (z, (x, v)) := by
  unfold Sm.bk
  rw [show d.length - 1 - k = z by omega, h]; rfl
theorem Sm.bks_drop (d : List Cl) : ∀ k, k ≤ d.length → ∀ c ∈ d.drop (d.length - k), ∃ p ∈ Sm.bks d k, p.2 = c
  | 0, _, c, hc => by simp at hc
  | k + 1, hk, c, hc => by
    have hz : d.length - (k + 1) < d.length := by omega
    rw [List.drop_eq_getElem_cons hz] at hc
    rw [Sm.bks_succ]
    rcases List.mem_cons.1 hc with rfl | hc
    · refine ⟨Sm.bk d k, by simp, ?_⟩
      unfold Sm.bk
      rw [show d.length - 1 - k = d.length - (k + 1) by omega, List.getElem?_eq_getElem hz]; rfl
    · rw [show d.length - (k + 1) + 1 = d.length - k by omega] at hc
      obtain ⟨p, hp, e⟩ := Sm.bks_drop d k (by omega) c hc
      exact ⟨p, List.mem_append.2 (.inl hp), e⟩
/-- The value of one round. -/
def Sm.enc (p : Nat × Cl) : Array Value := #[.int .i64 (p.1 : Int), .agg #[.int .u16 p.2.1, .int .u8 p.2.2]]
set_option maxRecDepth 100000 in
set_option maxHeartbeats 2000000 in
theorem back1_in (F : Fence) (n : Nat) (h8 : F.fn 56) (hro : F.round = none) (hn : 1 ≤ n) (l Bs n₀ len cap : Nat) (a : Option Addr) (d : List Cl) (hl : d.length = len) (hbig : len ≤ 4611686018427387904) (hBn : Bs < n₀) (J Jx : List (Nat × Cl) → World → Prop)
    (hY : ∀ pre x W, J pre W → pre.length < len → YieldAt F (n - 1) Try.prog l (Sm.enc x) W fun e W' =>
      (e = .returned (.bool true) ∧ J (pre ++ [x]) W' ∧ Below n₀ W W') ∨ (e = .returned (.bool false) ∧ Jx (pre ++ [x]) W'))
    (W : World) (hBs : W.cell? ⟨Bs, 0, none⟩ = some (.slice a len cap)) (hat : 0 < len → ∃ b o, a = some ⟨b, o, none⟩ ∧ b < n₀ ∧ At W b o d) (h0 : J [] W) :
    CallsIn F n Try.prog 56 #[.func (.yield l) #[] #[], .pointer (some ⟨Bs, 0, none⟩)] W fun e W' => (∃ v, e = .returned v) ∧
      ((∃ ys, ys = Sm.bks d len ∧ J ys W') ∨ (∃ pre, (∃ k, k ≤ len ∧ pre = Sm.bks d k) ∧ Jx pre W')) := by
  refine callsIn_of_wp Try.func56 rfl h8 ?_ hro
  simp only [Try.ntmps56, List.size_toArray, List.length_cons, List.length_nil, Nat.reduceAdd, Nat.reduceSub, Array.replicate_succ, Array.replicate_zero, List.push_toArray, List.append_toArray, List.nil_append, List.cons_append]
  gi_wp2
  gi_loopw [3] (fun i wr => ∃ (k : Nat) (y : Int), k ≤ len ∧ i = .int .i64 y ∧ Hid (y + k + 1 = len) ∧ -1 ≤ y ∧ y < len ∧ J (Sm.bks d k) wr ∧ Below n₀ W wr)
    (fun i _ => (intOf i + 1).toNat)
  case atStart => exact ⟨0, _, Nat.zero_le _, rfl, by show _ = _; omega, by omega, by omega, h0, Below.refl _ _⟩
  case round =>
    obtain ⟨k, y, hk, rfl, HY, hy1, hy2, hJs, hnx⟩ := hrel
    have hbs : wr.cell? ⟨Bs, 0, none⟩ = some (.slice a len cap) := (hnx.cell (p := ⟨Bs, 0, none⟩) hBn).trans hBs
    by_cases hlt : 0 ≤ y
    · obtain ⟨z, rfl⟩ : ∃ z : Nat, y = z := ⟨y.toNat, by omega⟩
      have hz : z + k + 1 = d.length := by have := HY.out; omega
      obtain ⟨b, o, rfl, hb, hat⟩ := hat (by omega)
      obtain ⟨x, v, hx⟩ := get_pair (d := d) (k := z) (by omega)
      obtain ⟨h1, h2⟩ := hat z x v hx
      have g1 : wr.cell? ⟨b, o + z * 2, none⟩ = some (.int .u16 x) := (hnx.cell (p := ⟨b, o + z * 2, none⟩) hb).trans h1
      have g2 : wr.cell? ⟨b, o + z * 2 + 1, none⟩ = some (.int .u8 v) := (hnx.cell (p := ⟨b, o + z * 2 + 1, none⟩) hb).trans h2
      have hbk : Hid (Sm.bks d (k + 1) = Sm.bks d k ++ [(z, (x, v))]) := by show _ = _; rw [Sm.bks_succ, Sm.bk_of hx hz]
      obtain ⟨fn, tmps, assign, body, hy, hR⟩ := hY _ (z, (x, v)) wr hJs (by rw [Sm.bks_len]; omega)
      simp only [Sm.enc] at hy
      have HZ : Hid _ := Lib.hid hz
      clear hx hz h1 h2 hat hl
      gi_wp2
      refine hR.mono ?_
      rintro e W3 (⟨rfl, hJ3, hk3⟩ | ⟨rfl, hJx3⟩)
      · gi_wp2
        go_roundw
        case rel => exact ⟨k + 1, (z : Int) - 1, by have := HZ.out; have := HY.out; omega, rfl, by show _ = _; have := HY.out; omega, by omega, by omega, by rw [hbk.out]; exact hJ3, hnx.trans hk3⟩
        case measure => simp [intOf] <;> omega
      · gi_wp2
        refine bodyPost_ret (results_none rfl _ _ _) rfl ?_
        exact ⟨⟨_, rfl⟩, .inr ⟨_, ⟨k + 1, by have := HY.out; omega, hbk.out.symm⟩, hJx3⟩⟩
    · obtain rfl : y = -1 := by omega
      have hkl : Hid (k = len) := by show _ = _; have := HY.out; omega
      clear hat
      gi_wp2
      go_end0
      exact ⟨⟨_, rfl⟩, .inl (by rw [← hkl.out]; exact hJs)⟩
theorem back_in (F : Fence) (n : Nat) (h6 : F.fn 49) (hro : F.round = none) (a : Option Addr) (len cap : Nat) (w : World) :
    CallsIn F n Try.prog 49 #[.slice a len cap] w fun e w' => e = .returned (.func (.func 56) #[] #[.pointer (some ⟨w.heap.size, 0, none⟩)]) ∧ w' = w.alloc (.cells #[.slice a len cap] 22) := by
  refine callsIn_of_wp Try.func49 rfl h6 ?_ hro
  simp only [Try.ntmps49, List.size_toArray, List.length_cons, List.length_nil, Nat.reduceAdd, Nat.reduceSub, Array.replicate_succ, Array.replicate_zero, List.push_toArray, List.append_toArray, List.nil_append, List.cons_append]
  gi_wp2
  go_ret
  exact ⟨rfl, rfl⟩
theorem back_stops (F : Fence) (n : Nat) (h8 : F.fn 56) (hro : F.round = none) (hn : 1 ≤ n) (Bs len cap : Nat) (a : Option Addr) (d : List Cl) (w : World) (hI : Held w a len d) (hBs : Bs < w.heap.size)
    (hc : w.cell? ⟨Bs, 0, none⟩ = some (.slice a len cap)) :
    SeqStopsK F n Try.prog 56 #[.pointer (some ⟨Bs, 0, none⟩)] Sm.enc (Below w.heap.size) (fun ys => ys = Sm.bks d len)
      (fun pre => ∃ k, k ≤ len ∧ pre = Sm.bks d k) len w := fun l J Jx W hW _ _ hY h0 => by
  have hc' := (hW.cell (p := ⟨Bs, 0, none⟩) hBs).trans hc
  exact back1_in F n h8 hro hn l Bs w.heap.size len cap a d hI.1 hI.2.1 hBs J Jx hY W hc' (fun h => by
    obtain ⟨b, o, ha, hb, hat⟩ := hI.2.2 h
    exact ⟨b, o, ha, hb, hat.keep fun i => hW.cell (p := ⟨b, i, none⟩) hb⟩) h0
set_option maxRecDepth 100000 in
set_option maxHeartbeats 2000000 in
theorem get_in (F : Fence) (n : Nat) (h4 : F.fn 20) (h6 : F.fn 49) (h8 : F.fn 56) (hro : F.round = none) (hn : 3 ≤ n) (a : Option Addr) (len cap : Nat) (d : List Cl) (z : Int) (w : World) (hI : Held w a len d) :
    CallsIn F n Try.prog 20 #[.slice a len cap, .int .u16 z] w fun e W' => e = .returned (.int .u8 (Sm.get d z)) ∧ Below w.heap.size w W' := by
  have h1 : 1 ≤ n := by omega
  refine callsIn_of_wp_marks Try.func20 rfl h4 ?_ hro
  simp only [Try.ntmps20, List.size_toArray, List.length_cons, List.length_nil, Nat.reduceAdd, Nat.reduceSub, Array.replicate_succ, Array.replicate_zero, List.push_toArray, List.append_toArray, List.nil_append, List.cons_append]
  gi_wp2_with (gi_at_call 49; refine (back_in F (n - 1) h6 hro _ _ _ _).mono ?_; rintro e w' ⟨rfl, rfl⟩)
  have cZ := cell_new_l w (.int .u16 z) 24
  have cR := cell_new_l (w.alloc (.cells #[.int .u16 z] 24)) (.int .u8 0) 5
  have cS := cell_new_l ((w.alloc (.cells #[.int .u16 z] 24)).alloc (.cells #[.int .u8 0] 5)) (.slice a len cap) 22
  simp only [World.size_alloc] at cR cS
  have hB0 : Below w.heap.size w (((w.alloc (.cells #[.int .u16 z] 24)).alloc (.cells #[.int .u8 0] 5)).alloc (.cells #[.slice a len cap] 22)) := (((Below.refl _ w).alloc (Nat.le_refl _) _).alloc (by simp) _).alloc (by simp; omega) _
  have hsz : (((w.alloc (.cells #[.int .u16 z] 24)).alloc (.cells #[.int .u8 0] 5)).alloc (.cells #[.slice a len cap] 22)).heap.size = w.heap.size + 3 := by simp
  have kZ : (((w.alloc (.cells #[.int .u16 z] 24)).alloc (.cells #[.int .u8 0] 5)).alloc (.cells #[.slice a len cap] 22)).cell? ⟨w.heap.size, 0, none⟩ = some (.int .u16 z) := cell_alloc_l _ (cell_alloc_l _ cZ.1)
  have kR : (((w.alloc (.cells #[.int .u16 z] 24)).alloc (.cells #[.int .u8 0] 5)).alloc (.cells #[.slice a len cap] 22)).cell? ⟨w.heap.size + 1, 0, none⟩ = some (.int .u8 0) := cell_alloc_l _ cR.1
  have kF : (((w.alloc (.cells #[.int .u16 z] 24)).alloc (.cells #[.int .u8 0] 5)).alloc (.cells #[.slice a len cap] 22)).frozen? ⟨w.heap.size + 1, 0, none⟩ = false := frozen_alloc_l _ cR.1 cR.2
  have kS := cS.1
  have hI0 := hI.adds (Adds.of_below hB0)
  obtain ⟨W0, hW0⟩ : ∃ W0, ((w.alloc (.cells #[.int .u16 z] 24)).alloc (.cells #[.int .u8 0] 5)).alloc (.cells #[.slice a len cap] 22) = W0 := ⟨_, rfl⟩
  rw [hW0] at hB0 hsz kZ kR kF kS hI0 ⊢
  clear hW0 cZ cR cS
  refine wpIn_rangeFunc_ownH hro h1 (gf := 56) (lb := #[.pointer (some ⟨w.heap.size + 1 + 1, 0, none⟩)]) rfl h8 (enters_of Try.func56 (by kernel_rfl) rfl)
    (back_stops F (n - 1) h8 hro (by omega) (w.heap.size + 1 + 1) len cap a d W0 hI0 (by omega) kS) belowK_t (belowK_b (Nat.le_refl _)) (Below.refl _ _) (fun _ => rfl)
    (fun pre W => ((∀ p ∈ pre, p.2.1 ≠ z) ∧ W.cell? ⟨w.heap.size, 0, none⟩ = some (.int .u16 z) ∧ W.cell? ⟨w.heap.size + 1, 0, none⟩ = some (.int .u8 0) ∧ W.frozen? ⟨w.heap.size + 1, 0, none⟩ = false) ∧ Below W0.heap.size W0 W)
    (fun c pre W => (c = .ret ∧ ∃ ini last, pre = ini ++ [last] ∧ (∀ p ∈ ini, p.2.1 ≠ z) ∧ last.2.1 = z ∧ W.cell? ⟨w.heap.size + 1, 0, none⟩ = some (.int .u8 last.2.2)) ∧ Below w.heap.size w W)
    (OwnFrom.and (Own.from (fun s A B row hs hg hr => ⟨hs.1, cell_kept hs.2.1 hg hr, cell_kept hs.2.2.1 hg hr, (frozen_kept hs.2.2.1 hg hr).trans hs.2.2.2⟩) _) (ownFrom_below (Nat.le_refl _) (Nat.le_refl _)))
    (fun c => OwnFrom.and (Own.from (fun s A B row hs hg hr => by obtain ⟨hc, ini, last, e1, e2, e3, e4⟩ := hs; exact ⟨hc, ini, last, e1, e2, e3, cell_kept e4 hg hr⟩) _) (ownFrom_below (Nat.le_refl _) (by omega)))
    ⟨⟨by simp, kZ, kR, kF⟩, Below.refl _ _⟩
    (fun x a' W => ∃ Bx, w.heap.size + 1 < Bx ∧ (W.cell? ⟨Bx, 0, none⟩ = some (.int .u16 x.2.1) ∧ W.cell? ⟨Bx, 1, none⟩ = some (.int .u8 x.2.2)) ∧ a' = { tmps := #[.slice a len cap, .int .u16 z, undef, .pointer (some ⟨w.heap.size, 0, none⟩), .pointer (some ⟨w.heap.size + 1, 0, none⟩), undef, .pointer (some ⟨Bx, 0, none⟩), .slice a len cap, .func (.func 56) #[] #[.pointer (some ⟨w.heap.size + 1 + 1, 0, none⟩)], .int .i64 (x.1 : Int), .agg #[.int .u16 x.2.1, .int .u8 x.2.2], undef, undef, undef, undef, undef, undef], defers := [] })
    (fun x a' _ X Y row hs hg hr => by obtain ⟨Bx, h1, h2, h3⟩ := hs; exact ⟨Bx, h1, ⟨cell_kept h2.1 hg (fun r e => (hr r e).2), cell_kept h2.2 hg (fun r e => (hr r e).2)⟩, h3⟩)
    ?assign ?body ?done ?stop
  case assign =>
    rintro l pre x W K ⟨⟨hp, hcz, hcr, hfr⟩, hB1⟩ hK
    simp only [Sm.enc]
    gi_wp2
    have c1 : (W.alloc (.cells #[.int .u16 x.2.1, .int .u8 x.2.2] 59)).cell? ⟨W.heap.size, 0, none⟩ = some (.int .u16 x.2.1) := by simp [go_sem]
    have c2 : (W.alloc (.cells #[.int .u16 x.2.1, .int .u8 x.2.2] 59)).cell? ⟨W.heap.size, 1, none⟩ = some (.int .u8 x.2.2) := by simp [go_sem]
    exact hK _ _ ((KeepsOthers.alloc _ _).from _) ((Below.refl _ W).alloc hB1.size _) ⟨⟨hp, cell_alloc_l _ hcz, cell_alloc_l _ hcr, frozen_alloc_l _ hcr hfr⟩, hB1.alloc hB1.size _⟩ ⟨W.heap.size, World.block_lt_of_cell? W _ hcr, ⟨c1, c2⟩, rfl⟩
  case body =>
    rintro l pre x a' W hl ⟨r, hr⟩ ⟨⟨hp, hcz, hcr, hfr⟩, hB2⟩ ⟨Bx, hBx, ⟨bX1, bX2⟩, rfl⟩ hlt
    have hB := hB0.trans (hB2.mono (B' := w.heap.size) (by omega))
    by_cases hx : x.2.1 = z
    · have hq : (x.2.1 == z) = true := by simpa using hx
      gi_wp2
      exact ⟨(KeepsOthers.setCell _ _ _).from _, ⟨rfl, pre, x, rfl, hp, hx, World.cell?_setCell_same' _ _ _ (by rw [hcr]; rfl)⟩, hB.setCell (p := ⟨w.heap.size + 1, 0, none⟩) (by simp) _⟩
    · have hq : (x.2.1 == z) = false := by simpa using hx
      gi_wp2
      exact ⟨KeepsFrom.refl _ _, Below.refl _ _, ⟨fun p hp' => (List.mem_append.1 hp').elim (hp p) (fun e => by simp at e; subst e; exact hx), hcz, hcr, hfr⟩, hB2⟩
  case done =>
    rintro D ys W hD rfl ⟨⟨hne, hcz, hcr, hfr⟩, hB2⟩ hK
    have hB := hB0.trans (hB2.mono (B' := w.heap.size) (by omega))
    have HV : Hid (Sm.get d z = 0) := Sm.get_miss d z fun c hc => by
      obtain ⟨p, hp, rfl⟩ := Sm.bks_drop d d.length (Nat.le_refl _) c (by simpa using hc)
      exact hne p (by rw [← hI.1]; exact hp)
    gi_wp2
    have hK' := (KeepsOthers.setCell W ⟨w.heap.size + 1, 0, none⟩ (.int .u8 0)).same D _ hK rfl
    refine ⟨by simp, .inl ⟨_, _, rfl, run_takeDeferred hK', ?_⟩⟩
    have hc5 := cell_kept (World.cell?_setCell_same' W ⟨w.heap.size + 1, 0, none⟩ (.int .u8 0) (by rw [hcr]; rfl)) (grownBy_putObj' _ D (.deferred none)) (fun r e => by cases e; exact ⟨_, hK', rfl⟩)
    refine ⟨.int .u8 0, ?_, by rw [HV.out], (hB.setCell (p := ⟨w.heap.size + 1, 0, none⟩) (by simp) _).trans (belowK_b (w := w) (Nat.le_refl _) _ D _ _ (by omega) hK' rfl rfl)⟩
    simp [results, Try.f20, go_sem, hc5]
  case stop =>
    rintro D c pre W hD ⟨k, hk, rfl⟩ ⟨⟨rfl, ini, last, e1, e2, e3, hcr⟩, hB⟩ hK
    gi_wp2
    refine ⟨by simp, .inl ⟨_, _, rfl, run_takeDeferred hK, ?_⟩⟩
    have hc5 := cell_kept hcr (grownBy_putObj' _ D (.deferred none)) (fun r e => by cases e; exact ⟨_, hK, rfl⟩)
    obtain ⟨k', rfl⟩ : ∃ k', k = k' + 1 := by
      cases k with
      | zero => simp [Sm.bks] at e1
      | succ k' => exact ⟨k', rfl⟩
    rw [Sm.bks_succ] at e1
    obtain ⟨rfl, e5⟩ := List.append_inj' e1 rfl
    have e5 : Sm.bk d k' = last := by simpa using e5
    obtain ⟨x, v, hx⟩ := get_pair (d := d) (k := d.length - 1 - k') (by have := hI.1; omega)
    have e6 := Sm.bk_of (k := k') hx (by have := hI.1; omega)
    rw [e6] at e5
    subst e5
    have e3 : x = z := e3
    subst e3
    have HV : Hid (Sm.get d x = v) := Sm.get_at hx fun c hc => by
      obtain ⟨p, hp, rfl⟩ := Sm.bks_drop d k' (by have := hI.1; omega) c (by rw [show d.length - k' = d.length - 1 - k' + 1 by have := hI.1; omega]; exact hc)
      exact e2 p hp
    refine ⟨.int .u8 v, ?_, by rw [HV.out], hB.trans (belowK_b (w := w) (Nat.le_refl _) W D _ _ (by omega) hK rfl rfl)⟩
    simp [results, Try.f20, go_sem, hc5]
theorem get_any (a : Option Addr) (len cap : Nat) (d : List Cl) (z : Int) (w : World) (h : Held w a len d) : Calls Try.prog 20 #[.slice a len cap, .int .u16 z] w fun e w' => e = .returned (.int .u8 (Sm.get d z)) ∧ Adds w w' :=
  ((callsIn_wide (n := 5)).1 (get_in Fence.wide 5 trivial trivial trivial rfl (by omega) a len cap d z w h)).mono fun _ _ ⟨he, hb⟩ => ⟨he, Adds.of_below hb⟩
end Go.Proofs.Ytfddefoambakiaa
