/- Contracts of slices.AppendSeq and slices.Collect at the iterator of an expansion, and of grammar.Expand: a slice of the call's own that holds the pins of all items. Condition: at most a million items. -/
import Derived.RangeFuncBox
import Derived.Maps.OwnIn
import Derived.Maps.AppendAt
import Derived.Test.YtfhnfakjjfjohaaC26m
namespace Go.Proofs.Ytfhnfakjjfjohaa
open Go.ChangeShapes Go.WideShapes Go.ChangeAt Go.RowKit Go.Shelf
set_option linter.unusedVariables false
attribute [local go_sem] Oper.semAt_some
theorem kb_t {B : Nat} {W1 W2 W3 : World} (h : Kb B W1 W2) (k : Kb B W2 W3) : Kb B W1 W3 := h.trans k
theorem kb_b {B : Nat} {w : World} (hB : B < w.heap.size) (W : World) (l : Nat) (o o' : Obj) (hl : w.heap.size ≤ l) (h : W.heap[l]? = some o) (hc : o.isCells = false) (_ : o.isWalk = false) : Kb B W (W.putObj l o') := by
  have g := grownBy_putObj' W l o'
  refine ⟨g.size, fun b u hb hu _ _ => ?_, fun k hk => .inl ?_⟩
  · refine (g.block b (Array.getElem?_eq_some_iff.1 hb).1 (fun e => ?_)).trans hb
    injection e with e; subst e; rw [h] at hb; injection hb with hb; subst hb; rw [hc] at hu; cases hu
  · obtain ⟨v, h1, h2⟩ := hk
    refine ⟨v, ?_, h2⟩
    rw [← h1]
    have hW : B < W.heap.size := by have := (Array.getElem?_eq_some_iff.1 h).1; omega
    exact (World.cell?_of_block (a := ⟨B, 0, none⟩) (g.block B hW (fun e => by injection e with e; omega))).symm
theorem expn_stops (bL bC Bs len cap : Nat) (a : Option Addr) (ch : Int) (d : List S.It) (hbig : len ≤ 1000000) (w : World) (hI : HeldT w a len d) (hLs : bL ≠ Bs) (hCs : bC ≠ Bs) (hBs : Bs < w.heap.size) (hL : bL < w.heap.size) (hC : bC < w.heap.size) (hne : ∀ b o, a = some ⟨b, o, none⟩ → 0 < len → b ≠ Bs)
    (hown : w.cell? ⟨Bs, 0, none⟩ = some (.slice none 0 0)) (hcL : w.cell? ⟨bL, 0, none⟩ = some (.slice a len cap)) (hcC : w.cell? ⟨bC, 0, none⟩ = some (.int .i64 ch)) :
    SeqStopsK Fence.wide 6 Try.prog 30 #[.pointer (some ⟨bL, 0, none⟩), .pointer (some ⟨bC, 0, none⟩)] S.encQ (Kb Bs) (fun ys => ys = S.ex (ch == 2) d) (fun _ => True) (S.ex (ch == 2) d).length w := fun l J Jx W hW hJ _ hY h0 =>
  expn1_in l bL bC Bs len cap a ch d hI.1 hbig hLs hCs J Jx W.heap.size hJ hY W (by have := hW.size; omega)
    (fun g hg => by
      obtain ⟨v, h1, h2⟩ := hg
      rw [hW.cell (p := ⟨Bs, 0, none⟩) hBs, hown] at h1
      injection h1 with h1; subst h1; simp [Value.ownBlock] at h2)
    ((hW.cell (p := ⟨bL, 0, none⟩) hL).trans hcL) ((hW.cell (p := ⟨bC, 0, none⟩) hC).trans hcC)
    (fun h => by
      obtain ⟨b, o, ha, hb, hat⟩ := hI.2.2 h
      exact ⟨b, o, ha, hne b o ha h, hat.keep fun i => hW.cell (p := ⟨b, i, none⟩) hb⟩) h0
theorem kb_app {W w1 : World} {B : Nat} {t : TypeId} {v v' : Value} {o : Obj} (hv : Boxed W B t v) (hg : (W.alloc o).grownBy w1 v.ownBlock) (hv2 : Boxed (w1.setCell ⟨B, 0, none⟩ v') B t v') (hat : v'.ownBlock = v.ownBlock ∨ v'.ownBlock = some (W.alloc o).heap.size) (hlt : ∀ g, v'.ownBlock = some g → g < w1.heap.size) : Kb B W (w1.setCell ⟨B, 0, none⟩ v') := by
  have h1 : (W.alloc o).heap.size = W.heap.size + 1 := World.size_alloc W o
  have h2 := hg.size
  have h3 : (w1.setCell ⟨B, 0, none⟩ v').heap.size = w1.heap.size := by simp
  refine ⟨by omega, fun b u hb hu hne hno => ?_, fun g hgo => ?_⟩
  · have hlt : b < W.heap.size := (Array.getElem?_eq_some_iff.1 hb).1
    refine ((grownBy_setCell' w1 B v').block b (by omega) (fun e => hne (by injection e))).trans (((hg.block b (by omega) (fun e => hno ⟨v, hv.cell, e.symm⟩))).trans ((heap_past W o hlt).trans hb))
  · obtain ⟨u, hu1, hu2⟩ := hgo
    rw [hv2.cell] at hu1
    injection hu1 with hu1
    subst hu1
    rcases hat with e | e
    · exact .inl ⟨v, hv.cell, by rw [← e]; exact hu2⟩
    · have := hlt g hu2
      rw [e] at hu2
      injection hu2 with hu2
      exact .inr ⟨by omega, by omega⟩
set_option maxRecDepth 100000 in
set_option maxHeartbeats 4000000 in
theorem apps_in (bL bC len cap : Nat) (a : Option Addr) (ch : Int) (d : List S.It) (hbig : len ≤ 1000000) (w : World) (hI : HeldT w a len d) (hL : bL < w.heap.size) (hC : bC < w.heap.size)
    (hcL : w.cell? ⟨bL, 0, none⟩ = some (.slice a len cap)) (hcC : w.cell? ⟨bC, 0, none⟩ = some (.int .i64 ch)) :
    CallsIn Fence.wide 7 Try.prog 29 #[.slice none 0 0, .func (.func 30) #[] #[.pointer (some ⟨bL, 0, none⟩), .pointer (some ⟨bC, 0, none⟩)]] w fun e W' =>
      ∃ v, e = .returned v ∧ OwnsQ W' w.heap.size v (S.ex (ch == 2) d) ∧ Below w.heap.size w W' := by
  obtain ⟨i0, hi, hz0, hz1, hz2⟩ := info_parts infoQ
  have hlen : (S.ex (ch == 2) d).length ≤ 458752000000 := by
    have h1 := S.ex_len (ch == 2) d
    have h2 := hI.1
    omega
  refine callsIn_of_wp_marks Try.func29 rfl trivial ?_ rfl
  simp only [Try.ntmps29, List.size_toArray, List.length_cons, List.length_nil, Nat.reduceAdd, Nat.reduceSub, Array.replicate_succ, Array.replicate_zero, List.push_toArray, List.append_toArray, List.nil_append, List.cons_append]
  gi_wp2
  have bS := Boxed.new w 30 (.slice none 0 0)
  have hB0 : Below w.heap.size w (w.alloc (.cells #[.slice none 0 0] 30)) := (Below.refl _ w).alloc (Nat.le_refl _) _
  have hI0 := hI.adds ((Adds.refl w).alloc (.cells #[.slice none 0 0] 30))
  have kL : (w.alloc (.cells #[.slice none 0 0] 30)).cell? ⟨bL, 0, none⟩ = some (.slice a len cap) := (World.cell?_alloc_past _ _ _ hL).trans hcL
  have kC : (w.alloc (.cells #[.slice none 0 0] 30)).cell? ⟨bC, 0, none⟩ = some (.int .i64 ch) := (World.cell?_alloc_past _ _ _ hC).trans hcC
  have hsz : (w.alloc (.cells #[.slice none 0 0] 30)).heap.size = w.heap.size + 1 := by simp
  have hne : ∀ b o, a = some ⟨b, o, none⟩ → 0 < len → b ≠ w.heap.size := fun b o h hn => by
    obtain ⟨b', o', h', hb, _⟩ := hI.2.2 hn
    rw [h] at h'; injection h' with h'; injection h' with h'; omega
  obtain ⟨W0, hW0⟩ : ∃ W0, w.alloc (.cells #[.slice none 0 0] 30) = W0 := ⟨_, rfl⟩
  rw [hW0] at bS hB0 hI0 kL kC hsz ⊢
  clear hW0 hI
  refine wpIn_rangeFunc_ownH rfl (by omega) (gf := 30) (lb := #[.pointer (some ⟨bL, 0, none⟩), .pointer (some ⟨bC, 0, none⟩)]) rfl trivial (enters_of Try.func30 (by kernel_rfl) rfl)
    (expn_stops bL bC w.heap.size len cap a ch d hbig W0 hI0 (by omega) (by omega) (by omega) (by omega) (by omega) hne bS.cell kL kC) kb_t (kb_b (by omega)) (Below.refl _ _) (fun _ => rfl)
    (fun pre W => (∃ v, Boxed W w.heap.size 30 v ∧ OwnsQ W w.heap.size v pre) ∧ Below w.heap.size w W)
    (fun _ _ _ => False)
    (OwnFrom.and (Own.from (fun s X Y row hs hg hr => by
      obtain ⟨v, hv, hr'⟩ := hs
      obtain ⟨v2, h1, h2, _⟩ := holdsRow_own (β := List S.Pn) w.heap.size w.heap.size 30 46 17 (fun pre => pre.length) (fun pre => Fl csQ pre) (fun _ _ => True) s X Y row ⟨v, hv, hr', trivial⟩ hg hr
      exact ⟨v2, h1, h2⟩) _) (ownFrom_below (Nat.le_refl _) (by omega)))
    (fun _ _ _ _ _ hs _ _ => hs)
    ⟨⟨_, bS, OwnsG.nil _ _⟩, hB0⟩
    (fun x a' W => ∃ Bx, W.heap[Bx]? = some (.cells #[.int .i64 x.st, .int .u16 x.ad, .int .u8 x.da, .bool x.sy, .bool x.db, .bool x.wa, .bool x.it, .bool x.al, .bool x.im, .bool x.s1, .bool x.s0, .bool x.rd, .bool x.ia, .bool x.so, .bool x.wr, .bool x.hl, .bool x.fl] 46 (0, 0)) ∧ a' = { tmps := #[.slice none 0 0, .func (.func 30) #[] #[.pointer (some ⟨bL, 0, none⟩), .pointer (some ⟨bC, 0, none⟩)], .pointer (some ⟨w.heap.size, 0, none⟩), undef, .slice none 0 0, .pointer (some ⟨Bx, 0, none⟩), .func (.func 30) #[] #[.pointer (some ⟨bL, 0, none⟩), .pointer (some ⟨bC, 0, none⟩)], .agg #[.int .i64 x.st, .int .u16 x.ad, .int .u8 x.da, .bool x.sy, .bool x.db, .bool x.wa, .bool x.it, .bool x.al, .bool x.im, .bool x.s1, .bool x.s0, .bool x.rd, .bool x.ia, .bool x.so, .bool x.wr, .bool x.hl, .bool x.fl], undef, undef, undef, undef, undef], defers := [] })
    (fun x a' _ X Y row hs hg hr => by
      obtain ⟨Bx, h1, h2⟩ := hs
      exact ⟨Bx, (hg.block Bx (Array.getElem?_eq_some_iff.1 h1).1 (fun e => by obtain ⟨_, o, ho, hc⟩ := hr Bx e.symm; rw [h1] at ho; injection ho with ho; subst ho; cases hc)).trans h1, h2⟩)
    ?assign ?body ?done ?stop
  case assign =>
    rintro l pre x W K ⟨⟨v, hv, hr⟩, hB1⟩ hK
    simp only [S.encQ, S.Pn.cs]
    gi_wp2
    exact hK _ _ ((KeepsOthers.alloc _ _).from _) (Kb.adds ((Adds.refl W).alloc _) hv.lt) ⟨⟨v, hv.alloc _, hr.alloc _⟩, hB1.alloc hB1.size _⟩ ⟨W.heap.size, heap_last W _, rfl⟩
  case body =>
    rintro l pre x a' W hl ⟨r, hr⟩ ⟨⟨v, hv, hrow⟩, hB1⟩ ⟨Bx, hX, rfl⟩ hlt
    have hc := hv.cell
    have hL : (wholeVar 46 ⟨Bx, 0, none⟩).run Try.prog W = .ok (.agg #[.int .i64 x.st, .int .u16 x.ad, .int .u8 x.da, .bool x.sy, .bool x.db, .bool x.wa, .bool x.it, .bool x.al, .bool x.im, .bool x.s1, .bool x.s0, .bool x.rd, .bool x.ia, .bool x.so, .bool x.wr, .bool x.hl, .bool x.fl]) W := whole_cells Try.underlying46 rfl sizeQ W _ 0 #[.int .i64 x.st, .int .u16 x.ad, .int .u8 x.da, .bool x.sy, .bool x.db, .bool x.wa, .bool x.it, .bool x.al, .bool x.im, .bool x.s1, .bool x.s0, .bool x.rd, .bool x.ia, .bool x.so, .bool x.wr, .bool x.hl, .bool x.fl] rfl fun j v hj => by
      rw [Nat.zero_add, cell_of_row W _ j _ _ (0, 0) hX]; exact hj
    have hpl : pre.length + 1 ≤ 458752000000 := by omega
    gi_wp2_with (gi_at_builtin; refine wpListIn_append_own_at _ rfl _ _ 30 rfl w.heap.size 46 i0 _ 17 32 Try.underlying30 hi hz0 hz1 hz2 rfl (by decide) _ _ _ rfl (hrow.alloc _) ⟨W.heap.size, 0, none⟩ 1 1 (csQ x) rfl rfl (fun j u hu => at_new W _ _ [x] (show _ = Fl csQ [x] from (Fl_one (cs := csQ) x).symm) _ rfl j u (by rw [Fl_one]; exact hu)) (csQ_one x) (by unfold maxLen; omega) (by omega) (by have := hB1.size; have h2 : ∀ o, (W.alloc o).heap.size = W.heap.size + 1 := (fun o => World.size_alloc W o); rw [h2]; omega) ?_; intro v' w1 hown' hgrow _ hat; obtain ⟨g', cap', rfl⟩ := ownsRow_succ hown'; obtain ⟨hv1, hv2, hr2, hk2, hb2⟩ := hv.appended (by decide) hrow hB1.size (Nat.le_refl _) hown' hgrow; have hc1 := hv1.cell; have hf1 := hv1.frozen)
    exact ⟨hk2.from _, kb_app hv hgrow hv2 hat (fun g hg => (World.ownsRow.lt hown' g hg).2), ⟨⟨_, hv2, by unfold OwnsQ OwnsG; rw [List.length_append, Fl_app, Fl_one]; exact hr2⟩, hB1.trans hb2⟩⟩
  case done =>
    rintro D ys W hD rfl ⟨⟨v, hv, hrow⟩, hB⟩ hK
    have hc := hv.cell
    gi_wp2
    refine ⟨by simp, .inl ⟨_, _, rfl, run_takeDeferred hK, ?_⟩⟩
    exact ⟨_, results_tmp rfl _ _ _, v, rfl, ownsRow_putObj hrow _ hK rfl, hB.trans (belowK_b (w := w) (Nat.le_refl _) W D _ _ (by omega) hK rfl rfl)⟩
  case stop =>
    rintro D c pre W _ _ h _
    exact h.elim
theorem apps_any (bL bC len cap : Nat) (a : Option Addr) (ch : Int) (d : List S.It) (hbig : len ≤ 1000000) (w : World) (hI : HeldT w a len d) (hL : bL < w.heap.size) (hC : bC < w.heap.size)
    (hcL : w.cell? ⟨bL, 0, none⟩ = some (.slice a len cap)) (hcC : w.cell? ⟨bC, 0, none⟩ = some (.int .i64 ch)) :
    Calls Try.prog 29 #[.slice none 0 0, .func (.func 30) #[] #[.pointer (some ⟨bL, 0, none⟩), .pointer (some ⟨bC, 0, none⟩)]] w fun e W' => ∃ v, e = .returned v ∧ OwnsQ W' w.heap.size v (S.ex (ch == 2) d) ∧ Adds w W' :=
  ((callsIn_wide (n := 7)).1 (apps_in bL bC len cap a ch d hbig w hI hL hC hcL hcC)).mono fun _ _ ⟨v, he, ho, hb⟩ => ⟨v, he, ho, Adds.of_below hb⟩
theorem coll_any (bL bC len cap : Nat) (a : Option Addr) (ch : Int) (d : List S.It) (hbig : len ≤ 1000000) (w : World) (hI : HeldT w a len d) (hL : bL < w.heap.size) (hC : bC < w.heap.size)
    (hcL : w.cell? ⟨bL, 0, none⟩ = some (.slice a len cap)) (hcC : w.cell? ⟨bC, 0, none⟩ = some (.int .i64 ch)) :
    Calls Try.prog 23 #[.func (.func 30) #[] #[.pointer (some ⟨bL, 0, none⟩), .pointer (some ⟨bC, 0, none⟩)]] w fun e W' => ∃ v, e = .returned v ∧ OwnsQ W' w.heap.size v (S.ex (ch == 2) d) ∧ Adds w W' := by
  have H := Lib.hid (apps_any bL bC len cap a ch d hbig w hI hL hC hcL hcC)
  clear hI hcL hcC
  go_enter Try.func23, Try.ntmps23
  go_wp2_with (go_at_call 29; (with_reducible refine H.out.mono ?_); rintro e w' ⟨v, rfl, ho, hA⟩)
  go_ret
  exact ⟨_, rfl, ho, hA⟩
theorem expn_any (ch : Int) (a : Option Addr) (len cap : Nat) (w : World) : Calls Try.prog 24 #[.int .i64 ch, .slice a len cap] w fun e w' => e = .returned (.func (.func 30) #[] #[.pointer (some ⟨w.heap.size + 1, 0, none⟩), .pointer (some ⟨w.heap.size, 0, none⟩)]) ∧ w' = (w.alloc (.cells #[.int .i64 ch] 3)).alloc (.cells #[.slice a len cap] 22) := by
  go_enter Try.func24, Try.ntmps24
  go_wp2
  go_ret
  exact ⟨rfl, rfl⟩
/-- Expand, at items of any kind. -/
theorem expand_any (ch : Int) (a : Option Addr) (len cap : Nat) (d : List S.It) (hbig : len ≤ 1000000) (w : World) (h : HeldT w a len d) :
    Calls Try.prog 11 #[.int .i64 ch, .slice a len cap] w fun e w' => ∃ v, e = .returned v ∧ OwnsQ w' w.heap.size v (S.ex (ch == 2) d) ∧ Adds w w' := by
  obtain ⟨w2, hw2⟩ : ∃ w2, w2 = (w.alloc (.cells #[.int .i64 ch] 3)).alloc (.cells #[.slice a len cap] 22) := ⟨_, rfl⟩
  have hA : Adds w w2 := by rw [hw2]; exact ((Adds.refl w).alloc _).alloc _
  have hs : w2.heap.size = w.heap.size + 2 := by rw [hw2]; simp
  have H := Lib.hid (coll_any (w.heap.size + 1) w.heap.size len cap a ch d hbig w2 (h.adds hA) (by omega) (by omega) (by rw [hw2]; simp [go_sem]) (by rw [hw2]; simp [go_sem]))
  have HA := Lib.hid hA
  have HW2 := Lib.hid hw2
  clear h hA hw2
  go_enter Try.func11, Try.ntmps11
  go_wp2_with (first
    | (go_at_call 24; (with_reducible refine (expn_any ch a len cap w).mono ?_); rintro e w' ⟨rfl, hw'⟩; rw [← HW2.out] at hw'; rw [hw']; clear hw')
    | (go_at_call 23; (with_reducible refine H.out.mono ?_); rintro e w' ⟨v, rfl, ho, hA⟩))
  go_ret
  exact ⟨_, rfl, ho.mono (by omega), HA.out.trans hA⟩
end Go.Proofs.Ytfhnfakjjfjohaa
