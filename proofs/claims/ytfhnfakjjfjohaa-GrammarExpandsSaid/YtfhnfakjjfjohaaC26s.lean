/- Contract of the reference's Expand: a slice of the call's own that holds the pins of all items. Condition: at most a million items. -/
import Derived.Test.YtfhnfakjjfjohaaC26i
import Derived.Test.YtfhnfakjjfjohaaC26r
import Derived.Maps.AppendAt
namespace Go.Proofs.Ytfhnfakjjfjohaa
open Go.ChangeShapes Go.WideShapes Go.ChangeAt Go.RowKit
set_option linter.unusedVariables false
theorem S.sts_bd (x : S.It) : ∀ z ∈ S.sts x, 1 ≤ z ∧ z ≤ 10 := by
  intro z hz
  simp only [S.sts, S.reps, List.mem_flatMap, S.rep] at hz
  obtain ⟨p, hp, hz⟩ := hz
  have := List.eq_of_mem_replicate hz
  subst this
  rcases (S.sps_fit x p hp).1 with ⟨_, h1, h2⟩ | ⟨_, h⟩ | ⟨_, h⟩ | ⟨_, h⟩ <;> omega
theorem take_step {α : Type} {l : List α} {j : Nat} {x : α} (h : l[j]? = some x) : l.take (j + 1) = l.take j ++ [x] := by rw [List.take_add_one, h]; rfl
/-- append of the one record that a block just laid holds, and where the new slice lies. -/
theorem wpList_appQ1_at {w : World} {ops : Array Oper} {rest : List Oper} {o : Oper} {a : Act} {Q : Exit → Act → World → Prop} (hgd : o.guard = none) (s x : Operand)
    (ho : o.op = .call { callee := .builtin .append, args := #[s, x], argTypes := #[30, 30] })
    (base : Nat) (v : Value) (d : List S.Pn) (hv : a.eval s = v) (y : S.Pn) (c : Array Value) (t : TypeId) (b : Nat) (hx : a.eval x = .slice (some ⟨b, 0, none⟩) 1 1) (hc : c.toList = csQ y) (hb : b = w.heap.size) (hown : OwnsQ w base v d)
    (hsz : d.length + 1 ≤ 4000000000000) (hbase : base ≤ w.heap.size)
    (h : ∀ v' w', OwnsQ w' base v' (d ++ [y]) → w.grownBy w' v.ownBlock → (∀ g, v'.ownBlock = some g → v.ownBlock = some g ∨ w.heap.size ≤ g) → wpList Try.prog ops Q rest (a.put o.dst v') w') : wpList Try.prog ops Q (o :: rest) a (w.alloc (.cells c t)) := by
  subst hb
  obtain ⟨i0, hi, hz0, hz1, hz2⟩ := info_parts infoQ
  refine wpList_append_own_at _ hgd s x 30 ho base 46 i0 (.agg S.Pn.zero.cs) 17 32 Try.underlying30 hi hz0 hz1 hz2 rfl (by decide) v d.length (Fl csQ d) hv (hown.alloc _) ⟨w.heap.size, 0, none⟩ 1 1 (Fl csQ [y]) hx (by rw [Fl_len csQ_len]; rfl) (at_new w t c [y] (by rw [Fl_one]; exact hc) _ rfl) (Fl_oneCell csQ_one [y]) (by unfold maxLen; omega) (by omega) (by simp; omega) ?_
  intro v' w' k1 k2 k3 k4
  refine h v' w' ?_ (World.grownBy.trans (World.grownBy_alloc w _ _) k2) (fun g hg => ?_)
  · unfold OwnsQ OwnsG
    rw [List.length_append, Fl_app]
    exact k1
  · rcases k4 with e | e
    · exact .inl (e ▸ hg)
    · rw [e] at hg
      injection hg with hg
      have : (w.alloc (.cells c t)).heap.size = w.heap.size + 1 := Array.size_push ..
      exact .inr (by omega)
/-- What has come of an item, j of its states. -/
def S.gots (on : Bool) (d : List S.It) (k : Nat) (x : S.It) (j : Nat) : List S.Pn := S.ex on (d.take k) ++ ((S.sts x).take j).map (S.pn on x)
theorem S.gots_zero (on : Bool) (d : List S.It) (k : Nat) (x : S.It) : S.gots on d k x 0 = S.ex on (d.take k) := by simp [S.gots]
theorem S.gots_step (on : Bool) (d : List S.It) (k : Nat) (x : S.It) (j : Nat) (z : Int) (h : (S.sts x)[j]? = some z) : S.gots on d k x (j + 1) = S.gots on d k x j ++ [S.pn on x z] := by
  unfold S.gots; rw [take_step h, List.map_append, List.append_assoc]; rfl
theorem S.gots_end (on : Bool) (d : List S.It) (k : Nat) (x : S.It) (h : d[k]? = some x) : S.gots on d k x (S.sts x).length = S.ex on (d.take (k + 1)) := by
  unfold S.gots; rw [List.take_length, take_step h, S.ex_app]; simp [S.ex, S.ex1]
theorem S.gots_len (on : Bool) (d : List S.It) (k : Nat) (x : S.It) (j : Nat) (hd : d.length ≤ 1000000) : (S.gots on d k x j).length ≤ 458753000000 := by
  have h1 := S.ex_len on (d.take k)
  have h2 : (d.take k).length ≤ d.length := by rw [List.length_take]; omega
  have h3 := S.sts_len x
  have h4 : ((S.sts x).take j).length ≤ (S.sts x).length := by rw [List.length_take]; omega
  unfold S.gots
  rw [List.length_append, List.length_map]
  omega
set_option maxRecDepth 100000 in
set_option maxHeartbeats 4000000 in
theorem rexpand_any (ch : Int) (a : Option Addr) (len cap : Nat) (d : List S.It) (hbig : len ≤ 1000000) (w : World) (h : HeldT w a len d) :
    Calls Try.prog 12 #[.int .i64 ch, .slice a len cap] w fun e w' => ∃ v, e = .returned v ∧ OwnsQ w' w.heap.size v (S.ex (ch == 2) d) ∧ Adds w w' := by
  obtain ⟨hl, _, hat⟩ := h
  have HL := Lib.hid hl
  have HAT := Lib.hid hat
  clear hl hat
  go_enter Try.func12, Try.ntmps12
  go_wp2_with fail
  go_loopw [5, 12] (fun v i wr => ∃ (k nn : Nat) (ad : Option Addr) (cc : Nat), k ≤ len ∧ v = .slice ad nn cc ∧ i = .int .i64 (k : Int) ∧ Hid (OwnsQ wr w.heap.size (.slice ad nn cc) (S.ex (ch == 2) (d.take k))) ∧ Hid (Adds w wr)) (fun _ i _ => len - (intOf i).toNat)
  case atStart => exact ⟨0, 0, none, 0, Nat.zero_le _, rfl, rfl, by show OwnsQ _ _ _ _; rw [List.take_zero]; exact OwnsG.nil _ _, Adds.refl _⟩
  case round =>
    obtain ⟨k, nn, ad, cc, hk, rfl, rfl, HO, HA⟩ := hrel
    rename World => w3
    have hw3 := HA.out.size
    by_cases hlt : k < len
    · obtain ⟨b, o, rfl, hb, hat⟩ := HAT.out (by omega)
      obtain ⟨x, hx⟩ := get_el (d := d) (k := k) (by have := HL.out; omega)
      have HX := Lib.hid hx
      have hL : (wholeVar 44 ⟨b, o + k * 9, none⟩).run Try.prog w3 = .ok (.agg #[.int .i64 x.k, .int .i64 x.c, .int .u16 x.a, .int .u8 x.d, .int .i64 x.s, .int .i64 x.w, .int .i64 x.n, .bool x.e, .bool x.o]) w3 := AtT.load (AtG.keep (w' := w3) hat fun i => HA.out.cell hb) hx _ rfl
      have q1 : (k : Int) < (len : Int) := by omega
      clear hat hx
      go_wp2_with (go_at_call 25; (with_reducible refine (rstates_any x _).mono ?_); rintro e w4 ⟨vz, rfl, hZ, hA4⟩; obtain ⟨a2, n2, c2, rfl, hn2, hnc, hc6, -, -⟩ := hZ.form2; have hn2 := hn2.out)
      have hA34 : Adds w3 w4 := ((Adds.refl w3).alloc _).trans hA4
      have hI : w4.heap[w3.heap.size]? = some (.cells #[.int .i64 x.k, .int .i64 x.c, .int .u16 x.a, .int .u8 x.d, .int .i64 x.s, .int .i64 x.w, .int .i64 x.n, .bool x.e, .bool x.o] 44 (0, 0)) := (hA4.below.block _ (by simp)).trans (heap_last w3 _)
      have h34 : w3.heap.size < w4.heap.size := (Array.getElem?_eq_some_iff.1 hI).1
      have HI := Lib.hid hI
      have HN2 := Lib.hid hn2
      have HA4 := Lib.hid (HA.out.trans hA34)
      have hP : Hid (0 < n2 → ∃ g2, a2 = some ⟨g2, 0, none⟩ ∧ (w3.heap.size ≤ g2 ∧ g2 < w4.heap.size) ∧ AtG csZ w4 g2 0 (S.sts x)) := fun h => by
        obtain ⟨g2, rfl, h1, h2⟩ := hZ.head h
        exact ⟨g2, rfl, ⟨by simp at h1; omega, h2⟩, hZ.at_⟩
      have HO4 := Lib.hid (show OwnsQ w4 w.heap.size (.slice ad nn cc) (S.gots (ch == 2) d k x 0) by rw [S.gots_zero]; exact HO.out.adds hA34)
      have HNE := Lib.hid (show ∀ g, (Value.slice ad nn cc).ownBlock = some g → g < w3.heap.size ∨ w4.heap.size ≤ g from fun g e => .inl (World.ownsRow.lt HO.out g e).2)
      have hn28 : n2 ≤ 458752 := by have := S.sts_len x; omega
      clear hI hA4 hA34 hZ hn2 hL HO
      go_loopw [5, 19] (fun v i wr => ∃ (j nn : Nat) (ad : Option Addr) (cc : Nat), j ≤ n2 ∧ v = .slice ad nn cc ∧ i = .int .i64 (j : Int) ∧ Hid (OwnsQ wr w.heap.size (.slice ad nn cc) (S.gots (ch == 2) d k x j)) ∧ Hid (Adds w wr) ∧ Hid (∀ g, (Value.slice ad nn cc).ownBlock = some g → g < w3.heap.size ∨ w4.heap.size ≤ g) ∧ Hid (w4.heap.size ≤ wr.heap.size ∧ ∀ b, w3.heap.size ≤ b → b < w4.heap.size → wr.heap[b]? = w4.heap[b]?)) (fun _ i _ => n2 - (intOf i).toNat)
      case atStart => exact ⟨0, nn, ad, cc, Nat.zero_le _, rfl, rfl, HO4, HA4, HNE, ⟨Nat.le_refl _, fun _ _ _ => rfl⟩⟩
      case round =>
        obtain ⟨j, nn, ad, cc, hj, rfl, rfl, HO5, HA5, HNE5, HB5⟩ := hrel
        rename World => w5
        have hw5 := HA5.out.size
        have hw45 := HB5.out.1
        by_cases hlj : j < n2
        · obtain ⟨g2, rfl, ⟨hg1, hg2⟩, hat2⟩ := hP.out (by omega)
          obtain ⟨z, hz⟩ := get_el (d := S.sts x) (k := j) (by have := HN2.out; omega)
          have HZ := Lib.hid hz
          have hzb := S.sts_bd x z (List.mem_of_getElem? hz)
          have hcz : w5.cell? ⟨g2, j, none⟩ = some (.int .i64 z) := (World.cell?_of_block (HB5.out.2 g2 hg1 hg2)).trans (by have := AtZ.el hat2 hz; rwa [Nat.zero_add] at this)
          have hI5 := (HB5.out.2 w3.heap.size (Nat.le_refl _) h34).trans HI.out
          have hR5 : rowOf w5 w3.heap.size = #[.int .i64 x.k, .int .i64 x.c, .int .u16 x.a, .int .u8 x.d, .int .i64 x.s, .int .i64 x.w, .int .i64 x.n, .bool x.e, .bool x.o] := by unfold rowOf; rw [hI5]; rfl
          have hd3 : w5.cell? ⟨w3.heap.size, 3, none⟩ = some (.int .u8 x.d) := rowOf_cell hR5 rfl
          have hd7 : w5.cell? ⟨w3.heap.size, 7, none⟩ = some (.bool x.e) := rowOf_cell hR5 rfl
          have hd8 : w5.cell? ⟨w3.heap.size, 8, none⟩ = some (.bool x.o) := rowOf_cell hR5 rfl
          have q2 : (j : Int) < (n2 : Int) := by omega
          have HUL := Lib.hid (S.gots_len (ch == 2) d k x j (by have := HL.out; omega))
          have HS := Lib.hid (S.gots_step (ch == 2) d k x j z hz)
          clear hat2 hz hI5
          go_wp2_with (first
            | (go_at_call 26; (with_reducible refine (rpins_any ch z x hzb.1 hzb.2 _).mono ?_); rintro e w6 ⟨rfl, hA6⟩; have HO6 := Lib.hid (OwnsG.adds HO5.out hA6); have HA6 := Lib.hid (HA5.out.trans hA6); have hs6 := hA6.size; have HB6 := Lib.hid (show ∀ b, w3.heap.size ≤ b → b < w4.heap.size → w6.heap[b]? = w4.heap[b]? from fun b h1 h2 => (hA6.below.block b (by omega)).trans (HB5.out.2 b h1 h2)); clear hA6; simp only [S.Pn.cs])
            | (at_builtin; refine wpList_appQ1_at rfl _ _ rfl w.heap.size (.slice ad nn cc) _ rfl (S.pn (ch == 2) x z) _ _ w6.heap.size rfl rfl rfl HO6.out (by have := HUL.out; omega) (by omega) ?_; intro v7 w7 hO7 hG7 hN7; obtain ⟨ad7, n7, c7, rfl, -, -, -, -, -⟩ := hO7.form2; have HO7 := Lib.hid hO7; have HG7 := Lib.hid hG7; have HN7 := Lib.hid hN7; clear hO7 hG7 hN7))
          go_roundw
          case rel =>
            refine ⟨j + 1, n7, ad7, c7, by omega, rfl, by go_num, by rw [HS.out]; exact HO7.out, AddsG.grown HA6.out HG7.out HO6.out, fun g hg => ?_, by have := HG7.out.size; omega, fun b h1 h2 => ?_⟩
            · rcases HN7.out g hg with e | e
              · exact HNE5.out g e
              · exact .inr (by omega)
            · exact (HG7.out.block b (by omega) (fun e => by rcases HNE5.out b e.symm with e | e <;> omega)).trans (HB6.out b h1 h2)
          case measure => simp [intOf]; omega
        · have q2 : ¬ (j : Int) < (n2 : Int) := by omega
          have hjn : j = n2 := by omega
          have HO7 := Lib.hid (show OwnsQ w5 w.heap.size (.slice ad nn cc) (S.ex (ch == 2) (d.take (k + 1))) by rw [← S.gots_end _ d k x HX.out, HN2.out, ← hjn]; exact HO5.out)
          go_wp2_with fail
          go_roundw
          case rel => exact ⟨k + 1, nn, ad, cc, by omega, rfl, by go_num, HO7, HA5⟩
          case measure => simp [intOf]; omega
    · have q1 : ¬ (k : Int) < (len : Int) := by omega
      have HE := Lib.hid (show S.ex (ch == 2) (d.take k) = S.ex (ch == 2) d by rw [List.take_of_length_le (by have := HL.out; omega)])
      go_wp2_with fail
      go_ret
      exact ⟨_, rfl, by rw [← HE.out]; exact HO.out, HA.out⟩
end Go.Proofs.Ytfhnfakjjfjohaa
