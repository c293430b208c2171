/- What makes inputs: Next, Word, Byte, Cells: some numbers within their bounds, some list of cells. Conditions: the numbers' list lies in other blocks than the box. -/
import Derived.Test.YtfddefoambakiaaMC
import Derived.Test.YtfddefoambakiaaCM
import Derived.Lib.Hide
namespace Go.Proofs.Ytfddefoambakiaa
open Go.ChangeShapes Go.WideShapes Go.ChangeAt Go.RowKit
set_option linter.unusedVariables false
/-- The box of numbers in block b. -/
def NumBox (w : World) (b : Nat) (a : Option Addr) (len cap : Nat) (N : Nat) : Prop :=
  b < w.heap.size ∧ w.cell? ⟨b, 0, none⟩ = some (.slice a len cap) ∧ w.cell? ⟨b, 1, none⟩ = some (.int .i64 (N : Int)) ∧ w.frozen? ⟨b, 1, none⟩ = false ∧ len ≤ cap ∧ len ≤ 4611686018427387904 ∧ ∀ i, i < len → ∃ bx ox z, a = some ⟨bx, ox, none⟩ ∧ bx < b ∧ w.cell? ⟨bx, ox + i, none⟩ = some (.int .i64 z)
theorem grown_frozen {w w' : World} {row : Option Nat} (hg : w.grownBy w' row) {a : Addr} (hl : a.block < w.heap.size) (hne : some a.block ≠ row) : w'.frozen? a = w.frozen? a :=
  World.frozen?_of_block (hg.block a.block hl hne)
theorem NumBox.grown {w w' : World} {b : Nat} {a : Option Addr} {len cap N : Nat} {row : Option Nat} (h : NumBox w b a len cap N) (hg : w.grownBy w' row) (hne : ∀ g, row = some g → b < g) : NumBox w' b a len cap N := by
  have hk : ∀ k, k ≤ b → some k ≠ row := fun k hk e => by have := hne k e.symm; omega
  refine ⟨by have := hg.size; have := h.1; omega, hg.cell h.2.1 (hk b (Nat.le_refl _)), hg.cell h.2.2.1 (hk b (Nat.le_refl _)), (grown_frozen hg h.1 (hk b (Nat.le_refl _))).trans h.2.2.2.1, h.2.2.2.2.1, h.2.2.2.2.2.1, fun i hi => ?_⟩
  obtain ⟨bx, ox, z, h1, h2, h3⟩ := h.2.2.2.2.2.2 i hi
  exact ⟨bx, ox, z, h1, h2, hg.cell h3 (hk bx (by omega))⟩
theorem grown_trans2 {w0 w1 w2 : World} {b : Nat} {row : Option Nat} (h : w0.grownBy w1 (some b)) (k : w1.grownBy w2 row) (hr : ∀ g, row = some g → g = b ∨ w0.heap.size ≤ g) : w0.grownBy w2 (some b) :=
  ⟨k.os.trans h.os, k.tape.trans h.tape, k.output.trans h.output, Nat.le_trans h.size k.size, fun i hi hne => (k.block i (by have := h.size; omega) (fun e => by
    rcases hr i e.symm with q | q
    · exact hne (by rw [q])
    · omega)).trans (h.block i hi hne)⟩
theorem adds_grown {w w' : World} (h : Adds w w') (row : Option Nat) : w.grownBy w' row := by
  have hb := h.below
  exact ⟨hb.os, hb.tape, hb.output, hb.size, fun k hk _ => hb.block k hk⟩
theorem next_ex (b len cap N : Nat) (a : Option Addr) (n : Int) (n0 : 1 ≤ n) (n1 : n ≤ 65536) (hM : N ≤ 100000000) (w : World) (h : NumBox w b a len cap N) :
    Calls Try.prog 37 #[.pointer (some ⟨b, 0, none⟩), .int .i64 n] w fun e w' => ∃ y : Nat, (y : Int) < n ∧ e = .returned (.int .i64 (y : Int)) ∧ NumBox w' b a len cap (N + 1) ∧ w.grownBy w' (some b) := by
  obtain ⟨hB, h0, h1, hf, hlc, hl62, hx⟩ := h
  have fin : ∀ p : By, NumBox (More (w.setCell ⟨b, 1, none⟩ (.int .i64 ((N : Int) + 1))) p.n p.os) b a len cap (N + 1) ∧ w.grownBy (More (w.setCell ⟨b, 1, none⟩ (.int .i64 ((N : Int) + 1))) p.n p.os) (some b) := fun p => by
    have g1 : w.grownBy (w.setCell ⟨b, 1, none⟩ (.int .i64 ((N : Int) + 1))) (some b) := ⟨rfl, rfl, rfl, by simp, fun k _ hk => heap_setCell_other w ⟨b, 1, none⟩ k _ (fun e => hk (by simp [e]))⟩
    have g2 := g1.trans (adds_grown (w := w.setCell ⟨b, 1, none⟩ (.int .i64 ((N : Int) + 1))) (w' := More (w.setCell ⟨b, 1, none⟩ (.int .i64 ((N : Int) + 1))) p.n p.os) ⟨p, rfl⟩ (some b))
    have hs : (w.setCell ⟨b, 1, none⟩ (.int .i64 ((N : Int) + 1))).heap.size = w.heap.size := by simp
    have hB' : InB b (w.setCell ⟨b, 1, none⟩ (.int .i64 ((N : Int) + 1))) := by show b < _; omega
    refine ⟨⟨by have := g2.size; omega, ?_, ?_, ?_, hlc, hl62, fun i hi => ?_⟩, g2⟩
    · rw [More_cell _ _ _ _ _ _ hB', World.cell?_setCell_other w _ _ _ (by simp)]; exact h0
    · rw [More_cell _ _ _ _ _ _ hB', World.cell?_setCell_same' _ _ _ (by rw [h1]; rfl)]; rfl
    · rw [More_frozen _ _ _ _ _ _ hB', World.frozen?_setCell]; exact hf
    · obtain ⟨bx, ox, z, e1, e2, e3⟩ := hx i hi
      exact ⟨bx, ox, z, e1, e2, g2.cell e3 (fun e => by injection e with e; have e : bx = b := e; omega)⟩
  by_cases hN : N < len
  · obtain ⟨bx, ox, z, rfl, hb, hz⟩ := hx N hN
    refine (next_some b bx ox len cap N z n n0 n1 hN (by omega) (by omega) hlc w hB hb h0 h1 hf hz).mono ?_
    rintro e w' ⟨rfl, p, rfl⟩
    obtain ⟨q0, q1⟩ := S.plc_bd z n n0
    exact ⟨(S.plc z n).toNat, by omega, by rw [Int.toNat_of_nonneg q0], fin p⟩
  · refine (next_none b len cap N a n (by omega) (by omega) w hB h0 h1 hf).mono ?_
    rintro e w' ⟨rfl, p, rfl⟩
    exact ⟨0, by omega, rfl, fin p⟩
theorem lit8 (y : Nat) (h : (y : Int) < 8) : ∃ o : Nat, o < 65536 ∧ (#[.int .u16 0, .int .u16 1, .int .u16 65535, .int .u16 65534, .int .u16 32767, .int .u16 32768, .int .u16 255, .int .u16 256] : Array Value)[y]? = some (.int .u16 (o : Int)) := by
  have h' : y < 8 := by omega
  match y, h' with
  | 0, _ => exact ⟨0, by omega, rfl⟩
  | 1, _ => exact ⟨1, by omega, rfl⟩
  | 2, _ => exact ⟨65535, by omega, rfl⟩
  | 3, _ => exact ⟨65534, by omega, rfl⟩
  | 4, _ => exact ⟨32767, by omega, rfl⟩
  | 5, _ => exact ⟨32768, by omega, rfl⟩
  | 6, _ => exact ⟨255, by omega, rfl⟩
  | 7, _ => exact ⟨256, by omega, rfl⟩
set_option maxHeartbeats 1000000 in
theorem word_ex (b len cap N : Nat) (a : Option Addr) (hM : N ≤ 99999000) (w : World) (h : NumBox w b a len cap N) :
    Calls Try.prog 27 #[.pointer (some ⟨b, 0, none⟩)] w fun e w' => ∃ y : Nat, y < 65536 ∧ e = .returned (.int .u16 (y : Int)) ∧ (∃ N', N' ≤ N + 2 ∧ NumBox w' b a len cap N') ∧ w.grownBy w' (some b) := by
  have H : Hid _ := Lib.hid h
  clear h
  go_enter Try.func27, Try.ntmps27
  go_wp2_with (first
    | (go_at_call 37; (with_reducible refine (next_ex b len cap (N + 1) a 8 (by omega) (by omega) (by omega) (w1.alloc (.cells #[.int .u16 0, .int .u16 1, .int .u16 65535, .int .u16 65534, .int .u16 32767, .int .u16 32768, .int .u16 255, .int .u16 256] 24)) (hB1.grown (World.grownBy_alloc _ _ none) (fun _ h => by cases h))).mono ?_); rintro e w2 ⟨y2, hy2, rfl, hB2, hG2⟩; obtain ⟨o, ho1, ho2⟩ := lit8 y2 hy2; have hc : w2.cell? ⟨w1.heap.size, y2, none⟩ = some (.int .u16 (o : Int)) := (hG2.cell (a := ⟨w1.heap.size, y2, none⟩) (by rw [cell_of_row _ _ _ _ _ (0, 0) (heap_alloc_new w1 _)]; exact ho2) (fun e => by injection e with e; have e : w1.heap.size = b := e; have := hB1.1; omega)))
    | (go_at_call 37; (with_reducible refine (next_ex b len cap (N + 1) a 65536 (by omega) (by omega) (by omega) w1 hB1).mono ?_); rintro e w2 ⟨y2, hy2, rfl, hB2, hG2⟩; have hwr : IntKind.u16.wrap (y2 : Int) = (y2 : Int) := (by simp [IntKind.wrap, IntKind.bits, IntKind.signed]; omega); have hwr2 : (y2 : Int) % 65536 = (y2 : Int) := (by omega))
    | (go_at_call 37; (with_reducible refine (next_ex b len cap (N + 1) a 64 (by omega) (by omega) (by omega) w1 hB1).mono ?_); rintro e w2 ⟨y2, hy2, rfl, hB2, hG2⟩; have hwr : IntKind.u16.wrap (y2 : Int) = (y2 : Int) := (by simp [IntKind.wrap, IntKind.bits, IntKind.signed]; omega); have hwr2 : (y2 : Int) % 65536 = (y2 : Int) := (by omega))
    | (go_at_call 37; (with_reducible refine (next_ex b len cap N a 5 (by omega) (by omega) (by omega) w H.out).mono ?_); rintro e w1 ⟨y1, hy1, rfl, hB1, hG1⟩))
  · go_ret
    exact ⟨o, ho1, rfl, ⟨_, Nat.le_refl _, hB2⟩, hG1.trans ((World.grownBy_alloc _ _ _).trans hG2)⟩
  · go_ret
    exact ⟨y2, by omega, rfl, ⟨_, Nat.le_refl _, hB2⟩, hG1.trans hG2⟩
  · go_ret
    exact ⟨y2, by omega, rfl, ⟨_, Nat.le_refl _, hB2⟩, hG1.trans hG2⟩
theorem lit16 (y : Nat) (h : y < 16) : ∃ o : Nat, o < 256 ∧ (#[.int .u8 0, .int .u8 1, .int .u8 127, .int .u8 128, .int .u8 255, .int .u8 15, .int .u8 16, .int .u8 153, .int .u8 154, .int .u8 9, .int .u8 102, .int .u8 254, .int .u8 129, .int .u8 85, .int .u8 170, .int .u8 64] : Array Value)[y]? = some (.int .u8 (o : Int)) := by
  match y, h with
  | 0, _ => exact ⟨0, by omega, rfl⟩
  | 1, _ => exact ⟨1, by omega, rfl⟩
  | 2, _ => exact ⟨127, by omega, rfl⟩
  | 3, _ => exact ⟨128, by omega, rfl⟩
  | 4, _ => exact ⟨255, by omega, rfl⟩
  | 5, _ => exact ⟨15, by omega, rfl⟩
  | 6, _ => exact ⟨16, by omega, rfl⟩
  | 7, _ => exact ⟨153, by omega, rfl⟩
  | 8, _ => exact ⟨154, by omega, rfl⟩
  | 9, _ => exact ⟨9, by omega, rfl⟩
  | 10, _ => exact ⟨102, by omega, rfl⟩
  | 11, _ => exact ⟨254, by omega, rfl⟩
  | 12, _ => exact ⟨129, by omega, rfl⟩
  | 13, _ => exact ⟨85, by omega, rfl⟩
  | 14, _ => exact ⟨170, by omega, rfl⟩
  | 15, _ => exact ⟨64, by omega, rfl⟩
  | y + 16, h => exact absurd h (by omega)
set_option maxRecDepth 100000 in
set_option maxHeartbeats 1000000 in
theorem byte_ex (b len cap N : Nat) (a : Option Addr) (hM : N ≤ 99999000) (w : World) (h : NumBox w b a len cap N) :
    Calls Try.prog 38 #[.pointer (some ⟨b, 0, none⟩)] w fun e w' => ∃ y : Nat, y < 256 ∧ e = .returned (.int .u8 (y : Int)) ∧ (∃ N', N' ≤ N + 2 ∧ NumBox w' b a len cap N') ∧ w.grownBy w' (some b) := by
  have H : Hid _ := Lib.hid h
  clear h
  go_enter Try.func38, Try.ntmps38
  go_wp2_with (go_at_call 37; (with_reducible refine (next_ex b len cap N a 512 (by omega) (by omega) (by omega) w H.out).mono ?_); rintro e w1 ⟨y1, hy1, rfl, hB1, hG1⟩; obtain ⟨q, hq⟩ : ∃ q, q = y1 % 16 := ⟨_, rfl⟩; obtain ⟨o, ho1, ho2⟩ := lit16 q (by omega); have hmod : (y1 : Int) % 16 = (q : Int) := (by omega); have hmod2 : (y1 : Int).tmod 16 = (q : Int) := (by rw [Int.tmod_eq_emod_of_nonneg (by omega)]; omega); have hq16 : (q : Int) < 16 := (by omega); have hc : (w1.alloc (.cells #[.int .u8 0, .int .u8 1, .int .u8 127, .int .u8 128, .int .u8 255, .int .u8 15, .int .u8 16, .int .u8 153, .int .u8 154, .int .u8 9, .int .u8 102, .int .u8 254, .int .u8 129, .int .u8 85, .int .u8 170, .int .u8 64] 5)).cell? ⟨w1.heap.size, q, none⟩ = some (.int .u8 (o : Int)) := (by rw [cell_of_row _ _ _ _ _ (0, 0) (heap_alloc_new w1 _)]; exact ho2); have HQ := Lib.hid hq; clear hq)
  · go_ret
    exact ⟨o, ho1, rfl, ⟨N + 1, by omega, hB1.grown (World.grownBy_alloc _ _ none) (fun _ h => by cases h)⟩, hG1.trans (World.grownBy_alloc _ _ _)⟩
  · go_ret
    exact ⟨y1 % 256, by omega, ri (by omega), ⟨N + 1, by omega, hB1⟩, hG1⟩
theorem Owns.kept {w w' : World} {base : Nat} {v : Value} {d : List Cl} {row : Option Nat} (h : Owns w base v d) (hg : w.grownBy w' row) (hne : ∀ g, row = some g → g < base) : Owns w' base v d := by
  refine World.ownsRow.kept h hg ?_
  cases hq : v.ownBlock with
  | none => exact .inl rfl
  | some g => exact .inr fun e => by have h1 := (World.ownsRow.lt h g hq).1; have h2 := hne g e.symm; omega
set_option maxHeartbeats 2000000 in
theorem cells_ex (b len cap : Nat) (a : Option Addr) (n : Nat) (hn : n ≤ 1000) (w : World) (h : NumBox w b a len cap 0) :
    Calls Try.prog 11 #[.pointer (some ⟨b, 0, none⟩), .int .i64 (n : Int)] w fun e w' => ∃ r d, e = .returned r ∧ Owns w' w.heap.size r d ∧ d.length ≤ n ∧ w.grownBy w' (some b) := by
  have H : Hid _ := Lib.hid h
  have hbw : b < w.heap.size := h.1
  clear h
  go_enter Try.func11, Try.ntmps11
  go_wp2_with (go_at_call 37; (with_reducible refine (next_ex b len cap 0 a _ (by omega) (by omega) (by omega) w H.out).mono ?_); rintro e w1 ⟨k0, hk0, rfl, hB1, hG1⟩)
  go_loopw [5, 6] (fun v5 v6 wr => ∃ (k N' : Nat) (d : List Cl), v6 = .int .i64 (k : Int) ∧ d.length + k ≤ n ∧ N' ≤ 1 + 4 * d.length ∧ NumBox wr b a len cap N' ∧ Owns wr w.heap.size v5 d ∧ w.grownBy wr (some b)) (fun _ v6 _ => (intOf v6).toNat)
  case atStart => exact ⟨k0, 1, [], rfl, by simp; omega, by simp, hB1, Owns.nil _ _, hG1⟩
  case round =>
    obtain ⟨k, N', d, rfl, hdk, hN', hB, hO, hG⟩ := hrel
    have hsz := hG.size
    by_cases hlt : 0 < k
    · obtain ⟨j, rfl⟩ : ∃ j, k = j + 1 := ⟨k - 1, by omega⟩
      have hkz : (0 : Int) < (j : Int) + 1 := by omega
      go_wp2_with (first
        | (go_at_call 27; (with_reducible refine (word_ex b len cap N' a (by omega) wr hB).mono ?_); rintro e w2 ⟨y1, hy1, rfl, ⟨N1, hN1, hB2⟩, hG2⟩; have hO2 := hO.kept hG2 (fun g e => by injection e with e; omega))
        | (go_at_call 38; (with_reducible refine (byte_ex b len cap N1 a (by omega) w2 hB2).mono ?_); rintro e w3 ⟨y2, hy2, rfl, ⟨N2, hN2, hB3⟩, hG3⟩; have hO3 := hO2.kept hG3 (fun g e => by injection e with e; omega); have hs3 := hG3.size; have hs2 := hG2.size)
        | (at_builtin; refine wpList_app1 rfl _ _ rfl w.heap.size u5 d (y1 : Int) (y2 : Int) _ _ rfl rfl (by simp) hO3 (by omega) (by omega) ?_; intro v1 w4 hO4 hG4 _))
      have hO3' := hO3
      have hlow : ∀ g, u5.ownBlock = some g → w.heap.size ≤ g := fun g e => (World.ownsRow.lt hO3' g e).1
      go_roundw
      case rel => exact ⟨j, N2, d ++ [((y1 : Int), (y2 : Int))], by go_num, by simp; omega, by simp; omega, hB3.grown hG4 (fun g e => by have := hlow g e; omega), hO4, grown_trans2 ((hG.trans hG2).trans hG3) hG4 (fun g e => .inr (hlow g e))⟩
      case measure => simp [intOf] <;> omega
    · obtain rfl : k = 0 := by omega
      go_wp2_with fail
      go_ret
      exact ⟨_, d, rfl, hO, by omega, hG⟩
end Go.Proofs.Ytfddefoambakiaa
