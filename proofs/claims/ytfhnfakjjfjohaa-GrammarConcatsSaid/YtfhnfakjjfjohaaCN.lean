/- What makes inputs of processors: Next, Flag, Word, Byte, Flags, Regs, CPU, Lines: some values within their bounds; the numbers' box goes on, the world has only grown. Conditions: the numbers' list lies in blocks below the box. -/
import Derived.Test.YtfhnfakjjfjohaaCM
import Derived.Test.YtfhnfakjjfjohaaMW
import Derived.Test.YtfhnfakjjfjohaaS14
import Derived.Lib.Hide
namespace Go.Proofs.Ytfhnfakjjfjohaa
open Go.ChangeShapes Go.WideShapes Go.ChangeAt Go.RowKit
set_option linter.unusedVariables false
/-- The box of numbers in block b, N of them taken. -/
def Nb (w : World) (b : Nat) (a : Option Addr) (len cap : Nat) (N : Nat) : Prop :=
  w.heap[b]? = some (.cells #[.slice a len cap, .int .i64 (N : Int)] 61 (0, 0)) ∧ len ≤ cap ∧ len ≤ 4611686018427387904 ∧ ∀ i, i < len → ∃ bx ox z, a = some ⟨bx, ox, none⟩ ∧ bx < b ∧ w.cell? ⟨bx, ox + i, none⟩ = some (.int .i64 z)
/-- The box in block b says N now; all else has only grown. -/
def Up (w : World) (b N : Nat) (w' : World) : Prop := Adds (w.setCell ⟨b, 1, none⟩ (.int .i64 (N : Int))) w'
theorem Up.of {w w' : World} {b N : Nat} (h : Adds (w.setCell ⟨b, 1, none⟩ (.int .i64 (N : Int))) w') : Up w b N w' := h
theorem Nb.lt {w : World} {b : Nat} {a : Option Addr} {len cap N : Nat} (h : Nb w b a len cap N) : b < w.heap.size := (Array.getElem?_eq_some_iff.1 h.1).1
theorem Nb.of_heap {w w' : World} {b : Nat} {a : Option Addr} {len cap N : Nat} (h : Nb w b a len cap N) (hk : ∀ k, k ≤ b → w'.heap[k]? = w.heap[k]?) : Nb w' b a len cap N := by
  refine ⟨(hk b (Nat.le_refl _)).trans h.1, h.2.1, h.2.2.1, fun i hi => ?_⟩
  obtain ⟨bx, ox, z, h1, h2, h3⟩ := h.2.2.2 i hi
  exact ⟨bx, ox, z, h1, h2, by rw [← h3]; simp only [World.cell?, hk bx (by omega)]⟩
theorem Nb.more {w : World} {b : Nat} {a : Option Addr} {len cap N : Nat} (h : Nb w b a len cap N) (n : Nat) (os : Array Obj) : Nb (More w n os) b a len cap N :=
  h.of_heap fun k hk => More_heap w n os (by have := h.lt; omega)
theorem Nb.alloc {w : World} {b : Nat} {a : Option Addr} {len cap N : Nat} (h : Nb w b a len cap N) (o : Obj) : Nb (w.alloc o) b a len cap N :=
  h.of_heap fun k hk => heap_past w o (by have := h.lt; omega)
theorem Nb.drew {w : World} {b : Nat} {a : Option Addr} {len cap N : Nat} (h : Nb w b a len cap N) : Nb w.drew b a len cap N := h
theorem Nb.bump {w : World} {b : Nat} {a : Option Addr} {len cap N : Nat} (h : Nb w b a len cap N) (M : Nat) : Nb (w.setCell ⟨b, 1, none⟩ (.int .i64 (M : Int))) b a len cap M := by
  refine ⟨heap_setCell_same w b 1 _ _ _ h.1, h.2.1, h.2.2.1, fun i hi => ?_⟩
  obtain ⟨bx, ox, z, h1, h2, h3⟩ := h.2.2.2 i hi
  refine ⟨bx, ox, z, h1, h2, ?_⟩
  rw [← h3]
  simp only [World.cell?, heap_setCell_other w ⟨b, 1, none⟩ bx _ (show bx ≠ b by omega)]
theorem Nb.up {w w' : World} {b : Nat} {a : Option Addr} {len cap N M : Nat} (h : Nb w b a len cap N) (u : Up w b M w') : Nb w' b a len cap M := by
  obtain ⟨⟨n, os⟩, rfl⟩ := u
  exact (h.bump M).more n os
theorem setCell_twice (w : World) (b i : Nat) (v v' : Value) : (w.setCell ⟨b, i, none⟩ v).setCell ⟨b, i, none⟩ v' = w.setCell ⟨b, i, none⟩ v' := by
  simp only [World.setCell]
  congr 1
  apply Array.ext_getElem?
  intro k
  simp only [Array.getElem?_modify]
  by_cases hk : b = k
  · simp only [hk, if_true, Option.map_map]
    cases w.heap[k]? with
    | none => rfl
    | some o => cases o <;> simp [Function.comp]
  · simp [hk]
@[go_sem] theorem setCell_box (w : World) (b i : Nat) (v v' : Value) : (w.setCell ⟨b, i, none⟩ v).setCell ⟨b, i, none⟩ v' = w.setCell ⟨b, i, none⟩ v' := setCell_twice ..
theorem Up.then {w w1 w2 : World} {b N M : Nat} (h : Up w b N w1) (hb : b < w.heap.size) (k : Up w1 b M w2) : Up w b M w2 := by
  obtain ⟨⟨n, os⟩, rfl⟩ := h
  unfold Up at k ⊢
  rw [More_setCell _ _ _ _ _ _ _ (by rw [InB_setCell]; exact hb), setCell_twice] at k
  exact ((Adds.refl _).more n os).trans k
theorem Up.alloc {w w1 : World} {b N : Nat} (h : Up w b N w1) (o : Obj) : Up w b N (w1.alloc o) := Adds.alloc h o
theorem Up.pre {w w1 : World} {b N : Nat} {o : Obj} (h : Up (w.alloc o) b N w1) (hb : b < w.heap.size) : Up w b N w1 := by
  unfold Up at h ⊢
  rw [World.setCell_alloc_past o b 1 _ hb] at h
  exact ((Adds.refl _).alloc o).trans h
/-- What a box leaves: above its world nothing has changed. -/
theorem Up.adds {w w1 : World} {b N : Nat} (h : Up w b N w1) {w0 : World} (hb : w0.heap.size ≤ b) (k : Adds w0 w) : Adds w0 w1 := (k.setCell hb _).trans h
theorem Nb.of_row {w : World} {a : Option Addr} {len cap : Nat} {zs : List Int} (h : IsRow .i64 w a len cap zs) (hl : len ≤ 1000) : Nb (w.alloc (.cells #[.slice a len cap, .int .i64 0] 61)) w.heap.size a len cap 0 := by
  have hc : ∀ i, i < len → ∃ bx ox z, a = some ⟨bx, ox, none⟩ ∧ bx < w.heap.size ∧ w.cell? ⟨bx, ox + i, none⟩ = some (.int .i64 z) := by
    intro i hi
    rcases h with ⟨_, h0, _, _⟩ | ⟨x, rfl, h2, h3, h4, h5, h6⟩
    · omega
    · have hx := h5 i (by omega)
      obtain ⟨bx, ox, sp⟩ := x
      have hx0 := h5 0 (by omega)
      rw [show (⟨bx, ox, sp⟩ : Addr).add 0 = ⟨bx, ox, sp⟩ by simp [Addr.add]] at hx0
      obtain rfl : sp = none := cell_spot hx0
      have hadd : (⟨bx, ox, none⟩ : Addr).add i = ⟨bx, ox + i, none⟩ := by unfold Addr.add; split <;> simp_all
      rw [hadd] at hx
      exact ⟨bx, ox, _, rfl, cell_lt hx, hx⟩
  have hlc : len ≤ cap := by
    rcases h with ⟨_, h0, _, _⟩ | ⟨x, rfl, h2, _⟩
    · omega
    · exact h2
  refine ⟨heap_last w _, hlc, by omega, fun i hi => ?_⟩
  obtain ⟨bx, ox, z, h1, h2, h3⟩ := hc i hi
  exact ⟨bx, ox, z, h1, h2, by rw [World.cell?_alloc_lt w _ _ h2]; exact h3⟩
theorem Nb.from {w : World} {b : Nat} {a : Option Addr} {len cap : Nat} {zs : List Int} (hb : b = w.heap.size) (h : IsRow .i64 w a len cap zs) (hl : len ≤ 1000) : Nb (w.alloc (.cells #[.slice a len cap, .int .i64 0] 61)) b a len cap 0 := by
  subst hb; exact Nb.of_row h hl
/-- The same box, N numbers on. -/
theorem Nb.at {w : World} {b : Nat} {a : Option Addr} {len cap N : Nat} {zs : List Int} (hb : b = w.heap.size) (h : IsRow .i64 w a len cap zs) (hl : len ≤ 1000) : Nb (w.alloc (.cells #[.slice a len cap, .int .i64 (N : Int)] 61)) b a len cap N := by
  have k := Nb.from hb h hl
  refine ⟨?_, k.2.1, k.2.2.1, fun i hi => ?_⟩
  · subst hb; exact heap_last w _
  · obtain ⟨bx, ox, z, h1, h2, h3⟩ := k.2.2.2 i hi
    refine ⟨bx, ox, z, h1, h2, ?_⟩
    rw [World.cell?_alloc_lt w _ _ (show bx < w.heap.size by omega)] at h3 ⊢
    exact h3
theorem nx_one (b len cap N : Nat) (a : Option Addr) (n : Int) (n0 : 1 ≤ n) (n1 : n ≤ 65536) (hM : N ≤ 100000000) (w : World) (h : Nb w b a len cap N) :
    Calls Try.prog 15 #[.pointer (some ⟨b, 0, none⟩), .int .i64 n] w fun e w' => ∃ (y : Int) (M : Nat), 0 ≤ y ∧ y < n ∧ (N < M ∧ M ≤ N + 1) ∧ e = .returned (.int .i64 y) ∧ Up w b M w' := by
  have hB := h.lt
  obtain ⟨hh, hlc, hl62, hx⟩ := h
  have h0 : w.cell? ⟨b, 0, none⟩ = some (.slice a len cap) := by rw [cell_of_row w b 0 _ _ _ hh]; rfl
  have h1 : w.cell? ⟨b, 1, none⟩ = some (.int .i64 (N : Int)) := by rw [cell_of_row w b 1 _ _ _ hh]; rfl
  have hf : w.frozen? ⟨b, 1, none⟩ = false := frozen_of_row w b 1 _ _ hh
  by_cases hN : N < len
  · obtain ⟨bx, ox, z, rfl, hb, hz⟩ := hx N hN
    refine (next_some b bx ox len cap N z n n0 n1 hN (by omega) (by omega) hlc w hB hb h0 h1 hf hz).mono ?_
    rintro e w' ⟨rfl, p, rfl⟩
    obtain ⟨q0, q1⟩ := S.plc_bd z n n0
    exact ⟨S.plc z n, N + 1, q0, q1, ⟨by omega, by omega⟩, rfl, p, rfl⟩
  · refine (next_none b len cap N a n (by omega) (by omega) w hB h0 h1 hf).mono ?_
    rintro e w' ⟨rfl, p, rfl⟩
    exact ⟨0, N + 1, by omega, by omega, ⟨by omega, by omega⟩, rfl, p, rfl⟩
theorem nx_any (b len cap N : Nat) (a : Option Addr) (n : Int) (n0 : 1 ≤ n) (n1 : n ≤ 65536) (hM : N ≤ 100000000) (w : World) (h : Nb w b a len cap N) :
    Calls Try.prog 15 #[.pointer (some ⟨b, 0, none⟩), .int .i64 n] w fun e w' => ∃ (y : Int) (M : Nat), 0 ≤ y ∧ y < n ∧ M ≤ N + 1 ∧ e = .returned (.int .i64 y) ∧ Up w b M w' :=
  (nx_one b len cap N a n n0 n1 hM w h).mono fun e w' ⟨y, M, h0, h1, hm, he, hu⟩ => ⟨y, M, h0, h1, hm.2, he, hu⟩
theorem flg_any (b len cap N : Nat) (a : Option Addr) (hM : N ≤ 99999000) (w : World) (h : Nb w b a len cap N) :
    Calls Try.prog 22 #[.pointer (some ⟨b, 0, none⟩)] w fun e w' => ∃ (f : Bool) (M : Nat), M ≤ N + 1 ∧ e = .returned (.bool f) ∧ Up w b M w' := by
  have H : Hid _ := Lib.hid h
  clear h
  go_enter Try.func22, Try.ntmps22
  go_wp2_with (go_at_call 15; (with_reducible refine (nx_any b len cap N a 2 (by omega) (by omega) (by omega) w H.out).mono ?_); rintro e w1 ⟨y, M, hy0, hy1, hM1, rfl, hU⟩)
  go_ret
  exact ⟨_, M, hM1, rfl, hU⟩
theorem lt8 (y : Int) (h0 : 0 ≤ y) (h : y < 8) : ∃ (k : Nat) (o : Int), y = (k : Int) ∧ 0 ≤ o ∧ o < 65536 ∧ (#[.int .u16 0, .int .u16 1, .int .u16 65535, .int .u16 65534, .int .u16 32767, .int .u16 32768, .int .u16 255, .int .u16 256] : Array Value)[k]? = some (.int .u16 o) := by
  rcases (by omega : y = 0 ∨ y = 1 ∨ y = 2 ∨ y = 3 ∨ y = 4 ∨ y = 5 ∨ y = 6 ∨ y = 7) with rfl | rfl | rfl | rfl | rfl | rfl | rfl | rfl
  · exact ⟨0, 0, rfl, by omega, by omega, rfl⟩
  · exact ⟨1, 1, rfl, by omega, by omega, rfl⟩
  · exact ⟨2, 65535, rfl, by omega, by omega, rfl⟩
  · exact ⟨3, 65534, rfl, by omega, by omega, rfl⟩
  · exact ⟨4, 32767, rfl, by omega, by omega, rfl⟩
  · exact ⟨5, 32768, rfl, by omega, by omega, rfl⟩
  · exact ⟨6, 255, rfl, by omega, by omega, rfl⟩
  · exact ⟨7, 256, rfl, by omega, by omega, rfl⟩
set_option maxHeartbeats 1000000 in
theorem wrd_any (b len cap N : Nat) (a : Option Addr) (hM : N ≤ 99999000) (w : World) (h : Nb w b a len cap N) :
    Calls Try.prog 16 #[.pointer (some ⟨b, 0, none⟩)] w fun e w' => ∃ (y : Int) (M : Nat), 0 ≤ y ∧ y < 65536 ∧ M ≤ N + 2 ∧ e = .returned (.int .u16 y) ∧ Up w b M w' := by
  have hbw := h.lt
  have H : Hid _ := Lib.hid h
  clear h
  go_enter Try.func16, Try.ntmps16
  go_wp2_with (first
    | (go_at_call 15; (with_reducible refine (nx_any b len cap M1 a 8 (by omega) (by omega) (by omega) (w1.alloc (.cells #[.int .u16 0, .int .u16 1, .int .u16 65535, .int .u16 65534, .int .u16 32767, .int .u16 32768, .int .u16 255, .int .u16 256] 38)) ((H.out.up hU1.out).alloc _)).mono ?_); rintro e w2 ⟨y2, M2, hy20, hy21, hM2, rfl, hU2'⟩; obtain ⟨k, o, rfl, ho0, ho1, ho2⟩ := lt8 y2 hy20 hy21; have hb1 := (H.out.up hU1.out).lt; have hU2 := hU2'; obtain ⟨⟨n2, os2⟩, hw2⟩ := hU2'; have hc : w2.cell? ⟨w1.heap.size, k, none⟩ = some (.int .u16 o) := (by rw [hw2, More_cell _ _ _ _ _ _ (by rw [InB_setCell, InB_alloc]; exact .inl rfl), World.setCell_alloc_past _ _ _ _ hb1, cell_of_row _ _ _ _ _ (0, 0) (by have := heap_last (w1.setCell ⟨b, 1, none⟩ (.int .i64 (M2 : Int))) (.cells #[.int .u16 0, .int .u16 1, .int .u16 65535, .int .u16 65534, .int .u16 32767, .int .u16 32768, .int .u16 255, .int .u16 256] 38); simpa using this)]; exact ho2); clear hw2 ho2; have hk8 : (k : Int) < 8 := hy21)
    | (go_at_call 15; (with_reducible refine (nx_any b len cap M1 a 65536 (by omega) (by omega) (by omega) w1 (H.out.up hU1.out)).mono ?_); rintro e w2 ⟨y2, M2, hy20, hy21, hM2, rfl, hU2⟩; have hwr : IntKind.u16.wrap y2 = y2 := (by simp [IntKind.wrap, IntKind.bits, IntKind.signed]; omega); have hwr2 : y2 % 65536 = y2 := (by omega))
    | (go_at_call 15; (with_reducible refine (nx_any b len cap M1 a 64 (by omega) (by omega) (by omega) w1 (H.out.up hU1.out)).mono ?_); rintro e w2 ⟨y2, M2, hy20, hy21, hM2, rfl, hU2⟩; have hwr : IntKind.u16.wrap y2 = y2 := (by simp [IntKind.wrap, IntKind.bits, IntKind.signed]; omega); have hwr2 : y2 % 65536 = y2 := (by omega))
    | (go_at_call 15; (with_reducible refine (nx_any b len cap N a 5 (by omega) (by omega) (by omega) w H.out).mono ?_); rintro e w1 ⟨y1, M1, hy10, hy11, hM1, rfl, hU1'⟩; have hU1 := Lib.hid hU1'; clear hU1'))
  · go_ret
    exact ⟨o, M2, ho0, ho1, by omega, rfl, hU1.out.then hbw (hU2.pre hb1)⟩
  · go_ret
    exact ⟨y2, M2, hy20, hy21, by omega, rfl, hU1.out.then hbw hU2⟩
  · go_ret
    exact ⟨y2, M2, hy20, by omega, by omega, rfl, hU1.out.then hbw hU2⟩
theorem lt16 (y : Nat) (h : y < 16) : ∃ o : Nat, o < 256 ∧ (#[.int .u8 0, .int .u8 1, .int .u8 127, .int .u8 128, .int .u8 255, .int .u8 15, .int .u8 16, .int .u8 153, .int .u8 154, .int .u8 9, .int .u8 102, .int .u8 254, .int .u8 129, .int .u8 85, .int .u8 170, .int .u8 64] : Array Value)[y]? = some (.int .u8 (o : Int)) := by
  match y, h with
  | 0, _ => exact ⟨0, by omega, rfl⟩
  | 1, _ => exact ⟨1, by omega, rfl⟩
  | 2, _ => exact ⟨127, by omega, rfl⟩
  | 3, _ => exact ⟨128, by omega, rfl⟩
  | 4, _ => exact ⟨255, by omega, rfl⟩
  | 5, _ => exact ⟨15, by omega, rfl⟩
  | 6, _ => exact ⟨16, by omega, rfl⟩
  | 7, _ => exact ⟨153, by omega, rfl⟩
  | 8, _ => exact ⟨154, by omega, rfl⟩
  | 9, _ => exact ⟨9, by omega, rfl⟩
  | 10, _ => exact ⟨102, by omega, rfl⟩
  | 11, _ => exact ⟨254, by omega, rfl⟩
  | 12, _ => exact ⟨129, by omega, rfl⟩
  | 13, _ => exact ⟨85, by omega, rfl⟩
  | 14, _ => exact ⟨170, by omega, rfl⟩
  | 15, _ => exact ⟨64, by omega, rfl⟩
  | y + 16, h => exact absurd h (by omega)
set_option maxRecDepth 100000 in
set_option maxHeartbeats 1000000 in
theorem byt_any (b len cap N : Nat) (a : Option Addr) (hM : N ≤ 99999000) (w : World) (h : Nb w b a len cap N) :
    Calls Try.prog 17 #[.pointer (some ⟨b, 0, none⟩)] w fun e w' => ∃ (y : Int) (M : Nat), 0 ≤ y ∧ y < 256 ∧ M ≤ N + 2 ∧ e = .returned (.int .u8 y) ∧ Up w b M w' := by
  have H : Hid _ := Lib.hid h
  clear h
  go_enter Try.func17, Try.ntmps17
  go_wp2_with (go_at_call 15; (with_reducible refine (nx_any b len cap N a 512 (by omega) (by omega) (by omega) w H.out).mono ?_); rintro e w1 ⟨z1, M1, hz10, hz11, hM1, rfl, hU1⟩; obtain ⟨y1, rfl⟩ : ∃ k : Nat, z1 = (k : Int) := ⟨z1.toNat, by omega⟩; obtain ⟨q, hq⟩ : ∃ q, q = y1 % 16 := ⟨_, rfl⟩; obtain ⟨o, ho1, ho2⟩ := lt16 q (by omega); have hmod : (y1 : Int) % 16 = (q : Int) := (by omega); have hmod2 : (y1 : Int).tmod 16 = (q : Int) := (by rw [Int.tmod_eq_emod_of_nonneg (by omega)]; omega); have hq16 : (q : Int) < 16 := (by omega); have hc : (w1.alloc (.cells #[.int .u8 0, .int .u8 1, .int .u8 127, .int .u8 128, .int .u8 255, .int .u8 15, .int .u8 16, .int .u8 153, .int .u8 154, .int .u8 9, .int .u8 102, .int .u8 254, .int .u8 129, .int .u8 85, .int .u8 170, .int .u8 64] 5)).cell? ⟨w1.heap.size, q, none⟩ = some (.int .u8 (o : Int)) := (by rw [cell_of_row _ _ _ _ _ (0, 0) (heap_last w1 _)]; exact ho2); have HQ := Lib.hid hq; clear hq)
  · go_ret
    exact ⟨o, M1, by omega, by omega, by omega, rfl, hU1.alloc _⟩
  · go_ret
    exact ⟨y1 % 256, M1, by omega, by omega, by omega, ri (by omega), hU1⟩
end Go.Proofs.Ytfhnfakjjfjohaa
