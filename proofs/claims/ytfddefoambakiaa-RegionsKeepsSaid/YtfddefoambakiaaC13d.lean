/- What makes inputs: Regions, Cells, Word, Flag, Next from any number of the box on. Conditions: the numbers' list lies in other blocks than the box. -/
import Derived.Test.YtfddefoambakiaaS13
import Derived.Test.YtfddefoambakiaaC12q
import Derived.Test.YtfddefoambakiaaC12s
import Derived.Deep.Cut
namespace Go.Proofs.Ytfddefoambakiaa
open Go.ChangeShapes Go.WideShapes Go.ChangeAt Go.RowKit
set_option linter.unusedVariables false
theorem flag_ex (b len cap N : Nat) (a : Option Addr) (hM : N ≤ 99999000) (w : World) (h : NumBox w b a len cap N) :
    Calls Try.prog 36 #[.pointer (some ⟨b, 0, none⟩)] w fun e w' => ∃ f : Bool, e = .returned (.bool f) ∧ NumBox w' b a len cap (N + 1) ∧ w.grownBy w' (some b) := by
  have H : Hid _ := Lib.hid h
  clear h
  go_enter Try.func36, Try.ntmps36
  go_wp2_with (go_at_call 37; (with_reducible refine (next_ex b len cap N a 2 (by omega) (by omega) (by omega) w H.out).mono ?_); rintro e w1 ⟨y, hy, rfl, hB, hG⟩)
  go_ret
  exact ⟨_, rfl, hB, hG⟩
set_option maxHeartbeats 2000000 in
theorem cells_from (b len cap N : Nat) (a : Option Addr) (n : Nat) (hn : n ≤ 1000) (hN : N ≤ 1000000) (w : World) (h : NumBox w b a len cap N) :
    Calls Try.prog 11 #[.pointer (some ⟨b, 0, none⟩), .int .i64 (n : Int)] w fun e w' => ∃ r d N', e = .returned r ∧ Owns w' w.heap.size r d ∧ d.length ≤ n ∧ N' ≤ N + 1 + 4 * n ∧ NumBox w' b a len cap N' ∧ w.grownBy w' (some b) := by
  have H : Hid _ := Lib.hid h
  have hbw : b < w.heap.size := h.1
  clear h
  go_enter Try.func11, Try.ntmps11
  go_wp2_with (go_at_call 37; (with_reducible refine (next_ex b len cap N a _ (by omega) (by omega) (by omega) w H.out).mono ?_); rintro e w1 ⟨k0, hk0, rfl, hB1, hG1⟩)
  go_loopw [5, 6] (fun v5 v6 wr => ∃ (k N' : Nat) (d : List Cl), v6 = .int .i64 (k : Int) ∧ d.length + k ≤ n ∧ N' ≤ N + 1 + 4 * d.length ∧ NumBox wr b a len cap N' ∧ Owns wr w.heap.size v5 d ∧ w.grownBy wr (some b)) (fun _ v6 _ => (intOf v6).toNat)
  case atStart => exact ⟨k0, N + 1, [], rfl, by simp; omega, by simp, hB1, Owns.nil _ _, hG1⟩
  case round =>
    obtain ⟨k, N', d, rfl, hdk, hN', hB, hO, hG⟩ := hrel
    have hsz := hG.size
    by_cases hlt : 0 < k
    · obtain ⟨j, rfl⟩ : ∃ j, k = j + 1 := ⟨k - 1, by omega⟩
      have hkz : (0 : Int) < (j : Int) + 1 := by omega
      go_wp2_with (first
        | (go_at_call 27; (with_reducible refine (word_ex b len cap N' a (by omega) wr hB).mono ?_); rintro e w2 ⟨y1, hy1, rfl, ⟨N1, hN1, hB2⟩, hG2⟩; have hO2 := hO.kept hG2 (fun g e => by injection e with e; omega))
        | (go_at_call 38; (with_reducible refine (byte_ex b len cap N1 a (by omega) w2 hB2).mono ?_); rintro e w3 ⟨y2, hy2, rfl, ⟨N2, hN2, hB3⟩, hG3⟩; have hO3 := hO2.kept hG3 (fun g e => by injection e with e; omega); have hs3 := hG3.size; have hs2 := hG2.size)
        | (at_builtin; refine wpList_app1 rfl _ _ rfl w.heap.size u5 d (y1 : Int) (y2 : Int) _ _ rfl rfl (by simp) hO3 (by omega) (by omega) ?_; intro v1 w4 hO4 hG4 _))
      have hO3' := hO3
      have hlow : ∀ g, u5.ownBlock = some g → w.heap.size ≤ g := fun g e => (World.ownsRow.lt hO3' g e).1
      go_roundw
      case rel => exact ⟨j, N2, d ++ [((y1 : Int), (y2 : Int))], by go_num, by simp; omega, by simp; omega, hB3.grown hG4 (fun g e => by have := hlow g e; omega), hO4, grown_trans2 ((hG.trans hG2).trans hG3) hG4 (fun g e => .inr (hlow g e))⟩
      case measure => simp [intOf] <;> omega
    · obtain rfl : k = 0 := by omega
      go_wp2_with fail
      go_ret
      exact ⟨_, d, N', rfl, hO, by omega, by omega, hB, hG⟩
theorem litR6 (y : Nat) (h : (y : Int) < 6) : ∃ o : Nat, o < 65536 ∧ (#[.int .i64 0, .int .i64 3, .int .i64 15, .int .i64 255, .int .i64 4095, .int .i64 65535] : Array Value)[y]? = some (.int .i64 (o : Int)) := by
  have h' : y < 6 := by omega
  match y, h' with
  | 0, _ => exact ⟨0, by omega, rfl⟩
  | 1, _ => exact ⟨3, by omega, rfl⟩
  | 2, _ => exact ⟨15, by omega, rfl⟩
  | 3, _ => exact ⟨255, by omega, rfl⟩
  | 4, _ => exact ⟨4095, by omega, rfl⟩
  | 5, _ => exact ⟨65535, by omega, rfl⟩
theorem litR5 (y : Nat) (h : (y : Int) < 5) : ∃ o : Nat, o < 65536 ∧ (#[.int .i64 0, .int .i64 0, .int .i64 1, .int .i64 2, .int .i64 5] : Array Value)[y]? = some (.int .i64 (o : Int)) := by
  have h' : y < 5 := by omega
  match y, h' with
  | 0, _ => exact ⟨0, by omega, rfl⟩
  | 1, _ => exact ⟨0, by omega, rfl⟩
  | 2, _ => exact ⟨1, by omega, rfl⟩
  | 3, _ => exact ⟨2, by omega, rfl⟩
  | 4, _ => exact ⟨5, by omega, rfl⟩
set_option maxRecDepth 100000 in
set_option maxHeartbeats 4000000 in
theorem regs_from (b len cap N : Nat) (a : Option Addr) (n : Nat) (hn : n ≤ 1000) (hN : N ≤ 1000000) (w : World) (h : NumBox w b a len cap N) :
    Calls Try.prog 23 #[.pointer (some ⟨b, 0, none⟩), .int .i64 (n : Int)] w fun e w' => ∃ r d N', e = .returned r ∧ OwnsR w' w.heap.size r d ∧ d.length ≤ n ∧ N' ≤ N + 1 + 5 * n ∧ NumBox w' b a len cap N' ∧ w.grownBy w' (some b) := by
  have H : Hid _ := Lib.hid h
  have hbw : b < w.heap.size := h.1
  clear h
  go_enter Try.func23, Try.ntmps23
  go_wp2_with (go_at_call 37; (with_reducible refine (next_ex b len cap N a _ (by omega) (by omega) (by omega) w H.out).mono ?_); rintro e w1 ⟨k0, hk0, rfl, hB1, hG1⟩)
  go_loopw [5, 6] (fun v5 v6 wr => ∃ (k N' : Nat) (d : List Rg), v6 = .int .i64 (k : Int) ∧ d.length + k ≤ n ∧ N' ≤ N + 1 + 5 * d.length ∧ NumBox wr b a len cap N' ∧ OwnsR wr w.heap.size v5 d ∧ w.grownBy wr (some b)) (fun _ v6 _ => (intOf v6).toNat)
  case atStart => exact ⟨k0, N + 1, [], rfl, by simp; omega, by simp, hB1, OwnsR.nil _ _, hG1⟩
  case round =>
    obtain ⟨k, N', d, rfl, hdk, hN', hB, hO, hG⟩ := hrel
    have hsz := hG.size
    by_cases hlt : 0 < k
    · obtain ⟨j, rfl⟩ : ∃ j, k = j + 1 := ⟨k - 1, by omega⟩
      have hkz : (0 : Int) < (j : Int) + 1 := by omega
      have HG := Lib.hid hG
      have HO := Lib.hid hO
      have HB := Lib.hid hB
      clear hO hG hB
      go_upto_region 7 with (first
        | (go_at_call 27; (with_reducible refine (word_ex b len cap N' a (by omega) wr HB.out).mono ?_); rintro e w2 ⟨y1, hy1, rfl, ⟨N1, hN1, hB2⟩, hG2⟩)
        | (go_at_call 37; (with_reducible refine (next_ex b len cap N1 a 6 (by omega) (by omega) (by omega) (w2.alloc (.cells #[.int .i64 0, .int .i64 3, .int .i64 15, .int .i64 255, .int .i64 4095, .int .i64 65535] 3)) (hB2.grown (World.grownBy_alloc _ _ none) (fun _ h => by cases h))).mono ?_); rintro e w3 ⟨y2, hy2, rfl, hB3, hG3⟩; obtain ⟨o, ho1, ho2⟩ := litR6 y2 hy2; have hc : w3.cell? ⟨w2.heap.size, y2, none⟩ = some (.int .i64 (o : Int)) := (hG3.cell (a := ⟨w2.heap.size, y2, none⟩) (by rw [cell_of_row _ _ _ _ _ (0, 0) (heap_alloc_new w2 _)]; exact ho2) (fun e => by injection e with e; have e : w2.heap.size = b := e; have := hB2.1; omega)); have hy1z : (y1 : Int) < 65536 := (by omega); have hoz : (o : Int) < 65536 := (by omega)))
      clear hc ho2 hy2 hkz
      obtain ⟨t, ht⟩ : ∃ t, t = y1 + o := ⟨_, rfl⟩
      have t1 : (y1 : Int) + (o : Int) = (t : Int) := by omega
      have t2 : t < 131072 := by omega
      clear ht hy1z hoz hy1 ho1
      go_wp2_with (first
        | (go_at_call 37; (with_reducible refine (next_ex b len cap (N1 + 1) a 3 (by omega) (by omega) (by omega) w3 hB3).mono ?_); rintro e w4 ⟨y3, hy3, rfl, hB4, hG4⟩)
        | (go_at_call 37; (with_reducible refine (next_ex b len cap (N1 + 1 + 1) a 5 (by omega) (by omega) (by omega) (w4.alloc (.cells #[.int .i64 0, .int .i64 0, .int .i64 1, .int .i64 2, .int .i64 5] 3)) (hB4.grown (World.grownBy_alloc _ _ none) (fun _ h => by cases h))).mono ?_); rintro e w5 ⟨y4, hy4, rfl, hB5, hG5⟩; obtain ⟨q, hq1, hq2⟩ := litR5 y4 hy4; have hcq : w5.cell? ⟨w4.heap.size, y4, none⟩ = some (.int .i64 (q : Int)) := (hG5.cell (a := ⟨w4.heap.size, y4, none⟩) (by rw [cell_of_row _ _ _ _ _ (0, 0) (heap_alloc_new w4 _)]; exact hq2) (fun e => by injection e with e; have e : w4.heap.size = b := e; have := hB4.1; omega)); have HO5 := Lib.hid ((((((HO.out.kept hG2 (fun g e => by injection e with e; omega)).alloc (.cells #[.int .i64 0, .int .i64 3, .int .i64 15, .int .i64 255, .int .i64 4095, .int .i64 65535] 3)).kept hG3 (fun g e => by injection e with e; omega)).kept hG4 (fun g e => by injection e with e; omega)).alloc (.cells #[.int .i64 0, .int .i64 0, .int .i64 1, .int .i64 2, .int .i64 5] 3)).kept hG5 (fun g e => by injection e with e; omega)); have HG5 := Lib.hid ((((HG.out.trans hG2).trans ((World.grownBy_alloc _ _ _).trans hG3)).trans hG4).trans ((World.grownBy_alloc _ _ _).trans hG5)); have hs5 := HG5.out.size)
        | (at_builtin; refine wpList_appR rfl _ _ rfl w.heap.size u5 d rfl (HO5.out.alloc _) _ 1 1 _ rfl (HeldR.one w5 _ ⟨_, _, _, _⟩) (fun e => by cases e) (by omega) (by simp; omega) ?_; intro v1 w6 hO6 hG6))
      all_goals
        have hO5' := HO5.out
        have hlow : ∀ g, u5.ownBlock = some g → w.heap.size ≤ g := fun g e => (World.ownsRow.lt hO5' g e).1
        go_roundw
        case rel => exact ⟨j, N1 + 1 + 1 + 1, d ++ [⟨_, _, _, _⟩], by go_num, by simp; omega, by simp; omega, (hB5.grown (World.grownBy_alloc _ _ none) (fun _ h => by cases h)).grown hG6 (fun g e => by have := hlow g e; omega), hO6, grown_trans2 (HG5.out.trans (World.grownBy_alloc _ _ _)) hG6 (fun g e => .inr (hlow g e))⟩
        case measure => simp [intOf] <;> omega
    · obtain rfl : k = 0 := by omega
      go_wp2_with fail
      go_ret
      exact ⟨_, d, N', rfl, hO, by omega, by omega, hB, hG⟩
end Go.Proofs.Ytfddefoambakiaa
