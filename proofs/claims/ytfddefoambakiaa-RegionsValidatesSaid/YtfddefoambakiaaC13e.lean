/- The inputs' makers in the form that the laws of stage 13 take, and its fixed example. Conditions: a list's numbers are at most 100. -/
import Derived.Test.YtfddefoambakiaaC13c
import Derived.Test.YtfddefoambakiaaC13d
namespace Go.Proofs.Ytfddefoambakiaa
open Go.ChangeShapes Go.WideShapes Go.ChangeAt Go.RowKit
set_option linter.unusedVariables false
/-- The box of numbers that was laid in world w0, N of them taken, in a world that has only grown. -/
def Bx (w0 w : World) (a : Option Addr) (len cap N : Nat) : Prop := NumBox w w0.heap.size a len cap N ∧ Adds w0 w
theorem bx_step {w0 w w' : World} {a : Option Addr} {len cap N N' : Nat} (h : Bx w0 w a len cap N) (hB : NumBox w' w0.heap.size a len cap N') (hG : w.grownBy w' (some w0.heap.size)) : Bx w0 w' a len cap N' :=
  ⟨hB, h.2.of_grown hG (Nat.le_refl _)⟩
theorem bx_size {w0 w : World} {a : Option Addr} {len cap N : Nat} (h : Bx w0 w a len cap N) : w0.heap.size + 1 ≤ w.heap.size := h.1.1
theorem bx_from {w : World} {a : Option Addr} {len cap : Nat} {zs : List Int} (h : IsRow .i64 w a len cap zs) (hl : len ≤ 100) : Bx w (w.alloc (.cells #[.slice a len cap, .int .i64 0] 61)) a len cap 0 := ⟨numbox_of h hl, (Adds.refl w).alloc _⟩
theorem bx_own {w0 w w' : World} {v : Value} {d : List Cl} (h : Owns w (w0.heap.size + 1) v d) (hG : w.grownBy w' (some w0.heap.size)) : Owns w' (w0.heap.size + 1) v d := h.kept hG (fun g e => by injection e with e; omega)
theorem bx_ownR {w0 w w' : World} {v : Value} {d : List Rg} (h : OwnsR w (w0.heap.size + 1) v d) (hG : w.grownBy w' (some w0.heap.size)) : OwnsR w' (w0.heap.size + 1) v d := h.kept hG (fun g e => by injection e with e; omega)
theorem regs_bx (w0 w : World) (a : Option Addr) (len cap N : Nat) (n : Int) (k : Nat) (hk : n = (k : Int)) (hn : k ≤ 100) (hN : N ≤ 100000) (h : Bx w0 w a len cap N) :
    Calls Try.prog 23 #[.pointer (some ⟨w0.heap.size, 0, none⟩), .int .i64 n] w fun e w' => ∃ ad m c d N', e = .returned (.slice ad m c) ∧ Hid (OwnsR w' (w0.heap.size + 1) (.slice ad m c) d) ∧ Hid (d.length = m) ∧ m ≤ k ∧ m ≤ c ∧ Hid (ad = none → m = 0 ∧ c = 0) ∧ N' ≤ N + 1 + 5 * k ∧ Hid (Bx w0 w' a len cap N') ∧ Hid (w.grownBy w' (some w0.heap.size)) := by
  subst hk
  have hs := bx_size h
  refine (regs_from w0.heap.size len cap N a k (by omega) (by omega) w h.1).mono ?_
  rintro e w' ⟨r, d, N', rfl, hO, hd, hN', hB, hG⟩
  obtain ⟨ad, m, c, rfl, hm, h1, h2, h3, h4⟩ := hO.form2
  have hm' := hm.out
  exact ⟨ad, m, c, d, N', rfl, hO.mono hs, hm, by omega, h1, h4, hN', bx_step h hB hG, hG⟩
theorem cells_bx (w0 w : World) (a : Option Addr) (len cap N : Nat) (n : Int) (k : Nat) (hk : n = (k : Int)) (hn : k ≤ 100) (hN : N ≤ 100000) (h : Bx w0 w a len cap N) :
    Calls Try.prog 11 #[.pointer (some ⟨w0.heap.size, 0, none⟩), .int .i64 n] w fun e w' => ∃ ad m c d N', e = .returned (.slice ad m c) ∧ Hid (Owns w' (w0.heap.size + 1) (.slice ad m c) d) ∧ Hid (d.length = m) ∧ m ≤ k ∧ m ≤ c ∧ N' ≤ N + 1 + 4 * k ∧ Hid (Bx w0 w' a len cap N') ∧ Hid (w.grownBy w' (some w0.heap.size)) := by
  subst hk
  have hs := bx_size h
  refine (cells_from w0.heap.size len cap N a k (by omega) (by omega) w h.1).mono ?_
  rintro e w' ⟨r, d, N', rfl, hO, hd, hN', hB, hG⟩
  obtain ⟨ad, m, c, rfl, hm, h1, h2, h3⟩ := hO.form2
  have hm' := hm.out
  exact ⟨ad, m, c, d, N', rfl, hO.mono hs, hm, by omega, h1, hN', bx_step h hB hG, hG⟩
theorem word_bx (w0 w : World) (a : Option Addr) (len cap N : Nat) (hN : N ≤ 100000) (h : Bx w0 w a len cap N) :
    Calls Try.prog 27 #[.pointer (some ⟨w0.heap.size, 0, none⟩)] w fun e w' => ∃ (y : Int) (N' : Nat), 0 ≤ y ∧ y < 65536 ∧ e = .returned (.int .u16 y) ∧ N' ≤ N + 2 ∧ Hid (Bx w0 w' a len cap N') ∧ Hid (w.grownBy w' (some w0.heap.size)) := by
  refine (word_ex w0.heap.size len cap N a (by omega) w h.1).mono ?_
  rintro e w' ⟨y, hy, rfl, ⟨N', hN', hB⟩, hG⟩
  exact ⟨y, N', by omega, by omega, rfl, hN', bx_step h hB hG, hG⟩
theorem flag_bx (w0 w : World) (a : Option Addr) (len cap N : Nat) (hN : N ≤ 100000) (h : Bx w0 w a len cap N) :
    Calls Try.prog 36 #[.pointer (some ⟨w0.heap.size, 0, none⟩)] w fun e w' => ∃ (f : Bool) (N' : Nat), e = .returned (.bool f) ∧ N' ≤ N + 2 ∧ Hid (Bx w0 w' a len cap N') ∧ Hid (w.grownBy w' (some w0.heap.size)) := by
  refine (flag_ex w0.heap.size len cap N a (by omega) w h.1).mono ?_
  rintro e w' ⟨f, rfl, hB, hG⟩
  exact ⟨f, N + 1, rfl, by omega, bx_step h hB hG, hG⟩
theorem next_bx (w0 w : World) (a : Option Addr) (len cap N : Nat) (n : Int) (n0 : 1 ≤ n) (n1 : n ≤ 65536) (hN : N ≤ 100000) (h : Bx w0 w a len cap N) :
    Calls Try.prog 37 #[.pointer (some ⟨w0.heap.size, 0, none⟩), .int .i64 n] w fun e w' => ∃ (y : Int) (N' : Nat), 0 ≤ y ∧ y < n ∧ e = .returned (.int .i64 y) ∧ N' ≤ N + 2 ∧ Hid (Bx w0 w' a len cap N') ∧ Hid (w.grownBy w' (some w0.heap.size)) := by
  refine (next_ex w0.heap.size len cap N a n n0 n1 (by omega) w h.1).mono ?_
  rintro e w' ⟨y, hy, rfl, hB, hG⟩
  exact ⟨y, N + 1, by omega, hy, rfl, by omega, bx_step h hB hG, hG⟩
def Sm.ex13 : List Rg := [⟨0, 4095, false, 0⟩, ⟨4096, 8191, true, 2⟩]
theorem Sm.ex13_w1 : Sm.wrt Sm.ex13 [] 4096 7 = [(4096, 7)] := by decide +kernel
theorem Sm.ex13_w2 : Sm.wrt Sm.ex13 [] 0 7 = [] := by decide +kernel
theorem Sm.ex13_r1 : Sm.rd Sm.ex13 [(4096, 7)] 4096 = 7 := by decide +kernel
theorem Sm.ex13_r2 : Sm.rd Sm.ex13 [(4096, 7)] 8192 = 255 := by decide +kernel
theorem Sm.ex13_v : Sm.wts Sm.ex13 8191 = 2 := by decide +kernel
set_option maxHeartbeats 1000000 in
theorem known13 (w : World) : Calls Try.prog 22 #[] w fun e w' => e = .returned (.bool true) ∧ Adds w w' := by
  have HR : Hid (HeldR (w.alloc (.cells #[.int .u16 0, .int .u16 4095, .bool false, .int .i64 0, .int .u16 4096, .int .u16 8191, .bool true, .int .i64 2] 41)) (some ⟨w.heap.size, 0, none⟩) 2 Sm.ex13) := by
    refine ⟨rfl, by omega, fun _ => ⟨w.heap.size, 0, rfl, by simp, fun j r hj => ?_⟩⟩
    rw [cell_of_row _ _ _ _ _ (0, 0) (heap_alloc_new w _), cell_of_row _ _ _ _ _ (0, 0) (heap_alloc_new w _), cell_of_row _ _ _ _ _ (0, 0) (heap_alloc_new w _), cell_of_row _ _ _ _ _ (0, 0) (heap_alloc_new w _)]
    match j, hj with
    | 0, hj => simp [Sm.ex13] at hj; subst hj; exact ⟨rfl, rfl, rfl, rfl⟩
    | 1, hj => simp [Sm.ex13] at hj; subst hj; exact ⟨rfl, rfl, rfl, rfl⟩
    | j + 2, hj => simp [Sm.ex13] at hj
  have HA := Lib.hid ((Adds.refl w).alloc (.cells #[.int .u16 0, .int .u16 4095, .bool false, .int .i64 0, .int .u16 4096, .int .u16 8191, .bool true, .int .i64 2] 41))
  go_enter Try.func22, Try.ntmps22
  go_wp2_with (first
    | (go_at_call 34; (with_reducible refine (rgwrite_any _ none 2 2 0 0 Sm.ex13 [] 4096 7 _ HR.out (Held.nil _ _) (by omega)).mono ?_); rintro e w2 ⟨ad, n, c, rfl, H2, hn2, hc2, A2⟩; rw [Sm.ex13_w1] at H2)
    | (go_at_call 34; (with_reducible refine (rgwrite_any _ none 2 2 0 0 Sm.ex13 [] 0 7 w2 (HR.out.adds A2) (Held.nil _ _) (by omega)).mono ?_); rintro e w3 ⟨ad3, n3, c3, rfl, H3, hn3, hc3, A3⟩; rw [Sm.ex13_w2] at H3; obtain rfl : n3 = 0 := H3.out.1.symm)
    | (go_at_call 30; (with_reducible refine (rgread_any _ _ 2 2 n c Sm.ex13 _ 4096 w3 ((HR.out.adds A2).adds A3) (H2.out.adds A3)).mono ?_); rintro e w4 ⟨rfl, A4⟩; rw [Sm.ex13_r1])
    | (go_at_call 30; (with_reducible refine (rgread_any _ _ 2 2 n c Sm.ex13 _ 8192 w4 (((HR.out.adds A2).adds A3).adds A4) ((H2.out.adds A3).adds A4)).mono ?_); rintro e w5 ⟨rfl, A5⟩; rw [Sm.ex13_r2])
    | (go_at_call 32; (with_reducible refine (rgwaits_any _ 2 2 Sm.ex13 8191 w5 ((((HR.out.adds A2).adds A3).adds A4).adds A5)).mono ?_); rintro e w6 ⟨rfl, A6⟩; rw [Sm.ex13_v]))
  go_ret
  exact ⟨rfl, ((((HA.out.trans A2).trans A3).trans A4).trans A5).trans A6⟩
end Go.Proofs.Ytfddefoambakiaa
