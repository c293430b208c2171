/- The fixed example of stage 12. No condition. -/
import Derived.Test.YtfddefoambakiaaC12p
import Derived.Test.YtfddefoambakiaaC12k
import Derived.Test.YtfddefoambakiaaC12q
namespace Go.Proofs.Ytfddefoambakiaa
open Go.ChangeShapes Go.WideShapes Go.ChangeAt Go.RowKit
set_option linter.unusedVariables false
def Sm.ex12 : List Cl := [(0, 2), (65535, 1)]
theorem Sm.ex12_load : Sm.nrm (Sm.lod 65535 [1, 2]) = Sm.ex12 := by decide +kernel
theorem Sm.ex12_nrm : Sm.nrm Sm.ex12 = Sm.ex12 := by decide +kernel
theorem Sm.ex12_get1 : Sm.get Sm.ex12 65535 = 1 := by decide +kernel
theorem Sm.ex12_get0 : Sm.get Sm.ex12 0 = 2 := by decide +kernel
theorem Sm.ex12_put : Sm.put Sm.ex12 (0, 0) = [(65535, 1)] := by decide +kernel
theorem Sm.ex12_valid : Sm.valid Sm.ex12 = true := by decide +kernel
set_option maxHeartbeats 2000000 in
theorem known12 (w : World) : Calls Try.prog 10 #[] w fun e w' => e = .returned (.bool true) ∧ Adds w w' := by
  have hload : Hid (∀ cap, cap = 2 → Calls Try.prog 19 #[.int .u16 65535, .slice (some ⟨w.heap.size, 0, none⟩) 2 cap] (w.alloc (.cells #[.int .u8 1, .int .u8 2] 5)) fun e w' => ∃ r, e = .returned r ∧ Owns w' w.heap.size r Sm.ex12 ∧ Adds w w') := by
    show ∀ cap, _
    rintro cap rfl
    have hB : HeldB (w.alloc (.cells #[.int .u8 1, .int .u8 2] 5)) (some ⟨w.heap.size, 0, none⟩) 2 [1, 2] := ⟨rfl, fun _ => ⟨w.heap.size, 0, rfl, by simp, fun j v hj => by
      rw [cell_of_row _ _ _ _ _ (0, 0) (heap_alloc_new w _)]
      match j, hj with
      | 0, hj => simp at hj; subst hj; rfl
      | 1, hj => simp at hj; subst hj; rfl
      | j + 2, hj => simp at hj⟩⟩
    refine (load_of 20 normAt_few (by omega) (some ⟨w.heap.size, 0, none⟩) 2 2 [1, 2] 65535 _ hB (by omega) (by omega) (by omega) (by omega) (by omega)).mono ?_
    rintro e w' ⟨r, rfl, hO, hA⟩
    rw [Sm.ex12_load] at hO
    exact ⟨r, rfl, hO.mono (by simp), ((Adds.refl w).alloc _).trans hA⟩
  have hg1 : Hid (∀ (w1 : World) (a : Option Addr) (n c : Nat), Held w1 a n Sm.ex12 → Calls Try.prog 20 #[.slice a n c, .int .u16 65535] w1 fun e w' => e = .returned (.int .u8 1) ∧ Adds w1 w') := by
    show ∀ w1, _; intro w1 a n c h
    have := get_any a n c Sm.ex12 65535 w1 h; rwa [Sm.ex12_get1] at this
  have hg0 : Hid (∀ (w1 : World) (a : Option Addr) (n c : Nat), Held w1 a n Sm.ex12 → Calls Try.prog 20 #[.slice a n c, .int .u16 0] w1 fun e w' => e = .returned (.int .u8 2) ∧ Adds w1 w') := by
    show ∀ w1, _; intro w1 a n c h
    have := get_any a n c Sm.ex12 0 w1 h; rwa [Sm.ex12_get0] at this
  have hv : Hid (∀ (w1 : World) (a : Option Addr) (n c : Nat), Held w1 a n Sm.ex12 → Calls Try.prog 18 #[.slice a n c] w1 fun e w' => e = .returned (.bool true) ∧ Adds w1 w') := by
    show ∀ w1, _; intro w1 a n c h
    have := valid_any a n c Sm.ex12 w1 h; rwa [Sm.ex12_valid] at this
  have hp : Hid (∀ (w1 : World) (a : Option Addr) (n c : Nat), Held w1 a n Sm.ex12 → Calls Try.prog 16 #[.slice a n c, .int .u16 0, .int .u8 0] w1 fun e w' => ∃ a' c', e = .returned (.slice a' 1 c') ∧ Adds w1 w') := by
    show ∀ w1, _; intro w1 a n c h
    have hn : n = 2 := h.1.symm
    refine (put_of 20 normAt_few (by omega) a n c Sm.ex12 0 0 w1 h (by omega)).mono ?_
    rintro e w' ⟨r, rfl, hO, hA⟩
    rw [Sm.ex12_nrm, Sm.ex12_put] at hO
    obtain ⟨a', c', rfl, _⟩ := hO.form
    exact ⟨a', c', rfl, hA⟩
  go_enter Try.func10, Try.ntmps10
  go_wp2_with (first
    | (go_at_call 19; refine (hload.out _ rfl).mono ?_; rintro e w1 ⟨r, rfl, hO, hA1⟩; obtain ⟨a1, n1, c1, rfl, hn1, _, _, _⟩ := hO.form2; have HH := Lib.hid (hO.held (by have := hn1.out; rw [this]; have : n1 = 2 := hn1.out.symm; omega)))
    | (go_at_call 20; (with_reducible refine (hg1.out w1 a1 n1 c1 HH.out).mono ?_); rintro e w2 ⟨rfl, hA2⟩)
    | (go_at_call 20; (with_reducible refine (hg0.out w2 a1 n1 c1 (HH.out.adds hA2)).mono ?_); rintro e w3 ⟨rfl, hA3⟩)
    | (go_at_call 16; (with_reducible refine (hp.out w3 a1 n1 c1 ((HH.out.adds hA2).adds hA3)).mono ?_); rintro e w4 ⟨a4, c4, rfl, hA4⟩)
    | (go_at_call 18; (with_reducible refine (hv.out w4 a1 n1 c1 (((HH.out.adds hA2).adds hA3).adds hA4)).mono ?_); rintro e w5 ⟨rfl, hA5⟩))
  go_ret
  exact ⟨rfl, (((hA1.trans hA2).trans hA3).trans hA4).trans hA5⟩
end Go.Proofs.Ytfddefoambakiaa
