/- Contract of chapter 24's fixed example: it holds. No condition. -/
import Derived.Test.YtjjcahdieldmcaaC24d
namespace Go.Proofs.Ytjjcahdieldmcaa
open Go.ChangeShapes Go.WideShapes Go.ChangeAt Go.RowKit
set_option linter.unusedVariables false
def S.ex24 : List Int := [0, 0, 0, 165, 2, 1, 9, 175, 1, 0, 0, 0, 7]
theorem S.ex24_len : (S.dec S.ex24).length = 3 := by rw [S.dec_len]; rfl
theorem S.ex24_0 : (S.dec S.ex24)[0]? = some S.idle := by
  have h : S.el S.ex24 0 = S.idle := by kernel_rfl
  unfold S.dec
  rw [List.getElem?_map, List.getElem?_range (by decide), Option.map_some, h]
theorem S.ex24_1 : (S.dec S.ex24)[1]? = some ⟨true, true, false, false, false, false, false, false, 1, 9⟩ := by
  have h : S.el S.ex24 1 = ⟨true, true, false, false, false, false, false, false, 1, 9⟩ := by kernel_rfl
  unfold S.dec
  rw [List.getElem?_map, List.getElem?_range (by decide), Option.map_some, h]
theorem S.ex24_2 : (S.dec S.ex24)[2]? = some S.idle := by
  have h : S.el S.ex24 2 = S.idle := by kernel_rfl
  unfold S.dec
  rw [List.getElem?_map, List.getElem?_range (by decide), Option.map_some, h]
theorem idle_lit (w : World) : Calls Try.prog 14 #[] w fun e w' => e = .returned (.agg #[.bool true, .bool false, .bool false, .bool false, .bool false, .bool false, .bool false, .bool false, .int .u8 0, .int .u8 0]) ∧ Adds w w' := idle_any w
set_option maxHeartbeats 1000000 in
theorem known24 (w : World) : Calls Try.prog 8 #[] w fun e w' => e = .returned (.bool true) ∧ Adds w w' := by
  have HH : Hid (HeldB (w.alloc (.cells #[.int .u8 0, .int .u8 0, .int .u8 0, .int .u8 165, .int .u8 2, .int .u8 1, .int .u8 9, .int .u8 175, .int .u8 1, .int .u8 0, .int .u8 0, .int .u8 0, .int .u8 7] 5)) (some ⟨w.heap.size, 0, none⟩) 13 S.ex24) := by
    refine ⟨rfl, by omega, fun _ => ⟨w.heap.size, 0, rfl, by simp, fun j u hu => ?_⟩⟩
    rw [Nat.zero_add, cell_of_row _ _ _ _ _ (0, 0) (heap_last w _)]
    simpa [S.ex24, FlB] using hu
  have HA := Lib.hid ((Adds.refl w).alloc (.cells #[.int .u8 0, .int .u8 0, .int .u8 0, .int .u8 165, .int .u8 2, .int .u8 1, .int .u8 9, .int .u8 175, .int .u8 1, .int .u8 0, .int .u8 0, .int .u8 0, .int .u8 7] 5))
  go_enter Try.func8, Try.ntmps8
  go_wp2_with (go_at_call 12; (with_reducible refine (dec_any _ 13 13 S.ex24 _ HH.out (by omega) (by omega) (by omega)).mono ?_); rintro e w2 ⟨r, rfl, hO, hA⟩; obtain ⟨ad, n, c, rfl, hn, -, -, -, -⟩ := hO.form2; obtain rfl : n = 3 := (by have := hn.out; rw [S.ex24_len] at this; exact this.symm); obtain ⟨g, rfl, hg1, hg2⟩ := hO.head (by decide); have l0 : ∀ n os, (wholeVar 32 ⟨g, 0, none⟩).run Try.prog (More w2 n os) = .ok (.agg #[.bool true, .bool false, .bool false, .bool false, .bool false, .bool false, .bool false, .bool false, .int .u8 0, .int .u8 0]) (More w2 n os) := AtI.loadM hO.at_ hg2 S.ex24_0 0 (by omega); have l1 : ∀ n os, (wholeVar 32 ⟨g, 10, none⟩).run Try.prog (More w2 n os) = .ok (.agg #[.bool true, .bool true, .bool false, .bool false, .bool false, .bool false, .bool false, .bool false, .int .u8 1, .int .u8 9]) (More w2 n os) := AtI.loadM hO.at_ hg2 S.ex24_1 10 (by omega); have l2 : ∀ n os, (wholeVar 32 ⟨g, 20, none⟩).run Try.prog (More w2 n os) = .ok (.agg #[.bool true, .bool false, .bool false, .bool false, .bool false, .bool false, .bool false, .bool false, .int .u8 0, .int .u8 0]) (More w2 n os) := AtI.loadM hO.at_ hg2 S.ex24_2 20 (by omega); have HA2 := Lib.hid (HA.out.trans hA); clear hO hA hn)
  refine wp_region_adds (by kernel_rfl) (by kernel_rfl) ?_
  repeat (go_big_quiet_step ((go_at_call 14; exact calls_adds (idle_lit _))))
  refine wpQuiet_nil ?_
  intro _ hw1
  obtain ⟨⟨nq, osq⟩, hw2⟩ := hw1
  subst hw2
  go_wp2_with fail
  go_ret
  exact ⟨rfl, HA2.out.trans (by (repeat (first | with_reducible exact Adds.refl _ | with_reducible apply Adds.drew | with_reducible apply Adds.drewN | with_reducible apply Adds.alloc | with_reducible apply Adds.more | (with_reducible refine Adds.setCell ?_ ?_ _) | (focus (simp [go_sem]; done)) | (focus (simp [go_sem]; omega)))))⟩
end Go.Proofs.Ytjjcahdieldmcaa
