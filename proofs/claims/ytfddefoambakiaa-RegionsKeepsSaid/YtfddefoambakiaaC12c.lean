/- The reference's put: a cell into a memory, and what is built on it. Conditions: the slice holds the cells of a list of at most 2^24 cells. -/
import Derived.Test.YtfddefoambakiaaC12b
import Derived.Test.YtfddefoambakiaaC12a
namespace Go.Proofs.Ytfddefoambakiaa
open Go.ChangeShapes Go.WideShapes Go.ChangeAt Go.RowKit
set_option linter.unusedVariables false
set_option maxHeartbeats 4000000 in
theorem rput_any (a : Option Addr) (len cap : Nat) (m : List Cl) (x v : Int) (w : World) (h : Held w a len m) (hb24 : len ≤ 16777216) : Calls Try.prog 44 #[.slice a len cap, .agg #[.int .u16 x, .int .u8 v]] w fun e w' => ∃ r, e = .returned r ∧ Owns w' w.heap.size r (Sm.put m (x, v)) ∧ Adds w w' := by
  obtain ⟨hl, hbig, hat⟩ := h
  have HL : Hid (m.length = len) := hl
  go_enter Try.func44, Try.ntmps44
  go_wp2
  go_loopw [5, 6, 11] (fun v5 v6 i wr => ∃ (k : Nat) (s1 : List Cl) (s2 : Bool), k ≤ len ∧ i = .int .i64 k ∧ v6 = .bool s2 ∧ Hid (Sm.putS (x, v) (m.take k) = (s1, s2)) ∧ Owns wr (w.heap.size + 1) v5 s1 ∧ Adds (w.alloc (.cells #[.int .u16 x, .int .u8 v] 59)) wr) (fun _ _ i _ => len - (intOf i).toNat)
  case atStart => exact ⟨0, [], false, Nat.zero_le _, rfl, rfl, rfl, Owns.nil _ _, Adds.refl _⟩
  case round =>
    obtain ⟨k, s1, s2, hk, rfl, rfl, HS, hO, hA⟩ := hrel
    have hsz := hA.size
    have hsz' : w.heap.size < wr.heap.size := by simp at hsz; omega
    have hL : s1.length ≤ k + 1 := by
      have h1 := Sm.putS_len (x, v) (m.take k)
      rw [HS.out] at h1
      have h2 : (m.take k).length ≤ k := List.length_take_le _ _
      simp at h1 h2; omega
    have c0 : wr.cell? ⟨w.heap.size, 0, none⟩ = some (.int .u16 x) := (hA.cell (by simp)).trans (by simp [go_sem])
    have c1 : wr.cell? ⟨w.heap.size, 1, none⟩ = some (.int .u8 v) := (hA.cell (by simp)).trans (by simp [go_sem])
    by_cases hlt : k < len
    · obtain ⟨b, o, rfl, hb, hat⟩ := hat (by omega)
      obtain ⟨yx, yv, hy⟩ := get_pair (d := m) (k := k) (by omega)
      obtain ⟨h1, h2⟩ := hat k yx yv hy
      have g1 : wr.cell? ⟨b, o + k * 2, none⟩ = some (.int .u16 yx) := (hA.cell (by simp; omega)).trans ((World.cell?_alloc_past _ b _ hb).trans h1)
      have g2 : wr.cell? ⟨b, o + k * 2 + 1, none⟩ = some (.int .u8 yv) := (hA.cell (by simp; omega)).trans ((World.cell?_alloc_past _ b _ hb).trans h2)
      have hbr : b < wr.heap.size := by omega
      have hltz : (k : Int) < (len : Int) := by omega
      have HP := Sm.putS_succ hy HS.out
      have HP2 : Hid _ := HP
      clear hat hy hl h1 h2 HP hsz
      have hin1 : w.heap.size ≠ wr.heap.size := by omega
      by_cases heq : yx = x
      · subst heq
        cases s2 with
        | true =>
          have HN : Hid (Sm.putS (yx, v) (m.take (k + 1)) = (s1, true)) := by show _ = _; rw [HP2.out]; simp [Sm.putStep]
          go_wp2_with fail
          go_roundw
          case rel => exact ⟨k + 1, s1, _, by omega, by go_num, rfl, HN, (hO.alloc _), (hA.alloc _)⟩
          case measure => simp [intOf] <;> omega
        | false =>
          by_cases hv : v = 0
          · subst hv
            have HN : Hid (Sm.putS (yx, 0) (m.take (k + 1)) = (s1, true)) := by show _ = _; rw [HP2.out]; simp [Sm.putStep]
            go_wp2_with fail
            go_roundw
            case rel => exact ⟨k + 1, s1, _, by omega, by go_num, rfl, HN, (hO.alloc _), (hA.alloc _)⟩
            case measure => simp [intOf] <;> omega
          · have hvb : (v != 0) = true := by simpa using hv
            have HN : Hid (Sm.putS (yx, v) (m.take (k + 1)) = (s1 ++ [(yx, v)], true)) := by show _ = _; rw [HP2.out]; simp [Sm.putStep, hv]
            clear hv
            go_wp2_with (at_builtin; refine wpList_app1 rfl (.tmp 27) (.tmp 29) rfl (w.heap.size + 1) u5 s1 yx v _ _ rfl rfl (by simp) (hO.alloc _) (by have := hL; omega) (by simp; omega) ?_; intro v1 w1 hO1 hg1 _; have hA1 : Adds (w.alloc (.cells #[.int .u16 yx, .int .u8 v] 59)) w1 := (hA.alloc _).grown hg1 (by simpa using hO.alloc _); have hs1 : wr.heap.size < w1.heap.size := (by have := hg1.size; simp at this; omega); have hn1 : some wr.heap.size ≠ u5.ownBlock := Owns.ne hO (Nat.le_refl _); have f0 : w1.cell? ⟨wr.heap.size, 0, none⟩ = some (.int .u16 yx) := hg1.cell (by simp [go_sem]) hn1; have f1 : w1.cell? ⟨wr.heap.size, 1, none⟩ = some (.int .u8 yv) := hg1.cell (by simp [go_sem]) hn1; have c0 : w1.cell? ⟨w.heap.size, 0, none⟩ = some (.int .u16 yx) := (hA1.cell (by simp)).trans (by simp [go_sem]); clear hg1 hn1)
            go_roundw
            case rel => exact ⟨k + 1, (s1 ++ [(yx, v)]), _, by omega, by go_num, rfl, HN, hO1, hA1⟩
            case measure => simp [intOf] <;> omega
      · have hnb : (yx != x) = true := by simpa using heq
        by_cases hxy : x ≤ yx
        · have hd : decide (x ≤ yx) = true := decide_eq_true hxy
          cases s2 with
          | true =>
            have HN : Hid (Sm.putS (x, v) (m.take (k + 1)) = (s1 ++ [(yx, yv)], true)) := by show _ = _; rw [HP2.out]; simp [Sm.putStep, heq]
            clear heq hxy
            go_wp2_with (at_builtin; refine wpList_app1 rfl (.tmp 36) (.tmp 38) rfl (w.heap.size + 1) u5 s1 yx yv _ _ rfl rfl (by simp) (hO.alloc _) (by have := hL; omega) (by simp; omega) ?_; intro v2 w2 hO2 hg2 _; have hA2 : Adds (w.alloc (.cells #[.int .u16 x, .int .u8 v] 59)) w2 := (hA.alloc _).grown hg2 (by simpa using hO.alloc _); clear hg2)
            go_roundw
            case rel => exact ⟨k + 1, s1 ++ [(yx, yv)], _, by omega, by go_num, rfl, HN, hO2, hA2⟩
            case measure => simp [intOf] <;> omega
          | false =>
            by_cases hv : v = 0
            · subst hv
              have HN : Hid (Sm.putS (x, 0) (m.take (k + 1)) = (s1 ++ [(yx, yv)], true)) := by show _ = _; rw [HP2.out]; simp [Sm.putStep, heq, hxy]
              clear heq hxy
              go_wp2_with (at_builtin; refine wpList_app1 rfl (.tmp 36) (.tmp 38) rfl (w.heap.size + 1) u5 s1 yx yv _ _ rfl rfl (by simp) (hO.alloc _) (by have := hL; omega) (by simp; omega) ?_; intro v2 w2 hO2 hg2 _; have hA2 : Adds (w.alloc (.cells #[.int .u16 x, .int .u8 0] 59)) w2 := (hA.alloc _).grown hg2 (by simpa using hO.alloc _); clear hg2)
              go_roundw
              case rel => exact ⟨k + 1, s1 ++ [(yx, yv)], _, by omega, by go_num, rfl, HN, hO2, hA2⟩
              case measure => simp [intOf] <;> omega
            · have hvb : (v != 0) = true := by simpa using hv
              have HN : Hid (Sm.putS (x, v) (m.take (k + 1)) = (s1 ++ [(x, v)] ++ [(yx, yv)], true)) := by show _ = _; rw [HP2.out]; simp [Sm.putStep, heq, hxy, hv]
              clear heq hxy hv
              go_wp2_with (first | (at_builtin; refine wpList_app1 rfl (.tmp 27) (.tmp 29) rfl (w.heap.size + 1) u5 s1 x v _ _ rfl rfl (by simp) (hO.alloc _) (by have := hL; omega) (by simp; omega) ?_; intro v1 w1 hO1 hg1 _; have hA1 : Adds (w.alloc (.cells #[.int .u16 x, .int .u8 v] 59)) w1 := (hA.alloc _).grown hg1 (by simpa using hO.alloc _); have hs1 : wr.heap.size < w1.heap.size := (by have := hg1.size; simp at this; omega); have hn1 : some wr.heap.size ≠ u5.ownBlock := Owns.ne hO (Nat.le_refl _); have f0 : w1.cell? ⟨wr.heap.size, 0, none⟩ = some (.int .u16 yx) := hg1.cell (by simp [go_sem]) hn1; have f1 : w1.cell? ⟨wr.heap.size, 1, none⟩ = some (.int .u8 yv) := hg1.cell (by simp [go_sem]) hn1; have c0 : w1.cell? ⟨w.heap.size, 0, none⟩ = some (.int .u16 x) := (hA1.cell (by simp)).trans (by simp [go_sem]); clear hg1 hn1) | (at_builtin; refine wpList_app1 rfl (.tmp 36) (.tmp 38) rfl (w.heap.size + 1) v1 (s1 ++ [(x, v)]) yx yv _ _ rfl rfl (by simp) hO1 (by simp; omega) (by omega) ?_; intro v2 w2 hO2 hg2 _; have hA2 : Adds (w.alloc (.cells #[.int .u16 x, .int .u8 v] 59)) w2 := hA1.grown hg2 (by simpa using hO1); clear hg2))
              go_roundw
              case rel => exact ⟨k + 1, (s1 ++ [(x, v)]) ++ [(yx, yv)], _, by omega, by go_num, rfl, HN, hO2, hA2⟩
              case measure => simp [intOf] <;> omega
        · have hd : decide (x ≤ yx) = false := decide_eq_false hxy
          have HN : Hid (Sm.putS (x, v) (m.take (k + 1)) = (s1 ++ [(yx, yv)], s2)) := by show _ = _; rw [HP2.out]; simp [Sm.putStep, heq, hxy]
          clear heq hxy
          cases s2 with
          | true =>
            go_wp2_with (at_builtin; refine wpList_app1 rfl (.tmp 36) (.tmp 38) rfl (w.heap.size + 1) u5 s1 yx yv _ _ rfl rfl (by simp) (hO.alloc _) (by have := hL; omega) (by simp; omega) ?_; intro v2 w2 hO2 hg2 _; have hA2 : Adds (w.alloc (.cells #[.int .u16 x, .int .u8 v] 59)) w2 := (hA.alloc _).grown hg2 (by simpa using hO.alloc _); clear hg2)
            go_roundw
            case rel => exact ⟨k + 1, s1 ++ [(yx, yv)], _, by omega, by go_num, rfl, HN, hO2, hA2⟩
            case measure => simp [intOf] <;> omega
          | false =>
            go_wp2_with (at_builtin; refine wpList_app1 rfl (.tmp 36) (.tmp 38) rfl (w.heap.size + 1) u5 s1 yx yv _ _ rfl rfl (by simp) (hO.alloc _) (by have := hL; omega) (by simp; omega) ?_; intro v2 w2 hO2 hg2 _; have hA2 : Adds (w.alloc (.cells #[.int .u16 x, .int .u8 v] 59)) w2 := (hA.alloc _).grown hg2 (by simpa using hO.alloc _); clear hg2)
            go_roundw
            case rel => exact ⟨k + 1, s1 ++ [(yx, yv)], _, by omega, by go_num, rfl, HN, hO2, hA2⟩
            case measure => simp [intOf] <;> omega
    · have hkl : k = len := by omega
      have hltz : ¬ (k : Int) < (len : Int) := by omega
      have HE : Hid (Sm.putS (x, v) m = (s1, s2)) := by
        show _ = _
        rw [← HS.out, List.take_of_length_le (by have := HL.out; omega)]
      clear hat hl hkl hsz
      cases s2 with
      | true =>
        have HN : Hid (Sm.put m (x, v) = s1) := by show _ = _; unfold Sm.put; rw [HE.out]; simp
        go_wp2_with fail
        go_ret
        exact ⟨_, rfl, by rw [HN.out]; exact Owns.mono hO (by omega), (Adds.alloc (Adds.refl _) _).trans hA⟩
      | false =>
        by_cases hv : v = 0
        · subst hv
          have HN : Hid (Sm.put m (x, 0) = s1) := by show _ = _; unfold Sm.put; rw [HE.out]; simp
          go_wp2_with fail
          go_ret
          exact ⟨_, rfl, by rw [HN.out]; exact Owns.mono hO (by omega), (Adds.alloc (Adds.refl _) _).trans hA⟩
        · have hvb : (v != 0) = true := by simpa using hv
          have HN : Hid (Sm.put m (x, v) = s1 ++ [(x, v)]) := by show _ = _; unfold Sm.put; rw [HE.out]; simp [hv]
          clear hv
          go_wp2_with (at_builtin; refine wpList_app1 rfl (.tmp 48) (.tmp 50) rfl (w.heap.size + 1) u5 s1 x v _ _ rfl rfl (by simp) hO (by omega) (by omega) ?_; intro v1 w1 hO1 hg1 _; have hA1 : Adds (w.alloc (.cells #[.int .u16 x, .int .u8 v] 59)) w1 := hA.grown hg1 (by simpa using hO); clear hg1)
          go_ret
          exact ⟨_, rfl, by rw [HN.out]; exact Owns.mono hO1 (by omega), (Adds.alloc (Adds.refl _) _).trans hA1⟩
end Go.Proofs.Ytfddefoambakiaa
