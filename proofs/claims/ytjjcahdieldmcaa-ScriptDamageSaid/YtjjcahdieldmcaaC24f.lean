/- Contracts of script.Encode and of the reference's Encode: the bytes of a list of inputs, in a slice of the call's own. Condition: at most a hundred million inputs. -/
import Derived.Test.YtjjcahdieldmcaaC24c
namespace Go.Proofs.Ytjjcahdieldmcaa
open Go.ChangeShapes Go.WideShapes Go.ChangeAt Go.RowKit
set_option linter.unusedVariables false
set_option maxHeartbeats 4000000 in
theorem enc_any (a : Option Addr) (len cap : Nat) (l : List S.Inp) (w : World) (h : HeldI w a len l) (hc : len ≤ cap) (hcap : cap ≤ 9223372036854775807) (hbig : len ≤ 100000000) :
    Calls Try.prog 17 #[.slice a len cap] w fun e w' => ∃ r, e = .returned r ∧ OwnsB w' w.heap.size r (S.enc l) ∧ Adds w w' := by
  obtain ⟨hl, _, hat⟩ := h
  obtain ⟨n, hn⟩ : ∃ n, n = min len 65536 := ⟨_, rfl⟩
  have HN := Lib.hid hn
  have hn6 : n ≤ 65536 := by omega
  have hnl : n ≤ len := by omega
  have HL := Lib.hid hl
  have HAT := Lib.hid hat
  clear hn hl hat
  have mx : max (65536 : Int) 0 = 65536 := by decide
  go_enter Try.func17, Try.ntmps17
  go_wp2_with (at_make; refine wpList_makeB0 rfl _ _ rfl _ _ _ (n * 4) rfl rfl (by have := HN.out; omega) (by omega) w.heap.size rfl ?_; intro w1 hO1 hG1)
  all_goals
    have HO1 := Lib.hid hO1
    have HG1 := Lib.hid (show Adds w w1 from Adds.of_below ⟨hG1.os, hG1.tape, hG1.output, hG1.size, fun i hi => hG1.block i hi (by simp)⟩)
    clear hO1 hG1
    go_loopw [3, 18] (fun v i wr => ∃ (k m : Nat) (ad : Option Addr) (c : Nat), k ≤ n ∧ Hid (m = k * 4) ∧ v = .slice ad m c ∧ i = .int .i64 (k : Int) ∧ Hid (OwnsB wr w.heap.size (.slice ad m c) (S.encs (l.take k))) ∧ Hid (Adds w wr)) (fun _ i _ => n - (intOf i).toNat)
    case atStart => exact ⟨0, 0, _, _, Nat.zero_le _, rfl, rfl, rfl, HO1.out, HG1.out⟩
    case round =>
      obtain ⟨k, m, ad, c, hk, HM, rfl, rfl, HO, HA⟩ := hrel
      by_cases hlt : k < n
      · obtain ⟨b, o, rfl, hb, hat⟩ := HAT.out (by omega)
        have hat' := AtG.keep (w' := wr) hat fun i => HA.out.cell hb
        have hsz := HA.out.size
        obtain ⟨x, hx⟩ := get_el (d := l) (k := k) (by have := HL.out; omega)
        have HX := Lib.hid (S.encs_step hx)
        have hL : (wholeVar 32 ⟨b, o + k * 10, none⟩).run Try.prog wr = .ok (.agg #[.bool x.r, .bool x.h, .bool x.z, .bool x.s, .bool x.t, .bool x.a, .bool x.b, .bool x.c, .int .u8 x.q, .int .u8 x.p]) wr := AtI.load hat' hx _ rfl
        have q1 : (k : Int) < (len : Int) := by omega
        have q2 : (k : Int) < 65536 := by omega
        clear hat hat' hx HAT
        go_wp2_with (first
          | (go_at_call 25; (with_reducible refine (entry_any x _).mono ?_); rintro e w' ⟨rfl, ⟨⟨n1, os1⟩, rfl⟩⟩)
          | (at_builtin; refine wpList_appB rfl _ _ rfl w.heap.size (.slice ad m c) _ rfl (OwnsG.adds HO.out (by (repeat (first | with_reducible exact Adds.refl _ | with_reducible apply Adds.drew | with_reducible apply Adds.drewN | with_reducible apply Adds.alloc | with_reducible apply Adds.more | (with_reducible refine Adds.setCell ?_ ?_ _) | (focus (simp [go_sem]; done)) | (focus (simp [go_sem]; omega)))))) ⟨_, 0, none⟩ 4 4 (S.enc1 x) rfl rfl (at_new _ _ _ _ rfl _ (by simp [go_sem])) (by have := HM.out; have := HO.out.len; omega) (by simp [go_sem]; omega) ?_; intro v3 w3 hO3 hG3; obtain ⟨ad3, m3, c3, rfl, hn3, -, -, -, -⟩ := hO3.form2; have HM3 := Lib.hid (show m3 = (k + 1) * 4 by have := hn3.out; rw [List.length_append, S.encs_len, List.length_take] at this; have := HL.out; simp [S.enc1] at *; omega); have HO3 := Lib.hid hO3; have HA3 := Lib.hid (AddsG.grown (HA.out.trans (by (repeat (first | with_reducible exact Adds.refl _ | with_reducible apply Adds.drew | with_reducible apply Adds.drewN | with_reducible apply Adds.alloc | with_reducible apply Adds.more | (with_reducible refine Adds.setCell ?_ ?_ _) | (focus (simp [go_sem]; done)) | (focus (simp [go_sem]; omega)))))) hG3 (OwnsG.adds HO.out (by (repeat (first | with_reducible exact Adds.refl _ | with_reducible apply Adds.drew | with_reducible apply Adds.drewN | with_reducible apply Adds.alloc | with_reducible apply Adds.more | (with_reducible refine Adds.setCell ?_ ?_ _) | (focus (simp [go_sem]; done)) | (focus (simp [go_sem]; omega))))))); clear hn3 hO3 hG3))
        go_roundw
        case rel => exact ⟨k + 1, m3, ad3, c3, by omega, HM3.out, rfl, by go_num, (by rw [HX.out]; exact HO3.out), HA3.out⟩
        case measure => simp [intOf]; omega
      · obtain rfl : k = n := by omega
        have hkk := HN.out
        have HF := Lib.hid (show S.encs (l.take k) = S.enc l by unfold S.enc; rw [hkk]; have := HL.out; by_cases h6 : len ≤ 65536; rw [Nat.min_eq_left h6, List.take_of_length_le (by omega), List.take_of_length_le (by omega)]; rw [Nat.min_eq_right (by omega)])
        clear HAT
        first
          | (have e1 : ¬ (k : Int) < 65536 := by omega
             clear hkk
             go_wp2_with fail
             go_ret
             exact ⟨_, rfl, by rw [← HF.out]; exact HO.out, HA.out⟩)
          | (have e1 : ¬ (k : Int) < (len : Int) := by omega
             clear hkk
             go_wp2_with fail
             go_ret
             exact ⟨_, rfl, by rw [← HF.out]; exact HO.out, HA.out⟩)
end Go.Proofs.Ytjjcahdieldmcaa
