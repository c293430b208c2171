/- Contract of the reference's Encode: the bytes of a list of inputs, in a slice of the call's own. Condition: at most a hundred million inputs. -/
import Derived.Test.YtjjcahdieldmcaaC24b
import Derived.Deep.RegionHeld3
namespace Go.Proofs.Ytjjcahdieldmcaa
open Go.ChangeShapes Go.WideShapes Go.ChangeAt Go.RowKit
set_option linter.unusedVariables false
set_option maxRecDepth 100000 in
set_option maxHeartbeats 4000000 in
theorem renc_any (a : Option Addr) (len cap : Nat) (l : List S.Inp) (w : World) (h : HeldI w a len l) (hc : len ≤ cap) (hcap : cap ≤ 9223372036854775807) (hbig : len ≤ 100000000) :
    Calls Try.prog 18 #[.slice a len cap] w fun e w' => ∃ r, e = .returned r ∧ OwnsB w' w.heap.size r (S.enc l) ∧ Adds w w' := by
  obtain ⟨hl, _, hat⟩ := h
  obtain ⟨n, hn⟩ : ∃ n, n = min len 65536 := ⟨_, rfl⟩
  have HN := Lib.hid hn
  have hn6 : n ≤ 65536 := by omega
  have hnl : n ≤ len := by omega
  have HL := Lib.hid hl
  have HAT := Lib.hid hat
  clear hn hl hat
  go_enter Try.func18, Try.ntmps18
  go_wp2_with fail
  go_loopw [3, 9] (fun v i wr => ∃ (k m : Nat) (ad : Option Addr) (c : Nat), k ≤ n ∧ Hid (m = k * 4) ∧ v = .slice ad m c ∧ i = .int .i64 (k : Int) ∧ Hid (OwnsB wr w.heap.size (.slice ad m c) (S.encs (l.take k))) ∧ Hid (Adds w wr)) (fun _ i _ => n - (intOf i).toNat)
  case atStart => exact ⟨0, 0, _, _, Nat.zero_le _, rfl, rfl, rfl, OwnsG.nil _ _, Adds.refl _⟩
  case round =>
    obtain ⟨k, m, ad, c, hk, HM, rfl, rfl, HO, HA⟩ := hrel
    by_cases hll : k < len
    · obtain ⟨b, o, rfl, hb, hat⟩ := HAT.out (by omega)
      have hat' := AtG.keep (w' := wr) hat fun i => HA.out.cell hb
      have hsz := HA.out.size
      obtain ⟨x, hx⟩ := get_el (d := l) (k := k) (by have := HL.out; omega)
      have HX := Lib.hid (S.encs_step hx)
      have hL : (wholeVar 32 ⟨b, o + k * 10, none⟩).run Try.prog wr = .ok (.agg #[.bool x.r, .bool x.h, .bool x.z, .bool x.s, .bool x.t, .bool x.a, .bool x.b, .bool x.c, .int .u8 x.q, .int .u8 x.p]) wr := AtI.load hat' hx _ rfl
      have q1 : (k : Int) < (len : Int) := by omega
      clear hat hat' hx HAT
      by_cases hlt : k < n
      · have q2 : ¬ (65536 : Int) ≤ (k : Int) := by omega
        go_wp2_with fail
        refine wp_region_adds (by kernel_rfl) (by kernel_rfl) ?_
        repeat (go_big_quiet_step ((go_at_call 26; exact calls_same (rbit_any _ _ (by decide) (by decide) _))))
        refine wpQuiet_nil ?_
        intro _ hw1
        obtain ⟨⟨nq, osq⟩, hw2⟩ := hw1
        subst hw2
        go_wp2_with fail
        generalize hcc : bits .or .u8 (bits .or .u8 _ _) (S.wh x.c (S.pw 7)) = cc
        have hce : cc = S.ctl x := hcc.symm.trans rfl
        clear hcc
        subst hce
        have HA1 := Lib.hid (show Adds wr (More (wr.alloc (.cells #[.bool x.r, .bool x.h, .bool x.z, .bool x.s, .bool x.t, .bool x.a, .bool x.b, .bool x.c, .int .u8 x.q, .int .u8 x.p] 32)) (nq + 1) osq) from by (repeat (first | with_reducible exact Adds.refl _ | with_reducible apply Adds.drew | with_reducible apply Adds.drewN | with_reducible apply Adds.alloc | with_reducible apply Adds.more | (with_reducible refine Adds.setCell ?_ ?_ _) | (focus (simp [go_sem]; done)) | (focus (simp [go_sem]; omega)))))
        have HO1 := Lib.hid (OwnsG.adds HO.out HA1.out)
        go_region_held3 (fun w' => w'.cell? ⟨wr.heap.size, 8, none⟩ = some (.int .u8 x.q) ∧ w'.cell? ⟨wr.heap.size, 9, none⟩ = some (.int .u8 x.p)) (first | (simp [go_sem]; done) | (constructor <;> assumption))
          (first
            | ((go_at_call 20; (with_reducible refine (rchk_any _ _ _ _).mono ?_); rintro e w' ⟨rfl, rfl⟩))
            | ((refine step_appB rfl _ _ (by rfl) w.heap.size (.slice ad m c) _ (by rfl) (S.enc1 x) 4 _ _ (wr.heap.size + 1 + osq.size) (by rfl) rfl rfl (by simp [go_sem]) HO1.out (by have := HM.out; have := HO.out.len; omega) (by simp [go_sem]; omega) ?_; intro v3 w3 hO3 hG3; obtain ⟨ad3, m3, c3, rfl, hn3, -, -, -, -⟩ := hO3.form2; have HM3 := Lib.hid (show m3 = (k + 1) * 4 by have := hn3.out; rw [List.length_append, S.encs_len, List.length_take] at this; have := HL.out; simp [S.enc1] at *; omega); have k1 := (World.cell?_of_block (a := ⟨wr.heap.size, 8, none⟩) (hG3.block wr.heap.size (by simp [go_sem]; omega) (fun e => by have := (World.ownsRow.lt HO.out _ e.symm).2; omega))).trans (by simp [go_sem] : _ = some (.int .u8 x.q)); have k2 := (World.cell?_of_block (a := ⟨wr.heap.size, 9, none⟩) (hG3.block wr.heap.size (by simp [go_sem]; omega) (fun e => by have := (World.ownsRow.lt HO.out _ e.symm).2; omega))).trans (by simp [go_sem] : _ = some (.int .u8 x.p)); have HO3 := Lib.hid hO3; have HA3 := Lib.hid (AddsG.grown (HA.out.trans HA1.out) hG3 HO1.out); clear hn3 hO3 hG3)))
        go_wp2_with fail
        go_roundw
        case rel => exact ⟨k + 1, m3, ad3, c3, by omega, HM3.out, rfl, by go_num, (by rw [HX.out]; exact HO3.out), HA3.out⟩
        case measure => simp [intOf]; omega
      · have q2 : (65536 : Int) ≤ (k : Int) := by have := HN.out; omega
        have HF := Lib.hid (show S.encs (l.take k) = S.enc l by have h6 : k = 65536 := (by have := HN.out; omega); subst h6; rfl)
        go_wp2_with fail
        go_ret
        exact ⟨_, rfl, by rw [← HF.out]; exact OwnsG.adds HO.out (by (repeat (first | with_reducible exact Adds.refl _ | with_reducible apply Adds.drew | with_reducible apply Adds.drewN | with_reducible apply Adds.alloc | with_reducible apply Adds.more | (with_reducible refine Adds.setCell ?_ ?_ _) | (focus (simp [go_sem]; done)) | (focus (simp [go_sem]; omega))))), HA.out.trans (by (repeat (first | with_reducible exact Adds.refl _ | with_reducible apply Adds.drew | with_reducible apply Adds.drewN | with_reducible apply Adds.alloc | with_reducible apply Adds.more | (with_reducible refine Adds.setCell ?_ ?_ _) | (focus (simp [go_sem]; done)) | (focus (simp [go_sem]; omega)))))⟩
    · have q1 : ¬ (k : Int) < (len : Int) := by omega
      have HF := Lib.hid (show S.encs (l.take k) = S.enc l by have hl := HL.out; have hk6 := HN.out; unfold S.enc; rw [List.take_of_length_le (by omega), List.take_of_length_le (by omega)])
      clear HAT
      go_wp2_with fail
      go_ret
      exact ⟨_, rfl, by rw [← HF.out]; exact HO.out, HA.out⟩
end Go.Proofs.Ytjjcahdieldmcaa
