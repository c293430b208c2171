/- Contract of script.Decode: the inputs of a list of bytes, in a slice of the call's own. Condition: at most a thousand million bytes. -/
import Derived.Test.YtjjcahdieldmcaaC24b
import Derived.Laws.Cover3
namespace Go.Proofs.Ytjjcahdieldmcaa
open Go.ChangeShapes Go.WideShapes Go.ChangeAt Go.RowKit
set_option linter.unusedVariables false
set_option maxHeartbeats 2000000 in
theorem dec_any (a : Option Addr) (len cap : Nat) (zs : List Int) (w : World) (h : HeldB w a len zs) (hc : len ≤ cap) (hcap : cap ≤ 9223372036854775807) (hbig : len ≤ 1000000000) :
    Calls Try.prog 12 #[.slice a len cap] w fun e w' => ∃ r, e = .returned r ∧ OwnsI w' w.heap.size r (S.dec zs) ∧ Adds w w' := by
  obtain ⟨hl, _, hat⟩ := h
  obtain ⟨n, hn⟩ : ∃ n, n = min (len / 4) 65536 := ⟨_, rfl⟩
  have HN := Lib.hid hn
  have hn4 : n * 4 ≤ len := by omega
  have hn6 : n ≤ 65536 := by omega
  have HL := Lib.hid hl
  have HAT := Lib.hid hat
  clear hn hl hat
  go_enter Try.func12, Try.ntmps12
  go_wp2_with (at_make; refine wpList_makeI rfl _ _ rfl _ _ _ _ n rfl rfl (by have := HN.out; omega) (by have := HN.out; omega) (by omega) w.heap.size rfl ?_; intro w1 hO1 hG1)
  all_goals
    have HO1 := Lib.hid hO1
    have HG1 := Lib.hid hG1
    clear hO1 hG1
    go_loopw [12] (fun i wr => ∃ k : Nat, k ≤ n ∧ i = .int .i64 k ∧ OwnsI wr w.heap.size (.slice (some ⟨w.heap.size, 0, none⟩) n n) (S.decK S.zero zs n k) ∧ Adds w wr) (fun i _ => n - (intOf i).toNat)
    case atStart => exact ⟨0, Nat.zero_le _, rfl, by rw [S.decK_zero]; exact HO1.out, Adds.of_below ⟨HG1.out.os, HG1.out.tape, HG1.out.output, HG1.out.size, fun i hi => HG1.out.block i hi (by simp)⟩⟩
    case round =>
      obtain ⟨k, hk, rfl, hO, hA⟩ := hrel
      have HO := Lib.hid hO
      have HA := Lib.hid hA
      clear hO hA
      by_cases hlt : k < n
      · obtain ⟨b, o, rfl, hb, hat⟩ := HAT.out (by omega)
        have hat' := AtG.keep (w' := wr) hat fun i => HA.out.cell hb
        obtain ⟨z0, hz0⟩ : ∃ z, z = zs.getD (k * 4) 0 := ⟨_, rfl⟩
        obtain ⟨z1, hz1⟩ : ∃ z, z = zs.getD (k * 4 + 1) 0 := ⟨_, rfl⟩
        obtain ⟨z2, hz2⟩ : ∃ z, z = zs.getD (k * 4 + 2) 0 := ⟨_, rfl⟩
        obtain ⟨z3, hz3⟩ : ∃ z, z = zs.getD (k * 4 + 3) 0 := ⟨_, rfl⟩
        have HE := Lib.hid (show S.el zs k = S.ent z0 z1 z2 z3 by rw [hz0, hz1, hz2, hz3]; rfl)
        have hlen := HL.out
        have hL : (wholeVar 48 ⟨b, o + k * 4, none⟩).run Try.prog wr = .ok (.agg #[.int .u8 z0, .int .u8 z1, .int .u8 z2, .int .u8 z3]) wr := by
          refine whole_cells Try.underlying48 rfl (by kernel_rfl) wr b _ #[.int .u8 z0, .int .u8 z1, .int .u8 z2, .int .u8 z3] rfl fun j v hv => ?_
          match j, hv with
          | 0, hv => cases hv; rw [Nat.add_assoc, hz0]; exact AtB.el hat' (by omega)
          | 1, hv => cases hv; rw [Nat.add_assoc, hz1]; exact AtB.el hat' (by omega)
          | 2, hv => cases hv; rw [Nat.add_assoc, hz2]; exact AtB.el hat' (by omega)
          | 3, hv => cases hv; rw [Nat.add_assoc, hz3]; exact AtB.el hat' (by omega)
          | j + 4, hv => simp at hv
        have hptr : ∀ w, (Instr.arrayAt 48 (.slice (some ⟨b, o + k * 4, none⟩) (len - k * 4) (cap - k * 4))).run Try.prog w = .ok (.pointer (some ⟨b, o + k * 4, none⟩)) w := fun w => run_arrayAt w _ _ 4 _ _ _ Try.underlying48 (by omega)
        have hltz : (k : Int) < (n : Int) := by omega
        clear hat hat' hz0 hz1 hz2 hz3 hlen HAT
        go_wp2_with (go_at_call 24; (with_reducible refine (input_any z0 z1 z2 z3 wr).mono ?_); rintro e w2 ⟨rfl, A2⟩; obtain ⟨w3, hS, hO3, hG3⟩ := OwnsI.store (OwnsG.adds HO.out A2) k hlt (S.ent z0 z1 z2 z3); have HO3 := Lib.hid hO3; have HG3 := Lib.hid hG3; have HA2 := Lib.hid A2; clear hO3 hG3 A2)
        go_roundw
        case rel => exact ⟨k + 1, by omega, by go_num, by rw [← S.decK_step S.zero zs n k hlt, HE.out]; exact HO3.out, (HA.out.trans HA2.out).of_grown HG3.out (Nat.le_refl _)⟩
        case measure => simp [intOf]; omega
      · obtain rfl : k = n := by omega
        go_wp2_with fail
        go_ret
        refine ⟨_, rfl, ?_, HA.out⟩
        have := HO.out
        rwa [S.decK_all S.zero zs k (by have := HN.out; have := HL.out; omega)] at this
end Go.Proofs.Ytjjcahdieldmcaa
