/- Contracts of the reference's SameInputs and SameBytes, where both lists are the same: they say so. Condition: the lists have at most 4611686018427387904 elements. -/
import Derived.Test.YtjjcahdieldmcaaC24b
import Derived.Laws.BytesArg
namespace Go.Proofs.Ytjjcahdieldmcaa
open Go.ChangeShapes Go.WideShapes Go.ChangeAt Go.RowKit
set_option linter.unusedVariables false
theorem same_refl10 (r1 r2 r3 r4 r5 r6 r7 r8 : Bool) (r9 r10 : Int) : same [.bool r1, .bool r2, .bool r3, .bool r4, .bool r5, .bool r6, .bool r7, .bool r8, .int .u8 r9, .int .u8 r10] [.bool r1, .bool r2, .bool r3, .bool r4, .bool r5, .bool r6, .bool r7, .bool r8, .int .u8 r9, .int .u8 r10] = true := by simp [same]
set_option maxHeartbeats 4000000 in
theorem sinp_any (a a' : Option Addr) (len cap cap' : Nat) (l : List S.Inp) (w : World) (h : HeldI w a len l) (h' : HeldI w a' len l) :
    Calls Try.prog 11 #[.slice a len cap, .slice a' len cap'] w fun e w' => e = .returned (.bool true) ∧ Adds w w' := by
  obtain ⟨hl, hbig, hat⟩ := h
  obtain ⟨_, _, hat2⟩ := h'
  have HL := Lib.hid hl
  have HAT := Lib.hid hat
  have HAT2 := Lib.hid hat2
  clear hl hat hat2
  go_enter Try.func11, Try.ntmps11
  go_wp2_with fail
  go_loopw [13] (fun i wr => ∃ k : Nat, k ≤ len ∧ i = .int .i64 (k : Int) ∧ Adds w wr) (fun i _ => len - (intOf i).toNat)
  case atStart => exact ⟨0, Nat.zero_le _, rfl, Adds.refl _⟩
  case round =>
    obtain ⟨k, hk, rfl, hA⟩ := hrel
    have HA := Lib.hid hA
    clear hA
    by_cases hlt : k < len
    · obtain ⟨b, o, rfl, hb, hat⟩ := HAT.out (by omega)
      obtain ⟨b2, o2, rfl, hb2, hat2⟩ := HAT2.out (by omega)
      obtain ⟨x, hx⟩ := get_el (d := l) (k := k) (by have := HL.out; omega)
      have hL : ∀ n os, (wholeVar 32 ⟨b, o + k * 10, none⟩).run Try.prog (More wr n os) = .ok (.agg #[.bool x.r, .bool x.h, .bool x.z, .bool x.s, .bool x.t, .bool x.a, .bool x.b, .bool x.c, .int .u8 x.q, .int .u8 x.p]) (More wr n os) := AtI.loadM (AtG.keep (w' := wr) hat fun i => HA.out.cell hb) (by have := HA.out.size; omega) hx _ rfl
      have hL2 : ∀ n os, (wholeVar 32 ⟨b2, o2 + k * 10, none⟩).run Try.prog (More wr n os) = .ok (.agg #[.bool x.r, .bool x.h, .bool x.z, .bool x.s, .bool x.t, .bool x.a, .bool x.b, .bool x.c, .int .u8 x.q, .int .u8 x.p]) (More wr n os) := AtI.loadM (AtG.keep (w' := wr) hat2 fun i => HA.out.cell hb2) (by have := HA.out.size; omega) hx _ rfl
      have q1 : (k : Int) < (len : Int) := by omega
      clear hat hat2 hx HAT HAT2
      go_wp2_with fail
      refine wp_region_adds (by kernel_rfl) (by kernel_rfl) ?_
      repeat (go_big_quiet_step (fail))
      refine wpQuiet_nil ?_
      intro _ hw1
      obtain ⟨⟨nq, osq⟩, hw2⟩ := hw1
      subst hw2
      go_wp2_with fail
      go_roundw
      case rel => exact ⟨k + 1, by omega, by go_num, HA.out.trans (by (repeat (first | with_reducible exact Adds.refl _ | with_reducible apply Adds.drew | with_reducible apply Adds.drewN | with_reducible apply Adds.alloc | with_reducible apply Adds.more | (with_reducible refine Adds.setCell ?_ ?_ _) | (focus (simp [go_sem]; done)) | (focus (simp [go_sem]; omega)))))⟩
      case measure => simp [intOf]; omega
    · have q1 : ¬ (k : Int) < (len : Int) := by omega
      clear HAT HAT2
      go_wp2_with fail
      go_ret
      exact ⟨rfl, HA.out⟩
set_option maxHeartbeats 1000000 in
theorem sbyt_any (base base' : Nat) (a a' : Option Addr) (len cap cap' : Nat) (zs : List Int) (w : World) (h : OwnsB w base (.slice a len cap) zs) (h' : OwnsB w base' (.slice a' len cap') zs) :
    Calls Try.prog 16 #[.slice a len cap, .slice a' len cap'] w fun e w' => e = .returned (.bool true) ∧ w = w' := by
  have key : ∀ (base : Nat) (a : Option Addr) (cap : Nat), OwnsB w base (.slice a len cap) zs → (convert 22 9 (.slice a len cap)).run Try.prog w = .ok (.string (strOfNums zs)) w := by
    intro base a cap h
    have hl := h.len
    obtain ⟨a', n', cap', h1, h0, h2, h3, h4, h5⟩ := h.form2
    simp only [Value.slice.injEq] at h1
    obtain ⟨rfl, rfl, rfl⟩ := h1
    cases a with
    | none =>
      obtain ⟨rfl, rfl⟩ := h5 rfl
      obtain rfl : zs = [] := List.eq_nil_of_length_eq_zero hl
      rw [run_convert_bytes_nil w 22 5 Try.underlying22 Try.underlying5 0 0 9 Try.underlying9]
      rfl
    | some x =>
      rcases h.2 with ⟨h', _⟩ | ⟨g', cap2, cur, h', _⟩
      · simp at h'
      · simp only [Value.slice.injEq, Option.some.injEq] at h'
        obtain ⟨rfl, _, rfl⟩ := h'
        exact run_convert_bytes_arg w 22 5 Try.underlying22 Try.underlying5 g' 0 len _ zs hl (fun i hi => AtB.el h.at_ (by omega)) 9 Try.underlying9
  have k1 := key base a cap h
  have k2 := key base' a' cap' h'
  clear key h h'
  go_enter Try.func16, Try.ntmps16
  go_wp2_with fail
  go_ret
  exact ⟨rb (by simp), rfl⟩
end Go.Proofs.Ytjjcahdieldmcaa
