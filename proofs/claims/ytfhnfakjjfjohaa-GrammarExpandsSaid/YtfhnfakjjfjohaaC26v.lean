/- Contracts of what makes a law's items: light (its yes says that there are at most 60), made (some items, at most 11, in a slice of the call's own). Conditions: the numbers' list lies in a slice. -/
import Derived.Test.YtfhnfakjjfjohaaCN
import Derived.Test.YtfhnfakjjfjohaaMT
import Derived.Test.YtfhnfakjjfjohaaMW
import Derived.Deep.RegionHeld3
namespace Go.Proofs.Ytfhnfakjjfjohaa
open Go.ChangeShapes Go.WideShapes Go.ChangeAt Go.RowKit
set_option linter.unusedVariables false
/-- What light tells. -/
def LightPost (len : Nat) (w : World) (e : Ending) (w' : World) : Prop := ∃ r : Bool, e = .returned (.bool r) ∧ (r = true → len ≤ 60) ∧ Adds w w'
set_option maxRecDepth 100000 in
set_option maxHeartbeats 2000000 in
theorem light_any (a : Option Addr) (len cap : Nat) (d : List S.It) (hc : len ≤ cap) (hcap : cap ≤ 9223372036854775807) (w : World) (h : ArgT w a len d) :
    Calls Try.prog 7 #[.slice a len cap] w (LightPost len w) := by
  obtain ⟨hl, hat⟩ := h
  have HL := Lib.hid hl
  have HAT := Lib.hid hat
  clear hl hat
  go_enter Try.func7, Try.ntmps7
  go_wp2_with fail
  go_loopw [3, 8] (fun v i wr => ∃ (k : Nat) (z : Int), k ≤ len ∧ v = .int .i64 z ∧ i = .int .i64 (k : Int) ∧ Hid (Adds w wr)) (fun _ i _ => len - (intOf i).toNat)
  case atStart => exact ⟨0, 0, Nat.zero_le _, rfl, rfl, Adds.refl _⟩
  case round =>
    obtain ⟨k, z, hk, rfl, rfl, HA⟩ := hrel
    rename World => w3
    have hw3 := HA.out.size
    by_cases hlt : k < len
    · obtain ⟨b, o, rfl, hb, hat⟩ := HAT.out (by omega)
      obtain ⟨x, hx⟩ := get_el (d := d) (k := k) (by have := HL.out; omega)
      have hL : (wholeVar 44 ⟨b, o + k * 9, none⟩).run Try.prog w3 = .ok (.agg #[.int .i64 x.k, .int .i64 x.c, .int .u16 x.a, .int .u8 x.d, .int .i64 x.s, .int .i64 x.w, .int .i64 x.n, .bool x.e, .bool x.o]) w3 := AtT.load (AtG.keep (w' := w3) hat fun i => HA.out.cell hb) hx _ rfl
      have q1 : (k : Int) < (len : Int) := by omega
      obtain ⟨y1, e1⟩ : ∃ y, (if 1000 < x.n then 1000 else x.n) = y := ⟨_, rfl⟩
      obtain ⟨y2, e2⟩ : ∃ y, (if 0 < y1 then y1 else 0) = y := ⟨_, rfl⟩
      obtain ⟨y3, e3⟩ : ∃ y, (if 1000 < x.w then 1000 else x.w) = y := ⟨_, rfl⟩
      obtain ⟨y4, e4⟩ : ∃ y, (if 0 < y3 then y3 else 0) = y := ⟨_, rfl⟩
      clear hat hx
      go_wp2_with fail
      go_roundw
      case rel => exact ⟨k + 1, _, by omega, rfl, by go_num, HA.out.trans (by (repeat (first | with_reducible exact Adds.refl _ | with_reducible apply Adds.drew | with_reducible apply Adds.drewN | with_reducible apply Adds.alloc | with_reducible apply Adds.more | (with_reducible refine Adds.setCell ?_ ?_ _) | (focus (simp [go_sem]; done)) | (focus (simp [go_sem]; omega)))))⟩
      case measure => simp [intOf]; omega
    · have q1 : ¬ (k : Int) < (len : Int) := by omega
      by_cases h60 : len ≤ 60
      · cases hz : decide (z ≤ 900)
        all_goals
          have q2 : (len : Int) ≤ 60 := by omega
          clear HAT
          go_wp2_with fail
          go_ret
          exact ⟨_, rfl, fun _ => h60, HA.out⟩
      · have q2 : ¬ (len : Int) ≤ 60 := by omega
        clear HAT
        go_wp2_with fail
        go_ret
        exact ⟨false, rfl, (fun h => by cases h), HA.out⟩
end Go.Proofs.Ytfhnfakjjfjohaa
