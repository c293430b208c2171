/- Contracts of States and of the law's example. Condition: the list has at most 4611686018427387904 items. -/
import Derived.Test.YtfhnfakjjfjohaaC26n
import Derived.Test.YtfhnfakjjfjohaaC26q
namespace Go.Proofs.Ytfhnfakjjfjohaa
open Go.ChangeShapes Go.WideShapes Go.ChangeAt Go.RowKit
set_option linter.unusedVariables false
/-- A sum over items: f says what an item adds, if anything. -/
def S.smf (f : S.It → Option Int) (a : Int) (x : S.It) : Int := match f x with
  | none => a
  | some v => wrap64 (a + v)
def S.sm (f : S.It → Option Int) (l : List S.It) : Int := l.foldl (S.smf f) 0
theorem S.sm_step (f : S.It → Option Int) (l : List S.It) (k : Nat) (x : S.It) (h : l[k]? = some x) : S.sm f (l.take (k + 1)) = S.smf f (S.sm f (l.take k)) x := by
  unfold S.sm
  rw [List.take_add_one, h, List.foldl_append]; rfl
def S.pos (n : Int) : Int := if n < 0 then 0 else n
def S.f1 (x : S.It) : Option Int := if x.k = 1 then some (S.pos x.n) else none
def S.f2 (x : S.It) : Option Int := if x.k = 1 then some (S.pos x.w) else none
def S.f3 (x : S.It) : Option Int := if x.k = 2 then some (S.pos x.n) else none
def S.f4 (x : S.It) : Option Int := if x.k = 3 then some (S.pos x.n) else none
def S.f5 (x : S.It) : Option Int := if x.k = 4 then some (S.pos x.n) else none
set_option maxRecDepth 100000 in
set_option maxHeartbeats 4000000 in
theorem states_any (a : Option Addr) (len cap : Nat) (d : List S.It) (w : World) (h : HeldT w a len d) :
    Calls Try.prog 20 #[.slice a len cap] w fun e w' => e = .returned (.tuple #[.int .i64 (S.sm S.f1 d), .int .i64 (S.sm S.f2 d), .int .i64 (S.sm S.f3 d), .int .i64 (S.sm S.f4 d), .int .i64 (S.sm S.f5 d)]) ∧ Adds w w' := by
  obtain ⟨hl, hbig, hat⟩ := h
  have HL := Lib.hid hl
  have HAT := Lib.hid hat
  clear hl hat
  go_enter Try.func20, Try.ntmps20
  go_wp2_with fail
  go_loopw [2, 3, 4, 5, 6, 12] (fun v1 v2 v3 v4 v5 i wr => ∃ (k : Nat) (z1 z2 z3 z4 z5 : Int), k ≤ len ∧ (v1 = .int .i64 z1 ∧ v2 = .int .i64 z2 ∧ v3 = .int .i64 z3 ∧ v4 = .int .i64 z4 ∧ v5 = .int .i64 z5) ∧ i = .int .i64 (k : Int) ∧ Hid (z1 = S.sm S.f1 (d.take k) ∧ z2 = S.sm S.f2 (d.take k) ∧ z3 = S.sm S.f3 (d.take k) ∧ z4 = S.sm S.f4 (d.take k) ∧ z5 = S.sm S.f5 (d.take k)) ∧ Hid (Adds w wr)) (fun _ _ _ _ _ i _ => len - (intOf i).toNat)
  case atStart => exact ⟨0, 0, 0, 0, 0, 0, Nat.zero_le _, ⟨rfl, rfl, rfl, rfl, rfl⟩, rfl, ⟨rfl, rfl, rfl, rfl, rfl⟩, Adds.refl _⟩
  case round =>
    obtain ⟨k, z1, z2, z3, z4, z5, hk, ⟨rfl, rfl, rfl, rfl, rfl⟩, rfl, HV, HA⟩ := hrel
    rename World => w3
    have hw3 := HA.out.size
    by_cases hlt : k < len
    · obtain ⟨b, o, rfl, hb, hat⟩ := HAT.out (by omega)
      obtain ⟨x, hx⟩ := get_el (d := d) (k := k) (by have := HL.out; omega)
      have HX := Lib.hid hx
      have hL : (wholeVar 44 ⟨b, o + k * 9, none⟩).run Try.prog w3 = .ok (.agg #[.int .i64 x.k, .int .i64 x.c, .int .u16 x.a, .int .u8 x.d, .int .i64 x.s, .int .i64 x.w, .int .i64 x.n, .bool x.e, .bool x.o]) w3 := AtT.load (AtG.keep (w' := w3) hat fun i => HA.out.cell hb) hx _ rfl
      have q1 : (k : Int) < (len : Int) := by omega
      have en : (if x.n < 0 then 0 else x.n) = S.pos x.n := rfl
      have ew : (if x.w < 0 then 0 else x.w) = S.pos x.w := rfl
      have HV2 := Lib.hid (show ∀ f : S.It → Option Int, S.sm f (d.take (k + 1)) = S.smf f (S.sm f (d.take k)) x from fun f => S.sm_step f d k x hx)
      clear hat hx
      by_cases h1 : x.k = 1
      · go_wp2_with fail
        go_roundw
        case rel =>
          refine ⟨k + 1, _, _, _, _, _, by omega, ⟨rfl, rfl, rfl, rfl, rfl⟩, by go_num, ?_, HA.out.trans (by (repeat (first | with_reducible exact Adds.refl _ | with_reducible apply Adds.drew | with_reducible apply Adds.drewN | with_reducible apply Adds.alloc | with_reducible apply Adds.more | (with_reducible refine Adds.setCell ?_ ?_ _) | (focus (simp [go_sem]; done)) | (focus (simp [go_sem]; omega)))))⟩
          obtain ⟨e1, e2, e3, e4, e5⟩ := HV.out
          show _ ∧ _ ∧ _ ∧ _ ∧ _
          rw [HV2.out, HV2.out, HV2.out, HV2.out, HV2.out, ← e1, ← e2, ← e3, ← e4, ← e5]
          simp [S.smf, S.f1, S.f2, S.f3, S.f4, S.f5, h1]
        case measure => simp [intOf]; omega
      by_cases h2 : x.k = 2
      · go_wp2_with fail
        go_roundw
        case rel =>
          refine ⟨k + 1, _, _, _, _, _, by omega, ⟨rfl, rfl, rfl, rfl, rfl⟩, by go_num, ?_, HA.out.trans (by (repeat (first | with_reducible exact Adds.refl _ | with_reducible apply Adds.drew | with_reducible apply Adds.drewN | with_reducible apply Adds.alloc | with_reducible apply Adds.more | (with_reducible refine Adds.setCell ?_ ?_ _) | (focus (simp [go_sem]; done)) | (focus (simp [go_sem]; omega)))))⟩
          obtain ⟨e1, e2, e3, e4, e5⟩ := HV.out
          show _ ∧ _ ∧ _ ∧ _ ∧ _
          rw [HV2.out, HV2.out, HV2.out, HV2.out, HV2.out, ← e1, ← e2, ← e3, ← e4, ← e5]
          simp [S.smf, S.f1, S.f2, S.f3, S.f4, S.f5, h2]
        case measure => simp [intOf]; omega
      by_cases h3 : x.k = 3
      · go_wp2_with fail
        go_roundw
        case rel =>
          refine ⟨k + 1, _, _, _, _, _, by omega, ⟨rfl, rfl, rfl, rfl, rfl⟩, by go_num, ?_, HA.out.trans (by (repeat (first | with_reducible exact Adds.refl _ | with_reducible apply Adds.drew | with_reducible apply Adds.drewN | with_reducible apply Adds.alloc | with_reducible apply Adds.more | (with_reducible refine Adds.setCell ?_ ?_ _) | (focus (simp [go_sem]; done)) | (focus (simp [go_sem]; omega)))))⟩
          obtain ⟨e1, e2, e3, e4, e5⟩ := HV.out
          show _ ∧ _ ∧ _ ∧ _ ∧ _
          rw [HV2.out, HV2.out, HV2.out, HV2.out, HV2.out, ← e1, ← e2, ← e3, ← e4, ← e5]
          simp [S.smf, S.f1, S.f2, S.f3, S.f4, S.f5, h3]
        case measure => simp [intOf]; omega
      by_cases h4 : x.k = 4
      · go_wp2_with fail
        go_roundw
        case rel =>
          refine ⟨k + 1, _, _, _, _, _, by omega, ⟨rfl, rfl, rfl, rfl, rfl⟩, by go_num, ?_, HA.out.trans (by (repeat (first | with_reducible exact Adds.refl _ | with_reducible apply Adds.drew | with_reducible apply Adds.drewN | with_reducible apply Adds.alloc | with_reducible apply Adds.more | (with_reducible refine Adds.setCell ?_ ?_ _) | (focus (simp [go_sem]; done)) | (focus (simp [go_sem]; omega)))))⟩
          obtain ⟨e1, e2, e3, e4, e5⟩ := HV.out
          show _ ∧ _ ∧ _ ∧ _ ∧ _
          rw [HV2.out, HV2.out, HV2.out, HV2.out, HV2.out, ← e1, ← e2, ← e3, ← e4, ← e5]
          simp [S.smf, S.f1, S.f2, S.f3, S.f4, S.f5, h4]
        case measure => simp [intOf]; omega
      · go_wp2_with fail
        go_roundw
        case rel =>
          refine ⟨k + 1, _, _, _, _, _, by omega, ⟨rfl, rfl, rfl, rfl, rfl⟩, by go_num, ?_, HA.out.trans (by (repeat (first | with_reducible exact Adds.refl _ | with_reducible apply Adds.drew | with_reducible apply Adds.drewN | with_reducible apply Adds.alloc | with_reducible apply Adds.more | (with_reducible refine Adds.setCell ?_ ?_ _) | (focus (simp [go_sem]; done)) | (focus (simp [go_sem]; omega)))))⟩
          obtain ⟨e1, e2, e3, e4, e5⟩ := HV.out
          show _ ∧ _ ∧ _ ∧ _ ∧ _
          rw [HV2.out, HV2.out, HV2.out, HV2.out, HV2.out, ← e1, ← e2, ← e3, ← e4, ← e5]
          simp [S.smf, S.f1, S.f2, S.f3, S.f4, S.f5, h1, h2, h3, h4]
        case measure => simp [intOf]; omega
    · have q1 : ¬ (k : Int) < (len : Int) := by omega
      have HE := Lib.hid (show d.take k = d by rw [List.take_of_length_le (by have := HL.out; omega)])
      go_wp2_with fail
      refine bodyPost_ret (v := .tuple #[.int .i64 z1, .int .i64 z2, .int .i64 z3, .int .i64 z4, .int .i64 z5]) (by simp [results, Try.results20, go_sem]) rfl ⟨?_, HA.out⟩
      obtain ⟨e1, e2, e3, e4, e5⟩ := HV.out
      rw [e1, e2, e3, e4, e5, HE.out]
end Go.Proofs.Ytfhnfakjjfjohaa
