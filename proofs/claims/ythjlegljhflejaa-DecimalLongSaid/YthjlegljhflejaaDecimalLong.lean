/- The statement DecimalLongSaid of package tstatelaw6: for every input the law returns true, and its arguments read as before. No condition. -/
import Derived.Test.YthjlegljhflejaaRows
import Derived.Test.YthjlegljhflejaaM1
import Derived.Test.YthjlegljhflejaaS6b
import Derived.Test.YthjlegljhflejaaC6
import Derived.Test.YthjlegljhflejaaC3d
import Derived.Test.YthjlegljhflejaaCM
import Derived.WalkKit
import Derived.ProofKit
import Derived.OpenShut
import Derived.ShutString
import Derived.ChangeOld
import Derived.Below
import Derived.Carry
namespace Go.Proofs.Ythjlegljhflejaa.decimalLong
open Go.ChangeShapes Go.WideShapes Go.ChangeAt Go.RowKit
open Go.ChangeMaps (open_string shut_string)
set_option linter.unusedVariables false

theorem own : ownKnob Try.prog.godebug = none := by kernel_rfl
theorem laidOut : laidOutB Try.prog = true := by kernel_rfl

set_option maxHeartbeats 2000000 in
/-- The walk. -/
theorem walk (a0 : Option Addr) (len0 cap0 : Nat) (z0 : List Int) (a1 : Int) (a2 : Int) (w : World) (w0 : IsRow .i64 w a0 len0 cap0 z0) (w1 : (Lit.int .i64 a1).wf = true) (w2 : (Lit.int .i64 a2).wf = true) :
    Calls Try.prog 5 #[.slice a0 len0 cap0, .int .i64 a1, .int .i64 a2] w fun e w' => e = .returned (.bool true) ∧ Below w.heap.size w w' := by
  have bm := S.plc_bd a1 100000000 (by omega)
  have bn := S.plc_bd a2 100000000 (by omega)
  generalize hm : S.plc a1 100000000 = m at bm
  generalize hn : S.plc a2 100000000 = n at bn
  obtain ⟨m0, m1⟩ := bm
  obtain ⟨n0, n1⟩ := bn
  have z0' : S.ls m n 1 = 0 := by unfold S.ls; omega
  have z1 : S.lc m n 1 = false := by unfold S.lc; exact decide_eq_false (by omega)
  have le : Hid _ := S.ls_end m n m0 m1 n0 n1
  go_enter Try.func5, Try.ntmps5
  go_wp2_with (first | (go_at_call 11; refine (from_any _ _ _ _).mono ?_; rintro e w' ⟨rfl, rfl⟩) | (go_at_call 10; (with_reducible refine (chip_from a0 len0 cap0 z0 _ _ ?cb w0).mono ?_); (case cb => simp [go_sem]); rintro e w' ⟨rfl, ⟨⟨q1, os1⟩, rfl⟩⟩) | (go_at_call 12; refine (mplace_any _ _ (by decide) (by decide) _).mono ?_; rintro e w' ⟨rfl, rfl⟩; first | rw [hm] | rw [hn]))
  go_loopw [11, 12, 13, 14, 15] (fun s c i a b wr => ∃ (f1 f2 f3 f4 f5 f6 : Bool) (k E x y : Int), ((k = 0 ∧ E = 1 ∧ m = x ∧ n = y) ∨ (k = 1 ∧ E = 100 ∧ m / 100 = x ∧ n / 100 = y) ∨ (k = 2 ∧ E = 10000 ∧ m / 100 / 100 = x ∧ n / 100 / 100 = y) ∨ (k = 3 ∧ E = 1000000 ∧ m / 100 / 100 / 100 = x ∧ n / 100 / 100 / 100 = y) ∨ (k = 4 ∧ E = 100000000 ∧ m / 100 / 100 / 100 / 100 = x ∧ n / 100 / 100 / 100 / 100 = y)) ∧ s = .int .i64 (S.ls m n E) ∧ c = .int .i64 E ∧ i = .int .i64 k ∧ a = .int .i64 x ∧ b = .int .i64 y ∧ Adds ((More w q1 os1).alloc (.cells #[.bool f1, .bool f2, .bool f3, .bool f4, .bool f5, .bool f6, .bool (S.lc m n E)] 23)) wr) (fun _ _ i _ _ _ => 4 - (intOf i).toNat)
  case atStart => exact ⟨false, false, false, false, false, false, 0, 1, m, n, .inl ⟨rfl, rfl, rfl, rfl⟩, by rw [z0'], rfl, rfl, rfl, rfl, by rw [z1]; exact (by (repeat (first | with_reducible exact Adds.refl _ | with_reducible apply Adds.drew | with_reducible apply Adds.drewN | with_reducible apply Adds.alloc | with_reducible apply Adds.more | (with_reducible refine Adds.setCell ?_ ?_ _) | (focus (simp [go_sem]; done)) | (focus (simp [go_sem]; omega)))))⟩
  case round =>
    clear z0' z1
    obtain ⟨f1, f2, f3, f4, f5, f6, k, E, x, y, hk, rfl, rfl, rfl, rfl, rfl, ⟨⟨q2, os2⟩, rfl⟩⟩ := hrel
    rcases hk with ⟨rfl, rfl, rfl, rfl⟩ | ⟨rfl, rfl, rfl, rfl⟩ | ⟨rfl, rfl, rfl, rfl⟩ | ⟨rfl, rfl, rfl, rfl⟩ | ⟨rfl, rfl, rfl, rfl⟩
    · have hx : m / 1 % 100 = m % 100 := by omega
      have hy : n / 1 % 100 = n % 100 := by omega
      obtain ⟨l1, l2⟩ := S.ls_1 m n m0 n0
      rw [hx, hy] at l1 l2
      obtain ⟨e1, e2⟩ := S.dig_adds (m % 100) (n % 100) (S.lc m n 1) (by omega) (by omega) (by omega) (by omega)
      rw [l2] at e2
      have hw := S.dig_go100 m (by omega)
      have hv := S.dig_go100 n (by omega)
      obtain ⟨d0, d1⟩ := S.dig_bd (m % 100) (by omega) (by omega)
      obtain ⟨d2, d3⟩ := S.dig_bd (n % 100) (by omega) (by omega)
      have hz0 : 0 ≤ (m % 100 + n % 100 + S.one (S.lc m n 1)) % 100 := by omega
      have hz1 : (m % 100 + n % 100 + S.one (S.lc m n 1)) % 100 < 100 := by omega
      generalize (m % 100 + n % 100 + S.one (S.lc m n 1)) % 100 = Z at *
      obtain ⟨g0, g1⟩ := S.dig_bd Z hz0 hz1
      have hb := S.dig_back Z hz0 hz1
      have s0 : 0 ≤ S.ls m n 1 ∧ S.ls m n 1 < 1 := by unfold S.ls; omega
      have xb : 0 ≤ m ∧ m < 100000000 := by omega
      have yb : 0 ≤ n ∧ n < 100000000 := by omega
      generalize hX : S.dig (m % 100) = D1 at *
      generalize hY : S.dig (n % 100) = D2 at *
      obtain ⟨r0, r1⟩ := S.sumR_bd D1 D2 (S.lc m n 1)
      obtain ⟨h1, h2, h3, h4, h5, h6⟩ := S.al1 (op := 1) rfl (S.chip len0 z0) D1 D2 (S.lc m n 1)
      clear h1 h4 h5 l2 hx hy hX hY
      go_wp2_with (first | (go_at_call 13; refine (do_any _ _ _ _ _ _ _ _ _ _ _ d0 d1 d2 d3 _).mono ?_; rintro e w' ⟨rfl, ⟨⟨q3, os3⟩, rfl⟩⟩) | (go_at_call 7; refine (daa_any _ _ _ _ _ _ _ _ _ r0 r1 _).mono ?_; rintro e w' ⟨rfl, ⟨⟨q4, os4⟩, rfl⟩⟩))
      go_roundw
      case rel => exact ⟨_, _, _, _, _, _, 1, 100, m / 100, n / 100, by simp, by rw [← l1]; try simp, rfl, rfl, rfl, rfl, by (repeat (first | with_reducible exact Adds.refl _ | with_reducible apply Adds.drew | with_reducible apply Adds.drewN | with_reducible apply Adds.alloc | with_reducible apply Adds.more | (with_reducible refine Adds.setCell ?_ ?_ _) | (focus (simp [go_sem]; done)) | (focus (simp [go_sem]; omega))))⟩
      case measure => simp [intOf]
    · have hx : m / 100 % 100 = (m / 100) % 100 := by omega
      have hy : n / 100 % 100 = (n / 100) % 100 := by omega
      obtain ⟨l1, l2⟩ := S.ls_100 m n m0 n0
      rw [hx, hy] at l1 l2
      obtain ⟨e1, e2⟩ := S.dig_adds ((m / 100) % 100) ((n / 100) % 100) (S.lc m n 100) (by omega) (by omega) (by omega) (by omega)
      rw [l2] at e2
      have hw := S.dig_go100 (m / 100) (by omega)
      have hv := S.dig_go100 (n / 100) (by omega)
      obtain ⟨d0, d1⟩ := S.dig_bd ((m / 100) % 100) (by omega) (by omega)
      obtain ⟨d2, d3⟩ := S.dig_bd ((n / 100) % 100) (by omega) (by omega)
      have hz0 : 0 ≤ ((m / 100) % 100 + (n / 100) % 100 + S.one (S.lc m n 100)) % 100 := by omega
      have hz1 : ((m / 100) % 100 + (n / 100) % 100 + S.one (S.lc m n 100)) % 100 < 100 := by omega
      generalize ((m / 100) % 100 + (n / 100) % 100 + S.one (S.lc m n 100)) % 100 = Z at *
      obtain ⟨g0, g1⟩ := S.dig_bd Z hz0 hz1
      have hb := S.dig_back Z hz0 hz1
      have s0 : 0 ≤ S.ls m n 100 ∧ S.ls m n 100 < 100 := by unfold S.ls; omega
      have xb : 0 ≤ (m / 100) ∧ (m / 100) < 100000000 := by omega
      have yb : 0 ≤ (n / 100) ∧ (n / 100) < 100000000 := by omega
      generalize hX : S.dig ((m / 100) % 100) = D1 at *
      generalize hY : S.dig ((n / 100) % 100) = D2 at *
      obtain ⟨r0, r1⟩ := S.sumR_bd D1 D2 (S.lc m n 100)
      obtain ⟨h1, h2, h3, h4, h5, h6⟩ := S.al1 (op := 1) rfl (S.chip len0 z0) D1 D2 (S.lc m n 100)
      clear h1 h4 h5 l2 hx hy hX hY
      go_wp2_with (first | (go_at_call 13; refine (do_any _ _ _ _ _ _ _ _ _ _ _ d0 d1 d2 d3 _).mono ?_; rintro e w' ⟨rfl, ⟨⟨q3, os3⟩, rfl⟩⟩) | (go_at_call 7; refine (daa_any _ _ _ _ _ _ _ _ _ r0 r1 _).mono ?_; rintro e w' ⟨rfl, ⟨⟨q4, os4⟩, rfl⟩⟩))
      go_roundw
      case rel => exact ⟨_, _, _, _, _, _, 2, 10000, (m / 100) / 100, (n / 100) / 100, by simp, by rw [← l1]; try simp, rfl, rfl, rfl, rfl, by (repeat (first | with_reducible exact Adds.refl _ | with_reducible apply Adds.drew | with_reducible apply Adds.drewN | with_reducible apply Adds.alloc | with_reducible apply Adds.more | (with_reducible refine Adds.setCell ?_ ?_ _) | (focus (simp [go_sem]; done)) | (focus (simp [go_sem]; omega))))⟩
      case measure => simp [intOf]
    · have hx : m / 10000 % 100 = (m / 100 / 100) % 100 := by omega
      have hy : n / 10000 % 100 = (n / 100 / 100) % 100 := by omega
      obtain ⟨l1, l2⟩ := S.ls_10000 m n m0 n0
      rw [hx, hy] at l1 l2
      obtain ⟨e1, e2⟩ := S.dig_adds ((m / 100 / 100) % 100) ((n / 100 / 100) % 100) (S.lc m n 10000) (by omega) (by omega) (by omega) (by omega)
      rw [l2] at e2
      have hw := S.dig_go100 (m / 100 / 100) (by omega)
      have hv := S.dig_go100 (n / 100 / 100) (by omega)
      obtain ⟨d0, d1⟩ := S.dig_bd ((m / 100 / 100) % 100) (by omega) (by omega)
      obtain ⟨d2, d3⟩ := S.dig_bd ((n / 100 / 100) % 100) (by omega) (by omega)
      have hz0 : 0 ≤ ((m / 100 / 100) % 100 + (n / 100 / 100) % 100 + S.one (S.lc m n 10000)) % 100 := by omega
      have hz1 : ((m / 100 / 100) % 100 + (n / 100 / 100) % 100 + S.one (S.lc m n 10000)) % 100 < 100 := by omega
      generalize ((m / 100 / 100) % 100 + (n / 100 / 100) % 100 + S.one (S.lc m n 10000)) % 100 = Z at *
      obtain ⟨g0, g1⟩ := S.dig_bd Z hz0 hz1
      have hb := S.dig_back Z hz0 hz1
      have s0 : 0 ≤ S.ls m n 10000 ∧ S.ls m n 10000 < 10000 := by unfold S.ls; omega
      have xb : 0 ≤ (m / 100 / 100) ∧ (m / 100 / 100) < 100000000 := by omega
      have yb : 0 ≤ (n / 100 / 100) ∧ (n / 100 / 100) < 100000000 := by omega
      generalize hX : S.dig ((m / 100 / 100) % 100) = D1 at *
      generalize hY : S.dig ((n / 100 / 100) % 100) = D2 at *
      obtain ⟨r0, r1⟩ := S.sumR_bd D1 D2 (S.lc m n 10000)
      obtain ⟨h1, h2, h3, h4, h5, h6⟩ := S.al1 (op := 1) rfl (S.chip len0 z0) D1 D2 (S.lc m n 10000)
      clear h1 h4 h5 l2 hx hy hX hY
      go_wp2_with (first | (go_at_call 13; refine (do_any _ _ _ _ _ _ _ _ _ _ _ d0 d1 d2 d3 _).mono ?_; rintro e w' ⟨rfl, ⟨⟨q3, os3⟩, rfl⟩⟩) | (go_at_call 7; refine (daa_any _ _ _ _ _ _ _ _ _ r0 r1 _).mono ?_; rintro e w' ⟨rfl, ⟨⟨q4, os4⟩, rfl⟩⟩))
      go_roundw
      case rel => exact ⟨_, _, _, _, _, _, 3, 1000000, (m / 100 / 100) / 100, (n / 100 / 100) / 100, by simp, by rw [← l1]; try simp, rfl, rfl, rfl, rfl, by (repeat (first | with_reducible exact Adds.refl _ | with_reducible apply Adds.drew | with_reducible apply Adds.drewN | with_reducible apply Adds.alloc | with_reducible apply Adds.more | (with_reducible refine Adds.setCell ?_ ?_ _) | (focus (simp [go_sem]; done)) | (focus (simp [go_sem]; omega))))⟩
      case measure => simp [intOf]
    · have hx : m / 1000000 % 100 = (m / 100 / 100 / 100) % 100 := by omega
      have hy : n / 1000000 % 100 = (n / 100 / 100 / 100) % 100 := by omega
      obtain ⟨l1, l2⟩ := S.ls_1000000 m n m0 n0
      rw [hx, hy] at l1 l2
      obtain ⟨e1, e2⟩ := S.dig_adds ((m / 100 / 100 / 100) % 100) ((n / 100 / 100 / 100) % 100) (S.lc m n 1000000) (by omega) (by omega) (by omega) (by omega)
      rw [l2] at e2
      have hw := S.dig_go100 (m / 100 / 100 / 100) (by omega)
      have hv := S.dig_go100 (n / 100 / 100 / 100) (by omega)
      obtain ⟨d0, d1⟩ := S.dig_bd ((m / 100 / 100 / 100) % 100) (by omega) (by omega)
      obtain ⟨d2, d3⟩ := S.dig_bd ((n / 100 / 100 / 100) % 100) (by omega) (by omega)
      have hz0 : 0 ≤ ((m / 100 / 100 / 100) % 100 + (n / 100 / 100 / 100) % 100 + S.one (S.lc m n 1000000)) % 100 := by omega
      have hz1 : ((m / 100 / 100 / 100) % 100 + (n / 100 / 100 / 100) % 100 + S.one (S.lc m n 1000000)) % 100 < 100 := by omega
      generalize ((m / 100 / 100 / 100) % 100 + (n / 100 / 100 / 100) % 100 + S.one (S.lc m n 1000000)) % 100 = Z at *
      obtain ⟨g0, g1⟩ := S.dig_bd Z hz0 hz1
      have hb := S.dig_back Z hz0 hz1
      have s0 : 0 ≤ S.ls m n 1000000 ∧ S.ls m n 1000000 < 1000000 := by unfold S.ls; omega
      have xb : 0 ≤ (m / 100 / 100 / 100) ∧ (m / 100 / 100 / 100) < 100000000 := by omega
      have yb : 0 ≤ (n / 100 / 100 / 100) ∧ (n / 100 / 100 / 100) < 100000000 := by omega
      generalize hX : S.dig ((m / 100 / 100 / 100) % 100) = D1 at *
      generalize hY : S.dig ((n / 100 / 100 / 100) % 100) = D2 at *
      obtain ⟨r0, r1⟩ := S.sumR_bd D1 D2 (S.lc m n 1000000)
      obtain ⟨h1, h2, h3, h4, h5, h6⟩ := S.al1 (op := 1) rfl (S.chip len0 z0) D1 D2 (S.lc m n 1000000)
      clear h1 h4 h5 l2 hx hy hX hY
      go_wp2_with (first | (go_at_call 13; refine (do_any _ _ _ _ _ _ _ _ _ _ _ d0 d1 d2 d3 _).mono ?_; rintro e w' ⟨rfl, ⟨⟨q3, os3⟩, rfl⟩⟩) | (go_at_call 7; refine (daa_any _ _ _ _ _ _ _ _ _ r0 r1 _).mono ?_; rintro e w' ⟨rfl, ⟨⟨q4, os4⟩, rfl⟩⟩))
      go_roundw
      case rel => exact ⟨_, _, _, _, _, _, 4, 100000000, (m / 100 / 100 / 100) / 100, (n / 100 / 100 / 100) / 100, by simp, by rw [← l1]; try simp, rfl, rfl, rfl, rfl, by (repeat (first | with_reducible exact Adds.refl _ | with_reducible apply Adds.drew | with_reducible apply Adds.drewN | with_reducible apply Adds.alloc | with_reducible apply Adds.more | (with_reducible refine Adds.setCell ?_ ?_ _) | (focus (simp [go_sem]; done)) | (focus (simp [go_sem]; omega))))⟩
      case measure => simp [intOf]
    · have le := le.out
      have s0 : 0 ≤ S.ls m n 100000000 ∧ S.ls m n 100000000 < 100000000 := by unfold S.ls; omega
      have ho := S.one_bd (S.lc m n 100000000)
      go_wp2_with (first | (go_at_call 14; refine (one_any _ _).mono ?_; rintro e w' ⟨rfl, rfl⟩) | (go_at_call 9; refine (known6_any _).mono ?_; rintro e w' ⟨rfl, ⟨⟨n1, os1⟩, rfl⟩⟩))
      go_ret
      exact ⟨rfl, Adds.below (by (repeat (first | with_reducible exact Adds.refl _ | with_reducible apply Adds.drew | with_reducible apply Adds.drewN | with_reducible apply Adds.alloc | with_reducible apply Adds.more | (with_reducible refine Adds.setCell ?_ ?_ _) | (focus (simp [go_sem]; done)) | (focus (simp [go_sem]; omega)))))⟩

set_option maxRecDepth 100000 in
theorem lifted (os : Os) (started : os.Started) (H : Type) (enc : TypeId × Value → H) :
    ReturnsInHanded {} Try.checked os 5 .any (Rows.decimalLongSpec.pre6 enc Try.prog Try.f5 Rows.decimalLongRow.domain false) (Rows.decimalLongSpec.post enc Try.prog Try.f5 false true false false) := by
  refine returnsInHanded_of_change (C := Try.checked) own started (by kernel_rfl) Try.func5
    (ChangeSpec.witness6 (enc := enc) (C := Try.checked) false ⟨#[], #[.slice none 0 0, .int .i64 0, .int .i64 0], []⟩ 8 (by kernel_rfl) (by kernel_rfl) (by kernel_rfl) (by kernel_rfl)) ?_
  intro W base args ds gs before hval0 hW hcnd _
  have hval : ∀ (j : Nat) t v, Try.f5.params[j]? = some t → args[j]? = some v → Value.okWide Try.prog W .any base t v := hval0
  have hW' := hW
  obtain ⟨p, q, hA0, hV, rfl, hfz, hnd⟩ := hW
  have hA : DataW.TrodAll enc Try.prog W 0 (fun _ => true) true Try.f5.params.toList args.toList ds p := hA0
  rw [Try.params5] at hA hval
  obtain ⟨v0, vs0, d0, ds0, p0, q0, hargs, rfl, rfl, h0, r0⟩ := trodAll_cons hA
  obtain ⟨v1, vs1, d1, ds1, p1, q1, rfl, rfl, rfl, h1, r1⟩ := trodAll_cons r0
  obtain ⟨v2, vs2, d2, ds2, p2, q2, rfl, rfl, rfl, h2, r2⟩ := trodAll_cons r1
  obtain ⟨rfl, rfl, rfl⟩ := trodAll_nil r2
  obtain rfl : args = #[v0, v1, v2] := by cases args; simp_all
  obtain ⟨rfl, rfl⟩ := trodVars_none hV
  have k0 := h0
  have lt0 : ∀ x ∈ p0, x.block < W.heap.size := by obtain ⟨m, hm⟩ := k0; exact DataW.trod_lt m _ _ _ hm
  obtain ⟨a0, len0, cap0, rfl⟩ := okWide_slice Try.underlying29 (hval 0 29 v0 rfl rfl)
  obtain ⟨z0, w0⟩ : ∃ zs, IsRow .i64 W a0 len0 cap0 zs := by
    obtain ⟨fuel, hf⟩ := h0
    rcases open_ints Try.underlying29 Try.underlying3 (by kernel_rfl) hf with ⟨hcs, _⟩ | ⟨x, l, c, zs, hcs, _, hl, hm, hz, _, hcell, hwz⟩
    · simp [Value.cells] at hcs
      obtain ⟨rfl, rfl, rfl⟩ := hcs
      exact ⟨[], .inl ⟨rfl, rfl, rfl, rfl⟩⟩
    · simp [Value.cells] at hcs
      obtain ⟨rfl, rfl, rfl⟩ := hcs
      exact ⟨zs, .inr ⟨_, rfl, hl, hm, by simpa using hz, hcell, hwz⟩⟩
  have k1 := h1
  have lt1 : ∀ x ∈ p1, x.block < W.heap.size := by obtain ⟨m, hm⟩ := k1; exact DataW.trod_lt m _ _ _ hm
  obtain ⟨a1, rfl, -, -, w1⟩ := open_int Try.underlying3 (hval 1 3 v1 rfl rfl) h1
  have k2 := h2
  have lt2 : ∀ x ∈ p2, x.block < W.heap.size := by obtain ⟨m, hm⟩ := k2; exact DataW.trod_lt m _ _ _ hm
  obtain ⟨a2, rfl, -, -, w2⟩ := open_int Try.underlying3 (hval 2 3 v2 rfl rfl) h2
  clear hA0 hval0
  refine (walk a0 len0 cap0 z0 a1 a2 W w0 w1 w2).mono fun e W' ⟨he, bel⟩ => ?_
  subst he
  exact ⟨_, rfl, _, _, _, [], _, [], hW', trodAll_mk1 (shut_bool Try.underlying4 _), (trodAll_cons_mk (Below.trod laidOut (by kernel_rfl) (of_decide_eq_true (by kernel_rfl)) k0 bel lt0) (trodAll_cons_mk (Below.trod laidOut (by kernel_rfl) (of_decide_eq_true (by kernel_rfl)) k1 bel lt1) (trodAll_cons_mk (Below.trod laidOut (by kernel_rfl) (of_decide_eq_true (by kernel_rfl)) k2 bel lt2) trodAll_mk0))), rfl, bel.frame _, fun h => by cases h⟩

theorem over : Rows.decimalLongRow.holds Try.pinned (OpenSpec.ofChange Rows.decimalLongSpec) :=
  OpenClaim.holds_of_wide 5 Try.f5 rfl rfl rfl rfl rfl rfl rfl ⟨rfl, rfl, rfl, rfl, rfl⟩ rfl rfl rfl rfl rfl (by kernel_rfl) Try.func5 (by kernel_rfl)
    (of_decide_eq_true (by kernel_rfl)) (by unfold Func.isWrapper; first | (rw [if_pos (by decide +kernel)]; kernel_rfl) | (rw [if_neg (by decide +kernel)]; exact ⟨rfl, rfl⟩))
    (fun os started H enc _ => lifted os started H enc)

/-- The statement. -/
theorem proved : Rows.DecimalLongSaid := over
#print axioms proved
end Go.Proofs.Ythjlegljhflejaa.decimalLong
