/- The statement ScriptDamageSaid of package tstatelaw24: for every input the law returns true, and its arguments read as before. No condition. -/
import Derived.Test.YtjjcahdieldmcaaRows
import Derived.Test.YtjjcahdieldmcaaM1
import Derived.Test.YtjjcahdieldmcaaCM
import Derived.Test.YtjjcahdieldmcaaC24d
import Derived.Test.YtjjcahdieldmcaaC24f
import Derived.Test.YtjjcahdieldmcaaC24h
import Derived.Test.YtjjcahdieldmcaaC24n
import Derived.Test.YtjjcahdieldmcaaC24k
import Derived.WalkKit
import Derived.ProofKit
import Derived.OpenShut
import Derived.ShutString
import Derived.ChangeOld
import Derived.Below
import Derived.Carry
namespace Go.Proofs.Ytjjcahdieldmcaa.scriptDamage
open Go.ChangeShapes Go.WideShapes Go.ChangeAt Go.RowKit
open Go.ChangeMaps (open_string shut_string)
set_option linter.unusedVariables false

theorem own : ownKnob Try.prog.godebug = none := by kernel_rfl
theorem laidOut : laidOutB Try.prog = true := by kernel_rfl

set_option maxRecDepth 100000 in
set_option maxHeartbeats 2000000 in
/-- The walk. -/
theorem walk (a0 : Option Addr) (len0 cap0 : Nat) (z0 : List Int) (a1 : Int) (a2 : Int) (w : World) (w0 : IsRow .i64 w a0 len0 cap0 z0) (w1 : (Lit.int .i64 a1).wf = true) (w2 : (Lit.int .u8 a2).wf = true) :
    Calls Try.prog 6 #[.slice a0 len0 cap0, .int .i64 a1, .int .u8 a2] w fun e w' => e = .returned (.bool true) ∧ Below w.heap.size w w' := by
  by_cases h200 : 200 < len0
  · clear w0
    go_enter Try.func6, Try.ntmps6
    go_wp2_with (go_at_call 8; refine (known24 _).mono ?_; rintro e w' ⟨rfl, hK⟩)
    go_ret
    exact ⟨rfl, hK.below⟩
  by_cases hz : a2 = 0
  · subst hz
    clear w0
    go_enter Try.func6, Try.ntmps6
    go_wp2_with (go_at_call 8; refine (known24 _).mono ?_; rintro e w' ⟨rfl, hK⟩)
    go_ret
    exact ⟨rfl, hK.below⟩
  have hy0 : (a2 == 0) = false := by simpa using hz
  have HY := Lib.hid (show S.byt a2 from ⟨(bounds_u8 w2).1, Int.lt_add_one_of_le (bounds_u8 w2).2⟩)
  have HZ := Lib.hid hz
  have HS := Lib.hid (show Calls Try.prog 21 #[.pointer (some ⟨w.heap.size, 0, none⟩), .int .i64 30] (w.alloc (.cells #[.slice a0 len0 cap0, .int .i64 0] 46)) (InpsPost w.heap.size len0 cap0 0 a0 30 _) from inps_mk w.heap.size len0 cap0 0 a0 30 (by omega) (by omega) _ (Nb.from rfl w0 (by omega)))
  clear w0 w1 w2 hz
  go_enter Try.func6, Try.ntmps6
  go_upto_region 5 with (first
    | (go_at_call 10; (with_reducible refine (from_any a0 len0 cap0 w).mono ?_); rintro e w' ⟨rfl, rfl⟩)
    | (go_at_call 21; (with_reducible refine HS.out.mono ?_); rintro e w2 ⟨r, xs, N2, rfl, hO2, hl2, hK2, hN2, hB2, hG2⟩; obtain ⟨ad2, n2, c2, rfl, hn2, hc21, hc22, -, -⟩ := hO2.form2; have hn2' : n2 ≤ 30 := (by have := hn2.out; omega); have A2 := Lib.hid (box_adds24 hG2); have X2 := Lib.hid hO2; have HK := Lib.hid hK2; clear hO2 hl2 hK2 hN2 hB2 hG2)
    | (go_at_call 17; (with_reducible refine (enc_any ad2 n2 c2 xs w2 (OwnsG.held X2.out (by have := hn2.out; omega)) hc21 hc22 (by omega)).mono ?_); rintro e w3 ⟨r, rfl, hO3, hA3⟩; rw [S.enc_small (by have := hn2.out; omega)] at hO3; obtain ⟨ad3, n3, c3, rfl, hn3, hc31, hc32, -, -⟩ := hO3.form2; have A3 := Lib.hid hA3; have X3 := Lib.hid hO3; clear hO3 hA3))
  have hn34 : n3 = n2 * 4 := by have h1 := hn3.out; have h2 := hn2.out; rw [S.encs_len] at h1; omega
  by_cases h0 : n2 = 0
  · subst h0
    obtain rfl : n3 = 0 := by omega
    clear hn34
    go_wp2_with (go_at_call 8; (with_reducible refine (known24 _).mono ?_); rintro e w4 ⟨rfl, A4⟩)
    go_ret
    exact ⟨rfl, ((A2.out.trans A3.out).trans A4).below⟩
  · have e1 : ((n2 : Int) == 0) = false := by simpa using h0
    have e2 : ((n3 : Int) != 4 * (n2 : Int)) = false := by simp; omega
    have hp : 0 < n3 := by omega
    have hpz : (0 : Int) < (n3 : Int) := by omega
    obtain ⟨gm, rfl, hm1, hm2⟩ := X2.out.head (by omega)
    obtain ⟨gb, rfl, hb1, hb2⟩ := X3.out.head (by omega)
    obtain ⟨k, hk⟩ : ∃ k : Nat, S.plc a1 (n3 : Int) = (k : Int) := ⟨(S.plc a1 (n3 : Int)).toNat, by have := S.plc_bd a1 (n3 : Int) (by omega); omega⟩
    have hkn : k < n3 := by have := S.plc_bd a1 (n3 : Int) (by omega); omega
    obtain ⟨q, hq⟩ : ∃ q, q = k / 4 := ⟨_, rfl⟩
    have hqn : q < n2 := by omega
    have HP := Lib.hid (mplace_any a1 (n3 : Int) (by omega) (by omega))
    rw [hk] at HP
    obtain ⟨zk, hzk⟩ : ∃ zk, (S.encs xs).getD k 0 = zk := ⟨_, rfl⟩
    have c3k : w3.cell? ⟨gb, k, none⟩ = some (.int .u8 zk) := by have := AtB.el (OwnsG.at_ X3.out) (j := k) (by have := hn3.out; omega); rwa [Nat.zero_add, hzk] at this
    have f3k := OwnsG.frozen X3.out k
    have HH := Lib.hid (S.dec_hurt (l := xs) (by have := hn2.out; omega) HK.out (k := k) (by have := hn2.out; omega) HY.out HZ.out)
    rw [hzk, ← hq] at HH
    have HQ := Lib.hid hq
    have hkz : (k : Int) / 4 = (q : Int) := by omega
    have hkt : (k : Int) < (n3 : Int) := by omega
    have hqt : (q : Int) < (n2 : Int) := by omega
    have hs2 := A2.out.size
    have hn120 : n3 ≤ 120 := by omega
    have HSB := Lib.hid (OwnsB.store X3.out k (bits .xor .u8 zk a2))
    clear hk hzk hq h0 hn34
    go_wp2_with (first
      | (go_at_call 22; (with_reducible refine (HP.out _).mono ?_); rintro e w' ⟨rfl, rfl⟩)
      | (go_at_call 14; (with_reducible refine (idle_any _).mono ?_); rintro e w4 ⟨rfl, hA4⟩; have A4 := Lib.hid hA4; obtain ⟨w5, hS5, hO5, hG5⟩ := OwnsI.store (OwnsG.adds (OwnsG.kept2 (X2.out.adds A3.out) HSB.out.2 (.inr (fun e => by injection e with e; have e : gm = gb := e; omega))) hA4) q hqn S.idle; have X5 := Lib.hid hO5; have G5 := Lib.hid hG5; have XB5 := Lib.hid ((HSB.out.1.adds hA4).kept hG5 (fun g e => by injection e with e; omega)); clear hA4 hO5 hG5)
      | (go_at_call 12; (with_reducible refine (dec_any (some ⟨gb, 0, none⟩) n3 c3 ((S.encs xs).set k (bits .xor .u8 zk a2)) w5 (OwnsG.held XB5.out (by have := XB5.out.len; omega)) hc31 hc32 (by omega)).mono ?_); rintro e w6 ⟨r, rfl, hO6, hA6⟩; rw [HH.out] at hO6; obtain ⟨ad6, n6, c6, rfl, hn6, -, -, -, -⟩ := hO6.form2; have A6 := Lib.hid hA6; obtain rfl : n6 = n2 := (by have h1 := hn6.out; have h2 := hn2.out; rw [List.length_set] at h1; omega); have X6 := Lib.hid (OwnsG.held hO6 (by have := hn6.out; omega)); clear hO6 hA6)
      | (go_at_call 11; (with_reducible refine (sinp_any ad6 (some ⟨gm, 0, none⟩) n6 c6 c2 (xs.set q S.idle) w6 X6.out ((OwnsG.held X5.out (by have := X5.out.len; omega)).adds A6.out)).mono ?_); rintro e w7 ⟨rfl, hA7⟩; have A7 := Lib.hid hA7; clear hA7)
      | (go_at_call 8; (with_reducible refine (known24 w7).mono ?_); rintro e w8 ⟨rfl, A8⟩))
    go_ret
    exact ⟨rfl, (((Adds.of_grown (((A2.out.trans A3.out).of_grown HSB.out.2 (by omega)).trans A4.out) G5.out (by simp at hm1; omega)).trans A6.out).trans A7.out |>.trans A8).below⟩

set_option maxRecDepth 100000 in
theorem lifted (os : Os) (started : os.Started) (H : Type) (enc : TypeId × Value → H) :
    ReturnsInHanded {} Try.checked os 6 .any (Rows.scriptDamageSpec.pre6 enc Try.prog Try.f6 Rows.scriptDamageRow.domain false) (Rows.scriptDamageSpec.post enc Try.prog Try.f6 false true false false) := by
  refine returnsInHanded_of_change (C := Try.checked) own started (by kernel_rfl) Try.func6
    (ChangeSpec.witness6 (enc := enc) (C := Try.checked) false ⟨#[], #[.slice none 0 0, .int .i64 0, .int .u8 0], []⟩ 8 (by kernel_rfl) (by kernel_rfl) (by kernel_rfl) (by kernel_rfl)) ?_
  intro W base args ds gs before hval0 hW hcnd _
  have hval : ∀ (j : Nat) t v, Try.f6.params[j]? = some t → args[j]? = some v → Value.okWide Try.prog W .any base t v := hval0
  have hW' := hW
  obtain ⟨p, q, hA0, hV, rfl, hfz, hnd⟩ := hW
  have hA : DataW.TrodAll enc Try.prog W 0 (fun _ => true) true Try.f6.params.toList args.toList ds p := hA0
  rw [Try.params6] at hA hval
  obtain ⟨v0, vs0, d0, ds0, p0, q0, hargs, rfl, rfl, h0, r0⟩ := trodAll_cons hA
  obtain ⟨v1, vs1, d1, ds1, p1, q1, rfl, rfl, rfl, h1, r1⟩ := trodAll_cons r0
  obtain ⟨v2, vs2, d2, ds2, p2, q2, rfl, rfl, rfl, h2, r2⟩ := trodAll_cons r1
  obtain ⟨rfl, rfl, rfl⟩ := trodAll_nil r2
  obtain rfl : args = #[v0, v1, v2] := by cases args; simp_all
  obtain ⟨rfl, rfl⟩ := trodVars_none hV
  have k0 := h0
  have lt0 : ∀ x ∈ p0, x.block < W.heap.size := by obtain ⟨m, hm⟩ := k0; exact DataW.trod_lt m _ _ _ hm
  obtain ⟨a0, len0, cap0, rfl⟩ := okWide_slice Try.underlying23 (hval 0 23 v0 rfl rfl)
  obtain ⟨z0, w0⟩ : ∃ zs, IsRow .i64 W a0 len0 cap0 zs := by
    obtain ⟨fuel, hf⟩ := h0
    rcases open_ints Try.underlying23 Try.underlying3 (by kernel_rfl) hf with ⟨hcs, _⟩ | ⟨x, l, c, zs, hcs, _, hl, hm, hz, _, hcell, hwz⟩
    · simp [Value.cells] at hcs
      obtain ⟨rfl, rfl, rfl⟩ := hcs
      exact ⟨[], .inl ⟨rfl, rfl, rfl, rfl⟩⟩
    · simp [Value.cells] at hcs
      obtain ⟨rfl, rfl, rfl⟩ := hcs
      exact ⟨zs, .inr ⟨_, rfl, hl, hm, by simpa using hz, hcell, hwz⟩⟩
  have k1 := h1
  have lt1 : ∀ x ∈ p1, x.block < W.heap.size := by obtain ⟨m, hm⟩ := k1; exact DataW.trod_lt m _ _ _ hm
  obtain ⟨a1, rfl, -, -, w1⟩ := open_int Try.underlying3 (hval 1 3 v1 rfl rfl) h1
  have k2 := h2
  have lt2 : ∀ x ∈ p2, x.block < W.heap.size := by obtain ⟨m, hm⟩ := k2; exact DataW.trod_lt m _ _ _ hm
  obtain ⟨a2, rfl, -, -, w2⟩ := open_int Try.underlying5 (hval 2 5 v2 rfl rfl) h2
  clear hA0 hval0
  refine (walk a0 len0 cap0 z0 a1 a2 W w0 w1 w2).mono fun e W' ⟨he, bel⟩ => ?_
  subst he
  exact ⟨_, rfl, _, _, _, [], _, [], hW', trodAll_mk1 (shut_bool Try.underlying4 _), (trodAll_cons_mk (Below.trod laidOut (by kernel_rfl) (of_decide_eq_true (by kernel_rfl)) k0 bel lt0) (trodAll_cons_mk (Below.trod laidOut (by kernel_rfl) (of_decide_eq_true (by kernel_rfl)) k1 bel lt1) (trodAll_cons_mk (Below.trod laidOut (by kernel_rfl) (of_decide_eq_true (by kernel_rfl)) k2 bel lt2) trodAll_mk0))), rfl, bel.frame _, fun h => by cases h⟩

theorem over : Rows.scriptDamageRow.holds Try.pinned (OpenSpec.ofChange Rows.scriptDamageSpec) :=
  OpenClaim.holds_of_wide 6 Try.f6 rfl rfl rfl rfl rfl rfl rfl ⟨rfl, rfl, rfl, rfl, rfl⟩ rfl rfl rfl rfl rfl (by kernel_rfl) Try.func6 (by kernel_rfl)
    (of_decide_eq_true (by kernel_rfl)) (by unfold Func.isWrapper; first | (rw [if_pos (by decide +kernel)]; kernel_rfl) | (rw [if_neg (by decide +kernel)]; exact ⟨rfl, rfl⟩))
    (fun os started H enc _ => lifted os started H enc)

/-- The statement. -/
theorem proved : Rows.ScriptDamageSaid := over
#print axioms proved
end Go.Proofs.Ytjjcahdieldmcaa.scriptDamage
