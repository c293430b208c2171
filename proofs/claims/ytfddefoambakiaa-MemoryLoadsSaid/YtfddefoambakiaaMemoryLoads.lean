/- The statement MemoryLoadsSaid of package tstatelaw12: for every input the law returns true, and its arguments read as before. No condition. -/
import Derived.Test.YtfddefoambakiaaRows
import Derived.Test.YtfddefoambakiaaM1
import Derived.Test.YtfddefoambakiaaCM
import Derived.Test.YtfddefoambakiaaC12u
import Derived.WalkKit
import Derived.ProofKit
import Derived.OpenShut
import Derived.ShutString
import Derived.ChangeOld
import Derived.Below
import Derived.Carry
namespace Go.Proofs.Ytfddefoambakiaa.memoryLoads
open Go.ChangeShapes Go.WideShapes Go.ChangeAt Go.RowKit
open Go.ChangeMaps (open_string shut_string)
set_option linter.unusedVariables false

theorem own : ownKnob Try.prog.godebug = none := by kernel_rfl
theorem laidOut : laidOutB Try.prog = true := by kernel_rfl

set_option maxHeartbeats 2000000 in
/-- The walk. -/
theorem walk (a0 : Int) (a1 : Option Addr) (len1 cap1 : Nat) (z1 : List Int) (w : World) (w0 : (Lit.int .u16 a0).wf = true) (w1 : IsRow .u8 w a1 len1 cap1 z1) :
    Calls Try.prog 4 #[.int .u16 a0, .slice a1 len1 cap1] w fun e w' => e = .returned (.bool true) ∧ Below w.heap.size w w' := by
  by_cases h300 : 300 < len1
  · clear w1
    go_enter Try.func4, Try.ntmps4
    go_wp2_with (go_at_call 10; refine (known12 _).mono ?_; rintro e w' ⟨rfl, hK⟩)
    go_ret
    exact ⟨rfl, hK.below⟩
  have hle : len1 ≤ 300 := by omega
  obtain ⟨wl, wh⟩ : 0 ≤ a0 ∧ a0 < 65536 := by
    have := w0
    simp [Lit.wf, IntKind.min, IntKind.max, IntKind.signed, IntKind.bits] at this
    omega
  obtain ⟨hb, hlc, hcap⟩ := heldB_of w1
  obtain ⟨bs, hbs⟩ : ∃ bs, bs = z1.take len1 := ⟨_, rfl⟩
  rw [← hbs] at hb
  have HB := Lib.hid hb
  clear w0 w1 hbs hb
  go_enter Try.func4, Try.ntmps4
  go_wp2_with (first
    | (go_at_call 19; (with_reducible refine (load_h a1 len1 cap1 bs a0 w HB.out (by omega) hlc hcap wl wh).mono ?_); rintro e w3 ⟨ad3, n3, c3, rfl, H3, hn3, hc3, A3⟩))
  go_loopw [16] (fun i wr => ∃ k : Nat, k ≤ len1 ∧ i = .int .i64 k ∧ Adds w3 wr) (fun i _ => len1 - (intOf i).toNat)
  case atStart => exact ⟨0, Nat.zero_le _, rfl, Adds.refl _⟩
  case round =>
    obtain ⟨k, hk, rfl, A0⟩ := hrel
    by_cases hlt : k < len1
    · have hz : (k : Int) < (len1 : Int) := by omega
      obtain ⟨g, o, rfl, hg, hat⟩ := (HB.out.adds (A3.trans A0)).2 (by omega)
      obtain ⟨v, hv⟩ : ∃ v, bs[k]? = some v := ⟨bs[k]'(by have := HB.out.1; omega), List.getElem?_eq_getElem _⟩
      have hc := hat k v hv
      have HGet : Hid (∀ wx, Adds w3 wx → Calls Try.prog 20 #[.slice ad3 n3 c3, .int .u16 (IntKind.u16.wrap (a0 + (k : Int)))] wx fun e w' => e = .returned (.int .u8 v) ∧ Adds wx w') := by
        show ∀ wx, _
        intro wx hA
        rw [show IntKind.u16.wrap (a0 + (k : Int)) = (a0 + (k : Int)) % 65536 by simp [IntKind.wrap, IntKind.bits, IntKind.signed]]
        have := get_any ad3 n3 c3 _ ((a0 + (k : Int)) % 65536) wx (H3.out.adds hA)
        rwa [Sm.get_nrm, Sm.get_lod a0 bs (by have := HB.out.1; omega) hv] at this
      clear hat hv
      have c0 : (k : Int) % 65536 = (k : Int) := by omega
      go_wp2_with fail
      refine wp_region_adds (by kernel_rfl) (by kernel_rfl) ?_
      repeat (go_big_quiet_step ((go_at_call 20; with_reducible exact calls_adds (HGet.out _ (A0.trans (by (repeat (first | with_reducible exact Adds.refl _ | with_reducible apply Adds.drew | with_reducible apply Adds.drewN | with_reducible apply Adds.alloc | with_reducible apply Adds.more | (with_reducible refine Adds.setCell ?_ ?_ _) | (focus (simp [go_sem]; done)) | (focus (simp [go_sem]; omega))))))))))
      refine wpQuiet_nil ?_
      intro _ hw1
      obtain ⟨⟨nq, osq⟩, hw2⟩ := hw1
      subst hw2
      go_wp2_with fail
      go_roundw
      case rel => exact ⟨k + 1, by omega, by go_num, A0.trans ⟨⟨nq, osq⟩, rfl⟩⟩
      case measure => simp [intOf] <;> omega
    · have hz : ¬ (k : Int) < (len1 : Int) := by omega
      go_wp2_with (first
        | (go_at_call 21; (with_reducible refine (rload_h _ _ _ bs _ wr (HB.out.adds (A3.trans A0)) (by omega) wl wh).mono ?_); rintro e w4 ⟨ad4, n4, c4, rfl, H4, hn4, hc4, A4⟩)
        | (go_at_call 13; (with_reducible refine (same_h _ _ _ _ _ _ _ w4 ((H3.out.adds A0).adds A4) H4.out).mono ?_); rintro e w5 ⟨rfl, A5⟩)
        | (go_at_call 10; (with_reducible refine (known12 w5).mono ?_); rintro e w6 ⟨rfl, A6⟩))
      go_ret
      exact ⟨rfl, ((((A3.trans A0).trans A4).trans A5).trans A6).below⟩

set_option maxRecDepth 100000 in
theorem lifted (os : Os) (started : os.Started) (H : Type) (enc : TypeId × Value → H) :
    ReturnsInHanded {} Try.checked os 4 .any (Rows.memoryLoadsSpec.pre6 enc Try.prog Try.f4 Rows.memoryLoadsRow.domain false) (Rows.memoryLoadsSpec.post enc Try.prog Try.f4 false true false false) := by
  refine returnsInHanded_of_change (C := Try.checked) own started (by kernel_rfl) Try.func4
    (ChangeSpec.witness6 (enc := enc) (C := Try.checked) false ⟨#[], #[.int .u16 0, .slice none 0 0], []⟩ 8 (by kernel_rfl) (by kernel_rfl) (by kernel_rfl) (by kernel_rfl)) ?_
  intro W base args ds gs before hval0 hW hcnd _
  have hval : ∀ (j : Nat) t v, Try.f4.params[j]? = some t → args[j]? = some v → Value.okWide Try.prog W .any base t v := hval0
  have hW' := hW
  obtain ⟨p, q, hA0, hV, rfl, hfz, hnd⟩ := hW
  have hA : DataW.TrodAll enc Try.prog W 0 (fun _ => true) true Try.f4.params.toList args.toList ds p := hA0
  rw [Try.params4] at hA hval
  obtain ⟨v0, vs0, d0, ds0, p0, q0, hargs, rfl, rfl, h0, r0⟩ := trodAll_cons hA
  obtain ⟨v1, vs1, d1, ds1, p1, q1, rfl, rfl, rfl, h1, r1⟩ := trodAll_cons r0
  obtain ⟨rfl, rfl, rfl⟩ := trodAll_nil r1
  obtain rfl : args = #[v0, v1] := by cases args; simp_all
  obtain ⟨rfl, rfl⟩ := trodVars_none hV
  have k0 := h0
  have lt0 : ∀ x ∈ p0, x.block < W.heap.size := by obtain ⟨m, hm⟩ := k0; exact DataW.trod_lt m _ _ _ hm
  obtain ⟨a0, rfl, -, -, w0⟩ := open_int Try.underlying24 (hval 0 24 v0 rfl rfl) h0
  have k1 := h1
  have lt1 : ∀ x ∈ p1, x.block < W.heap.size := by obtain ⟨m, hm⟩ := k1; exact DataW.trod_lt m _ _ _ hm
  obtain ⟨a1, len1, cap1, rfl⟩ := okWide_slice Try.underlying35 (hval 1 35 v1 rfl rfl)
  obtain ⟨z1, w1⟩ : ∃ zs, IsRow .u8 W a1 len1 cap1 zs := by
    obtain ⟨fuel, hf⟩ := h1
    rcases open_ints Try.underlying35 Try.underlying5 (by kernel_rfl) hf with ⟨hcs, _⟩ | ⟨x, l, c, zs, hcs, _, hl, hm, hz, _, hcell, hwz⟩
    · simp [Value.cells] at hcs
      obtain ⟨rfl, rfl, rfl⟩ := hcs
      exact ⟨[], .inl ⟨rfl, rfl, rfl, rfl⟩⟩
    · simp [Value.cells] at hcs
      obtain ⟨rfl, rfl, rfl⟩ := hcs
      exact ⟨zs, .inr ⟨_, rfl, hl, hm, by simpa using hz, hcell, hwz⟩⟩
  clear hA0 hval0
  refine (walk a0 a1 len1 cap1 z1 W w0 w1).mono fun e W' ⟨he, bel⟩ => ?_
  subst he
  exact ⟨_, rfl, _, _, _, [], _, [], hW', trodAll_mk1 (shut_bool Try.underlying4 _), (trodAll_cons_mk (Below.trod laidOut (by kernel_rfl) (of_decide_eq_true (by kernel_rfl)) k0 bel lt0) (trodAll_cons_mk (Below.trod laidOut (by kernel_rfl) (of_decide_eq_true (by kernel_rfl)) k1 bel lt1) trodAll_mk0)), rfl, bel.frame _, fun h => by cases h⟩

theorem over : Rows.memoryLoadsRow.holds Try.pinned (OpenSpec.ofChange Rows.memoryLoadsSpec) :=
  OpenClaim.holds_of_wide 4 Try.f4 rfl rfl rfl rfl rfl rfl rfl ⟨rfl, rfl, rfl, rfl, rfl⟩ rfl rfl rfl rfl rfl (by kernel_rfl) Try.func4 (by kernel_rfl)
    (of_decide_eq_true (by kernel_rfl)) (by unfold Func.isWrapper; first | (rw [if_pos (by decide +kernel)]; kernel_rfl) | (rw [if_neg (by decide +kernel)]; exact ⟨rfl, rfl⟩))
    (fun os started H enc _ => lifted os started H enc)

/-- The statement. -/
theorem proved : Rows.MemoryLoadsSaid := over
#print axioms proved
end Go.Proofs.Ytfddefoambakiaa.memoryLoads
