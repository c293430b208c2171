/- The statement PicPlaysSaid of package tstatelaw22: for every input the law returns true, and its arguments read as before. No condition. -/
import Derived.Test.YtionembpmfahlaaRows
import Derived.Test.YtionembpmfahlaaM1
import Derived.Test.YtionembpmfahlaaC22m
import Derived.WalkKit
import Derived.ProofKit
import Derived.OpenShut
import Derived.ShutString
import Derived.ChangeOld
import Derived.Below
import Derived.Carry
namespace Go.Proofs.Ytionembpmfahlaa.picPlays
open Go.ChangeShapes Go.WideShapes Go.ChangeAt Go.RowKit
open Go.ChangeMaps (open_string shut_string)
set_option linter.unusedVariables false

theorem own : ownKnob Try.prog.godebug = none := by kernel_rfl
theorem laidOut : laidOutB Try.prog = true := by kernel_rfl

def IsRow (k : IntKind) (w : World) (a : Option Addr) (len cap : Nat) (zs : List Int) : Prop :=
  (a = none ∧ len = 0 ∧ cap = 0 ∧ zs = []) ∨
  ∃ x, a = some x ∧ len ≤ cap ∧ cap ≤ maxLen ∧ zs.length = cap ∧ (∀ i, i < zs.length → w.cell? (x.add i) = some (.int k (zs.getD i 0))) ∧ ∀ n ∈ zs, (Lit.int k n).wf = true

set_option maxRecDepth 100000 in
set_option maxHeartbeats 2000000 in
/-- The walk. -/
theorem walk (a0 : Option Addr) (len0 cap0 : Nat) (z0 : List Int) (w : World) (w0 : IsRow .i64 w a0 len0 cap0 z0) :
    Calls Try.prog 6 #[.slice a0 len0 cap0] w fun e w' => e = .returned (.bool true) ∧ Below w.heap.size w w' := by
  by_cases h80 : 200 < len0
  · clear w0
    go_enter Try.func6, Try.ntmps6
    go_wp2_with (go_at_call 10; refine (known22_any _).mono ?_; rintro e w' ⟨rfl, ⟨⟨nk, osk⟩, rfl⟩⟩)
    go_ret
    exact ⟨rfl, Adds.below (by (repeat (first | with_reducible exact Adds.refl _ | with_reducible apply Adds.drew | with_reducible apply Adds.drewN | with_reducible apply Adds.alloc | with_reducible apply Adds.more | (with_reducible refine Adds.setCell ?_ ?_ _) | (focus (simp [go_sem]; done)) | (focus (simp [go_sem]; omega)))))⟩
  have HN := Lib.hid (fun M : Nat => Nb.at (N := M) (b := w.heap.size) rfl w0 (by omega))
  clear w0
  go_enter Try.func6, Try.ntmps6
  go_wp2_with (first | (go_at_call 12; (with_reducible refine (from_any a0 len0 cap0 _).mono ?_); rintro e w' ⟨rfl, rfl⟩) | (go_at_call 19; refine (new_any _).mono ?_; rintro e w' ⟨rfl, ⟨⟨n1, os1⟩, rfl⟩⟩; simp only [S.nw, S.Pc.cs]) | (go_at_call 20; refine (rnew_any _).mono ?_; rintro e w' ⟨rfl, ⟨⟨n2, os2⟩, rfl⟩⟩; simp only [S.nw, S.Pc.cs]))
  go_loopg [] len0 (fun g wr => ∃ (N : Nat) (p : S.Pc), S.Ok p ∧ len0 ≤ N + g ∧ N ≤ len0 + 3 ∧ Adds (((More (More (w.alloc (.cells #[.slice a0 len0 cap0, .int .i64 (N : Int)] 43)) n1 os1) n2 os2).alloc (.cells #[.int .i64 p.St, .bool p.Le, .bool p.Fo, .bool p.Si, .bool p.Ft, .int .u8 p.Lw, .int .u8 p.Hg, .bool p.Au, .bool p.Ro, .bool p.Sp, .bool p.RI, .bool p.Po, .int .u8 p.Li, .int .u8 p.Ed, .int .u8 p.IS, .int .u8 p.IM, .int .i64 p.Lo, .int .i64 p.Sq, .int .i64 p.Sv, .bool p.Su] 23)).alloc (.cells #[.int .i64 p.St, .bool p.Le, .bool p.Fo, .bool p.Si, .bool p.Ft, .int .u8 p.Lw, .int .u8 p.Hg, .bool p.Au, .bool p.Ro, .bool p.Sp, .bool p.RI, .bool p.Po, .int .u8 p.Li, .int .u8 p.Ed, .int .u8 p.IS, .int .u8 p.IM, .int .i64 p.Lo, .int .i64 p.Sq, .int .i64 p.Sv, .bool p.Su] 23)) wr)
  case atStart => exact ⟨0, ⟨0, false, false, false, false, 0, 0, false, false, false, false, false, 0, 0, 0, 0, 7, 0, 0, false⟩, by unfold S.Ok; simp, by omega, by omega, by rw [show ((0 : Nat) : Int) = 0 from rfl]; (repeat (first | with_reducible exact Adds.refl _ | with_reducible apply Adds.drew | with_reducible apply Adds.drewN | with_reducible apply Adds.alloc | with_reducible apply Adds.more | (with_reducible refine Adds.setCell ?_ ?_ _) | (focus (simp [go_sem]; done)) | (focus (simp [go_sem]; omega))))⟩
  case round =>
    obtain ⟨N, p, ok, hg, hN, ⟨⟨n0, os0⟩, rfl⟩⟩ := hrel
    have okp := Lib.hid ok
    have okp1 : Hid (0 ≤ p.IS ∧ p.IS < 256) := ok.1
    clear ok
    by_cases hlt : (N : Int) < (len0 : Int)
    · go_wp2_with (first
        | (go_at_call 27; (with_reducible refine (nx_one _ len0 cap0 M2 a0 256 (by omega) (by omega) (by omega) _ (by repeat (first | with_reducible exact HN.out _ | with_reducible refine Nb.more ?_ _ _ | with_reducible refine Nb.alloc ?_ _ | with_reducible refine Nb.drew ?_))).mono ?_); rintro e w' ⟨y2, M3, hya2, hyb2, hM3, rfl, ⟨n5, os5⟩, rfl⟩; have hwa : IntKind.u8.wrap y2 = y2 := (by simp [IntKind.wrap, IntKind.bits, IntKind.signed]; omega); have hwb : y2 % 256 = y2 := (by omega); have hy : Hid (0 ≤ y2 ∧ y2 < 256) := ⟨hya2, hyb2⟩)
        | (go_at_call 28; (with_reducible refine (flg_one _ len0 cap0 M1 a0 (by omega) _ (by repeat (first | with_reducible exact HN.out _ | with_reducible refine Nb.more ?_ _ _ | with_reducible refine Nb.alloc ?_ _ | with_reducible refine Nb.drew ?_))).mono ?_); rintro e w' ⟨f2, M2, hM2, rfl, ⟨n4, os4⟩, rfl⟩)
        | (go_at_call 27; (with_reducible refine (nx_one _ len0 cap0 M1 a0 256 (by omega) (by omega) (by omega) _ (by repeat (first | with_reducible exact HN.out _ | with_reducible refine Nb.more ?_ _ _ | with_reducible refine Nb.alloc ?_ _ | with_reducible refine Nb.drew ?_))).mono ?_); rintro e w' ⟨y2, M2, hya2, hyb2, hM2, rfl, ⟨n4, os4⟩, rfl⟩; have hwa : IntKind.u8.wrap y2 = y2 := (by simp [IntKind.wrap, IntKind.bits, IntKind.signed]; omega); have hwb : y2 % 256 = y2 := (by omega); have hy : Hid (0 ≤ y2 ∧ y2 < 256) := ⟨hya2, hyb2⟩)
        | (go_at_call 27; (with_reducible refine (nx_one _ len0 cap0 N a0 6 (by omega) (by omega) (by omega) _ (by repeat (first | with_reducible exact HN.out _ | with_reducible refine Nb.more ?_ _ _ | with_reducible refine Nb.alloc ?_ _ | with_reducible refine Nb.drew ?_))).mono ?_); rintro e w' ⟨y1, M1, hya1, hyb1, hM1, rfl, ⟨n3, os3⟩, rfl⟩; rcases (by omega : y1 = 0 ∨ y1 = 1 ∨ y1 = 2 ∨ y1 = 3 ∨ y1 = 4 ∨ y1 = 5) with rfl | rfl | rfl | rfl | rfl | rfl)
        | (go_at_call 23; (with_reducible refine (read_any p f2 okp1.out.1 okp1.out.2 _).mono ?_); rintro e w' ⟨rfl, ⟨⟨n6, os6⟩, rfl⟩⟩; obtain ⟨r, hr⟩ : ∃ r, S.rdP p f2 = r := ⟨_, rfl⟩; have okr : Hid (S.Ok r) := hr ▸ S.Ok_rdP okp.out f2; have okr1 : Hid (0 ≤ r.IS ∧ r.IS < 256) := okr.out.1; have HR := Lib.hid hr; rw [hr]; clear hr; simp only [S.Pc.cs])
        | (go_at_call 24; (with_reducible refine (rread_any p f2 okp1.out.1 okp1.out.2 _).mono ?_); rintro e w' ⟨rfl, ⟨⟨n7, os7⟩, rfl⟩⟩; rw [HR.out]; simp only [S.Pc.cs])
        | (go_at_call 25; (with_reducible refine (ack_any p okp1.out.1 okp1.out.2 _).mono ?_); rintro e w' ⟨rfl, ⟨⟨n6, os6⟩, rfl⟩⟩; obtain ⟨r, hr⟩ : ∃ r, S.ack p = r := ⟨_, rfl⟩; have okr : Hid (S.Ok r) := hr ▸ S.Ok_ack okp.out; have okr1 : Hid (0 ≤ r.IS ∧ r.IS < 256) := okr.out.1; have HR := Lib.hid hr; rw [hr]; clear hr; simp only [S.Pc.cs])
        | (go_at_call 26; (with_reducible refine (rack_any p okp1.out.1 okp1.out.2 _).mono ?_); rintro e w' ⟨rfl, ⟨⟨n7, os7⟩, rfl⟩⟩; rw [HR.out]; simp only [S.Pc.cs]))
      all_goals try (go_region_with (first
        | (go_at_call 13; (with_reducible refine (raise_any p y2 _).mono ?_); rintro e w' ⟨rfl, ⟨⟨n6, os6⟩, rfl⟩⟩; obtain ⟨r, hr⟩ : ∃ r, S.raise p y2 = r := ⟨_, rfl⟩; have okr : Hid (S.Ok r) := hr ▸ S.Ok_raise okp.out y2; have okr1 : Hid (0 ≤ r.IS ∧ r.IS < 256) := okr.out.1; have HR := Lib.hid hr; rw [hr]; clear hr; simp only [S.Pc.cs])
        | (go_at_call 14; (with_reducible refine (rraise_any p y2 _).mono ?_); rintro e w' ⟨rfl, ⟨⟨n7, os7⟩, rfl⟩⟩; rw [HR.out]; simp only [S.Pc.cs])
        | (go_at_call 21; (with_reducible refine (write_any p f2 y2 hy.out.1 hy.out.2 okp1.out.1 okp1.out.2 _).mono ?_); rintro e w' ⟨rfl, ⟨⟨n6, os6⟩, rfl⟩⟩; obtain ⟨r, hr⟩ : ∃ r, S.wr p f2 y2 = r := ⟨_, rfl⟩; have okr : Hid (S.Ok r) := hr ▸ S.Ok_wr okp.out f2 hy.out; have okr1 : Hid (0 ≤ r.IS ∧ r.IS < 256) := okr.out.1; have HR := Lib.hid hr; rw [hr]; clear hr; simp only [S.Pc.cs])
        | (go_at_call 22; (with_reducible refine (rwrite_any p f2 y2 hy.out.1 hy.out.2 okp1.out.1 okp1.out.2 _).mono ?_); rintro e w' ⟨rfl, ⟨⟨n7, os7⟩, rfl⟩⟩; rw [HR.out]; simp only [S.Pc.cs])))
      all_goals go_wp2_with fail
      all_goals
        refine wp_region_adds (by kernel_rfl) (by kernel_rfl) ?_
        repeat (go_big_quiet_step (first | (go_at_call 17; exact calls_adds (int_any r okr1.out.1 okr1.out.2 _)) | (go_at_call 18; exact calls_adds (rint_any r okr1.out.1 okr1.out.2 _))))
        refine wpQuiet_nil ?_
        intro _ hw1
        obtain ⟨⟨nq, osq⟩, hw2⟩ := hw1
        subst hw2
        go_wp2_with fail
        go_roundg (gk - 1)
      all_goals first | omega | exact ⟨M3, r, okr.out, by omega, by omega, by (repeat (first | with_reducible exact Adds.refl _ | with_reducible apply Adds.drew | with_reducible apply Adds.drewN | with_reducible apply Adds.alloc | with_reducible apply Adds.more | (with_reducible refine Adds.setCell ?_ ?_ _) | (focus (simp [go_sem]; done)) | (focus (simp [go_sem]; omega))))⟩ | exact ⟨M2, r, okr.out, by omega, by omega, by (repeat (first | with_reducible exact Adds.refl _ | with_reducible apply Adds.drew | with_reducible apply Adds.drewN | with_reducible apply Adds.alloc | with_reducible apply Adds.more | (with_reducible refine Adds.setCell ?_ ?_ _) | (focus (simp [go_sem]; done)) | (focus (simp [go_sem]; omega))))⟩ | exact ⟨M1, r, okr.out, by omega, by omega, by (repeat (first | with_reducible exact Adds.refl _ | with_reducible apply Adds.drew | with_reducible apply Adds.drewN | with_reducible apply Adds.alloc | with_reducible apply Adds.more | (with_reducible refine Adds.setCell ?_ ?_ _) | (focus (simp [go_sem]; done)) | (focus (simp [go_sem]; omega))))⟩
    · go_wp2_with (go_at_call 10; refine (known22_any _).mono ?_; rintro e w' ⟨rfl, ⟨⟨nk, osk⟩, rfl⟩⟩)
      go_ret
      exact ⟨rfl, Adds.below (by (repeat (first | with_reducible exact Adds.refl _ | with_reducible apply Adds.drew | with_reducible apply Adds.drewN | with_reducible apply Adds.alloc | with_reducible apply Adds.more | (with_reducible refine Adds.setCell ?_ ?_ _) | (focus (simp [go_sem]; done)) | (focus (simp [go_sem]; omega)))))⟩

set_option maxRecDepth 100000 in
theorem lifted (os : Os) (started : os.Started) (H : Type) (enc : TypeId × Value → H) :
    ReturnsInHanded {} Try.checked os 6 .any (Rows.picPlaysSpec.pre6 enc Try.prog Try.f6 Rows.picPlaysRow.domain false) (Rows.picPlaysSpec.post enc Try.prog Try.f6 false true false false) := by
  refine returnsInHanded_of_change (C := Try.checked) own started (by kernel_rfl) Try.func6
    (ChangeSpec.witness6 (enc := enc) (C := Try.checked) false ⟨#[], #[.slice none 0 0], []⟩ 8 (by kernel_rfl) (by kernel_rfl) (by kernel_rfl) (by kernel_rfl)) ?_
  intro W base args ds gs before hval0 hW hcnd _
  have hval : ∀ (j : Nat) t v, Try.f6.params[j]? = some t → args[j]? = some v → Value.okWide Try.prog W .any base t v := hval0
  have hW' := hW
  obtain ⟨p, q, hA0, hV, rfl, hfz, hnd⟩ := hW
  have hA : DataW.TrodAll enc Try.prog W 0 (fun _ => true) true Try.f6.params.toList args.toList ds p := hA0
  rw [Try.params6] at hA hval
  obtain ⟨v0, vs0, d0, ds0, p0, q0, hargs, rfl, rfl, h0, r0⟩ := trodAll_cons hA
  obtain ⟨rfl, rfl, rfl⟩ := trodAll_nil r0
  obtain rfl : args = #[v0] := by cases args; simp_all
  obtain ⟨rfl, rfl⟩ := trodVars_none hV
  have k0 := h0
  have lt0 : ∀ x ∈ p0, x.block < W.heap.size := by obtain ⟨m, hm⟩ := k0; exact DataW.trod_lt m _ _ _ hm
  obtain ⟨a0, len0, cap0, rfl⟩ := okWide_slice Try.underlying24 (hval 0 24 v0 rfl rfl)
  obtain ⟨z0, w0⟩ : ∃ zs, IsRow .i64 W a0 len0 cap0 zs := by
    obtain ⟨fuel, hf⟩ := h0
    rcases open_ints Try.underlying24 Try.underlying3 (by kernel_rfl) hf with ⟨hcs, _⟩ | ⟨x, l, c, zs, hcs, _, hl, hm, hz, _, hcell, hwz⟩
    · simp [Value.cells] at hcs
      obtain ⟨rfl, rfl, rfl⟩ := hcs
      exact ⟨[], .inl ⟨rfl, rfl, rfl, rfl⟩⟩
    · simp [Value.cells] at hcs
      obtain ⟨rfl, rfl, rfl⟩ := hcs
      exact ⟨zs, .inr ⟨_, rfl, hl, hm, by simpa using hz, hcell, hwz⟩⟩
  clear hA0 hval0
  refine (walk a0 len0 cap0 z0 W w0).mono fun e W' ⟨he, bel⟩ => ?_
  subst he
  exact ⟨_, rfl, _, _, _, [], _, [], hW', trodAll_mk1 (shut_bool Try.underlying4 _), (trodAll_cons_mk (Below.trod laidOut (by kernel_rfl) (of_decide_eq_true (by kernel_rfl)) k0 bel lt0) trodAll_mk0), rfl, bel.frame _, fun h => by cases h⟩

theorem over : Rows.picPlaysRow.holds Try.pinned (OpenSpec.ofChange Rows.picPlaysSpec) :=
  OpenClaim.holds_of_wide 6 Try.f6 rfl rfl rfl rfl rfl rfl rfl ⟨rfl, rfl, rfl, rfl, rfl⟩ rfl rfl rfl rfl rfl (by kernel_rfl) Try.func6 (by kernel_rfl)
    (of_decide_eq_true (by kernel_rfl)) (by unfold Func.isWrapper; first | (rw [if_pos (by decide +kernel)]; kernel_rfl) | (rw [if_neg (by decide +kernel)]; exact ⟨rfl, rfl⟩))
    (fun os started H enc _ => lifted os started H enc)

/-- The statement. -/
theorem proved : Rows.PicPlaysSaid := over
#print axioms proved
end Go.Proofs.Ytionembpmfahlaa.picPlays
