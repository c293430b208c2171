/- What makes scripts: some list of bytes, in a slice of the call's own. Condition: the numbers' list lies in blocks below the box. -/
import Derived.Test.YtjjcahdieldmcaaC24n
import Derived.Test.YtjjcahdieldmcaaC24g
import Derived.Deep.RegionWith
namespace Go.Proofs.Ytjjcahdieldmcaa
open Go.ChangeShapes Go.WideShapes Go.ChangeAt Go.RowKit
set_option linter.unusedVariables false
theorem grown_of_drew {w w' : World} {r : Option Nat} (h : w.drew.grownBy w' r) : w.grownBy w' r := ⟨h.os, h.tape, h.output, h.size, h.block⟩
/-- What Script leaves. -/
def ScrPost (b n : Nat) (w : World) (e : Ending) (w' : World) : Prop :=
  ∃ r zs, e = .returned r ∧ OwnsB w' w.heap.size r zs ∧ zs.length ≤ 4 * n ∧ w.grownBy w' (some b)
set_option maxRecDepth 100000 in
set_option maxHeartbeats 8000000 in
theorem scr_mk (b len cap N : Nat) (a : Option Addr) (n : Nat) (hn : n ≤ 1000) (hN : N ≤ 1000000) (w : World) (h : Nb w b a len cap N) :
    Calls Try.prog 9 #[.pointer (some ⟨b, 0, none⟩), .int .i64 (n : Int)] w (ScrPost b n w) := by
  have hbw := h.lt
  have H : Hid _ := Lib.hid h
  clear h
  go_enter Try.func9, Try.ntmps9
  go_upto_region 2 with (first
    | (go_at_call 21; (with_reducible refine (inps_mk b len cap N a n hn hN w H.out).mono ?_); rintro e w2 ⟨r, d, N2, rfl, hO2, hd2, hK2, hN2, hB2, hG2⟩; obtain ⟨ad, m, c, rfl, hm, h1, h2, -, -⟩ := hO2.form2; have HO2 := Lib.hid hO2; have HB2 := Lib.hid hB2; have HG2 := Lib.hid hG2; have hm' : m ≤ n := (by have := hm.out; omega); clear hO2 hK2 hB2 hG2 hd2)
    | (go_at_call 18; (with_reducible refine (renc_any ad m c d w2 (OwnsG.held HO2.out (by have := hm.out; omega)) h1 h2 (by omega)).mono ?_); rintro e w3 ⟨r3, rfl, hO3, hA3⟩; obtain ⟨ad3, m3, c3, rfl, hm3, h31, h32, h33, h34⟩ := hO3.form2; have hm3' : m3 ≤ 4 * n := (by have := hm3.out; rw [S.enc_len] at this; have := hm.out; omega); have HO3 := Lib.hid hO3; have HA3 := Lib.hid hA3; clear hO3 hA3))
  have hw2 := HG2.out.size
  have HB3 := Lib.hid (HB2.out.grown (HA3.out.grownBy none) (fun g e => by cases e))
  have HG3 := Lib.hid (HG2.out.trans (HA3.out.grownBy (some b)))
  obtain ⟨zs, hzs⟩ : ∃ zs, S.enc d = zs := ⟨_, rfl⟩
  rw [hzs] at HO3 hm3
  have HO3' := Lib.hid (OwnsG.mono HO3.out hw2)
  clear HB2 HG2 HO2 HA3 HO3 hzs
  by_cases hp : 0 < m3
  · have hpz : (0 : Int) < (m3 : Int) := by omega
    obtain ⟨g, rfl, hg1, hg2⟩ := h33 (by omega)
    clear h33 h34
    go_wp2_with (go_at_call 23; (with_reducible refine (nx_any b len cap N2 a 4 (by omega) (by omega) (by omega) w3 HB3.out).mono ?_); rintro e w4 ⟨z, M4, hz0, hz1, hM4, rfl, hU4⟩; have HB4 := Lib.hid (HB3.out.up hU4); have HG4 := Lib.hid (HG3.out.trans hU4.grown); have HO4 := Lib.hid (HO3'.out.kept hU4.grown (fun g e => by injection e with e; omega)); clear hU4)
    · go_region_with (first
        | (go_at_call 23; (with_reducible refine (nx_any b len cap M5 a 8 (by omega) (by omega) (by omega) w5 HB5.out).mono ?_); rintro e w6 ⟨t, M6, ht0, ht1, hM6, rfl, hU6⟩; have HG6 := Lib.hid (HG5.out.trans hU6.grown); have HO6 := Lib.hid (HO5.out.kept hU6.grown (fun g e => by injection e with e; omega)); have c6 : w6.cell? ⟨g, k, none⟩ = some (.int .u8 zk) := (by have := AtB.el (OwnsG.at_ HO6.out) (j := k) (by have := hm3.out; omega); rwa [Nat.zero_add, hzk.out] at this); have f6 := OwnsG.frozen HO6.out k; clear hU6)
        | (go_at_call 23; (with_reducible refine (nx_any b len cap M4 a (m3 : Int) (by omega) (by omega) (by omega) _ HB4.out.drew).mono ?_); rintro e w5 ⟨y, M5, hy0, hy1, hM5, rfl, hU5⟩; obtain ⟨k, rfl⟩ : ∃ k : Nat, y = (k : Int) := ⟨y.toNat, by omega⟩; have HB5 := Lib.hid (HB4.out.drew.up hU5); have HG5 := Lib.hid (HG4.out.trans (grown_of_drew hU5.grown)); have HO5 := Lib.hid (HO4.out.kept (grown_of_drew hU5.grown) (fun g e => by injection e with e; omega)); obtain ⟨zk, hzk'⟩ : ∃ zk, zs.getD k 0 = zk := ⟨_, rfl⟩; have hzk := Lib.hid hzk'; clear hzk'; have c5 : w5.cell? ⟨g, k, none⟩ = some (.int .u8 zk) := (by have := AtB.el (OwnsG.at_ HO5.out) (j := k) (by have := hm3.out; omega); rwa [Nat.zero_add, hzk.out] at this); clear hU5))
      all_goals
        have HS := Lib.hid (OwnsB.store HO6.out k (bits .xor .u8 zk (IntKind.u8.wrap (2 ^ t.toNat))))
        go_wp2_with fail
        go_ret
        exact ⟨_, _, rfl, HS.out.1, by rw [List.length_set]; have := hm3.out; omega, grown_trans2 HG6.out HS.out.2 (fun g' e => by injection e with e; have := (OwnsG.lt HO6.out).1; omega)⟩
    · go_wp2_with fail
      go_ret
      exact ⟨_, zs, rfl, HO4.out, by have := hm3.out; omega, HG4.out⟩
  · have hpz : ¬ (0 : Int) < (m3 : Int) := by omega
    clear h33 h34
    go_wp2_with fail
    go_ret
    exact ⟨_, zs, rfl, HO3'.out, by have := hm3.out; omega, HG3.out⟩
end Go.Proofs.Ytjjcahdieldmcaa
