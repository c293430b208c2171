/- More of chapter 22 in plain functions: what stays a byte; three pulses; a line in service. No condition. -/
import Derived.Test.YtionembpmfahlaaS22
namespace Go.Proofs.Ytionembpmfahlaa.S
open Go.ChangeShapes Go.WideShapes Go.ChangeAt Go.RowKit
set_option linter.unusedVariables false
theorem Ok_raise {p : Pc} (h : Ok p) (l : Int) : Ok (raise p l) := h
theorem Ok_en {p : Pc} (h : Ok p) (n : Int) (r : Bool) : Ok (en p n r) := by
  unfold en
  split
  · exact h
  · exact ⟨andNot_bd _ _, h.2⟩
theorem Ok_sv {p : Pc} (h : Ok p) (n : Int) : Ok (sv p n) := ⟨pr_or_bd _ _, h.2⟩
theorem Ok_wr {p : Pc} (h : Ok p) (hi : Bool) {v : Int} (hv : 0 ≤ v ∧ v < 256) : Ok (wr p hi v) := by
  unfold wr
  split
  · unfold wrH
    split
    · exact ⟨h.1, h.2.1, hv⟩
    · split
      · exact h
      · split
        · exact h
        · exact h
  · split
    · exact ⟨⟨by show (0 : Int) ≤ 0; omega, by show (0 : Int) < 256; omega⟩, pr_and_bd _ _, by show (0 : Int) ≤ 0; omega, by show (0 : Int) < 256; omega⟩
    · split
      · exact h
      · unfold cmd
        repeat' split
        all_goals first | exact h | exact Ok_en h _ _
theorem Ok_rdP {p : Pc} (h : Ok p) (hi : Bool) : Ok (rdP p hi) := by
  unfold rdP
  split
  · exact h
  · split
    · unfold poll
      split
      · exact h
      · split
        · exact Ok_en (Ok_sv (p := { p with Po := false }) h _) _ _
        · exact Ok_sv (p := { p with Po := false }) h _
    · exact h
theorem Ok_ack {p : Pc} (h : Ok p) : Ok (ack p) := by
  unfold ack
  split
  · unfold ch
    split
    · exact h
    · exact Ok_sv (p := { p with Sq := 1, Sv := pkc p, Su := false }) h _
  · split
    · exact h
    · unfold fin
      split
      · exact Ok_en (p := { p with Sq := 0 }) h _ _
      · exact h
theorem bl_fin : ∀ t : Fin 8, (0 ≤ bl (t.val : Int) ∧ bl (t.val : Int) < 256) ∧ bits .or .u8 0 (bl (t.val : Int)) = bl (t.val : Int) ∧ bits .andNot .u8 (bl (t.val : Int)) (bl (t.val : Int)) = 0 ∧ onB (bl (t.val : Int)) (t.val : Int) = true ∧ ∀ i : Fin 8, onB (bl (t.val : Int)) (i.val : Int) = true → i = t := by decide +kernel
theorem bl_or_fin : ∀ s : Fin 256, ∀ t : Fin 8, bits .andNot .u8 (bits .or .u8 (s.val : Int) (bl (t.val : Int))) (bl (t.val : Int)) = bits .andNot .u8 (s.val : Int) (bl (t.val : Int)) := by decide +kernel
theorem bl_spec (t : Int) (t0 : 0 ≤ t) (t1 : t < 8) : (0 ≤ bl t ∧ bl t < 256) ∧ bits .or .u8 0 (bl t) = bl t ∧ bits .andNot .u8 (bl t) (bl t) = 0 ∧ onB (bl t) t = true ∧ ∀ i : Int, 0 ≤ i → i < 8 → onB (bl t) i = true → i = t := by
  obtain ⟨x, rfl⟩ := Int.eq_ofNat_of_zero_le t0
  obtain ⟨h1, h2, h3, h4, h5⟩ := bl_fin ⟨x, by omega⟩
  refine ⟨h1, h2, h3, h4, fun i i0 i1 ho => ?_⟩
  obtain ⟨y, rfl⟩ := Int.eq_ofNat_of_zero_le i0
  have := h5 ⟨y, by omega⟩ ho
  have e : y = x := congrArg Fin.val this
  rw [e]
theorem bl_or (s t : Int) (s0 : 0 ≤ s) (s1 : s < 256) (t0 : 0 ≤ t) (t1 : t < 8) : bits .andNot .u8 (bits .or .u8 s (bl t)) (bl t) = bits .andNot .u8 s (bl t) := by
  obtain ⟨x, rfl⟩ := Int.eq_ofNat_of_zero_le t0
  obtain ⟨y, rfl⟩ := Int.eq_ofNat_of_zero_le s0
  exact bl_or_fin ⟨y, by omega⟩ ⟨x, by omega⟩
theorem hi_bl (t n : Int) (t0 : 0 ≤ t) (t1 : t < 8) : hi (bl t) n = t := by
  obtain ⟨_, _, _, h4, h5⟩ := bl_spec t t0 t1
  rcases hi_spec (bl t) n with ⟨_, h⟩ | ⟨k0, k1, k2, _⟩
  · rw [h t t0 t1] at h4; cases h4
  · exact h5 _ k0 k1 k2
theorem low_fin : ∀ x : Fin 256, (bits .and .u8 (x.val : Int) 192 ≤ 192 ∧ 0 ≤ bits .and .u8 (x.val : Int) 192) ∧ bits .and .u8 (x.val : Int) 224 ≤ 224 ∧ 0 ≤ bits .and .u8 (x.val : Int) 224 := by decide +kernel
theorem low_bd (x : Int) (x0 : 0 ≤ x) (x1 : x < 256) : (bits .and .u8 x 192 ≤ 192 ∧ 0 ≤ bits .and .u8 x 192) ∧ bits .and .u8 x 224 ≤ 224 ∧ 0 ≤ bits .and .u8 x 224 := by
  obtain ⟨y, rfl⟩ := Int.eq_ofNat_of_zero_le x0
  exact low_fin ⟨y, by omega⟩
/-- Three pulses, whatever the lines do in between. -/
theorem calls_spec (p : Pc) (ok : Ok p) (hsq : p.Sq = 0) (x y t : Int) (ht : pkc p = t) :
    ∃ q1 q2 q3 : Pc, ack p = q1 ∧ ackV p = 205 ∧ Ok q1 ∧ ack (raise q1 x) = q2 ∧
      ackV (raise q1 x) = (if p.Fo then bits .and .u8 p.Lw 224 + 4 * (if t = -1 then 7 else t) else bits .and .u8 p.Lw 192 + 8 * (if t = -1 then 7 else t)) ∧ Ok q2 ∧
      ack (raise q2 y) = q3 ∧ ackV (raise q2 y) = p.Hg ∧ q3.Sq = 0 ∧ q3.IS = (if t = -1 then p.IS else if p.Au then bits .andNot .u8 p.IS (2 ^ t.toNat % 256) else bits .or .u8 p.IS (2 ^ t.toNat % 256)) := by
  have hb := pkc_bd p
  rw [ht] at hb
  obtain ⟨⟨la, lb⟩, lc, ld⟩ := low_bd p.Lw ok.2.1.1 ok.2.1.2
  have e1 : ack p = ch p := by simp [ack, hsq]
  refine ⟨ch p, _, _, e1, by simp [ackV, hsq], e1 ▸ Ok_ack ok, rfl, ?_, Ok_ack (Ok_raise (e1 ▸ Ok_ack ok) x), rfl, ?_⟩
  · by_cases h : t = -1
    · by_cases hf : p.Fo = true
      · simp [ch, ht, h, raise, ackV, low, hf]; omega
      · simp [ch, ht, h, raise, ackV, low, hf]; omega
    · have hm : t % 8 = t := by omega
      by_cases hf : p.Fo = true
      · simp [ch, ht, h, raise, sv, ackV, low, hf, hm]; omega
      · simp [ch, ht, h, raise, sv, ackV, low, hf, hm]; omega
  · by_cases h : t = -1
    · simp [ch, ht, h, raise, ack, ackV, fin]
    · have hm : t % 8 = t := by omega
      have hbo := bl_or p.IS t ok.1.1 ok.1.2 (by omega) (by omega)
      by_cases ha : p.Au = true
      · simp only [bl] at hbo
        simp [ch, ht, h, raise, ack, ackV, fin, sv, en, hm, ha, bl, hbo]
      · simp [ch, ht, h, raise, ack, ackV, fin, sv, ha, bl]
/-- A line in service. -/
theorem blocks_spec (p : Pc) (h1 : p.Sq = 0) (h2 : p.Au = false) (h3 : p.Sp = false) (h4 : p.IS = 0) (t : Int) (ht : pkc p = t) (t0 : 0 ≤ t) :
    ∃ q : Pc, ack (ack (ack p)) = q ∧ q.IS = bl t ∧ q.IM = p.IM ∧ q.Lo = p.Lo ∧ q.Sp = false ∧ (wr q false 32).IS = 0 ∧ (wr q false 32).Lo = p.Lo ∧ (wr q false (96 + t)).IS = 0 ∧ (wr q false 160).IS = 0 ∧ (wr q false 160).Lo = t := by
  have hb := pkc_bd p
  rw [ht] at hb
  obtain ⟨_, b1, b2, _, _⟩ := bl_spec t t0 hb.2
  have hn : ¬ t = -1 := by omega
  have e : ack (ack (ack p)) = { sv { p with Sq := 1, Sv := t, Su := false } t with Sq := 0 } := by
    simp [ack, h1, ch, ht, hn, sv, fin, h2]
  have hq : his { sv { p with Sq := 1, Sv := t, Su := false } t with Sq := 0 } = t := by
    simp only [his, sv, h3, h4, b1, blk, Bool.false_eq_true, if_false]
    exact hi_bl t p.Lo t0 hb.2
  have w1 : wr { sv { p with Sq := 1, Sv := t, Su := false } t with Sq := 0 } false 32 = en { sv { p with Sq := 1, Sv := t, Su := false } t with Sq := 0 } t false := by
    have k1 : bits .and .u8 32 16 = 0 := by decide
    have k2 : bits .and .u8 32 8 = 0 := by decide
    simp only [wr, k1, k2, cmd, hq]
    rfl
  have w2 : wr { sv { p with Sq := 1, Sv := t, Su := false } t with Sq := 0 } false 160 = en { sv { p with Sq := 1, Sv := t, Su := false } t with Sq := 0 } t true := by
    have k1 : bits .and .u8 160 16 = 0 := by decide
    have k2 : bits .and .u8 160 8 = 0 := by decide
    simp only [wr, k1, k2, cmd, hq]
    rfl
  have w3 : wr { sv { p with Sq := 1, Sv := t, Su := false } t with Sq := 0 } false (96 + t) = en { sv { p with Sq := 1, Sv := t, Su := false } t with Sq := 0 } t false := by
    have key : ∀ x : Fin 8, bits .and .u8 (96 + (x.val : Int)) 16 = 0 ∧ bits .and .u8 (96 + (x.val : Int)) 8 = 0 := by decide +kernel
    obtain ⟨x, rfl⟩ := Int.eq_ofNat_of_zero_le t0
    obtain ⟨k1, k2⟩ := key ⟨x, by omega⟩
    simp only at k1 k2
    have d : (96 + (x : Int)) / 32 = 3 := by omega
    have m : (96 + (x : Int)) % 8 = x := by omega
    simp only [wr, k1, k2, cmd, d, m]
    rfl
  refine ⟨_, e, ?_, rfl, rfl, h3, ?_, ?_, ?_, ?_, ?_⟩
  · simp [sv, h4, b1]
  · rw [w1]; simp [en, sv, hn, h4, b1, b2]
  · rw [w1]; simp [en, sv, hn]
  · rw [w3]; simp [en, sv, hn, h4, b1, b2]
  · rw [w2]; simp [en, sv, hn, h4, b1, b2]
  · rw [w2]; simp [en, sv, hn]
/-- The line that would be served next, while t is in service. -/
theorem next_less (q t n : Int) (t0 : 0 ≤ t) (t1 : t < 8) (h : ¬ pk q (bl t) n = -1) : 0 ≤ pk q (bl t) n ∧ rk (pk q (bl t) n) n < rk t n := by
  rcases pk_spec q (bl t) n with ⟨h1, _⟩ | ⟨h1, _, _, _, h5⟩
  · exact absurd h1 h
  · exact ⟨h1, h5 t t0 t1 (bl_spec t t0 t1).2.2.2.1⟩
/-- ICW1. -/
theorem ini_fin : ∀ x : Fin 256, bits .and .u8 (bits .or .u8 (x.val : Int) 16) 16 ≠ 0 ∧ (0 ≤ bits .or .u8 (x.val : Int) 16 ∧ bits .or .u8 (x.val : Int) 16 < 256) ∧ bits .and .u8 (bits .or .u8 (x.val : Int) 16) 8 = bits .and .u8 (x.val : Int) 8 ∧ bits .and .u8 (bits .or .u8 (x.val : Int) 16) 4 = bits .and .u8 (x.val : Int) 4 ∧ bits .and .u8 (bits .or .u8 (x.val : Int) 16) 2 = bits .and .u8 (x.val : Int) 2 ∧ bits .and .u8 (bits .or .u8 (x.val : Int) 16) 1 = bits .and .u8 (x.val : Int) 1 ∧ bits .and .u8 (bits .or .u8 (x.val : Int) 16) 224 = bits .and .u8 (x.val : Int) 224 := by decide +kernel
theorem wr_ini (p : Pc) (v : Int) (v0 : 0 ≤ v) (v1 : v < 256) : (0 ≤ bits .or .u8 v 16 ∧ bits .or .u8 v 16 < 256) ∧ wr p false (bits .or .u8 v 16) = ini p v := by
  obtain ⟨x, rfl⟩ := Int.eq_ofNat_of_zero_le v0
  obtain ⟨h1, h2, h3, h4, h5, h6, h7⟩ := ini_fin ⟨x, by omega⟩
  simp only at h1 h2 h3 h4 h5 h6 h7
  refine ⟨h2, ?_⟩
  simp only [wr, Bool.false_eq_true, if_false, if_pos h1, ini, h3, h4, h5, h6, h7]
end Go.Proofs.Ytionembpmfahlaa.S
