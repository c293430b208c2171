/- Plain functions of chapter 22: the state of a controller and what each access makes of it. No condition. -/
import Derived.Test.YtionembpmfahlaaS21
namespace Go.Proofs.Ytionembpmfahlaa.S
open Go.ChangeShapes Go.WideShapes Go.ChangeAt Go.RowKit
set_option linter.unusedVariables false
/-- The state of a controller. -/
structure Pc where
  St : Int
  Le : Bool
  Fo : Bool
  Si : Bool
  Ft : Bool
  Lw : Int
  Hg : Int
  Au : Bool
  Ro : Bool
  Sp : Bool
  RI : Bool
  Po : Bool
  Li : Int
  Ed : Int
  IS : Int
  IM : Int
  Lo : Int
  Sq : Int
  Sv : Int
  Su : Bool
deriving DecidableEq
/-- Its cells. -/
def Pc.cs (p : Pc) : Array Value := #[.int .i64 p.St, .bool p.Le, .bool p.Fo, .bool p.Si, .bool p.Ft, .int .u8 p.Lw, .int .u8 p.Hg, .bool p.Au, .bool p.Ro, .bool p.Sp, .bool p.RI, .bool p.Po, .int .u8 p.Li, .int .u8 p.Ed, .int .u8 p.IS, .int .u8 p.IM, .int .i64 p.Lo, .int .i64 p.Sq, .int .i64 p.Sv, .bool p.Su]
/-- What a state that is reached has: its bytes are bytes. -/
def Ok (p : Pc) : Prop := (0 ≤ p.IS ∧ p.IS < 256) ∧ (0 ≤ p.Lw ∧ p.Lw < 256) ∧ (0 ≤ p.Hg ∧ p.Hg < 256)
def nw : Pc := ⟨0, false, false, false, false, 0, 0, false, false, false, false, false, 0, 0, 0, 0, 7, 0, 0, false⟩
def raise (p : Pc) (l : Int) : Pc := { p with Ed := bits .and .u8 (bits .or .u8 p.Ed (bits .andNot .u8 l p.Li)) l, Li := l }
def req (p : Pc) : Int := if p.Le then p.Li else p.Ed
def pkc (p : Pc) : Int := pk (bits .andNot .u8 (req p) p.IM) (blk p.IM p.IS p.Sp) p.Lo
/-- The bit of a line. -/
def bl (n : Int) : Int := 2 ^ n.toNat % 256
/-- A line taken into service. -/
def sv (p : Pc) (n : Int) : Pc := { p with IS := bits .or .u8 p.IS (bl n), Ed := bits .andNot .u8 p.Ed (bl n) }
/-- The service of a line ended. -/
def en (p : Pc) (n : Int) (r : Bool) : Pc := if n = -1 then p else { p with IS := bits .andNot .u8 p.IS (bl n), Lo := if r then n else p.Lo }
/-- The first line in service. -/
def his (p : Pc) : Int := hi (blk p.IM p.IS p.Sp) p.Lo
/-- Is an interrupt requested? -/
def int (p : Pc) : Bool := decide (0 ≤ pkc p)
/-- The initialization state after the last word but ICW4. -/
def lst (p : Pc) : Int := if p.Ft then 4 else 0
/-- A write with A0 set. -/
def wrH (p : Pc) (v : Int) : Pc :=
  if p.St = 2 then { p with Hg := v, St := if p.Si then lst p else 3 }
  else if p.St = 3 then { p with St := lst p }
  else if p.St = 4 then { p with Au := bits .and .u8 v 2 != 0, St := 0 }
  else { p with IM := v }
/-- ICW1. -/
def ini (p : Pc) (v : Int) : Pc := ⟨2, bits .and .u8 v 8 != 0, bits .and .u8 v 4 != 0, bits .and .u8 v 2 != 0, bits .and .u8 v 1 != 0, bits .and .u8 v 224, 0, false, false, false, false, false, p.Li, 0, 0, 0, 7, 0, 0, false⟩
/-- OCW3. -/
def mode (p : Pc) (v : Int) : Pc := { p with
  Sp := if bits .and .u8 v 64 = 0 then p.Sp else bits .and .u8 v 32 != 0
  RI := if bits .and .u8 v 2 = 0 then p.RI else bits .and .u8 v 1 != 0
  Po := p.Po || (bits .and .u8 v 4 != 0) }
/-- OCW2. -/
def cmd (p : Pc) (v : Int) : Pc :=
  if v / 32 = 0 then { p with Ro := false }
  else if v / 32 = 4 then { p with Ro := true }
  else if v / 32 = 6 then { p with Lo := v % 8 }
  else if v / 32 = 1 then en p (his p) false
  else if v / 32 = 5 then en p (his p) true
  else if v / 32 = 3 then en p (v % 8) false
  else if v / 32 = 7 then en p (v % 8) true
  else p
def wr (p : Pc) (h : Bool) (v : Int) : Pc :=
  if h then wrH p v else if bits .and .u8 v 16 ≠ 0 then ini p v else if bits .and .u8 v 8 ≠ 0 then mode p v else cmd p v
/-- A poll. -/
def poll (p : Pc) : Pc :=
  if pkc p = -1 then { p with Po := false }
  else if p.Au then en (sv { p with Po := false } (pkc p)) (pkc p) p.Ro else sv { p with Po := false } (pkc p)
def pollV (p : Pc) : Int := if pkc p = -1 then 0 else 128 + pkc p
def rdP (p : Pc) (h : Bool) : Pc := if h then p else if p.Po then poll p else p
def rdW (p : Pc) (h : Bool) : Int := if h then p.IM else if p.Po then pollV p else if p.RI then p.IS else req p
/-- The first pulse. -/
def ch (p : Pc) : Pc :=
  if pkc p = -1 then { p with Sq := 1, Sv := 7, Su := true } else sv { p with Sq := 1, Sv := pkc p, Su := false } (pkc p)
/-- The second pulse's byte. -/
def low (p : Pc) : Int := if p.Fo then (bits .and .u8 p.Lw 224 + 4 * (p.Sv % 8)) % 256 else (bits .and .u8 p.Lw 192 + 8 * (p.Sv % 8)) % 256
/-- The third pulse. -/
def fin (p : Pc) : Pc := if p.Au && !p.Su then en { p with Sq := 0 } (p.Sv % 8) p.Ro else { p with Sq := 0 }
def ack (p : Pc) : Pc := if p.Sq = 0 then ch p else if p.Sq = 1 then { p with Sq := 2 } else fin p
def ackV (p : Pc) : Int := if p.Sq = 0 then 205 else if p.Sq = 1 then low p else p.Hg
theorem pkc_bd (p : Pc) : -1 ≤ pkc p ∧ pkc p < 8 := by
  rcases pk_spec (bits .andNot .u8 (req p) p.IM) (blk p.IM p.IS p.Sp) p.Lo with ⟨h, _⟩ | ⟨h1, h2, _⟩
  · unfold pkc; omega
  · unfold pkc; omega
theorem his_bd (p : Pc) : -1 ≤ his p ∧ his p < 8 := hi_bd _ _
theorem and7_8 (v : Int) (h0 : 0 ≤ v) (h1 : v < 256) : bits .and .u8 v 7 = v % 8 := by
  obtain ⟨x, rfl⟩ := Int.eq_ofNat_of_zero_le h0
  have key : ∀ x : Fin 256, bits .and .u8 (x.val : Int) 7 = (x.val : Int) % 8 := by decide +kernel
  exact key ⟨x, by omega⟩
theorem or128 (n : Int) (h0 : 0 ≤ n) (h1 : n < 8) : bits .or .u8 128 n = 128 + n := by
  obtain ⟨x, rfl⟩ := Int.eq_ofNat_of_zero_le h0
  have key : ∀ x : Fin 8, bits .or .u8 128 (x.val : Int) = 128 + (x.val : Int) := by decide +kernel
  exact key ⟨x, by omega⟩
end Go.Proofs.Ytionembpmfahlaa.S
