/-
  No cell of these rows narrows 'for every input' (looked for: loops, veiled, ifaces, maps, wideKeys, modest, calm, conditions, laid).
  DERIVED. THE GIVEN ROWS OF THIS SEAT. 5 by the template 'for every input the law returns true; each argument reads behind the call as it read before'; 0 by the template 'total and deterministic' (their statements: YtbpnekigmjhkoaaTotals.lean).
  GIVEN WITH THE SEED: the statements are not yours to turn. If you find one false, say at which input.
  Laid BY PROGRAM, IN A SANDBOX (cutbox-rows.mjs): the forced cells as the released guide's own fill.sh prints them over the translation ee950eed639b7454… (all of the seat's roots in one cut). By AI agents, Wed Nov 11 2026. No macro, syntax, notation, axiom, sorry.
-/
import Derived.Test.YtbpnekigmjhkoaaChecked
import GoSem.Claim
import GoSem.ClaimJoined
import GoSem.ClaimMapViews
import Derived.JoinedTies
import Derived.KernelRfl
namespace Go.Proofs.Ytbpnekigmjhkoaa
/- THE CELL 'sum', in the pinned program and in every row, IS THE sha256 OF THE DUMP (.gsa) THAT YtbpnekigmjhkoaaProg.lean LOADS. Nothing in Lean hashes anything: it is a label: what it is worth is what the hold of that sum in a sandbox is worth. -/
noncomputable def Try.pinned : Pinned := { name := "ytbpnekigmjhkoaa", sum := "ee950eed639b745476f0e2d9473d6828c6511506d9f39f0da6205fcad3f8f381", checked := Try.checked }
namespace Rows
def none {H : Type} : Left H := { results := [], args := [] }

/-- 'tstatelaw12.MemoryValidates': WHATEVER THE INPUT: true; the input reads as it did. -/
def memoryValidatesSpec : ChangeSpec := { name := "memoryValidates", fn := fun _ => fun
  | [d1, d2, d3] => { results := [.lit (.bool true)], args := [d1, d2, d3] }
  | _ => none }
def memoryValidatesRow : OpenClaim := { program := "ytbpnekigmjhkoaa", sum := "ee950eed639b745476f0e2d9473d6828c6511506d9f39f0da6205fcad3f8f381", func := "tstate/tstatelaw12.MemoryValidates", spec := "memoryValidates", inPlace := ["slices.overlaps[tstate/api.Cell]"], unfollowed := true, recurses := true, apart := false }
def MemoryValidatesSaid : Prop := memoryValidatesRow.holds Try.pinned (OpenSpec.ofChange memoryValidatesSpec)

/-- ITS FALSE NEIGHBOUR: 'it returns false'. Refute it at one input. -/
def memoryValidatesWrong : ChangeSpec := { name := "memoryValidates", fn := fun _ => fun
  | [d1, d2, d3] => { results := [.lit (.bool false)], args := [d1, d2, d3] }
  | _ => none }
def MemoryValidatesWrongFalsely : Prop := memoryValidatesRow.holds Try.pinned (OpenSpec.ofChange memoryValidatesWrong)

/-- 'tstatelaw12.MemoryNormalizes': WHATEVER THE INPUT: true; the input reads as it did. -/
def memoryNormalizesSpec : ChangeSpec := { name := "memoryNormalizes", fn := fun _ => fun
  | [d1, d2, d3, d4] => { results := [.lit (.bool true)], args := [d1, d2, d3, d4] }
  | _ => none }
def memoryNormalizesRow : OpenClaim := { program := "ytbpnekigmjhkoaa", sum := "ee950eed639b745476f0e2d9473d6828c6511506d9f39f0da6205fcad3f8f381", func := "tstate/tstatelaw12.MemoryNormalizes", spec := "memoryNormalizes", inPlace := ["slices.overlaps[tstate/api.Cell]"], unfollowed := true, recurses := true, apart := false }
def MemoryNormalizesSaid : Prop := memoryNormalizesRow.holds Try.pinned (OpenSpec.ofChange memoryNormalizesSpec)

/-- ITS FALSE NEIGHBOUR: 'it returns false'. Refute it at one input. -/
def memoryNormalizesWrong : ChangeSpec := { name := "memoryNormalizes", fn := fun _ => fun
  | [d1, d2, d3, d4] => { results := [.lit (.bool false)], args := [d1, d2, d3, d4] }
  | _ => none }
def MemoryNormalizesWrongFalsely : Prop := memoryNormalizesRow.holds Try.pinned (OpenSpec.ofChange memoryNormalizesWrong)

/-- 'tstatelaw12.MemoryLoads': WHATEVER THE INPUT: true; the input reads as it did. -/
def memoryLoadsSpec : ChangeSpec := { name := "memoryLoads", fn := fun _ => fun
  | [d1, d2] => { results := [.lit (.bool true)], args := [d1, d2] }
  | _ => none }
def memoryLoadsRow : OpenClaim := { program := "ytbpnekigmjhkoaa", sum := "ee950eed639b745476f0e2d9473d6828c6511506d9f39f0da6205fcad3f8f381", func := "tstate/tstatelaw12.MemoryLoads", spec := "memoryLoads", inPlace := ["slices.overlaps[tstate/api.Cell]"], unfollowed := true, recurses := true, apart := false }
def MemoryLoadsSaid : Prop := memoryLoadsRow.holds Try.pinned (OpenSpec.ofChange memoryLoadsSpec)

/-- ITS FALSE NEIGHBOUR: 'it returns false'. Refute it at one input. -/
def memoryLoadsWrong : ChangeSpec := { name := "memoryLoads", fn := fun _ => fun
  | [d1, d2] => { results := [.lit (.bool false)], args := [d1, d2] }
  | _ => none }
def MemoryLoadsWrongFalsely : Prop := memoryLoadsRow.holds Try.pinned (OpenSpec.ofChange memoryLoadsWrong)

/-- 'tstatelaw12.MemoryKeeps': WHATEVER THE INPUT: true; the input reads as it did. -/
def memoryKeepsSpec : ChangeSpec := { name := "memoryKeeps", fn := fun _ => fun
  | [d1, d2, d3, d4] => { results := [.lit (.bool true)], args := [d1, d2, d3, d4] }
  | _ => none }
def memoryKeepsRow : OpenClaim := { program := "ytbpnekigmjhkoaa", sum := "ee950eed639b745476f0e2d9473d6828c6511506d9f39f0da6205fcad3f8f381", func := "tstate/tstatelaw12.MemoryKeeps", spec := "memoryKeeps", inPlace := ["slices.overlaps[tstate/api.Cell]"], unfollowed := true, recurses := true, apart := false }
def MemoryKeepsSaid : Prop := memoryKeepsRow.holds Try.pinned (OpenSpec.ofChange memoryKeepsSpec)

/-- ITS FALSE NEIGHBOUR: 'it returns false'. Refute it at one input. -/
def memoryKeepsWrong : ChangeSpec := { name := "memoryKeeps", fn := fun _ => fun
  | [d1, d2, d3, d4] => { results := [.lit (.bool false)], args := [d1, d2, d3, d4] }
  | _ => none }
def MemoryKeepsWrongFalsely : Prop := memoryKeepsRow.holds Try.pinned (OpenSpec.ofChange memoryKeepsWrong)

/-- 'tstatelaw12.MemoryExchanges': WHATEVER THE INPUT: true; the input reads as it did. -/
def memoryExchangesSpec : ChangeSpec := { name := "memoryExchanges", fn := fun _ => fun
  | [d1, d2, d3, d4, d5] => { results := [.lit (.bool true)], args := [d1, d2, d3, d4, d5] }
  | _ => none }
def memoryExchangesRow : OpenClaim := { program := "ytbpnekigmjhkoaa", sum := "ee950eed639b745476f0e2d9473d6828c6511506d9f39f0da6205fcad3f8f381", func := "tstate/tstatelaw12.MemoryExchanges", spec := "memoryExchanges", inPlace := ["slices.overlaps[tstate/api.Cell]"], unfollowed := true, recurses := true, apart := false }
def MemoryExchangesSaid : Prop := memoryExchangesRow.holds Try.pinned (OpenSpec.ofChange memoryExchangesSpec)

/-- ITS FALSE NEIGHBOUR: 'it returns false'. Refute it at one input. -/
def memoryExchangesWrong : ChangeSpec := { name := "memoryExchanges", fn := fun _ => fun
  | [d1, d2, d3, d4, d5] => { results := [.lit (.bool false)], args := [d1, d2, d3, d4, d5] }
  | _ => none }
def MemoryExchangesWrongFalsely : Prop := memoryExchangesRow.holds Try.pinned (OpenSpec.ofChange memoryExchangesWrong)

/- THE SECOND FORM. 'bulk': how many values and letters a reading holds, each counted each time it is reached (what is shared counts as often as it is met; a slice's spare places count too). A statement '..UptoSaid' is the law's where the arguments, and the package variables that the reading takes, are together of bulk at most 1048576: NARROWER than '..Said'. Prove '..Said' where nothing that the law and all that it calls make is longer than what came in: it says more and counts as full. Else prove '..UptoSaid'. A law counts once. -/
mutual
def uptoBulk {H : Type} : DataW H → Nat
  | .lit (.string bytes) => bytes.length + 1
  | .lit _ => 1
  | .nil => 1
  | .ptr d => uptoBulk d + 1
  | .slice elems spare => uptoBulkAll elems + uptoBulkAll spare + 1
  | .agg parts => uptoBulkAll parts + 1
  | .iface _ d => uptoBulk d + 1
  | .map entries => uptoBulkEntries entries + 1
  | .held _ => 1
def uptoBulkAll {H : Type} : List (DataW H) → Nat
  | [] => 0
  | d :: r => uptoBulk d + uptoBulkAll r
def uptoBulkEntries {H : Type} : List (Lit × DataW H) → Nat
  | [] => 0
  | x :: r => uptoBulkEntry x + uptoBulkEntries r
def uptoBulkEntry {H : Type} : Lit × DataW H → Nat
  | (.string bytes, d) => bytes.length + uptoBulk d + 1
  | (_, d) => uptoBulk d + 1
 end
def uptoSmall : (H : Type) → List (DataW H) → Bool := fun _ ds => decide (uptoBulkAll ds ≤ 1048576)
def OpenSpec.upto (s : _root_.Go.ChangeSpec) : _root_.Go.OpenSpec := { _root_.Go.OpenSpec.ofChange s with cond := some uptoSmall }

/-- 'tstatelaw12.MemoryValidates', WHERE WHAT IT READS IS OF BULK AT MOST 1048576: true; the input reads as it did. -/
def memoryValidatesUptoRow : OpenClaim := { program := "ytbpnekigmjhkoaa", sum := "ee950eed639b745476f0e2d9473d6828c6511506d9f39f0da6205fcad3f8f381", func := "tstate/tstatelaw12.MemoryValidates", spec := "memoryValidates", inPlace := ["slices.overlaps[tstate/api.Cell]"], unfollowed := true, recurses := true, apart := false, narrowed := true }
def MemoryValidatesUptoSaid : Prop := memoryValidatesUptoRow.holds Try.pinned (OpenSpec.upto memoryValidatesSpec)

/-- 'tstatelaw12.MemoryNormalizes', WHERE WHAT IT READS IS OF BULK AT MOST 1048576: true; the input reads as it did. -/
def memoryNormalizesUptoRow : OpenClaim := { program := "ytbpnekigmjhkoaa", sum := "ee950eed639b745476f0e2d9473d6828c6511506d9f39f0da6205fcad3f8f381", func := "tstate/tstatelaw12.MemoryNormalizes", spec := "memoryNormalizes", inPlace := ["slices.overlaps[tstate/api.Cell]"], unfollowed := true, recurses := true, apart := false, narrowed := true }
def MemoryNormalizesUptoSaid : Prop := memoryNormalizesUptoRow.holds Try.pinned (OpenSpec.upto memoryNormalizesSpec)

/-- 'tstatelaw12.MemoryLoads', WHERE WHAT IT READS IS OF BULK AT MOST 1048576: true; the input reads as it did. -/
def memoryLoadsUptoRow : OpenClaim := { program := "ytbpnekigmjhkoaa", sum := "ee950eed639b745476f0e2d9473d6828c6511506d9f39f0da6205fcad3f8f381", func := "tstate/tstatelaw12.MemoryLoads", spec := "memoryLoads", inPlace := ["slices.overlaps[tstate/api.Cell]"], unfollowed := true, recurses := true, apart := false, narrowed := true }
def MemoryLoadsUptoSaid : Prop := memoryLoadsUptoRow.holds Try.pinned (OpenSpec.upto memoryLoadsSpec)

/-- 'tstatelaw12.MemoryKeeps', WHERE WHAT IT READS IS OF BULK AT MOST 1048576: true; the input reads as it did. -/
def memoryKeepsUptoRow : OpenClaim := { program := "ytbpnekigmjhkoaa", sum := "ee950eed639b745476f0e2d9473d6828c6511506d9f39f0da6205fcad3f8f381", func := "tstate/tstatelaw12.MemoryKeeps", spec := "memoryKeeps", inPlace := ["slices.overlaps[tstate/api.Cell]"], unfollowed := true, recurses := true, apart := false, narrowed := true }
def MemoryKeepsUptoSaid : Prop := memoryKeepsUptoRow.holds Try.pinned (OpenSpec.upto memoryKeepsSpec)

/-- 'tstatelaw12.MemoryExchanges', WHERE WHAT IT READS IS OF BULK AT MOST 1048576: true; the input reads as it did. -/
def memoryExchangesUptoRow : OpenClaim := { program := "ytbpnekigmjhkoaa", sum := "ee950eed639b745476f0e2d9473d6828c6511506d9f39f0da6205fcad3f8f381", func := "tstate/tstatelaw12.MemoryExchanges", spec := "memoryExchanges", inPlace := ["slices.overlaps[tstate/api.Cell]"], unfollowed := true, recurses := true, apart := false, narrowed := true }
def MemoryExchangesUptoSaid : Prop := memoryExchangesUptoRow.holds Try.pinned (OpenSpec.upto memoryExchangesSpec)

end Rows
end Go.Proofs.Ytbpnekigmjhkoaa
