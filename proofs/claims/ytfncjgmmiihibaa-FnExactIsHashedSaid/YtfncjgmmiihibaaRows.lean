/-
  No cell of these rows narrows 'for every input' (looked for: loops, veiled, ifaces, maps, wideKeys, modest, calm, conditions, laid).
  DERIVED. THE GIVEN ROWS OF THIS SEAT. 10 by the template 'for every input the law returns true; each argument reads behind the call as it read before'; 0 by the template 'total and deterministic' (their statements: YtfncjgmmiihibaaTotals.lean).
  GIVEN WITH THE SEED: the statements are not yours to turn. If you find one false, say at which input.
  Laid BY PROGRAM, IN A SANDBOX (cutbox-rows.mjs): the forced cells as the released guide's own fill.sh prints them over the translation 677a8ec3e26aef84… (all of the seat's roots in one cut). By AI agents, Wed Nov 11 2026. No macro, syntax, notation, axiom, sorry.
-/
import Derived.Test.YtfncjgmmiihibaaChecked
import GoSem.Claim
import GoSem.ClaimJoined
import GoSem.ClaimMapViews
import Derived.JoinedTies
import Derived.KernelRfl
namespace Go.Proofs.Ytfncjgmmiihibaa
/- THE CELL 'sum', in the pinned program and in every row, IS THE sha256 OF THE DUMP (.gsa) THAT YtfncjgmmiihibaaProg.lean LOADS. Nothing in Lean hashes anything: it is a label: what it is worth is what the hold of that sum in a sandbox is worth. -/
noncomputable def Try.pinned : Pinned := { name := "ytfncjgmmiihibaa", sum := "677a8ec3e26aef8431024396c42570e706abc3d6f3a84d00bc9deda5ad8b730a", checked := Try.checked }
namespace Rows
def none {H : Type} : Left H := { results := [], args := [] }

/-- 'laws.FnGates': WHATEVER THE INPUT: true; the input reads as it did. -/
def fnGatesSpec : ChangeSpec := { name := "fnGates", fn := fun _ => fun
  | [d] => { results := [.lit (.bool true)], args := [d] }
  | _ => none }
def fnGatesRow : OpenClaim := { program := "ytfncjgmmiihibaa", sum := "677a8ec3e26aef8431024396c42570e706abc3d6f3a84d00bc9deda5ad8b730a", func := "loop.example/g03311/laws.FnGates", spec := "fnGates", unfollowed := true, recurses := true, plainKeys := false, apart := false }
def FnGatesSaid : Prop := fnGatesRow.holds Try.pinned (OpenSpec.ofChange fnGatesSpec)

/-- ITS FALSE NEIGHBOUR: 'it returns false'. Refute it at one input. -/
def fnGatesWrong : ChangeSpec := { name := "fnGates", fn := fun _ => fun
  | [d] => { results := [.lit (.bool false)], args := [d] }
  | _ => none }
def FnGatesWrongFalsely : Prop := fnGatesRow.holds Try.pinned (OpenSpec.ofChange fnGatesWrong)

/-- 'laws.FnHashRuns': WHATEVER THE INPUT: true; the input reads as it did. -/
def fnHashRunsSpec : ChangeSpec := { name := "fnHashRuns", fn := fun _ => fun
  | [d] => { results := [.lit (.bool true)], args := [d] }
  | _ => none }
def fnHashRunsRow : OpenClaim := { program := "ytfncjgmmiihibaa", sum := "677a8ec3e26aef8431024396c42570e706abc3d6f3a84d00bc9deda5ad8b730a", func := "loop.example/g03311/laws.FnHashRuns", spec := "fnHashRuns", unfollowed := true, recurses := true, plainKeys := false, apart := false }
def FnHashRunsSaid : Prop := fnHashRunsRow.holds Try.pinned (OpenSpec.ofChange fnHashRunsSpec)

/-- ITS FALSE NEIGHBOUR: 'it returns false'. Refute it at one input. -/
def fnHashRunsWrong : ChangeSpec := { name := "fnHashRuns", fn := fun _ => fun
  | [d] => { results := [.lit (.bool false)], args := [d] }
  | _ => none }
def FnHashRunsWrongFalsely : Prop := fnHashRunsRow.holds Try.pinned (OpenSpec.ofChange fnHashRunsWrong)

/-- 'laws.FnHashAgain': WHATEVER THE INPUT: true; the input reads as it did. -/
def fnHashAgainSpec : ChangeSpec := { name := "fnHashAgain", fn := fun _ => fun
  | [d] => { results := [.lit (.bool true)], args := [d] }
  | _ => none }
def fnHashAgainRow : OpenClaim := { program := "ytfncjgmmiihibaa", sum := "677a8ec3e26aef8431024396c42570e706abc3d6f3a84d00bc9deda5ad8b730a", func := "loop.example/g03311/laws.FnHashAgain", spec := "fnHashAgain", unfollowed := true, recurses := true, plainKeys := false, apart := false }
def FnHashAgainSaid : Prop := fnHashAgainRow.holds Try.pinned (OpenSpec.ofChange fnHashAgainSpec)

/-- ITS FALSE NEIGHBOUR: 'it returns false'. Refute it at one input. -/
def fnHashAgainWrong : ChangeSpec := { name := "fnHashAgain", fn := fun _ => fun
  | [d] => { results := [.lit (.bool false)], args := [d] }
  | _ => none }
def FnHashAgainWrongFalsely : Prop := fnHashAgainRow.holds Try.pinned (OpenSpec.ofChange fnHashAgainWrong)

/-- 'laws.FnExactAddAnd': WHATEVER THE INPUT: true; the input reads as it did. -/
def fnExactAddAndSpec : ChangeSpec := { name := "fnExactAddAnd", fn := fun _ => fun
  | [d1, d2, d3] => { results := [.lit (.bool true)], args := [d1, d2, d3] }
  | _ => none }
def fnExactAddAndRow : OpenClaim := { program := "ytfncjgmmiihibaa", sum := "677a8ec3e26aef8431024396c42570e706abc3d6f3a84d00bc9deda5ad8b730a", func := "loop.example/g03311/laws.FnExactAddAnd", spec := "fnExactAddAnd", unfollowed := true, recurses := true, plainKeys := false, apart := false }
def FnExactAddAndSaid : Prop := fnExactAddAndRow.holds Try.pinned (OpenSpec.ofChange fnExactAddAndSpec)

/-- ITS FALSE NEIGHBOUR: 'it returns false'. Refute it at one input. -/
def fnExactAddAndWrong : ChangeSpec := { name := "fnExactAddAnd", fn := fun _ => fun
  | [d1, d2, d3] => { results := [.lit (.bool false)], args := [d1, d2, d3] }
  | _ => none }
def FnExactAddAndWrongFalsely : Prop := fnExactAddAndRow.holds Try.pinned (OpenSpec.ofChange fnExactAddAndWrong)

/-- 'laws.FnExactAddOr': WHATEVER THE INPUT: true; the input reads as it did. -/
def fnExactAddOrSpec : ChangeSpec := { name := "fnExactAddOr", fn := fun _ => fun
  | [d1, d2, d3] => { results := [.lit (.bool true)], args := [d1, d2, d3] }
  | _ => none }
def fnExactAddOrRow : OpenClaim := { program := "ytfncjgmmiihibaa", sum := "677a8ec3e26aef8431024396c42570e706abc3d6f3a84d00bc9deda5ad8b730a", func := "loop.example/g03311/laws.FnExactAddOr", spec := "fnExactAddOr", unfollowed := true, recurses := true, plainKeys := false, apart := false }
def FnExactAddOrSaid : Prop := fnExactAddOrRow.holds Try.pinned (OpenSpec.ofChange fnExactAddOrSpec)

/-- ITS FALSE NEIGHBOUR: 'it returns false'. Refute it at one input. -/
def fnExactAddOrWrong : ChangeSpec := { name := "fnExactAddOr", fn := fun _ => fun
  | [d1, d2, d3] => { results := [.lit (.bool false)], args := [d1, d2, d3] }
  | _ => none }
def FnExactAddOrWrongFalsely : Prop := fnExactAddOrRow.holds Try.pinned (OpenSpec.ofChange fnExactAddOrWrong)

/-- 'laws.FnExactAddXor': WHATEVER THE INPUT: true; the input reads as it did. -/
def fnExactAddXorSpec : ChangeSpec := { name := "fnExactAddXor", fn := fun _ => fun
  | [d1, d2, d3] => { results := [.lit (.bool true)], args := [d1, d2, d3] }
  | _ => none }
def fnExactAddXorRow : OpenClaim := { program := "ytfncjgmmiihibaa", sum := "677a8ec3e26aef8431024396c42570e706abc3d6f3a84d00bc9deda5ad8b730a", func := "loop.example/g03311/laws.FnExactAddXor", spec := "fnExactAddXor", unfollowed := true, recurses := true, plainKeys := false, apart := false }
def FnExactAddXorSaid : Prop := fnExactAddXorRow.holds Try.pinned (OpenSpec.ofChange fnExactAddXorSpec)

/-- ITS FALSE NEIGHBOUR: 'it returns false'. Refute it at one input. -/
def fnExactAddXorWrong : ChangeSpec := { name := "fnExactAddXor", fn := fun _ => fun
  | [d1, d2, d3] => { results := [.lit (.bool false)], args := [d1, d2, d3] }
  | _ => none }
def FnExactAddXorWrongFalsely : Prop := fnExactAddXorRow.holds Try.pinned (OpenSpec.ofChange fnExactAddXorWrong)

/-- 'laws.FnExactAddMux': WHATEVER THE INPUT: true; the input reads as it did. -/
def fnExactAddMuxSpec : ChangeSpec := { name := "fnExactAddMux", fn := fun _ => fun
  | [d1, d2, d3, d4] => { results := [.lit (.bool true)], args := [d1, d2, d3, d4] }
  | _ => none }
def fnExactAddMuxRow : OpenClaim := { program := "ytfncjgmmiihibaa", sum := "677a8ec3e26aef8431024396c42570e706abc3d6f3a84d00bc9deda5ad8b730a", func := "loop.example/g03311/laws.FnExactAddMux", spec := "fnExactAddMux", unfollowed := true, recurses := true, plainKeys := false, apart := false }
def FnExactAddMuxSaid : Prop := fnExactAddMuxRow.holds Try.pinned (OpenSpec.ofChange fnExactAddMuxSpec)

/-- ITS FALSE NEIGHBOUR: 'it returns false'. Refute it at one input. -/
def fnExactAddMuxWrong : ChangeSpec := { name := "fnExactAddMux", fn := fun _ => fun
  | [d1, d2, d3, d4] => { results := [.lit (.bool false)], args := [d1, d2, d3, d4] }
  | _ => none }
def FnExactAddMuxWrongFalsely : Prop := fnExactAddMuxRow.holds Try.pinned (OpenSpec.ofChange fnExactAddMuxWrong)

/-- 'laws.FnExactHash': WHATEVER THE INPUT: true; the input reads as it did. -/
def fnExactHashSpec : ChangeSpec := { name := "fnExactHash", fn := fun _ => fun
  | [d] => { results := [.lit (.bool true)], args := [d] }
  | _ => none }
def fnExactHashRow : OpenClaim := { program := "ytfncjgmmiihibaa", sum := "677a8ec3e26aef8431024396c42570e706abc3d6f3a84d00bc9deda5ad8b730a", func := "loop.example/g03311/laws.FnExactHash", spec := "fnExactHash", unfollowed := true, recurses := true, plainKeys := false, apart := false }
def FnExactHashSaid : Prop := fnExactHashRow.holds Try.pinned (OpenSpec.ofChange fnExactHashSpec)

/-- ITS FALSE NEIGHBOUR: 'it returns false'. Refute it at one input. -/
def fnExactHashWrong : ChangeSpec := { name := "fnExactHash", fn := fun _ => fun
  | [d] => { results := [.lit (.bool false)], args := [d] }
  | _ => none }
def FnExactHashWrongFalsely : Prop := fnExactHashRow.holds Try.pinned (OpenSpec.ofChange fnExactHashWrong)

/-- 'laws.FnExactSweep': WHATEVER THE INPUT: true; the input reads as it did. -/
def fnExactSweepSpec : ChangeSpec := { name := "fnExactSweep", fn := fun _ => fun
  | [d] => { results := [.lit (.bool true)], args := [d] }
  | _ => none }
def fnExactSweepRow : OpenClaim := { program := "ytfncjgmmiihibaa", sum := "677a8ec3e26aef8431024396c42570e706abc3d6f3a84d00bc9deda5ad8b730a", func := "loop.example/g03311/laws.FnExactSweep", spec := "fnExactSweep", unfollowed := true, recurses := true, plainKeys := false, apart := false }
def FnExactSweepSaid : Prop := fnExactSweepRow.holds Try.pinned (OpenSpec.ofChange fnExactSweepSpec)

/-- ITS FALSE NEIGHBOUR: 'it returns false'. Refute it at one input. -/
def fnExactSweepWrong : ChangeSpec := { name := "fnExactSweep", fn := fun _ => fun
  | [d] => { results := [.lit (.bool false)], args := [d] }
  | _ => none }
def FnExactSweepWrongFalsely : Prop := fnExactSweepRow.holds Try.pinned (OpenSpec.ofChange fnExactSweepWrong)

/-- 'laws.FnExactIsHashed': WHATEVER THE INPUT: true; the input reads as it did. -/
def fnExactIsHashedSpec : ChangeSpec := { name := "fnExactIsHashed", fn := fun _ => fun
  | [d] => { results := [.lit (.bool true)], args := [d] }
  | _ => none }
def fnExactIsHashedRow : OpenClaim := { program := "ytfncjgmmiihibaa", sum := "677a8ec3e26aef8431024396c42570e706abc3d6f3a84d00bc9deda5ad8b730a", func := "loop.example/g03311/laws.FnExactIsHashed", spec := "fnExactIsHashed", unfollowed := true, recurses := true, plainKeys := false, apart := false }
def FnExactIsHashedSaid : Prop := fnExactIsHashedRow.holds Try.pinned (OpenSpec.ofChange fnExactIsHashedSpec)

/-- ITS FALSE NEIGHBOUR: 'it returns false'. Refute it at one input. -/
def fnExactIsHashedWrong : ChangeSpec := { name := "fnExactIsHashed", fn := fun _ => fun
  | [d] => { results := [.lit (.bool false)], args := [d] }
  | _ => none }
def FnExactIsHashedWrongFalsely : Prop := fnExactIsHashedRow.holds Try.pinned (OpenSpec.ofChange fnExactIsHashedWrong)

/- THE SECOND FORM. 'bulk': how many values and letters a reading holds, each counted each time it is reached (what is shared counts as often as it is met; a slice's spare places count too). A statement '..UptoSaid' is the law's where the arguments, and the package variables that the reading takes, are together of bulk at most 1048576: NARROWER than '..Said'. Prove '..Said' where nothing that the law and all that it calls make is longer than what came in: it says more and counts as full. Else prove '..UptoSaid'. A law counts once. -/
mutual
def uptoBulk {H : Type} : DataW H → Nat
  | .lit (.string bytes) => bytes.length + 1
  | .lit _ => 1
  | .nil => 1
  | .ptr d => uptoBulk d + 1
  | .slice elems spare => uptoBulkAll elems + uptoBulkAll spare + 1
  | .agg parts => uptoBulkAll parts + 1
  | .iface _ d => uptoBulk d + 1
  | .map entries => uptoBulkEntries entries + 1
  | .held _ => 1
def uptoBulkAll {H : Type} : List (DataW H) → Nat
  | [] => 0
  | d :: r => uptoBulk d + uptoBulkAll r
def uptoBulkEntries {H : Type} : List (Lit × DataW H) → Nat
  | [] => 0
  | x :: r => uptoBulkEntry x + uptoBulkEntries r
def uptoBulkEntry {H : Type} : Lit × DataW H → Nat
  | (.string bytes, d) => bytes.length + uptoBulk d + 1
  | (_, d) => uptoBulk d + 1
 end
def uptoSmall : (H : Type) → List (DataW H) → Bool := fun _ ds => decide (uptoBulkAll ds ≤ 1048576)
def OpenSpec.upto (s : _root_.Go.ChangeSpec) : _root_.Go.OpenSpec := { _root_.Go.OpenSpec.ofChange s with cond := some uptoSmall }

/-- 'laws.FnGates', WHERE WHAT IT READS IS OF BULK AT MOST 1048576: true; the input reads as it did. -/
def fnGatesUptoRow : OpenClaim := { program := "ytfncjgmmiihibaa", sum := "677a8ec3e26aef8431024396c42570e706abc3d6f3a84d00bc9deda5ad8b730a", func := "loop.example/g03311/laws.FnGates", spec := "fnGates", unfollowed := true, recurses := true, plainKeys := false, apart := false, narrowed := true }
def FnGatesUptoSaid : Prop := fnGatesUptoRow.holds Try.pinned (OpenSpec.upto fnGatesSpec)

/-- 'laws.FnHashRuns', WHERE WHAT IT READS IS OF BULK AT MOST 1048576: true; the input reads as it did. -/
def fnHashRunsUptoRow : OpenClaim := { program := "ytfncjgmmiihibaa", sum := "677a8ec3e26aef8431024396c42570e706abc3d6f3a84d00bc9deda5ad8b730a", func := "loop.example/g03311/laws.FnHashRuns", spec := "fnHashRuns", unfollowed := true, recurses := true, plainKeys := false, apart := false, narrowed := true }
def FnHashRunsUptoSaid : Prop := fnHashRunsUptoRow.holds Try.pinned (OpenSpec.upto fnHashRunsSpec)

/-- 'laws.FnHashAgain', WHERE WHAT IT READS IS OF BULK AT MOST 1048576: true; the input reads as it did. -/
def fnHashAgainUptoRow : OpenClaim := { program := "ytfncjgmmiihibaa", sum := "677a8ec3e26aef8431024396c42570e706abc3d6f3a84d00bc9deda5ad8b730a", func := "loop.example/g03311/laws.FnHashAgain", spec := "fnHashAgain", unfollowed := true, recurses := true, plainKeys := false, apart := false, narrowed := true }
def FnHashAgainUptoSaid : Prop := fnHashAgainUptoRow.holds Try.pinned (OpenSpec.upto fnHashAgainSpec)

/-- 'laws.FnExactAddAnd', WHERE WHAT IT READS IS OF BULK AT MOST 1048576: true; the input reads as it did. -/
def fnExactAddAndUptoRow : OpenClaim := { program := "ytfncjgmmiihibaa", sum := "677a8ec3e26aef8431024396c42570e706abc3d6f3a84d00bc9deda5ad8b730a", func := "loop.example/g03311/laws.FnExactAddAnd", spec := "fnExactAddAnd", unfollowed := true, recurses := true, plainKeys := false, apart := false, narrowed := true }
def FnExactAddAndUptoSaid : Prop := fnExactAddAndUptoRow.holds Try.pinned (OpenSpec.upto fnExactAddAndSpec)

/-- 'laws.FnExactAddOr', WHERE WHAT IT READS IS OF BULK AT MOST 1048576: true; the input reads as it did. -/
def fnExactAddOrUptoRow : OpenClaim := { program := "ytfncjgmmiihibaa", sum := "677a8ec3e26aef8431024396c42570e706abc3d6f3a84d00bc9deda5ad8b730a", func := "loop.example/g03311/laws.FnExactAddOr", spec := "fnExactAddOr", unfollowed := true, recurses := true, plainKeys := false, apart := false, narrowed := true }
def FnExactAddOrUptoSaid : Prop := fnExactAddOrUptoRow.holds Try.pinned (OpenSpec.upto fnExactAddOrSpec)

/-- 'laws.FnExactAddXor', WHERE WHAT IT READS IS OF BULK AT MOST 1048576: true; the input reads as it did. -/
def fnExactAddXorUptoRow : OpenClaim := { program := "ytfncjgmmiihibaa", sum := "677a8ec3e26aef8431024396c42570e706abc3d6f3a84d00bc9deda5ad8b730a", func := "loop.example/g03311/laws.FnExactAddXor", spec := "fnExactAddXor", unfollowed := true, recurses := true, plainKeys := false, apart := false, narrowed := true }
def FnExactAddXorUptoSaid : Prop := fnExactAddXorUptoRow.holds Try.pinned (OpenSpec.upto fnExactAddXorSpec)

/-- 'laws.FnExactAddMux', WHERE WHAT IT READS IS OF BULK AT MOST 1048576: true; the input reads as it did. -/
def fnExactAddMuxUptoRow : OpenClaim := { program := "ytfncjgmmiihibaa", sum := "677a8ec3e26aef8431024396c42570e706abc3d6f3a84d00bc9deda5ad8b730a", func := "loop.example/g03311/laws.FnExactAddMux", spec := "fnExactAddMux", unfollowed := true, recurses := true, plainKeys := false, apart := false, narrowed := true }
def FnExactAddMuxUptoSaid : Prop := fnExactAddMuxUptoRow.holds Try.pinned (OpenSpec.upto fnExactAddMuxSpec)

/-- 'laws.FnExactHash', WHERE WHAT IT READS IS OF BULK AT MOST 1048576: true; the input reads as it did. -/
def fnExactHashUptoRow : OpenClaim := { program := "ytfncjgmmiihibaa", sum := "677a8ec3e26aef8431024396c42570e706abc3d6f3a84d00bc9deda5ad8b730a", func := "loop.example/g03311/laws.FnExactHash", spec := "fnExactHash", unfollowed := true, recurses := true, plainKeys := false, apart := false, narrowed := true }
def FnExactHashUptoSaid : Prop := fnExactHashUptoRow.holds Try.pinned (OpenSpec.upto fnExactHashSpec)

/-- 'laws.FnExactSweep', WHERE WHAT IT READS IS OF BULK AT MOST 1048576: true; the input reads as it did. -/
def fnExactSweepUptoRow : OpenClaim := { program := "ytfncjgmmiihibaa", sum := "677a8ec3e26aef8431024396c42570e706abc3d6f3a84d00bc9deda5ad8b730a", func := "loop.example/g03311/laws.FnExactSweep", spec := "fnExactSweep", unfollowed := true, recurses := true, plainKeys := false, apart := false, narrowed := true }
def FnExactSweepUptoSaid : Prop := fnExactSweepUptoRow.holds Try.pinned (OpenSpec.upto fnExactSweepSpec)

/-- 'laws.FnExactIsHashed', WHERE WHAT IT READS IS OF BULK AT MOST 1048576: true; the input reads as it did. -/
def fnExactIsHashedUptoRow : OpenClaim := { program := "ytfncjgmmiihibaa", sum := "677a8ec3e26aef8431024396c42570e706abc3d6f3a84d00bc9deda5ad8b730a", func := "loop.example/g03311/laws.FnExactIsHashed", spec := "fnExactIsHashed", unfollowed := true, recurses := true, plainKeys := false, apart := false, narrowed := true }
def FnExactIsHashedUptoSaid : Prop := fnExactIsHashedUptoRow.holds Try.pinned (OpenSpec.upto fnExactIsHashedSpec)

end Rows
end Go.Proofs.Ytfncjgmmiihibaa
