/-
  No cell of these rows narrows 'for every input' (looked for: loops, veiled, ifaces, maps, wideKeys, modest, calm, conditions, laid).
  DERIVED. THE GIVEN ROWS OF THIS SEAT. 5 by the template 'for every input the law returns true; each argument reads behind the call as it read before'; 0 by the template 'total and deterministic' (their statements: YtmjofpfkgbnknaaGreatTotals.lean).
  GIVEN WITH THE SEED: the statements are not yours to turn. If you find one false, say at which input.
  Laid BY PROGRAM, IN A SANDBOX (cutbox-rows.mjs): the forced cells as the released guide's own fill.sh prints them over the translation 18c298c12923b69b… (all of the seat's roots in one cut). By AI agents, Wed Nov 11 2026. No macro, syntax, notation, axiom, sorry.
-/
import Derived.Test.YtmjofpfkgbnknaaGreatChecked
import GoSem.Claim
import GoSem.ClaimJoined
import GoSem.ClaimMapViews
import Derived.JoinedTies
import Derived.KernelRfl
namespace Go.Proofs.YtmjofpfkgbnknaaGreat
/- THE CELL 'sum', in the pinned program and in every row, IS THE sha256 OF THE DUMP (.gsa) THAT YtmjofpfkgbnknaaGreatProg.lean LOADS. Nothing in Lean hashes anything: it is a label: what it is worth is what the hold of that sum in a sandbox is worth. -/
noncomputable def Tryz.pinned : Pinned := { name := "ytmjofpfkgbnknaagreat", sum := "18c298c12923b69bf2db4393413a9fba4a4136a1cbf70f3bc9f58889ce565a96", checked := Tryz.checked }
namespace Rows
def none {H : Type} : Left H := { results := [], args := [] }

/-- 'laws.FnExactFlatten': WHATEVER THE INPUT: true; the input reads as it did. -/
def fnExactFlattenSpec : ChangeSpec := { name := "fnExactFlatten", fn := fun _ => fun
  | [d1, d2] => { results := [.lit (.bool true)], args := [d1, d2] }
  | _ => none }
def fnExactFlattenRow : OpenClaim := { program := "ytmjofpfkgbnknaagreat", sum := "18c298c12923b69bf2db4393413a9fba4a4136a1cbf70f3bc9f58889ce565a96", func := "loop.example/g03311/laws.FnExactFlatten", spec := "fnExactFlatten", unfollowed := true, recurses := true, apart := false }
def FnExactFlattenSaid : Prop := fnExactFlattenRow.holds Tryz.pinned (OpenSpec.ofChange fnExactFlattenSpec)

/-- ITS FALSE NEIGHBOUR: 'it returns false'. Refute it at one input. -/
def fnExactFlattenWrong : ChangeSpec := { name := "fnExactFlatten", fn := fun _ => fun
  | [d1, d2] => { results := [.lit (.bool false)], args := [d1, d2] }
  | _ => none }
def FnExactFlattenWrongFalsely : Prop := fnExactFlattenRow.holds Tryz.pinned (OpenSpec.ofChange fnExactFlattenWrong)

/-- 'laws.FnExactSignalValues': WHATEVER THE INPUT: true; the input reads as it did. -/
def fnExactSignalValuesSpec : ChangeSpec := { name := "fnExactSignalValues", fn := fun _ => fun
  | [d1, d2, d3] => { results := [.lit (.bool true)], args := [d1, d2, d3] }
  | _ => none }
def fnExactSignalValuesRow : OpenClaim := { program := "ytmjofpfkgbnknaagreat", sum := "18c298c12923b69bf2db4393413a9fba4a4136a1cbf70f3bc9f58889ce565a96", func := "loop.example/g03311/laws.FnExactSignalValues", spec := "fnExactSignalValues", unfollowed := true, recurses := true, apart := false }
def FnExactSignalValuesSaid : Prop := fnExactSignalValuesRow.holds Tryz.pinned (OpenSpec.ofChange fnExactSignalValuesSpec)

/-- ITS FALSE NEIGHBOUR: 'it returns false'. Refute it at one input. -/
def fnExactSignalValuesWrong : ChangeSpec := { name := "fnExactSignalValues", fn := fun _ => fun
  | [d1, d2, d3] => { results := [.lit (.bool false)], args := [d1, d2, d3] }
  | _ => none }
def FnExactSignalValuesWrongFalsely : Prop := fnExactSignalValuesRow.holds Tryz.pinned (OpenSpec.ofChange fnExactSignalValuesWrong)

/-- 'laws.FnExactFlatStep': WHATEVER THE INPUT: true; the input reads as it did. -/
def fnExactFlatStepSpec : ChangeSpec := { name := "fnExactFlatStep", fn := fun _ => fun
  | [d1, d2, d3] => { results := [.lit (.bool true)], args := [d1, d2, d3] }
  | _ => none }
def fnExactFlatStepRow : OpenClaim := { program := "ytmjofpfkgbnknaagreat", sum := "18c298c12923b69bf2db4393413a9fba4a4136a1cbf70f3bc9f58889ce565a96", func := "loop.example/g03311/laws.FnExactFlatStep", spec := "fnExactFlatStep", unfollowed := true, recurses := true, apart := false }
def FnExactFlatStepSaid : Prop := fnExactFlatStepRow.holds Tryz.pinned (OpenSpec.ofChange fnExactFlatStepSpec)

/-- ITS FALSE NEIGHBOUR: 'it returns false'. Refute it at one input. -/
def fnExactFlatStepWrong : ChangeSpec := { name := "fnExactFlatStep", fn := fun _ => fun
  | [d1, d2, d3] => { results := [.lit (.bool false)], args := [d1, d2, d3] }
  | _ => none }
def FnExactFlatStepWrongFalsely : Prop := fnExactFlatStepRow.holds Tryz.pinned (OpenSpec.ofChange fnExactFlatStepWrong)

/-- 'laws.FnExactFlatRun': WHATEVER THE INPUT: true; the input reads as it did. -/
def fnExactFlatRunSpec : ChangeSpec := { name := "fnExactFlatRun", fn := fun _ => fun
  | [d1, d2] => { results := [.lit (.bool true)], args := [d1, d2] }
  | _ => none }
def fnExactFlatRunRow : OpenClaim := { program := "ytmjofpfkgbnknaagreat", sum := "18c298c12923b69bf2db4393413a9fba4a4136a1cbf70f3bc9f58889ce565a96", func := "loop.example/g03311/laws.FnExactFlatRun", spec := "fnExactFlatRun", unfollowed := true, recurses := true, apart := false }
def FnExactFlatRunSaid : Prop := fnExactFlatRunRow.holds Tryz.pinned (OpenSpec.ofChange fnExactFlatRunSpec)

/-- ITS FALSE NEIGHBOUR: 'it returns false'. Refute it at one input. -/
def fnExactFlatRunWrong : ChangeSpec := { name := "fnExactFlatRun", fn := fun _ => fun
  | [d1, d2] => { results := [.lit (.bool false)], args := [d1, d2] }
  | _ => none }
def FnExactFlatRunWrongFalsely : Prop := fnExactFlatRunRow.holds Tryz.pinned (OpenSpec.ofChange fnExactFlatRunWrong)

/-- 'laws.FnExactFlatTrace': WHATEVER THE INPUT: true; the input reads as it did. -/
def fnExactFlatTraceSpec : ChangeSpec := { name := "fnExactFlatTrace", fn := fun _ => fun
  | [d1, d2] => { results := [.lit (.bool true)], args := [d1, d2] }
  | _ => none }
def fnExactFlatTraceRow : OpenClaim := { program := "ytmjofpfkgbnknaagreat", sum := "18c298c12923b69bf2db4393413a9fba4a4136a1cbf70f3bc9f58889ce565a96", func := "loop.example/g03311/laws.FnExactFlatTrace", spec := "fnExactFlatTrace", unfollowed := true, recurses := true, apart := false }
def FnExactFlatTraceSaid : Prop := fnExactFlatTraceRow.holds Tryz.pinned (OpenSpec.ofChange fnExactFlatTraceSpec)

/-- ITS FALSE NEIGHBOUR: 'it returns false'. Refute it at one input. -/
def fnExactFlatTraceWrong : ChangeSpec := { name := "fnExactFlatTrace", fn := fun _ => fun
  | [d1, d2] => { results := [.lit (.bool false)], args := [d1, d2] }
  | _ => none }
def FnExactFlatTraceWrongFalsely : Prop := fnExactFlatTraceRow.holds Tryz.pinned (OpenSpec.ofChange fnExactFlatTraceWrong)

/- THE SECOND FORM. 'bulk': how many values and letters a reading holds, each counted each time it is reached (what is shared counts as often as it is met; a slice's spare places count too). A statement '..UptoSaid' is the law's where the arguments, and the package variables that the reading takes, are together of bulk at most 1048576: NARROWER than '..Said'. Prove '..Said' where nothing that the law and all that it calls make is longer than what came in: it says more and counts as full. Else prove '..UptoSaid'. A law counts once. -/
mutual
def uptoBulk {H : Type} : DataW H → Nat
  | .lit (.string bytes) => bytes.length + 1
  | .lit _ => 1
  | .nil => 1
  | .ptr d => uptoBulk d + 1
  | .slice elems spare => uptoBulkAll elems + uptoBulkAll spare + 1
  | .agg parts => uptoBulkAll parts + 1
  | .iface _ d => uptoBulk d + 1
  | .map entries => uptoBulkEntries entries + 1
  | .held _ => 1
def uptoBulkAll {H : Type} : List (DataW H) → Nat
  | [] => 0
  | d :: r => uptoBulk d + uptoBulkAll r
def uptoBulkEntries {H : Type} : List (Lit × DataW H) → Nat
  | [] => 0
  | x :: r => uptoBulkEntry x + uptoBulkEntries r
def uptoBulkEntry {H : Type} : Lit × DataW H → Nat
  | (.string bytes, d) => bytes.length + uptoBulk d + 1
  | (_, d) => uptoBulk d + 1
 end
def uptoSmall : (H : Type) → List (DataW H) → Bool := fun _ ds => decide (uptoBulkAll ds ≤ 1048576)
def OpenSpec.upto (s : _root_.Go.ChangeSpec) : _root_.Go.OpenSpec := { _root_.Go.OpenSpec.ofChange s with cond := some uptoSmall }

/-- 'laws.FnExactFlatten', WHERE WHAT IT READS IS OF BULK AT MOST 1048576: true; the input reads as it did. -/
def fnExactFlattenUptoRow : OpenClaim := { program := "ytmjofpfkgbnknaagreat", sum := "18c298c12923b69bf2db4393413a9fba4a4136a1cbf70f3bc9f58889ce565a96", func := "loop.example/g03311/laws.FnExactFlatten", spec := "fnExactFlatten", unfollowed := true, recurses := true, apart := false, narrowed := true }
def FnExactFlattenUptoSaid : Prop := fnExactFlattenUptoRow.holds Tryz.pinned (OpenSpec.upto fnExactFlattenSpec)

/-- 'laws.FnExactSignalValues', WHERE WHAT IT READS IS OF BULK AT MOST 1048576: true; the input reads as it did. -/
def fnExactSignalValuesUptoRow : OpenClaim := { program := "ytmjofpfkgbnknaagreat", sum := "18c298c12923b69bf2db4393413a9fba4a4136a1cbf70f3bc9f58889ce565a96", func := "loop.example/g03311/laws.FnExactSignalValues", spec := "fnExactSignalValues", unfollowed := true, recurses := true, apart := false, narrowed := true }
def FnExactSignalValuesUptoSaid : Prop := fnExactSignalValuesUptoRow.holds Tryz.pinned (OpenSpec.upto fnExactSignalValuesSpec)

/-- 'laws.FnExactFlatStep', WHERE WHAT IT READS IS OF BULK AT MOST 1048576: true; the input reads as it did. -/
def fnExactFlatStepUptoRow : OpenClaim := { program := "ytmjofpfkgbnknaagreat", sum := "18c298c12923b69bf2db4393413a9fba4a4136a1cbf70f3bc9f58889ce565a96", func := "loop.example/g03311/laws.FnExactFlatStep", spec := "fnExactFlatStep", unfollowed := true, recurses := true, apart := false, narrowed := true }
def FnExactFlatStepUptoSaid : Prop := fnExactFlatStepUptoRow.holds Tryz.pinned (OpenSpec.upto fnExactFlatStepSpec)

/-- 'laws.FnExactFlatRun', WHERE WHAT IT READS IS OF BULK AT MOST 1048576: true; the input reads as it did. -/
def fnExactFlatRunUptoRow : OpenClaim := { program := "ytmjofpfkgbnknaagreat", sum := "18c298c12923b69bf2db4393413a9fba4a4136a1cbf70f3bc9f58889ce565a96", func := "loop.example/g03311/laws.FnExactFlatRun", spec := "fnExactFlatRun", unfollowed := true, recurses := true, apart := false, narrowed := true }
def FnExactFlatRunUptoSaid : Prop := fnExactFlatRunUptoRow.holds Tryz.pinned (OpenSpec.upto fnExactFlatRunSpec)

/-- 'laws.FnExactFlatTrace', WHERE WHAT IT READS IS OF BULK AT MOST 1048576: true; the input reads as it did. -/
def fnExactFlatTraceUptoRow : OpenClaim := { program := "ytmjofpfkgbnknaagreat", sum := "18c298c12923b69bf2db4393413a9fba4a4136a1cbf70f3bc9f58889ce565a96", func := "loop.example/g03311/laws.FnExactFlatTrace", spec := "fnExactFlatTrace", unfollowed := true, recurses := true, apart := false, narrowed := true }
def FnExactFlatTraceUptoSaid : Prop := fnExactFlatTraceUptoRow.holds Tryz.pinned (OpenSpec.upto fnExactFlatTraceSpec)

end Rows
end Go.Proofs.YtmjofpfkgbnknaaGreat
