/-
  No cell of these rows narrows 'for every input' (looked for: loops, veiled, ifaces, maps, wideKeys, modest, calm, conditions, laid).
  DERIVED. THE GIVEN ROWS OF THIS SEAT. 9 by the template 'for every input the law returns true; each argument reads behind the call as it read before'; 0 by the template 'total and deterministic' (their statements: YtaebiiopommhdaaTotals.lean).
  GIVEN WITH THE SEED: the statements are not yours to turn. If you find one false, say at which input.
  Laid BY PROGRAM, IN A SANDBOX (cutbox-rows.mjs): the forced cells as the released guide's own fill.sh prints them over the translation bdfb137d425601a4… (all of the seat's roots in one cut). By AI agents, Wed Nov 11 2026. No macro, syntax, notation, axiom, sorry.
-/
import Derived.Test.YtaebiiopommhdaaChecked
import GoSem.Claim
import GoSem.ClaimJoined
import GoSem.ClaimMapViews
import Derived.JoinedTies
import Derived.KernelRfl
namespace Go.Proofs.Ytaebiiopommhdaa
/- THE CELL 'sum', in the pinned program and in every row, IS THE sha256 OF THE DUMP (.gsa) THAT YtaebiiopommhdaaProg.lean LOADS. Nothing in Lean hashes anything: it is a label: what it is worth is what the hold of that sum in a sandbox is worth. -/
noncomputable def Try.pinned : Pinned := { name := "ytaebiiopommhdaa", sum := "bdfb137d425601a4be8e96eebb8b17ef94b7e0e98191a32817b1b2ed6490470e", checked := Try.checked }
namespace Rows
def none {H : Type} : Left H := { results := [], args := [] }

/-- 'laws.FnNetSteps': WHATEVER THE INPUT: true; the input reads as it did. -/
def fnNetStepsSpec : ChangeSpec := { name := "fnNetSteps", fn := fun _ => fun
  | [d] => { results := [.lit (.bool true)], args := [d] }
  | _ => none }
def fnNetStepsRow : OpenClaim := { program := "ytaebiiopommhdaa", sum := "bdfb137d425601a4be8e96eebb8b17ef94b7e0e98191a32817b1b2ed6490470e", func := "loop.example/g03311/laws.FnNetSteps", spec := "fnNetSteps", apart := false }
def FnNetStepsSaid : Prop := fnNetStepsRow.holds Try.pinned (OpenSpec.ofChange fnNetStepsSpec)

/-- ITS FALSE NEIGHBOUR: 'it returns false'. Refute it at one input. -/
def fnNetStepsWrong : ChangeSpec := { name := "fnNetSteps", fn := fun _ => fun
  | [d] => { results := [.lit (.bool false)], args := [d] }
  | _ => none }
def FnNetStepsWrongFalsely : Prop := fnNetStepsRow.holds Try.pinned (OpenSpec.ofChange fnNetStepsWrong)

/-- 'laws.FnRamReads': WHATEVER THE INPUT: true; the input reads as it did. -/
def fnRamReadsSpec : ChangeSpec := { name := "fnRamReads", fn := fun _ => fun
  | [d] => { results := [.lit (.bool true)], args := [d] }
  | _ => none }
def fnRamReadsRow : OpenClaim := { program := "ytaebiiopommhdaa", sum := "bdfb137d425601a4be8e96eebb8b17ef94b7e0e98191a32817b1b2ed6490470e", func := "loop.example/g03311/laws.FnRamReads", spec := "fnRamReads", apart := false }
def FnRamReadsSaid : Prop := fnRamReadsRow.holds Try.pinned (OpenSpec.ofChange fnRamReadsSpec)

/-- ITS FALSE NEIGHBOUR: 'it returns false'. Refute it at one input. -/
def fnRamReadsWrong : ChangeSpec := { name := "fnRamReads", fn := fun _ => fun
  | [d] => { results := [.lit (.bool false)], args := [d] }
  | _ => none }
def FnRamReadsWrongFalsely : Prop := fnRamReadsRow.holds Try.pinned (OpenSpec.ofChange fnRamReadsWrong)

/-- 'laws.FnExactSeqNext': WHATEVER THE INPUT: true; the input reads as it did. -/
def fnExactSeqNextSpec : ChangeSpec := { name := "fnExactSeqNext", fn := fun _ => fun
  | [d1, d2, d3] => { results := [.lit (.bool true)], args := [d1, d2, d3] }
  | _ => none }
def fnExactSeqNextRow : OpenClaim := { program := "ytaebiiopommhdaa", sum := "bdfb137d425601a4be8e96eebb8b17ef94b7e0e98191a32817b1b2ed6490470e", func := "loop.example/g03311/laws.FnExactSeqNext", spec := "fnExactSeqNext", apart := false }
def FnExactSeqNextSaid : Prop := fnExactSeqNextRow.holds Try.pinned (OpenSpec.ofChange fnExactSeqNextSpec)

/-- ITS FALSE NEIGHBOUR: 'it returns false'. Refute it at one input. -/
def fnExactSeqNextWrong : ChangeSpec := { name := "fnExactSeqNext", fn := fun _ => fun
  | [d1, d2, d3] => { results := [.lit (.bool false)], args := [d1, d2, d3] }
  | _ => none }
def FnExactSeqNextWrongFalsely : Prop := fnExactSeqNextRow.holds Try.pinned (OpenSpec.ofChange fnExactSeqNextWrong)

/-- 'laws.FnExactStateOk': WHATEVER THE INPUT: true; the input reads as it did. -/
def fnExactStateOkSpec : ChangeSpec := { name := "fnExactStateOk", fn := fun _ => fun
  | [d1, d2] => { results := [.lit (.bool true)], args := [d1, d2] }
  | _ => none }
def fnExactStateOkRow : OpenClaim := { program := "ytaebiiopommhdaa", sum := "bdfb137d425601a4be8e96eebb8b17ef94b7e0e98191a32817b1b2ed6490470e", func := "loop.example/g03311/laws.FnExactStateOk", spec := "fnExactStateOk", apart := false }
def FnExactStateOkSaid : Prop := fnExactStateOkRow.holds Try.pinned (OpenSpec.ofChange fnExactStateOkSpec)

/-- ITS FALSE NEIGHBOUR: 'it returns false'. Refute it at one input. -/
def fnExactStateOkWrong : ChangeSpec := { name := "fnExactStateOk", fn := fun _ => fun
  | [d1, d2] => { results := [.lit (.bool false)], args := [d1, d2] }
  | _ => none }
def FnExactStateOkWrongFalsely : Prop := fnExactStateOkRow.holds Try.pinned (OpenSpec.ofChange fnExactStateOkWrong)

/-- 'laws.FnExactNodeValues': WHATEVER THE INPUT: true; the input reads as it did. -/
def fnExactNodeValuesSpec : ChangeSpec := { name := "fnExactNodeValues", fn := fun _ => fun
  | [d1, d2, d3] => { results := [.lit (.bool true)], args := [d1, d2, d3] }
  | _ => none }
def fnExactNodeValuesRow : OpenClaim := { program := "ytaebiiopommhdaa", sum := "bdfb137d425601a4be8e96eebb8b17ef94b7e0e98191a32817b1b2ed6490470e", func := "loop.example/g03311/laws.FnExactNodeValues", spec := "fnExactNodeValues", apart := false }
def FnExactNodeValuesSaid : Prop := fnExactNodeValuesRow.holds Try.pinned (OpenSpec.ofChange fnExactNodeValuesSpec)

/-- ITS FALSE NEIGHBOUR: 'it returns false'. Refute it at one input. -/
def fnExactNodeValuesWrong : ChangeSpec := { name := "fnExactNodeValues", fn := fun _ => fun
  | [d1, d2, d3] => { results := [.lit (.bool false)], args := [d1, d2, d3] }
  | _ => none }
def FnExactNodeValuesWrongFalsely : Prop := fnExactNodeValuesRow.holds Try.pinned (OpenSpec.ofChange fnExactNodeValuesWrong)

/-- 'laws.FnExactLitValue': WHATEVER THE INPUT: true; the input reads as it did. -/
def fnExactLitValueSpec : ChangeSpec := { name := "fnExactLitValue", fn := fun _ => fun
  | [d1, d2] => { results := [.lit (.bool true)], args := [d1, d2] }
  | _ => none }
def fnExactLitValueRow : OpenClaim := { program := "ytaebiiopommhdaa", sum := "bdfb137d425601a4be8e96eebb8b17ef94b7e0e98191a32817b1b2ed6490470e", func := "loop.example/g03311/laws.FnExactLitValue", spec := "fnExactLitValue", apart := false }
def FnExactLitValueSaid : Prop := fnExactLitValueRow.holds Try.pinned (OpenSpec.ofChange fnExactLitValueSpec)

/-- ITS FALSE NEIGHBOUR: 'it returns false'. Refute it at one input. -/
def fnExactLitValueWrong : ChangeSpec := { name := "fnExactLitValue", fn := fun _ => fun
  | [d1, d2] => { results := [.lit (.bool false)], args := [d1, d2] }
  | _ => none }
def FnExactLitValueWrongFalsely : Prop := fnExactLitValueRow.holds Try.pinned (OpenSpec.ofChange fnExactLitValueWrong)

/-- 'laws.FnExactNetStart': WHATEVER THE INPUT: true; the input reads as it did. -/
def fnExactNetStartSpec : ChangeSpec := { name := "fnExactNetStart", fn := fun _ => fun
  | [d] => { results := [.lit (.bool true)], args := [d] }
  | _ => none }
def fnExactNetStartRow : OpenClaim := { program := "ytaebiiopommhdaa", sum := "bdfb137d425601a4be8e96eebb8b17ef94b7e0e98191a32817b1b2ed6490470e", func := "loop.example/g03311/laws.FnExactNetStart", spec := "fnExactNetStart", apart := false }
def FnExactNetStartSaid : Prop := fnExactNetStartRow.holds Try.pinned (OpenSpec.ofChange fnExactNetStartSpec)

/-- ITS FALSE NEIGHBOUR: 'it returns false'. Refute it at one input. -/
def fnExactNetStartWrong : ChangeSpec := { name := "fnExactNetStart", fn := fun _ => fun
  | [d] => { results := [.lit (.bool false)], args := [d] }
  | _ => none }
def FnExactNetStartWrongFalsely : Prop := fnExactNetStartRow.holds Try.pinned (OpenSpec.ofChange fnExactNetStartWrong)

/-- 'laws.FnExactNetStep': WHATEVER THE INPUT: true; the input reads as it did. -/
def fnExactNetStepSpec : ChangeSpec := { name := "fnExactNetStep", fn := fun _ => fun
  | [d1, d2, d3] => { results := [.lit (.bool true)], args := [d1, d2, d3] }
  | _ => none }
def fnExactNetStepRow : OpenClaim := { program := "ytaebiiopommhdaa", sum := "bdfb137d425601a4be8e96eebb8b17ef94b7e0e98191a32817b1b2ed6490470e", func := "loop.example/g03311/laws.FnExactNetStep", spec := "fnExactNetStep", apart := false }
def FnExactNetStepSaid : Prop := fnExactNetStepRow.holds Try.pinned (OpenSpec.ofChange fnExactNetStepSpec)

/-- ITS FALSE NEIGHBOUR: 'it returns false'. Refute it at one input. -/
def fnExactNetStepWrong : ChangeSpec := { name := "fnExactNetStep", fn := fun _ => fun
  | [d1, d2, d3] => { results := [.lit (.bool false)], args := [d1, d2, d3] }
  | _ => none }
def FnExactNetStepWrongFalsely : Prop := fnExactNetStepRow.holds Try.pinned (OpenSpec.ofChange fnExactNetStepWrong)

/-- 'laws.FnExactNetRun': WHATEVER THE INPUT: true; the input reads as it did. -/
def fnExactNetRunSpec : ChangeSpec := { name := "fnExactNetRun", fn := fun _ => fun
  | [d1, d2] => { results := [.lit (.bool true)], args := [d1, d2] }
  | _ => none }
def fnExactNetRunRow : OpenClaim := { program := "ytaebiiopommhdaa", sum := "bdfb137d425601a4be8e96eebb8b17ef94b7e0e98191a32817b1b2ed6490470e", func := "loop.example/g03311/laws.FnExactNetRun", spec := "fnExactNetRun", apart := false }
def FnExactNetRunSaid : Prop := fnExactNetRunRow.holds Try.pinned (OpenSpec.ofChange fnExactNetRunSpec)

/-- ITS FALSE NEIGHBOUR: 'it returns false'. Refute it at one input. -/
def fnExactNetRunWrong : ChangeSpec := { name := "fnExactNetRun", fn := fun _ => fun
  | [d1, d2] => { results := [.lit (.bool false)], args := [d1, d2] }
  | _ => none }
def FnExactNetRunWrongFalsely : Prop := fnExactNetRunRow.holds Try.pinned (OpenSpec.ofChange fnExactNetRunWrong)

/- THE SECOND FORM. 'bulk': how many values and letters a reading holds, each counted each time it is reached (what is shared counts as often as it is met; a slice's spare places count too). A statement '..UptoSaid' is the law's where the arguments, and the package variables that the reading takes, are together of bulk at most 1048576: NARROWER than '..Said'. Prove '..Said' where nothing that the law and all that it calls make is longer than what came in: it says more and counts as full. Else prove '..UptoSaid'. A law counts once. -/
mutual
def uptoBulk {H : Type} : DataW H → Nat
  | .lit (.string bytes) => bytes.length + 1
  | .lit _ => 1
  | .nil => 1
  | .ptr d => uptoBulk d + 1
  | .slice elems spare => uptoBulkAll elems + uptoBulkAll spare + 1
  | .agg parts => uptoBulkAll parts + 1
  | .iface _ d => uptoBulk d + 1
  | .map entries => uptoBulkEntries entries + 1
  | .held _ => 1
def uptoBulkAll {H : Type} : List (DataW H) → Nat
  | [] => 0
  | d :: r => uptoBulk d + uptoBulkAll r
def uptoBulkEntries {H : Type} : List (Lit × DataW H) → Nat
  | [] => 0
  | x :: r => uptoBulkEntry x + uptoBulkEntries r
def uptoBulkEntry {H : Type} : Lit × DataW H → Nat
  | (.string bytes, d) => bytes.length + uptoBulk d + 1
  | (_, d) => uptoBulk d + 1
 end
def uptoSmall : (H : Type) → List (DataW H) → Bool := fun _ ds => decide (uptoBulkAll ds ≤ 1048576)
def OpenSpec.upto (s : _root_.Go.ChangeSpec) : _root_.Go.OpenSpec := { _root_.Go.OpenSpec.ofChange s with cond := some uptoSmall }

/-- 'laws.FnNetSteps', WHERE WHAT IT READS IS OF BULK AT MOST 1048576: true; the input reads as it did. -/
def fnNetStepsUptoRow : OpenClaim := { program := "ytaebiiopommhdaa", sum := "bdfb137d425601a4be8e96eebb8b17ef94b7e0e98191a32817b1b2ed6490470e", func := "loop.example/g03311/laws.FnNetSteps", spec := "fnNetSteps", apart := false, narrowed := true }
def FnNetStepsUptoSaid : Prop := fnNetStepsUptoRow.holds Try.pinned (OpenSpec.upto fnNetStepsSpec)

/-- 'laws.FnRamReads', WHERE WHAT IT READS IS OF BULK AT MOST 1048576: true; the input reads as it did. -/
def fnRamReadsUptoRow : OpenClaim := { program := "ytaebiiopommhdaa", sum := "bdfb137d425601a4be8e96eebb8b17ef94b7e0e98191a32817b1b2ed6490470e", func := "loop.example/g03311/laws.FnRamReads", spec := "fnRamReads", apart := false, narrowed := true }
def FnRamReadsUptoSaid : Prop := fnRamReadsUptoRow.holds Try.pinned (OpenSpec.upto fnRamReadsSpec)

/-- 'laws.FnExactSeqNext', WHERE WHAT IT READS IS OF BULK AT MOST 1048576: true; the input reads as it did. -/
def fnExactSeqNextUptoRow : OpenClaim := { program := "ytaebiiopommhdaa", sum := "bdfb137d425601a4be8e96eebb8b17ef94b7e0e98191a32817b1b2ed6490470e", func := "loop.example/g03311/laws.FnExactSeqNext", spec := "fnExactSeqNext", apart := false, narrowed := true }
def FnExactSeqNextUptoSaid : Prop := fnExactSeqNextUptoRow.holds Try.pinned (OpenSpec.upto fnExactSeqNextSpec)

/-- 'laws.FnExactStateOk', WHERE WHAT IT READS IS OF BULK AT MOST 1048576: true; the input reads as it did. -/
def fnExactStateOkUptoRow : OpenClaim := { program := "ytaebiiopommhdaa", sum := "bdfb137d425601a4be8e96eebb8b17ef94b7e0e98191a32817b1b2ed6490470e", func := "loop.example/g03311/laws.FnExactStateOk", spec := "fnExactStateOk", apart := false, narrowed := true }
def FnExactStateOkUptoSaid : Prop := fnExactStateOkUptoRow.holds Try.pinned (OpenSpec.upto fnExactStateOkSpec)

/-- 'laws.FnExactNodeValues', WHERE WHAT IT READS IS OF BULK AT MOST 1048576: true; the input reads as it did. -/
def fnExactNodeValuesUptoRow : OpenClaim := { program := "ytaebiiopommhdaa", sum := "bdfb137d425601a4be8e96eebb8b17ef94b7e0e98191a32817b1b2ed6490470e", func := "loop.example/g03311/laws.FnExactNodeValues", spec := "fnExactNodeValues", apart := false, narrowed := true }
def FnExactNodeValuesUptoSaid : Prop := fnExactNodeValuesUptoRow.holds Try.pinned (OpenSpec.upto fnExactNodeValuesSpec)

/-- 'laws.FnExactLitValue', WHERE WHAT IT READS IS OF BULK AT MOST 1048576: true; the input reads as it did. -/
def fnExactLitValueUptoRow : OpenClaim := { program := "ytaebiiopommhdaa", sum := "bdfb137d425601a4be8e96eebb8b17ef94b7e0e98191a32817b1b2ed6490470e", func := "loop.example/g03311/laws.FnExactLitValue", spec := "fnExactLitValue", apart := false, narrowed := true }
def FnExactLitValueUptoSaid : Prop := fnExactLitValueUptoRow.holds Try.pinned (OpenSpec.upto fnExactLitValueSpec)

/-- 'laws.FnExactNetStart', WHERE WHAT IT READS IS OF BULK AT MOST 1048576: true; the input reads as it did. -/
def fnExactNetStartUptoRow : OpenClaim := { program := "ytaebiiopommhdaa", sum := "bdfb137d425601a4be8e96eebb8b17ef94b7e0e98191a32817b1b2ed6490470e", func := "loop.example/g03311/laws.FnExactNetStart", spec := "fnExactNetStart", apart := false, narrowed := true }
def FnExactNetStartUptoSaid : Prop := fnExactNetStartUptoRow.holds Try.pinned (OpenSpec.upto fnExactNetStartSpec)

/-- 'laws.FnExactNetStep', WHERE WHAT IT READS IS OF BULK AT MOST 1048576: true; the input reads as it did. -/
def fnExactNetStepUptoRow : OpenClaim := { program := "ytaebiiopommhdaa", sum := "bdfb137d425601a4be8e96eebb8b17ef94b7e0e98191a32817b1b2ed6490470e", func := "loop.example/g03311/laws.FnExactNetStep", spec := "fnExactNetStep", apart := false, narrowed := true }
def FnExactNetStepUptoSaid : Prop := fnExactNetStepUptoRow.holds Try.pinned (OpenSpec.upto fnExactNetStepSpec)

/-- 'laws.FnExactNetRun', WHERE WHAT IT READS IS OF BULK AT MOST 1048576: true; the input reads as it did. -/
def fnExactNetRunUptoRow : OpenClaim := { program := "ytaebiiopommhdaa", sum := "bdfb137d425601a4be8e96eebb8b17ef94b7e0e98191a32817b1b2ed6490470e", func := "loop.example/g03311/laws.FnExactNetRun", spec := "fnExactNetRun", apart := false, narrowed := true }
def FnExactNetRunUptoSaid : Prop := fnExactNetRunUptoRow.holds Try.pinned (OpenSpec.upto fnExactNetRunSpec)

end Rows
end Go.Proofs.Ytaebiiopommhdaa
