/-
  No cell of these rows narrows 'for every input' (looked for: loops, veiled, ifaces, maps, wideKeys, modest, calm, conditions, laid).
  DERIVED. THE GIVEN ROWS OF THIS SEAT. 9 by the template 'for every input the law returns true; each argument reads behind the call as it read before'; 0 by the template 'total and deterministic' (their statements: YtllddjkdjdohhaaTotals.lean).
  GIVEN WITH THE SEED: the statements are not yours to turn. If you find one false, say at which input.
  Laid BY PROGRAM, IN A SANDBOX (cutbox-rows.mjs): the forced cells as the released guide's own fill.sh prints them over the translation 72ae24c83764e047… (all of the seat's roots in one cut). By AI agents, Wed Nov 11 2026. No macro, syntax, notation, axiom, sorry.
-/
import Derived.Test.YtllddjkdjdohhaaChecked
import GoSem.Claim
import GoSem.ClaimJoined
import GoSem.ClaimMapViews
import Derived.JoinedTies
import Derived.KernelRfl
namespace Go.Proofs.Ytllddjkdjdohhaa
/- THE CELL 'sum', in the pinned program and in every row, IS THE sha256 OF THE DUMP (.gsa) THAT YtllddjkdjdohhaaProg.lean LOADS. Nothing in Lean hashes anything: it is a label: what it is worth is what the hold of that sum in a sandbox is worth. -/
noncomputable def Try.pinned : Pinned := { name := "ytllddjkdjdohhaa", sum := "72ae24c83764e04776edaa6fea540271f2b5901cae4575daf87841c67637610f", checked := Try.checked }
namespace Rows
def none {H : Type} : Left H := { results := [], args := [] }

/-- 'laws.FnDriversOnce': WHATEVER THE INPUT: true; the input reads as it did. -/
def fnDriversOnceSpec : ChangeSpec := { name := "fnDriversOnce", fn := fun _ => fun
  | [d] => { results := [.lit (.bool true)], args := [d] }
  | _ => none }
def fnDriversOnceRow : OpenClaim := { program := "ytllddjkdjdohhaa", sum := "72ae24c83764e04776edaa6fea540271f2b5901cae4575daf87841c67637610f", func := "loop.example/g03311/laws.FnDriversOnce", spec := "fnDriversOnce", recurses := true, apart := false }
def FnDriversOnceSaid : Prop := fnDriversOnceRow.holds Try.pinned (OpenSpec.ofChange fnDriversOnceSpec)

/-- ITS FALSE NEIGHBOUR: 'it returns false'. Refute it at one input. -/
def fnDriversOnceWrong : ChangeSpec := { name := "fnDriversOnce", fn := fun _ => fun
  | [d] => { results := [.lit (.bool false)], args := [d] }
  | _ => none }
def FnDriversOnceWrongFalsely : Prop := fnDriversOnceRow.holds Try.pinned (OpenSpec.ofChange fnDriversOnceWrong)

/-- 'laws.FnPrefixOps': WHATEVER THE INPUT: true; the input reads as it did. -/
def fnPrefixOpsSpec : ChangeSpec := { name := "fnPrefixOps", fn := fun _ => fun
  | [d] => { results := [.lit (.bool true)], args := [d] }
  | _ => none }
def fnPrefixOpsRow : OpenClaim := { program := "ytllddjkdjdohhaa", sum := "72ae24c83764e04776edaa6fea540271f2b5901cae4575daf87841c67637610f", func := "loop.example/g03311/laws.FnPrefixOps", spec := "fnPrefixOps", recurses := true, apart := false }
def FnPrefixOpsSaid : Prop := fnPrefixOpsRow.holds Try.pinned (OpenSpec.ofChange fnPrefixOpsSpec)

/-- ITS FALSE NEIGHBOUR: 'it returns false'. Refute it at one input. -/
def fnPrefixOpsWrong : ChangeSpec := { name := "fnPrefixOps", fn := fun _ => fun
  | [d] => { results := [.lit (.bool false)], args := [d] }
  | _ => none }
def FnPrefixOpsWrongFalsely : Prop := fnPrefixOpsRow.holds Try.pinned (OpenSpec.ofChange fnPrefixOpsWrong)

/-- 'laws.FnExactOpArity': WHATEVER THE INPUT: true; the input reads as it did. -/
def fnExactOpAritySpec : ChangeSpec := { name := "fnExactOpArity", fn := fun _ => fun
  | [d] => { results := [.lit (.bool true)], args := [d] }
  | _ => none }
def fnExactOpArityRow : OpenClaim := { program := "ytllddjkdjdohhaa", sum := "72ae24c83764e04776edaa6fea540271f2b5901cae4575daf87841c67637610f", func := "loop.example/g03311/laws.FnExactOpArity", spec := "fnExactOpArity", apart := false }
def FnExactOpAritySaid : Prop := fnExactOpArityRow.holds Try.pinned (OpenSpec.ofChange fnExactOpAritySpec)

/-- ITS FALSE NEIGHBOUR: 'it returns false'. Refute it at one input. -/
def fnExactOpArityWrong : ChangeSpec := { name := "fnExactOpArity", fn := fun _ => fun
  | [d] => { results := [.lit (.bool false)], args := [d] }
  | _ => none }
def FnExactOpArityWrongFalsely : Prop := fnExactOpArityRow.holds Try.pinned (OpenSpec.ofChange fnExactOpArityWrong)

/-- 'laws.FnExactOpsOk': WHATEVER THE INPUT: true; the input reads as it did. -/
def fnExactOpsOkSpec : ChangeSpec := { name := "fnExactOpsOk", fn := fun _ => fun
  | [d1, d2] => { results := [.lit (.bool true)], args := [d1, d2] }
  | _ => none }
def fnExactOpsOkRow : OpenClaim := { program := "ytllddjkdjdohhaa", sum := "72ae24c83764e04776edaa6fea540271f2b5901cae4575daf87841c67637610f", func := "loop.example/g03311/laws.FnExactOpsOk", spec := "fnExactOpsOk", apart := false }
def FnExactOpsOkSaid : Prop := fnExactOpsOkRow.holds Try.pinned (OpenSpec.ofChange fnExactOpsOkSpec)

/-- ITS FALSE NEIGHBOUR: 'it returns false'. Refute it at one input. -/
def fnExactOpsOkWrong : ChangeSpec := { name := "fnExactOpsOk", fn := fun _ => fun
  | [d1, d2] => { results := [.lit (.bool false)], args := [d1, d2] }
  | _ => none }
def FnExactOpsOkWrongFalsely : Prop := fnExactOpsOkRow.holds Try.pinned (OpenSpec.ofChange fnExactOpsOkWrong)

/-- 'laws.FnExactPortsOf': WHATEVER THE INPUT: true; the input reads as it did. -/
def fnExactPortsOfSpec : ChangeSpec := { name := "fnExactPortsOf", fn := fun _ => fun
  | [d] => { results := [.lit (.bool true)], args := [d] }
  | _ => none }
def fnExactPortsOfRow : OpenClaim := { program := "ytllddjkdjdohhaa", sum := "72ae24c83764e04776edaa6fea540271f2b5901cae4575daf87841c67637610f", func := "loop.example/g03311/laws.FnExactPortsOf", spec := "fnExactPortsOf", apart := false }
def FnExactPortsOfSaid : Prop := fnExactPortsOfRow.holds Try.pinned (OpenSpec.ofChange fnExactPortsOfSpec)

/-- ITS FALSE NEIGHBOUR: 'it returns false'. Refute it at one input. -/
def fnExactPortsOfWrong : ChangeSpec := { name := "fnExactPortsOf", fn := fun _ => fun
  | [d] => { results := [.lit (.bool false)], args := [d] }
  | _ => none }
def FnExactPortsOfWrongFalsely : Prop := fnExactPortsOfRow.holds Try.pinned (OpenSpec.ofChange fnExactPortsOfWrong)

/-- 'laws.FnExactDriverCount': WHATEVER THE INPUT: true; the input reads as it did. -/
def fnExactDriverCountSpec : ChangeSpec := { name := "fnExactDriverCount", fn := fun _ => fun
  | [d1, d2, d3] => { results := [.lit (.bool true)], args := [d1, d2, d3] }
  | _ => none }
def fnExactDriverCountRow : OpenClaim := { program := "ytllddjkdjdohhaa", sum := "72ae24c83764e04776edaa6fea540271f2b5901cae4575daf87841c67637610f", func := "loop.example/g03311/laws.FnExactDriverCount", spec := "fnExactDriverCount", apart := false }
def FnExactDriverCountSaid : Prop := fnExactDriverCountRow.holds Try.pinned (OpenSpec.ofChange fnExactDriverCountSpec)

/-- ITS FALSE NEIGHBOUR: 'it returns false'. Refute it at one input. -/
def fnExactDriverCountWrong : ChangeSpec := { name := "fnExactDriverCount", fn := fun _ => fun
  | [d1, d2, d3] => { results := [.lit (.bool false)], args := [d1, d2, d3] }
  | _ => none }
def FnExactDriverCountWrongFalsely : Prop := fnExactDriverCountRow.holds Try.pinned (OpenSpec.ofChange fnExactDriverCountWrong)

/-- 'laws.FnExactModuleOk': WHATEVER THE INPUT: true; the input reads as it did. -/
def fnExactModuleOkSpec : ChangeSpec := { name := "fnExactModuleOk", fn := fun _ => fun
  | [d1, d2] => { results := [.lit (.bool true)], args := [d1, d2] }
  | _ => none }
def fnExactModuleOkRow : OpenClaim := { program := "ytllddjkdjdohhaa", sum := "72ae24c83764e04776edaa6fea540271f2b5901cae4575daf87841c67637610f", func := "loop.example/g03311/laws.FnExactModuleOk", spec := "fnExactModuleOk", apart := false }
def FnExactModuleOkSaid : Prop := fnExactModuleOkRow.holds Try.pinned (OpenSpec.ofChange fnExactModuleOkSpec)

/-- ITS FALSE NEIGHBOUR: 'it returns false'. Refute it at one input. -/
def fnExactModuleOkWrong : ChangeSpec := { name := "fnExactModuleOk", fn := fun _ => fun
  | [d1, d2] => { results := [.lit (.bool false)], args := [d1, d2] }
  | _ => none }
def FnExactModuleOkWrongFalsely : Prop := fnExactModuleOkRow.holds Try.pinned (OpenSpec.ofChange fnExactModuleOkWrong)

/-- 'laws.FnExactDesignOk': WHATEVER THE INPUT: true; the input reads as it did. -/
def fnExactDesignOkSpec : ChangeSpec := { name := "fnExactDesignOk", fn := fun _ => fun
  | [d] => { results := [.lit (.bool true)], args := [d] }
  | _ => none }
def fnExactDesignOkRow : OpenClaim := { program := "ytllddjkdjdohhaa", sum := "72ae24c83764e04776edaa6fea540271f2b5901cae4575daf87841c67637610f", func := "loop.example/g03311/laws.FnExactDesignOk", spec := "fnExactDesignOk", apart := false }
def FnExactDesignOkSaid : Prop := fnExactDesignOkRow.holds Try.pinned (OpenSpec.ofChange fnExactDesignOkSpec)

/-- ITS FALSE NEIGHBOUR: 'it returns false'. Refute it at one input. -/
def fnExactDesignOkWrong : ChangeSpec := { name := "fnExactDesignOk", fn := fun _ => fun
  | [d] => { results := [.lit (.bool false)], args := [d] }
  | _ => none }
def FnExactDesignOkWrongFalsely : Prop := fnExactDesignOkRow.holds Try.pinned (OpenSpec.ofChange fnExactDesignOkWrong)

/-- 'laws.FnExactSampleDesign': WHATEVER THE INPUT: true; the input reads as it did. -/
def fnExactSampleDesignSpec : ChangeSpec := { name := "fnExactSampleDesign", fn := fun _ => fun
  | [] => { results := [.lit (.bool true)], args := [] }
  | _ => none }
def fnExactSampleDesignRow : OpenClaim := { program := "ytllddjkdjdohhaa", sum := "72ae24c83764e04776edaa6fea540271f2b5901cae4575daf87841c67637610f", func := "loop.example/g03311/laws.FnExactSampleDesign", spec := "fnExactSampleDesign", apart := false }
def FnExactSampleDesignSaid : Prop := fnExactSampleDesignRow.holds Try.pinned (OpenSpec.ofChange fnExactSampleDesignSpec)

/-- ITS FALSE NEIGHBOUR: 'it returns false'. Refute it at one input. -/
def fnExactSampleDesignWrong : ChangeSpec := { name := "fnExactSampleDesign", fn := fun _ => fun
  | [] => { results := [.lit (.bool false)], args := [] }
  | _ => none }
def FnExactSampleDesignWrongFalsely : Prop := fnExactSampleDesignRow.holds Try.pinned (OpenSpec.ofChange fnExactSampleDesignWrong)

/- THE SECOND FORM. 'bulk': how many values and letters a reading holds, each counted each time it is reached (what is shared counts as often as it is met; a slice's spare places count too). A statement '..UptoSaid' is the law's where the arguments, and the package variables that the reading takes, are together of bulk at most 1048576: NARROWER than '..Said'. Prove '..Said' where nothing that the law and all that it calls make is longer than what came in: it says more and counts as full. Else prove '..UptoSaid'. A law counts once. -/
mutual
def uptoBulk {H : Type} : DataW H → Nat
  | .lit (.string bytes) => bytes.length + 1
  | .lit _ => 1
  | .nil => 1
  | .ptr d => uptoBulk d + 1
  | .slice elems spare => uptoBulkAll elems + uptoBulkAll spare + 1
  | .agg parts => uptoBulkAll parts + 1
  | .iface _ d => uptoBulk d + 1
  | .map entries => uptoBulkEntries entries + 1
  | .held _ => 1
def uptoBulkAll {H : Type} : List (DataW H) → Nat
  | [] => 0
  | d :: r => uptoBulk d + uptoBulkAll r
def uptoBulkEntries {H : Type} : List (Lit × DataW H) → Nat
  | [] => 0
  | x :: r => uptoBulkEntry x + uptoBulkEntries r
def uptoBulkEntry {H : Type} : Lit × DataW H → Nat
  | (.string bytes, d) => bytes.length + uptoBulk d + 1
  | (_, d) => uptoBulk d + 1
 end
def uptoSmall : (H : Type) → List (DataW H) → Bool := fun _ ds => decide (uptoBulkAll ds ≤ 1048576)
def OpenSpec.upto (s : _root_.Go.ChangeSpec) : _root_.Go.OpenSpec := { _root_.Go.OpenSpec.ofChange s with cond := some uptoSmall }

/-- 'laws.FnDriversOnce', WHERE WHAT IT READS IS OF BULK AT MOST 1048576: true; the input reads as it did. -/
def fnDriversOnceUptoRow : OpenClaim := { program := "ytllddjkdjdohhaa", sum := "72ae24c83764e04776edaa6fea540271f2b5901cae4575daf87841c67637610f", func := "loop.example/g03311/laws.FnDriversOnce", spec := "fnDriversOnce", recurses := true, apart := false, narrowed := true }
def FnDriversOnceUptoSaid : Prop := fnDriversOnceUptoRow.holds Try.pinned (OpenSpec.upto fnDriversOnceSpec)

/-- 'laws.FnPrefixOps', WHERE WHAT IT READS IS OF BULK AT MOST 1048576: true; the input reads as it did. -/
def fnPrefixOpsUptoRow : OpenClaim := { program := "ytllddjkdjdohhaa", sum := "72ae24c83764e04776edaa6fea540271f2b5901cae4575daf87841c67637610f", func := "loop.example/g03311/laws.FnPrefixOps", spec := "fnPrefixOps", recurses := true, apart := false, narrowed := true }
def FnPrefixOpsUptoSaid : Prop := fnPrefixOpsUptoRow.holds Try.pinned (OpenSpec.upto fnPrefixOpsSpec)

/-- 'laws.FnExactOpArity', WHERE WHAT IT READS IS OF BULK AT MOST 1048576: true; the input reads as it did. -/
def fnExactOpArityUptoRow : OpenClaim := { program := "ytllddjkdjdohhaa", sum := "72ae24c83764e04776edaa6fea540271f2b5901cae4575daf87841c67637610f", func := "loop.example/g03311/laws.FnExactOpArity", spec := "fnExactOpArity", apart := false, narrowed := true }
def FnExactOpArityUptoSaid : Prop := fnExactOpArityUptoRow.holds Try.pinned (OpenSpec.upto fnExactOpAritySpec)

/-- 'laws.FnExactOpsOk', WHERE WHAT IT READS IS OF BULK AT MOST 1048576: true; the input reads as it did. -/
def fnExactOpsOkUptoRow : OpenClaim := { program := "ytllddjkdjdohhaa", sum := "72ae24c83764e04776edaa6fea540271f2b5901cae4575daf87841c67637610f", func := "loop.example/g03311/laws.FnExactOpsOk", spec := "fnExactOpsOk", apart := false, narrowed := true }
def FnExactOpsOkUptoSaid : Prop := fnExactOpsOkUptoRow.holds Try.pinned (OpenSpec.upto fnExactOpsOkSpec)

/-- 'laws.FnExactPortsOf', WHERE WHAT IT READS IS OF BULK AT MOST 1048576: true; the input reads as it did. -/
def fnExactPortsOfUptoRow : OpenClaim := { program := "ytllddjkdjdohhaa", sum := "72ae24c83764e04776edaa6fea540271f2b5901cae4575daf87841c67637610f", func := "loop.example/g03311/laws.FnExactPortsOf", spec := "fnExactPortsOf", apart := false, narrowed := true }
def FnExactPortsOfUptoSaid : Prop := fnExactPortsOfUptoRow.holds Try.pinned (OpenSpec.upto fnExactPortsOfSpec)

/-- 'laws.FnExactDriverCount', WHERE WHAT IT READS IS OF BULK AT MOST 1048576: true; the input reads as it did. -/
def fnExactDriverCountUptoRow : OpenClaim := { program := "ytllddjkdjdohhaa", sum := "72ae24c83764e04776edaa6fea540271f2b5901cae4575daf87841c67637610f", func := "loop.example/g03311/laws.FnExactDriverCount", spec := "fnExactDriverCount", apart := false, narrowed := true }
def FnExactDriverCountUptoSaid : Prop := fnExactDriverCountUptoRow.holds Try.pinned (OpenSpec.upto fnExactDriverCountSpec)

/-- 'laws.FnExactModuleOk', WHERE WHAT IT READS IS OF BULK AT MOST 1048576: true; the input reads as it did. -/
def fnExactModuleOkUptoRow : OpenClaim := { program := "ytllddjkdjdohhaa", sum := "72ae24c83764e04776edaa6fea540271f2b5901cae4575daf87841c67637610f", func := "loop.example/g03311/laws.FnExactModuleOk", spec := "fnExactModuleOk", apart := false, narrowed := true }
def FnExactModuleOkUptoSaid : Prop := fnExactModuleOkUptoRow.holds Try.pinned (OpenSpec.upto fnExactModuleOkSpec)

/-- 'laws.FnExactDesignOk', WHERE WHAT IT READS IS OF BULK AT MOST 1048576: true; the input reads as it did. -/
def fnExactDesignOkUptoRow : OpenClaim := { program := "ytllddjkdjdohhaa", sum := "72ae24c83764e04776edaa6fea540271f2b5901cae4575daf87841c67637610f", func := "loop.example/g03311/laws.FnExactDesignOk", spec := "fnExactDesignOk", apart := false, narrowed := true }
def FnExactDesignOkUptoSaid : Prop := fnExactDesignOkUptoRow.holds Try.pinned (OpenSpec.upto fnExactDesignOkSpec)

/-- 'laws.FnExactSampleDesign', WHERE WHAT IT READS IS OF BULK AT MOST 1048576: true; the input reads as it did. -/
def fnExactSampleDesignUptoRow : OpenClaim := { program := "ytllddjkdjdohhaa", sum := "72ae24c83764e04776edaa6fea540271f2b5901cae4575daf87841c67637610f", func := "loop.example/g03311/laws.FnExactSampleDesign", spec := "fnExactSampleDesign", apart := false, narrowed := true }
def FnExactSampleDesignUptoSaid : Prop := fnExactSampleDesignUptoRow.holds Try.pinned (OpenSpec.upto fnExactSampleDesignSpec)

end Rows
end Go.Proofs.Ytllddjkdjdohhaa
