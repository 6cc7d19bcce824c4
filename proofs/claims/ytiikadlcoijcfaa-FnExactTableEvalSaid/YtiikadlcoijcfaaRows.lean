/-
  No cell of these rows narrows 'for every input' (looked for: loops, veiled, ifaces, maps, wideKeys, modest, calm, conditions, laid).
  DERIVED. THE GIVEN ROWS OF THIS SEAT. 5 by the template 'for every input the law returns true; each argument reads behind the call as it read before'; 0 by the template 'total and deterministic' (their statements: YtiikadlcoijcfaaTotals.lean).
  GIVEN WITH THE SEED: the statements are not yours to turn. If you find one false, say at which input.
  Laid BY PROGRAM, IN A SANDBOX (cutbox-rows.mjs): the forced cells as the released guide's own fill.sh prints them over the translation 4f8f45b19d9ae8c7… (all of the seat's roots in one cut). By AI agents, Wed Nov 11 2026. No macro, syntax, notation, axiom, sorry.
-/
import Derived.Test.YtiikadlcoijcfaaChecked
import GoSem.Claim
import GoSem.ClaimJoined
import GoSem.ClaimMapViews
import Derived.JoinedTies
import Derived.KernelRfl
namespace Go.Proofs.Ytiikadlcoijcfaa
/- THE CELL 'sum', in the pinned program and in every row, IS THE sha256 OF THE DUMP (.gsa) THAT YtiikadlcoijcfaaProg.lean LOADS. Nothing in Lean hashes anything: it is a label: what it is worth is what the hold of that sum in a sandbox is worth. -/
noncomputable def Try.pinned : Pinned := { name := "ytiikadlcoijcfaa", sum := "4f8f45b19d9ae8c7c5cf111bc3392b1d283844f10c6fe4e41cb71c8920310fd0", checked := Try.checked }
namespace Rows
def none {H : Type} : Left H := { results := [], args := [] }

/-- 'laws.FnExactTableOk': WHATEVER THE INPUT: true; the input reads as it did. -/
def fnExactTableOkSpec : ChangeSpec := { name := "fnExactTableOk", fn := fun _ => fun
  | [d] => { results := [.lit (.bool true)], args := [d] }
  | _ => none }
def fnExactTableOkRow : OpenClaim := { program := "ytiikadlcoijcfaa", sum := "4f8f45b19d9ae8c7c5cf111bc3392b1d283844f10c6fe4e41cb71c8920310fd0", func := "loop.example/g03311/laws.FnExactTableOk", spec := "fnExactTableOk", apart := false }
def FnExactTableOkSaid : Prop := fnExactTableOkRow.holds Try.pinned (OpenSpec.ofChange fnExactTableOkSpec)

/-- ITS FALSE NEIGHBOUR: 'it returns false'. Refute it at one input. -/
def fnExactTableOkWrong : ChangeSpec := { name := "fnExactTableOk", fn := fun _ => fun
  | [d] => { results := [.lit (.bool false)], args := [d] }
  | _ => none }
def FnExactTableOkWrongFalsely : Prop := fnExactTableOkRow.holds Try.pinned (OpenSpec.ofChange fnExactTableOkWrong)

/-- 'laws.FnExactTableEval': WHATEVER THE INPUT: true; the input reads as it did. -/
def fnExactTableEvalSpec : ChangeSpec := { name := "fnExactTableEval", fn := fun _ => fun
  | [d1, d2] => { results := [.lit (.bool true)], args := [d1, d2] }
  | _ => none }
def fnExactTableEvalRow : OpenClaim := { program := "ytiikadlcoijcfaa", sum := "4f8f45b19d9ae8c7c5cf111bc3392b1d283844f10c6fe4e41cb71c8920310fd0", func := "loop.example/g03311/laws.FnExactTableEval", spec := "fnExactTableEval", apart := false }
def FnExactTableEvalSaid : Prop := fnExactTableEvalRow.holds Try.pinned (OpenSpec.ofChange fnExactTableEvalSpec)

/-- ITS FALSE NEIGHBOUR: 'it returns false'. Refute it at one input. -/
def fnExactTableEvalWrong : ChangeSpec := { name := "fnExactTableEval", fn := fun _ => fun
  | [d1, d2] => { results := [.lit (.bool false)], args := [d1, d2] }
  | _ => none }
def FnExactTableEvalWrongFalsely : Prop := fnExactTableEvalRow.holds Try.pinned (OpenSpec.ofChange fnExactTableEvalWrong)

/-- 'laws.FnExactTableNot': WHATEVER THE INPUT: true; the input reads as it did. -/
def fnExactTableNotSpec : ChangeSpec := { name := "fnExactTableNot", fn := fun _ => fun
  | [d] => { results := [.lit (.bool true)], args := [d] }
  | _ => none }
def fnExactTableNotRow : OpenClaim := { program := "ytiikadlcoijcfaa", sum := "4f8f45b19d9ae8c7c5cf111bc3392b1d283844f10c6fe4e41cb71c8920310fd0", func := "loop.example/g03311/laws.FnExactTableNot", spec := "fnExactTableNot", apart := false }
def FnExactTableNotSaid : Prop := fnExactTableNotRow.holds Try.pinned (OpenSpec.ofChange fnExactTableNotSpec)

/-- ITS FALSE NEIGHBOUR: 'it returns false'. Refute it at one input. -/
def fnExactTableNotWrong : ChangeSpec := { name := "fnExactTableNot", fn := fun _ => fun
  | [d] => { results := [.lit (.bool false)], args := [d] }
  | _ => none }
def FnExactTableNotWrongFalsely : Prop := fnExactTableNotRow.holds Try.pinned (OpenSpec.ofChange fnExactTableNotWrong)

/-- 'laws.FnExactTableAnd': WHATEVER THE INPUT: true; the input reads as it did. -/
def fnExactTableAndSpec : ChangeSpec := { name := "fnExactTableAnd", fn := fun _ => fun
  | [d1, d2] => { results := [.lit (.bool true)], args := [d1, d2] }
  | _ => none }
def fnExactTableAndRow : OpenClaim := { program := "ytiikadlcoijcfaa", sum := "4f8f45b19d9ae8c7c5cf111bc3392b1d283844f10c6fe4e41cb71c8920310fd0", func := "loop.example/g03311/laws.FnExactTableAnd", spec := "fnExactTableAnd", apart := false }
def FnExactTableAndSaid : Prop := fnExactTableAndRow.holds Try.pinned (OpenSpec.ofChange fnExactTableAndSpec)

/-- ITS FALSE NEIGHBOUR: 'it returns false'. Refute it at one input. -/
def fnExactTableAndWrong : ChangeSpec := { name := "fnExactTableAnd", fn := fun _ => fun
  | [d1, d2] => { results := [.lit (.bool false)], args := [d1, d2] }
  | _ => none }
def FnExactTableAndWrongFalsely : Prop := fnExactTableAndRow.holds Try.pinned (OpenSpec.ofChange fnExactTableAndWrong)

/-- 'laws.FnExactTableXor': WHATEVER THE INPUT: true; the input reads as it did. -/
def fnExactTableXorSpec : ChangeSpec := { name := "fnExactTableXor", fn := fun _ => fun
  | [d1, d2] => { results := [.lit (.bool true)], args := [d1, d2] }
  | _ => none }
def fnExactTableXorRow : OpenClaim := { program := "ytiikadlcoijcfaa", sum := "4f8f45b19d9ae8c7c5cf111bc3392b1d283844f10c6fe4e41cb71c8920310fd0", func := "loop.example/g03311/laws.FnExactTableXor", spec := "fnExactTableXor", apart := false }
def FnExactTableXorSaid : Prop := fnExactTableXorRow.holds Try.pinned (OpenSpec.ofChange fnExactTableXorSpec)

/-- ITS FALSE NEIGHBOUR: 'it returns false'. Refute it at one input. -/
def fnExactTableXorWrong : ChangeSpec := { name := "fnExactTableXor", fn := fun _ => fun
  | [d1, d2] => { results := [.lit (.bool false)], args := [d1, d2] }
  | _ => none }
def FnExactTableXorWrongFalsely : Prop := fnExactTableXorRow.holds Try.pinned (OpenSpec.ofChange fnExactTableXorWrong)

/- THE SECOND FORM. 'bulk': how many values and letters a reading holds, each counted each time it is reached (what is shared counts as often as it is met; a slice's spare places count too). A statement '..UptoSaid' is the law's where the arguments, and the package variables that the reading takes, are together of bulk at most 1048576: NARROWER than '..Said'. Prove '..Said' where nothing that the law and all that it calls make is longer than what came in: it says more and counts as full. Else prove '..UptoSaid'. A law counts once. -/
mutual
def uptoBulk {H : Type} : DataW H → Nat
  | .lit (.string bytes) => bytes.length + 1
  | .lit _ => 1
  | .nil => 1
  | .ptr d => uptoBulk d + 1
  | .slice elems spare => uptoBulkAll elems + uptoBulkAll spare + 1
  | .agg parts => uptoBulkAll parts + 1
  | .iface _ d => uptoBulk d + 1
  | .map entries => uptoBulkEntries entries + 1
  | .held _ => 1
def uptoBulkAll {H : Type} : List (DataW H) → Nat
  | [] => 0
  | d :: r => uptoBulk d + uptoBulkAll r
def uptoBulkEntries {H : Type} : List (Lit × DataW H) → Nat
  | [] => 0
  | x :: r => uptoBulkEntry x + uptoBulkEntries r
def uptoBulkEntry {H : Type} : Lit × DataW H → Nat
  | (.string bytes, d) => bytes.length + uptoBulk d + 1
  | (_, d) => uptoBulk d + 1
 end
def uptoSmall : (H : Type) → List (DataW H) → Bool := fun _ ds => decide (uptoBulkAll ds ≤ 1048576)
def OpenSpec.upto (s : _root_.Go.ChangeSpec) : _root_.Go.OpenSpec := { _root_.Go.OpenSpec.ofChange s with cond := some uptoSmall }

/-- 'laws.FnExactTableOk', WHERE WHAT IT READS IS OF BULK AT MOST 1048576: true; the input reads as it did. -/
def fnExactTableOkUptoRow : OpenClaim := { program := "ytiikadlcoijcfaa", sum := "4f8f45b19d9ae8c7c5cf111bc3392b1d283844f10c6fe4e41cb71c8920310fd0", func := "loop.example/g03311/laws.FnExactTableOk", spec := "fnExactTableOk", apart := false, narrowed := true }
def FnExactTableOkUptoSaid : Prop := fnExactTableOkUptoRow.holds Try.pinned (OpenSpec.upto fnExactTableOkSpec)

/-- 'laws.FnExactTableEval', WHERE WHAT IT READS IS OF BULK AT MOST 1048576: true; the input reads as it did. -/
def fnExactTableEvalUptoRow : OpenClaim := { program := "ytiikadlcoijcfaa", sum := "4f8f45b19d9ae8c7c5cf111bc3392b1d283844f10c6fe4e41cb71c8920310fd0", func := "loop.example/g03311/laws.FnExactTableEval", spec := "fnExactTableEval", apart := false, narrowed := true }
def FnExactTableEvalUptoSaid : Prop := fnExactTableEvalUptoRow.holds Try.pinned (OpenSpec.upto fnExactTableEvalSpec)

/-- 'laws.FnExactTableNot', WHERE WHAT IT READS IS OF BULK AT MOST 1048576: true; the input reads as it did. -/
def fnExactTableNotUptoRow : OpenClaim := { program := "ytiikadlcoijcfaa", sum := "4f8f45b19d9ae8c7c5cf111bc3392b1d283844f10c6fe4e41cb71c8920310fd0", func := "loop.example/g03311/laws.FnExactTableNot", spec := "fnExactTableNot", apart := false, narrowed := true }
def FnExactTableNotUptoSaid : Prop := fnExactTableNotUptoRow.holds Try.pinned (OpenSpec.upto fnExactTableNotSpec)

/-- 'laws.FnExactTableAnd', WHERE WHAT IT READS IS OF BULK AT MOST 1048576: true; the input reads as it did. -/
def fnExactTableAndUptoRow : OpenClaim := { program := "ytiikadlcoijcfaa", sum := "4f8f45b19d9ae8c7c5cf111bc3392b1d283844f10c6fe4e41cb71c8920310fd0", func := "loop.example/g03311/laws.FnExactTableAnd", spec := "fnExactTableAnd", apart := false, narrowed := true }
def FnExactTableAndUptoSaid : Prop := fnExactTableAndUptoRow.holds Try.pinned (OpenSpec.upto fnExactTableAndSpec)

/-- 'laws.FnExactTableXor', WHERE WHAT IT READS IS OF BULK AT MOST 1048576: true; the input reads as it did. -/
def fnExactTableXorUptoRow : OpenClaim := { program := "ytiikadlcoijcfaa", sum := "4f8f45b19d9ae8c7c5cf111bc3392b1d283844f10c6fe4e41cb71c8920310fd0", func := "loop.example/g03311/laws.FnExactTableXor", spec := "fnExactTableXor", apart := false, narrowed := true }
def FnExactTableXorUptoSaid : Prop := fnExactTableXorUptoRow.holds Try.pinned (OpenSpec.upto fnExactTableXorSpec)

end Rows
end Go.Proofs.Ytiikadlcoijcfaa
