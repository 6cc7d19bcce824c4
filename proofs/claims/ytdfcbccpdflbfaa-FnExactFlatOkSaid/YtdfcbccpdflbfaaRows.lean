/-
  No cell of these rows narrows 'for every input' (looked for: loops, veiled, ifaces, maps, wideKeys, modest, calm, conditions, laid).
  DERIVED. THE GIVEN ROWS OF THIS SEAT. 6 by the template 'for every input the law returns true; each argument reads behind the call as it read before'; 0 by the template 'total and deterministic' (their statements: YtdfcbccpdflbfaaTotals.lean).
  GIVEN WITH THE SEED: the statements are not yours to turn. If you find one false, say at which input.
  Laid BY PROGRAM, IN A SANDBOX (cutbox-rows.mjs): the forced cells as the released guide's own fill.sh prints them over the translation 03d46675bbc01e8e… (all of the seat's roots in one cut). By AI agents, Wed Nov 11 2026. No macro, syntax, notation, axiom, sorry.
-/
import Derived.Test.YtdfcbccpdflbfaaChecked
import GoSem.Claim
import GoSem.ClaimJoined
import GoSem.ClaimMapViews
import Derived.JoinedTies
import Derived.KernelRfl
namespace Go.Proofs.Ytdfcbccpdflbfaa
/- THE CELL 'sum', in the pinned program and in every row, IS THE sha256 OF THE DUMP (.gsa) THAT YtdfcbccpdflbfaaProg.lean LOADS. Nothing in Lean hashes anything: it is a label: what it is worth is what the hold of that sum in a sandbox is worth. -/
noncomputable def Try.pinned : Pinned := { name := "ytdfcbccpdflbfaa", sum := "03d46675bbc01e8e7a8e4e4095c638a4d963fd821adf367f3babebdebe565269", checked := Try.checked }
namespace Rows
def none {H : Type} : Left H := { results := [], args := [] }

/-- 'laws.FnDriversOnce': WHATEVER THE INPUT: true; the input reads as it did. -/
def fnDriversOnceSpec : ChangeSpec := { name := "fnDriversOnce", fn := fun _ => fun
  | [d] => { results := [.lit (.bool true)], args := [d] }
  | _ => none }
def fnDriversOnceRow : OpenClaim := { program := "ytdfcbccpdflbfaa", sum := "03d46675bbc01e8e7a8e4e4095c638a4d963fd821adf367f3babebdebe565269", func := "loop.example/g03311/laws.FnDriversOnce", spec := "fnDriversOnce", recurses := true, apart := false }
def FnDriversOnceSaid : Prop := fnDriversOnceRow.holds Try.pinned (OpenSpec.ofChange fnDriversOnceSpec)

/-- ITS FALSE NEIGHBOUR: 'it returns false'. Refute it at one input. -/
def fnDriversOnceWrong : ChangeSpec := { name := "fnDriversOnce", fn := fun _ => fun
  | [d] => { results := [.lit (.bool false)], args := [d] }
  | _ => none }
def FnDriversOnceWrongFalsely : Prop := fnDriversOnceRow.holds Try.pinned (OpenSpec.ofChange fnDriversOnceWrong)

/-- 'laws.FnFlatAgain': WHATEVER THE INPUT: true; the input reads as it did. -/
def fnFlatAgainSpec : ChangeSpec := { name := "fnFlatAgain", fn := fun _ => fun
  | [d] => { results := [.lit (.bool true)], args := [d] }
  | _ => none }
def fnFlatAgainRow : OpenClaim := { program := "ytdfcbccpdflbfaa", sum := "03d46675bbc01e8e7a8e4e4095c638a4d963fd821adf367f3babebdebe565269", func := "loop.example/g03311/laws.FnFlatAgain", spec := "fnFlatAgain", unfollowed := true, recurses := true, apart := false }
def FnFlatAgainSaid : Prop := fnFlatAgainRow.holds Try.pinned (OpenSpec.ofChange fnFlatAgainSpec)

/-- ITS FALSE NEIGHBOUR: 'it returns false'. Refute it at one input. -/
def fnFlatAgainWrong : ChangeSpec := { name := "fnFlatAgain", fn := fun _ => fun
  | [d] => { results := [.lit (.bool false)], args := [d] }
  | _ => none }
def FnFlatAgainWrongFalsely : Prop := fnFlatAgainRow.holds Try.pinned (OpenSpec.ofChange fnFlatAgainWrong)

/-- 'laws.FnExactPortWidths': WHATEVER THE INPUT: true; the input reads as it did. -/
def fnExactPortWidthsSpec : ChangeSpec := { name := "fnExactPortWidths", fn := fun _ => fun
  | [d1, d2] => { results := [.lit (.bool true)], args := [d1, d2] }
  | _ => none }
def fnExactPortWidthsRow : OpenClaim := { program := "ytdfcbccpdflbfaa", sum := "03d46675bbc01e8e7a8e4e4095c638a4d963fd821adf367f3babebdebe565269", func := "loop.example/g03311/laws.FnExactPortWidths", spec := "fnExactPortWidths", apart := false }
def FnExactPortWidthsSaid : Prop := fnExactPortWidthsRow.holds Try.pinned (OpenSpec.ofChange fnExactPortWidthsSpec)

/-- ITS FALSE NEIGHBOUR: 'it returns false'. Refute it at one input. -/
def fnExactPortWidthsWrong : ChangeSpec := { name := "fnExactPortWidths", fn := fun _ => fun
  | [d1, d2] => { results := [.lit (.bool false)], args := [d1, d2] }
  | _ => none }
def FnExactPortWidthsWrongFalsely : Prop := fnExactPortWidthsRow.holds Try.pinned (OpenSpec.ofChange fnExactPortWidthsWrong)

/-- 'laws.FnExactEvalOrder': WHATEVER THE INPUT: true; the input reads as it did. -/
def fnExactEvalOrderSpec : ChangeSpec := { name := "fnExactEvalOrder", fn := fun _ => fun
  | [d] => { results := [.lit (.bool true)], args := [d] }
  | _ => none }
def fnExactEvalOrderRow : OpenClaim := { program := "ytdfcbccpdflbfaa", sum := "03d46675bbc01e8e7a8e4e4095c638a4d963fd821adf367f3babebdebe565269", func := "loop.example/g03311/laws.FnExactEvalOrder", spec := "fnExactEvalOrder", unfollowed := true, recurses := true, apart := false }
def FnExactEvalOrderSaid : Prop := fnExactEvalOrderRow.holds Try.pinned (OpenSpec.ofChange fnExactEvalOrderSpec)

/-- ITS FALSE NEIGHBOUR: 'it returns false'. Refute it at one input. -/
def fnExactEvalOrderWrong : ChangeSpec := { name := "fnExactEvalOrder", fn := fun _ => fun
  | [d] => { results := [.lit (.bool false)], args := [d] }
  | _ => none }
def FnExactEvalOrderWrongFalsely : Prop := fnExactEvalOrderRow.holds Try.pinned (OpenSpec.ofChange fnExactEvalOrderWrong)

/-- 'laws.FnExactFlatOk': WHATEVER THE INPUT: true; the input reads as it did. -/
def fnExactFlatOkSpec : ChangeSpec := { name := "fnExactFlatOk", fn := fun _ => fun
  | [d] => { results := [.lit (.bool true)], args := [d] }
  | _ => none }
def fnExactFlatOkRow : OpenClaim := { program := "ytdfcbccpdflbfaa", sum := "03d46675bbc01e8e7a8e4e4095c638a4d963fd821adf367f3babebdebe565269", func := "loop.example/g03311/laws.FnExactFlatOk", spec := "fnExactFlatOk", unfollowed := true, recurses := true, apart := false }
def FnExactFlatOkSaid : Prop := fnExactFlatOkRow.holds Try.pinned (OpenSpec.ofChange fnExactFlatOkSpec)

/-- ITS FALSE NEIGHBOUR: 'it returns false'. Refute it at one input. -/
def fnExactFlatOkWrong : ChangeSpec := { name := "fnExactFlatOk", fn := fun _ => fun
  | [d] => { results := [.lit (.bool false)], args := [d] }
  | _ => none }
def FnExactFlatOkWrongFalsely : Prop := fnExactFlatOkRow.holds Try.pinned (OpenSpec.ofChange fnExactFlatOkWrong)

/-- 'laws.FnExactInstanceOf': WHATEVER THE INPUT: true; the input reads as it did. -/
def fnExactInstanceOfSpec : ChangeSpec := { name := "fnExactInstanceOf", fn := fun _ => fun
  | [d1, d2] => { results := [.lit (.bool true)], args := [d1, d2] }
  | _ => none }
def fnExactInstanceOfRow : OpenClaim := { program := "ytdfcbccpdflbfaa", sum := "03d46675bbc01e8e7a8e4e4095c638a4d963fd821adf367f3babebdebe565269", func := "loop.example/g03311/laws.FnExactInstanceOf", spec := "fnExactInstanceOf", apart := false }
def FnExactInstanceOfSaid : Prop := fnExactInstanceOfRow.holds Try.pinned (OpenSpec.ofChange fnExactInstanceOfSpec)

/-- ITS FALSE NEIGHBOUR: 'it returns false'. Refute it at one input. -/
def fnExactInstanceOfWrong : ChangeSpec := { name := "fnExactInstanceOf", fn := fun _ => fun
  | [d1, d2] => { results := [.lit (.bool false)], args := [d1, d2] }
  | _ => none }
def FnExactInstanceOfWrongFalsely : Prop := fnExactInstanceOfRow.holds Try.pinned (OpenSpec.ofChange fnExactInstanceOfWrong)

/- THE SECOND FORM. 'bulk': how many values and letters a reading holds, each counted each time it is reached (what is shared counts as often as it is met; a slice's spare places count too). A statement '..UptoSaid' is the law's where the arguments, and the package variables that the reading takes, are together of bulk at most 1048576: NARROWER than '..Said'. Prove '..Said' where nothing that the law and all that it calls make is longer than what came in: it says more and counts as full. Else prove '..UptoSaid'. A law counts once. -/
mutual
def uptoBulk {H : Type} : DataW H → Nat
  | .lit (.string bytes) => bytes.length + 1
  | .lit _ => 1
  | .nil => 1
  | .ptr d => uptoBulk d + 1
  | .slice elems spare => uptoBulkAll elems + uptoBulkAll spare + 1
  | .agg parts => uptoBulkAll parts + 1
  | .iface _ d => uptoBulk d + 1
  | .map entries => uptoBulkEntries entries + 1
  | .held _ => 1
def uptoBulkAll {H : Type} : List (DataW H) → Nat
  | [] => 0
  | d :: r => uptoBulk d + uptoBulkAll r
def uptoBulkEntries {H : Type} : List (Lit × DataW H) → Nat
  | [] => 0
  | x :: r => uptoBulkEntry x + uptoBulkEntries r
def uptoBulkEntry {H : Type} : Lit × DataW H → Nat
  | (.string bytes, d) => bytes.length + uptoBulk d + 1
  | (_, d) => uptoBulk d + 1
 end
def uptoSmall : (H : Type) → List (DataW H) → Bool := fun _ ds => decide (uptoBulkAll ds ≤ 1048576)
def OpenSpec.upto (s : _root_.Go.ChangeSpec) : _root_.Go.OpenSpec := { _root_.Go.OpenSpec.ofChange s with cond := some uptoSmall }

/-- 'laws.FnDriversOnce', WHERE WHAT IT READS IS OF BULK AT MOST 1048576: true; the input reads as it did. -/
def fnDriversOnceUptoRow : OpenClaim := { program := "ytdfcbccpdflbfaa", sum := "03d46675bbc01e8e7a8e4e4095c638a4d963fd821adf367f3babebdebe565269", func := "loop.example/g03311/laws.FnDriversOnce", spec := "fnDriversOnce", recurses := true, apart := false, narrowed := true }
def FnDriversOnceUptoSaid : Prop := fnDriversOnceUptoRow.holds Try.pinned (OpenSpec.upto fnDriversOnceSpec)

/-- 'laws.FnFlatAgain', WHERE WHAT IT READS IS OF BULK AT MOST 1048576: true; the input reads as it did. -/
def fnFlatAgainUptoRow : OpenClaim := { program := "ytdfcbccpdflbfaa", sum := "03d46675bbc01e8e7a8e4e4095c638a4d963fd821adf367f3babebdebe565269", func := "loop.example/g03311/laws.FnFlatAgain", spec := "fnFlatAgain", unfollowed := true, recurses := true, apart := false, narrowed := true }
def FnFlatAgainUptoSaid : Prop := fnFlatAgainUptoRow.holds Try.pinned (OpenSpec.upto fnFlatAgainSpec)

/-- 'laws.FnExactPortWidths', WHERE WHAT IT READS IS OF BULK AT MOST 1048576: true; the input reads as it did. -/
def fnExactPortWidthsUptoRow : OpenClaim := { program := "ytdfcbccpdflbfaa", sum := "03d46675bbc01e8e7a8e4e4095c638a4d963fd821adf367f3babebdebe565269", func := "loop.example/g03311/laws.FnExactPortWidths", spec := "fnExactPortWidths", apart := false, narrowed := true }
def FnExactPortWidthsUptoSaid : Prop := fnExactPortWidthsUptoRow.holds Try.pinned (OpenSpec.upto fnExactPortWidthsSpec)

/-- 'laws.FnExactEvalOrder', WHERE WHAT IT READS IS OF BULK AT MOST 1048576: true; the input reads as it did. -/
def fnExactEvalOrderUptoRow : OpenClaim := { program := "ytdfcbccpdflbfaa", sum := "03d46675bbc01e8e7a8e4e4095c638a4d963fd821adf367f3babebdebe565269", func := "loop.example/g03311/laws.FnExactEvalOrder", spec := "fnExactEvalOrder", unfollowed := true, recurses := true, apart := false, narrowed := true }
def FnExactEvalOrderUptoSaid : Prop := fnExactEvalOrderUptoRow.holds Try.pinned (OpenSpec.upto fnExactEvalOrderSpec)

/-- 'laws.FnExactFlatOk', WHERE WHAT IT READS IS OF BULK AT MOST 1048576: true; the input reads as it did. -/
def fnExactFlatOkUptoRow : OpenClaim := { program := "ytdfcbccpdflbfaa", sum := "03d46675bbc01e8e7a8e4e4095c638a4d963fd821adf367f3babebdebe565269", func := "loop.example/g03311/laws.FnExactFlatOk", spec := "fnExactFlatOk", unfollowed := true, recurses := true, apart := false, narrowed := true }
def FnExactFlatOkUptoSaid : Prop := fnExactFlatOkUptoRow.holds Try.pinned (OpenSpec.upto fnExactFlatOkSpec)

/-- 'laws.FnExactInstanceOf', WHERE WHAT IT READS IS OF BULK AT MOST 1048576: true; the input reads as it did. -/
def fnExactInstanceOfUptoRow : OpenClaim := { program := "ytdfcbccpdflbfaa", sum := "03d46675bbc01e8e7a8e4e4095c638a4d963fd821adf367f3babebdebe565269", func := "loop.example/g03311/laws.FnExactInstanceOf", spec := "fnExactInstanceOf", apart := false, narrowed := true }
def FnExactInstanceOfUptoSaid : Prop := fnExactInstanceOfUptoRow.holds Try.pinned (OpenSpec.upto fnExactInstanceOfSpec)

end Rows
end Go.Proofs.Ytdfcbccpdflbfaa
