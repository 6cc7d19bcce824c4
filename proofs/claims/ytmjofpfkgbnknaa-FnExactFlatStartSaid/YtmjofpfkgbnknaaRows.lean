/-
  No cell of these rows narrows 'for every input' (looked for: loops, veiled, ifaces, maps, wideKeys, modest, calm, conditions, laid).
  DERIVED. THE GIVEN ROWS OF THIS SEAT. 7 by the template 'for every input the law returns true; each argument reads behind the call as it read before'; 0 by the template 'total and deterministic' (their statements: YtmjofpfkgbnknaaTotals.lean).
  GIVEN WITH THE SEED: the statements are not yours to turn. If you find one false, say at which input.
  Laid BY PROGRAM, IN A SANDBOX (cutbox-rows.mjs): the forced cells as the released guide's own fill.sh prints them over the translation 4d53c5c70154528c… (all of the seat's roots in one cut). By AI agents, Wed Nov 11 2026. No macro, syntax, notation, axiom, sorry.
-/
import Derived.Test.YtmjofpfkgbnknaaChecked
import GoSem.Claim
import GoSem.ClaimJoined
import GoSem.ClaimMapViews
import Derived.JoinedTies
import Derived.KernelRfl
namespace Go.Proofs.Ytmjofpfkgbnknaa
/- THE CELL 'sum', in the pinned program and in every row, IS THE sha256 OF THE DUMP (.gsa) THAT YtmjofpfkgbnknaaProg.lean LOADS. Nothing in Lean hashes anything: it is a label: what it is worth is what the hold of that sum in a sandbox is worth. -/
noncomputable def Try.pinned : Pinned := { name := "ytmjofpfkgbnknaa", sum := "4d53c5c70154528cea63267a9ab3c26d0c9e52bf75a17d30e859619f966ef4f5", checked := Try.checked }
namespace Rows
def none {H : Type} : Left H := { results := [], args := [] }

/-- 'laws.FnFlatAgain': WHATEVER THE INPUT: true; the input reads as it did. -/
def fnFlatAgainSpec : ChangeSpec := { name := "fnFlatAgain", fn := fun _ => fun
  | [d] => { results := [.lit (.bool true)], args := [d] }
  | _ => none }
def fnFlatAgainRow : OpenClaim := { program := "ytmjofpfkgbnknaa", sum := "4d53c5c70154528cea63267a9ab3c26d0c9e52bf75a17d30e859619f966ef4f5", func := "loop.example/g03311/laws.FnFlatAgain", spec := "fnFlatAgain", unfollowed := true, recurses := true, apart := false }
def FnFlatAgainSaid : Prop := fnFlatAgainRow.holds Try.pinned (OpenSpec.ofChange fnFlatAgainSpec)

/-- ITS FALSE NEIGHBOUR: 'it returns false'. Refute it at one input. -/
def fnFlatAgainWrong : ChangeSpec := { name := "fnFlatAgain", fn := fun _ => fun
  | [d] => { results := [.lit (.bool false)], args := [d] }
  | _ => none }
def FnFlatAgainWrongFalsely : Prop := fnFlatAgainRow.holds Try.pinned (OpenSpec.ofChange fnFlatAgainWrong)

/-- 'laws.FnRunSteps': WHATEVER THE INPUT: true; the input reads as it did. -/
def fnRunStepsSpec : ChangeSpec := { name := "fnRunSteps", fn := fun _ => fun
  | [d] => { results := [.lit (.bool true)], args := [d] }
  | _ => none }
def fnRunStepsRow : OpenClaim := { program := "ytmjofpfkgbnknaa", sum := "4d53c5c70154528cea63267a9ab3c26d0c9e52bf75a17d30e859619f966ef4f5", func := "loop.example/g03311/laws.FnRunSteps", spec := "fnRunSteps", unfollowed := true, recurses := true, apart := false }
def FnRunStepsSaid : Prop := fnRunStepsRow.holds Try.pinned (OpenSpec.ofChange fnRunStepsSpec)

/-- ITS FALSE NEIGHBOUR: 'it returns false'. Refute it at one input. -/
def fnRunStepsWrong : ChangeSpec := { name := "fnRunSteps", fn := fun _ => fun
  | [d] => { results := [.lit (.bool false)], args := [d] }
  | _ => none }
def FnRunStepsWrongFalsely : Prop := fnRunStepsRow.holds Try.pinned (OpenSpec.ofChange fnRunStepsWrong)

/-- 'laws.FnInputBits': WHATEVER THE INPUT: true; the input reads as it did. -/
def fnInputBitsSpec : ChangeSpec := { name := "fnInputBits", fn := fun _ => fun
  | [d] => { results := [.lit (.bool true)], args := [d] }
  | _ => none }
def fnInputBitsRow : OpenClaim := { program := "ytmjofpfkgbnknaa", sum := "4d53c5c70154528cea63267a9ab3c26d0c9e52bf75a17d30e859619f966ef4f5", func := "loop.example/g03311/laws.FnInputBits", spec := "fnInputBits", unfollowed := true, recurses := true, apart := false }
def FnInputBitsSaid : Prop := fnInputBitsRow.holds Try.pinned (OpenSpec.ofChange fnInputBitsSpec)

/-- ITS FALSE NEIGHBOUR: 'it returns false'. Refute it at one input. -/
def fnInputBitsWrong : ChangeSpec := { name := "fnInputBits", fn := fun _ => fun
  | [d] => { results := [.lit (.bool false)], args := [d] }
  | _ => none }
def FnInputBitsWrongFalsely : Prop := fnInputBitsRow.holds Try.pinned (OpenSpec.ofChange fnInputBitsWrong)

/-- 'laws.FnExactInstanceOf': WHATEVER THE INPUT: true; the input reads as it did. -/
def fnExactInstanceOfSpec : ChangeSpec := { name := "fnExactInstanceOf", fn := fun _ => fun
  | [d1, d2] => { results := [.lit (.bool true)], args := [d1, d2] }
  | _ => none }
def fnExactInstanceOfRow : OpenClaim := { program := "ytmjofpfkgbnknaa", sum := "4d53c5c70154528cea63267a9ab3c26d0c9e52bf75a17d30e859619f966ef4f5", func := "loop.example/g03311/laws.FnExactInstanceOf", spec := "fnExactInstanceOf", apart := false }
def FnExactInstanceOfSaid : Prop := fnExactInstanceOfRow.holds Try.pinned (OpenSpec.ofChange fnExactInstanceOfSpec)

/-- ITS FALSE NEIGHBOUR: 'it returns false'. Refute it at one input. -/
def fnExactInstanceOfWrong : ChangeSpec := { name := "fnExactInstanceOf", fn := fun _ => fun
  | [d1, d2] => { results := [.lit (.bool false)], args := [d1, d2] }
  | _ => none }
def FnExactInstanceOfWrongFalsely : Prop := fnExactInstanceOfRow.holds Try.pinned (OpenSpec.ofChange fnExactInstanceOfWrong)

/-- 'laws.FnExactExprValue': WHATEVER THE INPUT: true; the input reads as it did. -/
def fnExactExprValueSpec : ChangeSpec := { name := "fnExactExprValue", fn := fun _ => fun
  | [d1, d2, d3] => { results := [.lit (.bool true)], args := [d1, d2, d3] }
  | _ => none }
def fnExactExprValueRow : OpenClaim := { program := "ytmjofpfkgbnknaa", sum := "4d53c5c70154528cea63267a9ab3c26d0c9e52bf75a17d30e859619f966ef4f5", func := "loop.example/g03311/laws.FnExactExprValue", spec := "fnExactExprValue", unfollowed := true, recurses := true, apart := false }
def FnExactExprValueSaid : Prop := fnExactExprValueRow.holds Try.pinned (OpenSpec.ofChange fnExactExprValueSpec)

/-- ITS FALSE NEIGHBOUR: 'it returns false'. Refute it at one input. -/
def fnExactExprValueWrong : ChangeSpec := { name := "fnExactExprValue", fn := fun _ => fun
  | [d1, d2, d3] => { results := [.lit (.bool false)], args := [d1, d2, d3] }
  | _ => none }
def FnExactExprValueWrongFalsely : Prop := fnExactExprValueRow.holds Try.pinned (OpenSpec.ofChange fnExactExprValueWrong)

/-- 'laws.FnExactWordStateOk': WHATEVER THE INPUT: true; the input reads as it did. -/
def fnExactWordStateOkSpec : ChangeSpec := { name := "fnExactWordStateOk", fn := fun _ => fun
  | [d1, d2] => { results := [.lit (.bool true)], args := [d1, d2] }
  | _ => none }
def fnExactWordStateOkRow : OpenClaim := { program := "ytmjofpfkgbnknaa", sum := "4d53c5c70154528cea63267a9ab3c26d0c9e52bf75a17d30e859619f966ef4f5", func := "loop.example/g03311/laws.FnExactWordStateOk", spec := "fnExactWordStateOk", unfollowed := true, recurses := true, apart := false }
def FnExactWordStateOkSaid : Prop := fnExactWordStateOkRow.holds Try.pinned (OpenSpec.ofChange fnExactWordStateOkSpec)

/-- ITS FALSE NEIGHBOUR: 'it returns false'. Refute it at one input. -/
def fnExactWordStateOkWrong : ChangeSpec := { name := "fnExactWordStateOk", fn := fun _ => fun
  | [d1, d2] => { results := [.lit (.bool false)], args := [d1, d2] }
  | _ => none }
def FnExactWordStateOkWrongFalsely : Prop := fnExactWordStateOkRow.holds Try.pinned (OpenSpec.ofChange fnExactWordStateOkWrong)

/-- 'laws.FnExactFlatStart': WHATEVER THE INPUT: true; the input reads as it did. -/
def fnExactFlatStartSpec : ChangeSpec := { name := "fnExactFlatStart", fn := fun _ => fun
  | [d] => { results := [.lit (.bool true)], args := [d] }
  | _ => none }
def fnExactFlatStartRow : OpenClaim := { program := "ytmjofpfkgbnknaa", sum := "4d53c5c70154528cea63267a9ab3c26d0c9e52bf75a17d30e859619f966ef4f5", func := "loop.example/g03311/laws.FnExactFlatStart", spec := "fnExactFlatStart", unfollowed := true, recurses := true, apart := false }
def FnExactFlatStartSaid : Prop := fnExactFlatStartRow.holds Try.pinned (OpenSpec.ofChange fnExactFlatStartSpec)

/-- ITS FALSE NEIGHBOUR: 'it returns false'. Refute it at one input. -/
def fnExactFlatStartWrong : ChangeSpec := { name := "fnExactFlatStart", fn := fun _ => fun
  | [d] => { results := [.lit (.bool false)], args := [d] }
  | _ => none }
def FnExactFlatStartWrongFalsely : Prop := fnExactFlatStartRow.holds Try.pinned (OpenSpec.ofChange fnExactFlatStartWrong)

/- THE SECOND FORM. 'bulk': how many values and letters a reading holds, each counted each time it is reached (what is shared counts as often as it is met; a slice's spare places count too). A statement '..UptoSaid' is the law's where the arguments, and the package variables that the reading takes, are together of bulk at most 1048576: NARROWER than '..Said'. Prove '..Said' where nothing that the law and all that it calls make is longer than what came in: it says more and counts as full. Else prove '..UptoSaid'. A law counts once. -/
mutual
def uptoBulk {H : Type} : DataW H → Nat
  | .lit (.string bytes) => bytes.length + 1
  | .lit _ => 1
  | .nil => 1
  | .ptr d => uptoBulk d + 1
  | .slice elems spare => uptoBulkAll elems + uptoBulkAll spare + 1
  | .agg parts => uptoBulkAll parts + 1
  | .iface _ d => uptoBulk d + 1
  | .map entries => uptoBulkEntries entries + 1
  | .held _ => 1
def uptoBulkAll {H : Type} : List (DataW H) → Nat
  | [] => 0
  | d :: r => uptoBulk d + uptoBulkAll r
def uptoBulkEntries {H : Type} : List (Lit × DataW H) → Nat
  | [] => 0
  | x :: r => uptoBulkEntry x + uptoBulkEntries r
def uptoBulkEntry {H : Type} : Lit × DataW H → Nat
  | (.string bytes, d) => bytes.length + uptoBulk d + 1
  | (_, d) => uptoBulk d + 1
 end
def uptoSmall : (H : Type) → List (DataW H) → Bool := fun _ ds => decide (uptoBulkAll ds ≤ 1048576)
def OpenSpec.upto (s : _root_.Go.ChangeSpec) : _root_.Go.OpenSpec := { _root_.Go.OpenSpec.ofChange s with cond := some uptoSmall }

/-- 'laws.FnFlatAgain', WHERE WHAT IT READS IS OF BULK AT MOST 1048576: true; the input reads as it did. -/
def fnFlatAgainUptoRow : OpenClaim := { program := "ytmjofpfkgbnknaa", sum := "4d53c5c70154528cea63267a9ab3c26d0c9e52bf75a17d30e859619f966ef4f5", func := "loop.example/g03311/laws.FnFlatAgain", spec := "fnFlatAgain", unfollowed := true, recurses := true, apart := false, narrowed := true }
def FnFlatAgainUptoSaid : Prop := fnFlatAgainUptoRow.holds Try.pinned (OpenSpec.upto fnFlatAgainSpec)

/-- 'laws.FnRunSteps', WHERE WHAT IT READS IS OF BULK AT MOST 1048576: true; the input reads as it did. -/
def fnRunStepsUptoRow : OpenClaim := { program := "ytmjofpfkgbnknaa", sum := "4d53c5c70154528cea63267a9ab3c26d0c9e52bf75a17d30e859619f966ef4f5", func := "loop.example/g03311/laws.FnRunSteps", spec := "fnRunSteps", unfollowed := true, recurses := true, apart := false, narrowed := true }
def FnRunStepsUptoSaid : Prop := fnRunStepsUptoRow.holds Try.pinned (OpenSpec.upto fnRunStepsSpec)

/-- 'laws.FnInputBits', WHERE WHAT IT READS IS OF BULK AT MOST 1048576: true; the input reads as it did. -/
def fnInputBitsUptoRow : OpenClaim := { program := "ytmjofpfkgbnknaa", sum := "4d53c5c70154528cea63267a9ab3c26d0c9e52bf75a17d30e859619f966ef4f5", func := "loop.example/g03311/laws.FnInputBits", spec := "fnInputBits", unfollowed := true, recurses := true, apart := false, narrowed := true }
def FnInputBitsUptoSaid : Prop := fnInputBitsUptoRow.holds Try.pinned (OpenSpec.upto fnInputBitsSpec)

/-- 'laws.FnExactInstanceOf', WHERE WHAT IT READS IS OF BULK AT MOST 1048576: true; the input reads as it did. -/
def fnExactInstanceOfUptoRow : OpenClaim := { program := "ytmjofpfkgbnknaa", sum := "4d53c5c70154528cea63267a9ab3c26d0c9e52bf75a17d30e859619f966ef4f5", func := "loop.example/g03311/laws.FnExactInstanceOf", spec := "fnExactInstanceOf", apart := false, narrowed := true }
def FnExactInstanceOfUptoSaid : Prop := fnExactInstanceOfUptoRow.holds Try.pinned (OpenSpec.upto fnExactInstanceOfSpec)

/-- 'laws.FnExactExprValue', WHERE WHAT IT READS IS OF BULK AT MOST 1048576: true; the input reads as it did. -/
def fnExactExprValueUptoRow : OpenClaim := { program := "ytmjofpfkgbnknaa", sum := "4d53c5c70154528cea63267a9ab3c26d0c9e52bf75a17d30e859619f966ef4f5", func := "loop.example/g03311/laws.FnExactExprValue", spec := "fnExactExprValue", unfollowed := true, recurses := true, apart := false, narrowed := true }
def FnExactExprValueUptoSaid : Prop := fnExactExprValueUptoRow.holds Try.pinned (OpenSpec.upto fnExactExprValueSpec)

/-- 'laws.FnExactWordStateOk', WHERE WHAT IT READS IS OF BULK AT MOST 1048576: true; the input reads as it did. -/
def fnExactWordStateOkUptoRow : OpenClaim := { program := "ytmjofpfkgbnknaa", sum := "4d53c5c70154528cea63267a9ab3c26d0c9e52bf75a17d30e859619f966ef4f5", func := "loop.example/g03311/laws.FnExactWordStateOk", spec := "fnExactWordStateOk", unfollowed := true, recurses := true, apart := false, narrowed := true }
def FnExactWordStateOkUptoSaid : Prop := fnExactWordStateOkUptoRow.holds Try.pinned (OpenSpec.upto fnExactWordStateOkSpec)

/-- 'laws.FnExactFlatStart', WHERE WHAT IT READS IS OF BULK AT MOST 1048576: true; the input reads as it did. -/
def fnExactFlatStartUptoRow : OpenClaim := { program := "ytmjofpfkgbnknaa", sum := "4d53c5c70154528cea63267a9ab3c26d0c9e52bf75a17d30e859619f966ef4f5", func := "loop.example/g03311/laws.FnExactFlatStart", spec := "fnExactFlatStart", unfollowed := true, recurses := true, apart := false, narrowed := true }
def FnExactFlatStartUptoSaid : Prop := fnExactFlatStartUptoRow.holds Try.pinned (OpenSpec.upto fnExactFlatStartSpec)

end Rows
end Go.Proofs.Ytmjofpfkgbnknaa
