/-
  NARROWER THAN 'FOR EVERY INPUT', by the rows' own cells (each row's printed sentence says how): FnShannon: laid · FnShrunk: laid · FnExactTableVar: laid · FnExactTableCofactor: laid · FnExactTableDepends: laid · FnExactTableSupport: laid · FnExactTableShrink: laid.
  DERIVED. THE GIVEN ROWS OF THIS SEAT. 7 by the template 'for every input the law returns true; each argument reads behind the call as it read before'; 0 by the template 'total and deterministic' (their statements: YtiikadlcoijcfaaDoorTotals.lean).
  GIVEN WITH THE SEED: the statements are not yours to turn. If you find one false, say at which input.
  Laid BY PROGRAM, IN A SANDBOX (cutbox-rows.mjs): the forced cells as the released guide's own fill.sh prints them over the translation cff813877737e5a3… (all of the seat's roots in one cut). By AI agents, Wed Nov 11 2026. No macro, syntax, notation, axiom, sorry.
-/
import Derived.Test.YtiikadlcoijcfaaDoorChecked
import GoSem.Claim
import GoSem.ClaimJoined
import GoSem.ClaimMapViews
import Derived.JoinedTies
import Derived.KernelRfl
namespace Go.Proofs.YtiikadlcoijcfaaDoor
/- THE CELL 'sum', in the pinned program and in every row, IS THE sha256 OF THE DUMP (.gsa) THAT YtiikadlcoijcfaaDoorProg.lean LOADS. Nothing in Lean hashes anything: it is a label: what it is worth is what the hold of that sum in a sandbox is worth. -/
noncomputable def Tryd.pinned : Pinned := { name := "ytiikadlcoijcfaadoor", sum := "cff813877737e5a3900197784efb74822f09b010377531e41a5a2894c8956619", checked := Tryd.checked }
namespace Rows
def none {H : Type} : Left H := { results := [], args := [] }

/- WHAT THE LISTED PACKAGE-LEVEL VARIABLES READ AS WHEN THE CALL BEGINS. Each datum BY PROGRAM (the guide's laid-datum.mjs) off the statement by which the dump's own 'gosem.cut.vars' lays the variable. In a bare row this is a premise. The card (YtiikadlcoijcfaaDoorCards.lean) ties it to the program's text. -/
def laid_loop_example_g03311_impl_inputBits {H : Type} : DataW H := .agg [.lit (.int .i64 43690), .lit (.int .i64 52428), .lit (.int .i64 61680), .lit (.int .i64 65280)]

/-- 'laws.FnShannon': WHATEVER THE INPUT: true; the input reads as it did. -/
def fnShannonSpec : ChangeSpec := { name := "fnShannon", vars := ["loop.example/g03311/impl.inputBits"], fn := fun _ => fun
  | [d, g1] => { results := [.lit (.bool true)], args := [d], vars := [g1] }
  | _ => none }
def fnShannonRow : OpenClaim := { program := "ytiikadlcoijcfaadoor", sum := "cff813877737e5a3900197784efb74822f09b010377531e41a5a2894c8956619", func := "loop.example/g03311/laws.FnShannon", spec := "fnShannon", named := ["loop.example/g03311/impl.inputBits"], apart := false, laid := [("loop.example/g03311/impl.inputBits", laid_loop_example_g03311_impl_inputBits)] }
def FnShannonSaid : Prop := fnShannonRow.holds Tryd.pinned (OpenSpec.ofChange fnShannonSpec)

/-- ITS FALSE NEIGHBOUR: 'it returns false'. Refute it at one input. -/
def fnShannonWrong : ChangeSpec := { name := "fnShannon", vars := ["loop.example/g03311/impl.inputBits"], fn := fun _ => fun
  | [d, g1] => { results := [.lit (.bool false)], args := [d], vars := [g1] }
  | _ => none }
def FnShannonWrongFalsely : Prop := fnShannonRow.holds Tryd.pinned (OpenSpec.ofChange fnShannonWrong)

/-- 'laws.FnShrunk': WHATEVER THE INPUT: true; the input reads as it did. -/
def fnShrunkSpec : ChangeSpec := { name := "fnShrunk", vars := ["loop.example/g03311/impl.inputBits"], fn := fun _ => fun
  | [d, g1] => { results := [.lit (.bool true)], args := [d], vars := [g1] }
  | _ => none }
def fnShrunkRow : OpenClaim := { program := "ytiikadlcoijcfaadoor", sum := "cff813877737e5a3900197784efb74822f09b010377531e41a5a2894c8956619", func := "loop.example/g03311/laws.FnShrunk", spec := "fnShrunk", named := ["loop.example/g03311/impl.inputBits"], apart := false, laid := [("loop.example/g03311/impl.inputBits", laid_loop_example_g03311_impl_inputBits)] }
def FnShrunkSaid : Prop := fnShrunkRow.holds Tryd.pinned (OpenSpec.ofChange fnShrunkSpec)

/-- ITS FALSE NEIGHBOUR: 'it returns false'. Refute it at one input. -/
def fnShrunkWrong : ChangeSpec := { name := "fnShrunk", vars := ["loop.example/g03311/impl.inputBits"], fn := fun _ => fun
  | [d, g1] => { results := [.lit (.bool false)], args := [d], vars := [g1] }
  | _ => none }
def FnShrunkWrongFalsely : Prop := fnShrunkRow.holds Tryd.pinned (OpenSpec.ofChange fnShrunkWrong)

/-- 'laws.FnExactTableVar': WHATEVER THE INPUT: true; the input reads as it did. -/
def fnExactTableVarSpec : ChangeSpec := { name := "fnExactTableVar", vars := ["loop.example/g03311/impl.inputBits"], fn := fun _ => fun
  | [d1, d2, g1] => { results := [.lit (.bool true)], args := [d1, d2], vars := [g1] }
  | _ => none }
def fnExactTableVarRow : OpenClaim := { program := "ytiikadlcoijcfaadoor", sum := "cff813877737e5a3900197784efb74822f09b010377531e41a5a2894c8956619", func := "loop.example/g03311/laws.FnExactTableVar", spec := "fnExactTableVar", named := ["loop.example/g03311/impl.inputBits"], apart := false, laid := [("loop.example/g03311/impl.inputBits", laid_loop_example_g03311_impl_inputBits)] }
def FnExactTableVarSaid : Prop := fnExactTableVarRow.holds Tryd.pinned (OpenSpec.ofChange fnExactTableVarSpec)

/-- ITS FALSE NEIGHBOUR: 'it returns false'. Refute it at one input. -/
def fnExactTableVarWrong : ChangeSpec := { name := "fnExactTableVar", vars := ["loop.example/g03311/impl.inputBits"], fn := fun _ => fun
  | [d1, d2, g1] => { results := [.lit (.bool false)], args := [d1, d2], vars := [g1] }
  | _ => none }
def FnExactTableVarWrongFalsely : Prop := fnExactTableVarRow.holds Tryd.pinned (OpenSpec.ofChange fnExactTableVarWrong)

/-- 'laws.FnExactTableCofactor': WHATEVER THE INPUT: true; the input reads as it did. -/
def fnExactTableCofactorSpec : ChangeSpec := { name := "fnExactTableCofactor", vars := ["loop.example/g03311/impl.inputBits"], fn := fun _ => fun
  | [d1, d2, d3, g1] => { results := [.lit (.bool true)], args := [d1, d2, d3], vars := [g1] }
  | _ => none }
def fnExactTableCofactorRow : OpenClaim := { program := "ytiikadlcoijcfaadoor", sum := "cff813877737e5a3900197784efb74822f09b010377531e41a5a2894c8956619", func := "loop.example/g03311/laws.FnExactTableCofactor", spec := "fnExactTableCofactor", named := ["loop.example/g03311/impl.inputBits"], apart := false, laid := [("loop.example/g03311/impl.inputBits", laid_loop_example_g03311_impl_inputBits)] }
def FnExactTableCofactorSaid : Prop := fnExactTableCofactorRow.holds Tryd.pinned (OpenSpec.ofChange fnExactTableCofactorSpec)

/-- ITS FALSE NEIGHBOUR: 'it returns false'. Refute it at one input. -/
def fnExactTableCofactorWrong : ChangeSpec := { name := "fnExactTableCofactor", vars := ["loop.example/g03311/impl.inputBits"], fn := fun _ => fun
  | [d1, d2, d3, g1] => { results := [.lit (.bool false)], args := [d1, d2, d3], vars := [g1] }
  | _ => none }
def FnExactTableCofactorWrongFalsely : Prop := fnExactTableCofactorRow.holds Tryd.pinned (OpenSpec.ofChange fnExactTableCofactorWrong)

/-- 'laws.FnExactTableDepends': WHATEVER THE INPUT: true; the input reads as it did. -/
def fnExactTableDependsSpec : ChangeSpec := { name := "fnExactTableDepends", vars := ["loop.example/g03311/impl.inputBits"], fn := fun _ => fun
  | [d1, d2, g1] => { results := [.lit (.bool true)], args := [d1, d2], vars := [g1] }
  | _ => none }
def fnExactTableDependsRow : OpenClaim := { program := "ytiikadlcoijcfaadoor", sum := "cff813877737e5a3900197784efb74822f09b010377531e41a5a2894c8956619", func := "loop.example/g03311/laws.FnExactTableDepends", spec := "fnExactTableDepends", named := ["loop.example/g03311/impl.inputBits"], apart := false, laid := [("loop.example/g03311/impl.inputBits", laid_loop_example_g03311_impl_inputBits)] }
def FnExactTableDependsSaid : Prop := fnExactTableDependsRow.holds Tryd.pinned (OpenSpec.ofChange fnExactTableDependsSpec)

/-- ITS FALSE NEIGHBOUR: 'it returns false'. Refute it at one input. -/
def fnExactTableDependsWrong : ChangeSpec := { name := "fnExactTableDepends", vars := ["loop.example/g03311/impl.inputBits"], fn := fun _ => fun
  | [d1, d2, g1] => { results := [.lit (.bool false)], args := [d1, d2], vars := [g1] }
  | _ => none }
def FnExactTableDependsWrongFalsely : Prop := fnExactTableDependsRow.holds Tryd.pinned (OpenSpec.ofChange fnExactTableDependsWrong)

/-- 'laws.FnExactTableSupport': WHATEVER THE INPUT: true; the input reads as it did. -/
def fnExactTableSupportSpec : ChangeSpec := { name := "fnExactTableSupport", vars := ["loop.example/g03311/impl.inputBits"], fn := fun _ => fun
  | [d, g1] => { results := [.lit (.bool true)], args := [d], vars := [g1] }
  | _ => none }
def fnExactTableSupportRow : OpenClaim := { program := "ytiikadlcoijcfaadoor", sum := "cff813877737e5a3900197784efb74822f09b010377531e41a5a2894c8956619", func := "loop.example/g03311/laws.FnExactTableSupport", spec := "fnExactTableSupport", named := ["loop.example/g03311/impl.inputBits"], apart := false, laid := [("loop.example/g03311/impl.inputBits", laid_loop_example_g03311_impl_inputBits)] }
def FnExactTableSupportSaid : Prop := fnExactTableSupportRow.holds Tryd.pinned (OpenSpec.ofChange fnExactTableSupportSpec)

/-- ITS FALSE NEIGHBOUR: 'it returns false'. Refute it at one input. -/
def fnExactTableSupportWrong : ChangeSpec := { name := "fnExactTableSupport", vars := ["loop.example/g03311/impl.inputBits"], fn := fun _ => fun
  | [d, g1] => { results := [.lit (.bool false)], args := [d], vars := [g1] }
  | _ => none }
def FnExactTableSupportWrongFalsely : Prop := fnExactTableSupportRow.holds Tryd.pinned (OpenSpec.ofChange fnExactTableSupportWrong)

/-- 'laws.FnExactTableShrink': WHATEVER THE INPUT: true; the input reads as it did. -/
def fnExactTableShrinkSpec : ChangeSpec := { name := "fnExactTableShrink", vars := ["loop.example/g03311/impl.inputBits"], fn := fun _ => fun
  | [d, g1] => { results := [.lit (.bool true)], args := [d], vars := [g1] }
  | _ => none }
def fnExactTableShrinkRow : OpenClaim := { program := "ytiikadlcoijcfaadoor", sum := "cff813877737e5a3900197784efb74822f09b010377531e41a5a2894c8956619", func := "loop.example/g03311/laws.FnExactTableShrink", spec := "fnExactTableShrink", named := ["loop.example/g03311/impl.inputBits"], apart := false, laid := [("loop.example/g03311/impl.inputBits", laid_loop_example_g03311_impl_inputBits)] }
def FnExactTableShrinkSaid : Prop := fnExactTableShrinkRow.holds Tryd.pinned (OpenSpec.ofChange fnExactTableShrinkSpec)

/-- ITS FALSE NEIGHBOUR: 'it returns false'. Refute it at one input. -/
def fnExactTableShrinkWrong : ChangeSpec := { name := "fnExactTableShrink", vars := ["loop.example/g03311/impl.inputBits"], fn := fun _ => fun
  | [d, g1] => { results := [.lit (.bool false)], args := [d], vars := [g1] }
  | _ => none }
def FnExactTableShrinkWrongFalsely : Prop := fnExactTableShrinkRow.holds Tryd.pinned (OpenSpec.ofChange fnExactTableShrinkWrong)

/- THE SECOND FORM. 'bulk': how many values and letters a reading holds, each counted each time it is reached (what is shared counts as often as it is met; a slice's spare places count too). A statement '..UptoSaid' is the law's where the arguments, and the package variables that the reading takes, are together of bulk at most 1048576: NARROWER than '..Said'. Prove '..Said' where nothing that the law and all that it calls make is longer than what came in: it says more and counts as full. Else prove '..UptoSaid'. A law counts once. -/
mutual
def uptoBulk {H : Type} : DataW H → Nat
  | .lit (.string bytes) => bytes.length + 1
  | .lit _ => 1
  | .nil => 1
  | .ptr d => uptoBulk d + 1
  | .slice elems spare => uptoBulkAll elems + uptoBulkAll spare + 1
  | .agg parts => uptoBulkAll parts + 1
  | .iface _ d => uptoBulk d + 1
  | .map entries => uptoBulkEntries entries + 1
  | .held _ => 1
def uptoBulkAll {H : Type} : List (DataW H) → Nat
  | [] => 0
  | d :: r => uptoBulk d + uptoBulkAll r
def uptoBulkEntries {H : Type} : List (Lit × DataW H) → Nat
  | [] => 0
  | x :: r => uptoBulkEntry x + uptoBulkEntries r
def uptoBulkEntry {H : Type} : Lit × DataW H → Nat
  | (.string bytes, d) => bytes.length + uptoBulk d + 1
  | (_, d) => uptoBulk d + 1
 end
def uptoSmall : (H : Type) → List (DataW H) → Bool := fun _ ds => decide (uptoBulkAll ds ≤ 1048576)
def OpenSpec.upto (s : _root_.Go.ChangeSpec) : _root_.Go.OpenSpec := { _root_.Go.OpenSpec.ofChange s with cond := some uptoSmall }

/-- 'laws.FnShannon', WHERE WHAT IT READS IS OF BULK AT MOST 1048576: true; the input reads as it did. -/
def fnShannonUptoRow : OpenClaim := { program := "ytiikadlcoijcfaadoor", sum := "cff813877737e5a3900197784efb74822f09b010377531e41a5a2894c8956619", func := "loop.example/g03311/laws.FnShannon", spec := "fnShannon", named := ["loop.example/g03311/impl.inputBits"], apart := false, laid := [("loop.example/g03311/impl.inputBits", laid_loop_example_g03311_impl_inputBits)], narrowed := true }
def FnShannonUptoSaid : Prop := fnShannonUptoRow.holds Tryd.pinned (OpenSpec.upto fnShannonSpec)

/-- 'laws.FnShrunk', WHERE WHAT IT READS IS OF BULK AT MOST 1048576: true; the input reads as it did. -/
def fnShrunkUptoRow : OpenClaim := { program := "ytiikadlcoijcfaadoor", sum := "cff813877737e5a3900197784efb74822f09b010377531e41a5a2894c8956619", func := "loop.example/g03311/laws.FnShrunk", spec := "fnShrunk", named := ["loop.example/g03311/impl.inputBits"], apart := false, laid := [("loop.example/g03311/impl.inputBits", laid_loop_example_g03311_impl_inputBits)], narrowed := true }
def FnShrunkUptoSaid : Prop := fnShrunkUptoRow.holds Tryd.pinned (OpenSpec.upto fnShrunkSpec)

/-- 'laws.FnExactTableVar', WHERE WHAT IT READS IS OF BULK AT MOST 1048576: true; the input reads as it did. -/
def fnExactTableVarUptoRow : OpenClaim := { program := "ytiikadlcoijcfaadoor", sum := "cff813877737e5a3900197784efb74822f09b010377531e41a5a2894c8956619", func := "loop.example/g03311/laws.FnExactTableVar", spec := "fnExactTableVar", named := ["loop.example/g03311/impl.inputBits"], apart := false, laid := [("loop.example/g03311/impl.inputBits", laid_loop_example_g03311_impl_inputBits)], narrowed := true }
def FnExactTableVarUptoSaid : Prop := fnExactTableVarUptoRow.holds Tryd.pinned (OpenSpec.upto fnExactTableVarSpec)

/-- 'laws.FnExactTableCofactor', WHERE WHAT IT READS IS OF BULK AT MOST 1048576: true; the input reads as it did. -/
def fnExactTableCofactorUptoRow : OpenClaim := { program := "ytiikadlcoijcfaadoor", sum := "cff813877737e5a3900197784efb74822f09b010377531e41a5a2894c8956619", func := "loop.example/g03311/laws.FnExactTableCofactor", spec := "fnExactTableCofactor", named := ["loop.example/g03311/impl.inputBits"], apart := false, laid := [("loop.example/g03311/impl.inputBits", laid_loop_example_g03311_impl_inputBits)], narrowed := true }
def FnExactTableCofactorUptoSaid : Prop := fnExactTableCofactorUptoRow.holds Tryd.pinned (OpenSpec.upto fnExactTableCofactorSpec)

/-- 'laws.FnExactTableDepends', WHERE WHAT IT READS IS OF BULK AT MOST 1048576: true; the input reads as it did. -/
def fnExactTableDependsUptoRow : OpenClaim := { program := "ytiikadlcoijcfaadoor", sum := "cff813877737e5a3900197784efb74822f09b010377531e41a5a2894c8956619", func := "loop.example/g03311/laws.FnExactTableDepends", spec := "fnExactTableDepends", named := ["loop.example/g03311/impl.inputBits"], apart := false, laid := [("loop.example/g03311/impl.inputBits", laid_loop_example_g03311_impl_inputBits)], narrowed := true }
def FnExactTableDependsUptoSaid : Prop := fnExactTableDependsUptoRow.holds Tryd.pinned (OpenSpec.upto fnExactTableDependsSpec)

/-- 'laws.FnExactTableSupport', WHERE WHAT IT READS IS OF BULK AT MOST 1048576: true; the input reads as it did. -/
def fnExactTableSupportUptoRow : OpenClaim := { program := "ytiikadlcoijcfaadoor", sum := "cff813877737e5a3900197784efb74822f09b010377531e41a5a2894c8956619", func := "loop.example/g03311/laws.FnExactTableSupport", spec := "fnExactTableSupport", named := ["loop.example/g03311/impl.inputBits"], apart := false, laid := [("loop.example/g03311/impl.inputBits", laid_loop_example_g03311_impl_inputBits)], narrowed := true }
def FnExactTableSupportUptoSaid : Prop := fnExactTableSupportUptoRow.holds Tryd.pinned (OpenSpec.upto fnExactTableSupportSpec)

/-- 'laws.FnExactTableShrink', WHERE WHAT IT READS IS OF BULK AT MOST 1048576: true; the input reads as it did. -/
def fnExactTableShrinkUptoRow : OpenClaim := { program := "ytiikadlcoijcfaadoor", sum := "cff813877737e5a3900197784efb74822f09b010377531e41a5a2894c8956619", func := "loop.example/g03311/laws.FnExactTableShrink", spec := "fnExactTableShrink", named := ["loop.example/g03311/impl.inputBits"], apart := false, laid := [("loop.example/g03311/impl.inputBits", laid_loop_example_g03311_impl_inputBits)], narrowed := true }
def FnExactTableShrinkUptoSaid : Prop := fnExactTableShrinkUptoRow.holds Tryd.pinned (OpenSpec.upto fnExactTableShrinkSpec)

end Rows
end Go.Proofs.YtiikadlcoijcfaaDoor
