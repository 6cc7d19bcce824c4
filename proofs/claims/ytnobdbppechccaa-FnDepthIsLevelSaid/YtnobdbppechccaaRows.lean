/-
  No cell of these rows narrows 'for every input' (looked for: loops, veiled, ifaces, maps, wideKeys, modest, calm, conditions, laid).
  DERIVED. THE GIVEN ROWS OF THIS SEAT. 9 by the template 'for every input the law returns true; each argument reads behind the call as it read before'; 0 by the template 'total and deterministic' (their statements: YtnobdbppechccaaTotals.lean).
  GIVEN WITH THE SEED: the statements are not yours to turn. If you find one false, say at which input.
  Laid BY PROGRAM, IN A SANDBOX (cutbox-rows.mjs): the forced cells as the released guide's own fill.sh prints them over the translation 33a7df58bb3601be… (all of the seat's roots in one cut). By AI agents, Wed Nov 11 2026. No macro, syntax, notation, axiom, sorry.
-/
import Derived.Test.YtnobdbppechccaaChecked
import GoSem.Claim
import GoSem.ClaimJoined
import GoSem.ClaimMapViews
import Derived.JoinedTies
import Derived.KernelRfl
namespace Go.Proofs.Ytnobdbppechccaa
/- THE CELL 'sum', in the pinned program and in every row, IS THE sha256 OF THE DUMP (.gsa) THAT YtnobdbppechccaaProg.lean LOADS. Nothing in Lean hashes anything: it is a label: what it is worth is what the hold of that sum in a sandbox is worth. -/
noncomputable def Try.pinned : Pinned := { name := "ytnobdbppechccaa", sum := "33a7df58bb3601be7d47475dc1f7ed13f1a4575fe43e4a1a5ab49473ac31b8e0", checked := Try.checked }
namespace Rows
def none {H : Type} : Left H := { results := [], args := [] }

/-- 'laws.FnDepthIsLevel': WHATEVER THE INPUT: true; the input reads as it did. -/
def fnDepthIsLevelSpec : ChangeSpec := { name := "fnDepthIsLevel", fn := fun _ => fun
  | [d] => { results := [.lit (.bool true)], args := [d] }
  | _ => none }
def fnDepthIsLevelRow : OpenClaim := { program := "ytnobdbppechccaa", sum := "33a7df58bb3601be7d47475dc1f7ed13f1a4575fe43e4a1a5ab49473ac31b8e0", func := "loop.example/g03311/laws.FnDepthIsLevel", spec := "fnDepthIsLevel", unfollowed := true, recurses := true, apart := false }
def FnDepthIsLevelSaid : Prop := fnDepthIsLevelRow.holds Try.pinned (OpenSpec.ofChange fnDepthIsLevelSpec)

/-- ITS FALSE NEIGHBOUR: 'it returns false'. Refute it at one input. -/
def fnDepthIsLevelWrong : ChangeSpec := { name := "fnDepthIsLevel", fn := fun _ => fun
  | [d] => { results := [.lit (.bool false)], args := [d] }
  | _ => none }
def FnDepthIsLevelWrongFalsely : Prop := fnDepthIsLevelRow.holds Try.pinned (OpenSpec.ofChange fnDepthIsLevelWrong)

/-- 'laws.FnExactNodeCount': WHATEVER THE INPUT: true; the input reads as it did. -/
def fnExactNodeCountSpec : ChangeSpec := { name := "fnExactNodeCount", fn := fun _ => fun
  | [d] => { results := [.lit (.bool true)], args := [d] }
  | _ => none }
def fnExactNodeCountRow : OpenClaim := { program := "ytnobdbppechccaa", sum := "33a7df58bb3601be7d47475dc1f7ed13f1a4575fe43e4a1a5ab49473ac31b8e0", func := "loop.example/g03311/laws.FnExactNodeCount", spec := "fnExactNodeCount", apart := false }
def FnExactNodeCountSaid : Prop := fnExactNodeCountRow.holds Try.pinned (OpenSpec.ofChange fnExactNodeCountSpec)

/-- ITS FALSE NEIGHBOUR: 'it returns false'. Refute it at one input. -/
def fnExactNodeCountWrong : ChangeSpec := { name := "fnExactNodeCount", fn := fun _ => fun
  | [d] => { results := [.lit (.bool false)], args := [d] }
  | _ => none }
def FnExactNodeCountWrongFalsely : Prop := fnExactNodeCountRow.holds Try.pinned (OpenSpec.ofChange fnExactNodeCountWrong)

/-- 'laws.FnExactNetOk': WHATEVER THE INPUT: true; the input reads as it did. -/
def fnExactNetOkSpec : ChangeSpec := { name := "fnExactNetOk", fn := fun _ => fun
  | [d] => { results := [.lit (.bool true)], args := [d] }
  | _ => none }
def fnExactNetOkRow : OpenClaim := { program := "ytnobdbppechccaa", sum := "33a7df58bb3601be7d47475dc1f7ed13f1a4575fe43e4a1a5ab49473ac31b8e0", func := "loop.example/g03311/laws.FnExactNetOk", spec := "fnExactNetOk", apart := false }
def FnExactNetOkSaid : Prop := fnExactNetOkRow.holds Try.pinned (OpenSpec.ofChange fnExactNetOkSpec)

/-- ITS FALSE NEIGHBOUR: 'it returns false'. Refute it at one input. -/
def fnExactNetOkWrong : ChangeSpec := { name := "fnExactNetOk", fn := fun _ => fun
  | [d] => { results := [.lit (.bool false)], args := [d] }
  | _ => none }
def FnExactNetOkWrongFalsely : Prop := fnExactNetOkRow.holds Try.pinned (OpenSpec.ofChange fnExactNetOkWrong)

/-- 'laws.FnExactRoots': WHATEVER THE INPUT: true; the input reads as it did. -/
def fnExactRootsSpec : ChangeSpec := { name := "fnExactRoots", fn := fun _ => fun
  | [d] => { results := [.lit (.bool true)], args := [d] }
  | _ => none }
def fnExactRootsRow : OpenClaim := { program := "ytnobdbppechccaa", sum := "33a7df58bb3601be7d47475dc1f7ed13f1a4575fe43e4a1a5ab49473ac31b8e0", func := "loop.example/g03311/laws.FnExactRoots", spec := "fnExactRoots", apart := false }
def FnExactRootsSaid : Prop := fnExactRootsRow.holds Try.pinned (OpenSpec.ofChange fnExactRootsSpec)

/-- ITS FALSE NEIGHBOUR: 'it returns false'. Refute it at one input. -/
def fnExactRootsWrong : ChangeSpec := { name := "fnExactRoots", fn := fun _ => fun
  | [d] => { results := [.lit (.bool false)], args := [d] }
  | _ => none }
def FnExactRootsWrongFalsely : Prop := fnExactRootsRow.holds Try.pinned (OpenSpec.ofChange fnExactRootsWrong)

/-- 'laws.FnExactLevels': WHATEVER THE INPUT: true; the input reads as it did. -/
def fnExactLevelsSpec : ChangeSpec := { name := "fnExactLevels", fn := fun _ => fun
  | [d] => { results := [.lit (.bool true)], args := [d] }
  | _ => none }
def fnExactLevelsRow : OpenClaim := { program := "ytnobdbppechccaa", sum := "33a7df58bb3601be7d47475dc1f7ed13f1a4575fe43e4a1a5ab49473ac31b8e0", func := "loop.example/g03311/laws.FnExactLevels", spec := "fnExactLevels", apart := false }
def FnExactLevelsSaid : Prop := fnExactLevelsRow.holds Try.pinned (OpenSpec.ofChange fnExactLevelsSpec)

/-- ITS FALSE NEIGHBOUR: 'it returns false'. Refute it at one input. -/
def fnExactLevelsWrong : ChangeSpec := { name := "fnExactLevels", fn := fun _ => fun
  | [d] => { results := [.lit (.bool false)], args := [d] }
  | _ => none }
def FnExactLevelsWrongFalsely : Prop := fnExactLevelsRow.holds Try.pinned (OpenSpec.ofChange fnExactLevelsWrong)

/-- 'laws.FnExactDepth': WHATEVER THE INPUT: true; the input reads as it did. -/
def fnExactDepthSpec : ChangeSpec := { name := "fnExactDepth", fn := fun _ => fun
  | [d] => { results := [.lit (.bool true)], args := [d] }
  | _ => none }
def fnExactDepthRow : OpenClaim := { program := "ytnobdbppechccaa", sum := "33a7df58bb3601be7d47475dc1f7ed13f1a4575fe43e4a1a5ab49473ac31b8e0", func := "loop.example/g03311/laws.FnExactDepth", spec := "fnExactDepth", apart := false }
def FnExactDepthSaid : Prop := fnExactDepthRow.holds Try.pinned (OpenSpec.ofChange fnExactDepthSpec)

/-- ITS FALSE NEIGHBOUR: 'it returns false'. Refute it at one input. -/
def fnExactDepthWrong : ChangeSpec := { name := "fnExactDepth", fn := fun _ => fun
  | [d] => { results := [.lit (.bool false)], args := [d] }
  | _ => none }
def FnExactDepthWrongFalsely : Prop := fnExactDepthRow.holds Try.pinned (OpenSpec.ofChange fnExactDepthWrong)

/-- 'laws.FnExactCone': WHATEVER THE INPUT: true; the input reads as it did. -/
def fnExactConeSpec : ChangeSpec := { name := "fnExactCone", fn := fun _ => fun
  | [d1, d2] => { results := [.lit (.bool true)], args := [d1, d2] }
  | _ => none }
def fnExactConeRow : OpenClaim := { program := "ytnobdbppechccaa", sum := "33a7df58bb3601be7d47475dc1f7ed13f1a4575fe43e4a1a5ab49473ac31b8e0", func := "loop.example/g03311/laws.FnExactCone", spec := "fnExactCone", unfollowed := true, recurses := true, apart := false }
def FnExactConeSaid : Prop := fnExactConeRow.holds Try.pinned (OpenSpec.ofChange fnExactConeSpec)

/-- ITS FALSE NEIGHBOUR: 'it returns false'. Refute it at one input. -/
def fnExactConeWrong : ChangeSpec := { name := "fnExactCone", fn := fun _ => fun
  | [d1, d2] => { results := [.lit (.bool false)], args := [d1, d2] }
  | _ => none }
def FnExactConeWrongFalsely : Prop := fnExactConeRow.holds Try.pinned (OpenSpec.ofChange fnExactConeWrong)

/-- 'laws.FnExactReached': WHATEVER THE INPUT: true; the input reads as it did. -/
def fnExactReachedSpec : ChangeSpec := { name := "fnExactReached", fn := fun _ => fun
  | [d] => { results := [.lit (.bool true)], args := [d] }
  | _ => none }
def fnExactReachedRow : OpenClaim := { program := "ytnobdbppechccaa", sum := "33a7df58bb3601be7d47475dc1f7ed13f1a4575fe43e4a1a5ab49473ac31b8e0", func := "loop.example/g03311/laws.FnExactReached", spec := "fnExactReached", unfollowed := true, recurses := true, apart := false }
def FnExactReachedSaid : Prop := fnExactReachedRow.holds Try.pinned (OpenSpec.ofChange fnExactReachedSpec)

/-- ITS FALSE NEIGHBOUR: 'it returns false'. Refute it at one input. -/
def fnExactReachedWrong : ChangeSpec := { name := "fnExactReached", fn := fun _ => fun
  | [d] => { results := [.lit (.bool false)], args := [d] }
  | _ => none }
def FnExactReachedWrongFalsely : Prop := fnExactReachedRow.holds Try.pinned (OpenSpec.ofChange fnExactReachedWrong)

/-- 'laws.FnExactSampleNet': WHATEVER THE INPUT: true; the input reads as it did. -/
def fnExactSampleNetSpec : ChangeSpec := { name := "fnExactSampleNet", fn := fun _ => fun
  | [] => { results := [.lit (.bool true)], args := [] }
  | _ => none }
def fnExactSampleNetRow : OpenClaim := { program := "ytnobdbppechccaa", sum := "33a7df58bb3601be7d47475dc1f7ed13f1a4575fe43e4a1a5ab49473ac31b8e0", func := "loop.example/g03311/laws.FnExactSampleNet", spec := "fnExactSampleNet", apart := false }
def FnExactSampleNetSaid : Prop := fnExactSampleNetRow.holds Try.pinned (OpenSpec.ofChange fnExactSampleNetSpec)

/-- ITS FALSE NEIGHBOUR: 'it returns false'. Refute it at one input. -/
def fnExactSampleNetWrong : ChangeSpec := { name := "fnExactSampleNet", fn := fun _ => fun
  | [] => { results := [.lit (.bool false)], args := [] }
  | _ => none }
def FnExactSampleNetWrongFalsely : Prop := fnExactSampleNetRow.holds Try.pinned (OpenSpec.ofChange fnExactSampleNetWrong)

/- THE SECOND FORM. 'bulk': how many values and letters a reading holds, each counted each time it is reached (what is shared counts as often as it is met; a slice's spare places count too). A statement '..UptoSaid' is the law's where the arguments, and the package variables that the reading takes, are together of bulk at most 1048576: NARROWER than '..Said'. Prove '..Said' where nothing that the law and all that it calls make is longer than what came in: it says more and counts as full. Else prove '..UptoSaid'. A law counts once. -/
mutual
def uptoBulk {H : Type} : DataW H → Nat
  | .lit (.string bytes) => bytes.length + 1
  | .lit _ => 1
  | .nil => 1
  | .ptr d => uptoBulk d + 1
  | .slice elems spare => uptoBulkAll elems + uptoBulkAll spare + 1
  | .agg parts => uptoBulkAll parts + 1
  | .iface _ d => uptoBulk d + 1
  | .map entries => uptoBulkEntries entries + 1
  | .held _ => 1
def uptoBulkAll {H : Type} : List (DataW H) → Nat
  | [] => 0
  | d :: r => uptoBulk d + uptoBulkAll r
def uptoBulkEntries {H : Type} : List (Lit × DataW H) → Nat
  | [] => 0
  | x :: r => uptoBulkEntry x + uptoBulkEntries r
def uptoBulkEntry {H : Type} : Lit × DataW H → Nat
  | (.string bytes, d) => bytes.length + uptoBulk d + 1
  | (_, d) => uptoBulk d + 1
 end
def uptoSmall : (H : Type) → List (DataW H) → Bool := fun _ ds => decide (uptoBulkAll ds ≤ 1048576)
def OpenSpec.upto (s : _root_.Go.ChangeSpec) : _root_.Go.OpenSpec := { _root_.Go.OpenSpec.ofChange s with cond := some uptoSmall }

/-- 'laws.FnDepthIsLevel', WHERE WHAT IT READS IS OF BULK AT MOST 1048576: true; the input reads as it did. -/
def fnDepthIsLevelUptoRow : OpenClaim := { program := "ytnobdbppechccaa", sum := "33a7df58bb3601be7d47475dc1f7ed13f1a4575fe43e4a1a5ab49473ac31b8e0", func := "loop.example/g03311/laws.FnDepthIsLevel", spec := "fnDepthIsLevel", unfollowed := true, recurses := true, apart := false, narrowed := true }
def FnDepthIsLevelUptoSaid : Prop := fnDepthIsLevelUptoRow.holds Try.pinned (OpenSpec.upto fnDepthIsLevelSpec)

/-- 'laws.FnExactNodeCount', WHERE WHAT IT READS IS OF BULK AT MOST 1048576: true; the input reads as it did. -/
def fnExactNodeCountUptoRow : OpenClaim := { program := "ytnobdbppechccaa", sum := "33a7df58bb3601be7d47475dc1f7ed13f1a4575fe43e4a1a5ab49473ac31b8e0", func := "loop.example/g03311/laws.FnExactNodeCount", spec := "fnExactNodeCount", apart := false, narrowed := true }
def FnExactNodeCountUptoSaid : Prop := fnExactNodeCountUptoRow.holds Try.pinned (OpenSpec.upto fnExactNodeCountSpec)

/-- 'laws.FnExactNetOk', WHERE WHAT IT READS IS OF BULK AT MOST 1048576: true; the input reads as it did. -/
def fnExactNetOkUptoRow : OpenClaim := { program := "ytnobdbppechccaa", sum := "33a7df58bb3601be7d47475dc1f7ed13f1a4575fe43e4a1a5ab49473ac31b8e0", func := "loop.example/g03311/laws.FnExactNetOk", spec := "fnExactNetOk", apart := false, narrowed := true }
def FnExactNetOkUptoSaid : Prop := fnExactNetOkUptoRow.holds Try.pinned (OpenSpec.upto fnExactNetOkSpec)

/-- 'laws.FnExactRoots', WHERE WHAT IT READS IS OF BULK AT MOST 1048576: true; the input reads as it did. -/
def fnExactRootsUptoRow : OpenClaim := { program := "ytnobdbppechccaa", sum := "33a7df58bb3601be7d47475dc1f7ed13f1a4575fe43e4a1a5ab49473ac31b8e0", func := "loop.example/g03311/laws.FnExactRoots", spec := "fnExactRoots", apart := false, narrowed := true }
def FnExactRootsUptoSaid : Prop := fnExactRootsUptoRow.holds Try.pinned (OpenSpec.upto fnExactRootsSpec)

/-- 'laws.FnExactLevels', WHERE WHAT IT READS IS OF BULK AT MOST 1048576: true; the input reads as it did. -/
def fnExactLevelsUptoRow : OpenClaim := { program := "ytnobdbppechccaa", sum := "33a7df58bb3601be7d47475dc1f7ed13f1a4575fe43e4a1a5ab49473ac31b8e0", func := "loop.example/g03311/laws.FnExactLevels", spec := "fnExactLevels", apart := false, narrowed := true }
def FnExactLevelsUptoSaid : Prop := fnExactLevelsUptoRow.holds Try.pinned (OpenSpec.upto fnExactLevelsSpec)

/-- 'laws.FnExactDepth', WHERE WHAT IT READS IS OF BULK AT MOST 1048576: true; the input reads as it did. -/
def fnExactDepthUptoRow : OpenClaim := { program := "ytnobdbppechccaa", sum := "33a7df58bb3601be7d47475dc1f7ed13f1a4575fe43e4a1a5ab49473ac31b8e0", func := "loop.example/g03311/laws.FnExactDepth", spec := "fnExactDepth", apart := false, narrowed := true }
def FnExactDepthUptoSaid : Prop := fnExactDepthUptoRow.holds Try.pinned (OpenSpec.upto fnExactDepthSpec)

/-- 'laws.FnExactCone', WHERE WHAT IT READS IS OF BULK AT MOST 1048576: true; the input reads as it did. -/
def fnExactConeUptoRow : OpenClaim := { program := "ytnobdbppechccaa", sum := "33a7df58bb3601be7d47475dc1f7ed13f1a4575fe43e4a1a5ab49473ac31b8e0", func := "loop.example/g03311/laws.FnExactCone", spec := "fnExactCone", unfollowed := true, recurses := true, apart := false, narrowed := true }
def FnExactConeUptoSaid : Prop := fnExactConeUptoRow.holds Try.pinned (OpenSpec.upto fnExactConeSpec)

/-- 'laws.FnExactReached', WHERE WHAT IT READS IS OF BULK AT MOST 1048576: true; the input reads as it did. -/
def fnExactReachedUptoRow : OpenClaim := { program := "ytnobdbppechccaa", sum := "33a7df58bb3601be7d47475dc1f7ed13f1a4575fe43e4a1a5ab49473ac31b8e0", func := "loop.example/g03311/laws.FnExactReached", spec := "fnExactReached", unfollowed := true, recurses := true, apart := false, narrowed := true }
def FnExactReachedUptoSaid : Prop := fnExactReachedUptoRow.holds Try.pinned (OpenSpec.upto fnExactReachedSpec)

/-- 'laws.FnExactSampleNet', WHERE WHAT IT READS IS OF BULK AT MOST 1048576: true; the input reads as it did. -/
def fnExactSampleNetUptoRow : OpenClaim := { program := "ytnobdbppechccaa", sum := "33a7df58bb3601be7d47475dc1f7ed13f1a4575fe43e4a1a5ab49473ac31b8e0", func := "loop.example/g03311/laws.FnExactSampleNet", spec := "fnExactSampleNet", apart := false, narrowed := true }
def FnExactSampleNetUptoSaid : Prop := fnExactSampleNetUptoRow.holds Try.pinned (OpenSpec.upto fnExactSampleNetSpec)

end Rows
end Go.Proofs.Ytnobdbppechccaa
