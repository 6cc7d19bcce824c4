/-
  No cell of these rows narrows 'for every input' (looked for: loops, veiled, ifaces, maps, wideKeys, modest, calm, conditions, laid).
  DERIVED. THE GIVEN ROWS OF THIS SEAT. 7 by the template 'for every input the law returns true; each argument reads behind the call as it read before'; 0 by the template 'total and deterministic' (their statements: YtedamhkcblemdaaTotals.lean).
  GIVEN WITH THE SEED: the statements are not yours to turn. If you find one false, say at which input.
  Laid BY PROGRAM, IN A SANDBOX (cutbox-rows.mjs): the forced cells as the released guide's own fill.sh prints them over the translation 59319301b69204ee… (all of the seat's roots in one cut). By AI agents, Wed Nov 11 2026. No macro, syntax, notation, axiom, sorry.
-/
import Derived.Test.YtedamhkcblemdaaChecked
import GoSem.Claim
import GoSem.ClaimJoined
import GoSem.ClaimMapViews
import Derived.JoinedTies
import Derived.KernelRfl
namespace Go.Proofs.Ytedamhkcblemdaa
/- THE CELL 'sum', in the pinned program and in every row, IS THE sha256 OF THE DUMP (.gsa) THAT YtedamhkcblemdaaProg.lean LOADS. Nothing in Lean hashes anything: it is a label: what it is worth is what the hold of that sum in a sandbox is worth. -/
noncomputable def Try.pinned : Pinned := { name := "ytedamhkcblemdaa", sum := "59319301b69204ee6f04d96dfa6d153d7a26f63528472fca727b46489b8c1e0d", checked := Try.checked }
namespace Rows
def none {H : Type} : Left H := { results := [], args := [] }

/-- 'laws.FnPackRound': WHATEVER THE INPUT: true; the input reads as it did. -/
def fnPackRoundSpec : ChangeSpec := { name := "fnPackRound", fn := fun _ => fun
  | [d] => { results := [.lit (.bool true)], args := [d] }
  | _ => none }
def fnPackRoundRow : OpenClaim := { program := "ytedamhkcblemdaa", sum := "59319301b69204ee6f04d96dfa6d153d7a26f63528472fca727b46489b8c1e0d", func := "loop.example/g03311/laws.FnPackRound", spec := "fnPackRound", unfollowed := true, recurses := true, plainKeys := false, apart := false }
def FnPackRoundSaid : Prop := fnPackRoundRow.holds Try.pinned (OpenSpec.ofChange fnPackRoundSpec)

/-- ITS FALSE NEIGHBOUR: 'it returns false'. Refute it at one input. -/
def fnPackRoundWrong : ChangeSpec := { name := "fnPackRound", fn := fun _ => fun
  | [d] => { results := [.lit (.bool false)], args := [d] }
  | _ => none }
def FnPackRoundWrongFalsely : Prop := fnPackRoundRow.holds Try.pinned (OpenSpec.ofChange fnPackRoundWrong)

/-- 'laws.FnExactPackBits': WHATEVER THE INPUT: true; the input reads as it did. -/
def fnExactPackBitsSpec : ChangeSpec := { name := "fnExactPackBits", fn := fun _ => fun
  | [d1, d2] => { results := [.lit (.bool true)], args := [d1, d2] }
  | _ => none }
def fnExactPackBitsRow : OpenClaim := { program := "ytedamhkcblemdaa", sum := "59319301b69204ee6f04d96dfa6d153d7a26f63528472fca727b46489b8c1e0d", func := "loop.example/g03311/laws.FnExactPackBits", spec := "fnExactPackBits", unfollowed := true, recurses := true, plainKeys := false, apart := false }
def FnExactPackBitsSaid : Prop := fnExactPackBitsRow.holds Try.pinned (OpenSpec.ofChange fnExactPackBitsSpec)

/-- ITS FALSE NEIGHBOUR: 'it returns false'. Refute it at one input. -/
def fnExactPackBitsWrong : ChangeSpec := { name := "fnExactPackBits", fn := fun _ => fun
  | [d1, d2] => { results := [.lit (.bool false)], args := [d1, d2] }
  | _ => none }
def FnExactPackBitsWrongFalsely : Prop := fnExactPackBitsRow.holds Try.pinned (OpenSpec.ofChange fnExactPackBitsWrong)

/-- 'laws.FnExactUnpackBits': WHATEVER THE INPUT: true; the input reads as it did. -/
def fnExactUnpackBitsSpec : ChangeSpec := { name := "fnExactUnpackBits", fn := fun _ => fun
  | [d1, d2] => { results := [.lit (.bool true)], args := [d1, d2] }
  | _ => none }
def fnExactUnpackBitsRow : OpenClaim := { program := "ytedamhkcblemdaa", sum := "59319301b69204ee6f04d96dfa6d153d7a26f63528472fca727b46489b8c1e0d", func := "loop.example/g03311/laws.FnExactUnpackBits", spec := "fnExactUnpackBits", unfollowed := true, recurses := true, plainKeys := false, apart := false }
def FnExactUnpackBitsSaid : Prop := fnExactUnpackBitsRow.holds Try.pinned (OpenSpec.ofChange fnExactUnpackBitsSpec)

/-- ITS FALSE NEIGHBOUR: 'it returns false'. Refute it at one input. -/
def fnExactUnpackBitsWrong : ChangeSpec := { name := "fnExactUnpackBits", fn := fun _ => fun
  | [d1, d2] => { results := [.lit (.bool false)], args := [d1, d2] }
  | _ => none }
def FnExactUnpackBitsWrongFalsely : Prop := fnExactUnpackBitsRow.holds Try.pinned (OpenSpec.ofChange fnExactUnpackBitsWrong)

/-- 'laws.FnHashRuns': WHATEVER THE INPUT: true; the input reads as it did. -/
def fnHashRunsSpec : ChangeSpec := { name := "fnHashRuns", fn := fun _ => fun
  | [d] => { results := [.lit (.bool true)], args := [d] }
  | _ => none }
def fnHashRunsRow : OpenClaim := { program := "ytedamhkcblemdaa", sum := "59319301b69204ee6f04d96dfa6d153d7a26f63528472fca727b46489b8c1e0d", func := "loop.example/g03311/laws.FnHashRuns", spec := "fnHashRuns", unfollowed := true, recurses := true, plainKeys := false, apart := false }
def FnHashRunsSaid : Prop := fnHashRunsRow.holds Try.pinned (OpenSpec.ofChange fnHashRunsSpec)

/-- ITS FALSE NEIGHBOUR: 'it returns false'. Refute it at one input. -/
def fnHashRunsWrong : ChangeSpec := { name := "fnHashRuns", fn := fun _ => fun
  | [d] => { results := [.lit (.bool false)], args := [d] }
  | _ => none }
def FnHashRunsWrongFalsely : Prop := fnHashRunsRow.holds Try.pinned (OpenSpec.ofChange fnHashRunsWrong)

/-- 'laws.FnHashAgain': WHATEVER THE INPUT: true; the input reads as it did. -/
def fnHashAgainSpec : ChangeSpec := { name := "fnHashAgain", fn := fun _ => fun
  | [d] => { results := [.lit (.bool true)], args := [d] }
  | _ => none }
def fnHashAgainRow : OpenClaim := { program := "ytedamhkcblemdaa", sum := "59319301b69204ee6f04d96dfa6d153d7a26f63528472fca727b46489b8c1e0d", func := "loop.example/g03311/laws.FnHashAgain", spec := "fnHashAgain", unfollowed := true, recurses := true, plainKeys := false, apart := false }
def FnHashAgainSaid : Prop := fnHashAgainRow.holds Try.pinned (OpenSpec.ofChange fnHashAgainSpec)

/-- ITS FALSE NEIGHBOUR: 'it returns false'. Refute it at one input. -/
def fnHashAgainWrong : ChangeSpec := { name := "fnHashAgain", fn := fun _ => fun
  | [d] => { results := [.lit (.bool false)], args := [d] }
  | _ => none }
def FnHashAgainWrongFalsely : Prop := fnHashAgainRow.holds Try.pinned (OpenSpec.ofChange fnHashAgainWrong)

/-- 'laws.FnExactHash': WHATEVER THE INPUT: true; the input reads as it did. -/
def fnExactHashSpec : ChangeSpec := { name := "fnExactHash", fn := fun _ => fun
  | [d] => { results := [.lit (.bool true)], args := [d] }
  | _ => none }
def fnExactHashRow : OpenClaim := { program := "ytedamhkcblemdaa", sum := "59319301b69204ee6f04d96dfa6d153d7a26f63528472fca727b46489b8c1e0d", func := "loop.example/g03311/laws.FnExactHash", spec := "fnExactHash", unfollowed := true, recurses := true, plainKeys := false, apart := false }
def FnExactHashSaid : Prop := fnExactHashRow.holds Try.pinned (OpenSpec.ofChange fnExactHashSpec)

/-- ITS FALSE NEIGHBOUR: 'it returns false'. Refute it at one input. -/
def fnExactHashWrong : ChangeSpec := { name := "fnExactHash", fn := fun _ => fun
  | [d] => { results := [.lit (.bool false)], args := [d] }
  | _ => none }
def FnExactHashWrongFalsely : Prop := fnExactHashRow.holds Try.pinned (OpenSpec.ofChange fnExactHashWrong)

/-- 'laws.FnExactSweep': WHATEVER THE INPUT: true; the input reads as it did. -/
def fnExactSweepSpec : ChangeSpec := { name := "fnExactSweep", fn := fun _ => fun
  | [d] => { results := [.lit (.bool true)], args := [d] }
  | _ => none }
def fnExactSweepRow : OpenClaim := { program := "ytedamhkcblemdaa", sum := "59319301b69204ee6f04d96dfa6d153d7a26f63528472fca727b46489b8c1e0d", func := "loop.example/g03311/laws.FnExactSweep", spec := "fnExactSweep", unfollowed := true, recurses := true, plainKeys := false, apart := false }
def FnExactSweepSaid : Prop := fnExactSweepRow.holds Try.pinned (OpenSpec.ofChange fnExactSweepSpec)

/-- ITS FALSE NEIGHBOUR: 'it returns false'. Refute it at one input. -/
def fnExactSweepWrong : ChangeSpec := { name := "fnExactSweep", fn := fun _ => fun
  | [d] => { results := [.lit (.bool false)], args := [d] }
  | _ => none }
def FnExactSweepWrongFalsely : Prop := fnExactSweepRow.holds Try.pinned (OpenSpec.ofChange fnExactSweepWrong)

/- THE SECOND FORM. 'bulk': how many values and letters a reading holds, each counted each time it is reached (what is shared counts as often as it is met; a slice's spare places count too). A statement '..UptoSaid' is the law's where the arguments, and the package variables that the reading takes, are together of bulk at most 1048576: NARROWER than '..Said'. Prove '..Said' where nothing that the law and all that it calls make is longer than what came in: it says more and counts as full. Else prove '..UptoSaid'. A law counts once. -/
mutual
def uptoBulk {H : Type} : DataW H → Nat
  | .lit (.string bytes) => bytes.length + 1
  | .lit _ => 1
  | .nil => 1
  | .ptr d => uptoBulk d + 1
  | .slice elems spare => uptoBulkAll elems + uptoBulkAll spare + 1
  | .agg parts => uptoBulkAll parts + 1
  | .iface _ d => uptoBulk d + 1
  | .map entries => uptoBulkEntries entries + 1
  | .held _ => 1
def uptoBulkAll {H : Type} : List (DataW H) → Nat
  | [] => 0
  | d :: r => uptoBulk d + uptoBulkAll r
def uptoBulkEntries {H : Type} : List (Lit × DataW H) → Nat
  | [] => 0
  | x :: r => uptoBulkEntry x + uptoBulkEntries r
def uptoBulkEntry {H : Type} : Lit × DataW H → Nat
  | (.string bytes, d) => bytes.length + uptoBulk d + 1
  | (_, d) => uptoBulk d + 1
 end
def uptoSmall : (H : Type) → List (DataW H) → Bool := fun _ ds => decide (uptoBulkAll ds ≤ 1048576)
def OpenSpec.upto (s : _root_.Go.ChangeSpec) : _root_.Go.OpenSpec := { _root_.Go.OpenSpec.ofChange s with cond := some uptoSmall }

/-- 'laws.FnPackRound', WHERE WHAT IT READS IS OF BULK AT MOST 1048576: true; the input reads as it did. -/
def fnPackRoundUptoRow : OpenClaim := { program := "ytedamhkcblemdaa", sum := "59319301b69204ee6f04d96dfa6d153d7a26f63528472fca727b46489b8c1e0d", func := "loop.example/g03311/laws.FnPackRound", spec := "fnPackRound", unfollowed := true, recurses := true, plainKeys := false, apart := false, narrowed := true }
def FnPackRoundUptoSaid : Prop := fnPackRoundUptoRow.holds Try.pinned (OpenSpec.upto fnPackRoundSpec)

/-- 'laws.FnExactPackBits', WHERE WHAT IT READS IS OF BULK AT MOST 1048576: true; the input reads as it did. -/
def fnExactPackBitsUptoRow : OpenClaim := { program := "ytedamhkcblemdaa", sum := "59319301b69204ee6f04d96dfa6d153d7a26f63528472fca727b46489b8c1e0d", func := "loop.example/g03311/laws.FnExactPackBits", spec := "fnExactPackBits", unfollowed := true, recurses := true, plainKeys := false, apart := false, narrowed := true }
def FnExactPackBitsUptoSaid : Prop := fnExactPackBitsUptoRow.holds Try.pinned (OpenSpec.upto fnExactPackBitsSpec)

/-- 'laws.FnExactUnpackBits', WHERE WHAT IT READS IS OF BULK AT MOST 1048576: true; the input reads as it did. -/
def fnExactUnpackBitsUptoRow : OpenClaim := { program := "ytedamhkcblemdaa", sum := "59319301b69204ee6f04d96dfa6d153d7a26f63528472fca727b46489b8c1e0d", func := "loop.example/g03311/laws.FnExactUnpackBits", spec := "fnExactUnpackBits", unfollowed := true, recurses := true, plainKeys := false, apart := false, narrowed := true }
def FnExactUnpackBitsUptoSaid : Prop := fnExactUnpackBitsUptoRow.holds Try.pinned (OpenSpec.upto fnExactUnpackBitsSpec)

/-- 'laws.FnHashRuns', WHERE WHAT IT READS IS OF BULK AT MOST 1048576: true; the input reads as it did. -/
def fnHashRunsUptoRow : OpenClaim := { program := "ytedamhkcblemdaa", sum := "59319301b69204ee6f04d96dfa6d153d7a26f63528472fca727b46489b8c1e0d", func := "loop.example/g03311/laws.FnHashRuns", spec := "fnHashRuns", unfollowed := true, recurses := true, plainKeys := false, apart := false, narrowed := true }
def FnHashRunsUptoSaid : Prop := fnHashRunsUptoRow.holds Try.pinned (OpenSpec.upto fnHashRunsSpec)

/-- 'laws.FnHashAgain', WHERE WHAT IT READS IS OF BULK AT MOST 1048576: true; the input reads as it did. -/
def fnHashAgainUptoRow : OpenClaim := { program := "ytedamhkcblemdaa", sum := "59319301b69204ee6f04d96dfa6d153d7a26f63528472fca727b46489b8c1e0d", func := "loop.example/g03311/laws.FnHashAgain", spec := "fnHashAgain", unfollowed := true, recurses := true, plainKeys := false, apart := false, narrowed := true }
def FnHashAgainUptoSaid : Prop := fnHashAgainUptoRow.holds Try.pinned (OpenSpec.upto fnHashAgainSpec)

/-- 'laws.FnExactHash', WHERE WHAT IT READS IS OF BULK AT MOST 1048576: true; the input reads as it did. -/
def fnExactHashUptoRow : OpenClaim := { program := "ytedamhkcblemdaa", sum := "59319301b69204ee6f04d96dfa6d153d7a26f63528472fca727b46489b8c1e0d", func := "loop.example/g03311/laws.FnExactHash", spec := "fnExactHash", unfollowed := true, recurses := true, plainKeys := false, apart := false, narrowed := true }
def FnExactHashUptoSaid : Prop := fnExactHashUptoRow.holds Try.pinned (OpenSpec.upto fnExactHashSpec)

/-- 'laws.FnExactSweep', WHERE WHAT IT READS IS OF BULK AT MOST 1048576: true; the input reads as it did. -/
def fnExactSweepUptoRow : OpenClaim := { program := "ytedamhkcblemdaa", sum := "59319301b69204ee6f04d96dfa6d153d7a26f63528472fca727b46489b8c1e0d", func := "loop.example/g03311/laws.FnExactSweep", spec := "fnExactSweep", unfollowed := true, recurses := true, plainKeys := false, apart := false, narrowed := true }
def FnExactSweepUptoSaid : Prop := fnExactSweepUptoRow.holds Try.pinned (OpenSpec.upto fnExactSweepSpec)

end Rows
end Go.Proofs.Ytedamhkcblemdaa
