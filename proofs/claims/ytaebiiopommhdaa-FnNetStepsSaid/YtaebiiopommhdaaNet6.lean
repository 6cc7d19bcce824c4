/-
  levels: the program.
-/
import Derived.Test.YtaebiiopommhdaaNet5
import Derived.Deep.RegionHeld3
namespace Go.Proofs.Ytaebiiopommhdaa
open Go.RowKit
set_option linter.unusedVariables false
set_option linter.unusedSimpArgs false

theorem andNode_to (n : DNet) (k : Nat) (us : List Value) {B T : Nat} (w : World) (h : rdNet B T w us n) (hT : T ≤ w.heap.size) (hS : SizeP n) (hk : k ≤ 300) {f : Nat} (hf : firN n + k = f) :
    Calls Try.prog 84 #[.agg us.toArray, .int .i64 (k : Int)] w fun e w' => e = .returned (.int .i64 (f : Int)) ∧ Below w.heap.size w w' := by
  subst hf; exact andNode_at n k us w h hT hS hk
theorem nodeOf_to (l : Nat) (w : World) (hl : l ≤ 9223372036854775807) {p : Nat} (hp : l / 2 = p) :
    Calls Try.prog 64 #[.int .i64 (l : Int)] w fun e w' => e = .returned (.int .i64 (p : Int)) ∧ Below w.heap.size w w' := by
  subst hp; exact nodeOf_at l w hl
end Go.Proofs.Ytaebiiopommhdaa
