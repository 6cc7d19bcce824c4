/-
  Net5, Net6, Net7, Net8 as one text.
-/
import Derived.Test.YtiejilmgchmppaaNeA
import Derived.Deep.RegionHeld3
/- Net5: Roots, both sides; the nodes of the roots. -/
namespace Go.Proofs.Ytiejilmgchmppaa
open Go.RowKit
set_option linter.unusedVariables false
set_option linter.unusedSimpArgs false

def rootsO (n : DNet) : List Int := if netB n then rootsL n else []
theorem net_parts {n : DNet} (h : netB n = true) : sizesB n = true ∧ n.2.1.all seqB = true := by
  unfold netB at h
  simp only [Bool.and_eq_true] at h
  exact ⟨h.1, h.2.1⟩
theorem rootsO_in {n : DNet} {us : List Value} {B T : Nat} {w : World} (h : rdNet B T w us n) : ∀ x ∈ rootsO n, Fit x := by
  unfold rootsO
  split
  · exact roots_fit h
  · simp
theorem rootsO_len (n : DNet) : (rootsO n).length ≤ 64 := by
  unfold rootsO
  split
  · rename_i h; exact (netP_of h).roots_le
  · simp
/-- The nodes of literals. -/
def nodesL (R : List Int) : List Int := R.map fun r => ((r.toNat / 2 : Nat) : Int)
theorem nodes_step {R : List Int} {k x : Nat} (h : R[k]? = some (x : Int)) : nodesL (R.take (k + 1)) = nodesL (R.take k) ++ [((x / 2 : Nat) : Int)] := by
  unfold nodesL; rw [List.take_add_one, h, List.map_append]; simp
theorem nodes_len (R : List Int) : (nodesL R).length = R.length := by unfold nodesL; simp

end Go.Proofs.Ytiejilmgchmppaa
/- Net6: levels: the program. -/
namespace Go.Proofs.Ytiejilmgchmppaa
open Go.RowKit
set_option linter.unusedVariables false
set_option linter.unusedSimpArgs false

theorem andNode_to (n : DNet) (k : Nat) (us : List Value) {B T : Nat} (w : World) (h : rdNet B T w us n) (hT : T ≤ w.heap.size) (hS : SizeP n) (hk : k ≤ 300) {f : Nat} (hf : firN n + k = f) :
    Calls Try.prog 31 #[.agg us.toArray, .int .i64 (k : Int)] w fun e w' => e = .returned (.int .i64 (f : Int)) ∧ Below w.heap.size w w' := by
  subst hf; exact andNode_at n k us w h hT hS hk
theorem nodeOf_to (l : Nat) (w : World) (hl : l ≤ 9223372036854775807) {p : Nat} (hp : l / 2 = p) :
    Calls Try.prog 35 #[.int .i64 (l : Int)] w fun e w' => e = .returned (.int .i64 (p : Int)) ∧ Below w.heap.size w w' := by
  subst hp; exact nodeOf_at l w hl
end Go.Proofs.Ytiejilmgchmppaa
/- Net7: Levels, both sides. -/
namespace Go.Proofs.Ytiejilmgchmppaa
open Go.RowKit
set_option linter.unusedVariables false
set_option linter.unusedSimpArgs false

theorem lev_no {n : DNet} (h : netB n = false) : levO n = [] := by unfold levO; rw [h]; rfl
theorem lev_yes {n : DNet} (h : netB n = true) : levO n = levK n n.2.2.1.length := by unfold levO; rw [if_pos h]
end Go.Proofs.Ytiejilmgchmppaa
/- Net8: Depth, both sides. -/
namespace Go.Proofs.Ytiejilmgchmppaa
open Go.RowKit
set_option linter.unusedVariables false
set_option linter.unusedSimpArgs false

end Go.Proofs.Ytiejilmgchmppaa
