/-
  Roots, both sides; the nodes of the roots.
-/
import Derived.Test.YtaebiiopommhdaaNet4
import Derived.Deep.RegionHeld3
namespace Go.Proofs.Ytaebiiopommhdaa
open Go.RowKit
set_option linter.unusedVariables false
set_option linter.unusedSimpArgs false

def rootsO (n : DNet) : List Int := if netB n then rootsL n else []
theorem net_parts {n : DNet} (h : netB n = true) : sizesB n = true ∧ n.2.1.all seqB = true := by
  unfold netB at h
  simp only [Bool.and_eq_true] at h
  exact ⟨h.1, h.2.1⟩
theorem rootsO_in {n : DNet} {us : List Value} {B T : Nat} {w : World} (h : rdNet B T w us n) : ∀ x ∈ rootsO n, Fit x := by
  unfold rootsO
  split
  · exact roots_fit h
  · simp
theorem rootsO_len (n : DNet) : (rootsO n).length ≤ 64 := by
  unfold rootsO
  split
  · rename_i h; exact (netP_of h).roots_le
  · simp
/-- The nodes of literals. -/
def nodesL (R : List Int) : List Int := R.map fun r => ((r.toNat / 2 : Nat) : Int)
theorem nodes_step {R : List Int} {k x : Nat} (h : R[k]? = some (x : Int)) : nodesL (R.take (k + 1)) = nodesL (R.take k) ++ [((x / 2 : Nat) : Int)] := by
  unfold nodesL; rw [List.take_add_one, h, List.map_append]; simp
theorem nodes_len (R : List Int) : (nodesL R).length = R.length := by unfold nodesL; simp

end Go.Proofs.Ytaebiiopommhdaa
