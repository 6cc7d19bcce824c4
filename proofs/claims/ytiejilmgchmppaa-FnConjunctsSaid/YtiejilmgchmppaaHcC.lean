/-
  Gates of gates: helpers.
-/
import Derived.Test.YtiejilmgchmppaaHcP
import Derived.Test.YtiejilmgchmppaaFork
namespace Go.Proofs.Ytiejilmgchmppaa
open Go.RowKit
set_option linter.unusedVariables false
set_option linter.unusedSimpArgs false

theorem notI_fit {a : Int} (h : Fit a) : Fit (notI a) := by
  unfold Fit at h ⊢
  unfold notI
  split
  · omega
  · split <;> omega
theorem andO_small {n : DNet} {a b : Int} : -1 ≤ (andO n a b).2 ∧ (andO n a b).2 < 3000000 := by
  by_cases h : netB n = true ∧ litB (ncI n) a = true ∧ litB (ncI n) b = true
  · have hP := netP_of h.1
    have hN := hP.sz.net_le
    have hl := hP.sz.a300
    have hfn : netN n = firN n + n.2.2.1.length := rfl
    obtain ⟨p, rfl, hp, -⟩ := lit_of (hP.sz.nc ▸ h.2.1)
    obtain ⟨q, rfl, hq, -⟩ := lit_of (hP.sz.nc ▸ h.2.2)
    unfold andO
    rw [if_neg (fun c => c h)]
    split
    · dsimp only; omega
    split
    · dsimp only; omega
    split
    · dsimp only; omega
    split
    · rename_i i hi
      have h2 := (idxG_some hi).2.1
      have h3 := (List.getElem?_eq_some_iff.1 h2).1
      dsimp only; omega
    · split
      · dsimp only; omega
      · dsimp only; omega
  · rw [andA_bad h]; dsimp only; omega
section
variable {w0 w w' : World} {F G : Nat} {v1 vA v3 : Value} {rows : List V3} {bs : List Nat} {n : DNet}
theorem CopyAt.stored (h0 : BoxN w G (.int .i64 0) vNil vNil vNil) (hr : BoxN w F (.int .i64 0) vNil vNil vNil) (hn : NetG (w0.heap.size + 2) w v1 vA v3 rows bs n) (off : ∀ b ∈ blkL v1 ++ (bs ++ (blkL vA ++ blkL v3)), b ≠ G) (hb : Below w0.heap.size w0 w) (hF : w0.heap.size ≤ F) (hF2 : F < w0.heap.size + 2) (hG : w0.heap.size + 2 ≤ G) :
    CopyAt w0 ((((w.setCell ⟨G, 0, none⟩ (.int .i64 n.1)).setCell ⟨G, 1, none⟩ v1).setCell ⟨G, 2, none⟩ vA).setCell ⟨G, 3, none⟩ v3) F G v1 vA v3 rows bs n := by
  have hle : w0.heap.size ≤ G := by omega
  refine ⟨(((h0.set0 _).set1 _).set2 _).set3 _, hr.at (far4 (by omega)), hn.at fun b h1 h2 h3 => far4 (off b h3), off, bSet (bSet (bSet (bSet hb (p := ⟨G, 0, none⟩) hle (.int .i64 n.1)) (p := ⟨G, 1, none⟩) hle v1) (p := ⟨G, 2, none⟩) hle vA) (p := ⟨G, 3, none⟩) hle v3, hF, hF2, hG⟩
end
end Go.Proofs.Ytiejilmgchmppaa
