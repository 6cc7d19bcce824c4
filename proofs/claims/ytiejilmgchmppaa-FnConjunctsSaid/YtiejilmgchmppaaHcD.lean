/-
  A net of one's own is read; what AddAnd leaves as it was.
-/
import Derived.Test.YtiejilmgchmppaaHcC
namespace Go.Proofs.Ytiejilmgchmppaa
open Go.RowKit
set_option linter.unusedVariables false
set_option linter.unusedSimpArgs false

theorem NetG.rd {B : Nat} {w : World} {v1 vA v3 : Value} {rows : List V3} {bs : List Nat} {n : DNet} (h : NetG B w v1 vA v3 rows bs n) : rdNet B w.heap.size w [.int .i64 n.1, v1, vA, v3] n :=
  ⟨_, _, _, _, rfl, ⟨rfl, h.fit⟩, h.s.rd fV3_len rds_Seq gow_Seq, h.a.rd fAnd_len rds_And gow_And, h.o.rd fInt_len owInt_rds owInt_good⟩
theorem NetG.rd0 {B : Nat} {w : World} {v1 vA v3 : Value} {rows : List V3} {bs : List Nat} {n : DNet} (h : NetG B w v1 vA v3 rows bs n) : rdNet 0 w.heap.size w [.int .i64 n.1, v1, vA, v3] n :=
  good_Net.wider h.rd (Nat.zero_le _) (Nat.le_refl _)
theorem andO_parts {n : DNet} {a b : Int} : (andO n a b).1.1 = n.1 ∧ (andO n a b).1.2.1 = n.2.1 ∧ (andO n a b).1.2.2.2 = n.2.2.2 ∧ (andO n a b).1.2.2.1.length ≤ n.2.2.1.length + 1 := by
  unfold andO
  split
  · exact ⟨rfl, rfl, rfl, by dsimp only; omega⟩
  split
  · exact ⟨rfl, rfl, rfl, by dsimp only; omega⟩
  split
  · exact ⟨rfl, rfl, rfl, by dsimp only; omega⟩
  split
  · exact ⟨rfl, rfl, rfl, by dsimp only; omega⟩
  split
  · exact ⟨rfl, rfl, rfl, by dsimp only; omega⟩
  · split
    · exact ⟨rfl, rfl, rfl, by dsimp only; omega⟩
    · exact ⟨rfl, rfl, rfl, by unfold addN; simp⟩
section
variable {w0 w w' : World} {F G : Nat} {v1 vA v3 o0 o1 o2 o3 : Value} {rows : List V3} {bs : List Nat} {n : DNet}
theorem CopyAt.over (h0 : BoxN w G o0 o1 o2 o3) (hr : BoxN w F (.int .i64 0) vNil vNil vNil) (hn : NetG (w0.heap.size + 2) w v1 vA v3 rows bs n) (off : ∀ b ∈ blkL v1 ++ (bs ++ (blkL vA ++ blkL v3)), b ≠ G) (hb : Below w0.heap.size w0 w) (hF : w0.heap.size ≤ F) (hF2 : F < w0.heap.size + 2) (hG : w0.heap.size + 2 ≤ G) :
    CopyAt w0 ((((w.setCell ⟨G, 0, none⟩ (.int .i64 n.1)).setCell ⟨G, 1, none⟩ v1).setCell ⟨G, 2, none⟩ vA).setCell ⟨G, 3, none⟩ v3) F G v1 vA v3 rows bs n := by
  have hle : w0.heap.size ≤ G := by omega
  refine ⟨(((h0.set0 _).set1 _).set2 _).set3 _, hr.at (far4 (by omega)), hn.at fun b h1 h2 h3 => far4 (off b h3), off, bSet (bSet (bSet (bSet hb (p := ⟨G, 0, none⟩) hle (.int .i64 n.1)) (p := ⟨G, 1, none⟩) hle v1) (p := ⟨G, 2, none⟩) hle vA) (p := ⟨G, 3, none⟩) hle v3, hF, hF2, hG⟩
end
end Go.Proofs.Ytiejilmgchmppaa
