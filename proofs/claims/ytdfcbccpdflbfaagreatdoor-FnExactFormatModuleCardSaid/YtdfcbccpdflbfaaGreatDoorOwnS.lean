/-
  A slice of texts that the call itself owns.
-/
import Derived.Test.YtdfcbccpdflbfaaGreatDoorRows
import Derived.WalkKit
import Derived.WalkSpells
import Derived.WalkLawsBesides
namespace Go.Proofs.YtdfcbccpdflbfaaGreatDoor
open Go.RowKit

/-- A row that is owned stays owned where every block that lies there stays. -/
theorem own_below {w w' : World} {B e size n : Nat} {v : Value} {xs : List Value} (h : w.ownsRow B e size v n xs) (hb : Below w.heap.size w w') : w'.ownsRow B e size v n xs :=
  h.kept (row := none) ⟨hb.os, hb.tape, hb.output, hb.size, fun k hk _ => hb.block k hk⟩ (by cases v.ownBlock <;> simp)

/-- The slice value v owns the texts L. -/
def OwnsS (w : World) (B : Nat) (v : Value) (L : List ByteArray) : Prop := w.ownsRow B 9 1 v L.length (L.map Value.string)
theorem OwnsS.below {w w' : World} {B : Nat} {v : Value} {L : List ByteArray} (h : OwnsS w B v L) (hb : Below w.heap.size w w') : OwnsS w' B v L := own_below h hb
theorem OwnsS.shape {w : World} {B : Nat} {v : Value} {L : List ByteArray} (h : OwnsS w B v L) : ∃ A c, v = .slice A L.length c ∧ ∀ j, j < L.length → ∃ g, A = some ⟨g, 0, none⟩ ∧ w.cell? ⟨g, j, none⟩ = some (.string (L[j]?.getD ⟨#[]⟩)) ∧ w.frozen? ⟨g, j, none⟩ = false := by
  rcases h.2 with ⟨rfl, h0⟩ | ⟨g, cap, cur, rfl, _⟩
  · exact ⟨none, 0, by rw [h0], fun j hj => absurd hj (by omega)⟩
  · refine ⟨some ⟨g, 0, none⟩, cap, rfl, fun j hj => ⟨g, rfl, ?_, h.frozenAt j⟩⟩
    rw [h.cellAt j (by omega)]
    simp [List.getElem?_eq_getElem hj]

end Go.Proofs.YtdfcbccpdflbfaaGreatDoor
