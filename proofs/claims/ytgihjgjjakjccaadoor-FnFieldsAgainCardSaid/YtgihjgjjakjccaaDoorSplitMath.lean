/-
  Plain facts on the fields of a line: what one pass over its bytes collects.
-/
import Derived.Test.YtgihjgjjakjccaaDoorHexMath
namespace Go.Proofs.YtgihjgjjakjccaaDoor
open Go.RowKit

/-- What is collected at position k where the field began at b. -/
def addF (s : ByteArray) (o : List ByteArray) (b k : Nat) : List ByteArray := if b < k then o ++ [s.extract b k] else o
/-- One byte: a space ends a field. -/
def stepF (s : ByteArray) (st : List ByteArray × Nat) (k : Nat) : List ByteArray × Nat :=
  if (s.data.toList.getD k 0).toNat = 32 then (addF s st.1 st.2 k, k + 1) else st
/-- The state behind the first k bytes. -/
def stF (s : ByteArray) : Nat → List ByteArray × Nat
  | 0 => ([], 0)
  | k + 1 => stepF s (stF s k) k
/-- All fields. -/
def finF (s : ByteArray) : List ByteArray := addF s (stF s s.size).1 (stF s s.size).2 s.size
theorem stF_begin (s : ByteArray) : ∀ k, (stF s k).2 ≤ k
  | 0 => Nat.le_refl _
  | k + 1 => by
    have := stF_begin s k
    unfold stF stepF
    split
    · exact Nat.le_refl _
    · omega
theorem stF_len (s : ByteArray) : ∀ k, (stF s k).1.length ≤ k
  | 0 => Nat.le_refl _
  | k + 1 => by
    have := stF_len s k
    unfold stF stepF
    split
    · unfold addF
      split
      · simp; omega
      · show (stF s k).1.length ≤ k + 1; omega
    · omega
theorem finF_len (s : ByteArray) : (finF s).length ≤ s.size + 1 := by
  have := stF_len s s.size
  unfold finF addF
  split
  · simp; omega
  · omega
theorem getD_at (s : ByteArray) (k : Nat) (h : k < s.size) : s.data.toList.getD k 0 = s[k] := by
  rw [List.getD_eq_getElem?_getD, List.getElem?_eq_getElem (by simpa using h)]; rfl
theorem stF_space (s : ByteArray) (k : Nat) (h : k < s.size) (h32 : s[k].toNat = 32) : stF s (k + 1) = (addF s (stF s k).1 (stF s k).2 k, k + 1) := by
  rw [stF, stepF, getD_at s k h, if_pos h32]
theorem stF_other (s : ByteArray) (k : Nat) (h : k < s.size) (h32 : s[k].toNat ≠ 32) : stF s (k + 1) = stF s k := by
  rw [stF, stepF, getD_at s k h, if_neg h32]
/-- All bytes are printable. -/
def okF (s : ByteArray) : Prop := ∀ k, k < s.size → 32 ≤ (s.data.toList.getD k 0).toNat ∧ (s.data.toList.getD k 0).toNat ≤ 126
theorem okF_bad (s : ByteArray) (k : Nat) (h : k < s.size) (hb : s[k].toNat < 32 ∨ 126 < s[k].toNat) : ¬ okF s := fun ho => by
  have := ho k h
  rw [getD_at s k h] at this
  omega
/-- The fields and whether there are any to be returned. -/
def FieldsOf (s : ByteArray) (L : List ByteArray) (ok : Bool) : Prop :=
  (ok = true ∧ s.size ≤ 600 ∧ okF s ∧ (finF s).length ≤ 40 ∧ L = finF s) ∨ (ok = false ∧ L = [] ∧ (600 < s.size ∨ ¬ okF s ∨ 40 < (finF s).length))
theorem FieldsOf.uniq {s : ByteArray} {L L' : List ByteArray} {a b : Bool} (h : FieldsOf s L a) (k : FieldsOf s L' b) : L = L' ∧ a = b := by
  rcases h with ⟨rfl, h1, h2, h3, rfl⟩ | ⟨rfl, rfl, h⟩ <;> rcases k with ⟨rfl, k1, k2, k3, rfl⟩ | ⟨rfl, rfl, k⟩
  · exact ⟨rfl, rfl⟩
  · exfalso; rcases k with k | k | k
    · omega
    · exact k h2
    · omega
  · exfalso; rcases h with h | h | h
    · omega
    · exact h k2
    · omega
  · exact ⟨rfl, rfl⟩
theorem FieldsOf.len {s : ByteArray} {L : List ByteArray} {a : Bool} (h : FieldsOf s L a) : L.length ≤ 40 := by
  rcases h with ⟨_, _, _, h, rfl⟩ | ⟨_, rfl, _⟩
  · exact h
  · simp
theorem addF_empty (s : ByteArray) (o : List ByteArray) (b k : Nat) (h : ¬ b < k) : addF s o b k = o := if_neg h
theorem extract_size (s : ByteArray) (b k : Nat) (hk : k ≤ s.size) : (s.extract b k).size = k - b := by simp; omega
end Go.Proofs.YtgihjgjjakjccaaDoor
