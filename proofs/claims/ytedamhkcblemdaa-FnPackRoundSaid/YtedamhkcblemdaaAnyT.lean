/-
  Scans of lists.
-/
import Derived.Test.YtedamhkcblemdaaOwN
namespace Go.Proofs.Ytedamhkcblemdaa
open Go.RowKit
set_option linter.unusedVariables false
set_option linter.unusedSimpArgs false
/-- Some of the first i elements is such. -/
def AnyT {α : Type} (f : α → Bool) (L : List α) (i : Nat) : Bool := (L.take i).any f
theorem any_hit {α : Type} {f : α → Bool} {L : List α} {i : Nat} {x : α} (h : L[i]? = some x) (hx : f x = true) : L.any f = true := by
  rw [List.any_eq_true]; exact ⟨x, List.mem_of_getElem? h, hx⟩
theorem any_step {α : Type} {f : α → Bool} {L : List α} {i : Nat} {x : α} (h : L[i]? = some x) (hx : f x = false) (h0 : AnyT f L i = false) : AnyT f L (i + 1) = false := by
  unfold AnyT at h0 ⊢; rw [List.take_add_one, h, List.any_append, h0]; simp [hx]
theorem any_end {α : Type} {f : α → Bool} {L : List α} (h : AnyT f L L.length = false) : L.any f = false := by
  unfold AnyT at h; rwa [List.take_length] at h
/-- Each of the first i elements is such. -/
def AllT2 {α : Type} (f : α → Bool) (L : List α) (i : Nat) : Bool := (L.take i).all f
theorem all2_zero {α : Type} (f : α → Bool) (L : List α) : AllT2 f L 0 = true := by simp [AllT2]
theorem all2_miss {α : Type} {f : α → Bool} {L : List α} {i : Nat} {x : α} (h : L[i]? = some x) (hx : f x = false) : L.all f = false := by
  rw [List.all_eq_false]; exact ⟨x, List.mem_of_getElem? h, by simp [hx]⟩
theorem all2_step {α : Type} {f : α → Bool} {L : List α} {i : Nat} {x : α} (h : L[i]? = some x) (hx : f x = true) (h0 : AllT2 f L i = true) : AllT2 f L (i + 1) = true := by
  unfold AllT2 at h0 ⊢; rw [List.take_add_one, h, List.all_append, h0]; simp [hx]
theorem all2_end {α : Type} {f : α → Bool} {L : List α} (h : AllT2 f L L.length = true) : L.all f = true := by
  unfold AllT2 at h; rwa [List.take_length] at h
end Go.Proofs.Ytedamhkcblemdaa
