/-
  The value of an expression of which nothing is known: the plain part.
-/
import Derived.Test.YtmalaleinmoihaaWordMath
import Derived.Test.YtmalaleinmoihaaAtR
namespace Go.Proofs.Ytmalaleinmoihaa
open Go.RowKit
set_option linter.unusedVariables false

/-- Some of the first i elements is such. -/
def AnyT {α : Type} (f : α → Bool) (L : List α) (i : Nat) : Bool := (L.take i).any f
theorem any_hit {α : Type} {f : α → Bool} {L : List α} {i : Nat} {x : α} (h : L[i]? = some x) (hx : f x = true) : L.any f = true := by
  rw [List.any_eq_true]; exact ⟨x, List.mem_of_getElem? h, hx⟩
theorem any_step {α : Type} {f : α → Bool} {L : List α} {i : Nat} {x : α} (h : L[i]? = some x) (hx : f x = false) (h0 : AnyT f L i = false) : AnyT f L (i + 1) = false := by
  unfold AnyT at h0 ⊢; rw [List.take_add_one, h, List.any_append, h0]; simp [hx]
theorem any_end {α : Type} {f : α → Bool} {L : List α} (h : AnyT f L L.length = false) : L.any f = false := by
  unfold AnyT at h; rwa [List.take_length] at h
/-- Each of the first i elements is such. -/
def AllT2 {α : Type} (f : α → Bool) (L : List α) (i : Nat) : Bool := (L.take i).all f
theorem all2_zero {α : Type} (f : α → Bool) (L : List α) : AllT2 f L 0 = true := by simp [AllT2]
theorem all2_miss {α : Type} {f : α → Bool} {L : List α} {i : Nat} {x : α} (h : L[i]? = some x) (hx : f x = false) : L.all f = false := by
  rw [List.all_eq_false]; exact ⟨x, List.mem_of_getElem? h, by simp [hx]⟩
theorem all2_step {α : Type} {f : α → Bool} {L : List α} {i : Nat} {x : α} (h : L[i]? = some x) (hx : f x = true) (h0 : AllT2 f L i = true) : AllT2 f L (i + 1) = true := by
  unfold AllT2 at h0 ⊢; rw [List.take_add_one, h, List.all_append, h0]; simp [hx]
theorem all2_end {α : Type} {f : α → Bool} {L : List α} (h : AllT2 f L L.length = true) : L.all f = true := by
  unfold AllT2 at h; rwa [List.take_length] at h

def val15 (x : Int) : Bool := decide (0 ≤ x ∧ x ≤ 15)
def notPar (o : DOp) : Bool := !decide (o.1 = 1)
def exprB (L : List DOp) (V : List Int) (k : Int) : Bool := decide (V.length ≤ 30) && opsB V.length L && decide (1 ≤ k ∧ k ≤ 4) && V.all val15 && L.all notPar
/-- What ExprValue answers. -/
def exprE (L : List DOp) (V : List Int) (k : Int) : Int := if exprB L V k then exprV L V k.toNat else -1
section
variable {L : List DOp} {V : List Int} {k r : Int}
theorem exprE_no (hr : exprE L V k = r) (h : exprB L V k = false) : r = -1 := by rw [← hr]; unfold exprE; rw [h]; rfl
theorem exprB_1 (h : ¬ V.length ≤ 30) : exprB L V k = false := by unfold exprB; rw [decide_eq_false h]; rfl
theorem exprB_2 (h : opsB V.length L = false) : exprB L V k = false := by unfold exprB; rw [h]; simp
theorem exprB_3 (h : decide (1 ≤ k ∧ k ≤ 4) = false) : exprB L V k = false := by unfold exprB; rw [h]; simp
theorem exprB_4 (h : V.all val15 = false) : exprB L V k = false := by unfold exprB; rw [h]; simp
theorem exprB_5 (h : L.all notPar = false) : exprB L V k = false := by unfold exprB; rw [h]; simp
theorem exprE_yes {W : Nat} (hr : exprE L V (W : Int) = r) (h1 : V.length ≤ 30) (h2 : opsB V.length L = true) (h3 : 1 ≤ W ∧ W ≤ 4) (h4 : V.all val15 = true) (h5 : L.all notPar = true) : exprV L V W = r ∧ ValsIn V ∧ OpsIn V.length L := by
  refine ⟨?_, ⟨h1, fun x hx => ?_⟩, opsIn_of h2 h5⟩
  · rw [← hr]; unfold exprE exprB
    rw [decide_eq_true h1, h2, decide_eq_true (by omega : 1 ≤ (W : Int) ∧ (W : Int) ≤ 4), h4, h5]; rfl
  · have := List.all_eq_true.1 h4 x hx
    unfold val15 at this
    rwa [decide_eq_true_eq] at this
end
end Go.Proofs.Ytmalaleinmoihaa
