/-
  Numbered data; cells behind stores.
-/
import Derived.Test.YtllddjkdjdohhaaOwn
namespace Go.Proofs.Ytllddjkdjdohhaa
open Go.RowKit
set_option linter.unusedVariables false
section
variable {α : Type} (nu : Int → α → α) (cn : α → Nat)
/-- The elements numbered one behind the other. -/
def numG : Int → List α → List α
  | _, [] => []
  | k, x :: xs => nu k x :: numG (k + (cn x : Int)) xs
def cntG (L : List α) : Nat := (L.map cn).sum
theorem numG_len : ∀ (L : List α) (k : Int), (numG nu cn k L).length = L.length
  | [], _ => rfl
  | x :: xs, k => by unfold numG; rw [List.length_cons, List.length_cons, numG_len xs]
theorem numG_append : ∀ (L M : List α) (k : Int), numG nu cn k (L ++ M) = numG nu cn k L ++ numG nu cn (k + (cntG cn L : Int)) M
  | [], M, k => by simp [numG, cntG]
  | x :: xs, M, k => by
    have h := numG_append xs M (k + (cn x : Int))
    have e : (k + (cn x : Int)) + (cntG cn xs : Int) = k + (cntG cn (x :: xs) : Int) := by unfold cntG; rw [List.map_cons, List.sum_cons]; omega
    rw [e] at h
    show nu k x :: numG nu cn (k + (cn x : Int)) (xs ++ M) = _
    rw [h]; rfl
theorem numG_snoc (L : List α) (i : Nat) (x : α) (k : Int) (h : L[i]? = some x) : numG nu cn k (L.take (i + 1)) = numG nu cn k (L.take i) ++ [nu (k + (cntG cn (L.take i) : Int)) x] := by
  rw [List.take_add_one, h]
  show numG nu cn k (L.take i ++ [x]) = _
  rw [numG_append]; rfl
theorem numG_set (L : List α) (i : Nat) (x : α) (k : Int) (h : L[i]? = some x) :
    (numG nu cn k (L.take i) ++ L.drop i).set i (nu (k + (cntG cn (L.take i) : Int)) x) = numG nu cn k (L.take (i + 1)) ++ L.drop (i + 1) := by
  have hi : i < L.length := (List.getElem?_eq_some_iff.1 h).1
  have hl : (numG nu cn k (L.take i)).length = i := by rw [numG_len, List.length_take]; omega
  rw [List.set_append_right _ _ (by omega), hl, Nat.sub_self, List.drop_eq_getElem_cons hi, List.set_cons_zero, numG_snoc nu cn L i x k h, List.append_assoc]; rfl
theorem numG_mid (L : List α) (i : Nat) (x : α) (k : Int) (h : L[i]? = some x) : (numG nu cn k (L.take i) ++ L.drop i)[i]? = some x := by
  have hi : i < L.length := (List.getElem?_eq_some_iff.1 h).1
  have hl : (numG nu cn k (L.take i)).length = i := by rw [numG_len, List.length_take]; omega
  rw [List.getElem?_append_right (by omega), hl, Nat.sub_self, List.getElem?_drop]; simpa using h
theorem numG_get (L : List α) (i : Nat) (x : α) (k : Int) (h : L[i]? = some x) : (numG nu cn k L)[i]? = some (nu (k + (cntG cn (L.take i) : Int)) x) := by
  have hi : i < L.length := (List.getElem?_eq_some_iff.1 h).1
  have hl : (numG nu cn k (L.take (i + 1))).length = i + 1 := by rw [numG_len, List.length_take]; omega
  have e : numG nu cn k L = numG nu cn k (L.take (i + 1)) ++ numG nu cn (k + (cntG cn (L.take (i + 1)) : Int)) (L.drop (i + 1)) := by rw [← numG_append, List.take_append_drop]
  rw [e, List.getElem?_append_left (by omega), numG_snoc nu cn L i x k h, List.getElem?_append_right (by rw [numG_len, List.length_take]; omega), numG_len, List.length_take, show i - min i L.length = 0 by omega]
  rfl
theorem cntG_step (L : List α) (i : Nat) (x : α) (h : L[i]? = some x) : cntG cn (L.take (i + 1)) = cntG cn (L.take i) + cn x := by
  unfold cntG; rw [List.take_add_one, h, List.map_append, List.sum_append]; simp
theorem cntG_le (L : List α) (i : Nat) : cntG cn (L.take i) ≤ cntG cn L := by
  have h := List.take_append_drop i L
  unfold cntG
  rw [← h, List.map_append, List.sum_append, h]; omega
end
theorem set_same {W : World} {b o : Nat} {v u : Value} (h : W.cell? ⟨b, o, none⟩ = some u) : (W.setCell ⟨b, o, none⟩ v).cell? ⟨b, o, none⟩ = some v := World.cell?_setCell_same' W _ _ (by rw [h]; rfl)
theorem set_froz {W : World} {b o o' : Nat} {v : Value} (h : W.frozen? ⟨b, o, none⟩ = false) : (W.setCell ⟨b, o', none⟩ v).frozen? ⟨b, o, none⟩ = false := by rw [World.frozen?_setCell]; exact h
theorem chg_cell {bs : List Nat} {V W : World} {g o : Nat} {u : Value} (h : ChgL bs V W) (hg : g ∉ bs) (hc : V.cell? ⟨g, o, none⟩ = some u) : W.cell? ⟨g, o, none⟩ = some u :=
  (World.cell?_of_block (w := V) (w' := W) (a := ⟨g, o, none⟩) (h.block g (World.block_lt_of_cell? _ _ hc) hg)).trans hc
theorem chg_froz {bs : List Nat} {V W : World} {g o : Nat} {u : Value} (h : ChgL bs V W) (hg : g ∉ bs) (hc : V.cell? ⟨g, o, none⟩ = some u) (hf : V.frozen? ⟨g, o, none⟩ = false) : W.frozen? ⟨g, o, none⟩ = false :=
  (World.frozen?_of_block (w := V) (w' := W) (a := ⟨g, o, none⟩) (h.block g (World.block_lt_of_cell? _ _ hc) hg)).trans hf
abbrev CF (W : World) (g o : Nat) (u : Value) : Prop := W.cell? ⟨g, o, none⟩ = some u ∧ W.frozen? ⟨g, o, none⟩ = false
theorem cells1 {W : World} {g b : Nat} {u0 : Value} (h0 : CF W g b u0) : ∀ (i : Nat) (u : Value), [u0][i]? = some u → CF W g (b + i) u := by
  intro i u hu
  match i, hu with
  | 0, hu => simp at hu; subst hu; exact h0
theorem cells2 {W : World} {g b : Nat} {u0 u1 : Value} (h0 : CF W g b u0) (h1 : CF W g (b + 1) u1) : ∀ (i : Nat) (u : Value), [u0, u1][i]? = some u → CF W g (b + i) u := by
  intro i u hu
  match i, hu with
  | 0, hu => simp at hu; subst hu; exact h0
  | 1, hu => simp at hu; subst hu; exact h1
theorem cells3 {W : World} {g b : Nat} {u0 u1 u2 : Value} (h0 : CF W g b u0) (h1 : CF W g (b + 1) u1) (h2 : CF W g (b + 2) u2) : ∀ (i : Nat) (u : Value), [u0, u1, u2][i]? = some u → CF W g (b + i) u := by
  intro i u hu
  match i, hu with
  | 0, hu => simp at hu; subst hu; exact h0
  | 1, hu => simp at hu; subst hu; exact h1
  | 2, hu => simp at hu; subst hu; exact h2
theorem cells4 {W : World} {g b : Nat} {u0 u1 u2 u3 : Value} (h0 : CF W g b u0) (h1 : CF W g (b + 1) u1) (h2 : CF W g (b + 2) u2) (h3 : CF W g (b + 3) u3) : ∀ (i : Nat) (u : Value), [u0, u1, u2, u3][i]? = some u → CF W g (b + i) u := by
  intro i u hu
  match i, hu with
  | 0, hu => simp at hu; subst hu; exact h0
  | 1, hu => simp at hu; subst hu; exact h1
  | 2, hu => simp at hu; subst hu; exact h2
  | 3, hu => simp at hu; subst hu; exact h3
end Go.Proofs.Ytllddjkdjdohhaa
