/-
  The values of nodes as lists that grow: the plain part.
-/
import Derived.Test.YtaebiiopommhdaaNr4
namespace Go.Proofs.Ytaebiiopommhdaa
open Go.RowKit
set_option linter.unusedVariables false
set_option linter.unusedSimpArgs false

def insA (x : Int) (k : Nat) : List Int := 0 :: (List.range k).map fun i => x / 2 ^ i % 2
def regA (st : List Int) (x : Int) (I k : Nat) : List Int := insA x I ++ (st.take k).map (· % 2)
def valA (n : DNet) (st : List Int) (x : Int) : Nat → List Int
  | 0 => regA st x n.1.toNat n.2.1.length
  | k + 1 => match n.2.2.1[k]? with
    | some a => valA n st x k ++ [bitV (valA n st x k) a.1.toNat * bitV (valA n st x k) a.2.toNat]
    | none => valA n st x k
theorem insA_len (x : Int) (k : Nat) : (insA x k).length = 1 + k := by simp [insA]; omega
theorem insA_step (x : Int) (k : Nat) : insA x (k + 1) = insA x k ++ [x / 2 ^ k % 2] := by simp [insA, List.range_succ]
theorem regA_zero (st : List Int) (x : Int) (I : Nat) : regA st x I 0 = insA x I := by simp [regA]
theorem regA_step {st : List Int} {x y : Int} {I k : Nat} (h : st[k]? = some y) : regA st x I (k + 1) = regA st x I k ++ [y % 2] := by
  unfold regA
  rw [List.take_add_one, h]
  simp
theorem regA_len {st : List Int} (x : Int) {I k : Nat} (h : k ≤ st.length) : (regA st x I k).length = 1 + I + k := by
  unfold regA
  rw [List.length_append, insA_len, List.length_map, List.length_take]
  omega
theorem valA_step {n : DNet} {st : List Int} {x : Int} {k p q : Nat} (ha : n.2.2.1[k]? = some ((p : Int), (q : Int))) : valA n st x (k + 1) = valA n st x k ++ [bitV (valA n st x k) p * bitV (valA n st x k) q] := by
  conv => lhs; unfold valA
  rw [ha]
  rfl
theorem set_app (A : List Int) (m : Nat) (y : Int) {i : Nat} (h : A.length = i) : (A ++ List.replicate (m + 1) 0).set i y = (A ++ [y]) ++ List.replicate m 0 := by
  subst h
  rw [List.set_append_right _ _ (Nat.le_refl _), Nat.sub_self, List.replicate_succ, List.set_cons_zero, List.append_assoc]
  rfl
theorem bitV_app (A B : List Int) {l : Nat} (h : l / 2 < A.length) : bitV (A ++ B) l = bitV A l := by
  unfold bitV
  rw [List.getD_eq_getElem?_getD, List.getD_eq_getElem?_getD, List.getElem?_append_left h]
theorem insK_app (n : DNet) (x : Int) (hN : 1 + n.1.toNat ≤ netN n) : ∀ k, k ≤ n.1.toNat → insK n x k = insA x k ++ List.replicate (netN n - (1 + k)) 0
  | 0, _ => by
    obtain ⟨m, hm⟩ : ∃ m, netN n = m + 1 := ⟨netN n - 1, by omega⟩
    unfold insK
    rw [hm, List.replicate_succ]
    simp [insA]
  | k + 1, h => by
    obtain ⟨m, hm⟩ : ∃ m, netN n - (1 + k) = m + 1 := ⟨netN n - (1 + k) - 1, by omega⟩
    unfold insK
    rw [insK_app n x hN k (by omega), hm, set_app _ _ _ (insA_len x k), insA_step]
    rw [show netN n - (1 + (k + 1)) = m by omega]
theorem regK_app (n : DNet) (st : List Int) (x : Int) (hN : 1 + n.1.toNat + n.2.1.length ≤ netN n) (hl : st.length = n.2.1.length) : ∀ k, k ≤ n.2.1.length → regK n st x k = regA st x n.1.toNat k ++ List.replicate (netN n - (1 + n.1.toNat + k)) 0
  | 0, _ => by unfold regK; rw [insK_app n x (by omega) _ (Nat.le_refl _), regA_zero]; rfl
  | k + 1, h => by
    obtain ⟨m, hm⟩ : ∃ m, netN n - (1 + n.1.toNat + k) = m + 1 := ⟨netN n - (1 + n.1.toNat + k) - 1, by omega⟩
    have hx : st[k]? = some (st.getD k 0) := get_of_len rfl (by omega)
    rw [regK_step hx, regK_app n st x hN hl k (by omega), hm, set_app _ _ _ (regA_len x (by omega)), regA_step hx]
    rw [show netN n - (1 + n.1.toNat + (k + 1)) = m by omega]
theorem valK_app {n : DNet} {st : List Int} (x : Int) (hP : NetP n) (hl : st.length = n.2.1.length) : ∀ k, k ≤ n.2.2.1.length → valK n st x k = valA n st x k ++ List.replicate (n.2.2.1.length - k) 0 ∧ (valA n st x k).length = firN n + k
  | 0, _ => by
    have e : netN n = 1 + n.1.toNat + n.2.1.length + n.2.2.1.length := by unfold netN firN; omega
    unfold valK valA
    rw [regK_app n st x (by omega) hl _ (Nat.le_refl _), regA_len x (by omega), e]
    refine ⟨?_, by unfold firN; omega⟩
    rw [show 1 + n.1.toNat + n.2.1.length + n.2.2.1.length - (1 + n.1.toNat + n.2.1.length) = n.2.2.1.length - 0 by omega]
  | k + 1, h => by
    obtain ⟨ih, il⟩ := valK_app x hP hl k (by omega)
    obtain ⟨m, hm⟩ : ∃ m, n.2.2.1.length - k = m + 1 := ⟨n.2.2.1.length - k - 1, by omega⟩
    obtain ⟨a, ha⟩ : ∃ a, n.2.2.1[k]? = some a := ⟨_, List.getElem?_eq_getElem (by omega)⟩
    obtain ⟨p, q, rfl, hp, hq⟩ := hP.and_ k a ha
    rw [valK_step ha, valA_step ha, ih, hm, bitV_app _ _ (by omega), bitV_app _ _ (by omega), set_app _ _ _ il]
    rw [show n.2.2.1.length - (k + 1) = m by omega]
    exact ⟨rfl, by rw [List.length_append, il]; rfl⟩
theorem valO_app {n : DNet} {st : List Int} (x : Int) (h : StateP n st) : valO n st x = valA n st x n.2.2.1.length := by
  rw [vals_yes (stateB_of h), (valK_app x (netP_of h.net) h.len _ (Nat.le_refl _)).1, Nat.sub_self]
  simp
theorem valA_in {n : DNet} {st : List Int} (x : Int) (hP : NetP n) (hl : st.length = n.2.1.length) {k : Nat} (hk : k ≤ n.2.2.1.length) (j : Nat) : 0 ≤ (valA n st x k).getD j 0 ∧ (valA n st x k).getD j 0 ≤ 1 := by
  obtain ⟨e, el⟩ := valK_app x hP hl k hk
  by_cases h : j < (valA n st x k).length
  · have := valK_in n st x k j
    rw [e, List.getD_eq_getElem?_getD, List.getElem?_append_left h, ← List.getD_eq_getElem?_getD] at this
    exact this
  · rw [List.getD_eq_getElem?_getD, List.getElem?_eq_none (by omega)]
    simp
theorem rd_own_small {L : List Int} (h : ∀ x ∈ L, 0 ≤ x ∧ x ≤ 1) : ∀ x ∈ L, Fit x := fun x hx => by have := h x hx; unfold Fit; omega
end Go.Proofs.Ytaebiiopommhdaa
