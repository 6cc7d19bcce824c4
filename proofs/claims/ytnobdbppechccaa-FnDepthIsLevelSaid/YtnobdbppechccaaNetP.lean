/-
  Nets: levels rise along edges; marks spread along edges; the marks of a union are the union of the marks.
-/
import Derived.Test.YtnobdbppechccaaNetM
namespace Go.Proofs.Ytnobdbppechccaa
open Go.RowKit
set_option linter.unusedVariables false
set_option linter.unusedSimpArgs false

theorem levK_keep (n : DNet) {k j : Nat} (hj : j < firN n + k) : ∀ d, (levK n (k + d)).getD j 0 = (levK n k).getD j 0
  | 0 => rfl
  | d + 1 => by
    have ih := levK_keep n hj d
    rw [← Nat.add_assoc]
    conv => lhs; unfold levK
    split
    · rw [getD_set, if_neg (by omega)]; exact ih
    · exact ih
theorem levK_edge {n : DNet} (hP : NetP n) {k x y : Nat} (h : n.2.2.1[k]? = some ((x : Int), (y : Int))) {A : Nat} (hk : k < A) (hA : firN n + k < netN n) :
    (levK n A).getD (firN n + k) 0 = 1 + max ((levK n A).getD (x / 2) 0) ((levK n A).getD (y / 2) 0) := by
  obtain ⟨x', y', e, hx, hy⟩ := hP.and_ k _ h
  injection e with ex ey
  have ex : x = x' := by omega
  have ey : y = y' := by omega
  subst ex ey
  obtain ⟨d, rfl⟩ : ∃ d, A = k + 1 + d := ⟨A - (k + 1), by omega⟩
  rw [levK_keep n (k := k + 1) (j := firN n + k) (by omega) d, levK_keep n (k := k + 1) (j := x / 2) (by omega) d, levK_keep n (k := k + 1) (j := y / 2) (by omega) d]
  rw [levK_keep n (k := k) (j := x / 2) hx 1, levK_keep n (k := k) (j := y / 2) hy 1]
  rw [← levK_step h rfl rfl, getD_set, if_pos ⟨rfl, by rw [levK_len]; exact hA⟩]
theorem getD_ext {A B : List Bool} (hl : A.length = B.length) (h : ∀ i, i < A.length → A.getD i false = B.getD i false) : A = B := by
  refine List.ext_getElem hl fun i h1 h2 => ?_
  have := h i h1
  rw [List.getD_eq_getElem?_getD, List.getD_eq_getElem?_getD, List.getElem?_eq_getElem h1, List.getElem?_eq_getElem h2] at this
  exact this
theorem markK_or {n : DNet} {M M1 M2 : List Bool} (hl1 : M1.length = M.length) (hl2 : M2.length = M.length) (h : ∀ i, M.getD i false = (M1.getD i false || M2.getD i false)) :
    ∀ j i, (markK n M j).getD i false = ((markK n M1 j).getD i false || (markK n M2 j).getD i false)
  | 0, i => h i
  | j + 1, i => by
    have ih := markK_or (n := n) hl1 hl2 h j
    have e := ih (firN n + (n.2.2.1.length - 1 - j))
    have L0 := markK_len n M j
    have L1 := markK_len n M1 j
    have L2 := markK_len n M2 j
    rw [hl1] at L1
    rw [hl2] at L2
    have ia := ih i
    simp only [markK]
    cases hA : n.2.2.1[n.2.2.1.length - 1 - j]? with
    | none => exact ia
    | some a =>
      dsimp only
      rw [e]
      generalize (markK n M j) = Z at *
      generalize (markK n M1 j) = Z1 at *
      generalize (markK n M2 j) = Z2 at *
      by_cases c1 : a.1.toNat / 2 = i ∧ i < M.length <;> by_cases c2 : a.2.toNat / 2 = i ∧ i < M.length <;>
        cases h1 : Z1.getD (firN n + (n.2.2.1.length - 1 - j)) false <;> cases h2 : Z2.getD (firN n + (n.2.2.1.length - 1 - j)) false <;>
        simp only [Bool.or_false, Bool.or_true, Bool.or_self, Bool.false_eq_true, if_true, if_false, getD_set, List.length_set, L0, L1, L2, c1, c2, and_self, ia, Bool.true_or, ite_self]
theorem markK_mono {n : DNet} {M : List Bool} {i : Nat} {j : Nat} (h : (markK n M j).getD i false = true) : ∀ d, (markK n M (j + d)).getD i false = true
  | 0 => h
  | d + 1 => by
    have ih := markK_mono h d
    rw [← Nat.add_assoc]
    unfold markK
    split
    · split
      · rw [getD_set, getD_set]
        split
        · rfl
        · split
          · rfl
          · exact ih
      · exact ih
    · exact ih
theorem markK_far {n : DNet} (hP : NetP n) {M : List Bool} {p : Nat} {j : Nat} (hp : firN n + (n.2.2.1.length - 1 - j) ≤ p) : ∀ d, (markK n M (j + d)).getD p false = (markK n M j).getD p false
  | 0 => rfl
  | d + 1 => by
    have ih := markK_far (M := M) hP hp d
    rw [← Nat.add_assoc]
    conv => lhs; unfold markK
    split
    · rename_i a ha
      obtain ⟨x, y, rfl, hx, hy⟩ := hP.and_ _ _ ha
      split
      · simp only [Int.toNat_natCast]
        rw [getD_set, getD_set, if_neg (by omega), if_neg (by omega)]
        exact ih
      · exact ih
    · exact ih
theorem markL_edge {n : DNet} (hP : NetP n) {M : List Bool} (hM : M.length = netN n) {k x y : Nat} (h : n.2.2.1[k]? = some ((x : Int), (y : Int))) (hN : firN n + k < netN n) (ht : (markL n M).getD (firN n + k) false = true) :
    (markL n M).getD (x / 2) false = true ∧ (markL n M).getD (y / 2) false = true := by
  have hk := (List.getElem?_eq_some_iff.1 h).1
  obtain ⟨x', y', e, hx, hy⟩ := hP.and_ k _ h
  injection e with ex ey
  have ex : x = x' := by omega
  have ey : y = y' := by omega
  subst ex ey
  unfold markL at ht ⊢
  obtain ⟨j, hj⟩ : ∃ j, n.2.2.1.length = j + 1 + k := ⟨n.2.2.1.length - 1 - k, by omega⟩
  have hjk : n.2.2.1.length - 1 - j = k := by omega
  have e1 : n.2.2.1.length = j + (1 + k) := by omega
  have h0 : (markK n M j).getD (firN n + k) false = true := by
    rw [← markK_far hP (p := firN n + k) (j := j) (by omega) (1 + k), ← e1]; exact ht
  have h1 : (markK n M (j + 1)).getD (x / 2) false = true ∧ (markK n M (j + 1)).getD (y / 2) false = true := by
    unfold markK
    rw [hjk, h]
    dsimp only
    rw [if_pos h0]
    simp only [Int.toNat_natCast]
    constructor
    · rw [getD_set]
      split
      · rfl
      · rw [getD_set, if_pos ⟨rfl, by rw [markK_len]; omega⟩]
    · rw [getD_set, if_pos ⟨rfl, by rw [List.length_set, markK_len]; omega⟩]
  rw [hj]
  exact ⟨markK_mono h1.1 k, markK_mono h1.2 k⟩
/-- The marks M and those of the list L. -/
def orL (M : List Bool) (L : List Int) : List Bool := L.foldl (fun M r => M.set r.toNat true) M
theorem orL_len (M : List Bool) (L : List Int) : (orL M L).length = M.length := by
  unfold orL
  induction L generalizing M with
  | nil => rfl
  | cons r L ih => rw [List.foldl_cons, ih, List.length_set]
theorem orL_step {M : List Bool} {L : List Int} {k x : Nat} (h : L[k]? = some (x : Int)) : orL M (L.take (k + 1)) = (orL M (L.take k)).set x true := by
  unfold orL
  rw [List.take_add_one, h, List.foldl_append]
  simp
theorem orL_get (M : List Bool) (L : List Int) (t : Nat) (ht : t < M.length) (hL : ∀ x ∈ L, 0 ≤ x) : (orL M L).getD t false = (M.getD t false || decide ((t : Int) ∈ L)) := by
  unfold orL
  induction L generalizing M with
  | nil => simp
  | cons r L ih =>
    rw [List.foldl_cons, ih _ (by rw [List.length_set]; exact ht) (fun x hx => hL x (List.mem_cons_of_mem _ hx)), getD_set]
    have hr := hL r (List.mem_cons_self ..)
    by_cases e : r.toNat = t
    · have e2 : (t : Int) = r := by omega
      rw [if_pos ⟨e, ht⟩, decide_eq_true (by rw [e2]; exact List.mem_cons_self .. : (t : Int) ∈ r :: L)]
      simp
    · have e2 : ¬ (t : Int) = r := by omega
      rw [if_neg (fun h => e h.1)]
      simp [e2]
theorem mem_coneK {M : List Bool} {k t : Nat} : (t : Int) ∈ coneK M k ↔ t < k ∧ M.getD t false = true := by
  unfold coneK
  rw [List.mem_map]
  constructor
  · rintro ⟨i, hi, e⟩
    have e2 : i = t := by omega
    subst e2
    rw [List.mem_filter, List.mem_range] at hi
    exact hi
  · intro h
    exact ⟨t, by rw [List.mem_filter, List.mem_range]; exact h, rfl⟩
theorem coneK_at {M : List Bool} {k : Nat} {v : Int} (h : v ∈ coneK M k) : ∃ t : Nat, v = (t : Int) ∧ t < k := by
  unfold coneK at h
  rw [List.mem_map] at h
  obtain ⟨i, hi, e⟩ := h
  exact ⟨i, e.symm, List.mem_range.1 (List.mem_filter.1 hi).1⟩
/-- One more root: its cone is added. -/
theorem markL_root {n : DNet} {R : List Int} {k x : Nat} (h : R[k]? = some (x : Int)) : orL (markL n (seenL (netN n) (R.take k))) (coneK (markL n (oneL (netN n) (x / 2))) (netN n)) = markL n (seenL (netN n) (R.take (k + 1))) := by
  have l0 : (seenL (netN n) (R.take (k + 1))).length = netN n := seenL_len _ _
  have l1 : (seenL (netN n) (R.take k)).length = netN n := seenL_len _ _
  have l2 : (oneL (netN n) (x / 2)).length = netN n := by unfold oneL; simp
  have hor := markK_or (n := n) (M := seenL (netN n) (R.take (k + 1))) (M1 := seenL (netN n) (R.take k)) (M2 := oneL (netN n) (x / 2)) (by rw [l0, l1]) (by rw [l0, l2]) (fun i => by
    rw [seenL_step h, getD_set, l1]
    unfold oneL
    rw [getD_set, List.length_replicate]
    have hz : (List.replicate (netN n) false).getD i false = false := by
      rw [List.getD_eq_getElem?_getD, List.getElem?_replicate]; split <;> rfl
    rw [hz]
    split <;> simp) n.2.2.1.length
  refine getD_ext (by rw [orL_len]; unfold markL; rw [markK_len, markK_len, l0, l1]) fun t ht => ?_
  have htN : t < netN n := by rw [orL_len] at ht; unfold markL at ht; rw [markK_len, l1] at ht; exact ht
  have htM : t < (markL n (seenL (netN n) (R.take k))).length := by unfold markL; rw [markK_len, l1]; exact htN
  rw [orL_get _ _ t htM (fun v hv => by obtain ⟨t, e, _⟩ := coneK_at hv; omega)]
  unfold markL at hor ⊢
  rw [hor t]
  congr 1
  cases hb : (markK n (oneL (netN n) (x / 2)) n.2.2.1.length).getD t false with
  | true => exact decide_eq_true (mem_coneK.2 ⟨htN, hb⟩)
  | false => exact decide_eq_false fun hm => by have := (mem_coneK.1 hm).2; rw [hb] at this; cases this
theorem markL_nil (n : DNet) : markL n (seenL (netN n) ([] : List Int)) = List.replicate (netN n) false := by
  have hz : ∀ i, (List.replicate (netN n) false).getD i false = false := fun i => by
    rw [List.getD_eq_getElem?_getD, List.getElem?_replicate]; split <;> rfl
  suffices ∀ j, markK n (List.replicate (netN n) false) j = List.replicate (netN n) false from this _
  intro j
  induction j with
  | zero => rfl
  | succ j ih =>
    unfold markK
    split
    · rw [ih, hz]; rfl
    · exact ih
end Go.Proofs.Ytnobdbppechccaa
