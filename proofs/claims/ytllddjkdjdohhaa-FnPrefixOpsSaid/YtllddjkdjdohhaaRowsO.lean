/-
  Operators in a slice, as a law that draws them reads it; no prefix and no extension of an expression is one.
-/
import Derived.Test.YtllddjkdjdohhaaExpr
namespace Go.Proofs.Ytllddjkdjdohhaa
open Go.RowKit
set_option linter.unusedVariables false
set_option linter.unusedSimpArgs false

/-- The operators L stand in the slice v. -/
def RowsO (w : World) (B : Nat) (v : Value) (L : List DOp) : Prop := ∃ b c, v = .slice (some ⟨b, 0, none⟩) L.length c ∧ L.length ≤ c ∧ c ≤ maxLen ∧ B ≤ b ∧ b < w.heap.size ∧ L.length ≤ 1000 ∧ (∀ x ∈ L, FitO x) ∧
  ∀ j u, (L.flatMap fO)[j]? = some u → w.cell? ⟨b, j, none⟩ = some u
theorem RowsO.of_owns {w : World} {B : Nat} {v : Value} {L : List DOp} (h : OwnsO w B v L) (h0 : 0 < L.length) (hl : L.length ≤ 1000) (hf : ∀ x ∈ L, FitO x) : RowsO w B v L := by
  have h' := h
  rcases h.2 with ⟨_, h0'⟩ | ⟨g, cap, cur, rfl, hb, hg, hnc, hcm, hcs, ht⟩
  · omega
  · refine ⟨g, cap, rfl, hnc, hcm, hb, (World.ownsRow.lt h' g rfl).2, hl, hf, fun j u hu => ?_⟩
    have := World.ownsRow.cells h' (g := g) rfl j u hu
    rwa [Addr.add_mid, Nat.zero_add] at this
theorem RowsO.rd {w : World} {B : Nat} {v : Value} {L : List DOp} (h : RowsO w B v L) : rdOpS B w.heap.size w [v] L := by
  obtain ⟨b, c, rfl, _, _, hB, hb, hl, hf, hc⟩ := h
  refine ⟨some ⟨b, 0, none⟩, c, rfl, by unfold maxLen; omega, fun j hj => ?_⟩
  have hx := hf _ (List.getElem_mem hj)
  refine ⟨b, 0, rfl, hB, hb, fO L[j], rfl, fun i u hu => ?_, ⟨_, _, _, rfl, ⟨rfl, hx.1⟩, ⟨rfl, hx.2.1⟩, ⟨rfl, hx.2.2⟩⟩⟩
  rw [Nat.zero_add]
  have hi : i < 3 := by have := (List.getElem?_eq_some_iff.1 hu).1; rwa [fO_len] at this
  exact hc _ _ ((flat_at fO 3 fO_len L j i hj hi).trans hu)
theorem RowsO.below {w w' : World} {B : Nat} {v : Value} {L : List DOp} (h : RowsO w B v L) (hb : Below w.heap.size w w') : RowsO w' B v L := by
  obtain ⟨b, c, rfl, h1, h2, hB, hl, h3, hf, hc⟩ := h
  exact ⟨b, c, rfl, h1, h2, hB, Nat.lt_of_lt_of_le hl hb.size, h3, hf, fun j u hu => keep hb (hc j u hu)⟩
theorem take_flat (L : List DOp) (k j : Nat) (u : Value) (h : ((L.take k).flatMap fO)[j]? = some u) : (L.flatMap fO)[j]? = some u := by
  have e : L.flatMap fO = (L.take k).flatMap fO ++ (L.drop k).flatMap fO := by rw [← List.flatMap_append, List.take_append_drop]
  rw [e, List.getElem?_append_left (List.getElem?_eq_some_iff.1 h).1]
  exact h
theorem RowsO.take {w : World} {B b n c k : Nat} {L : List DOp} (h : RowsO w B (.slice (some ⟨b, 0, none⟩) n c) L) (hk : k ≤ L.length) : RowsO w B (.slice (some ⟨b, 0, none⟩) k c) (L.take k) := by
  obtain ⟨b', c', e, h1, h2, hB, hl, h3, hf, hc⟩ := h
  injection e with e1 e2 e3
  injection e1 with e1
  injection e1 with e1
  subst e1 e3
  have hlen : (L.take k).length = k := by rw [List.length_take]; omega
  exact ⟨b, c, by rw [hlen], by omega, h2, hB, hl, by omega, fun x hx => hf x (List.mem_of_mem_take hx), fun j u hu => hc j u (take_flat L k j u hu)⟩
theorem oneCell_fO (L : List DOp) : ∀ u ∈ L.flatMap fO, u.oneCell' = true := by
  intro u hu
  obtain ⟨x, -, hx⟩ := List.mem_flatMap.1 hu
  simp [fO] at hx
  rcases hx with rfl | rfl | rfl <;> rfl

theorem run_prefix (n : Int) : ∀ (L : List DOp) (m : Int) (k : Nat), runOps n m L = true → k < L.length → runOps n m (L.take k) = false
  | [], m, k, _, hk => absurd hk (by simp)
  | o :: os, m, k, h, hk => by
    have hm : m ≠ 0 := by
      intro e
      rw [runOps, if_pos e] at h
      cases h
    rw [runOps, if_neg hm, Bool.and_eq_true] at h
    match k, hk with
    | 0, _ => simp [runOps, hm]
    | k + 1, hk =>
      rw [List.take_succ_cons, runOps, if_neg hm, run_prefix n os _ k h.2 (by simpa using hk), Bool.and_false]
theorem run_more (n : Int) (o : DOp) (X : List DOp) : ∀ (L : List DOp) (m : Int), runOps n m L = true → runOps n m (L ++ o :: X) = false
  | [], m, h => by
    have hm : m = 0 := by simpa [runOps] using h
    rw [List.nil_append, runOps, if_pos hm]
  | p :: os, m, h => by
    have hm : m ≠ 0 := by
      intro e
      rw [runOps, if_pos e] at h
      cases h
    rw [runOps, if_neg hm, Bool.and_eq_true] at h
    rw [List.cons_append, runOps, if_neg hm, run_more n o X os _ h.2, Bool.and_false]
theorem ops_prefix {n : Int} {L : List DOp} {k : Nat} (h : opsB n L = true) (hk : k < L.length) : opsB n (L.take k) = false := by
  unfold opsB at h ⊢
  rw [Bool.and_eq_true] at h
  rw [run_prefix n L 1 k h.2 hk, Bool.and_false]
theorem ops_more {n : Int} {L : List DOp} (o : DOp) (h : opsB n L = true) : opsB n (L ++ [o]) = false := by
  unfold opsB at h ⊢
  rw [Bool.and_eq_true] at h
  rw [run_more n o [] L 1 h.2, Bool.and_false]
theorem ops_not (n : Int) : opsB n [(4, 0, 0), (0, 0, 0)] = true := by
  simp [opsB, runOps, opB, arityI]
theorem ops_pos {n : Int} {L : List DOp} (h : opsB n L = true) : 0 < L.length := by
  match L, h with
  | [], h => simp [opsB, runOps] at h
  | _ :: _, _ => simp
end Go.Proofs.Ytllddjkdjdohhaa
