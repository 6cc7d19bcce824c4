/-
  Sweep of the specification: the lists as they grow.
-/
import Derived.Test.YtedamhkcblemdaaHsA
import Derived.Test.YtedamhkcblemdaaHdB
import Derived.Test.YtedamhkcblemdaaHcC
namespace Go.Proofs.Ytedamhkcblemdaa
open Go.RowKit
set_option linter.unusedVariables false
set_option linter.unusedSimpArgs false

theorem sweepK_same {n : DNet} {keep : List Bool} : ∀ k, k ≤ n.2.2.1.length → (sweepK n keep k).1.length ≤ k ∧ (sweepK n keep k).2.length = firN n + k ∧ ∀ x ∈ (sweepK n keep k).2, 0 ≤ x
  | 0, _ => ⟨Nat.zero_le _, toK0_len n, fun x hx => by
      unfold sweepK toK0 at hx
      obtain ⟨j, -, rfl⟩ := List.mem_map.1 hx
      omega⟩
  | k + 1, hk => by
    obtain ⟨h1, h2, h3⟩ := sweepK_same (n := n) (keep := keep) k (by omega)
    obtain ⟨a, ha⟩ : ∃ a, n.2.2.1[k]? = some a := ⟨_, List.getElem?_eq_getElem (by omega)⟩
    cases e : keep.getD (firN n + k) false with
    | true =>
      rw [sweepK_yes ha e]
      refine ⟨by simp; omega, by simp; omega, fun x hx => ?_⟩
      rcases List.mem_append.1 hx with hx | hx
      · exact h3 x hx
      · rw [List.mem_singleton.1 hx]; omega
    | false =>
      rw [sweepK_no ha e]
      refine ⟨by dsimp only; omega, by simp; omega, fun x hx => ?_⟩
      rcases List.mem_append.1 hx with hx | hx
      · exact h3 x hx
      · rw [List.mem_singleton.1 hx]; omega
theorem sweepK_top {n : DNet} {keep : List Bool} : ∀ k, k ≤ n.2.2.1.length → ∀ x ∈ (sweepK n keep k).2, x ≤ 2 * ((firN n + k : Nat) : Int)
  | 0, _ => fun x hx => by
      unfold sweepK toK0 at hx
      obtain ⟨j, hj, rfl⟩ := List.mem_map.1 hx
      have := List.mem_range.1 hj
      omega
  | k + 1, hk => by
    have h1 := (sweepK_same (n := n) (keep := keep) k (by omega)).1
    have h3 := sweepK_top (n := n) (keep := keep) k (by omega)
    obtain ⟨a, ha⟩ : ∃ a, n.2.2.1[k]? = some a := ⟨_, List.getElem?_eq_getElem (by omega)⟩
    cases e : keep.getD (firN n + k) false with
    | true =>
      rw [sweepK_yes ha e]
      intro x hx
      rcases List.mem_append.1 hx with hx | hx
      · have := h3 x hx; omega
      · rw [List.mem_singleton.1 hx]; omega
    | false =>
      rw [sweepK_no ha e]
      intro x hx
      rcases List.mem_append.1 hx with hx | hx
      · have := h3 x hx; omega
      · rw [List.mem_singleton.1 hx]; omega
theorem sweepK_fit {n : DNet} {keep : List Bool} (hP : NetP n) {k : Nat} (hk : k ≤ n.2.2.1.length) : ∀ x ∈ (sweepK n keep k).2, Fit x := fun x hx => by
  have h1 := sweepK_top (n := n) (keep := keep) k hk x hx
  have h2 := (sweepK_same (n := n) (keep := keep) k hk).2.2 x hx
  have h3 := hP.sz.a300
  have h4 := hP.sz.i20
  have h5 := hP.sz.s12
  unfold Fit
  unfold firN at h1
  omega
/-- The literals that the k-th AND node has are those of earlier nodes. -/
theorem sweepK_lit {n : DNet} {keep : List Bool} (hP : NetP n) {k : Nat} {a : DAnd} (h : n.2.2.1[k]? = some a) : ∀ x ∈ [a.1, a.2], ∃ p : Nat, x = (p : Int) ∧ p / 2 < (sweepK n keep k).2.length := by
  have hk := (List.getElem?_eq_some_iff.1 h).1
  obtain ⟨p, q, rfl, hp, hq⟩ := hP.and_ k a h
  rw [(sweepK_same (n := n) (keep := keep) k (by omega)).2.1]
  intro x hx
  simp only [List.mem_cons, List.not_mem_nil, or_false] at hx
  rcases hx with rfl | rfl
  · exact ⟨p, rfl, hp⟩
  · exact ⟨q, rfl, hq⟩
/-- The literals of the roots are those of nodes. -/
theorem sweepK_root {n : DNet} {keep : List Bool} (hP : NetP n) : ∀ r ∈ rootsL n, ∃ p : Nat, r = (p : Int) ∧ p / 2 < (sweepK n keep n.2.2.1.length).2.length := by
  intro r hr
  obtain ⟨p, e, hp⟩ := hP.root r hr
  rw [(sweepK_same (n := n) (keep := keep) _ (Nat.le_refl _)).2.1]
  exact ⟨p, e, hp⟩
/-- The first j elements have their roots replaced; the others have zeros. -/
def mapK (L : List DSeq) (to : List Int) (j : Nat) : List DSeq := (L.take j).map (fun s => (s.1, s.2.1, s.2.2.map (mapI to))) ++ (L.drop j).map (fun s => (s.1, s.2.1, List.replicate s.2.2.length 0))
theorem mapK_zero (L : List DSeq) (to : List Int) : mapK L to 0 = L.map (fun s => (s.1, s.2.1, List.replicate s.2.2.length 0)) := by unfold mapK; simp
theorem mapK_all (L : List DSeq) (to : List Int) : mapK L to L.length = L.map (fun s => (s.1, s.2.1, s.2.2.map (mapI to))) := by unfold mapK; simp
theorem mapK_at {L : List DSeq} {to : List Int} {j : Nat} {s : DSeq} (h : L[j]? = some s) : (mapK L to j)[j]? = some (s.1, s.2.1, List.replicate s.2.2.length 0) := by
  have hj := (List.getElem?_eq_some_iff.1 h).1
  unfold mapK
  rw [List.getElem?_append_right (by simp; omega)]
  simp only [List.length_map, List.length_take]
  rw [Nat.min_eq_left (by omega), Nat.sub_self, List.getElem?_map, List.getElem?_drop, Nat.add_zero, h]
  rfl
theorem mapK_step {L : List DSeq} {to : List Int} {j : Nat} {s : DSeq} (h : L[j]? = some s) : mapK L to (j + 1) = (mapK L to j).set j (s.1, s.2.1, s.2.2.map (mapI to)) := by
  have hj := (List.getElem?_eq_some_iff.1 h).1
  have e : L.drop j = s :: L.drop (j + 1) := by
    rw [List.drop_eq_getElem_cons hj]
    rw [List.getElem?_eq_getElem hj] at h
    injection h with h
    rw [h]
  unfold mapK
  rw [List.set_append_right _ _ (by simp; omega), List.take_add_one, h]
  simp only [List.length_map, List.length_take, List.map_append, Option.toList_some, List.map_cons, List.map_nil]
  rw [Nat.min_eq_left (by omega), Nat.sub_self, List.append_assoc]
  congr 1
  rw [e]
  rfl
theorem mapK_len (L : List DSeq) (to : List Int) {j : Nat} (hj : j ≤ L.length) : (mapK L to j).length = L.length := by unfold mapK; simp; omega
/-- The net under construction: no roots yet, the AND nodes A. -/
def sweN (n : DNet) (A : List DAnd) : DNet := (n.1, (emptyN n).2.1, A, [])
theorem sweN_nil (n : DNet) : sweN n [] = emptyN n := rfl
theorem sweN_add (n : DNet) (A : List DAnd) (x : DAnd) : addN (sweN n A) x = sweN n (A ++ [x]) := rfl
/-- A slice apart from the copy grows. -/
theorem CopyAt.grownT {w0 w w' : World} {F G : Nat} {v1 vA v3 : Value} {rows : List V3} {bs : List Nat} {n : DNet} {row : Option Nat} (h : CopyAt w0 w F G v1 vA v3 rows bs n) (hg : w.grownBy w' row) (hsz : w0.heap.size + 2 ≤ w.heap.size)
    (hr : ∀ b, row = some b → w0.heap.size + 2 ≤ b ∧ b ≠ G ∧ b ∉ blkL v1 ++ (bs ++ (blkL vA ++ blkL v3))) : CopyAt w0 w' F G v1 vA v3 rows bs n := by
  have hF2 := h.hF2
  refine ⟨h.box.at (hg.block G h.box.lt (fun e => (hr G e.symm).2.1 rfl)), h.res.at (hg.block F h.res.lt (fun e => by have := (hr F e.symm).1; omega)), h.net.at fun b h1 h2 h3 => hg.block b h1 (fun e => (hr b e.symm).2.2 h3), h.off, h.chg.grown hg (by omega) (fun b e => by have := (hr b e).1; omega), h.hF, h.hF2, h.hG⟩
end Go.Proofs.Ytedamhkcblemdaa
