/-
  The steps of Hash.
-/
import Derived.Test.YtedamhkcblemdaaHsA
import Derived.Test.YtedamhkcblemdaaHiN
namespace Go.Proofs.Ytedamhkcblemdaa
open Go.RowKit
set_option linter.unusedVariables false
set_option linter.unusedSimpArgs false

theorem hashK_bd {n : DNet} (hP : NetP n) {k : Nat} (hk : k ≤ n.2.2.1.length) : ∀ x ∈ (hashK n k).2, 0 ≤ x ∧ x ≤ 1000 := fun x hx => by
  have h := hinv_all hP k hk
  obtain ⟨j, hj, rfl⟩ := List.getElem_of_mem hx
  obtain ⟨z, hz, hzN⟩ := h.lit j (by have := h.tlen; omega)
  rw [List.getElem?_eq_getElem hj] at hz
  injection hz with hz
  have hN := h.net.sz.net_le.1
  rw [hz]
  omega
theorem hash_lit {n : DNet} (hP : NetP n) {k l : Nat} (hk : k ≤ n.2.2.1.length) (hl : l / 2 < firN n + k) : ∃ t : Nat, (hashK n k).2[l / 2]? = some (t : Int) := by
  obtain ⟨z, hz, -⟩ := (hinv_all hP k hk).lit _ hl
  exact ⟨z, hz⟩
theorem hash_litIn {n : DNet} (hP : NetP n) {k l : Nat} (hk : k ≤ n.2.2.1.length) (hl : l / 2 < firN n + k) : LitIn (hashK n k).1 (mapI (hashK n k).2 (l : Int)) := by
  obtain ⟨q, e, hq, -⟩ := hinv_map (hinv_all hP k hk) hP hk hl
  exact ⟨q, e, hq⟩
/-- One AND node more. -/
theorem hash_step {n : DNet} (hP : NetP n) {k p q : Nat} (ha : n.2.2.1[k]? = some ((p : Int), (q : Int))) : ∃ x : Int, andG (firN n) (hashK n k).1.2.2.1 (mapI (hashK n k).2 (p : Int)) (mapI (hashK n k).2 (q : Int)) = ((hashK n (k + 1)).1.2.2.1, x) ∧ andO (hashK n k).1 (mapI (hashK n k).2 (p : Int)) (mapI (hashK n k).2 (q : Int)) = ((hashK n (k + 1)).1, x) ∧ (hashK n (k + 1)).2 = (hashK n k).2 ++ [x] ∧ 0 ≤ x ∧ x ≤ 1000 := by
  have hk := (List.getElem?_eq_some_iff.1 ha).1
  obtain ⟨p', q', e, hp, hq⟩ := hP.and_ k _ ha
  injection e with e1 e2
  have e1 : p = p' := by omega
  have e2 : q = q' := by omega
  subst e1 e2
  have h := hinv_all hP k (by omega)
  have hs := hashK_step ha
  have e := andO_eqG h.net (hash_litIn hP (by omega) hp) (hash_litIn hP (by omega) hq)
  rw [h.fir] at e
  refine ⟨(andO (hashK n k).1 (mapI (hashK n k).2 (p : Int)) (mapI (hashK n k).2 (q : Int))).2, ?_, by rw [hs], by rw [hs], ?_⟩
  · rw [hs]
    dsimp only
    rw [e]
    rfl
  · refine hashK_bd hP (show k + 1 ≤ n.2.2.1.length by omega) _ ?_
    rw [hs]
    simp
theorem hash_root {n : DNet} (hP : NetP n) : ∀ r ∈ rootsL n, ∃ p t : Nat, r = (p : Int) ∧ (hashK n n.2.2.1.length).2[p / 2]? = some (t : Int) := fun r hr => by
  obtain ⟨l, rfl, hl⟩ := hP.root r hr
  obtain ⟨z, hz⟩ := hash_lit hP (Nat.le_refl _) hl
  exact ⟨l, z, rfl, hz⟩
theorem hash_len {n : DNet} (hP : NetP n) {k : Nat} (hk : k ≤ n.2.2.1.length) : (hashK n k).2.length = firN n + k ∧ (hashK n k).1.2.2.1.length ≤ k := ⟨(hinv_all hP k hk).tlen, (hinv_all hP k hk).alen⟩
/-- The net under construction in the program: its sequential elements as they were, no roots. -/
def bareN (n : DNet) (A : List DAnd) : DNet := (n.1, n.2.1, A, [])
theorem bare_with (n : DNet) (A A' : List DAnd) : withA (bareN n A) A' = bareN n A' := rfl
theorem bare_fir (n : DNet) (A : List DAnd) : firN (bareN n A) = firN n := rfl
theorem bare_size {n : DNet} (h : SizeP n) {A : List DAnd} (hA : A.length ≤ 300) : SizeP (bareN n A) := ⟨h.i0, h.i20, h.s12, hA, by unfold bareN; simp⟩
end Go.Proofs.Ytedamhkcblemdaa
