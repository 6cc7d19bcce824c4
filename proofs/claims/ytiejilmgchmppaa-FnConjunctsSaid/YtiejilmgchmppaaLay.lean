/-
  Blocks laid one behind the other; owned data that lies in them.
-/
import Derived.Test.YtiejilmgchmppaaDoN
namespace Go.Proofs.Ytiejilmgchmppaa
open Go.RowKit
set_option linter.unusedVariables false

def allocL (w : World) : List Obj → World
  | [] => w
  | o :: os => allocL (w.alloc o) os
theorem allocL_size : ∀ (os : List Obj) (w : World), (allocL w os).heap.size = w.heap.size + os.length
  | [], _ => rfl
  | o :: os, w => by unfold allocL; rw [allocL_size os, List.length_cons]; simp; omega
theorem allocL_below : ∀ (os : List Obj) (w : World), Below w.heap.size w (allocL w os)
  | [], w => Below.refl _ _
  | o :: os, w => by
    unfold allocL
    exact (bAlloc (Below.refl _ _) (Nat.le_refl _) o).trans ((allocL_below os (w.alloc o)).mono (by simp))
theorem allocL_at : ∀ (os : List Obj) (w : World) (i : Nat) (o : Obj), os[i]? = some o → (allocL w os).heap[w.heap.size + i]? = some o
  | [], _, _, _, h => by simp at h
  | o :: os, w, 0, o', h => by
    simp at h; subst h
    unfold allocL
    rw [(allocL_below os (w.alloc o)).block _ (by simp)]
    exact heap_alloc_new w o
  | o :: os, w, i + 1, o', h => by
    unfold allocL
    have h' := allocL_at os (w.alloc o) i o' (by simpa using h)
    rw [show w.heap.size + (i + 1) = (w.alloc o).heap.size + i by simp; omega]
    exact h'
section
variable {α ρ : Type}
/-- A slice whose elements lie one behind the other in block g. -/
theorem owS_rows {P : Ow α} (f : ρ → List Value) (k : Nat) (hf : ∀ x, (f x).length = k) {w : World} {g c : Nat} {t : TypeId} (rows : List ρ) (L : List α) (bf : Nat → List Nat)
    (h : w.heap[g]? = some (.cells (rows.flatMap f).toArray t (0, 0))) (hl : rows.length = L.length) (hm : L.length ≤ maxLen ∧ L.length ≤ c) (hP : ∀ j (hj : j < rows.length) (hj' : j < L.length), P (bf j) w (f rows[j]) L[j]) :
    owS k P (g :: (List.range L.length).flatMap bf) w [.slice (some ⟨g, 0, none⟩) L.length c] L := by
  refine ⟨_, _, rfl, hm, .inr ⟨g, 0, bf, rfl, rfl, (Array.getElem?_eq_some_iff.1 h).1, fun j hj => ⟨f rows[j], hf _, fun i u hu => ?_, hP j (by omega) hj⟩⟩⟩
  have hi : i < k := by rw [← hf rows[j]]; exact (List.getElem?_eq_some_iff.1 hu).1
  have e := flat_at f k hf rows j i (by omega) hi
  rw [hu] at e
  rw [Nat.zero_add]
  exact ⟨box_cell h _ _ (by simpa using e), frozen_of_row _ _ _ _ _ h⟩
theorem own_nil {P : Ow α} (k : Nat) (w : World) : owS k P [] w [.slice none 0 0] ([] : List α) := ⟨none, 0, rfl, by simp, .inl ⟨rfl, rfl⟩⟩
end
theorem flat_nil (n : Nat) : (List.range n).flatMap (fun _ => ([] : List Nat)) = [] := by induction n <;> simp_all [List.range_succ]
def Few (x : Int) : Prop := 0 ≤ x ∧ x ≤ 1000
instance (x : Int) : Decidable (Few x) := inferInstanceAs (Decidable (0 ≤ x ∧ x ≤ 1000))
theorem Few.fit {x : Int} (h : Few x) : Fit x := by unfold Few at h; unfold Fit; omega
theorem own_flat1 {w : World} {g c : Nat} {t : TypeId} (L : List Int) (h : w.heap[g]? = some (.cells (L.flatMap fun x => [Value.int .i64 x]).toArray t (0, 0))) (hm : L.length ≤ 1000) (hc : L.length ≤ c) (hf : ∀ x ∈ L, Few x) :
    owS 1 owInt [g] w [.slice (some ⟨g, 0, none⟩) L.length c] L := by
  have h1 := owS_rows (P := owInt) (c := c) (fun x : Int => [Value.int .i64 x]) 1 (fun _ => rfl) L L (fun _ => []) h rfl ⟨by unfold maxLen; omega, hc⟩ fun j hj _ => ⟨rfl, rfl, (hf _ (List.getElem_mem hj)).fit⟩
  rw [flat_nil] at h1; exact h1
theorem own_flat2 {w : World} {g c : Nat} {t : TypeId} (L : List (Int × Int)) (h : w.heap[g]? = some (.cells (L.flatMap fun x => [Value.int .i64 x.1, .int .i64 x.2]).toArray t (0, 0))) (hm : L.length ≤ 1000) (hc : L.length ≤ c)
    (hf : ∀ x ∈ L, Few x.1 ∧ Few x.2) : owS 2 (ow2 owInt owInt) [g] w [.slice (some ⟨g, 0, none⟩) L.length c] L := by
  have h1 := owS_rows (P := ow2 owInt owInt) (c := c) (fun x : Int × Int => [Value.int .i64 x.1, .int .i64 x.2]) 2 (fun _ => rfl) L L (fun _ => []) h rfl ⟨by unfold maxLen; omega, hc⟩ fun j hj _ =>
    ⟨[], [], _, _, rfl, rfl, ⟨rfl, rfl, (hf _ (List.getElem_mem hj)).1.fit⟩, ⟨rfl, rfl, (hf _ (List.getElem_mem hj)).2.fit⟩⟩
  rw [flat_nil] at h1; exact h1
theorem own_flat3 {w : World} {g c : Nat} {t : TypeId} (L : List (Int × Int × Int)) (h : w.heap[g]? = some (.cells (L.flatMap fun x => [Value.int .i64 x.1, .int .i64 x.2.1, .int .i64 x.2.2]).toArray t (0, 0))) (hm : L.length ≤ 1000) (hc : L.length ≤ c)
    (hf : ∀ x ∈ L, Few x.1 ∧ Few x.2.1 ∧ Few x.2.2) : owS 3 (ow3 owInt owInt owInt) [g] w [.slice (some ⟨g, 0, none⟩) L.length c] L := by
  have h1 := owS_rows (P := ow3 owInt owInt owInt) (c := c) (fun x : Int × Int × Int => [Value.int .i64 x.1, .int .i64 x.2.1, .int .i64 x.2.2]) 3 (fun _ => rfl) L L (fun _ => []) h rfl ⟨by unfold maxLen; omega, hc⟩ fun j hj _ =>
    ⟨[], [], [], _, _, _, rfl, rfl, ⟨rfl, rfl, (hf _ (List.getElem_mem hj)).1.fit⟩, ⟨rfl, rfl, (hf _ (List.getElem_mem hj)).2.1.fit⟩, ⟨rfl, rfl, (hf _ (List.getElem_mem hj)).2.2.fit⟩⟩
  rw [flat_nil] at h1; exact h1
end Go.Proofs.Ytiejilmgchmppaa
