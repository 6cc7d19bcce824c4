/-
  Data that is read and may be written: the cells of its slices are not frozen; a walk that puts ints in the place of ints.
-/
import Derived.Test.YtikibabknlpnkaaDoorRows4
namespace Go.Proofs.YtikibabknlpnkaaDoor
open Go.RowKit
set_option linter.unusedVariables false

/-- A slice whose elements are k cells each, none of them frozen. -/
def rwS {α : Type} (k : Nat) (P : Rd α) : Rd (List α) := fun B T w vs L => ∃ A c, vs = [.slice A L.length c] ∧ L.length ≤ maxLen ∧
  ∀ j (hj : j < L.length), ∃ b o, A = some ⟨b, o, none⟩ ∧ B ≤ b ∧ b < T ∧ ∃ us : List Value, us.length = k ∧ (∀ i u, us[i]? = some u → w.cell? ⟨b, o + j * k + i, none⟩ = some u ∧ w.frozen? ⟨b, o + j * k + i, none⟩ = false) ∧ P B T w us L[j]
theorem rwS_good {α : Type} (k : Nat) {P : Rd α} (g : P.Good) : (rwS k P).Good := by
  rintro B T B' T' w w' vs L ⟨A, c, e, hm, h⟩ hB hT hk
  refine ⟨A, c, e, hm, fun j hj => ?_⟩
  obtain ⟨b, o, hA, hb1, hb2, us, hl, hc, hp⟩ := h j hj
  refine ⟨b, o, hA, Nat.le_trans hB hb1, Nat.lt_of_lt_of_le hb2 hT, us, hl, fun i u hu => ⟨?_, ?_⟩, g B T B' T' w w' us _ hp hB hT hk⟩
  · exact (World.cell?_of_block (w := w) (w' := w') (a := ⟨b, o + j * k + i, none⟩) (hk b hb1 hb2)).trans (hc i u hu).1
  · exact (World.frozen?_of_block (w := w) (w' := w') (a := ⟨b, o + j * k + i, none⟩) (hk b hb1 hb2)).trans (hc i u hu).2
def Rd.Le {α : Type} (P Q : Rd α) : Prop := ∀ (B T : Nat) (w : World) (vs : List Value) (x : α), P B T w vs x → Q B T w vs x
section
variable {α β γ δ : Type}
theorem Rd.Le.refl (P : Rd α) : Rd.Le P P := fun _ _ _ _ _ h => h
theorem rwS_le (k : Nat) {P Q : Rd α} (g : Rd.Le P Q) : Rd.Le (rwS k P) (rdS k Q) := by
  rintro B T w vs L ⟨A, c, e, hm, h⟩
  refine ⟨A, c, e, hm, fun j hj => ?_⟩
  obtain ⟨b, o, hA, hb1, hb2, us, hl, hc, hp⟩ := h j hj
  exact ⟨b, o, hA, hb1, hb2, us, hl, fun i u hu => (hc i u hu).1, g _ _ _ _ _ hp⟩
theorem rd1_le {P P' : Rd α} (g : Rd.Le P P') : Rd.Le (rd1 P) (rd1 P') := by
  rintro B T w vs x ⟨u, e, h⟩; exact ⟨u, e, g _ _ _ _ _ h⟩
theorem rd2_le {P P' : Rd α} {Q Q' : Rd β} (g : Rd.Le P P') (k : Rd.Le Q Q') : Rd.Le (rd2 P Q) (rd2 P' Q') := by
  rintro B T w vs x ⟨u0, u1, e, h0, h1⟩; exact ⟨u0, u1, e, g _ _ _ _ _ h0, k _ _ _ _ _ h1⟩
theorem rd3_le {P P' : Rd α} {Q Q' : Rd β} {R R' : Rd γ} (g : Rd.Le P P') (k : Rd.Le Q Q') (m : Rd.Le R R') : Rd.Le (rd3 P Q R) (rd3 P' Q' R') := by
  rintro B T w vs x ⟨u0, u1, u2, e, h0, h1, h2⟩; exact ⟨u0, u1, u2, e, g _ _ _ _ _ h0, k _ _ _ _ _ h1, m _ _ _ _ _ h2⟩
theorem rd4_le {P P' : Rd α} {Q Q' : Rd β} {R R' : Rd γ} {S S' : Rd δ} (g : Rd.Le P P') (k : Rd.Le Q Q') (m : Rd.Le R R') (n : Rd.Le S S') : Rd.Le (rd4 P Q R S) (rd4 P' Q' R' S') := by
  rintro B T w vs x ⟨u0, u1, u2, u3, e, h0, h1, h2, h3⟩; exact ⟨u0, u1, u2, u3, e, g _ _ _ _ _ h0, k _ _ _ _ _ h1, m _ _ _ _ _ h2, n _ _ _ _ _ h3⟩
end

/-- An int stands where an int stood; else nothing has changed. -/
def Sim (u u' : Value) : Prop := u' = u ∨ ∃ x y : Int, u = .int .i64 x ∧ u' = .int .i64 y
theorem Sim.trans {a b c : Value} (h : Sim a b) (k : Sim b c) : Sim a c := by
  rcases h with rfl | ⟨x, y, rfl, rfl⟩
  · exact k
  · rcases k with rfl | ⟨x', y', _, rfl⟩
    · exact .inr ⟨x, y, rfl, rfl⟩
    · exact .inr ⟨x, y', rfl, rfl⟩
/-- From w to w' ints of the blocks B .. T - 1 have turned to ints, and new blocks have come. -/
structure Sims (B T : Nat) (w w' : World) : Prop where
  os : w'.os = w.os
  tape : w'.tape = w.tape
  output : w'.output = w.output
  size : w.heap.size ≤ w'.heap.size
  block : ∀ k, k < w.heap.size → (k < B ∨ T ≤ k) → w'.heap[k]? = w.heap[k]?
  cell : ∀ (b o : Nat) (u : Value), B ≤ b → b < T → w.cell? ⟨b, o, none⟩ = some u → ∃ u', w'.cell? ⟨b, o, none⟩ = some u' ∧ Sim u u'
  froz : ∀ (b o : Nat) (u : Value), B ≤ b → b < T → w.cell? ⟨b, o, none⟩ = some u → w.frozen? ⟨b, o, none⟩ = false → w'.frozen? ⟨b, o, none⟩ = false
theorem Sims.refl (B T : Nat) (w : World) : Sims B T w w := ⟨rfl, rfl, rfl, Nat.le_refl _, fun _ _ _ => rfl, fun _ _ u _ _ h => ⟨u, h, .inl rfl⟩, fun _ _ _ _ _ _ h => h⟩
theorem Sims.below {B T : Nat} {w w1 w2 : World} (h : Sims B T w w1) (hb : Below w1.heap.size w1 w2) : Sims B T w w2 :=
  ⟨hb.os.trans h.os, hb.tape.trans h.tape, hb.output.trans h.output, Nat.le_trans h.size hb.size, fun k hk hh => (hb.block k (Nat.lt_of_lt_of_le hk h.size)).trans (h.block k hk hh),
    fun b o u h1 h2 hc => by
      obtain ⟨u', hc', hs⟩ := h.cell b o u h1 h2 hc
      exact ⟨u', keep hb hc', hs⟩,
    fun b o u h1 h2 hc hf => by
      obtain ⟨u', hc', hs⟩ := h.cell b o u h1 h2 hc
      exact keepF hb hc' (h.froz b o u h1 h2 hc hf)⟩
theorem Sims.set {B T : Nat} {w w1 : World} (h : Sims B T w w1) {b o : Nat} {x : Int} (h1 : B ≤ b) (h2 : b < T) (hc : w1.cell? ⟨b, o, none⟩ = some (.int .i64 x)) (y : Int) : Sims B T w (w1.setCell ⟨b, o, none⟩ (.int .i64 y)) := by
  refine ⟨h.os, h.tape, h.output, by simpa [World.setCell] using h.size, fun k hk hh => ?_, fun b' o' u g1 g2 hc' => ?_, fun b' o' u g1 g2 hc' hf => ?_⟩
  · rw [heap_setCell_other w1 ⟨b, o, none⟩ k _ (by intro e; dsimp only at e; omega)]; exact h.block k hk hh
  · obtain ⟨u', hu, hs⟩ := h.cell b' o' u g1 g2 hc'
    by_cases e : (⟨b', o', none⟩ : Addr) = ⟨b, o, none⟩
    · rw [e] at hu ⊢
      rw [hc] at hu
      injection hu with hu
      subst hu
      exact ⟨.int .i64 y, World.cell?_setCell_same' w1 _ _ (by rw [hc]; rfl), hs.trans (.inr ⟨x, y, rfl, rfl⟩)⟩
    · rw [World.cell?_setCell_other w1 ⟨b, o, none⟩ ⟨b', o', none⟩ _ (fun e' => e e'.symm)]
      exact ⟨u', hu, hs⟩
  · rw [World.frozen?_setCell]
    exact h.froz b' o' u g1 g2 hc' hf
/-- What the walk needs of a cell. -/
theorem Sims.int {B T : Nat} {w w1 : World} (h : Sims B T w w1) {b o : Nat} {x : Int} (h1 : B ≤ b) (h2 : b < T) (hc : w.cell? ⟨b, o, none⟩ = some (.int .i64 x) ∧ w.frozen? ⟨b, o, none⟩ = false) :
    ∃ y : Int, w1.cell? ⟨b, o, none⟩ = some (.int .i64 y) ∧ w1.frozen? ⟨b, o, none⟩ = false := by
  obtain ⟨u', hu, hs⟩ := h.cell b o _ h1 h2 hc.1
  rcases hs with rfl | ⟨_, y, _, rfl⟩
  · exact ⟨x, hu, h.froz b o _ h1 h2 hc.1 hc.2⟩
  · exact ⟨y, hu, h.froz b o _ h1 h2 hc.1 hc.2⟩
theorem Sims.slice {B T : Nat} {w w1 : World} (h : Sims B T w w1) {b o : Nat} {A : Option Addr} {n c : Nat} (h1 : B ≤ b) (h2 : b < T) (hc : w.cell? ⟨b, o, none⟩ = some (.slice A n c) ∧ w.frozen? ⟨b, o, none⟩ = false) :
    w1.cell? ⟨b, o, none⟩ = some (.slice A n c) := by
  obtain ⟨u', hu, hs⟩ := h.cell b o _ h1 h2 hc.1
  rcases hs with rfl | ⟨_, y, e, _⟩
  · exact hu
  · cases e
end Go.Proofs.YtikibabknlpnkaaDoor
