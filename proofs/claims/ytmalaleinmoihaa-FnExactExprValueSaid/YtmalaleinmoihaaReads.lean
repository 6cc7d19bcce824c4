/-
  Data that is read: what cells hold, down through slices of structs of slices; an argument of any such type.
-/
import Derived.Test.YtmalaleinmoihaaRecs
import Derived.Lib.SmallJoins
namespace Go.Proofs.Ytmalaleinmoihaa
open Go.RowKit
set_option linter.unusedVariables false

/-- How the cells of one element read as a datum; all that it reaches lies in the blocks B .. T - 1. -/
abbrev Rd (α : Type) := Nat → Nat → World → List Value → α → Prop
/-- A reading hangs on those blocks alone. -/
def Rd.Good {α : Type} (P : Rd α) : Prop := ∀ (B T B' T' : Nat) (w w' : World) (vs : List Value) (x : α), P B T w vs x → B' ≤ B → T ≤ T' → (∀ b, B ≤ b → b < T → w'.heap[b]? = w.heap[b]?) → P B' T' w' vs x
section
variable {α β γ δ : Type}
theorem Rd.Good.below {P : Rd α} (g : P.Good) {B T : Nat} {w w' : World} {vs : List Value} {x : α} (h : P B T w vs x) (hT : T ≤ w.heap.size) (hb : Below w.heap.size w w') : P B T w' vs x :=
  g B T B T w w' vs x h (Nat.le_refl _) (Nat.le_refl _) fun b _ hlt => hb.block b (Nat.lt_of_lt_of_le hlt hT)
theorem Rd.Good.wider {P : Rd α} (g : P.Good) {B T B' T' : Nat} {w : World} {vs : List Value} {x : α} (h : P B T w vs x) (hB : B' ≤ B) (hT : T ≤ T') : P B' T' w vs x :=
  g B T B' T' w w vs x h hB hT fun _ _ _ => rfl
/-- An int. -/
def rdInt : Rd Int := fun _ _ _ vs x => vs = [.int .i64 x] ∧ Fit x
theorem rdInt_good : rdInt.Good := fun _ _ _ _ _ _ _ _ h _ _ _ => h
/-- A slice whose elements are k cells each. -/
def rdS (k : Nat) (P : Rd α) : Rd (List α) := fun B T w vs L => ∃ A c, vs = [.slice A L.length c] ∧ (L.length ≤ maxLen ∧ L.length ≤ c) ∧
  ∀ j (hj : j < L.length), ∃ b o, A = some ⟨b, o, none⟩ ∧ B ≤ b ∧ b < T ∧ ∃ us : List Value, us.length = k ∧ (∀ i u, us[i]? = some u → w.cell? ⟨b, o + j * k + i, none⟩ = some u) ∧ P B T w us L[j]
theorem rdS_good (k : Nat) {P : Rd α} (g : P.Good) : (rdS k P).Good := by
  rintro B T B' T' w w' vs L ⟨A, c, e, hm, h⟩ hB hT hk
  refine ⟨A, c, e, hm, fun j hj => ?_⟩
  obtain ⟨b, o, hA, hb1, hb2, us, hl, hc, hp⟩ := h j hj
  refine ⟨b, o, hA, Nat.le_trans hB hb1, Nat.lt_of_lt_of_le hb2 hT, us, hl, fun i u hu => ?_, g B T B' T' w w' us _ hp hB hT hk⟩
  exact (World.cell?_of_block (w := w) (w' := w') (a := ⟨b, o + j * k + i, none⟩) (hk b hb1 hb2)).trans (hc i u hu)
/-- Structs of one-cell fields. -/
def rd1 (P : Rd α) : Rd α := fun B T w vs x => ∃ u, vs = [u] ∧ P B T w [u] x
def rd2 (P : Rd α) (Q : Rd β) : Rd (α × β) := fun B T w vs x => ∃ u0 u1, vs = [u0, u1] ∧ P B T w [u0] x.1 ∧ Q B T w [u1] x.2
def rd3 (P : Rd α) (Q : Rd β) (R : Rd γ) : Rd (α × β × γ) := fun B T w vs x => ∃ u0 u1 u2, vs = [u0, u1, u2] ∧ P B T w [u0] x.1 ∧ Q B T w [u1] x.2.1 ∧ R B T w [u2] x.2.2
def rd4 (P : Rd α) (Q : Rd β) (R : Rd γ) (S : Rd δ) : Rd (α × β × γ × δ) := fun B T w vs x => ∃ u0 u1 u2 u3, vs = [u0, u1, u2, u3] ∧ P B T w [u0] x.1 ∧ Q B T w [u1] x.2.1 ∧ R B T w [u2] x.2.2.1 ∧ S B T w [u3] x.2.2.2
theorem rd1_good {P : Rd α} (g : P.Good) : (rd1 P).Good := by
  rintro B T B' T' w w' vs x ⟨u, e, h⟩ hB hT hk
  exact ⟨u, e, g _ _ _ _ _ _ _ _ h hB hT hk⟩
theorem rd2_good {P : Rd α} {Q : Rd β} (g : P.Good) (k : Q.Good) : (rd2 P Q).Good := by
  rintro B T B' T' w w' vs x ⟨u0, u1, e, h0, h1⟩ hB hT hk
  exact ⟨u0, u1, e, g _ _ _ _ _ _ _ _ h0 hB hT hk, k _ _ _ _ _ _ _ _ h1 hB hT hk⟩
theorem rd3_good {P : Rd α} {Q : Rd β} {R : Rd γ} (g : P.Good) (k : Q.Good) (m : R.Good) : (rd3 P Q R).Good := by
  rintro B T B' T' w w' vs x ⟨u0, u1, u2, e, h0, h1, h2⟩ hB hT hk
  exact ⟨u0, u1, u2, e, g _ _ _ _ _ _ _ _ h0 hB hT hk, k _ _ _ _ _ _ _ _ h1 hB hT hk, m _ _ _ _ _ _ _ _ h2 hB hT hk⟩
theorem rd4_good {P : Rd α} {Q : Rd β} {R : Rd γ} {S : Rd δ} (g : P.Good) (k : Q.Good) (m : R.Good) (n : S.Good) : (rd4 P Q R S).Good := by
  rintro B T B' T' w w' vs x ⟨u0, u1, u2, u3, e, h0, h1, h2, h3⟩ hB hT hk
  exact ⟨u0, u1, u2, u3, e, g _ _ _ _ _ _ _ _ h0 hB hT hk, k _ _ _ _ _ _ _ _ h1 hB hT hk, m _ _ _ _ _ _ _ _ h2 hB hT hk, n _ _ _ _ _ _ _ _ h3 hB hT hk⟩
end

section
open Go.ChangeShapes Go.WideShapes Go.Deep
variable {H : Type} (enc : TypeId × Value → H) (P : Program) (w : World) {α β γ δ : Type}
/-- Every datum of type t that came in reads so. -/
def Comes (t : TypeId) (R : Rd α) : Prop := ∀ (fuel : Nat) (cs : List Value) (x : DataW H × List MemPlace), DataW.trod enc P w 0 (fun _ => true) true fuel t cs = some x → ∃ a, R 0 w.heap.size w cs a
variable {enc P w}
theorem comes_int {t : TypeId} (ht : P.underlying t = some (.int .i64)) : Comes enc P w t rdInt := by
  intro fuel cs x h
  obtain ⟨n, e, _, hw⟩ := DataW.trod_int ht h
  exact ⟨n, e, fit_wf hw⟩
theorem comes_slice {t e : TypeId} {R : Rd α} {k : Nat} (ht : P.underlying t = some (.slice e)) (hC : P.cellsOf e = k) (hk : 0 < k) (h : Comes enc P w e R) : Comes enc P w t (rdS k R) := by
  intro fuel cs x hf
  rcases open_slice ht hf with ⟨rfl, _⟩ | ⟨a, l, c, m, n, D, Pl, rfl, _, hl, hm, hmm, _, hi⟩
  · exact ⟨[], none, 0, rfl, by simp, fun j hj => absurd hj (by simp)⟩
  · simp only [if_true] at hmm
    subst hmm hC
    have hel : ∀ i : Fin l, ∃ z : α, ∃ us : List Value, us.length = P.cellsOf e ∧ (∀ j u, us[j]? = some u → w.cell? ((a.add (i.1 * P.cellsOf e)).add j) = some u) ∧ R 0 w.heap.size w us z := by
      intro i
      obtain ⟨cs', hc, htr⟩ := hi i.1 (Nat.lt_of_lt_of_le i.2 hl)
      obtain ⟨_, hlen, hat⟩ := World.cells?_some hc
      obtain ⟨z, hz⟩ := h n cs' _ htr
      refine ⟨z, cs', hlen, fun j u hu => ?_, hz⟩
      have hj := (List.getElem?_eq_some_iff.1 hu).1
      have := hat j (by rw [← hlen]; exact hj)
      rw [this, hu]
    refine ⟨List.ofFn fun i => Classical.choose (hel i), some a, m, by simp, by simp; omega, fun j hj => ?_⟩
    have hjl : j < l := by simpa using hj
    obtain ⟨b, o, spot⟩ := a
    obtain ⟨us, hu1, hu2, hu3⟩ := Classical.choose_spec (hel ⟨j, hjl⟩)
    have h0 : ∃ u, us[0]? = some u := ⟨us[0]'(by omega), List.getElem?_eq_getElem _⟩
    obtain ⟨u, hu⟩ := h0
    have hspot : spot = none := by
      obtain ⟨z', us', hl', hu', _⟩ := hel ⟨0, by omega⟩
      have h0' := hu' 0 (us'[0]'(by omega)) (List.getElem?_eq_getElem _)
      simpa [Addr.add] using World.cell?_spot h0'
    subst hspot
    refine ⟨b, o, rfl, Nat.zero_le _, ?_, us, hu1, fun i v hv => ?_, ?_⟩
    · have hs := hu2 0 u hu
      rw [Addr.add_mid, Addr.add_mid] at hs
      exact World.block_lt_of_cell? w _ hs
    · have hs := hu2 i v hv
      rw [Addr.add_mid, Addr.add_mid] at hs
      exact hs
    · simpa using hu3
theorem comes_1 {t : TypeId} {f0 : Field} {R : Rd α} (ht : P.underlying t = some (.struct #[f0])) (hone : oneCellFields P #[f0] = true) (hC : P.cellsOf t = 1) (h0 : Comes enc P w f0.type R) : Comes enc P w t (rd1 R) := by
  intro fuel cs x h
  obtain ⟨o0, k0⟩ := hone_of hone 0 f0 rfl
  obtain ⟨y0, n, _, hl, g0⟩ := trod_struct1 ht h
  rw [hC] at hl
  match cs, hl with
  | [u0], _ =>
    rw [o0, k0] at g0
    obtain ⟨z0, e0⟩ := h0 _ _ _ g0
    exact ⟨z0, u0, rfl, by simpa using e0⟩
theorem comes_2 {t : TypeId} {f0 f1 : Field} {R : Rd α} {S : Rd β} (ht : P.underlying t = some (.struct #[f0, f1])) (hone : oneCellFields P #[f0, f1] = true) (hC : P.cellsOf t = 2) (h0 : Comes enc P w f0.type R) (h1 : Comes enc P w f1.type S) :
    Comes enc P w t (rd2 R S) := by
  intro fuel cs x h
  obtain ⟨o0, k0⟩ := hone_of hone 0 f0 rfl
  obtain ⟨o1, k1⟩ := hone_of hone 1 f1 rfl
  obtain ⟨y0, y1, n, _, hl, g0, g1⟩ := trod_struct2 ht h
  rw [hC] at hl
  match cs, hl with
  | [u0, u1], _ =>
    rw [o0, k0] at g0
    rw [o1, k1] at g1
    obtain ⟨z0, e0⟩ := h0 _ _ _ g0
    obtain ⟨z1, e1⟩ := h1 _ _ _ g1
    exact ⟨(z0, z1), u0, u1, rfl, by simpa using e0, by simpa using e1⟩
theorem comes_3 {t : TypeId} {f0 f1 f2 : Field} {R : Rd α} {S : Rd β} {U : Rd γ} (ht : P.underlying t = some (.struct #[f0, f1, f2])) (hone : oneCellFields P #[f0, f1, f2] = true) (hC : P.cellsOf t = 3) (h0 : Comes enc P w f0.type R) (h1 : Comes enc P w f1.type S) (h2 : Comes enc P w f2.type U) :
    Comes enc P w t (rd3 R S U) := by
  intro fuel cs x h
  obtain ⟨o0, k0⟩ := hone_of hone 0 f0 rfl
  obtain ⟨o1, k1⟩ := hone_of hone 1 f1 rfl
  obtain ⟨o2, k2⟩ := hone_of hone 2 f2 rfl
  obtain ⟨y0, y1, y2, n, _, hl, g0, g1, g2⟩ := trod_struct3 ht h
  rw [hC] at hl
  match cs, hl with
  | [u0, u1, u2], _ =>
    rw [o0, k0] at g0
    rw [o1, k1] at g1
    rw [o2, k2] at g2
    obtain ⟨z0, e0⟩ := h0 _ _ _ g0
    obtain ⟨z1, e1⟩ := h1 _ _ _ g1
    obtain ⟨z2, e2⟩ := h2 _ _ _ g2
    exact ⟨(z0, z1, z2), u0, u1, u2, rfl, by simpa using e0, by simpa using e1, by simpa using e2⟩
theorem comes_4 {t : TypeId} {f0 f1 f2 f3 : Field} {R : Rd α} {S : Rd β} {U : Rd γ} {V : Rd δ} (ht : P.underlying t = some (.struct #[f0, f1, f2, f3])) (hone : oneCellFields P #[f0, f1, f2, f3] = true) (hC : P.cellsOf t = 4) (h0 : Comes enc P w f0.type R) (h1 : Comes enc P w f1.type S) (h2 : Comes enc P w f2.type U) (h3 : Comes enc P w f3.type V) :
    Comes enc P w t (rd4 R S U V) := by
  intro fuel cs x h
  obtain ⟨o0, k0⟩ := hone_of hone 0 f0 rfl
  obtain ⟨o1, k1⟩ := hone_of hone 1 f1 rfl
  obtain ⟨o2, k2⟩ := hone_of hone 2 f2 rfl
  obtain ⟨o3, k3⟩ := hone_of hone 3 f3 rfl
  obtain ⟨y0, y1, y2, y3, n, _, hl, g0, g1, g2, g3⟩ := Joins.trod_struct4 ht h
  rw [hC] at hl
  match cs, hl with
  | [u0, u1, u2, u3], _ =>
    rw [o0, k0] at g0
    rw [o1, k1] at g1
    rw [o2, k2] at g2
    rw [o3, k3] at g3
    obtain ⟨z0, e0⟩ := h0 _ _ _ g0
    obtain ⟨z1, e1⟩ := h1 _ _ _ g1
    obtain ⟨z2, e2⟩ := h2 _ _ _ g2
    obtain ⟨z3, e3⟩ := h3 _ _ _ g3
    exact ⟨(z0, z1, z2, z3), u0, u1, u2, u3, rfl, by simpa using e0, by simpa using e1, by simpa using e2, by simpa using e3⟩
end
end Go.Proofs.Ytmalaleinmoihaa
