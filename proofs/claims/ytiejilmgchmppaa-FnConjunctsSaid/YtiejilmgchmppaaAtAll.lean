/-
  AtB, AtN as one text.
-/
import Derived.Test.YtiejilmgchmppaaDpN
/- AtB: One element of a slice that is read, as cells. -/
namespace Go.Proofs.Ytiejilmgchmppaa
open Go.RowKit
set_option linter.unusedVariables false

theorem rdUp {α : Type} {P : Rd α} (g : P.Good) {B : Nat} {w w' : World} {vs : List Value} {x : α} (h : P B w.heap.size w vs x) (hb : Below w.heap.size w w') : P B w'.heap.size w' vs x :=
  g.wider (g.below h (Nat.le_refl _) hb) (Nat.le_refl _) hb.size
theorem slice_of {α : Type} {k : Nat} {P : Rd α} {B T : Nat} {w : World} {v : Value} {L : List α} (h : rdS k P B T w [v] L) : ∃ A c, v = .slice A L.length c ∧ L.length ≤ 9223372036854775807 ∧ L.length ≤ c := by
  obtain ⟨A, c, e, hm, _⟩ := h
  injection e with e
  unfold maxLen at hm
  exact ⟨A, c, e, hm⟩
/-- The tail of a slice that is read. -/
theorem rd_tail {α : Type} {k : Nat} {P : Rd α} {B T : Nat} {w : World} {A : Option Addr} {n c : Nat} {x : α} {R : List α} (h : rdS k P B T w [.slice A n c] (x :: R)) :
    rdS k P B T w [.slice (if c = 1 then A else A.map (·.add (1 * k))) R.length (c - 1)] R := by
  obtain ⟨A', c', e, hm, hA⟩ := h
  injection e with e
  injection e with e1 e2 e3
  subst e1 e2 e3
  rw [List.length_cons] at hm
  refine ⟨_, _, rfl, by omega, fun j hj => ?_⟩
  obtain ⟨b, q, rfl, h1, h2, us, hl, hc, hr⟩ := hA (j + 1) (by rw [List.length_cons]; omega)
  rw [if_neg (by omega)]
  refine ⟨b, q + 1 * k, by rw [Option.map_some, Addr.add_mid], h1, h2, us, hl, fun i u hu => ?_, by simpa using hr⟩
  have := hc i u hu
  rw [← this]
  congr 2
  rw [Nat.add_mul]; omega
theorem rd_cut {α : Type} {k : Nat} {P : Rd α} {B T : Nat} {w : World} {v : Value} {L : List α} {p : Nat} {x : α} (h : rdS k P B T w [v] (L.drop p)) (hx : L[p]? = some x) : rdS k P B T w [v] (x :: L.drop (p + 1)) := by
  obtain ⟨hp, rfl⟩ := List.getElem?_eq_some_iff.1 hx
  rw [← List.drop_eq_getElem_cons hp]; exact h
theorem at_Int {B T : Nat} {w : World} {A : Option Addr} {n c : Nat} {L : List Int} (h : rdIntS B T w [.slice A n c] L) {k : Nat} {x : Int} (hx : L[k]? = some x) :
    ∃ b q, A = some ⟨b, q, none⟩ ∧ b < T ∧ w.cell? ⟨b, q + k, none⟩ = some (.int .i64 x) ∧ Fit x := by
  obtain ⟨A', c', e, hm, hA⟩ := h
  injection e with e
  injection e with e1 e2 e3
  subst e1 e2 e3
  obtain ⟨hk, hx⟩ := List.getElem?_eq_some_iff.1 hx
  obtain ⟨b, q, rfl, _, hb, us, hl, hc, hr⟩ := hA k hk
  obtain ⟨rfl, hf⟩ := hr
  refine ⟨b, q, rfl, hb, ?_, by rw [← hx]; exact hf⟩
  have := hc 0 _ rfl
  rw [Nat.mul_one, Nat.add_zero] at this
  rw [this, hx]
end Go.Proofs.Ytiejilmgchmppaa
/- AtN: One element of a slice that is read, as cells, at the types of the family. -/
namespace Go.Proofs.Ytiejilmgchmppaa
open Go.RowKit
set_option linter.unusedVariables false

theorem at_Seq {B T : Nat} {w : World} {A : Option Addr} {n c : Nat} {L : List DSeq} (h : rdSeqS B T w [.slice A n c] L) {k : Nat} {x : DSeq} (hx : L[k]? = some x) :
    ∃ (b q : Nat) (A2 : Option Addr) (c2 : Nat), A = some ⟨b, q, none⟩ ∧ b < T ∧ w.cell? ⟨b, q + k * 3, none⟩ = some (.int .i64 x.1) ∧ Fit x.1 ∧ w.cell? ⟨b, q + k * 3 + 1, none⟩ = some (.int .i64 x.2.1) ∧ Fit x.2.1 ∧ w.cell? ⟨b, q + k * 3 + 2, none⟩ = some (.slice A2 (x.2.2).length c2) ∧ rdIntS B T w [.slice A2 (x.2.2).length c2] (x.2.2) := by
  obtain ⟨A', c', e, hm, hA⟩ := h
  injection e with e
  injection e with e1 e2 e3
  subst e1 e2 e3
  obtain ⟨hk, hx⟩ := List.getElem?_eq_some_iff.1 hx
  obtain ⟨b, q, rfl, _, hb, us, hl, hc, hr⟩ := hA k hk
  rw [hx] at hr
  obtain ⟨u0, u1, u2, rfl, h0, h1, h2⟩ := hr
  obtain ⟨e0, f0⟩ := h0
  injection e0 with e0
  subst e0
  obtain ⟨e1, f1⟩ := h1
  injection e1 with e1
  subst e1
  have k2 := h2
  obtain ⟨A2, c2, e2, -⟩ := k2
  injection e2 with e2
  subst e2
  exact ⟨b, q, A2, c2, rfl, hb, hc 0 _ rfl, f0, hc 1 _ rfl, f1, hc 2 _ rfl, h2⟩
theorem at_And {B T : Nat} {w : World} {A : Option Addr} {n c : Nat} {L : List DAnd} (h : rdAndS B T w [.slice A n c] L) {k : Nat} {x : DAnd} (hx : L[k]? = some x) :
    ∃ (b q : Nat), A = some ⟨b, q, none⟩ ∧ b < T ∧ w.cell? ⟨b, q + k * 2, none⟩ = some (.int .i64 x.1) ∧ Fit x.1 ∧ w.cell? ⟨b, q + k * 2 + 1, none⟩ = some (.int .i64 x.2) ∧ Fit x.2 := by
  obtain ⟨A', c', e, hm, hA⟩ := h
  injection e with e
  injection e with e1 e2 e3
  subst e1 e2 e3
  obtain ⟨hk, hx⟩ := List.getElem?_eq_some_iff.1 hx
  obtain ⟨b, q, rfl, _, hb, us, hl, hc, hr⟩ := hA k hk
  rw [hx] at hr
  obtain ⟨u0, u1, rfl, h0, h1⟩ := hr
  obtain ⟨e0, f0⟩ := h0
  injection e0 with e0
  subst e0
  obtain ⟨e1, f1⟩ := h1
  injection e1 with e1
  subst e1
  exact ⟨b, q, rfl, hb, hc 0 _ rfl, f0, hc 1 _ rfl, f1⟩
end Go.Proofs.Ytiejilmgchmppaa
