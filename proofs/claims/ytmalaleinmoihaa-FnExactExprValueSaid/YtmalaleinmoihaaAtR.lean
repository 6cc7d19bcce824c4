/-
  One element of a slice that is read, as cells, at the types of the family.
-/
import Derived.Test.YtmalaleinmoihaaAtB
import Derived.Test.YtmalaleinmoihaaDpAll
namespace Go.Proofs.Ytmalaleinmoihaa
open Go.RowKit
set_option linter.unusedVariables false

theorem at_Op {B T : Nat} {w : World} {A : Option Addr} {n c : Nat} {L : List DOp} (h : rdOpS B T w [.slice A n c] L) {k : Nat} {x : DOp} (hx : L[k]? = some x) :
    ∃ (b q : Nat), A = some ⟨b, q, none⟩ ∧ b < T ∧ w.cell? ⟨b, q + k * 3, none⟩ = some (.int .i64 x.1) ∧ Fit x.1 ∧ w.cell? ⟨b, q + k * 3 + 1, none⟩ = some (.int .i64 x.2.1) ∧ Fit x.2.1 ∧ w.cell? ⟨b, q + k * 3 + 2, none⟩ = some (.int .i64 x.2.2) ∧ Fit x.2.2 := by
  obtain ⟨A', c', e, hm, hA⟩ := h
  injection e with e
  injection e with e1 e2 e3
  subst e1 e2 e3
  obtain ⟨hk, hx⟩ := List.getElem?_eq_some_iff.1 hx
  obtain ⟨b, q, rfl, _, hb, us, hl, hc, hr⟩ := hA k hk
  rw [hx] at hr
  obtain ⟨u0, u1, u2, rfl, h0, h1, h2⟩ := hr
  obtain ⟨e0, f0⟩ := h0
  injection e0 with e0
  subst e0
  obtain ⟨e1, f1⟩ := h1
  injection e1 with e1
  subst e1
  obtain ⟨e2, f2⟩ := h2
  injection e2 with e2
  subst e2
  exact ⟨b, q, rfl, hb, hc 0 _ rfl, f0, hc 1 _ rfl, f1, hc 2 _ rfl, f2⟩
theorem at_Signal {B T : Nat} {w : World} {A : Option Addr} {n c : Nat} {L : List DSignal} (h : rdSignalS B T w [.slice A n c] L) {k : Nat} {x : DSignal} (hx : L[k]? = some x) :
    ∃ (b q : Nat), A = some ⟨b, q, none⟩ ∧ b < T ∧ w.cell? ⟨b, q + k * 3, none⟩ = some (.int .i64 x.1) ∧ Fit x.1 ∧ w.cell? ⟨b, q + k * 3 + 1, none⟩ = some (.int .i64 x.2.1) ∧ Fit x.2.1 ∧ w.cell? ⟨b, q + k * 3 + 2, none⟩ = some (.int .i64 x.2.2) ∧ Fit x.2.2 := by
  obtain ⟨A', c', e, hm, hA⟩ := h
  injection e with e
  injection e with e1 e2 e3
  subst e1 e2 e3
  obtain ⟨hk, hx⟩ := List.getElem?_eq_some_iff.1 hx
  obtain ⟨b, q, rfl, _, hb, us, hl, hc, hr⟩ := hA k hk
  rw [hx] at hr
  obtain ⟨u0, u1, u2, rfl, h0, h1, h2⟩ := hr
  obtain ⟨e0, f0⟩ := h0
  injection e0 with e0
  subst e0
  obtain ⟨e1, f1⟩ := h1
  injection e1 with e1
  subst e1
  obtain ⟨e2, f2⟩ := h2
  injection e2 with e2
  subst e2
  exact ⟨b, q, rfl, hb, hc 0 _ rfl, f0, hc 1 _ rfl, f1, hc 2 _ rfl, f2⟩
theorem at_Mem {B T : Nat} {w : World} {A : Option Addr} {n c : Nat} {L : List DMem} (h : rdMemS B T w [.slice A n c] L) {k : Nat} {x : DMem} (hx : L[k]? = some x) :
    ∃ (b q : Nat), A = some ⟨b, q, none⟩ ∧ b < T ∧ w.cell? ⟨b, q + k * 4, none⟩ = some (.int .i64 x.1) ∧ Fit x.1 ∧ w.cell? ⟨b, q + k * 4 + 1, none⟩ = some (.int .i64 x.2.1) ∧ Fit x.2.1 ∧ w.cell? ⟨b, q + k * 4 + 2, none⟩ = some (.int .i64 x.2.2.1) ∧ Fit x.2.2.1 ∧ w.cell? ⟨b, q + k * 4 + 3, none⟩ = some (.int .i64 x.2.2.2) ∧ Fit x.2.2.2 := by
  obtain ⟨A', c', e, hm, hA⟩ := h
  injection e with e
  injection e with e1 e2 e3
  subst e1 e2 e3
  obtain ⟨hk, hx⟩ := List.getElem?_eq_some_iff.1 hx
  obtain ⟨b, q, rfl, _, hb, us, hl, hc, hr⟩ := hA k hk
  rw [hx] at hr
  obtain ⟨u0, u1, u2, u3, rfl, h0, h1, h2, h3⟩ := hr
  obtain ⟨e0, f0⟩ := h0
  injection e0 with e0
  subst e0
  obtain ⟨e1, f1⟩ := h1
  injection e1 with e1
  subst e1
  obtain ⟨e2, f2⟩ := h2
  injection e2 with e2
  subst e2
  obtain ⟨e3, f3⟩ := h3
  injection e3 with e3
  subst e3
  exact ⟨b, q, rfl, hb, hc 0 _ rfl, f0, hc 1 _ rfl, f1, hc 2 _ rfl, f2, hc 3 _ rfl, f3⟩
theorem at_Assign {B T : Nat} {w : World} {A : Option Addr} {n c : Nat} {L : List DAssign} (h : rdAssignS B T w [.slice A n c] L) {k : Nat} {x : DAssign} (hx : L[k]? = some x) :
    ∃ (b q : Nat) (A1 : Option Addr) (c1 : Nat), A = some ⟨b, q, none⟩ ∧ b < T ∧ w.cell? ⟨b, q + k * 2, none⟩ = some (.int .i64 x.1) ∧ Fit x.1 ∧ w.cell? ⟨b, q + k * 2 + 1, none⟩ = some (.slice A1 (x.2).length c1) ∧ rdOpS B T w [.slice A1 (x.2).length c1] (x.2) := by
  obtain ⟨A', c', e, hm, hA⟩ := h
  injection e with e
  injection e with e1 e2 e3
  subst e1 e2 e3
  obtain ⟨hk, hx⟩ := List.getElem?_eq_some_iff.1 hx
  obtain ⟨b, q, rfl, _, hb, us, hl, hc, hr⟩ := hA k hk
  rw [hx] at hr
  obtain ⟨u0, u1, rfl, h0, h1⟩ := hr
  obtain ⟨e0, f0⟩ := h0
  injection e0 with e0
  subst e0
  have k1 := h1
  obtain ⟨A1, c1, e1, -⟩ := k1
  injection e1 with e1
  subst e1
  exact ⟨b, q, A1, c1, rfl, hb, hc 0 _ rfl, f0, hc 1 _ rfl, h1⟩
theorem at_Inst {B T : Nat} {w : World} {A : Option Addr} {n c : Nat} {L : List DInst} (h : rdInstS B T w [.slice A n c] L) {k : Nat} {x : DInst} (hx : L[k]? = some x) :
    ∃ (b q : Nat) (A2 : Option Addr) (c2 : Nat), A = some ⟨b, q, none⟩ ∧ b < T ∧ w.cell? ⟨b, q + k * 3, none⟩ = some (.int .i64 x.1) ∧ Fit x.1 ∧ w.cell? ⟨b, q + k * 3 + 1, none⟩ = some (.int .i64 x.2.1) ∧ Fit x.2.1 ∧ w.cell? ⟨b, q + k * 3 + 2, none⟩ = some (.slice A2 (x.2.2).length c2) ∧ rdIntS B T w [.slice A2 (x.2.2).length c2] (x.2.2) := by
  obtain ⟨A', c', e, hm, hA⟩ := h
  injection e with e
  injection e with e1 e2 e3
  subst e1 e2 e3
  obtain ⟨hk, hx⟩ := List.getElem?_eq_some_iff.1 hx
  obtain ⟨b, q, rfl, _, hb, us, hl, hc, hr⟩ := hA k hk
  rw [hx] at hr
  obtain ⟨u0, u1, u2, rfl, h0, h1, h2⟩ := hr
  obtain ⟨e0, f0⟩ := h0
  injection e0 with e0
  subst e0
  obtain ⟨e1, f1⟩ := h1
  injection e1 with e1
  subst e1
  have k2 := h2
  obtain ⟨A2, c2, e2, -⟩ := k2
  injection e2 with e2
  subst e2
  exact ⟨b, q, A2, c2, rfl, hb, hc 0 _ rfl, f0, hc 1 _ rfl, f1, hc 2 _ rfl, h2⟩
end Go.Proofs.Ytmalaleinmoihaa
