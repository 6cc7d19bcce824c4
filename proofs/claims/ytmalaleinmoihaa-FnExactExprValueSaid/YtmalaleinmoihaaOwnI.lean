/-
  Slices of ints of one's own: stores, readings, owned data; copies of slices of ints; blocks behind an append.
-/
import Derived.Test.YtmalaleinmoihaaIntS
import Derived.Test.YtmalaleinmoihaaAppG
import Derived.Test.YtmalaleinmoihaaDtAll
import Derived.Test.YtmalaleinmoihaaDoAll
import Derived.Lib.SliceRun
namespace Go.Proofs.Ytmalaleinmoihaa
open Go.RowKit
set_option linter.unusedVariables false
set_option linter.unusedSimpArgs false

theorem OwnsI.lower {w : World} {B B' : Nat} {v : Value} {L : List Int} (h : OwnsI w B v L) (hB : B' ≤ B) : OwnsI w B' v L := by
  obtain ⟨h1, h2⟩ := h
  refine ⟨h1, ?_⟩
  rcases h2 with h2 | ⟨g, cap, cur, e1, e2, e3⟩
  · exact .inl h2
  · exact .inr ⟨g, cap, cur, e1, Nat.le_trans hB e2, e3⟩
theorem infoI : (Try.prog.info? 3).map (fun i => (i.zero, i.size, i.bytes)) = some (some (.int .i64 0), 1, 8) := by kernel_rfl
theorem row_far {B e k n : Nat} {w : World} {v : Value} {xs : List Value} (h : w.ownsRow B e k v n xs) {g i : Nat} {u : Value} (hne : v.ownBlock ≠ some g) : (w.setCell ⟨g, i, none⟩ u).ownsRow B e k v n xs :=
  World.ownsRow.kept h (row := some g) ⟨rfl, rfl, rfl, by simp, fun j hj hne => Below.heap_setCell w _ _ j (by intro e; exact hne (by rw [e]))⟩ (by
    cases hv : v.ownBlock with
    | none => exact .inl rfl
    | some j => exact .inr (fun e => hne (by rw [hv, e])))
theorem rowOf {α : Type} {f : α → List Value} {k T B : Nat} {w : World} {v : Value} {rows : List α} (h : OwnsR f k T w B v rows) : w.ownsRow B T k v rows.length (rows.flatMap f) := h
theorem grownC {w w' : World} {row : Option Nat} (h : w.grownBy w' row) {b o : Nat} {v : Value} (hc : w.cell? ⟨b, o, none⟩ = some v) (hne : row ≠ some b) : w'.cell? ⟨b, o, none⟩ = some v := by
  rw [World.cell?_of_block (h.block b (World.block_lt_of_cell? _ _ hc) (fun e => hne e.symm))]; exact hc
theorem grownZ {w w' : World} {row : Option Nat} (h : w.grownBy w' row) {b o : Nat} {v : Value} (hc : w.cell? ⟨b, o, none⟩ = some v) (hf : w.frozen? ⟨b, o, none⟩ = false) (hne : row ≠ some b) : w'.frozen? ⟨b, o, none⟩ = false := by
  rw [World.frozen?_of_block (h.block b (World.block_lt_of_cell? _ _ hc) (fun e => hne e.symm))]; exact hf
theorem nodup_new {L C : List Nat} {N : Nat} (hL : L.Nodup) (hC : C.Nodup) (h1 : ∀ b ∈ L, b < N) (h2 : ∀ b ∈ C, N ≤ b) : (L ++ C).Nodup := by
  rw [List.nodup_append]
  exact ⟨hL, hC, fun a ha b hb e => by have := h1 a ha; have := h2 b hb; omega⟩
theorem ownI_set {w : World} {B g n c : Nat} {L : List Int} (h : OwnsI w B (.slice (some ⟨g, 0, none⟩) n c) L) (hn : L.length = n) {k : Nat} (hk : k < n) (x : Int) : OwnsI (w.setCell ⟨g, k, none⟩ (.int .i64 x)) B (.slice (some ⟨g, 0, none⟩) n c) (L.set k x) := by
  unfold OwnsI at h ⊢
  subst hn
  have h1 := (h.stored k (vI x)).1
  rw [List.length_set, List.map_set]
  exact h1
theorem ownI_cell {w : World} {B g n c : Nat} {L : List Int} (h : OwnsI w B (.slice (some ⟨g, 0, none⟩) n c) L) {k : Nat} (hn : L.length = n) (hk : k < n) : w.cell? ⟨g, k, none⟩ = some (.int .i64 (L.getD k 0)) ∧ w.frozen? ⟨g, k, none⟩ = false := by
  obtain ⟨A, c', hv, hsh⟩ := h.shape
  injection hv with e1 e2 e3
  obtain ⟨g', hg, h1, h2⟩ := hsh k (by omega)
  rw [← e1] at hg; injection hg with hg; injection hg with hg; subst hg
  exact ⟨h1, h2⟩
theorem ownI_far {w : World} {B g k : Nat} {v u : Value} {L : List Int} (h : OwnsI w B v L) (hne : v.ownBlock ≠ some g) : OwnsI (w.setCell ⟨g, k, none⟩ u) B v L := by
  unfold OwnsI at h ⊢
  exact row_far h hne
/-- As an owned datum. -/
theorem ownI_ow {w : World} {B : Nat} {v : Value} {L : List Int} (h : OwnsI w B v L) (hf : ∀ x ∈ L, Fit x) : owIntS (blkL v) w [v] L := by
  have hA := h.shape
  rcases h.2 with ⟨rfl, h0⟩ | ⟨g, cap, cur, rfl, e2, e3, e4, e5, e6⟩
  · have : L = [] := List.eq_nil_of_length_eq_zero h0
    subst this
    exact ⟨none, 0, rfl, by simp, .inl ⟨rfl, rfl⟩⟩
  · obtain ⟨A, c, hv, hsh⟩ := hA
    injection hv with h1 h2 h3
    refine ⟨_, _, rfl, by omega, .inr ⟨g, 0, fun _ => [], rfl, by simp [blkL_at], (Array.getElem?_eq_some_iff.1 e3).1, fun j hj => ?_⟩⟩
    obtain ⟨g', hg, hc, hz⟩ := hsh j hj
    rw [← h1] at hg
    injection hg with hg
    injection hg with hg
    subst hg
    refine ⟨[.int .i64 L[j]], rfl, fun i u hu => ?_, rfl, rfl, hf _ (List.getElem_mem hj)⟩
    match i, hu with
    | 0, hu =>
      injection hu with hu
      subst hu
      rw [Nat.zero_add, Nat.mul_one, Nat.add_zero]
      refine ⟨?_, hz⟩
      rw [hc, List.getD_eq_getElem?_getD, List.getElem?_eq_getElem hj]
      rfl
theorem ownI_rd {w : World} {B : Nat} {v : Value} {L : List Int} (h : OwnsI w B v L) (hf : ∀ x ∈ L, Fit x) : rdIntS 0 w.heap.size w [v] L := by
  have hA := h.shape
  rcases h.2 with ⟨rfl, h0⟩ | ⟨g, cap, cur, rfl, e2, e3, e4, e5, e6⟩
  · have : L = [] := List.eq_nil_of_length_eq_zero h0
    subst this
    exact ⟨none, 0, rfl, by simp, fun j hj => absurd hj (by simp)⟩
  · obtain ⟨A, c, hv, hsh⟩ := hA
    injection hv with h1 h2 h3
    refine ⟨_, _, rfl, by omega, fun j hj => ?_⟩
    obtain ⟨g', hg, hc, _⟩ := hsh j hj
    rw [← h1] at hg
    injection hg with hg
    injection hg with hg
    subst hg
    refine ⟨g, 0, rfl, Nat.zero_le _, (Array.getElem?_eq_some_iff.1 e3).1, [.int .i64 L[j]], rfl, fun i u hu => ?_, rfl, hf _ (List.getElem_mem hj)⟩
    match i, hu with
    | 0, hu =>
      injection hu with hu
      subst hu
      rw [Nat.zero_add, Nat.mul_one, Nat.add_zero, hc, List.getD_eq_getElem?_getD, List.getElem?_eq_getElem hj]
      rfl
theorem NewsAt.below {w w' : World} {A : Option Addr} {m : Nat} {news : List Value} (h : NewsAt w A m news) (hb : Below w.heap.size w w') : NewsAt w' A m news := by
  rcases h with h | ⟨ad, e, h⟩
  · exact .inl h
  · exact .inr ⟨ad, e, fun j u hu => keep hb (h j u hu)⟩
def fInt (x : Int) : List Value := [.int .i64 x]
theorem fInt_len (x : Int) : (fInt x).length = 1 := rfl
theorem fInt_one (L : List Int) : ∀ u ∈ L.flatMap fInt, u.oneCell' = true := fun u hu => by
  obtain ⟨c, _, hc⟩ := List.mem_flatMap.1 hu
  simp only [fInt, List.mem_cons, List.not_mem_nil, or_false] at hc
  subst hc; rfl
theorem usInt (B T : Nat) (w : World) (us : List Value) (x : Int) (h : rdInt B T w us x) : us = fInt x := h.1
theorem owInt_of {B T : Nat} {w : World} {us : List Value} {x : Int} (h : rdInt B T w us x) (w' : World) : owInt [] w' (fInt x) x := ⟨rfl, rfl, h.2⟩
theorem copyInt {L : List Int} {B T B' : Nat} {w w' : World} {u v : Value} (h : rdS 1 rdInt B T w [u] L) (hr : w'.ownsRow B' 3 1 v L.length (L.flatMap fInt)) : GrR fInt 1 3 owInt B' [] w' v L L := by
  obtain ⟨_, _, _, _, hA⟩ := h
  refine GrR.ofRow hr rfl fun j hj hj' => ?_
  obtain ⟨b, o, _, _, _, us, _, _, hp⟩ := hA j hj
  exact owInt_of hp w'
theorem flat_vI (L : List Int) : L.flatMap fInt = L.map vI := by
  induction L with
  | nil => rfl
  | cons x L ih => rw [List.flatMap_cons, ih]; rfl
end Go.Proofs.Ytmalaleinmoihaa
