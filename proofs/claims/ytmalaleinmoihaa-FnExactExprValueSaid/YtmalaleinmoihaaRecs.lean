/-
  Slices of structs whose fields are one cell each: owned rows; a row that came in.
-/
import Derived.Test.YtmalaleinmoihaaQui
import Derived.Deep.AppendLies
import Derived.Deep.Slices
import Derived.Deep.Fields
import Derived.Lib.SmallJoins
import Derived.Deep.MidRow
import Derived.ChangeArms
import Derived.ChangeSame
import Derived.OpenShut
namespace Go.Proofs.Ytmalaleinmoihaa
open Go.RowKit
set_option linter.unusedVariables false

theorem rec_below {w w' : World} {B e size n : Nat} {v : Value} {xs : List Value} (h : w.ownsRow B e size v n xs) (hb : Below w.heap.size w w') : w'.ownsRow B e size v n xs :=
  h.kept (row := none) ⟨hb.os, hb.tape, hb.output, hb.size, fun k hk _ => hb.block k hk⟩ (by cases v.ownBlock <;> simp)
theorem flat_len {α : Type} (f : α → List Value) (k : Nat) (hf : ∀ x, (f x).length = k) : ∀ L : List α, (L.flatMap f).length = L.length * k
  | [] => by simp
  | x :: L => by
    rw [List.flatMap_cons, List.length_append, hf x, flat_len f k hf L, List.length_cons, Nat.succ_mul]
    omega
theorem flat_at {α : Type} (f : α → List Value) (k : Nat) (hf : ∀ x, (f x).length = k) : ∀ (L : List α) (j i : Nat) (hj : j < L.length), i < k → (L.flatMap f)[j * k + i]? = (f L[j])[i]?
  | [], j, i, hj, _ => absurd hj (by simp)
  | x :: L, 0, i, _, hi => by
    rw [List.flatMap_cons, Nat.zero_mul, Nat.zero_add, List.getElem?_append_left (by rw [hf x]; exact hi)]; rfl
  | x :: L, j + 1, i, hj, hi => by
    rw [List.flatMap_cons, List.getElem?_append_right (by rw [hf x, Nat.succ_mul]; omega), hf x, show (j + 1) * k + i - k = j * k + i by rw [Nat.succ_mul]; omega]
    exact flat_at f k hf L j i (by simpa using hj) hi
theorem flat_set {α : Type} (f : α → List Value) (k : Nat) (hf : ∀ x, (f x).length = k) (u : Value) : ∀ (L : List α) (j i : Nat) (y : α) (hj : j < L.length), i < k → f y = (f L[j]).set i u → (L.flatMap f).set (j * k + i) u = (L.set j y).flatMap f
  | [], j, i, y, hj, _, _ => absurd hj (by simp)
  | x :: L, 0, i, y, _, hi, hy => by
    rw [List.flatMap_cons, Nat.zero_mul, Nat.zero_add, List.set_append_left _ _ (by rw [hf x]; exact hi), List.set_cons_zero, List.flatMap_cons, hy]; rfl
  | x :: L, j + 1, i, y, hj, hi, hy => by
    rw [List.flatMap_cons, List.set_append_right _ _ (by rw [hf x, Nat.succ_mul]; omega), hf x, show (j + 1) * k + i - k = j * k + i by rw [Nat.succ_mul]; omega, List.set_cons_succ, List.flatMap_cons]
    rw [flat_set f k hf u L j i y (by simpa using hj) hi (by simpa using hy)]

/-- The slice value v owns the structs L: each is k cells, f. -/
def OwnsR {α : Type} (f : α → List Value) (k T : Nat) (w : World) (B : Nat) (v : Value) (L : List α) : Prop := w.ownsRow B T k v L.length (L.flatMap f)
section
variable {α : Type} {f : α → List Value} {k T : Nat} {w w' : World} {B : Nat} {v : Value} {L : List α}
theorem OwnsR.below (h : OwnsR f k T w B v L) (hb : Below w.heap.size w w') : OwnsR f k T w' B v L := rec_below h hb
theorem OwnsR.mono {B' : Nat} (h : OwnsR f k T w B v L) (hB : B' ≤ B) : OwnsR f k T w B' v L := by
  obtain ⟨h1, h2⟩ := h
  refine ⟨h1, ?_⟩
  rcases h2 with h2 | ⟨g, cap, cur, e1, e2, e3⟩
  · exact .inl h2
  · exact .inr ⟨g, cap, cur, e1, Nat.le_trans hB e2, e3⟩
theorem OwnsR.shape (hf : ∀ x, (f x).length = k) (h : OwnsR f k T w B v L) : ∃ A c, v = .slice A L.length c ∧
    ∀ j (hj : j < L.length), ∃ g, A = some ⟨g, 0, none⟩ ∧ ∀ i u, (f L[j])[i]? = some u → w.cell? ⟨g, j * k + i, none⟩ = some u ∧ w.frozen? ⟨g, j * k + i, none⟩ = false := by
  rcases h.2 with ⟨rfl, h0⟩ | ⟨g, cap, cur, rfl, _⟩
  · exact ⟨none, 0, by rw [h0], fun j hj => absurd hj (by omega)⟩
  · refine ⟨some ⟨g, 0, none⟩, cap, rfl, fun j hj => ⟨g, rfl, fun i u hu => ⟨?_, h.frozenAt _⟩⟩⟩
    have hi : i < k := by
      have := (List.getElem?_eq_some_iff.1 hu).1
      rwa [hf] at this
    have hlt : j * k + i < L.length * k := by
      have : (j + 1) * k ≤ L.length * k := Nat.mul_le_mul_right k hj
      rw [Nat.succ_mul] at this
      omega
    rw [h.cellAt _ hlt, flat_at f k hf L j i hj hi]
    exact hu
theorem ownR_nil (f : α → List Value) (k T : Nat) (w : World) (B : Nat) : OwnsR f k T w B (.slice none 0 0) ([] : List α) := World.ownsRow_nil _ _ _ _
theorem ownR_new (f : α → List Value) (k T : Nat) (w : World) (B : Nat) (hB : B ≤ w.heap.size) : OwnsR f k T (w.alloc (.cells #[] T)) B (.slice (some ⟨w.heap.size, 0, none⟩) 0 0) ([] : List α) :=
  World.ownsRow_lit w #[] 0 hB (by unfold maxLen; omega) (by simp)
/-- Behind an append of one struct. -/
theorem ownR_add {wr a w1 : World} {v' : Value} {x : α} (hown : OwnsR f k T wr B v L) (hsz : B ≤ wr.heap.size) (hbel : Below B w wr) (ha : Below wr.heap.size wr a) (hgrow : a.grownBy w1 v.ownBlock)
    (hown' : w1.ownsRow B T k v' (L.length + 1) (L.flatMap f ++ f x)) : OwnsR f k T w1 B v' (L ++ [x]) ∧ Below B w w1 := by
  refine ⟨?_, (hbel.trans (ha.mono hsz)).grown hgrow (Nat.le_trans hsz ha.size) (fun j hj => (hown.lt j hj).1)⟩
  unfold OwnsR
  rw [List.length_append, List.flatMap_append]
  simpa using hown'
/-- Behind a store into field i of struct j. -/
theorem OwnsR.stored (hf : ∀ x, (f x).length = k) {g c j i : Nat} {u : Value} {y : α} (h : OwnsR f k T w B (.slice (some ⟨g, 0, none⟩) L.length c) L) (hj : j < L.length) (hi : i < k) (hy : f y = (f L[j]).set i u) :
    OwnsR f k T (w.setCell ⟨g, j * k + i, none⟩ u) B (.slice (some ⟨g, 0, none⟩) L.length c) (L.set j y) ∧ w.grownBy (w.setCell ⟨g, j * k + i, none⟩ u) (some g) := by
  have hst := World.ownsRow.stored h (j * k + i) u
  rw [flat_set f k hf u L j i y hj hi hy] at hst
  refine ⟨?_, hst.2⟩
  unfold OwnsR
  rw [List.length_set]
  exact hst.1
theorem OwnsR.setFar {g i : Nat} {u : Value} (h : OwnsR f k T w B v L) (hne : v.ownBlock ≠ some g) : OwnsR f k T (w.setCell ⟨g, i, none⟩ u) B v L :=
  World.ownsRow.kept h (row := some g) ⟨rfl, rfl, rfl, by simp, fun j hj hne => Below.heap_setCell w _ _ j (by intro e; exact hne (by rw [e]))⟩ (by
    cases hv : v.ownBlock with
    | none => exact .inl rfl
    | some j => exact .inr (fun e => hne (by rw [hv, e])))
end
/-- Two ints. -/
def fP (x : Int × Int) : List Value := [.int .i64 x.1, .int .i64 x.2]
theorem fP_len (x : Int × Int) : (fP x).length = 2 := rfl

/-- A slice of structs of two ints that came in. -/
def RowP (w : World) (a : Option Addr) (len : Nat) (zs : List (Int × Int)) : Prop :=
  len ≤ maxLen ∧ zs.length = len ∧ ∀ j (hj : j < zs.length), ∃ b o, a = some ⟨b, o, none⟩ ∧ b < w.heap.size ∧ w.cell? ⟨b, o + j * 2, none⟩ = some (.int .i64 zs[j].1) ∧ w.cell? ⟨b, o + j * 2 + 1, none⟩ = some (.int .i64 zs[j].2)
theorem RowP.below {w w' : World} {a : Option Addr} {len : Nat} {zs : List (Int × Int)} (h : RowP w a len zs) (hb : Below w.heap.size w w') : RowP w' a len zs :=
  ⟨h.1, h.2.1, fun j hj => by
    obtain ⟨b, o, e, hl, h1, h2⟩ := h.2.2 j hj
    exact ⟨b, o, e, Nat.lt_of_lt_of_le hl hb.size, keep hb h1, keep hb h2⟩⟩

/-- A number that an int64 holds. -/
def Fit (v : Int) : Prop := -9223372036854775808 ≤ v ∧ v ≤ 9223372036854775807
theorem fit_wf {v : Int} (h : (Lit.int .i64 v).wf = true) : Fit v := by
  have e1 : IntKind.i64.min = -9223372036854775808 := by decide
  have e2 : IntKind.i64.max = 9223372036854775807 := by decide
  simp [Lit.wf] at h
  unfold Fit; omega
theorem fit_nat (n : Nat) (h : n ≤ 65535) : Fit (n : Int) := by unfold Fit; omega
/-- Fields that int64s hold. -/
def Wide (L : List (Int × Int)) : Prop := ∀ z ∈ L, Fit z.1 ∧ Fit z.2

section
open Go.ChangeShapes Go.WideShapes Go.Deep
variable {H : Type} {enc : TypeId × Value → H} {P : Program} {w : World}
/-- An argument that is a slice of structs of two ints. -/
theorem rowP_of {t e : TypeId} {f0 f1 : Field} {a : Option Addr} {len cap : Nat} {d : DataW H} {p : List MemPlace} (ht : P.underlying t = some (.slice e)) (he : P.underlying e = some (.struct #[f0, f1]))
    (hone : oneCellFields P #[f0, f1] = true) (hC : P.cellsOf e = 2) (i0 : P.underlying f0.type = some (.int .i64)) (i1 : P.underlying f1.type = some (.int .i64))
    (h : DataW.Trod enc P w 0 (fun _ => true) true t (.slice a len cap) d p) : ∃ zs, RowP w a len zs ∧ Wide zs := by
  obtain ⟨fuel, hf⟩ := h
  obtain ⟨o0, k0⟩ := hone_of hone 0 f0 rfl
  obtain ⟨o1, k1⟩ := hone_of hone 1 f1 rfl
  rcases open_slice ht hf with ⟨hcs, _⟩ | ⟨x, l, c, m, n, D, Pl, hcs, _, hl, hm, hmm, _, hi⟩
  · simp [Value.cells] at hcs
    obtain ⟨rfl, rfl, rfl⟩ := hcs
    exact ⟨[], ⟨by unfold maxLen; omega, rfl, fun j hj => absurd hj (by simp)⟩, fun z hz => by simp at hz⟩
  · simp [Value.cells] at hcs
    obtain ⟨rfl, rfl, rfl⟩ := hcs
    simp only [if_true] at hmm
    subst hmm
    have hel : ∀ i : Fin len, ∃ z : Int × Int, w.cell? (x.add (i.1 * 2)) = some (.int .i64 z.1) ∧ w.cell? (x.add (i.1 * 2 + 1)) = some (.int .i64 z.2) ∧ Fit z.1 ∧ Fit z.2 := by
      intro i
      obtain ⟨cs', hc, htr⟩ := hi i.1 (Nat.lt_of_lt_of_le i.2 hl)
      rw [hC] at hc
      obtain ⟨_, hlen, hat⟩ := World.cells?_some hc
      match cs', hlen with
      | [u0, u1], _ =>
        obtain ⟨y0, y1, n', _, _, h0, h1⟩ := trod_struct2 he htr
        rw [o0, k0] at h0
        rw [o1, k1] at h1
        obtain ⟨z0, e0, _, f0w⟩ := DataW.trod_int i0 h0
        obtain ⟨z1, e1, _, f1w⟩ := DataW.trod_int i1 h1
        simp only [List.drop_zero, List.take_succ_cons, List.take_zero, List.drop_succ_cons, List.cons.injEq, and_true] at e0 e1
        have c0 := hat 0 (by omega)
        have c1 := hat 1 (by omega)
        rw [Addr.add_add] at c0 c1
        exact ⟨(z0, z1), by rw [show i.1 * 2 + 0 = i.1 * 2 from rfl] at c0; rw [c0]; simp [e0], by rw [c1]; simp [e1], fit_wf f0w, fit_wf f1w⟩
    refine ⟨List.ofFn fun i => Classical.choose (hel i), ⟨Nat.le_trans hl hm, by simp, fun j hj => ?_⟩, fun z hz => ?_⟩
    rotate_left
    · obtain ⟨i, rfl⟩ := List.mem_ofFn.1 hz
      exact (Classical.choose_spec (hel i)).2.2
    have hjl : j < len := by simpa using hj
    obtain ⟨b, o, spot⟩ := x
    have hz := hel ⟨0, by omega⟩
    have hspot : spot = none := by
      obtain ⟨z, z0, _⟩ := hz
      simpa [Addr.add] using World.cell?_spot z0
    subst hspot
    have hs := Classical.choose_spec (hel ⟨j, hjl⟩)
    simp only [List.getElem_ofFn]
    generalize Classical.choose (hel ⟨j, hjl⟩) = z at hs ⊢
    rw [Addr.add_mid, Addr.add_mid] at hs
    refine ⟨b, o, rfl, World.block_lt_of_cell? w _ hs.1, hs.1, ?_⟩
    rw [show o + j * 2 + 1 = o + (j * 2 + 1) by omega]
    exact hs.2.1
end
end Go.Proofs.Ytmalaleinmoihaa
