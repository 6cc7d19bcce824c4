/-
  Qui, Recs, Reads as one text.
-/
import Derived.Test.YtiejilmgchmppaaRows
import Derived.WalkKit
import Derived.WalkSpells
import Derived.WalkLawsBesides
import Derived.Lib.Hide
import Derived.Laws.ResultCell
import Derived.Below
import Derived.Deep.QuietTactic
import Derived.BigQuiet
import Derived.Deep.AppendLies
import Derived.Deep.Slices
import Derived.Deep.Fields
import Derived.Lib.SmallJoins
import Derived.Deep.MidRow
import Derived.ChangeArms
import Derived.ChangeSame
import Derived.OpenShut
/- Qui: Small helpers: a callee that reads only, met in a region that draws; the frame behind draws. -/
namespace Go.Proofs.Ytiejilmgchmppaa
open Go.RowKit
set_option linter.unusedSimpArgs false

theorem quietly {P : Program} {f : FuncId} {args : Array Value} {w : World} {n : Nat} {v : Value}
    (h : Calls P f args (w.drewN n) fun e w' => e = .returned v ∧ w.drewN n = w') : Calls P f args (w.drewN n) fun e w'' => e = .returned v ∧ ∃ m, w'' = w.drewN m :=
  h.mono fun _ _ ⟨he, hm⟩ => ⟨he, n, hm.symm⟩
theorem bDrewN {B : Nat} {a w : World} (h : Below B a w) (n : Nat) : Below B a (w.drewN n) := h.trans ⟨rfl, rfl, rfl, Nat.le_refl _, fun _ _ => rfl⟩
theorem bAlloc {B : Nat} {a w : World} (h : Below B a w) (hB : B ≤ a.heap.size) (o : Obj) : Below B a (w.alloc o) := h.alloc (Nat.le_trans hB h.size) o
theorem bSet {B : Nat} {a w : World} (h : Below B a w) {p : Addr} (hp : B ≤ p.block) (u : Value) : Below B a (w.setCell p u) := h.setCell hp u
theorem bTrans {B : Nat} {a w w' : World} (h : Below B a w) (hB : B ≤ w.heap.size) (k : Below w.heap.size w w') : Below B a w' := h.trans (k.mono hB)
theorem ret_bool {a b : Bool} (h : a = b) : Ending.returned (.bool a) = .returned (.bool b) := by rw [h]
theorem ret_i64 {a b : Int} (h : a = b) : Ending.returned (.int .i64 a) = .returned (.int .i64 b) := by rw [h]
theorem results_cell1 {fn : Func} {p : Tmp} {ty : TypeId} (h : fn.results = #[.cell p ty]) (tmps : Array Value) (P : Program) (w : World) :
    (results fn tmps).run P w = ((asAddr (tmps.getD p undef)).run P w).andThen fun a w₁ => (loadVar ty a).run P w₁ := by
  simp only [results, h]
  simp [Sem.run_bind]
/-- The newest block, its cells written. -/
theorem bRe {B : Nat} {a w : World} {o : Obj} (h : Below B a (w.alloc o)) (hB : B ≤ w.heap.size) (o' : Obj) : Below B a (w.alloc o') :=
  ⟨h.os, h.tape, h.output, by have := h.size; simp at this ⊢; exact this, fun k hk => by
    have := h.block k hk
    rw [Below.heap_alloc _ _ _ (by omega)] at this ⊢; exact this⟩
/-- A cell stands behind a call that only makes memory. -/
theorem keep {W w1 : World} (hb : Below W.heap.size W w1) {p : Addr} {v : Value} (h : W.cell? p = some v) : w1.cell? p = some v := (hb.cell (World.block_lt_of_cell? W _ h)).trans h
theorem keepF {W w1 : World} (hb : Below W.heap.size W w1) {p : Addr} {v : Value} (h : W.cell? p = some v) (hf : W.frozen? p = false) : w1.frozen? p = false := (hb.frozen (World.block_lt_of_cell? W _ h)).trans hf
/-- A call that only makes memory, behind another. -/
theorem bThen {a w1 w2 : World} (h : Below a.heap.size a w1) (k : Below w1.heap.size w1 w2) : Below a.heap.size a w2 := h.trans (k.mono h.size)
theorem box_cell {w : World} {g : Nat} {cs : Array Value} {t : TypeId} {fr : Nat × Nat} (h : w.heap[g]? = some (.cells cs t fr)) (i : Nat) (v : Value) (hv : cs[i]? = some v) : w.cell? ⟨g, i, none⟩ = some v := by
  rw [cell_of_row w g i cs t fr h]; exact hv
/-- Two new blocks, seen behind a call. -/
theorem box2 {w w1 : World} {o1 o2 : Obj} (hb : Below ((w.alloc o1).alloc o2).heap.size ((w.alloc o1).alloc o2) w1) :
    w1.heap[w.heap.size]? = some o1 ∧ w1.heap[w.heap.size + 1]? = some o2 ∧ Below w.heap.size w w1 := by
  have e1 : (w.alloc o1).heap.size = w.heap.size + 1 := by simp
  have n1 := heap_alloc_new w o1
  have n2 := heap_alloc_new (w.alloc o1) o2
  rw [e1] at n2
  refine ⟨(hb.block _ (by simp <;> omega)).trans ?_, (hb.block _ (by simp)).trans n2, bTrans (by (repeat' (first | assumption | exact Below.refl _ _ | refine bDrewN ?_ _ | refine Below.drew ?_ | refine bAlloc ?_ (Nat.le_refl _) _ | refine bSet ?_ (by first | exact Nat.le_refl _ | omega | (simp <;> omega)) _))) (by simp <;> omega) hb⟩
  rw [Below.heap_alloc _ _ _ (by simp)]; exact n1
/-- One new block, seen behind a call. -/
theorem box1 {w w1 : World} {o1 : Obj} (hb : Below (w.alloc o1).heap.size (w.alloc o1) w1) : w1.heap[w.heap.size]? = some o1 ∧ Below w.heap.size w w1 :=
  ⟨(hb.block _ (by simp)).trans (heap_alloc_new w o1), bTrans (by (repeat' (first | assumption | exact Below.refl _ _ | refine bDrewN ?_ _ | refine Below.drew ?_ | refine bAlloc ?_ (Nat.le_refl _) _ | refine bSet ?_ (by first | exact Nat.le_refl _ | omega | (simp <;> omega)) _))) (by simp) hb⟩
/-- Three new blocks, seen behind a call. -/
theorem box3 {w w1 : World} {o1 o2 o3 : Obj} (hb : Below (((w.alloc o1).alloc o2).alloc o3).heap.size (((w.alloc o1).alloc o2).alloc o3) w1) :
    w1.heap[w.heap.size]? = some o1 ∧ w1.heap[w.heap.size + 1]? = some o2 ∧ w1.heap[w.heap.size + 1 + 1]? = some o3 ∧ Below w.heap.size w w1 := by
  have e1 : (w.alloc o1).heap.size = w.heap.size + 1 := by simp
  have e2 : ((w.alloc o1).alloc o2).heap.size = w.heap.size + 1 + 1 := by simp
  have n1 := heap_alloc_new w o1
  have n2 := heap_alloc_new (w.alloc o1) o2
  have n3 := heap_alloc_new ((w.alloc o1).alloc o2) o3
  rw [e1] at n2
  rw [e2] at n3
  refine ⟨(hb.block _ (by simp <;> omega)).trans ?_, (hb.block _ (by simp <;> omega)).trans ?_, (hb.block _ (by simp)).trans n3, bTrans (by (repeat' (first | assumption | exact Below.refl _ _ | refine bDrewN ?_ _ | refine Below.drew ?_ | refine bAlloc ?_ (Nat.le_refl _) _ | refine bSet ?_ (by first | exact Nat.le_refl _ | omega | (simp <;> omega)) _))) (by simp <;> omega) hb⟩
  · rw [Below.heap_alloc _ _ _ (by simp <;> omega), Below.heap_alloc _ _ _ (by simp)]; exact n1
  · rw [Below.heap_alloc _ _ _ (by simp)]; exact n2
theorem eqbox1 {w W : World} {o1 : Obj} (h : W = w.alloc o1) : W.heap[w.heap.size]? = some o1 ∧ Below w.heap.size w W := by subst h; exact box1 (Below.refl _ _)
theorem eqbox2 {w W : World} {o1 o2 : Obj} (h : W = (w.alloc o1).alloc o2) : W.heap[w.heap.size]? = some o1 ∧ W.heap[w.heap.size + 1]? = some o2 ∧ Below w.heap.size w W := by subst h; exact box2 (Below.refl _ _)
end Go.Proofs.Ytiejilmgchmppaa
/- Recs: Slices of structs whose fields are one cell each: owned rows; a row that came in. -/
namespace Go.Proofs.Ytiejilmgchmppaa
open Go.RowKit
set_option linter.unusedVariables false

theorem rec_below {w w' : World} {B e size n : Nat} {v : Value} {xs : List Value} (h : w.ownsRow B e size v n xs) (hb : Below w.heap.size w w') : w'.ownsRow B e size v n xs :=
  h.kept (row := none) ⟨hb.os, hb.tape, hb.output, hb.size, fun k hk _ => hb.block k hk⟩ (by cases v.ownBlock <;> simp)
theorem flat_len {α : Type} (f : α → List Value) (k : Nat) (hf : ∀ x, (f x).length = k) : ∀ L : List α, (L.flatMap f).length = L.length * k
  | [] => by simp
  | x :: L => by
    rw [List.flatMap_cons, List.length_append, hf x, flat_len f k hf L, List.length_cons, Nat.succ_mul]
    omega
theorem flat_at {α : Type} (f : α → List Value) (k : Nat) (hf : ∀ x, (f x).length = k) : ∀ (L : List α) (j i : Nat) (hj : j < L.length), i < k → (L.flatMap f)[j * k + i]? = (f L[j])[i]?
  | [], j, i, hj, _ => absurd hj (by simp)
  | x :: L, 0, i, _, hi => by
    rw [List.flatMap_cons, Nat.zero_mul, Nat.zero_add, List.getElem?_append_left (by rw [hf x]; exact hi)]; rfl
  | x :: L, j + 1, i, hj, hi => by
    rw [List.flatMap_cons, List.getElem?_append_right (by rw [hf x, Nat.succ_mul]; omega), hf x, show (j + 1) * k + i - k = j * k + i by rw [Nat.succ_mul]; omega]
    exact flat_at f k hf L j i (by simpa using hj) hi
theorem flat_set {α : Type} (f : α → List Value) (k : Nat) (hf : ∀ x, (f x).length = k) (u : Value) : ∀ (L : List α) (j i : Nat) (y : α) (hj : j < L.length), i < k → f y = (f L[j]).set i u → (L.flatMap f).set (j * k + i) u = (L.set j y).flatMap f
  | [], j, i, y, hj, _, _ => absurd hj (by simp)
  | x :: L, 0, i, y, _, hi, hy => by
    rw [List.flatMap_cons, Nat.zero_mul, Nat.zero_add, List.set_append_left _ _ (by rw [hf x]; exact hi), List.set_cons_zero, List.flatMap_cons, hy]; rfl
  | x :: L, j + 1, i, y, hj, hi, hy => by
    rw [List.flatMap_cons, List.set_append_right _ _ (by rw [hf x, Nat.succ_mul]; omega), hf x, show (j + 1) * k + i - k = j * k + i by rw [Nat.succ_mul]; omega, List.set_cons_succ, List.flatMap_cons]
    rw [flat_set f k hf u L j i y (by simpa using hj) hi (by simpa using hy)]

/-- The slice value v owns the structs L: each is k cells, f. -/
def OwnsR {α : Type} (f : α → List Value) (k T : Nat) (w : World) (B : Nat) (v : Value) (L : List α) : Prop := w.ownsRow B T k v L.length (L.flatMap f)
section
variable {α : Type} {f : α → List Value} {k T : Nat} {w w' : World} {B : Nat} {v : Value} {L : List α}
theorem OwnsR.below (h : OwnsR f k T w B v L) (hb : Below w.heap.size w w') : OwnsR f k T w' B v L := rec_below h hb
theorem OwnsR.mono {B' : Nat} (h : OwnsR f k T w B v L) (hB : B' ≤ B) : OwnsR f k T w B' v L := by
  obtain ⟨h1, h2⟩ := h
  refine ⟨h1, ?_⟩
  rcases h2 with h2 | ⟨g, cap, cur, e1, e2, e3⟩
  · exact .inl h2
  · exact .inr ⟨g, cap, cur, e1, Nat.le_trans hB e2, e3⟩
theorem OwnsR.shape (hf : ∀ x, (f x).length = k) (h : OwnsR f k T w B v L) : ∃ A c, v = .slice A L.length c ∧
    ∀ j (hj : j < L.length), ∃ g, A = some ⟨g, 0, none⟩ ∧ ∀ i u, (f L[j])[i]? = some u → w.cell? ⟨g, j * k + i, none⟩ = some u ∧ w.frozen? ⟨g, j * k + i, none⟩ = false := by
  rcases h.2 with ⟨rfl, h0⟩ | ⟨g, cap, cur, rfl, _⟩
  · exact ⟨none, 0, by rw [h0], fun j hj => absurd hj (by omega)⟩
  · refine ⟨some ⟨g, 0, none⟩, cap, rfl, fun j hj => ⟨g, rfl, fun i u hu => ⟨?_, h.frozenAt _⟩⟩⟩
    have hi : i < k := by
      have := (List.getElem?_eq_some_iff.1 hu).1
      rwa [hf] at this
    have hlt : j * k + i < L.length * k := by
      have : (j + 1) * k ≤ L.length * k := Nat.mul_le_mul_right k hj
      rw [Nat.succ_mul] at this
      omega
    rw [h.cellAt _ hlt, flat_at f k hf L j i hj hi]
    exact hu
theorem ownR_nil (f : α → List Value) (k T : Nat) (w : World) (B : Nat) : OwnsR f k T w B (.slice none 0 0) ([] : List α) := World.ownsRow_nil _ _ _ _
theorem ownR_new (f : α → List Value) (k T : Nat) (w : World) (B : Nat) (hB : B ≤ w.heap.size) : OwnsR f k T (w.alloc (.cells #[] T)) B (.slice (some ⟨w.heap.size, 0, none⟩) 0 0) ([] : List α) :=
  World.ownsRow_lit w #[] 0 hB (by unfold maxLen; omega) (by simp)
/-- Behind an append of one struct. -/
theorem ownR_add {wr a w1 : World} {v' : Value} {x : α} (hown : OwnsR f k T wr B v L) (hsz : B ≤ wr.heap.size) (hbel : Below B w wr) (ha : Below wr.heap.size wr a) (hgrow : a.grownBy w1 v.ownBlock)
    (hown' : w1.ownsRow B T k v' (L.length + 1) (L.flatMap f ++ f x)) : OwnsR f k T w1 B v' (L ++ [x]) ∧ Below B w w1 := by
  refine ⟨?_, (hbel.trans (ha.mono hsz)).grown hgrow (Nat.le_trans hsz ha.size) (fun j hj => (hown.lt j hj).1)⟩
  unfold OwnsR
  rw [List.length_append, List.flatMap_append]
  simpa using hown'
/-- Behind a store into field i of struct j. -/
theorem OwnsR.stored (hf : ∀ x, (f x).length = k) {g c j i : Nat} {u : Value} {y : α} (h : OwnsR f k T w B (.slice (some ⟨g, 0, none⟩) L.length c) L) (hj : j < L.length) (hi : i < k) (hy : f y = (f L[j]).set i u) :
    OwnsR f k T (w.setCell ⟨g, j * k + i, none⟩ u) B (.slice (some ⟨g, 0, none⟩) L.length c) (L.set j y) ∧ w.grownBy (w.setCell ⟨g, j * k + i, none⟩ u) (some g) := by
  have hst := World.ownsRow.stored h (j * k + i) u
  rw [flat_set f k hf u L j i y hj hi hy] at hst
  refine ⟨?_, hst.2⟩
  unfold OwnsR
  rw [List.length_set]
  exact hst.1
theorem OwnsR.setFar {g i : Nat} {u : Value} (h : OwnsR f k T w B v L) (hne : v.ownBlock ≠ some g) : OwnsR f k T (w.setCell ⟨g, i, none⟩ u) B v L :=
  World.ownsRow.kept h (row := some g) ⟨rfl, rfl, rfl, by simp, fun j hj hne => Below.heap_setCell w _ _ j (by intro e; exact hne (by rw [e]))⟩ (by
    cases hv : v.ownBlock with
    | none => exact .inl rfl
    | some j => exact .inr (fun e => hne (by rw [hv, e])))
end
/-- Two ints. -/
def fP (x : Int × Int) : List Value := [.int .i64 x.1, .int .i64 x.2]
theorem fP_len (x : Int × Int) : (fP x).length = 2 := rfl

/-- A slice of structs of two ints that came in. -/
def RowP (w : World) (a : Option Addr) (len : Nat) (zs : List (Int × Int)) : Prop :=
  len ≤ maxLen ∧ zs.length = len ∧ ∀ j (hj : j < zs.length), ∃ b o, a = some ⟨b, o, none⟩ ∧ b < w.heap.size ∧ w.cell? ⟨b, o + j * 2, none⟩ = some (.int .i64 zs[j].1) ∧ w.cell? ⟨b, o + j * 2 + 1, none⟩ = some (.int .i64 zs[j].2)
theorem RowP.below {w w' : World} {a : Option Addr} {len : Nat} {zs : List (Int × Int)} (h : RowP w a len zs) (hb : Below w.heap.size w w') : RowP w' a len zs :=
  ⟨h.1, h.2.1, fun j hj => by
    obtain ⟨b, o, e, hl, h1, h2⟩ := h.2.2 j hj
    exact ⟨b, o, e, Nat.lt_of_lt_of_le hl hb.size, keep hb h1, keep hb h2⟩⟩

/-- A number that an int64 holds. -/
def Fit (v : Int) : Prop := -9223372036854775808 ≤ v ∧ v ≤ 9223372036854775807
theorem fit_wf {v : Int} (h : (Lit.int .i64 v).wf = true) : Fit v := by
  have e1 : IntKind.i64.min = -9223372036854775808 := by decide
  have e2 : IntKind.i64.max = 9223372036854775807 := by decide
  simp [Lit.wf] at h
  unfold Fit; omega
theorem fit_nat (n : Nat) (h : n ≤ 65535) : Fit (n : Int) := by unfold Fit; omega
/-- Fields that int64s hold. -/
def Wide (L : List (Int × Int)) : Prop := ∀ z ∈ L, Fit z.1 ∧ Fit z.2

section
open Go.ChangeShapes Go.WideShapes Go.Deep
variable {H : Type} {enc : TypeId × Value → H} {P : Program} {w : World}
/-- An argument that is a slice of structs of two ints. -/
theorem rowP_of {t e : TypeId} {f0 f1 : Field} {a : Option Addr} {len cap : Nat} {d : DataW H} {p : List MemPlace} (ht : P.underlying t = some (.slice e)) (he : P.underlying e = some (.struct #[f0, f1]))
    (hone : oneCellFields P #[f0, f1] = true) (hC : P.cellsOf e = 2) (i0 : P.underlying f0.type = some (.int .i64)) (i1 : P.underlying f1.type = some (.int .i64))
    (h : DataW.Trod enc P w 0 (fun _ => true) true t (.slice a len cap) d p) : ∃ zs, RowP w a len zs ∧ Wide zs := by
  obtain ⟨fuel, hf⟩ := h
  obtain ⟨o0, k0⟩ := hone_of hone 0 f0 rfl
  obtain ⟨o1, k1⟩ := hone_of hone 1 f1 rfl
  rcases open_slice ht hf with ⟨hcs, _⟩ | ⟨x, l, c, m, n, D, Pl, hcs, _, hl, hm, hmm, _, hi⟩
  · simp [Value.cells] at hcs
    obtain ⟨rfl, rfl, rfl⟩ := hcs
    exact ⟨[], ⟨by unfold maxLen; omega, rfl, fun j hj => absurd hj (by simp)⟩, fun z hz => by simp at hz⟩
  · simp [Value.cells] at hcs
    obtain ⟨rfl, rfl, rfl⟩ := hcs
    simp only [if_true] at hmm
    subst hmm
    have hel : ∀ i : Fin len, ∃ z : Int × Int, w.cell? (x.add (i.1 * 2)) = some (.int .i64 z.1) ∧ w.cell? (x.add (i.1 * 2 + 1)) = some (.int .i64 z.2) ∧ Fit z.1 ∧ Fit z.2 := by
      intro i
      obtain ⟨cs', hc, htr⟩ := hi i.1 (Nat.lt_of_lt_of_le i.2 hl)
      rw [hC] at hc
      obtain ⟨_, hlen, hat⟩ := World.cells?_some hc
      match cs', hlen with
      | [u0, u1], _ =>
        obtain ⟨y0, y1, n', _, _, h0, h1⟩ := trod_struct2 he htr
        rw [o0, k0] at h0
        rw [o1, k1] at h1
        obtain ⟨z0, e0, _, f0w⟩ := DataW.trod_int i0 h0
        obtain ⟨z1, e1, _, f1w⟩ := DataW.trod_int i1 h1
        simp only [List.drop_zero, List.take_succ_cons, List.take_zero, List.drop_succ_cons, List.cons.injEq, and_true] at e0 e1
        have c0 := hat 0 (by omega)
        have c1 := hat 1 (by omega)
        rw [Addr.add_add] at c0 c1
        exact ⟨(z0, z1), by rw [show i.1 * 2 + 0 = i.1 * 2 from rfl] at c0; rw [c0]; simp [e0], by rw [c1]; simp [e1], fit_wf f0w, fit_wf f1w⟩
    refine ⟨List.ofFn fun i => Classical.choose (hel i), ⟨Nat.le_trans hl hm, by simp, fun j hj => ?_⟩, fun z hz => ?_⟩
    rotate_left
    · obtain ⟨i, rfl⟩ := List.mem_ofFn.1 hz
      exact (Classical.choose_spec (hel i)).2.2
    have hjl : j < len := by simpa using hj
    obtain ⟨b, o, spot⟩ := x
    have hz := hel ⟨0, by omega⟩
    have hspot : spot = none := by
      obtain ⟨z, z0, _⟩ := hz
      simpa [Addr.add] using World.cell?_spot z0
    subst hspot
    have hs := Classical.choose_spec (hel ⟨j, hjl⟩)
    simp only [List.getElem_ofFn]
    generalize Classical.choose (hel ⟨j, hjl⟩) = z at hs ⊢
    rw [Addr.add_mid, Addr.add_mid] at hs
    refine ⟨b, o, rfl, World.block_lt_of_cell? w _ hs.1, hs.1, ?_⟩
    rw [show o + j * 2 + 1 = o + (j * 2 + 1) by omega]
    exact hs.2.1
end
end Go.Proofs.Ytiejilmgchmppaa
/- Reads: Data that is read: what cells hold, down through slices of structs of slices; an argument of any such type. -/
namespace Go.Proofs.Ytiejilmgchmppaa
open Go.RowKit
set_option linter.unusedVariables false

/-- How the cells of one element read as a datum; all that it reaches lies in the blocks B .. T - 1. -/
abbrev Rd (α : Type) := Nat → Nat → World → List Value → α → Prop
/-- A reading hangs on those blocks alone. -/
def Rd.Good {α : Type} (P : Rd α) : Prop := ∀ (B T B' T' : Nat) (w w' : World) (vs : List Value) (x : α), P B T w vs x → B' ≤ B → T ≤ T' → (∀ b, B ≤ b → b < T → w'.heap[b]? = w.heap[b]?) → P B' T' w' vs x
section
variable {α β γ δ : Type}
theorem Rd.Good.below {P : Rd α} (g : P.Good) {B T : Nat} {w w' : World} {vs : List Value} {x : α} (h : P B T w vs x) (hT : T ≤ w.heap.size) (hb : Below w.heap.size w w') : P B T w' vs x :=
  g B T B T w w' vs x h (Nat.le_refl _) (Nat.le_refl _) fun b _ hlt => hb.block b (Nat.lt_of_lt_of_le hlt hT)
theorem Rd.Good.wider {P : Rd α} (g : P.Good) {B T B' T' : Nat} {w : World} {vs : List Value} {x : α} (h : P B T w vs x) (hB : B' ≤ B) (hT : T ≤ T') : P B' T' w vs x :=
  g B T B' T' w w vs x h hB hT fun _ _ _ => rfl
/-- An int. -/
def rdInt : Rd Int := fun _ _ _ vs x => vs = [.int .i64 x] ∧ Fit x
theorem rdInt_good : rdInt.Good := fun _ _ _ _ _ _ _ _ h _ _ _ => h
/-- A slice whose elements are k cells each. -/
def rdS (k : Nat) (P : Rd α) : Rd (List α) := fun B T w vs L => ∃ A c, vs = [.slice A L.length c] ∧ (L.length ≤ maxLen ∧ L.length ≤ c) ∧
  ∀ j (hj : j < L.length), ∃ b o, A = some ⟨b, o, none⟩ ∧ B ≤ b ∧ b < T ∧ ∃ us : List Value, us.length = k ∧ (∀ i u, us[i]? = some u → w.cell? ⟨b, o + j * k + i, none⟩ = some u) ∧ P B T w us L[j]
theorem rdS_good (k : Nat) {P : Rd α} (g : P.Good) : (rdS k P).Good := by
  rintro B T B' T' w w' vs L ⟨A, c, e, hm, h⟩ hB hT hk
  refine ⟨A, c, e, hm, fun j hj => ?_⟩
  obtain ⟨b, o, hA, hb1, hb2, us, hl, hc, hp⟩ := h j hj
  refine ⟨b, o, hA, Nat.le_trans hB hb1, Nat.lt_of_lt_of_le hb2 hT, us, hl, fun i u hu => ?_, g B T B' T' w w' us _ hp hB hT hk⟩
  exact (World.cell?_of_block (w := w) (w' := w') (a := ⟨b, o + j * k + i, none⟩) (hk b hb1 hb2)).trans (hc i u hu)
/-- Structs of one-cell fields. -/
def rd1 (P : Rd α) : Rd α := fun B T w vs x => ∃ u, vs = [u] ∧ P B T w [u] x
def rd2 (P : Rd α) (Q : Rd β) : Rd (α × β) := fun B T w vs x => ∃ u0 u1, vs = [u0, u1] ∧ P B T w [u0] x.1 ∧ Q B T w [u1] x.2
def rd3 (P : Rd α) (Q : Rd β) (R : Rd γ) : Rd (α × β × γ) := fun B T w vs x => ∃ u0 u1 u2, vs = [u0, u1, u2] ∧ P B T w [u0] x.1 ∧ Q B T w [u1] x.2.1 ∧ R B T w [u2] x.2.2
def rd4 (P : Rd α) (Q : Rd β) (R : Rd γ) (S : Rd δ) : Rd (α × β × γ × δ) := fun B T w vs x => ∃ u0 u1 u2 u3, vs = [u0, u1, u2, u3] ∧ P B T w [u0] x.1 ∧ Q B T w [u1] x.2.1 ∧ R B T w [u2] x.2.2.1 ∧ S B T w [u3] x.2.2.2
theorem rd1_good {P : Rd α} (g : P.Good) : (rd1 P).Good := by
  rintro B T B' T' w w' vs x ⟨u, e, h⟩ hB hT hk
  exact ⟨u, e, g _ _ _ _ _ _ _ _ h hB hT hk⟩
theorem rd2_good {P : Rd α} {Q : Rd β} (g : P.Good) (k : Q.Good) : (rd2 P Q).Good := by
  rintro B T B' T' w w' vs x ⟨u0, u1, e, h0, h1⟩ hB hT hk
  exact ⟨u0, u1, e, g _ _ _ _ _ _ _ _ h0 hB hT hk, k _ _ _ _ _ _ _ _ h1 hB hT hk⟩
theorem rd3_good {P : Rd α} {Q : Rd β} {R : Rd γ} (g : P.Good) (k : Q.Good) (m : R.Good) : (rd3 P Q R).Good := by
  rintro B T B' T' w w' vs x ⟨u0, u1, u2, e, h0, h1, h2⟩ hB hT hk
  exact ⟨u0, u1, u2, e, g _ _ _ _ _ _ _ _ h0 hB hT hk, k _ _ _ _ _ _ _ _ h1 hB hT hk, m _ _ _ _ _ _ _ _ h2 hB hT hk⟩
theorem rd4_good {P : Rd α} {Q : Rd β} {R : Rd γ} {S : Rd δ} (g : P.Good) (k : Q.Good) (m : R.Good) (n : S.Good) : (rd4 P Q R S).Good := by
  rintro B T B' T' w w' vs x ⟨u0, u1, u2, u3, e, h0, h1, h2, h3⟩ hB hT hk
  exact ⟨u0, u1, u2, u3, e, g _ _ _ _ _ _ _ _ h0 hB hT hk, k _ _ _ _ _ _ _ _ h1 hB hT hk, m _ _ _ _ _ _ _ _ h2 hB hT hk, n _ _ _ _ _ _ _ _ h3 hB hT hk⟩
end

section
open Go.ChangeShapes Go.WideShapes Go.Deep
variable {H : Type} (enc : TypeId × Value → H) (P : Program) (w : World) {α β γ δ : Type}
/-- Every datum of type t that came in reads so. -/
def Comes (t : TypeId) (R : Rd α) : Prop := ∀ (fuel : Nat) (cs : List Value) (x : DataW H × List MemPlace), DataW.trod enc P w 0 (fun _ => true) true fuel t cs = some x → ∃ a, R 0 w.heap.size w cs a
variable {enc P w}
theorem comes_int {t : TypeId} (ht : P.underlying t = some (.int .i64)) : Comes enc P w t rdInt := by
  intro fuel cs x h
  obtain ⟨n, e, _, hw⟩ := DataW.trod_int ht h
  exact ⟨n, e, fit_wf hw⟩
theorem comes_slice {t e : TypeId} {R : Rd α} {k : Nat} (ht : P.underlying t = some (.slice e)) (hC : P.cellsOf e = k) (hk : 0 < k) (h : Comes enc P w e R) : Comes enc P w t (rdS k R) := by
  intro fuel cs x hf
  rcases open_slice ht hf with ⟨rfl, _⟩ | ⟨a, l, c, m, n, D, Pl, rfl, _, hl, hm, hmm, _, hi⟩
  · exact ⟨[], none, 0, rfl, by simp, fun j hj => absurd hj (by simp)⟩
  · simp only [if_true] at hmm
    subst hmm hC
    have hel : ∀ i : Fin l, ∃ z : α, ∃ us : List Value, us.length = P.cellsOf e ∧ (∀ j u, us[j]? = some u → w.cell? ((a.add (i.1 * P.cellsOf e)).add j) = some u) ∧ R 0 w.heap.size w us z := by
      intro i
      obtain ⟨cs', hc, htr⟩ := hi i.1 (Nat.lt_of_lt_of_le i.2 hl)
      obtain ⟨_, hlen, hat⟩ := World.cells?_some hc
      obtain ⟨z, hz⟩ := h n cs' _ htr
      refine ⟨z, cs', hlen, fun j u hu => ?_, hz⟩
      have hj := (List.getElem?_eq_some_iff.1 hu).1
      have := hat j (by rw [← hlen]; exact hj)
      rw [this, hu]
    refine ⟨List.ofFn fun i => Classical.choose (hel i), some a, m, by simp, by simp; omega, fun j hj => ?_⟩
    have hjl : j < l := by simpa using hj
    obtain ⟨b, o, spot⟩ := a
    obtain ⟨us, hu1, hu2, hu3⟩ := Classical.choose_spec (hel ⟨j, hjl⟩)
    have h0 : ∃ u, us[0]? = some u := ⟨us[0]'(by omega), List.getElem?_eq_getElem _⟩
    obtain ⟨u, hu⟩ := h0
    have hspot : spot = none := by
      obtain ⟨z', us', hl', hu', _⟩ := hel ⟨0, by omega⟩
      have h0' := hu' 0 (us'[0]'(by omega)) (List.getElem?_eq_getElem _)
      simpa [Addr.add] using World.cell?_spot h0'
    subst hspot
    refine ⟨b, o, rfl, Nat.zero_le _, ?_, us, hu1, fun i v hv => ?_, ?_⟩
    · have hs := hu2 0 u hu
      rw [Addr.add_mid, Addr.add_mid] at hs
      exact World.block_lt_of_cell? w _ hs
    · have hs := hu2 i v hv
      rw [Addr.add_mid, Addr.add_mid] at hs
      exact hs
    · simpa using hu3
theorem comes_1 {t : TypeId} {f0 : Field} {R : Rd α} (ht : P.underlying t = some (.struct #[f0])) (hone : oneCellFields P #[f0] = true) (hC : P.cellsOf t = 1) (h0 : Comes enc P w f0.type R) : Comes enc P w t (rd1 R) := by
  intro fuel cs x h
  obtain ⟨o0, k0⟩ := hone_of hone 0 f0 rfl
  obtain ⟨y0, n, _, hl, g0⟩ := trod_struct1 ht h
  rw [hC] at hl
  match cs, hl with
  | [u0], _ =>
    rw [o0, k0] at g0
    obtain ⟨z0, e0⟩ := h0 _ _ _ g0
    exact ⟨z0, u0, rfl, by simpa using e0⟩
theorem comes_2 {t : TypeId} {f0 f1 : Field} {R : Rd α} {S : Rd β} (ht : P.underlying t = some (.struct #[f0, f1])) (hone : oneCellFields P #[f0, f1] = true) (hC : P.cellsOf t = 2) (h0 : Comes enc P w f0.type R) (h1 : Comes enc P w f1.type S) :
    Comes enc P w t (rd2 R S) := by
  intro fuel cs x h
  obtain ⟨o0, k0⟩ := hone_of hone 0 f0 rfl
  obtain ⟨o1, k1⟩ := hone_of hone 1 f1 rfl
  obtain ⟨y0, y1, n, _, hl, g0, g1⟩ := trod_struct2 ht h
  rw [hC] at hl
  match cs, hl with
  | [u0, u1], _ =>
    rw [o0, k0] at g0
    rw [o1, k1] at g1
    obtain ⟨z0, e0⟩ := h0 _ _ _ g0
    obtain ⟨z1, e1⟩ := h1 _ _ _ g1
    exact ⟨(z0, z1), u0, u1, rfl, by simpa using e0, by simpa using e1⟩
theorem comes_3 {t : TypeId} {f0 f1 f2 : Field} {R : Rd α} {S : Rd β} {U : Rd γ} (ht : P.underlying t = some (.struct #[f0, f1, f2])) (hone : oneCellFields P #[f0, f1, f2] = true) (hC : P.cellsOf t = 3) (h0 : Comes enc P w f0.type R) (h1 : Comes enc P w f1.type S) (h2 : Comes enc P w f2.type U) :
    Comes enc P w t (rd3 R S U) := by
  intro fuel cs x h
  obtain ⟨o0, k0⟩ := hone_of hone 0 f0 rfl
  obtain ⟨o1, k1⟩ := hone_of hone 1 f1 rfl
  obtain ⟨o2, k2⟩ := hone_of hone 2 f2 rfl
  obtain ⟨y0, y1, y2, n, _, hl, g0, g1, g2⟩ := trod_struct3 ht h
  rw [hC] at hl
  match cs, hl with
  | [u0, u1, u2], _ =>
    rw [o0, k0] at g0
    rw [o1, k1] at g1
    rw [o2, k2] at g2
    obtain ⟨z0, e0⟩ := h0 _ _ _ g0
    obtain ⟨z1, e1⟩ := h1 _ _ _ g1
    obtain ⟨z2, e2⟩ := h2 _ _ _ g2
    exact ⟨(z0, z1, z2), u0, u1, u2, rfl, by simpa using e0, by simpa using e1, by simpa using e2⟩
theorem comes_4 {t : TypeId} {f0 f1 f2 f3 : Field} {R : Rd α} {S : Rd β} {U : Rd γ} {V : Rd δ} (ht : P.underlying t = some (.struct #[f0, f1, f2, f3])) (hone : oneCellFields P #[f0, f1, f2, f3] = true) (hC : P.cellsOf t = 4) (h0 : Comes enc P w f0.type R) (h1 : Comes enc P w f1.type S) (h2 : Comes enc P w f2.type U) (h3 : Comes enc P w f3.type V) :
    Comes enc P w t (rd4 R S U V) := by
  intro fuel cs x h
  obtain ⟨o0, k0⟩ := hone_of hone 0 f0 rfl
  obtain ⟨o1, k1⟩ := hone_of hone 1 f1 rfl
  obtain ⟨o2, k2⟩ := hone_of hone 2 f2 rfl
  obtain ⟨o3, k3⟩ := hone_of hone 3 f3 rfl
  obtain ⟨y0, y1, y2, y3, n, _, hl, g0, g1, g2, g3⟩ := Joins.trod_struct4 ht h
  rw [hC] at hl
  match cs, hl with
  | [u0, u1, u2, u3], _ =>
    rw [o0, k0] at g0
    rw [o1, k1] at g1
    rw [o2, k2] at g2
    rw [o3, k3] at g3
    obtain ⟨z0, e0⟩ := h0 _ _ _ g0
    obtain ⟨z1, e1⟩ := h1 _ _ _ g1
    obtain ⟨z2, e2⟩ := h2 _ _ _ g2
    obtain ⟨z3, e3⟩ := h3 _ _ _ g3
    exact ⟨(z0, z1, z2, z3), u0, u1, u2, u3, rfl, by simpa using e0, by simpa using e1, by simpa using e2, by simpa using e3⟩
end
end Go.Proofs.Ytiejilmgchmppaa
