/-
  The drawing of a net: what is carried along; when a net is valid.
-/
import Derived.Test.YtaebiiopommhdaaNet3
import Derived.Test.YtaebiiopommhdaaCurA
import Derived.Test.YtaebiiopommhdaaDoN
import Derived.Test.YtaebiiopommhdaaLay
import Derived.Test.YtaebiiopommhdaaOwN
namespace Go.Proofs.Ytaebiiopommhdaa
open Go.RowKit
set_option linter.unusedVariables false
set_option linter.unusedSimpArgs false

abbrev TCur : Nat := 85
/-- A struct of four cells in block F. -/
def BoxN (w : World) (F : Nat) (v0 v1 v2 v3 : Value) : Prop := w.heap[F]? = some (.cells #[v0, v1, v2, v3] 28 (0, 0))
theorem BoxN.lt {w : World} {F : Nat} {v0 v1 v2 v3 : Value} (h : BoxN w F v0 v1 v2 v3) : F < w.heap.size := (Array.getElem?_eq_some_iff.1 h).1
theorem BoxN.cells {w : World} {F : Nat} {v0 v1 v2 v3 : Value} (h : BoxN w F v0 v1 v2 v3) : (w.cell? ⟨F, 0, none⟩ = some v0 ∧ w.cell? ⟨F, 1, none⟩ = some v1 ∧ w.cell? ⟨F, 2, none⟩ = some v2 ∧ w.cell? ⟨F, 3, none⟩ = some v3) ∧ ∀ i, w.frozen? ⟨F, i, none⟩ = false :=
  ⟨⟨box_cell h 0 _ rfl, box_cell h 1 _ rfl, box_cell h 2 _ rfl, box_cell h 3 _ rfl⟩, fun i => frozen_of_row _ _ i _ _ h⟩
theorem BoxN.at {w w' : World} {F : Nat} {v0 v1 v2 v3 : Value} (h : BoxN w F v0 v1 v2 v3) (hk : w'.heap[F]? = w.heap[F]?) : BoxN w' F v0 v1 v2 v3 := hk.trans h
theorem BoxN.val {w : World} {F : Nat} {v0 v1 v2 v3 : Value} (h : BoxN w F v0 v1 v2 v3) : w.heap[F]'h.lt = .cells #[v0, v1, v2, v3] 28 (0, 0) := by
  have h0 : w.heap[F]? = some (.cells #[v0, v1, v2, v3] 28 (0, 0)) := h
  rw [Array.getElem?_eq_getElem h.lt] at h0; injection h0
theorem BoxN.set1 {w : World} {F : Nat} {v0 v1 v2 v3 : Value} (h : BoxN w F v0 v1 v2 v3) (u : Value) : BoxN (w.setCell ⟨F, 1, none⟩ u) F v0 u v2 v3 := by
  have hlt := h.lt
  have e := h.val
  unfold BoxN
  simp [World.setCell, hlt, Array.getElem_modify_self, e]
theorem BoxN.set2 {w : World} {F : Nat} {v0 v1 v2 v3 : Value} (h : BoxN w F v0 v1 v2 v3) (u : Value) : BoxN (w.setCell ⟨F, 2, none⟩ u) F v0 v1 u v3 := by
  have hlt := h.lt
  have e := h.val
  unfold BoxN
  simp [World.setCell, hlt, Array.getElem_modify_self, e]
theorem BoxN.set3 {w : World} {F : Nat} {v0 v1 v2 v3 : Value} (h : BoxN w F v0 v1 v2 v3) (u : Value) : BoxN (w.setCell ⟨F, 3, none⟩ u) F v0 v1 v2 u := by
  have hlt := h.lt
  have e := h.val
  unfold BoxN
  simp [World.setCell, hlt, Array.getElem_modify_self, e]
/-- A net under construction in block F; the result's block E; the cursor in block G: what lay when the drawing began lies as it lay, but for the cursor. -/
structure DrNet (w0 w : World) (E F G nn : Nat) (v0 v1 v2 v3 : Value) : Prop where
  box : BoxN w F v0 v1 v2 v3
  res : BoxN w E (.int .i64 0) (.slice none 0 0) (.slice none 0 0) (.slice none 0 0)
  cur : Cur TCur w G nn
  chg : Chg G w0 w
  hE : w0.heap.size ≤ E
  hF : w0.heap.size ≤ F
  hEF : E ≠ F
  hG : G < w0.heap.size
section
variable {w0 w w' : World} {E F G nn : Nat} {v0 v1 v2 v3 : Value}
theorem DrNet.call (h : DrNet w0 w E F G nn v0 v1 v2 v3) (hc : Cur TCur w' G nn) (hch : Chg G w w') : DrNet w0 w' E F G nn v0 v1 v2 v3 :=
  ⟨h.box.at (hch.block F h.box.lt (by have := h.hF; have := h.hG; omega)), h.res.at (hch.block E h.res.lt (by have := h.hE; have := h.hG; omega)), hc, h.chg.trans hch, h.hE, h.hF, h.hEF, h.hG⟩
theorem DrNet.below (h : DrNet w0 w E F G nn v0 v1 v2 v3) (hb : Below w.heap.size w w') : DrNet w0 w' E F G nn v0 v1 v2 v3 :=
  ⟨h.box.at (hb.block F h.box.lt), h.res.at (hb.block E h.res.lt), h.cur.keep hb, h.chg.trans (Chg.of_below hb), h.hE, h.hF, h.hEF, h.hG⟩
theorem DrNet.grown {row : Option Nat} (h : DrNet w0 w E F G nn v0 v1 v2 v3) (hg : w.grownBy w' row) (hr : ∀ g, row = some g → w0.heap.size ≤ g ∧ g ≠ F ∧ g ≠ E) : DrNet w0 w' E F G nn v0 v1 v2 v3 :=
  ⟨h.box.at (hg.block F h.box.lt (fun e => (hr F e.symm).2.1 rfl)), h.res.at (hg.block E h.res.lt (fun e => (hr E e.symm).2.2 rfl)), cur_grown h.cur (Below.refl _ _) hg (fun g e => by have := (hr g e).1; have := h.hG; omega),
    chg_grown h.chg (Below.refl _ _) hg (fun g e => (hr g e).1), h.hE, h.hF, h.hEF, h.hG⟩
theorem DrNet.stored (h : DrNet w0 w E F G nn v0 v1 v2 v3) {u0 u1 u2 u3 : Value} {i : Nat} {u : Value} (hb : BoxN (w.setCell ⟨F, i, none⟩ u) F u0 u1 u2 u3) : DrNet w0 (w.setCell ⟨F, i, none⟩ u) E F G nn u0 u1 u2 u3 := by
  have hF := h.hF
  have hG := h.hG
  have hEF := h.hEF
  refine ⟨hb, h.res.at (Below.heap_setCell w _ _ E (by exact hEF)), ?_, ?_, h.hE, h.hF, h.hEF, h.hG⟩
  · exact h.cur.under ⟨rfl, rfl, rfl, by simp, fun k hk => Below.heap_setCell w _ _ k (by dsimp only; omega)⟩
  · exact ⟨h.chg.os, h.chg.tape, h.chg.output, by simpa using h.chg.size, fun k hk hne => (Below.heap_setCell w _ _ k (by dsimp only; omega)).trans (h.chg.block k hk hne)⟩
end
section
variable {α ρ : Type} {f : ρ → List Value} {k T : Nat} {P : Ow α} {B : Nat} {bs : List Nat} {w w' : World} {v : Value} {rows : List ρ} {L : List α}
theorem GrR.chg (good : P.Good) (h : GrR f k T P B bs w v rows L) {G : Nat} (hc : Chg G w w') (hG : G < B) : GrR f k T P B bs w' v rows L :=
  h.at good fun b hb => hc.block b (h.lt good hb).1 (by have := (h.lt good hb).2; omega)
theorem GrR.far (good : P.Good) (h : GrR f k T P B bs w v rows L) {F i : Nat} {u : Value} (hF : F ∉ blkL v ++ bs) : GrR f k T P B bs (w.setCell ⟨F, i, none⟩ u) v rows L :=
  h.at good fun b hb => Below.heap_setCell w _ _ b (by intro e; dsimp only at e; subst e; exact hF hb)
theorem GrR.keepG (good : P.Good) (h : GrR f k T P B bs w v rows L) {row : Option Nat} (hg : w.grownBy w' row) (hr : ∀ g, row = some g → g ∉ blkL v ++ bs) : GrR f k T P B bs w' v rows L :=
  h.at good fun b hb => hg.block b (h.lt good hb).1 (fun e => hr b e.symm hb)
end
def fAnd (x : DAnd) : List Value := [.int .i64 x.1, .int .i64 x.2]
theorem fAnd_len (x : DAnd) : (fAnd x).length = 2 := rfl
theorem owAnd_of {x y : Int} (hx : Fit x) (hy : Fit y) (w : World) : owAnd [] w (fAnd (x, y)) (x, y) := ⟨[], [], _, _, rfl, rfl, ⟨rfl, rfl, hx⟩, ⟨rfl, rfl, hy⟩⟩
theorem owInt_of' {x : Int} (hx : Fit x) (w : World) : owInt [] w (fInt x) x := ⟨rfl, rfl, hx⟩
/-- The AND nodes of a net whose first AND node has the number F0. -/
def AndsOk (F0 : Nat) (D : List DAnd) : Prop := ∀ (j : Nat) (d : DAnd), D[j]? = some d → ∃ x y : Nat, d = ((x : Int), (y : Int)) ∧ x / 2 < F0 + j ∧ y / 2 < F0 + j
theorem andsOk_nil (F0 : Nat) : AndsOk F0 [] := fun j d h => by simp at h
theorem andsOk_add {F0 : Nat} {D : List DAnd} (h : AndsOk F0 D) {x y : Nat} (hx : x / 2 < F0 + D.length) (hy : y / 2 < F0 + D.length) : AndsOk F0 (D ++ [((x : Int), (y : Int))]) := fun j d hd => by
  rw [List.getElem?_append] at hd
  split at hd
  · exact h j d hd
  · rename_i hlt
    have hj : j - D.length = 0 := by
      have := (List.getElem?_eq_some_iff.1 hd).1
      simp at this; omega
    rw [hj] at hd
    injection hd with hd
    have e : j = D.length := by omega
    exact ⟨x, y, hd.symm, by omega, by omega⟩
/-- Literals of nodes below N. -/
def LitsOk (N : Nat) (R : List Int) : Prop := ∀ r ∈ R, ∃ x : Nat, r = (x : Int) ∧ x / 2 < N
theorem litsOk_nil (N : Nat) : LitsOk N [] := fun r h => by cases h
theorem litsOk_add {N : Nat} {R : List Int} (h : LitsOk N R) {x : Nat} (hx : x / 2 < N) : LitsOk N (R ++ [(x : Int)]) := fun r hr => by
  rcases List.mem_append.1 hr with hr | hr
  · exact h r hr
  · exact ⟨x, by simpa using hr, hx⟩
/-- Sequential elements whose literals are of nodes below N. -/
def SeqsOk (N : Nat) (S : List DSeq) : Prop := ∀ s ∈ S, seqB s = true ∧ LitsOk N s.2.2
theorem seqsOk_nil (N : Nat) : SeqsOk N [] := fun r h => by cases h
theorem seqsOk_add {N : Nat} {S : List DSeq} (h : SeqsOk N S) {s : DSeq} (h1 : seqB s = true) (h2 : LitsOk N s.2.2) : SeqsOk N (S ++ [s]) := fun r hr => by
  rcases List.mem_append.1 hr with hr | hr
  · exact h r hr
  · have : r = s := by simpa using hr
    subst this; exact ⟨h1, h2⟩
theorem net_ok {I : Nat} {S : List DSeq} {D : List DAnd} {R : List Int} (hI : I ≤ 20) (hS : S.length ≤ 12) (hD : D.length ≤ 300) (hR : R.length ≤ 16) (h1 : SeqsOk (1 + I + S.length + D.length) S) (h2 : AndsOk (1 + I + S.length) D) (h3 : LitsOk (1 + I + S.length + D.length) R) :
    netB ((I : Int), S, D, R) = true := by
  have hz : sizesB ((I : Int), S, D, R) = true := decide_eq_true (by dsimp only; omega)
  have hP := sizeP_of hz
  have hf : firN ((I : Int), S, D, R) = 1 + I + S.length := by unfold firN; simp
  have hn : netN ((I : Int), S, D, R) = 1 + I + S.length + D.length := by unfold netN; rw [hf]
  have lit : ∀ (N : Nat) (r : Int), (∃ x : Nat, r = (x : Int) ∧ x / 2 < N) → litB (N : Int) r = true := fun N r ⟨x, e, h⟩ => by subst e; exact lit_yes (by omega)
  unfold netB
  rw [hz, hP.nc, hn]
  simp only [Bool.true_and, Bool.and_eq_true]
  refine ⟨List.all_eq_true.2 fun s hs => (h1 s hs).1, ?_, List.all_eq_true.2 fun r hr => lit _ _ ?_⟩
  · unfold andsB andsK
    refine List.all_eq_true.2 fun k hk => ?_
    have hkl := List.mem_range.1 hk
    obtain ⟨d, hd⟩ : ∃ d, D[k]? = some d := ⟨_, List.getElem?_eq_getElem hkl⟩
    obtain ⟨x, y, rfl, hx, hy⟩ := h2 k d hd
    show ((D[k]?).any _) = true
    rw [hd, Option.any_some]
    unfold andAt
    rw [hP.fir, hf, Bool.and_eq_true]
    have e : (((1 + I + S.length : Nat) : Int) + (k : Int)) = ((1 + I + S.length + k : Nat) : Int) := by omega
    rw [e]
    exact ⟨lit _ _ ⟨x, rfl, hx⟩, lit _ _ ⟨y, rfl, hy⟩⟩
  · unfold rootsL at hr
    rcases List.mem_append.1 hr with hr | hr
    · exact h3 r hr
    · obtain ⟨s, hs, hr⟩ := List.mem_flatMap.1 hr
      exact (h1 s hs).2 r hr
end Go.Proofs.Ytaebiiopommhdaa
