/-
  Rows of values, 1 to 4 cells an element; what make lays.
-/
import Derived.Test.YtikibabknlpnkaaDoorReads
import Derived.Laws.MakeOwn
import Derived.Lib.QuietBelow
import Derived.Deep.RegionHeld3
namespace Go.Proofs.YtikibabknlpnkaaDoor
open Go.RowKit
set_option linter.unusedVariables false
abbrev V1 : Type := Value
abbrev V2 : Type := Value × Value
abbrev V3 : Type := Value × Value × Value
abbrev V4 : Type := Value × Value × Value × Value
def fV1 (x : V1) : List Value := [x]
def fV2 (x : V2) : List Value := [x.1, x.2]
def fV3 (x : V3) : List Value := [x.1, x.2.1, x.2.2]
def fV4 (x : V4) : List Value := [x.1, x.2.1, x.2.2.1, x.2.2.2]
theorem fV1_len (x : V1) : (fV1 x).length = 1 := rfl
theorem fV2_len (x : V2) : (fV2 x).length = 2 := rfl
theorem fV3_len (x : V3) : (fV3 x).length = 3 := rfl
theorem fV4_len (x : V4) : (fV4 x).length = 4 := rfl
theorem made_rows {α : Type} (f : α → List Value) (k : Nat) (hf : ∀ x, (f x).length = k) (zr : α) (zc : Array Value) (hz : zc.toList = f zr) (hk : 0 < k) (n : Nat) : (madeCells zc (n * k)).toList = (List.replicate n zr).flatMap f := by
  have hs : zc.size = k := by rw [← hf zr, ← hz]; simp
  apply List.ext_getElem?
  intro j
  rw [Array.getElem?_toList]
  by_cases hj : j < n * k
  · have hmod := Nat.mod_lt j hk
    have hdiv : j / k < n := (Nat.div_lt_iff_lt_mul hk).2 hj
    have e : j = (j / k) * k + j % k := by rw [Nat.mul_comm]; exact (Nat.div_add_mod j k).symm
    have h2 := flat_at f k hf (List.replicate n zr) (j / k) (j % k) (by simpa using hdiv) hmod
    rw [← e] at h2
    rw [h2]
    simp only [List.getElem_replicate]
    rw [← hz, Array.getElem?_toList]
    simp only [madeCells, Array.getElem?_map, Array.getElem?_range, hs]
    rw [if_pos hj]
    simp only [Option.map_some]
    rw [getElem!_pos zc (j % k) (by omega), Array.getElem?_eq_getElem (by omega)]
  · rw [List.getElem?_eq_none (by rw [flat_len f k hf]; simp; omega)]
    simp [madeCells, hj]
/-- A reading stands behind stores elsewhere and a call. -/
theorem rd_step {α : Type} {P : Rd α} (g : P.Good) {B : Nat} {w1 w2 w3 : World} {vs : List Value} {x : α} (h : P B w1.heap.size w1 vs x) (hset : ∀ b, B ≤ b → w2.heap[b]? = w1.heap[b]?) (hsz : w2.heap.size = w1.heap.size)
    (hb : Below w2.heap.size w2 w3) : P B w3.heap.size w3 vs x :=
  g _ _ _ _ w1 w3 _ _ h (Nat.le_refl _) (by rw [← hsz]; exact hb.size) fun b h1 h2 => (hb.block b (by rw [hsz]; exact h2)).trans (hset b h1)
theorem rowB' {b : Nat} {w w' : World} {o : Obj} (h : Below w.heap.size w w') (hr : w.heap[b]? = some o) : w'.heap[b]? = some o :=
  (h.block b (Array.getElem?_eq_some_iff.1 hr).1).trans hr
end Go.Proofs.YtikibabknlpnkaaDoor
