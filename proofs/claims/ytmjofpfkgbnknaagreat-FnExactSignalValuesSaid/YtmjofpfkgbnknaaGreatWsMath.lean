/-
  Valid states of flat modules: the plain part.
-/
import Derived.Test.YtmjofpfkgbnknaaGreatFlS
import Derived.Test.YtmjofpfkgbnknaaGreatExprMath
import Derived.Test.YtmjofpfkgbnknaaGreatWsAll
namespace Go.Proofs.YtmjofpfkgbnknaaGreat
open Go.RowKit
set_option linter.unusedVariables false
set_option linter.unusedSimpArgs false

/-- What a flat module keeps. -/
structure FlatP (m : DModule) : Prop where
  mod : ModOk [m] 0 m
  wid : ∀ (s : Nat) (x : DSignal), m.1[s]? = some x → ∃ W : Nat, x.2.1 = (W : Int) ∧ 1 ≤ W ∧ W ≤ 4
  nop : ∀ a ∈ m.2.1, noPar a = true
  mem : ∀ x ∈ m.2.2.2, memWid m x = true
  ord : (orderO m).isSome = true
theorem flatP_of {m : DModule} (h : flatB m = true) : FlatP m := by
  have h' := h
  unfold flatB at h'
  simp only [Bool.and_eq_true] at h'
  obtain ⟨⟨⟨⟨h1, h2⟩, h3⟩, h4⟩, h5⟩ := h'
  have hm := order_ok h1
  refine ⟨hm, fun s x hx => ?_, fun a ha => List.all_eq_true.1 h3 a ha, fun x hx => List.all_eq_true.1 h4 x hx, h1⟩
  have hb := sigOk_wid (hm.sig x (List.mem_of_getElem? hx))
  have hn := List.all_eq_true.1 h2 x (List.mem_of_getElem? hx)
  simp only [Bool.not_eq_true', decide_eq_false_iff_not] at hn
  exact ⟨x.2.1.toNat, by omega, by omega, by omega⟩
def outIs (s : Int) (x : DMem) : Bool := decide (x.2.2.2 = s)
/-- Signal s holds a state. -/
def stateB (m : DModule) (s : Nat) : Bool := decide (kindI m s = 3) || m.2.2.2.any (outIs s)
def isReg (x : DSignal) : Bool := decide (x.1 = 3)
def st1 (m : DModule) (k : Nat) : List Bool := (m.1.take k).map isReg ++ List.replicate (m.1.length - k) false
def outAt2 (m : DModule) (k : Nat) : Nat := ((m.2.2.2[k]?).map fun x => x.2.2.2.toNat).getD 0
def stM (m : DModule) : Nat → List Bool
  | 0 => m.1.map isReg
  | k + 1 => (stM m k).set (outAt2 m k) true
def statesL (m : DModule) : List Bool := stM m m.2.2.2.length
theorem st1_zero (m : DModule) : st1 m 0 = List.replicate m.1.length false := by simp [st1]
theorem st1_end (m : DModule) : st1 m m.1.length = stM m 0 := by simp [st1, stM]
theorem st1_len (m : DModule) (k : Nat) (h : k ≤ m.1.length) : (st1 m k).length = m.1.length := by simp [st1]; omega
theorem st1_step {m : DModule} {k : Nat} {x : DSignal} (h : m.1[k]? = some x) : (st1 m k).set k (isReg x) = st1 m (k + 1) := by
  have hk := (List.getElem?_eq_some_iff.1 h).1
  unfold st1
  rw [List.take_add_one, h, List.map_append, List.set_append_right _ _ (by rw [List.length_map, List.length_take]; omega)]
  have e : k - ((m.1.take k).map isReg).length = 0 := by rw [List.length_map, List.length_take]; omega
  have e2 : m.1.length - k = (m.1.length - (k + 1)) + 1 := by omega
  rw [e, e2, List.replicate_succ, List.set_cons_zero]
  simp
theorem stM_len (m : DModule) : ∀ k, (stM m k).length = m.1.length
  | 0 => by simp [stM]
  | k + 1 => by unfold stM; rw [List.length_set, stM_len m k]
theorem stM_step {m : DModule} {k t : Nat} {x : DMem} (h : m.2.2.2[k]? = some x) (ht : x.2.2.2 = (t : Int)) : (stM m k).set t true = stM m (k + 1) := by
  show _ = (stM m k).set (outAt2 m k) true
  unfold outAt2; rw [h]; simp [ht]
theorem kind_at {m : DModule} {s : Nat} {x : DSignal} (h : m.1[s]? = some x) : kindI m s = x.1 := kindI_yes h
theorem stM_at {m : DModule} (hm : ∀ x ∈ m.2.2.2, ∃ t : Nat, x.2.2.2 = t ∧ t < m.1.length) : ∀ (k s : Nat), k ≤ m.2.2.2.length → s < m.1.length → (stM m k).getD s false = (decide (kindI m s = 3) || (m.2.2.2.take k).any (outIs s))
  | 0, s, _, hs => by
    have hx : m.1[s]? = some m.1[s] := List.getElem?_eq_getElem hs
    rw [kind_at hx]
    simp [stM, isReg, List.getD_eq_getElem?_getD, hx]
  | k + 1, s, hk, hs => by
    have ih := stM_at hm k s (by omega) hs
    have hx : m.2.2.2[k]? = some m.2.2.2[k] := List.getElem?_eq_getElem (by omega)
    obtain ⟨t, ht, htl⟩ := hm _ (List.getElem_mem (show k < m.2.2.2.length by omega))
    rw [← stM_step hx ht, List.take_add_one, hx, List.any_append]
    by_cases e : t = s
    · subst e
      rw [List.getD_eq_getElem?_getD, List.getElem?_set_self (by rw [stM_len]; exact hs)]
      simp [outIs, ht]
    · rw [List.getD_eq_getElem?_getD, List.getElem?_set_ne e, ← List.getD_eq_getElem?_getD, ih]
      have : decide (m.2.2.2[k].2.2.2 = (s : Int)) = false := decide_eq_false (by rw [ht]; omega)
      simp [outIs, this]
theorem statesL_at {m : DModule} (hm : ∀ x ∈ m.2.2.2, ∃ t : Nat, x.2.2.2 = t ∧ t < m.1.length) {s : Nat} (hs : s < m.1.length) : (statesL m).getD s false = stateB m s := by
  unfold statesL stateB
  rw [stM_at hm _ s (Nat.le_refl _) hs, List.take_length]
theorem mem_outs {m : DModule} (h : FlatP m) : ∀ x ∈ m.2.2.2, ∃ t : Nat, x.2.2.2 = t ∧ t < m.1.length := fun x hx => inR_at (h.mod.mem x hx).2.2.2
/-- v is a value of W bits. -/
def fitsB (v : Int) (W : Nat) : Bool := decide (0 ≤ v ∧ v ≤ ((2 ^ W - 1 : Nat) : Int))
theorem fits_cut (v : Int) (W : Nat) : (v == cutI v W) = fitsB v W := by
  have h1 := pow1 W
  have h2 := cutI_lo v W
  have h3 := cutI_hi v W
  unfold fitsB
  by_cases h : 0 ≤ v ∧ v ≤ ((2 ^ W - 1 : Nat) : Int)
  · rw [decide_eq_true h, cutI_in h.1 (by omega)]; simp
  · rw [decide_eq_false h]
    simp only [beq_eq_false_iff_ne, ne_eq]
    intro e
    apply h
    omega
def widN (m : DModule) (s : Nat) : Nat := (widI m s).toNat
theorem widN_at {m : DModule} {s : Nat} {x : DSignal} {W : Nat} (h : m.1[s]? = some x) (hw : x.2.1 = (W : Int)) : widN m s = W := by unfold widN; rw [wid_at h, hw]; rfl
def valW (m : DModule) (s : Nat) : Nat := if stateB m s then widN m s else 0
def valB (m : DModule) (V : List Int) (s : Nat) : Bool := fitsB (V.getD s 0) (valW m s)
def dataAt (m : DModule) (k : Nat) : Nat := ((m.2.2.2[k]?).map fun x => x.2.1.toNat).getD 0
def wordB (m : DModule) (U : List Int) (i : Nat) : Bool := fitsB (U.getD i 0) (widN m (dataAt m (i / 4)))
def lensB (m : DModule) (st : DWordState) : Bool := decide (st.1.length = m.1.length) && decide (st.2.length = 4 * m.2.2.2.length)
/-- What WordStateOk answers. -/
def wsB (m : DModule) (st : DWordState) : Bool := flatB m && lensB m st && (List.range m.1.length).all (valB m st.1) && (List.range st.2.length).all (wordB m st.2)
def AllN (f : Nat → Bool) (k : Nat) : Prop := (List.range k).all f = true
theorem AllN.zero (f : Nat → Bool) : AllN f 0 := rfl
theorem AllN.step {f : Nat → Bool} {k : Nat} (h : AllN f k) (hf : f k = true) : AllN f (k + 1) := by unfold AllN at h ⊢; rw [range_all_step, h, hf]; rfl
theorem AllN.miss {f : Nat → Bool} {k n : Nat} (hk : k < n) (hf : f k = false) : (List.range n).all f = false := range_all_false f k n hk hf
section
variable {m : DModule} {st : DWordState} {r : Bool}
theorem ws_no0 (hr : wsB m st = r) (h : flatB m = false) : r = false := by rw [← hr]; unfold wsB; rw [h]; rfl
theorem ws_no1 (hr : wsB m st = r) (h : ¬ (st.1.length = m.1.length ∧ st.2.length = 4 * m.2.2.2.length)) : r = false := by
  rw [← hr]; unfold wsB
  have : lensB m st = false := by
    unfold lensB
    by_cases h1 : st.1.length = m.1.length
    · rw [decide_eq_false (fun h2 => h ⟨h1, h2⟩), Bool.and_false]
    · rw [decide_eq_false h1]; rfl
  rw [this]; simp
theorem ws_no2 (hr : wsB m st = r) {s : Nat} (hs : s < m.1.length) (h : valB m st.1 s = false) : r = false := by
  rw [← hr]; unfold wsB; rw [AllN.miss hs h]; simp
theorem ws_no3 (hr : wsB m st = r) {i : Nat} (hs : i < st.2.length) (h : wordB m st.2 i = false) : r = false := by
  rw [← hr]; unfold wsB; rw [AllN.miss hs h]; simp
theorem ws_yes (hr : wsB m st = r) (h0 : flatB m = true) (h1 : st.1.length = m.1.length) (h2 : st.2.length = 4 * m.2.2.2.length) (h3 : AllN (valB m st.1) m.1.length) (h4 : AllN (wordB m st.2) st.2.length) : r = true := by
  rw [← hr]; unfold wsB lensB; rw [h0, decide_eq_true h1, decide_eq_true h2, h3, h4]; rfl
theorem data_at {k t : Nat} {x : DMem} (h : m.2.2.2[k]? = some x) (ht : x.2.1 = (t : Int)) : dataAt m k = t := by unfold dataAt; rw [h]; simp [ht]
end
end Go.Proofs.YtmjofpfkgbnknaaGreat
