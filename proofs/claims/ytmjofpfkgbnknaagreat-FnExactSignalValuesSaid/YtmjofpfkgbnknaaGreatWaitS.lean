/-
  Slices of bools; which signals wait.
-/
import Derived.Test.YtmjofpfkgbnknaaGreatFlatMath
import Derived.Test.YtmjofpfkgbnknaaGreatDpAll
namespace Go.Proofs.YtmjofpfkgbnknaaGreat
open Go.RowKit
set_option linter.unusedVariables false
set_option linter.unusedSimpArgs false

def rdBool : Rd Bool := fun _ _ _ vs x => vs = [.bool x]
theorem good_Bool : Rd.Good rdBool := fun _ _ _ _ _ _ _ _ h _ _ _ => h
abbrev rdBoolS : Rd (List Bool) := rdS 1 rdBool
theorem good_BoolS : Rd.Good rdBoolS := rdS_good 1 good_Bool
def fB (x : Bool) : List Value := [.bool x]
theorem fB_len (x : Bool) : (fB x).length = 1 := rfl
abbrev OwnsB (w : World) (B : Nat) (v : Value) (W : List Bool) : Prop := OwnsR fB 1 4 w B v W
theorem OwnsB.rd {w : World} {B : Nat} {v : Value} {W : List Bool} (h : OwnsB w B v W) : rdBoolS B w.heap.size w [v] W := by
  obtain ⟨A, c, hv, hsh⟩ := OwnsR.shape fB_len h
  have hm : W.length ≤ maxLen ∧ W.length ≤ c := by
    rcases h.2 with ⟨e, h0⟩ | ⟨g, cap, cur, e, _, _, h1, h2, _⟩
    · omega
    · rw [hv] at e; injection e with _ _ e; omega
  refine ⟨A, c, by rw [hv], hm, fun j hj => ?_⟩
  obtain ⟨g, hg, hc⟩ := hsh j hj
  have hB : B ≤ g := by
    rcases h.2 with ⟨e, h0⟩ | ⟨g', cap, cur, e, e2, _⟩
    · omega
    · rw [hv] at e; injection e with e; rw [hg] at e; injection e with e; injection e with e; omega
  refine ⟨g, 0, hg, hB, World.block_lt_of_cell? _ _ (hc 0 _ rfl).1, [.bool W[j]], rfl, fun i u hu => ?_, rfl⟩
  rw [Nat.zero_add]
  exact (hc i u hu).1
/-- The signals that a valid expression reads are there. -/
def ReadsIn (L : List DOp) (n : Nat) : Prop := ∀ o ∈ L, (o.1 = 2 ∨ o.1 = 3) → 0 ≤ o.2.1 ∧ o.2.1 < (n : Int)
theorem readsIn_of {L : List DOp} {n : Nat} (h : opsB (n : Int) L = true) : ReadsIn L n := fun o ho h23 => opB_sig ((opsB_all h).2 o ho) h23
theorem waits_at (L : List DOp) (W : List Bool) (i : Nat) (o : DOp) (h : L[i]? = some o) (ho : readsW W o = true) : waitsB L W = true := by
  unfold waitsB; rw [List.any_eq_true]; exact ⟨o, List.mem_of_getElem? h, ho⟩
theorem waits_step (L : List DOp) (W : List Bool) (i : Nat) (o : DOp) (h : L[i]? = some o) (ho : readsW W o = false) (h0 : waitsB (L.take i) W = false) : waitsB (L.take (i + 1)) W = false := by
  unfold waitsB at h0 ⊢; rw [List.take_add_one, h, List.any_append, h0]; simp [ho]
theorem reads_yes {W : List Bool} {k b : Int} {t : Nat} (h : k = 2 ∨ k = 3) {q : Bool} (hq : W.getD t false = q) : readsW W (k, (t : Int), b) = q := by
  unfold readsW; dsimp only; rw [Int.toNat_natCast, hq]; rcases h with rfl | rfl <;> simp
theorem reads_no {W : List Bool} {o : DOp} (h : ¬ (o.1 = 2 ∨ o.1 = 3)) : readsW W o = false := by
  unfold readsW; rw [decide_eq_false (fun e => h (.inl e)), decide_eq_false (fun e => h (.inr e))]; rfl
/-- Every assignment's target and every signal that it reads is there. -/
def AsgIn (L : List DAssign) (n : Nat) : Prop := ∀ a ∈ L, (∃ t : Nat, a.1 = t ∧ t < n) ∧ ReadsIn a.2 n
theorem asgIn_of {d : List DModule} {k : Int} {m : DModule} (h : ModOk d k m) : AsgIn m.2.1 m.1.length := fun a ha => by
  obtain ⟨t, e, ht, _, ho⟩ := h.asg a ha
  exact ⟨⟨t, e, ht⟩, readsIn_of ho⟩
/-- None of the first i assignments is ready. -/
def NoneR (L : List DAssign) (W : List Bool) (i : Nat) : Prop := (L.take i).any (readyB W) = false
theorem NoneR.zero (L : List DAssign) (W : List Bool) : NoneR L W 0 := by simp [NoneR]
theorem NoneR.step {L : List DAssign} {W : List Bool} {i : Nat} {a : DAssign} (h : L[i]? = some a) (ha : readyB W a = false) (h0 : NoneR L W i) : NoneR L W (i + 1) := by
  unfold NoneR at h0 ⊢; rw [List.take_add_one, h, List.any_append, h0]; simp [ha]
theorem NoneR.hit {L : List DAssign} {W : List Bool} {i : Nat} {a : DAssign} (h : L[i]? = some a) (ha : readyB W a = true) (h0 : NoneR L W i) : nextA L W = some i := by
  obtain ⟨hi, e⟩ := List.getElem?_eq_some_iff.1 h
  unfold nextA
  rw [List.findIdx?_eq_some_iff_getElem]
  refine ⟨hi, by rw [e]; exact ha, fun j hj => ?_⟩
  unfold NoneR at h0
  rw [List.any_eq_false] at h0
  exact h0 _ (List.mem_take_iff_getElem.2 ⟨j, by omega, rfl⟩)
theorem NoneR.miss {L : List DAssign} {W : List Bool} (h0 : NoneR L W L.length) : nextA L W = none := by
  unfold NoneR at h0
  rw [List.take_length, List.any_eq_false] at h0
  unfold nextA
  rw [List.findIdx?_eq_none_iff]
  intro a ha
  have := h0 a ha
  cases hb : readyB W a with
  | false => rfl
  | true => exact absurd hb this
def nxI (L : List DAssign) (W : List Bool) : Int := match nextA L W with | some i => i | none => -1
theorem nxI_some {L : List DAssign} {W : List Bool} {i : Nat} (h : nextA L W = some i) : nxI L W = i := by unfold nxI; rw [h]
theorem nxI_none {L : List DAssign} {W : List Bool} (h : nextA L W = none) : nxI L W = -1 := by unfold nxI; rw [h]
theorem ready_no1 {W : List Bool} {a : DAssign} {t : Nat} (ht : a.1 = t) (h : W.getD t false = false) : readyB W a = false := by unfold readyB; rw [ht, Int.toNat_natCast, h]; rfl
theorem ready_yes {W : List Bool} {a : DAssign} {t : Nat} (ht : a.1 = t) (h : W.getD t false = true) : readyB W a = !waitsB a.2 W := by unfold readyB; rw [ht, Int.toNat_natCast, h]; simp
end Go.Proofs.YtmjofpfkgbnknaaGreat
