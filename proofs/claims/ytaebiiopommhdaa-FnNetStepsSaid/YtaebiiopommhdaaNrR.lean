/-
  Runs: the plain part.
-/
import Derived.Test.YtaebiiopommhdaaNrQ
namespace Go.Proofs.Ytaebiiopommhdaa
open Go.RowKit
set_option linter.unusedVariables false
set_option linter.unusedSimpArgs false

def outsK (n : DNet) (xs : List Int) (k : Nat) : List Int := (List.range k).map fun t => (stepO n (stAt n xs t) (xs.getD t 0)).2
theorem outs_zero (n : DNet) (xs : List Int) : outsK n xs 0 = [] := rfl
theorem outs_len (n : DNet) (xs : List Int) (k : Nat) : (outsK n xs k).length = k := by simp [outsK]
theorem outs_step {n : DNet} {xs S : List Int} {x o : Int} {k : Nat} (hx : xs[k]? = some x) (h : stepO n (stAt n xs k) x = (S, o)) : outsK n xs (k + 1) = outsK n xs k ++ [o] ∧ stAt n xs (k + 1) = S := by
  have e : xs.getD k 0 = x := by rw [List.getD_eq_getElem?_getD, hx]; rfl
  constructor
  · unfold outsK
    rw [List.range_succ, List.map_append, List.map_cons, List.map_nil, e, h]
  · conv => lhs; unfold stAt
    rw [e, h]
theorem run_no {n : DNet} {xs : List Int} (h : ¬ (netB n = true ∧ xs.length ≤ 16)) : runO n xs = [] := by unfold runO; rw [if_neg h]
theorem run_yes {n : DNet} {xs : List Int} (h : netB n = true) (hl : xs.length ≤ 16) : runO n xs = outsK n xs xs.length := by unfold runO; rw [if_pos ⟨h, hl⟩]; rfl
theorem state_fit {n : DNet} {st : List Int} (h : StateP n st) : ∀ y ∈ st, Fit y := fun y hy => by
  obtain ⟨j, hj, rfl⟩ := List.getElem_of_mem hy
  have h3 := h.val j _ (List.getElem?_eq_getElem (by rw [← h.len]; exact hj))
  rw [List.getD_eq_getElem?_getD, List.getElem?_eq_getElem hj, Option.getD_some] at h3
  have h4 := of_decide_eq_true h3
  unfold Fit
  omega
theorem step_out {n : DNet} {st : List Int} {x : Int} (h : StateP n st) : 0 ≤ (stepO n st x).2 ∧ (stepO n st x).2 < 65536 := by
  rw [step_yes (stateB_of h)]
  dsimp only
  have h1 := maskS_in (valO n st x) n.2.2.2 n.2.2.2.length
  have h2 : (2 : Nat) ^ n.2.2.2.length ≤ 2 ^ 16 := Nat.pow_le_pow_right (by omega) (netP_of h.net).sz.o16
  have h3 : ((2 : Int) ^ n.2.2.2.length) = ((2 ^ n.2.2.2.length : Nat) : Int) := by rw [Int.natCast_pow]; rfl
  unfold maskV
  omega
theorem outs_fit {n : DNet} {xs : List Int} (h : netB n = true) (k : Nat) : ∀ y ∈ outsK n xs k, Fit y := fun y hy => by
  obtain ⟨t, _, rfl⟩ := List.mem_map.1 hy
  have := step_out (x := xs.getD t 0) (stAt_ok h xs t)
  unfold Fit
  omega
theorem ownI_stays {w w' : World} {B : Nat} {v : Value} {L : List Int} {row : Option Nat} (h : OwnsI w B v L) (hg : w.grownBy w' row) (hne : v.ownBlock = none ∨ v.ownBlock ≠ row) : OwnsI w' B v L := by
  unfold OwnsI at h ⊢
  exact World.ownsRow.kept h hg hne
/-- What was made behind a world shares no block with what was there. -/
theorem own_apart {w w' : World} {B : Nat} {v u : Value} {L K : List Int} (h : OwnsI w B v L) (h' : OwnsI w' w.heap.size u K) : u.ownBlock = none ∨ u.ownBlock ≠ v.ownBlock := by
  cases e : u.ownBlock with
  | none => exact .inl rfl
  | some g =>
    refine .inr fun e2 => ?_
    have h1 := (h'.lt g e).1
    have h2 := (h.lt g e2.symm).2
    omega
theorem own_apart2 {w' : World} {B N : Nat} {u v v2 : Value} {L : List Int} (h' : OwnsI w' B u L) (hne : u.ownBlock = none ∨ u.ownBlock ≠ v.ownBlock) (hat : v2.ownBlock = v.ownBlock ∨ v2.ownBlock = some N) (hN : w'.heap.size ≤ N) : u.ownBlock = none ∨ u.ownBlock ≠ v2.ownBlock := by
  rcases hat with e | e
  · rw [e]; exact hne
  · cases e2 : u.ownBlock with
    | none => exact .inl rfl
    | some g =>
      refine .inr fun e3 => ?_
      rw [e] at e3
      injection e3 with e3
      have := (h'.lt g e2).2
      omega
end Go.Proofs.Ytaebiiopommhdaa
