/-
  One cycle: the plain part, and what an owned slice keeps.
-/
import Derived.Test.YtaebiiopommhdaaNr7
namespace Go.Proofs.Ytaebiiopommhdaa
open Go.RowKit
set_option linter.unusedVariables false
set_option linter.unusedSimpArgs false

theorem valO_lenN {n : DNet} {st : List Int} (x : Int) (h : StateP n st) : (valO n st x).length = netN n := by
  rw [vals_yes (stateB_of h), valK_len]
theorem valO_01 {n : DNet} {st : List Int} (x : Int) (h : StateP n st) (j : Nat) : 0 ≤ (valO n st x).getD j 0 ∧ (valO n st x).getD j 0 ≤ 1 := by
  rw [vals_yes (stateB_of h)]; exact valK_in n st x _ j
theorem lits_seq {n : DNet} {V : List Int} {s : DSeq} {k : Nat} (hP : NetP n) (hV : V.length = netN n) (hs : n.2.1[k]? = some s) : LitsIn V s.2.2 := fun r hr => by
  have hm : r ∈ rootsL n := by
    unfold rootsL
    exact List.mem_append.2 (.inr (List.mem_flatMap.2 ⟨s, List.mem_of_getElem? hs, hr⟩))
  obtain ⟨x, e, hx⟩ := hP.root r hm
  exact ⟨x, e, by rw [hV]; exact hx⟩
theorem lits_out {n : DNet} {V : List Int} (hP : NetP n) (hV : V.length = netN n) : LitsIn V n.2.2.2 := fun r hr => by
  have hm : r ∈ rootsL n := by
    unfold rootsL
    exact List.mem_append.2 (.inl hr)
  obtain ⟨x, e, hx⟩ := hP.root r hm
  exact ⟨x, e, by rw [hV]; exact hx⟩
theorem next_zero (n : DNet) (st V : List Int) : nextL n st V 0 = [] := by simp [nextL]
theorem next_len (n : DNet) (st V : List Int) (k : Nat) : (nextL n st V k).length = k := by simp [nextL]
theorem next_step {n : DNet} {st V : List Int} {k : Nat} {s : DSeq} {x : Int} (hs : n.2.1[k]? = some s) (hx : st[k]? = some x) : nextL n st V (k + 1) = nextL n st V k ++ [seqI s.1 x (maskV V s.2.2)] := by
  unfold nextL
  rw [List.range_succ, List.map_append]
  simp [hs, hx]
theorem step_no {n : DNet} {st : List Int} {x : Int} (h : stateB n st = false) : stepO n st x = ([], 0) := by unfold stepO; rw [h]; rfl
theorem step_yes {n : DNet} {st : List Int} {x : Int} (h : stateB n st = true) : stepO n st x = (nextL n st (valO n st x) n.2.1.length, maskV (valO n st x) n.2.2.2) := by unfold stepO; rw [if_pos h]
theorem own_blk {w : World} {B : Nat} {v : Value} {L : List Int} (h : OwnsI w B v L) (hl : 0 < L.length) : ∃ g cap, v = .slice (some ⟨g, 0, none⟩) L.length cap ∧ B ≤ g ∧ g < w.heap.size := by
  rcases h.2 with ⟨rfl, h0⟩ | ⟨g, cap, cur, rfl, e2, e3, e4, e5, e6⟩
  · omega
  · exact ⟨g, cap, rfl, e2, (Array.getElem?_eq_some_iff.1 e3).1⟩
theorem ownI_kept {w w' : World} {B g n c : Nat} {L : List Int} {row : Option Nat} (h : OwnsI w B (.slice (some ⟨g, 0, none⟩) n c) L) (hg : w.grownBy w' row) (hne : row ≠ some g) : OwnsI w' B (.slice (some ⟨g, 0, none⟩) n c) L := by
  unfold OwnsI at h ⊢
  exact World.ownsRow.kept h hg (.inr (fun e => hne e.symm))
/-- The values of a slice that stays behind an append of another. -/
theorem keep_grown {w w' : World} {row : Option Nat} (h : w.grownBy w' row) {b o : Nat} {v : Value} (hc : w.cell? ⟨b, o, none⟩ = some v) (hne : row ≠ some b) : w'.cell? ⟨b, o, none⟩ = some v := grownC h hc hne
theorem own_int {w' : World} {B : Nat} {A' : Option Addr} {c' : Nat} {L : List Int} {x : Int} (h : w'.ownsRow B 3 1 (.slice A' (L.length + 1) c') (L.length + 1) (L.map vI ++ [.int .i64 x])) : OwnsI w' B (.slice A' (L.length + 1) c') (L ++ [x]) := by
  unfold OwnsI
  rw [List.length_append, List.map_append]
  exact h
end Go.Proofs.Ytaebiiopommhdaa
