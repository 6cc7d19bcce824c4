/-
  A region that draws its order: several operations may come up, each shown in its turn.
-/
import Derived.Test.YtiejilmgchmppaaRgN
namespace Go.Proofs.Ytiejilmgchmppaa
open Go.RowKit
set_option linter.unusedVariables false

section
variable {P : Program} {ops : Array Oper} {Q : Exit → Act → World → Prop} {md : Region.Mode} {S : World → Prop} {n : Nat}
/-- One of the operations R comes up. -/
theorem Kept.fork (R : List Nat) {f : Nat} {L : Array Bool} {a : Act} {w : World} (hr : (decide (Region.ready md ops L = R) && R.all fun i => decide (i < n)) = true) (hne : R ≠ [])
    (h : ∀ i ∈ R, ∀ o : Oper, ops.toList[i]? = some o → ∀ K : Act → World → Prop, Shut (∀ a w, S w → (S w → Kept P md ops Q S n f (L.setIfInBounds i true) a w) → K a w) → if Region.wanted o (yielded ops a.tmps) = true then Oper.wp P o a w K Q else K (a.put o.dst undef) w) : Kept P md ops Q S n (f + 1) L a w := fun inv => by
  simp only [Bool.and_eq_true, decide_eq_true_eq, List.all_eq_true] at hr
  refine ⟨fun h0 => (by rw [hr.1] at h0; exact absurd h0 hne), fun k hk => ?_⟩
  have hm := hk
  rw [hr.1] at hk
  have hkn := hr.2 k hk
  have hlt : k < ops.size := by
    rcases Nat.lt_or_ge k ops.size with h | h
    · exact h
    · exfalso
      have : k ∉ Region.ready md ops L := by
        intro hm2
        have := (List.mem_filter.1 hm2).1
        have := List.mem_range.1 this
        omega
      exact this hm
  obtain ⟨o, ho⟩ : ∃ o, ops[k]? = some o := ⟨_, Array.getElem?_eq_getElem hlt⟩
  exact wpOp_step ho fun K hK => h k hk o (by rw [Array.getElem?_toList]; exact ho) K fun a w hS hW => hK a w ⟨fun _ => hS, hW hS (inv.set hm hkn)⟩
end
end Go.Proofs.Ytiejilmgchmppaa
