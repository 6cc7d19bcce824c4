/-
  IsHashed: the specification.
-/
import Derived.Test.YtedamhkcblemdaaHc3
import Derived.Test.YtedamhkcblemdaaHsA
import Derived.Test.YtedamhkcblemdaaNeC
import Derived.Deep.RegionHeld3
import Derived.Laws.StructEq
namespace Go.Proofs.Ytedamhkcblemdaa
open Go.RowKit
set_option linter.unusedVariables false
set_option linter.unusedSimpArgs false

theorem reach_lenS {n : DNet} (hP : NetP n) : (reachO n).length = netN n := by
  unfold reachO
  rw [if_pos (netB_of hP)]
  unfold markL
  rw [markK_len, seenL_len]
theorem hashed_bad {n : DNet} {R : List Bool} {i : Nat} (hR : reachO n = R) (hi : i < n.2.2.1.length) (h : hashAt n R i = false) : hashedB n = false := by
  unfold hashedB
  rw [hR]
  cases e : (List.range n.2.2.1.length).all (hashAt n R) with
  | false => rw [Bool.and_false]
  | true => have := List.all_eq_true.1 e i (List.mem_range.2 hi); rw [h] at this; cases this
theorem hashed_good {n : DNet} {R : List Bool} (hP : NetP n) (hR : reachO n = R) (h : ∀ i, i < n.2.2.1.length → hashAt n R i = true) : hashedB n = true := by
  unfold hashedB
  rw [hR, netB_of hP, Bool.true_and]
  exact List.all_eq_true.2 fun i hi => h i (List.mem_range.1 hi)
theorem hashAt_keep {n : DNet} {R : List Bool} {i : Nat} {a : DAnd} (ha : n.2.2.1[i]? = some a) (h : R.getD (firN n + i) false = false) : hashAt n R i = false := by
  unfold hashAt; rw [ha]; dsimp only; rw [h, Bool.false_and]
theorem hashAt_shape {n : DNet} {R : List Bool} {i : Nat} {a : DAnd} (ha : n.2.2.1[i]? = some a) (h : ¬ (2 ≤ a.1 ∧ a.1 < a.2 ∧ ¬ (a.1 % 2 = 0 ∧ a.2 = a.1 + 1))) : hashAt n R i = false := by
  unfold hashAt shapeB; rw [ha]; dsimp only; rw [decide_eq_false h, Bool.false_and, Bool.and_false]
theorem hashAt_dup {n : DNet} {R : List Bool} {i k : Nat} {a : DAnd} (ha : n.2.2.1[i]? = some a) (hk : k < i) (h : n.2.2.1[k]? = some a) : hashAt n R i = false := by
  unfold hashAt; rw [ha]; dsimp only
  have e : freshB n.2.2.1 i a = false := by
    cases e : freshB n.2.2.1 i a with
    | false => rfl
    | true => unfold freshB at e; have := List.all_eq_true.1 e k (List.mem_range.2 hk); rw [h] at this; simp at this
  rw [e, Bool.and_false, Bool.and_false]
theorem hashAt_ok {n : DNet} {R : List Bool} {i : Nat} {a : DAnd} (ha : n.2.2.1[i]? = some a) (h : R.getD (firN n + i) false = true) (hs : 2 ≤ a.1 ∧ a.1 < a.2 ∧ ¬ (a.1 % 2 = 0 ∧ a.2 = a.1 + 1)) (hf : ∀ k : Nat, k < i → n.2.2.1[k]? ≠ some a) : hashAt n R i = true := by
  unfold hashAt shapeB; rw [ha]; dsimp only; rw [decide_eq_true hs, h, Bool.true_and, Bool.true_and]
  unfold freshB
  refine List.all_eq_true.2 fun k hk => ?_
  rw [decide_eq_false (hf k (List.mem_range.1 hk))]; rfl

end Go.Proofs.Ytedamhkcblemdaa
