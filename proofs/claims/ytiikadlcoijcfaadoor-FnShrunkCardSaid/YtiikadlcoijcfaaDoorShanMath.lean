/-
  A table is the disjunction of its cofactors; the cofactors do not depend on their input.
-/
import Derived.Test.YtiikadlcoijcfaaDoorTabDep
namespace Go.Proofs.YtiikadlcoijcfaaDoor
open Go.RowKit

theorem setK_lt (N K i : Nat) (v : Bool) (hN : N ≤ 4) (hK : K < N) (hi : i < 2 ^ N) : setK K v i < 2 ^ N := by
  have : ∀ N, N < 5 → ∀ K, K < N → ∀ i, i < 2 ^ N → ∀ v, setK K v i < 2 ^ N := by decide +kernel
  exact this N (by omega) K hK i hi v
theorem setK_setK (N K i : Nat) (v u : Bool) (hN : N ≤ 4) (hK : K < N) (hi : i < 2 ^ N) : setK K v (setK K u i) = setK K v i := by
  have : ∀ N, N < 5 → ∀ K, K < N → ∀ i, i < 2 ^ N → ∀ v u, setK K v (setK K u i) = setK K v i := by decide +kernel
  exact this N (by omega) K hK i hi v u
theorem setK_id (N K i : Nat) (hN : N ≤ 4) (hK : K < N) (hi : i < 2 ^ N) : setK K (i.testBit K) i = i := by
  have : ∀ N, N < 5 → ∀ K, K < N → ∀ i, i < 2 ^ N → setK K (i.testBit K) i = i := by decide +kernel
  exact this N (by omega) K hK i hi
theorem testBit_cof (N B K i : Nat) (v : Bool) (hi : i < 2 ^ N) : (cofN N B K v).testBit i = B.testBit (setK K v i) := by
  unfold cofN; rw [testBit_mkB, decide_eq_true hi]; simp
theorem cof_cof (N B K : Nat) (v u : Bool) (hN : N ≤ 4) (hK : K < N) : cofN N (cofN N B K v) K u = cofN N B K v := by
  unfold cofN
  refine mkB_congr _ fun i hi => ?_
  have h := testBit_cof N B K (setK K u i) v (setK_lt N K i u hN hK hi)
  unfold cofN at h
  rw [h, setK_setK N K i v u hN hK hi]
theorem cofN_mask (N B K : Nat) (v : Bool) : cofN N B K v ≤ maskN N := by
  have := mkB_lt (fun i => B.testBit (setK K v i)) (2 ^ N)
  unfold cofN maskN
  rw [Int.toNat_natCast]
  omega
theorem dep_cof (N B K : Nat) (v : Bool) (hN : N ≤ 4) (hK : K < N) : depB N (cofN N B K v : Nat) K = false := by
  unfold depB
  simp only [Int.toNat_natCast]
  rw [cof_cof N B K v false hN hK, cof_cof N B K v true hN hK]
  simp
theorem shannon (N B K : Nat) (hN : N ≤ 4) (hK : K < N) (hB : B < 2 ^ 2 ^ N) :
    (varN N K &&& cofN N B K true) ^^^ ((maskN N - varN N K) &&& cofN N B K false) = B := by
  have hv := varN_lt N K
  have hm : maskN N - varN N K = 2 ^ 2 ^ N - (varN N K + 1) := by
    unfold maskN; rw [Int.toNat_natCast]; omega
  apply Nat.eq_of_testBit_eq
  intro i
  rw [hm, Nat.testBit_xor, Nat.testBit_and, Nat.testBit_and, Nat.testBit_two_pow_sub_succ hv, testBit_varN]
  by_cases hi : i < 2 ^ N
  · rw [testBit_cof N B K i true hi, testBit_cof N B K i false hi]
    have h := setK_id N K i hN hK hi
    cases hb : i.testBit K
    · rw [hb] at h; rw [h]; simp [hi]
    · rw [hb] at h; rw [h]; simp [hi]
  · have h : B.testBit i = false := Nat.testBit_lt_two_pow (Nat.lt_of_lt_of_le hB (Nat.pow_le_pow_right (by omega) (by omega)))
    simp [hi, h]
theorem eval_one (N B K i : Nat) (hN : N ≤ 4) (hK : K < N) (hi : i < 2 ^ N) : (cofN N B K false).testBit i = B.testBit i ∨ (cofN N B K true).testBit i = B.testBit i := by
  rw [testBit_cof N B K i true hi, testBit_cof N B K i false hi]
  have h := setK_id N K i hN hK hi
  cases hb : i.testBit K
  · rw [hb] at h; rw [h]; exact .inl rfl
  · rw [hb] at h; rw [h]; exact .inr rfl
end Go.Proofs.YtiikadlcoijcfaaDoor
