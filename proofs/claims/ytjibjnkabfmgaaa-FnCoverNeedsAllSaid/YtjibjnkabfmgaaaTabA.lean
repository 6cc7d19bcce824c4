/-
  Truth tables: masks, validity, the copy and the comparison of a table.
-/
import Derived.Test.YtjibjnkabfmgaaaQui
namespace Go.Proofs.Ytjibjnkabfmgaaa
open Go.RowKit
set_option linter.unusedSimpArgs false

/-- The table's value. -/
def T (n b : Int) : Value := .agg #[.int .i64 n, .int .i64 b]
/-- The mask of n inputs. -/
def maskN (n : Int) : Nat := 2 ^ 2 ^ n.toNat - 1
/-- Validity. -/
def okB (n b : Int) : Bool := decide (0 ≤ n ∧ n ≤ 4 ∧ 0 ≤ b ∧ b ≤ maskN n)

theorem five {n : Int} (h0 : 0 ≤ n) (h4 : n ≤ 4) : n = 0 ∨ n = 1 ∨ n = 2 ∨ n = 3 ∨ n = 4 := by omega

theorem tableMask_any (n : Int) (w : World) (h0 : 0 ≤ n) (h4 : n ≤ 4) :
    Calls Try.prog 59 #[.int .i64 n] w fun e w' => e = .returned (.int .i64 (maskN n)) ∧ w = w' := by
  rcases five h0 h4 with rfl | rfl | rfl | rfl | rfl
  all_goals
    go_enter Try.func59, Try.ntmps59
    go_wp2
    go_ret
    exact ⟨rfl, rfl⟩

theorem l02Full_any (n : Int) (w : World) (h0 : 0 ≤ n) (h4 : n ≤ 4) :
    Calls Try.prog 51 #[.int .i64 n] w fun e w' => e = .returned (.int .i64 (maskN n)) ∧ w = w' := by
  rcases five h0 h4 with rfl | rfl | rfl | rfl | rfl
  all_goals
    go_enter Try.func51, Try.ntmps51
    go_wp2
    go_ret
    exact ⟨rfl, rfl⟩

theorem l01In_any (x a b : Int) (w : World) :
    Calls Try.prog 46 #[.int .i64 x, .int .i64 a, .int .i64 b] w fun e w' => e = .returned (.bool (decide (a ≤ x ∧ x ≤ b))) ∧ w = w' := by
  go_enter Try.func46, Try.ntmps46
  by_cases h1 : a ≤ x <;> by_cases h2 : x ≤ b
  all_goals
    go_wp2
    go_ret
    exact ⟨by simp [h1, h2], rfl⟩

theorem l01In_at (x a b : Int) {v : Bool} (w : World) (hv : decide (a ≤ x ∧ x ≤ b) = v) :
    Calls Try.prog 46 #[.int .i64 x, .int .i64 a, .int .i64 b] w fun e w' => e = .returned (.bool v) ∧ w = w' := by
  subst hv; exact l01In_any x a b w

set_option maxHeartbeats 400000 in
theorem implOk_any (n b : Int) (w : World) :
    Calls Try.prog 40 #[T n b] w fun e w' => e = .returned (.bool (okB n b)) ∧ Below w.heap.size w w' := by
  unfold T
  go_enter Try.func40, Try.ntmps40
  go_wp2
  by_cases h1 : 0 ≤ n <;> by_cases h2 : n ≤ 4 <;> by_cases h3 : 0 ≤ b
  all_goals go_quiet (first | (go_at_call 59; refine quietly (tableMask_any n _ (by assumption) (by assumption))))
  all_goals go_wp2
  all_goals go_ret
  all_goals exact ⟨ret_bool (by unfold okB; (rw [Bool.eq_iff_iff]; simp only [decide_eq_true_eq, Bool.false_eq_true, Bool.true_eq, eq_self, true_iff, iff_true, false_iff, iff_false, Bool.and_eq_true]; omega)), by (repeat' (first | assumption | exact Below.refl _ _ | refine bDrewN ?_ _ | refine Below.drew ?_ | refine bAlloc ?_ (Nat.le_refl _) _ | refine bSet ?_ (by first | exact Nat.le_refl _ | omega | (simp <;> omega)) _))⟩

set_option maxHeartbeats 400000 in
theorem specOk_any (n b : Int) (w : World) :
    Calls Try.prog 44 #[T n b] w fun e w' => e = .returned (.bool (okB n b)) ∧ Below w.heap.size w w' := by
  unfold T
  go_enter Try.func44, Try.ntmps44
  go_wp2
  by_cases h1 : 0 ≤ n ∧ n ≤ 4 <;> by_cases h3 : 0 ≤ b
  all_goals first | (have hv : decide (0 ≤ n ∧ n ≤ 4) = true := decide_eq_true h1) | (have hv : decide (0 ≤ n ∧ n ≤ 4) = false := decide_eq_false h1)
  all_goals go_quiet (first | (go_at_call 46; refine quietly (l01In_at n 0 4 _ hv)) | (go_at_call 51; refine quietly (l02Full_any n _ h1.1 h1.2)))
  all_goals go_wp2
  all_goals go_ret
  all_goals exact ⟨ret_bool (by unfold okB; (rw [Bool.eq_iff_iff]; simp only [decide_eq_true_eq, Bool.false_eq_true, Bool.true_eq, eq_self, true_iff, iff_true, false_iff, iff_false, Bool.and_eq_true]; omega)), by (repeat' (first | assumption | exact Below.refl _ _ | refine bDrewN ?_ _ | refine Below.drew ?_ | refine bAlloc ?_ (Nat.le_refl _) _ | refine bSet ?_ (by first | exact Nat.le_refl _ | omega | (simp <;> omega)) _))⟩

theorem toTable_any (n b : Int) (w : World) :
    Calls Try.prog 31 #[T n b] w fun e w' => e = .returned (T n b) ∧ Below w.heap.size w w' := by
  unfold T
  go_enter Try.func31, Try.ntmps31
  go_wp2
  ((try simp only [Exit.inBlock, Exit.then]); refine bodyPost_ret (v := (.agg #[.int .i64 n, .int .i64 b])) (by rw [results_cell1 rfl]; go_simp) rfl ?_)
  exact ⟨rfl, by (repeat' (first | assumption | exact Below.refl _ _ | refine bDrewN ?_ _ | refine Below.drew ?_ | refine bAlloc ?_ (Nat.le_refl _) _ | refine bSet ?_ (by first | exact Nat.le_refl _ | omega | (simp <;> omega)) _))⟩

theorem eqTable_any (n b m c : Int) (w : World) :
    Calls Try.prog 28 #[T n b, T m c] w fun e w' => e = .returned (.bool (decide (n = m ∧ b = c))) ∧ Below w.heap.size w w' := by
  unfold T
  go_enter Try.func28, Try.ntmps28
  by_cases h1 : n = m <;> by_cases h2 : b = c
  all_goals go_wp2
  all_goals go_ret
  all_goals exact ⟨ret_bool (by (rw [Bool.eq_iff_iff]; simp only [decide_eq_true_eq, Bool.false_eq_true, Bool.true_eq, eq_self, true_iff, iff_true, false_iff, iff_false, Bool.and_eq_true]; omega)), by (repeat' (first | assumption | exact Below.refl _ _ | refine bDrewN ?_ _ | refine Below.drew ?_ | refine bAlloc ?_ (Nat.le_refl _) _ | refine bSet ?_ (by first | exact Nat.le_refl _ | omega | (simp <;> omega)) _))⟩
end Go.Proofs.Ytjibjnkabfmgaaa
