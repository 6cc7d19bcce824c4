/-
  Truth tables: masks, validity, the copy and the comparison of a table.
-/
import Derived.Test.YtmalaleinmoihaaQui
namespace Go.Proofs.Ytmalaleinmoihaa
open Go.RowKit
set_option linter.unusedSimpArgs false

/-- The table's value. -/
def T (n b : Int) : Value := .agg #[.int .i64 n, .int .i64 b]
/-- The mask of n inputs. -/
def maskN (n : Int) : Nat := 2 ^ 2 ^ n.toNat - 1
/-- Validity. -/
def okB (n b : Int) : Bool := decide (0 ≤ n ∧ n ≤ 4 ∧ 0 ≤ b ∧ b ≤ maskN n)

theorem five {n : Int} (h0 : 0 ≤ n) (h4 : n ≤ 4) : n = 0 ∨ n = 1 ∨ n = 2 ∨ n = 3 ∨ n = 4 := by omega

theorem l01In_any (x a b : Int) (w : World) :
    Calls Try.prog 12 #[.int .i64 x, .int .i64 a, .int .i64 b] w fun e w' => e = .returned (.bool (decide (a ≤ x ∧ x ≤ b))) ∧ w = w' := by
  go_enter Try.func12, Try.ntmps12
  by_cases h1 : a ≤ x <;> by_cases h2 : x ≤ b
  all_goals
    go_wp2
    go_ret
    exact ⟨by simp [h1, h2], rfl⟩

theorem l01In_at (x a b : Int) {v : Bool} (w : World) (hv : decide (a ≤ x ∧ x ≤ b) = v) :
    Calls Try.prog 12 #[.int .i64 x, .int .i64 a, .int .i64 b] w fun e w' => e = .returned (.bool v) ∧ w = w' := by
  subst hv; exact l01In_any x a b w

end Go.Proofs.Ytmalaleinmoihaa
