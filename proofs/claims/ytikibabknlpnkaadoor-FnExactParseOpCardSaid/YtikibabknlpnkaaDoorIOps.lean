/-
  Operators and expressions, as the program judges them.
-/
import Derived.Test.YtikibabknlpnkaaDoorSOps
namespace Go.Proofs.YtikibabknlpnkaaDoor
open Go.RowKit
set_option linter.unusedVariables false
set_option linter.unusedSimpArgs false

set_option maxHeartbeats 1600000 in
theorem implArity_any (k : Int) (w : World) : Calls Tryd.prog 31 #[.int .i64 k] w fun e w' => e = .returned (.int .i64 (arityI k)) ∧ w = w' := by
  by_cases h : 0 ≤ k ∧ k ≤ 12
  · rcases (by omega : k = 0 ∨ k = 1 ∨ k = 2 ∨ k = 3 ∨ k = 4 ∨ k = 5 ∨ k = 6 ∨ k = 7 ∨ k = 8 ∨ k = 9 ∨ k = 10 ∨ k = 11 ∨ k = 12) with rfl | rfl | rfl | rfl | rfl | rfl | rfl | rfl | rfl | rfl | rfl | rfl | rfl
    all_goals
      go_enter Tryd.func31, Tryd.ntmps31
      go_wp2
      go_ret
      exact ⟨rfl, rfl⟩
  · rw [arityI_no h]
    have n0 : ¬ k = 0 := fun e => h (by omega)
    have n1 : ¬ k = 1 := fun e => h (by omega)
    have n2 : ¬ k = 2 := fun e => h (by omega)
    have n3 : ¬ k = 3 := fun e => h (by omega)
    have n4 : ¬ k = 4 := fun e => h (by omega)
    have n5 : ¬ k = 5 := fun e => h (by omega)
    have n6 : ¬ k = 6 := fun e => h (by omega)
    have n7 : ¬ k = 7 := fun e => h (by omega)
    have n8 : ¬ k = 8 := fun e => h (by omega)
    have n9 : ¬ k = 9 := fun e => h (by omega)
    have n10 : ¬ k = 10 := fun e => h (by omega)
    have n11 : ¬ k = 11 := fun e => h (by omega)
    have n12 : ¬ k = 12 := fun e => h (by omega)
    clear h
    go_enter Tryd.func31, Tryd.ntmps31
    go_wp2
    go_ret
    exact ⟨rfl, rfl⟩
theorem implArity_at (k : Int) {a : Int} (w : World) (h : arityI k = a) : Calls Tryd.prog 31 #[.int .i64 k] w fun e w' => e = .returned (.int .i64 a) ∧ w = w' := by
  subst h; exact implArity_any k w

set_option maxHeartbeats 6400000 in
theorem implOp_any (n k a b : Int) (w : World) :
    Calls Tryd.prog 20 #[.agg #[.int .i64 k, .int .i64 a, .int .i64 b], .int .i64 n] w fun e w' => e = .returned (.bool (opB n (k, a, b))) ∧ Below w.heap.size w w' := by
  unfold opB
  dsimp only
  by_cases k0 : k = 0
  · subst k0
    rw [if_pos rfl]
    by_cases h1 : 0 ≤ a
    · by_cases h2 : a ≤ 15
      · rw [decide_eq_true (⟨h1, h2⟩ : 0 ≤ a ∧ a ≤ 15)]
        by_cases hb : b = 0
        all_goals
          go_enter Tryd.func20, Tryd.ntmps20
          go_wp2
          go_ret
          exact ⟨ret_bool (by simp [hb]), by (repeat' (first | assumption | exact Below.refl _ _ | refine bDrewN ?_ _ | refine Below.drew ?_ | refine bAlloc ?_ (Nat.le_refl _) _ | refine bSet ?_ (by first | exact Nat.le_refl _ | omega | (simp <;> omega)) _))⟩
      · rw [decide_eq_false (by omega : ¬ (0 ≤ a ∧ a ≤ 15))]
        go_enter Tryd.func20, Tryd.ntmps20
        go_wp2
        go_ret
        exact ⟨rfl, by (repeat' (first | assumption | exact Below.refl _ _ | refine bDrewN ?_ _ | refine Below.drew ?_ | refine bAlloc ?_ (Nat.le_refl _) _ | refine bSet ?_ (by first | exact Nat.le_refl _ | omega | (simp <;> omega)) _))⟩
    · rw [decide_eq_false (by omega : ¬ (0 ≤ a ∧ a ≤ 15))]
      go_enter Tryd.func20, Tryd.ntmps20
      go_wp2
      go_ret
      exact ⟨rfl, by (repeat' (first | assumption | exact Below.refl _ _ | refine bDrewN ?_ _ | refine Below.drew ?_ | refine bAlloc ?_ (Nat.le_refl _) _ | refine bSet ?_ (by first | exact Nat.le_refl _ | omega | (simp <;> omega)) _))⟩
  · rw [if_neg k0]
    by_cases k2 : k = 2
    · subst k2
      rw [if_pos rfl]
      by_cases h1 : 0 ≤ a
      · by_cases h2 : a < n
        · rw [decide_eq_true (⟨h1, h2⟩ : 0 ≤ a ∧ a < n)]
          by_cases hb : b = 0
          all_goals
            go_enter Tryd.func20, Tryd.ntmps20
            go_wp2
            go_ret
            exact ⟨ret_bool (by simp [hb]), by (repeat' (first | assumption | exact Below.refl _ _ | refine bDrewN ?_ _ | refine Below.drew ?_ | refine bAlloc ?_ (Nat.le_refl _) _ | refine bSet ?_ (by first | exact Nat.le_refl _ | omega | (simp <;> omega)) _))⟩
        · rw [decide_eq_false (by omega : ¬ (0 ≤ a ∧ a < n))]
          go_enter Tryd.func20, Tryd.ntmps20
          go_wp2
          go_ret
          exact ⟨rfl, by (repeat' (first | assumption | exact Below.refl _ _ | refine bDrewN ?_ _ | refine Below.drew ?_ | refine bAlloc ?_ (Nat.le_refl _) _ | refine bSet ?_ (by first | exact Nat.le_refl _ | omega | (simp <;> omega)) _))⟩
      · rw [decide_eq_false (by omega : ¬ (0 ≤ a ∧ a < n))]
        go_enter Tryd.func20, Tryd.ntmps20
        go_wp2
        go_ret
        exact ⟨rfl, by (repeat' (first | assumption | exact Below.refl _ _ | refine bDrewN ?_ _ | refine Below.drew ?_ | refine bAlloc ?_ (Nat.le_refl _) _ | refine bSet ?_ (by first | exact Nat.le_refl _ | omega | (simp <;> omega)) _))⟩
    · rw [if_neg k2]
      by_cases k3 : k = 3
      · subst k3
        rw [if_pos rfl]
        by_cases h1 : 0 ≤ a
        · by_cases h2 : a < n
          · rw [decide_eq_true (⟨h1, h2⟩ : 0 ≤ a ∧ a < n)]
            by_cases h3 : 0 ≤ b
            · by_cases h4 : b < 4
              · rw [decide_eq_true (by omega : 0 ≤ b ∧ b ≤ 3)]
                go_enter Tryd.func20, Tryd.ntmps20
                go_wp2
                go_ret
                exact ⟨rfl, by (repeat' (first | assumption | exact Below.refl _ _ | refine bDrewN ?_ _ | refine Below.drew ?_ | refine bAlloc ?_ (Nat.le_refl _) _ | refine bSet ?_ (by first | exact Nat.le_refl _ | omega | (simp <;> omega)) _))⟩
              · rw [decide_eq_false (by omega : ¬ (0 ≤ b ∧ b ≤ 3))]
                go_enter Tryd.func20, Tryd.ntmps20
                go_wp2
                go_ret
                exact ⟨rfl, by (repeat' (first | assumption | exact Below.refl _ _ | refine bDrewN ?_ _ | refine Below.drew ?_ | refine bAlloc ?_ (Nat.le_refl _) _ | refine bSet ?_ (by first | exact Nat.le_refl _ | omega | (simp <;> omega)) _))⟩
            · rw [decide_eq_false (by omega : ¬ (0 ≤ b ∧ b ≤ 3))]
              go_enter Tryd.func20, Tryd.ntmps20
              go_wp2
              go_ret
              exact ⟨rfl, by (repeat' (first | assumption | exact Below.refl _ _ | refine bDrewN ?_ _ | refine Below.drew ?_ | refine bAlloc ?_ (Nat.le_refl _) _ | refine bSet ?_ (by first | exact Nat.le_refl _ | omega | (simp <;> omega)) _))⟩
          · rw [decide_eq_false (by omega : ¬ (0 ≤ a ∧ a < n))]
            go_enter Tryd.func20, Tryd.ntmps20
            go_wp2
            go_ret
            exact ⟨rfl, by (repeat' (first | assumption | exact Below.refl _ _ | refine bDrewN ?_ _ | refine Below.drew ?_ | refine bAlloc ?_ (Nat.le_refl _) _ | refine bSet ?_ (by first | exact Nat.le_refl _ | omega | (simp <;> omega)) _))⟩
        · rw [decide_eq_false (by omega : ¬ (0 ≤ a ∧ a < n))]
          go_enter Tryd.func20, Tryd.ntmps20
          go_wp2
          go_ret
          exact ⟨rfl, by (repeat' (first | assumption | exact Below.refl _ _ | refine bDrewN ?_ _ | refine Below.drew ?_ | refine bAlloc ?_ (Nat.le_refl _) _ | refine bSet ?_ (by first | exact Nat.le_refl _ | omega | (simp <;> omega)) _))⟩
      · rw [if_neg k3]
        obtain ⟨r, hr⟩ : ∃ r, arityI k = r := ⟨_, rfl⟩
        rw [hr]
        by_cases h1 : 0 ≤ r
        · rw [decide_eq_true h1]
          by_cases ha : a = 0
          all_goals
            by_cases hb : b = 0
            all_goals
              go_enter Tryd.func20, Tryd.ntmps20
              go_wp2_with fail
              refine (implArity_at k _ hr).mono ?_
              rintro e w1 ⟨rfl, rfl⟩
              go_wp2
              go_ret
              exact ⟨ret_bool (by simp [ha, hb]), by (repeat' (first | assumption | exact Below.refl _ _ | refine bDrewN ?_ _ | refine Below.drew ?_ | refine bAlloc ?_ (Nat.le_refl _) _ | refine bSet ?_ (by first | exact Nat.le_refl _ | omega | (simp <;> omega)) _))⟩
        · rw [decide_eq_false h1]
          go_enter Tryd.func20, Tryd.ntmps20
          go_wp2_with fail
          refine (implArity_at k _ hr).mono ?_
          rintro e w1 ⟨rfl, rfl⟩
          go_wp2
          go_ret
          exact ⟨rfl, by (repeat' (first | assumption | exact Below.refl _ _ | refine bDrewN ?_ _ | refine Below.drew ?_ | refine bAlloc ?_ (Nat.le_refl _) _ | refine bSet ?_ (by first | exact Nat.le_refl _ | omega | (simp <;> omega)) _))⟩

theorem implOp_at (n : Int) (o : DOp) {d : Bool} (w : World) (h : opB n o = d) :
    Calls Tryd.prog 20 #[.agg #[.int .i64 o.1, .int .i64 o.2.1, .int .i64 o.2.2], .int .i64 n] w fun e w' => e = .returned (.bool d) ∧ Below w.heap.size w w' := by
  subst h; exact implOp_any n _ _ _ w

end Go.Proofs.YtikibabknlpnkaaDoor
