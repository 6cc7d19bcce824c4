/-
  Operators and expressions, as the reference judges them.
-/
import Derived.Test.YtikibabknlpnkaaDoorDtOp
import Derived.Test.YtikibabknlpnkaaDoorTabA
namespace Go.Proofs.YtikibabknlpnkaaDoor
open Go.RowKit
set_option linter.unusedVariables false
set_option linter.unusedSimpArgs false

/-- The number of operands. -/
def arityI (k : Int) : Int := if 0 ≤ k ∧ k ≤ 12 then (if k ≤ 3 then 0 else if k = 4 then 1 else if k = 12 then 3 else 2) else -1
theorem arityI_no {k : Int} (h : ¬ (0 ≤ k ∧ k ≤ 12)) : arityI k = -1 := if_neg h
theorem arityI_le (k : Int) : -1 ≤ arityI k ∧ arityI k ≤ 3 := by unfold arityI; repeat' split <;> omega
theorem ret_i {a b : Int} (h : a = b) : Ending.returned (.int .i64 a) = .returned (.int .i64 b) := by rw [h]
set_option maxHeartbeats 1600000 in
theorem specArity_any (k : Int) (w : World) : Calls Tryd.prog 29 #[.int .i64 k] w fun e w' => e = .returned (.int .i64 (arityI k)) ∧ w = w' := by
  by_cases h : 0 ≤ k ∧ k ≤ 12
  · have hv : decide (0 ≤ k ∧ k ≤ 12) = true := decide_eq_true h
    rcases (by omega : k = 0 ∨ k = 1 ∨ k = 2 ∨ k = 3 ∨ k = 4 ∨ k = 5 ∨ k = 6 ∨ k = 7 ∨ k = 8 ∨ k = 9 ∨ k = 10 ∨ k = 11 ∨ k = 12) with rfl | rfl | rfl | rfl | rfl | rfl | rfl | rfl | rfl | rfl | rfl | rfl | rfl
    all_goals
      go_enter Tryd.func29, Tryd.ntmps29
      go_wp2_with fail
      refine (l01In_at _ 0 12 _ hv).mono ?_
      rintro e w1 ⟨rfl, rfl⟩
      go_wp2
      go_ret
      exact ⟨rfl, rfl⟩
  · have hv : decide (0 ≤ k ∧ k ≤ 12) = false := decide_eq_false h
    rw [arityI_no h]
    go_enter Tryd.func29, Tryd.ntmps29
    go_wp2_with fail
    refine (l01In_at _ 0 12 _ hv).mono ?_
    rintro e w1 ⟨rfl, rfl⟩
    go_wp2
    go_ret
    exact ⟨rfl, rfl⟩
theorem specArity_at (k : Int) {a : Int} (w : World) (h : arityI k = a) : Calls Tryd.prog 29 #[.int .i64 k] w fun e w' => e = .returned (.int .i64 a) ∧ w = w' := by
  subst h; exact specArity_any k w

/-- A valid operator among n signals. -/
def opB (n : Int) (o : DOp) : Bool :=
  if o.1 = 0 then decide (0 ≤ o.2.1 ∧ o.2.1 ≤ 15) && decide (o.2.2 = 0)
  else if o.1 = 2 then decide (0 ≤ o.2.1 ∧ o.2.1 < n) && decide (o.2.2 = 0)
  else if o.1 = 3 then decide (0 ≤ o.2.1 ∧ o.2.1 < n) && decide (0 ≤ o.2.2 ∧ o.2.2 ≤ 3)
  else decide (0 ≤ arityI o.1) && decide (o.2.1 = 0) && decide (o.2.2 = 0)
set_option maxHeartbeats 3200000 in
theorem specOp_any (n k a b : Int) (w : World) :
    Calls Tryd.prog 18 #[.agg #[.int .i64 k, .int .i64 a, .int .i64 b], .int .i64 n] w fun e w' => e = .returned (.bool (opB n (k, a, b))) ∧ Below w.heap.size w w' := by
  unfold opB
  dsimp only
  by_cases k0 : k = 0
  · subst k0
    rw [if_pos rfl]
    by_cases ha : 0 ≤ a ∧ a ≤ 15
    · have hv : decide (0 ≤ a ∧ a ≤ 15) = true := decide_eq_true ha
      rw [hv]
      clear ha
      by_cases hb : b = 0
      all_goals
        go_enter Tryd.func18, Tryd.ntmps18
        go_wp2_with fail
        refine (l01In_at a 0 15 _ hv).mono ?_
        rintro e w1 ⟨rfl, rfl⟩
        go_wp2
        go_ret
        exact ⟨ret_bool (by simp [hb]), by (repeat' (first | assumption | exact Below.refl _ _ | refine bDrewN ?_ _ | refine Below.drew ?_ | refine bAlloc ?_ (Nat.le_refl _) _ | refine bSet ?_ (by first | exact Nat.le_refl _ | omega | (simp <;> omega)) _))⟩

    · have hv : decide (0 ≤ a ∧ a ≤ 15) = false := decide_eq_false ha
      rw [hv]
      clear ha
      go_enter Tryd.func18, Tryd.ntmps18
      go_wp2_with fail
      refine (l01In_at a 0 15 _ hv).mono ?_
      rintro e w1 ⟨rfl, rfl⟩
      go_wp2
      go_ret
      exact ⟨rfl, by (repeat' (first | assumption | exact Below.refl _ _ | refine bDrewN ?_ _ | refine Below.drew ?_ | refine bAlloc ?_ (Nat.le_refl _) _ | refine bSet ?_ (by first | exact Nat.le_refl _ | omega | (simp <;> omega)) _))⟩

  · rw [if_neg k0]
    by_cases k2 : k = 2
    · subst k2
      rw [if_pos rfl]
      by_cases h1 : 0 ≤ a
      · by_cases h2 : a < n
        · rw [decide_eq_true (⟨h1, h2⟩ : 0 ≤ a ∧ a < n)]
          by_cases hb : b = 0
          all_goals
            go_enter Tryd.func18, Tryd.ntmps18
            go_wp2
            go_ret
            exact ⟨ret_bool (by simp [hb]), by (repeat' (first | assumption | exact Below.refl _ _ | refine bDrewN ?_ _ | refine Below.drew ?_ | refine bAlloc ?_ (Nat.le_refl _) _ | refine bSet ?_ (by first | exact Nat.le_refl _ | omega | (simp <;> omega)) _))⟩

        · rw [decide_eq_false (by omega : ¬ (0 ≤ a ∧ a < n))]
          go_enter Tryd.func18, Tryd.ntmps18
          go_wp2
          go_ret
          exact ⟨rfl, by (repeat' (first | assumption | exact Below.refl _ _ | refine bDrewN ?_ _ | refine Below.drew ?_ | refine bAlloc ?_ (Nat.le_refl _) _ | refine bSet ?_ (by first | exact Nat.le_refl _ | omega | (simp <;> omega)) _))⟩

      · rw [decide_eq_false (by omega : ¬ (0 ≤ a ∧ a < n))]
        go_enter Tryd.func18, Tryd.ntmps18
        go_wp2
        go_ret
        exact ⟨rfl, by (repeat' (first | assumption | exact Below.refl _ _ | refine bDrewN ?_ _ | refine Below.drew ?_ | refine bAlloc ?_ (Nat.le_refl _) _ | refine bSet ?_ (by first | exact Nat.le_refl _ | omega | (simp <;> omega)) _))⟩

    · rw [if_neg k2]
      by_cases k3 : k = 3
      · subst k3
        rw [if_pos rfl]
        by_cases h1 : 0 ≤ a
        · by_cases h2 : a < n
          · rw [decide_eq_true (⟨h1, h2⟩ : 0 ≤ a ∧ a < n)]
            obtain ⟨d, hd⟩ : ∃ d, decide (0 ≤ b ∧ b ≤ 3) = d := ⟨_, rfl⟩
            rw [hd]
            go_enter Tryd.func18, Tryd.ntmps18
            go_wp2_with fail
            refine (l01In_at b 0 3 _ hd).mono ?_
            rintro e w1 ⟨rfl, rfl⟩
            go_wp2
            go_ret
            exact ⟨ret_bool (by simp), by (repeat' (first | assumption | exact Below.refl _ _ | refine bDrewN ?_ _ | refine Below.drew ?_ | refine bAlloc ?_ (Nat.le_refl _) _ | refine bSet ?_ (by first | exact Nat.le_refl _ | omega | (simp <;> omega)) _))⟩

          · rw [decide_eq_false (by omega : ¬ (0 ≤ a ∧ a < n))]
            go_enter Tryd.func18, Tryd.ntmps18
            go_wp2
            go_ret
            exact ⟨rfl, by (repeat' (first | assumption | exact Below.refl _ _ | refine bDrewN ?_ _ | refine Below.drew ?_ | refine bAlloc ?_ (Nat.le_refl _) _ | refine bSet ?_ (by first | exact Nat.le_refl _ | omega | (simp <;> omega)) _))⟩

        · rw [decide_eq_false (by omega : ¬ (0 ≤ a ∧ a < n))]
          go_enter Tryd.func18, Tryd.ntmps18
          go_wp2
          go_ret
          exact ⟨rfl, by (repeat' (first | assumption | exact Below.refl _ _ | refine bDrewN ?_ _ | refine Below.drew ?_ | refine bAlloc ?_ (Nat.le_refl _) _ | refine bSet ?_ (by first | exact Nat.le_refl _ | omega | (simp <;> omega)) _))⟩

      · rw [if_neg k3]
        obtain ⟨r, hr⟩ : ∃ r, arityI k = r := ⟨_, rfl⟩
        rw [hr]
        by_cases h1 : 0 ≤ r
        · rw [decide_eq_true h1]
          by_cases ha : a = 0
          all_goals
            by_cases hb : b = 0
            all_goals
              go_enter Tryd.func18, Tryd.ntmps18
              go_wp2_with fail
              refine (specArity_at k _ hr).mono ?_
              rintro e w1 ⟨rfl, rfl⟩
              go_wp2
              go_ret
              exact ⟨ret_bool (by simp [ha, hb]), by (repeat' (first | assumption | exact Below.refl _ _ | refine bDrewN ?_ _ | refine Below.drew ?_ | refine bAlloc ?_ (Nat.le_refl _) _ | refine bSet ?_ (by first | exact Nat.le_refl _ | omega | (simp <;> omega)) _))⟩

        · rw [decide_eq_false h1]
          go_enter Tryd.func18, Tryd.ntmps18
          go_wp2_with fail
          refine (specArity_at k _ hr).mono ?_
          rintro e w1 ⟨rfl, rfl⟩
          go_wp2
          go_ret
          exact ⟨rfl, by (repeat' (first | assumption | exact Below.refl _ _ | refine bDrewN ?_ _ | refine Below.drew ?_ | refine bAlloc ?_ (Nat.le_refl _) _ | refine bSet ?_ (by first | exact Nat.le_refl _ | omega | (simp <;> omega)) _))⟩

theorem specOp_at (n : Int) (o : DOp) {d : Bool} (w : World) (h : opB n o = d) :
    Calls Tryd.prog 18 #[.agg #[.int .i64 o.1, .int .i64 o.2.1, .int .i64 o.2.2], .int .i64 n] w fun e w' => e = .returned (.bool d) ∧ Below w.heap.size w w' := by
  subst h; exact specOp_any n _ _ _ w

/-- Do these operators complete what m operands are wanted? -/
def runOps (n : Int) : Int → List DOp → Bool
  | m, [] => decide (m = 0)
  | m, o :: os => if m = 0 then false else opB n o && runOps n (m - 1 + arityI o.1) os
def opsB (n : Int) (L : List DOp) : Bool := decide (L.length ≤ 15) && runOps n 1 L
theorem runOps_step (n m : Int) (L : List DOp) (i : Nat) (h : i < L.length) : runOps n m (L.drop i) = if m = 0 then false else opB n L[i] && runOps n (m - 1 + arityI L[i].1) (L.drop (i + 1)) := by
  rw [List.drop_eq_getElem_cons h]; rfl
theorem opB_ar {n : Int} {o : DOp} (h : opB n o = true) : 0 ≤ arityI o.1 := by
  unfold opB at h
  by_cases k0 : o.1 = 0
  · rw [k0]; decide
  · rw [if_neg k0] at h
    by_cases k2 : o.1 = 2
    · rw [k2]; decide
    · rw [if_neg k2] at h
      by_cases k3 : o.1 = 3
      · rw [k3]; decide
      · rw [if_neg k3, Bool.and_eq_true, Bool.and_eq_true, decide_eq_true_eq] at h; exact h.1.1

end Go.Proofs.YtikibabknlpnkaaDoor
