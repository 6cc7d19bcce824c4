/-
  Cubes: validity; does a cube contain an index?
-/
import Derived.Test.YtjibjnkabfmgaaaTabB
import Derived.Test.YtjibjnkabfmgaaaTabMath
import Derived.Lib.QuietBelow
namespace Go.Proofs.Ytjibjnkabfmgaaa
open Go.RowKit
set_option linter.unusedVariables false
set_option linter.unusedSimpArgs false

/-- A valid cube of n inputs. -/
def cubeB (n c v : Int) : Bool := decide (0 ≤ n ∧ n ≤ 4 ∧ 0 ≤ c ∧ c ≤ 2 ^ n.toNat - 1 ∧ 0 ≤ v ∧ v ≤ 2 ^ n.toNat - 1) && decide (andNot v.toNat c.toNat = 0)
theorem cubeB_no {n c v : Int} (h : ¬ (0 ≤ n ∧ n ≤ 4 ∧ 0 ≤ c ∧ c ≤ 2 ^ n.toNat - 1 ∧ 0 ≤ v ∧ v ≤ 2 ^ n.toNat - 1)) : cubeB n c v = false := by
  unfold cubeB; rw [decide_eq_false h]; rfl
theorem cubeB_nat {N : Nat} {X Y : Nat} (hN : N ≤ 4) (hX : X < 2 ^ N) (hY : Y < 2 ^ N) : cubeB N X Y = decide (andNot Y X = 0) := by
  unfold cubeB
  have h : (0 : Int) ≤ (N : Int) ∧ (N : Int) ≤ 4 ∧ (0 : Int) ≤ (X : Int) ∧ (X : Int) ≤ 2 ^ (N : Int).toNat - 1 ∧ (0 : Int) ≤ (Y : Int) ∧ (Y : Int) ≤ 2 ^ (N : Int).toNat - 1 := by
    rw [Int.toNat_natCast, pow_cast]; omega
  rw [decide_eq_true h]; simp
theorem cubeB_out {n c v : Int} (h : cubeB n c v = true) : ∃ N X Y : Nat, n = N ∧ c = X ∧ v = Y ∧ N ≤ 4 ∧ X < 2 ^ N ∧ Y < 2 ^ N ∧ andNot Y X = 0 := by
  unfold cubeB at h
  rw [Bool.and_eq_true, decide_eq_true_eq, decide_eq_true_eq] at h
  obtain ⟨⟨h0, h1, h2, h3, h4, h5⟩, h6⟩ := h
  obtain ⟨N, rfl⟩ := Int.eq_ofNat_of_zero_le h0
  obtain ⟨X, rfl⟩ := Int.eq_ofNat_of_zero_le h2
  obtain ⟨Y, rfl⟩ := Int.eq_ofNat_of_zero_le h4
  rw [Int.toNat_natCast, pow_cast] at h3 h5
  exact ⟨N, X, Y, rfl, rfl, rfl, by omega, by omega, by omega, by simpa using h6⟩

set_option maxHeartbeats 3200000 in
theorem specCube_any (n c v : Int) (w : World) :
    Calls Try.prog 23 #[.int .i64 n, .agg #[.int .i64 c, .int .i64 v]] w fun e w' => e = .returned (.bool (cubeB n c v)) ∧ Below w.heap.size w w' := by
  by_cases h1 : 0 ≤ n ∧ n ≤ 4
  · have hv1 : decide (0 ≤ n ∧ n ≤ 4) = true := decide_eq_true h1
    obtain ⟨N, rfl⟩ := Int.eq_ofNat_of_zero_le h1.1
    have hN : N ≤ 4 := by omega
    have hp16 : 2 ^ N ≤ 16 := pow_le16 N hN
    have hp0 : 0 < 2 ^ N := Nat.pow_pos (by omega)
    obtain ⟨M, hM⟩ : ∃ M : Nat, M = 2 ^ N - 1 := ⟨_, rfl⟩
    have e1 : IntKind.i64.wrap ((2 : Int) ^ N) = ((M + 1 : Nat) : Int) := by rw [pow_cast, wrap64_small _ (by omega)]; omega
    have e2 : ((M + 1 : Nat) : Int) = (M : Int) + 1 := by omega
    rw [e2] at e1
    have e3 : IntKind.i64.wrap (M : Int) = (M : Int) := wrap64_small _ (by omega)
    by_cases h2 : 0 ≤ c ∧ c ≤ (M : Int)
    · have hv2 : decide (0 ≤ c ∧ c ≤ (M : Int)) = true := decide_eq_true h2
      by_cases h3 : 0 ≤ v ∧ v ≤ (M : Int)
      · have hv3 : decide (0 ≤ v ∧ v ≤ (M : Int)) = true := decide_eq_true h3
        obtain ⟨X, rfl⟩ := Int.eq_ofNat_of_zero_le h2.1
        obtain ⟨Y, rfl⟩ := Int.eq_ofNat_of_zero_le h3.1
        have hX : X < 2 ^ N := by omega
        have hY : Y < 2 ^ N := by omega
        have ev := i64_andNot Y X (by omega) (by omega)
        rw [cubeB_nat hN hX hY]
        obtain ⟨q, hq⟩ : ∃ q, andNot Y X = q := ⟨_, rfl⟩
        rw [hq] at ev ⊢
        clear hM hq e2
        by_cases hq0 : q = 0
        all_goals
          go_enter Try.func23, Try.ntmps23
          go_wp2
          go_quiet (first | (go_at_call 46; refine quietly (l01In_at _ _ _ _ (by first | exact hv1 | exact hv2 | exact hv3))))
          go_wp2
          go_ret
          exact ⟨ret_bool (by simp [hq0]), by (repeat' (first | assumption | exact Below.refl _ _ | refine bDrewN ?_ _ | refine Below.drew ?_ | refine bAlloc ?_ (Nat.le_refl _) _ | refine bSet ?_ (by first | exact Nat.le_refl _ | omega | (simp <;> omega)) _))⟩
      · have hv3 : decide (0 ≤ v ∧ v ≤ (M : Int)) = false := decide_eq_false h3
        rw [cubeB_no (by rw [Int.toNat_natCast, pow_cast]; omega)]
        clear hM e2
        go_enter Try.func23, Try.ntmps23
        go_wp2
        go_quiet (first | (go_at_call 46; refine quietly (l01In_at _ _ _ _ (by first | exact hv1 | exact hv2 | exact hv3))))
        go_wp2
        go_ret
        exact ⟨rfl, by (repeat' (first | assumption | exact Below.refl _ _ | refine bDrewN ?_ _ | refine Below.drew ?_ | refine bAlloc ?_ (Nat.le_refl _) _ | refine bSet ?_ (by first | exact Nat.le_refl _ | omega | (simp <;> omega)) _))⟩
    · have hv2 : decide (0 ≤ c ∧ c ≤ (M : Int)) = false := decide_eq_false h2
      rw [cubeB_no (by rw [Int.toNat_natCast, pow_cast]; omega)]
      clear hM e2
      go_enter Try.func23, Try.ntmps23
      go_wp2
      go_quiet (first | (go_at_call 46; refine quietly (l01In_at _ _ _ _ (by first | exact hv1 | exact hv2))))
      go_wp2
      go_ret
      exact ⟨rfl, by (repeat' (first | assumption | exact Below.refl _ _ | refine bDrewN ?_ _ | refine Below.drew ?_ | refine bAlloc ?_ (Nat.le_refl _) _ | refine bSet ?_ (by first | exact Nat.le_refl _ | omega | (simp <;> omega)) _))⟩
  · have hv1 : decide (0 ≤ n ∧ n ≤ 4) = false := decide_eq_false h1
    rw [cubeB_no (by omega)]
    go_enter Try.func23, Try.ntmps23
    go_wp2
    go_quiet (first | (go_at_call 46; refine quietly (l01In_at _ _ _ _ hv1)))
    go_wp2
    go_ret
    exact ⟨rfl, by (repeat' (first | assumption | exact Below.refl _ _ | refine bDrewN ?_ _ | refine Below.drew ?_ | refine bAlloc ?_ (Nat.le_refl _) _ | refine bSet ?_ (by first | exact Nat.le_refl _ | omega | (simp <;> omega)) _))⟩

/-- Whether a cube contains an index. -/
def hasB (n c v i : Int) : Bool := cubeB n c v && decide (0 ≤ i ∧ i ≤ 2 ^ n.toNat - 1) && decide (i.toNat &&& c.toNat = v.toNat)
theorem specCube_at (n c v : Int) {d : Bool} (w : World) (h : cubeB n c v = d) :
    Calls Try.prog 23 #[.int .i64 n, .agg #[.int .i64 c, .int .i64 v]] w fun e w' => e = .returned (.bool d) ∧ Below w.heap.size w w' := by
  subst h; exact specCube_any n c v w
theorem l01In_bel (x a b : Int) {v : Bool} (w : World) (hv : decide (a ≤ x ∧ x ≤ b) = v) :
    Calls Try.prog 46 #[.int .i64 x, .int .i64 a, .int .i64 b] w fun e w' => e = .returned (.bool v) ∧ Below w.heap.size w w' :=
  (l01In_at x a b w hv).mono fun _ _ ⟨h, e⟩ => ⟨h, e ▸ Below.refl _ _⟩

set_option maxHeartbeats 3200000 in
theorem specHas_any (n c v i : Int) (w : World) :
    Calls Try.prog 21 #[.int .i64 n, .agg #[.int .i64 c, .int .i64 v], .int .i64 i] w fun e w' => e = .returned (.bool (hasB n c v i)) ∧ Below w.heap.size w w' := by
  unfold hasB
  cases hc : cubeB n c v
  · go_enter Try.func21, Try.ntmps21
    go_wp2_with fail
    refine (specCube_at _ _ _ _ hc).mono ?_
    rintro e w1 ⟨rfl, hb⟩
    have g := box1 hb
    have c0 : w1.cell? ⟨w.heap.size, 0, none⟩ = some (.int .i64 c) := box_cell g.1 0 _ rfl
    have c1 : w1.cell? ⟨w.heap.size, 1, none⟩ = some (.int .i64 v) := box_cell g.1 1 _ rfl
    have HW := Lib.hid g.2
    clear hb g
    go_wp2
    go_ret
    exact ⟨rfl, HW.out⟩
  · have HC := Lib.hid hc
    obtain ⟨N, X, Y, rfl, rfl, rfl, hN, hX, hY, _⟩ := cubeB_out hc
    replace hc := HC.out
    have hp16 : 2 ^ N ≤ 16 := pow_le16 N hN
    obtain ⟨M, hM⟩ : ∃ M : Nat, M = 2 ^ N - 1 := ⟨_, rfl⟩
    have e1 : IntKind.i64.wrap ((2 : Int) ^ N) = ((M + 1 : Nat) : Int) := by rw [pow_cast, wrap64_small _ (by omega)]; omega
    have e2 : ((M + 1 : Nat) : Int) = (M : Int) + 1 := by omega
    rw [e2] at e1
    have e3 : wrap64 ((2 : Int) ^ N) = (M : Int) + 1 := by rw [pow_cast, w64_nat _ (by omega)]; omega
    have e4 : (2 : Int) ^ (N : Int).toNat - 1 = (M : Int) := by rw [Int.toNat_natCast, pow_cast]; omega
    rw [e4]
    have hM15 : M ≤ 15 := by omega
    clear e4
    by_cases h3 : 0 ≤ i ∧ i ≤ (M : Int)
    · have hv3 : decide (0 ≤ i ∧ i ≤ (M : Int)) = true := decide_eq_true h3
      obtain ⟨I, rfl⟩ := Int.eq_ofNat_of_zero_le h3.1
      have ev := i64_and I X (by omega) (by omega)
      rw [hv3, show (decide ((I : Int).toNat &&& (X : Int).toNat = (Y : Int).toNat)) = decide (I &&& X = Y) from rfl]
      obtain ⟨q, hq⟩ : ∃ q, I &&& X = q := ⟨_, rfl⟩
      rw [hq] at ev ⊢
      clear hM hq e2 h3
      by_cases hq0 : q = Y
      all_goals
        go_enter Try.func21, Try.ntmps21
        go_wp2_with fail
        refine (specCube_at _ _ _ _ hc).mono ?_
        rintro e w1 ⟨rfl, hb⟩
        have g := box1 hb
        have c0 : w1.cell? ⟨w.heap.size, 0, none⟩ = some (.int .i64 X) := box_cell g.1 0 _ rfl
        have c1 : w1.cell? ⟨w.heap.size, 1, none⟩ = some (.int .i64 Y) := box_cell g.1 1 _ rfl
        have HW := Lib.hid g.2
        clear hb g
        go_wp2_with fail
        refine (l01In_at _ _ _ _ hv3).mono ?_
        rintro e w2 ⟨rfl, rfl⟩
        go_wp2
        go_ret
        exact ⟨ret_bool (by simp [hq0] <;> omega), HW.out⟩
    · have hv3 : decide (0 ≤ i ∧ i ≤ (M : Int)) = false := decide_eq_false h3
      rw [hv3]
      clear hM e2 h3
      go_enter Try.func21, Try.ntmps21
      go_wp2_with fail
      refine (specCube_at _ _ _ _ hc).mono ?_
      rintro e w1 ⟨rfl, hb⟩
      have g := box1 hb
      have c0 : w1.cell? ⟨w.heap.size, 0, none⟩ = some (.int .i64 X) := box_cell g.1 0 _ rfl
      have c1 : w1.cell? ⟨w.heap.size, 1, none⟩ = some (.int .i64 Y) := box_cell g.1 1 _ rfl
      have HW := Lib.hid g.2
      clear hb g
      go_wp2_with fail
      refine (l01In_at _ _ _ _ hv3).mono ?_
      rintro e w2 ⟨rfl, rfl⟩
      go_wp2
      go_ret
      exact ⟨rfl, HW.out⟩
end Go.Proofs.Ytjibjnkabfmgaaa
