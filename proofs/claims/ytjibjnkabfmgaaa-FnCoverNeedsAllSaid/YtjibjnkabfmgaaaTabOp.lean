/-
  Truth tables: conjunction and exclusive or.
-/
import Derived.Test.YtjibjnkabfmgaaaTabB
namespace Go.Proofs.Ytjibjnkabfmgaaa
open Go.RowKit
set_option linter.unusedSimpArgs false

theorem eqTable_same (x y : Int) (w : World) : Calls Try.prog 28 #[.agg #[.int .i64 x, .int .i64 y], .agg #[.int .i64 x, .int .i64 y]] w fun e w' => e = .returned (.bool true) ∧ Below w.heap.size w w' := by
  have h := eqTable_any x y x y w
  rw [decide_eq_true (⟨rfl, rfl⟩ : x = x ∧ y = y)] at h
  exact h
theorem notT_shape (n b : Int) : ∃ x y : Int, notT n b = .agg #[.int .i64 x, .int .i64 y] := by
  unfold notT T; split
  · exact ⟨_, _, rfl⟩
  · exact ⟨_, _, rfl⟩
theorem opT_shape (op : BinOp) (n b m c : Int) : ∃ x y : Int, opT op n b m c = .agg #[.int .i64 x, .int .i64 y] := by
  unfold opT T; split
  · exact ⟨_, _, rfl⟩
  · exact ⟨_, _, rfl⟩

set_option maxHeartbeats 3200000 in
theorem specAnd_any (n b m c : Int) (w : World) :
    Calls Try.prog 55 #[T n b, T m c] w fun e w' => e = .returned (opT .and n b m c) ∧ Below w.heap.size w w' := by
  unfold T
  cases hok : okB n b
  · skip
    go_enter Try.func55, Try.ntmps55
    go_wp2_with fail
    refine (specOk_any n b _).mono ?_
    rw [hok]
    rintro e w1 ⟨rfl, hb⟩

    have g := box3 hb
    have c0 : w1.cell? ⟨w.heap.size, 0, none⟩ = some (.int .i64 n) := box_cell g.1 0 _ rfl
    have c1 : w1.cell? ⟨w.heap.size, 1, none⟩ = some (.int .i64 b) := box_cell g.1 1 _ rfl
    have d0 : w1.cell? ⟨w.heap.size + 1, 0, none⟩ = some (.int .i64 m) := box_cell g.2.1 0 _ rfl
    have d1 : w1.cell? ⟨w.heap.size + 1, 1, none⟩ = some (.int .i64 c) := box_cell g.2.1 1 _ rfl
    have x0 : w1.cell? ⟨w.heap.size + 1 + 1, 0, none⟩ = some (.int .i64 0) := box_cell g.2.2.1 0 _ rfl
    have x1 : w1.cell? ⟨w.heap.size + 1 + 1, 1, none⟩ = some (.int .i64 0) := box_cell g.2.2.1 1 _ rfl
    have z0 : w1.frozen? ⟨w.heap.size + 1 + 1, 0, none⟩ = false := frozen_of_row w1 _ 0 _ _ g.2.2.1
    have z1 : w1.frozen? ⟨w.heap.size + 1 + 1, 1, none⟩ = false := frozen_of_row w1 _ 1 _ _ g.2.2.1
    have HB := Lib.hid hb
    clear hb g
    go_wp2
    ((try simp only [Exit.inBlock, Exit.then]); refine bodyPost_ret (v := (.agg #[.int .i64 0, .int .i64 0])) (by rw [results_cell1 rfl]; go_simp) rfl ?_)
    have hB := (box3 HB.out).2.2.2
    exact ⟨(by rw [opT_zero _ _ _ _ _ (by simp [*])]), by (repeat' (first | assumption | exact Below.refl _ _ | refine bDrewN ?_ _ | refine Below.drew ?_ | refine bAlloc ?_ (Nat.le_refl _) _ | refine bSet ?_ (by first | exact Nat.le_refl _ | omega | (simp <;> omega)) _))⟩
  cases hok2 : okB m c
  · skip
    go_enter Try.func55, Try.ntmps55
    go_wp2_with fail
    refine (specOk_any n b _).mono ?_
    rw [hok]
    rintro e w1 ⟨rfl, hb⟩

    have g := box3 hb
    have c0 : w1.cell? ⟨w.heap.size, 0, none⟩ = some (.int .i64 n) := box_cell g.1 0 _ rfl
    have c1 : w1.cell? ⟨w.heap.size, 1, none⟩ = some (.int .i64 b) := box_cell g.1 1 _ rfl
    have d0 : w1.cell? ⟨w.heap.size + 1, 0, none⟩ = some (.int .i64 m) := box_cell g.2.1 0 _ rfl
    have d1 : w1.cell? ⟨w.heap.size + 1, 1, none⟩ = some (.int .i64 c) := box_cell g.2.1 1 _ rfl
    have x0 : w1.cell? ⟨w.heap.size + 1 + 1, 0, none⟩ = some (.int .i64 0) := box_cell g.2.2.1 0 _ rfl
    have x1 : w1.cell? ⟨w.heap.size + 1 + 1, 1, none⟩ = some (.int .i64 0) := box_cell g.2.2.1 1 _ rfl
    have z0 : w1.frozen? ⟨w.heap.size + 1 + 1, 0, none⟩ = false := frozen_of_row w1 _ 0 _ _ g.2.2.1
    have z1 : w1.frozen? ⟨w.heap.size + 1 + 1, 1, none⟩ = false := frozen_of_row w1 _ 1 _ _ g.2.2.1
    have HB := Lib.hid hb
    clear hb g
    go_wp2_with fail
    refine (specOk_any m c _).mono ?_
    rw [hok2]
    rintro e w2 ⟨rfl, hb2⟩
    clear c0 c1 d0 d1 x0 x1 z0 z1
    have hb := bThen HB.out hb2
    clear hb2 HB
    revert hb
    generalize w2 = w1
    intro hb

    have g := box3 hb
    have c0 : w1.cell? ⟨w.heap.size, 0, none⟩ = some (.int .i64 n) := box_cell g.1 0 _ rfl
    have c1 : w1.cell? ⟨w.heap.size, 1, none⟩ = some (.int .i64 b) := box_cell g.1 1 _ rfl
    have d0 : w1.cell? ⟨w.heap.size + 1, 0, none⟩ = some (.int .i64 m) := box_cell g.2.1 0 _ rfl
    have d1 : w1.cell? ⟨w.heap.size + 1, 1, none⟩ = some (.int .i64 c) := box_cell g.2.1 1 _ rfl
    have x0 : w1.cell? ⟨w.heap.size + 1 + 1, 0, none⟩ = some (.int .i64 0) := box_cell g.2.2.1 0 _ rfl
    have x1 : w1.cell? ⟨w.heap.size + 1 + 1, 1, none⟩ = some (.int .i64 0) := box_cell g.2.2.1 1 _ rfl
    have z0 : w1.frozen? ⟨w.heap.size + 1 + 1, 0, none⟩ = false := frozen_of_row w1 _ 0 _ _ g.2.2.1
    have z1 : w1.frozen? ⟨w.heap.size + 1 + 1, 1, none⟩ = false := frozen_of_row w1 _ 1 _ _ g.2.2.1
    have HB := Lib.hid hb
    clear hb g
    go_wp2
    ((try simp only [Exit.inBlock, Exit.then]); refine bodyPost_ret (v := (.agg #[.int .i64 0, .int .i64 0])) (by rw [results_cell1 rfl]; go_simp) rfl ?_)
    have hB := (box3 HB.out).2.2.2
    exact ⟨(by rw [opT_zero _ _ _ _ _ (by simp [*])]), by (repeat' (first | assumption | exact Below.refl _ _ | refine bDrewN ?_ _ | refine Below.drew ?_ | refine bAlloc ?_ (Nat.le_refl _) _ | refine bSet ?_ (by first | exact Nat.le_refl _ | omega | (simp <;> omega)) _))⟩
  by_cases h : n = m
  · subst h
    go_enter Try.func55, Try.ntmps55
    go_wp2_with fail
    refine (specOk_any n b _).mono ?_
    rw [hok]
    rintro e w1 ⟨rfl, hb⟩

    have g := box3 hb
    have c0 : w1.cell? ⟨w.heap.size, 0, none⟩ = some (.int .i64 n) := box_cell g.1 0 _ rfl
    have c1 : w1.cell? ⟨w.heap.size, 1, none⟩ = some (.int .i64 b) := box_cell g.1 1 _ rfl
    have d0 : w1.cell? ⟨w.heap.size + 1, 0, none⟩ = some (.int .i64 n) := box_cell g.2.1 0 _ rfl
    have d1 : w1.cell? ⟨w.heap.size + 1, 1, none⟩ = some (.int .i64 c) := box_cell g.2.1 1 _ rfl
    have x0 : w1.cell? ⟨w.heap.size + 1 + 1, 0, none⟩ = some (.int .i64 0) := box_cell g.2.2.1 0 _ rfl
    have x1 : w1.cell? ⟨w.heap.size + 1 + 1, 1, none⟩ = some (.int .i64 0) := box_cell g.2.2.1 1 _ rfl
    have z0 : w1.frozen? ⟨w.heap.size + 1 + 1, 0, none⟩ = false := frozen_of_row w1 _ 0 _ _ g.2.2.1
    have z1 : w1.frozen? ⟨w.heap.size + 1 + 1, 1, none⟩ = false := frozen_of_row w1 _ 1 _ _ g.2.2.1
    have HB := Lib.hid hb
    clear hb g
    go_wp2_with fail
    refine (specOk_any n c _).mono ?_
    rw [hok2]
    rintro e w2 ⟨rfl, hb2⟩
    clear c0 c1 d0 d1 x0 x1 z0 z1
    have hb := bThen HB.out hb2
    clear hb2 HB
    revert hb
    generalize w2 = w1
    intro hb

    have g := box3 hb
    have c0 : w1.cell? ⟨w.heap.size, 0, none⟩ = some (.int .i64 n) := box_cell g.1 0 _ rfl
    have c1 : w1.cell? ⟨w.heap.size, 1, none⟩ = some (.int .i64 b) := box_cell g.1 1 _ rfl
    have d0 : w1.cell? ⟨w.heap.size + 1, 0, none⟩ = some (.int .i64 n) := box_cell g.2.1 0 _ rfl
    have d1 : w1.cell? ⟨w.heap.size + 1, 1, none⟩ = some (.int .i64 c) := box_cell g.2.1 1 _ rfl
    have x0 : w1.cell? ⟨w.heap.size + 1 + 1, 0, none⟩ = some (.int .i64 0) := box_cell g.2.2.1 0 _ rfl
    have x1 : w1.cell? ⟨w.heap.size + 1 + 1, 1, none⟩ = some (.int .i64 0) := box_cell g.2.2.1 1 _ rfl
    have z0 : w1.frozen? ⟨w.heap.size + 1 + 1, 0, none⟩ = false := frozen_of_row w1 _ 0 _ _ g.2.2.1
    have z1 : w1.frozen? ⟨w.heap.size + 1 + 1, 1, none⟩ = false := frozen_of_row w1 _ 1 _ _ g.2.2.1
    have HB := Lib.hid hb
    clear hb g
    go_wp2
    ((try simp only [Exit.inBlock, Exit.then]); refine bodyPost_ret (v := (.agg #[.int .i64 n, .int .i64 (bits .and .i64 b c)])) (by rw [results_cell1 rfl]; go_simp) rfl ?_)
    have hB := (box3 HB.out).2.2.2
    exact ⟨(by rw [opT_one _ _ _ _ _ (by simp [*])]), by (repeat' (first | assumption | exact Below.refl _ _ | refine bDrewN ?_ _ | refine Below.drew ?_ | refine bAlloc ?_ (Nat.le_refl _) _ | refine bSet ?_ (by first | exact Nat.le_refl _ | omega | (simp <;> omega)) _))⟩
  · skip
    go_enter Try.func55, Try.ntmps55
    go_wp2_with fail
    refine (specOk_any n b _).mono ?_
    rw [hok]
    rintro e w1 ⟨rfl, hb⟩

    have g := box3 hb
    have c0 : w1.cell? ⟨w.heap.size, 0, none⟩ = some (.int .i64 n) := box_cell g.1 0 _ rfl
    have c1 : w1.cell? ⟨w.heap.size, 1, none⟩ = some (.int .i64 b) := box_cell g.1 1 _ rfl
    have d0 : w1.cell? ⟨w.heap.size + 1, 0, none⟩ = some (.int .i64 m) := box_cell g.2.1 0 _ rfl
    have d1 : w1.cell? ⟨w.heap.size + 1, 1, none⟩ = some (.int .i64 c) := box_cell g.2.1 1 _ rfl
    have x0 : w1.cell? ⟨w.heap.size + 1 + 1, 0, none⟩ = some (.int .i64 0) := box_cell g.2.2.1 0 _ rfl
    have x1 : w1.cell? ⟨w.heap.size + 1 + 1, 1, none⟩ = some (.int .i64 0) := box_cell g.2.2.1 1 _ rfl
    have z0 : w1.frozen? ⟨w.heap.size + 1 + 1, 0, none⟩ = false := frozen_of_row w1 _ 0 _ _ g.2.2.1
    have z1 : w1.frozen? ⟨w.heap.size + 1 + 1, 1, none⟩ = false := frozen_of_row w1 _ 1 _ _ g.2.2.1
    have HB := Lib.hid hb
    clear hb g
    go_wp2_with fail
    refine (specOk_any m c _).mono ?_
    rw [hok2]
    rintro e w2 ⟨rfl, hb2⟩
    clear c0 c1 d0 d1 x0 x1 z0 z1
    have hb := bThen HB.out hb2
    clear hb2 HB
    revert hb
    generalize w2 = w1
    intro hb

    have g := box3 hb
    have c0 : w1.cell? ⟨w.heap.size, 0, none⟩ = some (.int .i64 n) := box_cell g.1 0 _ rfl
    have c1 : w1.cell? ⟨w.heap.size, 1, none⟩ = some (.int .i64 b) := box_cell g.1 1 _ rfl
    have d0 : w1.cell? ⟨w.heap.size + 1, 0, none⟩ = some (.int .i64 m) := box_cell g.2.1 0 _ rfl
    have d1 : w1.cell? ⟨w.heap.size + 1, 1, none⟩ = some (.int .i64 c) := box_cell g.2.1 1 _ rfl
    have x0 : w1.cell? ⟨w.heap.size + 1 + 1, 0, none⟩ = some (.int .i64 0) := box_cell g.2.2.1 0 _ rfl
    have x1 : w1.cell? ⟨w.heap.size + 1 + 1, 1, none⟩ = some (.int .i64 0) := box_cell g.2.2.1 1 _ rfl
    have z0 : w1.frozen? ⟨w.heap.size + 1 + 1, 0, none⟩ = false := frozen_of_row w1 _ 0 _ _ g.2.2.1
    have z1 : w1.frozen? ⟨w.heap.size + 1 + 1, 1, none⟩ = false := frozen_of_row w1 _ 1 _ _ g.2.2.1
    have HB := Lib.hid hb
    clear hb g
    go_wp2
    ((try simp only [Exit.inBlock, Exit.then]); refine bodyPost_ret (v := (.agg #[.int .i64 0, .int .i64 0])) (by rw [results_cell1 rfl]; go_simp) rfl ?_)
    have hB := (box3 HB.out).2.2.2
    exact ⟨(by rw [opT_zero _ _ _ _ _ (by simp [*])]), by (repeat' (first | assumption | exact Below.refl _ _ | refine bDrewN ?_ _ | refine Below.drew ?_ | refine bAlloc ?_ (Nat.le_refl _) _ | refine bSet ?_ (by first | exact Nat.le_refl _ | omega | (simp <;> omega)) _))⟩

set_option maxHeartbeats 3200000 in
theorem specXor_any (n b m c : Int) (w : World) :
    Calls Try.prog 56 #[T n b, T m c] w fun e w' => e = .returned (opT .xor n b m c) ∧ Below w.heap.size w w' := by
  unfold T
  cases hok : okB n b
  · skip
    go_enter Try.func56, Try.ntmps56
    go_wp2_with fail
    refine (specOk_any n b _).mono ?_
    rw [hok]
    rintro e w1 ⟨rfl, hb⟩

    have g := box3 hb
    have c0 : w1.cell? ⟨w.heap.size, 0, none⟩ = some (.int .i64 n) := box_cell g.1 0 _ rfl
    have c1 : w1.cell? ⟨w.heap.size, 1, none⟩ = some (.int .i64 b) := box_cell g.1 1 _ rfl
    have d0 : w1.cell? ⟨w.heap.size + 1, 0, none⟩ = some (.int .i64 m) := box_cell g.2.1 0 _ rfl
    have d1 : w1.cell? ⟨w.heap.size + 1, 1, none⟩ = some (.int .i64 c) := box_cell g.2.1 1 _ rfl
    have x0 : w1.cell? ⟨w.heap.size + 1 + 1, 0, none⟩ = some (.int .i64 0) := box_cell g.2.2.1 0 _ rfl
    have x1 : w1.cell? ⟨w.heap.size + 1 + 1, 1, none⟩ = some (.int .i64 0) := box_cell g.2.2.1 1 _ rfl
    have z0 : w1.frozen? ⟨w.heap.size + 1 + 1, 0, none⟩ = false := frozen_of_row w1 _ 0 _ _ g.2.2.1
    have z1 : w1.frozen? ⟨w.heap.size + 1 + 1, 1, none⟩ = false := frozen_of_row w1 _ 1 _ _ g.2.2.1
    have HB := Lib.hid hb
    clear hb g
    go_wp2
    ((try simp only [Exit.inBlock, Exit.then]); refine bodyPost_ret (v := (.agg #[.int .i64 0, .int .i64 0])) (by rw [results_cell1 rfl]; go_simp) rfl ?_)
    have hB := (box3 HB.out).2.2.2
    exact ⟨(by rw [opT_zero _ _ _ _ _ (by simp [*])]), by (repeat' (first | assumption | exact Below.refl _ _ | refine bDrewN ?_ _ | refine Below.drew ?_ | refine bAlloc ?_ (Nat.le_refl _) _ | refine bSet ?_ (by first | exact Nat.le_refl _ | omega | (simp <;> omega)) _))⟩
  cases hok2 : okB m c
  · skip
    go_enter Try.func56, Try.ntmps56
    go_wp2_with fail
    refine (specOk_any n b _).mono ?_
    rw [hok]
    rintro e w1 ⟨rfl, hb⟩

    have g := box3 hb
    have c0 : w1.cell? ⟨w.heap.size, 0, none⟩ = some (.int .i64 n) := box_cell g.1 0 _ rfl
    have c1 : w1.cell? ⟨w.heap.size, 1, none⟩ = some (.int .i64 b) := box_cell g.1 1 _ rfl
    have d0 : w1.cell? ⟨w.heap.size + 1, 0, none⟩ = some (.int .i64 m) := box_cell g.2.1 0 _ rfl
    have d1 : w1.cell? ⟨w.heap.size + 1, 1, none⟩ = some (.int .i64 c) := box_cell g.2.1 1 _ rfl
    have x0 : w1.cell? ⟨w.heap.size + 1 + 1, 0, none⟩ = some (.int .i64 0) := box_cell g.2.2.1 0 _ rfl
    have x1 : w1.cell? ⟨w.heap.size + 1 + 1, 1, none⟩ = some (.int .i64 0) := box_cell g.2.2.1 1 _ rfl
    have z0 : w1.frozen? ⟨w.heap.size + 1 + 1, 0, none⟩ = false := frozen_of_row w1 _ 0 _ _ g.2.2.1
    have z1 : w1.frozen? ⟨w.heap.size + 1 + 1, 1, none⟩ = false := frozen_of_row w1 _ 1 _ _ g.2.2.1
    have HB := Lib.hid hb
    clear hb g
    go_wp2_with fail
    refine (specOk_any m c _).mono ?_
    rw [hok2]
    rintro e w2 ⟨rfl, hb2⟩
    clear c0 c1 d0 d1 x0 x1 z0 z1
    have hb := bThen HB.out hb2
    clear hb2 HB
    revert hb
    generalize w2 = w1
    intro hb

    have g := box3 hb
    have c0 : w1.cell? ⟨w.heap.size, 0, none⟩ = some (.int .i64 n) := box_cell g.1 0 _ rfl
    have c1 : w1.cell? ⟨w.heap.size, 1, none⟩ = some (.int .i64 b) := box_cell g.1 1 _ rfl
    have d0 : w1.cell? ⟨w.heap.size + 1, 0, none⟩ = some (.int .i64 m) := box_cell g.2.1 0 _ rfl
    have d1 : w1.cell? ⟨w.heap.size + 1, 1, none⟩ = some (.int .i64 c) := box_cell g.2.1 1 _ rfl
    have x0 : w1.cell? ⟨w.heap.size + 1 + 1, 0, none⟩ = some (.int .i64 0) := box_cell g.2.2.1 0 _ rfl
    have x1 : w1.cell? ⟨w.heap.size + 1 + 1, 1, none⟩ = some (.int .i64 0) := box_cell g.2.2.1 1 _ rfl
    have z0 : w1.frozen? ⟨w.heap.size + 1 + 1, 0, none⟩ = false := frozen_of_row w1 _ 0 _ _ g.2.2.1
    have z1 : w1.frozen? ⟨w.heap.size + 1 + 1, 1, none⟩ = false := frozen_of_row w1 _ 1 _ _ g.2.2.1
    have HB := Lib.hid hb
    clear hb g
    go_wp2
    ((try simp only [Exit.inBlock, Exit.then]); refine bodyPost_ret (v := (.agg #[.int .i64 0, .int .i64 0])) (by rw [results_cell1 rfl]; go_simp) rfl ?_)
    have hB := (box3 HB.out).2.2.2
    exact ⟨(by rw [opT_zero _ _ _ _ _ (by simp [*])]), by (repeat' (first | assumption | exact Below.refl _ _ | refine bDrewN ?_ _ | refine Below.drew ?_ | refine bAlloc ?_ (Nat.le_refl _) _ | refine bSet ?_ (by first | exact Nat.le_refl _ | omega | (simp <;> omega)) _))⟩
  by_cases h : n = m
  · subst h
    go_enter Try.func56, Try.ntmps56
    go_wp2_with fail
    refine (specOk_any n b _).mono ?_
    rw [hok]
    rintro e w1 ⟨rfl, hb⟩

    have g := box3 hb
    have c0 : w1.cell? ⟨w.heap.size, 0, none⟩ = some (.int .i64 n) := box_cell g.1 0 _ rfl
    have c1 : w1.cell? ⟨w.heap.size, 1, none⟩ = some (.int .i64 b) := box_cell g.1 1 _ rfl
    have d0 : w1.cell? ⟨w.heap.size + 1, 0, none⟩ = some (.int .i64 n) := box_cell g.2.1 0 _ rfl
    have d1 : w1.cell? ⟨w.heap.size + 1, 1, none⟩ = some (.int .i64 c) := box_cell g.2.1 1 _ rfl
    have x0 : w1.cell? ⟨w.heap.size + 1 + 1, 0, none⟩ = some (.int .i64 0) := box_cell g.2.2.1 0 _ rfl
    have x1 : w1.cell? ⟨w.heap.size + 1 + 1, 1, none⟩ = some (.int .i64 0) := box_cell g.2.2.1 1 _ rfl
    have z0 : w1.frozen? ⟨w.heap.size + 1 + 1, 0, none⟩ = false := frozen_of_row w1 _ 0 _ _ g.2.2.1
    have z1 : w1.frozen? ⟨w.heap.size + 1 + 1, 1, none⟩ = false := frozen_of_row w1 _ 1 _ _ g.2.2.1
    have HB := Lib.hid hb
    clear hb g
    go_wp2_with fail
    refine (specOk_any n c _).mono ?_
    rw [hok2]
    rintro e w2 ⟨rfl, hb2⟩
    clear c0 c1 d0 d1 x0 x1 z0 z1
    have hb := bThen HB.out hb2
    clear hb2 HB
    revert hb
    generalize w2 = w1
    intro hb

    have g := box3 hb
    have c0 : w1.cell? ⟨w.heap.size, 0, none⟩ = some (.int .i64 n) := box_cell g.1 0 _ rfl
    have c1 : w1.cell? ⟨w.heap.size, 1, none⟩ = some (.int .i64 b) := box_cell g.1 1 _ rfl
    have d0 : w1.cell? ⟨w.heap.size + 1, 0, none⟩ = some (.int .i64 n) := box_cell g.2.1 0 _ rfl
    have d1 : w1.cell? ⟨w.heap.size + 1, 1, none⟩ = some (.int .i64 c) := box_cell g.2.1 1 _ rfl
    have x0 : w1.cell? ⟨w.heap.size + 1 + 1, 0, none⟩ = some (.int .i64 0) := box_cell g.2.2.1 0 _ rfl
    have x1 : w1.cell? ⟨w.heap.size + 1 + 1, 1, none⟩ = some (.int .i64 0) := box_cell g.2.2.1 1 _ rfl
    have z0 : w1.frozen? ⟨w.heap.size + 1 + 1, 0, none⟩ = false := frozen_of_row w1 _ 0 _ _ g.2.2.1
    have z1 : w1.frozen? ⟨w.heap.size + 1 + 1, 1, none⟩ = false := frozen_of_row w1 _ 1 _ _ g.2.2.1
    have HB := Lib.hid hb
    clear hb g
    go_wp2
    ((try simp only [Exit.inBlock, Exit.then]); refine bodyPost_ret (v := (.agg #[.int .i64 n, .int .i64 (bits .xor .i64 b c)])) (by rw [results_cell1 rfl]; go_simp) rfl ?_)
    have hB := (box3 HB.out).2.2.2
    exact ⟨(by rw [opT_one _ _ _ _ _ (by simp [*])]), by (repeat' (first | assumption | exact Below.refl _ _ | refine bDrewN ?_ _ | refine Below.drew ?_ | refine bAlloc ?_ (Nat.le_refl _) _ | refine bSet ?_ (by first | exact Nat.le_refl _ | omega | (simp <;> omega)) _))⟩
  · skip
    go_enter Try.func56, Try.ntmps56
    go_wp2_with fail
    refine (specOk_any n b _).mono ?_
    rw [hok]
    rintro e w1 ⟨rfl, hb⟩

    have g := box3 hb
    have c0 : w1.cell? ⟨w.heap.size, 0, none⟩ = some (.int .i64 n) := box_cell g.1 0 _ rfl
    have c1 : w1.cell? ⟨w.heap.size, 1, none⟩ = some (.int .i64 b) := box_cell g.1 1 _ rfl
    have d0 : w1.cell? ⟨w.heap.size + 1, 0, none⟩ = some (.int .i64 m) := box_cell g.2.1 0 _ rfl
    have d1 : w1.cell? ⟨w.heap.size + 1, 1, none⟩ = some (.int .i64 c) := box_cell g.2.1 1 _ rfl
    have x0 : w1.cell? ⟨w.heap.size + 1 + 1, 0, none⟩ = some (.int .i64 0) := box_cell g.2.2.1 0 _ rfl
    have x1 : w1.cell? ⟨w.heap.size + 1 + 1, 1, none⟩ = some (.int .i64 0) := box_cell g.2.2.1 1 _ rfl
    have z0 : w1.frozen? ⟨w.heap.size + 1 + 1, 0, none⟩ = false := frozen_of_row w1 _ 0 _ _ g.2.2.1
    have z1 : w1.frozen? ⟨w.heap.size + 1 + 1, 1, none⟩ = false := frozen_of_row w1 _ 1 _ _ g.2.2.1
    have HB := Lib.hid hb
    clear hb g
    go_wp2_with fail
    refine (specOk_any m c _).mono ?_
    rw [hok2]
    rintro e w2 ⟨rfl, hb2⟩
    clear c0 c1 d0 d1 x0 x1 z0 z1
    have hb := bThen HB.out hb2
    clear hb2 HB
    revert hb
    generalize w2 = w1
    intro hb

    have g := box3 hb
    have c0 : w1.cell? ⟨w.heap.size, 0, none⟩ = some (.int .i64 n) := box_cell g.1 0 _ rfl
    have c1 : w1.cell? ⟨w.heap.size, 1, none⟩ = some (.int .i64 b) := box_cell g.1 1 _ rfl
    have d0 : w1.cell? ⟨w.heap.size + 1, 0, none⟩ = some (.int .i64 m) := box_cell g.2.1 0 _ rfl
    have d1 : w1.cell? ⟨w.heap.size + 1, 1, none⟩ = some (.int .i64 c) := box_cell g.2.1 1 _ rfl
    have x0 : w1.cell? ⟨w.heap.size + 1 + 1, 0, none⟩ = some (.int .i64 0) := box_cell g.2.2.1 0 _ rfl
    have x1 : w1.cell? ⟨w.heap.size + 1 + 1, 1, none⟩ = some (.int .i64 0) := box_cell g.2.2.1 1 _ rfl
    have z0 : w1.frozen? ⟨w.heap.size + 1 + 1, 0, none⟩ = false := frozen_of_row w1 _ 0 _ _ g.2.2.1
    have z1 : w1.frozen? ⟨w.heap.size + 1 + 1, 1, none⟩ = false := frozen_of_row w1 _ 1 _ _ g.2.2.1
    have HB := Lib.hid hb
    clear hb g
    go_wp2
    ((try simp only [Exit.inBlock, Exit.then]); refine bodyPost_ret (v := (.agg #[.int .i64 0, .int .i64 0])) (by rw [results_cell1 rfl]; go_simp) rfl ?_)
    have hB := (box3 HB.out).2.2.2
    exact ⟨(by rw [opT_zero _ _ _ _ _ (by simp [*])]), by (repeat' (first | assumption | exact Below.refl _ _ | refine bDrewN ?_ _ | refine Below.drew ?_ | refine bAlloc ?_ (Nat.le_refl _) _ | refine bSet ?_ (by first | exact Nat.le_refl _ | omega | (simp <;> omega)) _))⟩

end Go.Proofs.Ytjibjnkabfmgaaa
