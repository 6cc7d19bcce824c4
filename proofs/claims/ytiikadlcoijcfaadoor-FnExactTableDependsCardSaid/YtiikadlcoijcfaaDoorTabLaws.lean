/-
  The laws over tables that reach the program's table of words: one input's table, cofactors, dependence.
-/
import Derived.Test.YtiikadlcoijcfaaDoorTabDep
namespace Go.Proofs.YtiikadlcoijcfaaDoor
open Go.RowKit
set_option linter.unusedVariables false

set_option linter.unusedSimpArgs false
theorem varT_shape (n k : Int) : ∃ (x y : Int) (c : Bool), varT n k = .tuple #[.agg #[.int .i64 x, .int .i64 y], .bool c] := by
  unfold varT T; split
  · exact ⟨_, _, _, rfl⟩
  · exact ⟨_, _, _, rfl⟩

set_option maxHeartbeats 3200000 in
theorem exactVar_walk (n k : Int) (w : World) (hL : laidMetH Tryd.prog Rows.fnExactTableVarRow.laid w) :
    Calls Tryd.prog 5 #[.int .i64 n, .int .i64 k] w fun e w' => e = .returned (.bool true) ∧ Below w.heap.size w w' := by
  have hI : InB w := inB_of hL
  clear hL
  (try unfold T)
  obtain ⟨x, y, c, hv⟩ := varT_shape n k
  go_enter Tryd.func5, Tryd.ntmps5
  go_wp2_with fail
  refine (specVar_any n k _).mono ?_
  rw [hv]
  rintro e w1 ⟨rfl, hb⟩
  have hT : Below w.heap.size w w1 := hb
  have HB := Lib.hid hT
  replace hI := hI.keep hT
  clear hT hb
  go_wp2_with fail
  refine (implVar_any n k _ (hI.keep (by (repeat' (first | assumption | exact Below.refl _ _ | refine bDrewN ?_ _ | refine Below.drew ?_ | refine bAlloc ?_ (Nat.le_refl _) _ | refine bSet ?_ (by first | exact Nat.le_refl _ | omega | (simp <;> omega)) _))))).mono ?_
  rw [hv]
  rintro e w2 ⟨rfl, hb⟩
  have g := box1 hb
  have hT : Below w1.heap.size w1 w2 := g.2
  have c200 : w2.cell? ⟨w1.heap.size, 0, none⟩ = some (.int .i64 x) := box_cell g.1 0 _ rfl
  have c201 : w2.cell? ⟨w1.heap.size, 1, none⟩ = some (.int .i64 y) := box_cell g.1 1 _ rfl
  have l20 : w1.heap.size < w2.heap.size := World.block_lt_of_cell? _ _ c200
  replace HB := Lib.hid (bThen HB.out hT)
  replace hI := hI.keep hT
  clear hT hb g
  go_wp2_with fail
  refine (eqTable_same x y _).mono ?_
  rintro e w3 ⟨rfl, hb⟩
  have g := box1 hb
  have hT : Below w2.heap.size w2 w3 := g.2
  replace c200 := keep hT c200
  replace c201 := keep hT c201
  have c300 : w3.cell? ⟨w2.heap.size, 0, none⟩ = some (.int .i64 x) := box_cell g.1 0 _ rfl
  have c301 : w3.cell? ⟨w2.heap.size, 1, none⟩ = some (.int .i64 y) := box_cell g.1 1 _ rfl
  have l20 : w1.heap.size < w3.heap.size := World.block_lt_of_cell? _ _ c200
  have l30 : w2.heap.size < w3.heap.size := World.block_lt_of_cell? _ _ c300
  replace HB := Lib.hid (bThen HB.out hT)
  replace hI := hI.keep hT
  clear hT hb g
  go_wp2
  go_ret
  have hB := HB.out
  exact ⟨rfl, by first | exact hB | (repeat' (first | assumption | exact Below.refl _ _ | refine bDrewN ?_ _ | refine Below.drew ?_ | refine bAlloc ?_ (Nat.le_refl _) _ | refine bSet ?_ (by first | exact Nat.le_refl _ | omega | (simp <;> omega)) _))⟩

set_option maxHeartbeats 3200000 in
theorem exactCof_walk (n b k : Int) (v : Bool) (w : World) (hL : laidMetH Tryd.prog Rows.fnExactTableCofactorRow.laid w) :
    Calls Tryd.prog 6 #[T n b, .int .i64 k, .bool v] w fun e w' => e = .returned (.bool true) ∧ Below w.heap.size w w' := by
  have hI : InB w := inB_of hL
  clear hL
  (try unfold T)
  obtain ⟨x, y, hv⟩ := cofT_shape n b k v
  go_enter Tryd.func6, Tryd.ntmps6
  go_wp2_with fail
  refine (toTable_any n b _).mono ?_
  rintro e w1 ⟨rfl, hb⟩
  have g := box1 hb
  have hT : Below w.heap.size w w1 := g.2
  have c100 : w1.cell? ⟨w.heap.size, 0, none⟩ = some (.int .i64 n) := box_cell g.1 0 _ rfl
  have c101 : w1.cell? ⟨w.heap.size, 1, none⟩ = some (.int .i64 b) := box_cell g.1 1 _ rfl
  have l10 : w.heap.size < w1.heap.size := World.block_lt_of_cell? _ _ c100
  have HB := Lib.hid hT
  replace hI := hI.keep hT
  clear hT hb g
  go_wp2_with fail
  refine (specCof_any n b k v _).mono ?_
  rw [hv]
  rintro e w2 ⟨rfl, hb⟩
  have hT : Below w1.heap.size w1 w2 := hb
  replace c100 := keep hT c100
  replace c101 := keep hT c101
  have l10 : w.heap.size < w2.heap.size := World.block_lt_of_cell? _ _ c100
  replace HB := Lib.hid (bThen HB.out hT)
  replace hI := hI.keep hT
  clear hT hb
  go_wp2_with fail
  refine (toTable_any n b _).mono ?_
  rintro e w3 ⟨rfl, hb⟩
  have g := box1 hb
  have hT : Below w2.heap.size w2 w3 := g.2
  replace c100 := keep hT c100
  replace c101 := keep hT c101
  have c300 : w3.cell? ⟨w2.heap.size, 0, none⟩ = some (.int .i64 x) := box_cell g.1 0 _ rfl
  have c301 : w3.cell? ⟨w2.heap.size, 1, none⟩ = some (.int .i64 y) := box_cell g.1 1 _ rfl
  have l10 : w.heap.size < w3.heap.size := World.block_lt_of_cell? _ _ c100
  have l30 : w2.heap.size < w3.heap.size := World.block_lt_of_cell? _ _ c300
  replace HB := Lib.hid (bThen HB.out hT)
  replace hI := hI.keep hT
  clear hT hb g
  go_wp2_with fail
  refine (implCof_any n b k v _ (hI.keep (by (repeat' (first | assumption | exact Below.refl _ _ | refine bDrewN ?_ _ | refine Below.drew ?_ | refine bAlloc ?_ (Nat.le_refl _) _ | refine bSet ?_ (by first | exact Nat.le_refl _ | omega | (simp <;> omega)) _))))).mono ?_
  rw [hv]
  rintro e w4 ⟨rfl, hb⟩
  have hT : Below w3.heap.size w3 w4 := hb
  replace c100 := keep hT c100
  replace c101 := keep hT c101
  replace c300 := keep hT c300
  replace c301 := keep hT c301
  have l10 : w.heap.size < w4.heap.size := World.block_lt_of_cell? _ _ c100
  have l30 : w2.heap.size < w4.heap.size := World.block_lt_of_cell? _ _ c300
  replace HB := Lib.hid (bThen HB.out hT)
  replace hI := hI.keep hT
  clear hT hb
  go_wp2_with fail
  refine (eqTable_same x y _).mono ?_
  rintro e w5 ⟨rfl, hb⟩
  have g := box1 hb
  have hT : Below w4.heap.size w4 w5 := g.2
  replace c100 := keep hT c100
  replace c101 := keep hT c101
  replace c300 := keep hT c300
  replace c301 := keep hT c301
  have c500 : w5.cell? ⟨w4.heap.size, 0, none⟩ = some (.int .i64 x) := box_cell g.1 0 _ rfl
  have c501 : w5.cell? ⟨w4.heap.size, 1, none⟩ = some (.int .i64 y) := box_cell g.1 1 _ rfl
  have l10 : w.heap.size < w5.heap.size := World.block_lt_of_cell? _ _ c100
  have l30 : w2.heap.size < w5.heap.size := World.block_lt_of_cell? _ _ c300
  have l50 : w4.heap.size < w5.heap.size := World.block_lt_of_cell? _ _ c500
  replace HB := Lib.hid (bThen HB.out hT)
  replace hI := hI.keep hT
  clear hT hb g
  go_wp2
  go_ret
  have hB := HB.out
  exact ⟨rfl, by first | exact hB | (repeat' (first | assumption | exact Below.refl _ _ | refine bDrewN ?_ _ | refine Below.drew ?_ | refine bAlloc ?_ (Nat.le_refl _) _ | refine bSet ?_ (by first | exact Nat.le_refl _ | omega | (simp <;> omega)) _))⟩

set_option maxHeartbeats 3200000 in
theorem exactDep_walk (n b k : Int) (w : World) (hL : laidMetH Tryd.prog Rows.fnExactTableDependsRow.laid w) :
    Calls Tryd.prog 7 #[T n b, .int .i64 k] w fun e w' => e = .returned (.bool true) ∧ Below w.heap.size w w' := by
  have hI : InB w := inB_of hL
  clear hL
  (try unfold T)
  obtain ⟨d, hd⟩ : ∃ d, depB n b k = d := ⟨_, rfl⟩
  go_enter Tryd.func7, Tryd.ntmps7
  go_wp2_with fail
  refine (toTable_any n b _).mono ?_
  rintro e w1 ⟨rfl, hb⟩
  have g := box1 hb
  have hT : Below w.heap.size w w1 := g.2
  have c100 : w1.cell? ⟨w.heap.size, 0, none⟩ = some (.int .i64 n) := box_cell g.1 0 _ rfl
  have c101 : w1.cell? ⟨w.heap.size, 1, none⟩ = some (.int .i64 b) := box_cell g.1 1 _ rfl
  have l10 : w.heap.size < w1.heap.size := World.block_lt_of_cell? _ _ c100
  have HB := Lib.hid hT
  replace hI := hI.keep hT
  clear hT hb g
  go_wp2_with fail
  refine (specDep_any n b k _).mono ?_
  rw [hd]
  rintro e w2 ⟨rfl, hb⟩
  have hT : Below w1.heap.size w1 w2 := hb
  replace c100 := keep hT c100
  replace c101 := keep hT c101
  have l10 : w.heap.size < w2.heap.size := World.block_lt_of_cell? _ _ c100
  replace HB := Lib.hid (bThen HB.out hT)
  replace hI := hI.keep hT
  clear hT hb
  go_wp2_with fail
  refine (toTable_any n b _).mono ?_
  rintro e w3 ⟨rfl, hb⟩
  have hT : Below w2.heap.size w2 w3 := hb
  replace c100 := keep hT c100
  replace c101 := keep hT c101
  have l10 : w.heap.size < w3.heap.size := World.block_lt_of_cell? _ _ c100
  replace HB := Lib.hid (bThen HB.out hT)
  replace hI := hI.keep hT
  clear hT hb
  go_wp2_with fail
  refine (implDep_any n b k _ (hI.keep (by (repeat' (first | assumption | exact Below.refl _ _ | refine bDrewN ?_ _ | refine Below.drew ?_ | refine bAlloc ?_ (Nat.le_refl _) _ | refine bSet ?_ (by first | exact Nat.le_refl _ | omega | (simp <;> omega)) _))))).mono ?_
  rw [hd]
  rintro e w4 ⟨rfl, hb⟩
  have hT : Below w3.heap.size w3 w4 := hb
  replace c100 := keep hT c100
  replace c101 := keep hT c101
  have l10 : w.heap.size < w4.heap.size := World.block_lt_of_cell? _ _ c100
  replace HB := Lib.hid (bThen HB.out hT)
  replace hI := hI.keep hT
  clear hT hb
  go_wp2
  go_ret
  have hB := HB.out
  exact ⟨rfl, by first | exact hB | (repeat' (first | assumption | exact Below.refl _ _ | refine bDrewN ?_ _ | refine Below.drew ?_ | refine bAlloc ?_ (Nat.le_refl _) _ | refine bSet ?_ (by first | exact Nat.le_refl _ | omega | (simp <;> omega)) _))⟩
end Go.Proofs.YtiikadlcoijcfaaDoor
