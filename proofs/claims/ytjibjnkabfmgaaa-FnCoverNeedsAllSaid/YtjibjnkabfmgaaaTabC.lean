/-
  The five laws over tables that reach no package variable.
-/
import Derived.Test.YtjibjnkabfmgaaaTabOp
import Derived.Deep.RegionHeld3
namespace Go.Proofs.Ytjibjnkabfmgaaa
open Go.RowKit
set_option linter.unusedSimpArgs false
theorem withFact {p q : Prop} (h : p) (k : p → q) : q := k h

set_option maxHeartbeats 400000 in
theorem specEval_any (n b i : Int) (w : World) :
    Calls Try.prog 18 #[T n b, .int .i64 i] w fun e w' => e = .returned (.bool (evalB n b i)) ∧ Below w.heap.size w w' := by
  cases hok : okB n b
  · unfold T
    go_enter Try.func18, Try.ntmps18
    go_wp2_with fail
    refine (specOk_any n b _).mono ?_
    rw [hok]
    rintro e w1 ⟨rfl, hb⟩
    go_wp2
    go_ret
    exact ⟨ret_bool (by simp [evalB, hok]), bTrans (by (repeat' (first | assumption | exact Below.refl _ _ | refine bDrewN ?_ _ | refine Below.drew ?_ | refine bAlloc ?_ (Nat.le_refl _) _ | refine bSet ?_ (by first | exact Nat.le_refl _ | omega | (simp <;> omega)) _))) (by simp) hb⟩
  · have HOK := Lib.hid hok
    obtain ⟨N, B, rfl, rfl, hN, hB1, hB2⟩ := okB_out hok
    clear hok
    have e1 := shl_one N hN
    have h16 := pow_le16 N hN
    unfold T
    by_cases h1 : 0 ≤ i
    · obtain ⟨I, rfl⟩ := Int.eq_ofNat_of_zero_le h1
      by_cases h2 : (I : Int) < ((2 ^ N : Nat) : Int)
      · have e2 := bit_and1 B I hB2 (by omega)
        cases hbit : B.testBit I
        all_goals
          rw [hbit] at e2
          go_enter Try.func18, Try.ntmps18
          go_wp2_with fail
          refine (specOk_any N B _).mono ?_
          rw [HOK.out]
          rintro e w1 ⟨rfl, hb⟩
          have hg := (hb.block w.heap.size (by simp)).trans (heap_alloc_new w _)
          have c0 : w1.cell? ⟨w.heap.size, 0, none⟩ = some (.int .i64 N) := box_cell hg 0 _ rfl
          have c1 : w1.cell? ⟨w.heap.size, 1, none⟩ = some (.int .i64 B) := box_cell hg 1 _ rfl
          have HB := Lib.hid hb
          clear hb hg
          go_wp2
          go_ret
          exact ⟨ret_bool (by rw [eval_nat N B I HOK.out, hbit, decide_eq_true (by omega : I < 2 ^ N)]; rfl), bTrans (by (repeat' (first | assumption | exact Below.refl _ _ | refine bDrewN ?_ _ | refine Below.drew ?_ | refine bAlloc ?_ (Nat.le_refl _) _ | refine bSet ?_ (by first | exact Nat.le_refl _ | omega | (simp <;> omega)) _))) (by simp) HB.out⟩
      · go_enter Try.func18, Try.ntmps18
        go_wp2_with fail
        refine (specOk_any N B _).mono ?_
        rw [HOK.out]
        rintro e w1 ⟨rfl, hb⟩
        have hg := (hb.block w.heap.size (by simp)).trans (heap_alloc_new w _)
        have c0 : w1.cell? ⟨w.heap.size, 0, none⟩ = some (.int .i64 N) := box_cell hg 0 _ rfl
        have c1 : w1.cell? ⟨w.heap.size, 1, none⟩ = some (.int .i64 B) := box_cell hg 1 _ rfl
        have HB := Lib.hid hb
        clear hb hg
        go_wp2
        all_goals first
          | (go_ret; exact ⟨ret_bool (by rw [eval_nat N B I HOK.out, decide_eq_false (by omega : ¬ I < 2 ^ N)]; rfl), bTrans (by (repeat' (first | assumption | exact Below.refl _ _ | refine bDrewN ?_ _ | refine Below.drew ?_ | refine bAlloc ?_ (Nat.le_refl _) _ | refine bSet ?_ (by first | exact Nat.le_refl _ | omega | (simp <;> omega)) _))) (by simp) HB.out⟩)
          | (exfalso; have h3 := pow_cast N; omega)
    · go_enter Try.func18, Try.ntmps18
      go_wp2_with fail
      refine (specOk_any N B _).mono ?_
      rw [HOK.out]
      rintro e w1 ⟨rfl, hb⟩
      go_wp2
      go_ret
      exact ⟨ret_bool (by rw [eval_neg _ _ _ (by omega)]), bTrans (by (repeat' (first | assumption | exact Below.refl _ _ | refine bDrewN ?_ _ | refine Below.drew ?_ | refine bAlloc ?_ (Nat.le_refl _) _ | refine bSet ?_ (by first | exact Nat.le_refl _ | omega | (simp <;> omega)) _))) (by simp) hb⟩

end Go.Proofs.Ytjibjnkabfmgaaa
