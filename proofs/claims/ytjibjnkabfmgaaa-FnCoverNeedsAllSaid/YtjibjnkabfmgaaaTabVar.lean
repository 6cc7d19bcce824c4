/-
  Truth tables: the table of an input.
-/
import Derived.Test.YtjibjnkabfmgaaaTabOp
import Derived.Test.YtjibjnkabfmgaaaTabMath
import Derived.Lib.LaidTab
namespace Go.Proofs.Ytjibjnkabfmgaaa
open Go.RowKit
set_option linter.unusedSimpArgs false

/-- What TableVar returns. -/
def varT (n k : Int) : Value := if 0 ≤ n ∧ n ≤ 4 ∧ 0 ≤ k ∧ k < n then .tuple #[T n (varN n.toNat k.toNat), .bool true] else .tuple #[T 0 0, .bool false]
theorem varT_no {n k : Int} (h : ¬ (0 ≤ n ∧ n ≤ 4 ∧ 0 ≤ k ∧ k < n)) : varT n k = .tuple #[.agg #[.int .i64 0, .int .i64 0], .bool false] := if_neg h
theorem varT_yes (N K : Nat) (hN : N ≤ 4) (hK : K < N) : varT N K = .tuple #[.agg #[.int .i64 N, .int .i64 (varN N K : Nat)], .bool true] := by
  unfold varT
  rw [if_pos ⟨by omega, by omega, by omega, by omega⟩]
  rfl

theorem tabW_le (K : Nat) : tabW K ≤ 65535 := by unfold tabW; split <;> (try split) <;> (try split) <;> decide
theorem varN_le (N K : Nat) (hN : N ≤ 4) : varN N K ≤ 65535 := mkB_le _ _ (pow16 N hN)

/-- The step of a number made bit by bit, as the program reckons it. -/
theorem step_bits (f : Nat → Bool) (i m : Nat) (hi : i < m) (hm : m ≤ 16) (x : Nat) (hx : x = (f i).toNat) :
    IntKind.i64.wrap ((mkB f i : Nat) + IntKind.i64.wrap ((x : Int) * 2 ^ i)) = ((mkB f (i + 1) : Nat) : Int) := by
  have h1 := mkB_le f (i + 1) (by omega)
  have e : (x : Int) * 2 ^ i = ((x * 2 ^ i : Nat) : Int) := by simp
  have h2 : x * 2 ^ i ≤ 65535 := by
    have : mkB f (i + 1) = mkB f i + (f i).toNat * 2 ^ i := rfl
    rw [hx]; omega
  rw [e, wrap64_small _ (by omega), ← Int.natCast_add, wrap64_small _ (by have : mkB f (i + 1) = mkB f i + (f i).toNat * 2 ^ i := rfl; rw [hx]; omega)]
  rw [hx]; rfl

set_option maxHeartbeats 3200000 in
theorem specVar_any (n k : Int) (w : World) :
    Calls Try.prog 53 #[.int .i64 n, .int .i64 k] w fun e w' => e = .returned (varT n k) ∧ Below w.heap.size w w' := by
  by_cases h : 0 ≤ n ∧ n ≤ 4 ∧ 0 ≤ k ∧ k < n
  · obtain ⟨N, rfl⟩ := Int.eq_ofNat_of_zero_le h.1
    obtain ⟨K, rfl⟩ := Int.eq_ofNat_of_zero_le h.2.2.1
    have hN : N ≤ 4 := by omega
    have hK : K < N := by omega
    rw [varT_yes N K hN hK]
    have i1 : decide (0 ≤ (N : Int) ∧ (N : Int) ≤ 4) = true := decide_eq_true (by omega)
    have i3 : ¬ (K : Int) < 0 := by omega
    have i4 : ¬ (N : Int) ≤ K := by omega
    have h16 := pow16 N hN
    have e1 := shl_one N hN
    clear h
    go_enter Try.func53, Try.ntmps53
    go_wp2_with fail
    refine (l01In_at N 0 4 _ i1).mono ?_
    rintro e w1 ⟨rfl, rfl⟩
    go_wp2
    have q3 : decide ((K : Int) < 0) = false := decide_eq_false (by omega)
    have q4 : decide (N ≤ K) = false := decide_eq_false (by omega)
    simp only [q3, q4, Bool.or_false, Bool.or_self]
    clear q3 q4
    have b0 : Below w.heap.size w ((w.alloc (.cells #[.int .i64 0, .int .i64 0] 25)).alloc (.cells #[.int .i64 N, .int .i64 0] 25)) := by (repeat' (first | assumption | exact Below.refl _ _ | refine bDrewN ?_ _ | refine Below.drew ?_ | refine bAlloc ?_ (Nat.le_refl _) _ | refine bSet ?_ (by first | exact Nat.le_refl _ | omega | (simp <;> omega)) _))
    have g0 := box2 (w1 := (w.alloc (.cells #[.int .i64 0, .int .i64 0] 25)).alloc (.cells #[.int .i64 N, .int .i64 0] 25)) (Below.refl _ _)
    go_loopw [7] (fun v wr => ∃ i : Nat, v = .int .i64 i ∧ i ≤ 2 ^ N ∧ wr.heap[w.heap.size]? = some (.cells #[.int .i64 0, .int .i64 0] 25 (0, 0)) ∧
        wr.heap[w.heap.size + 1]? = some (.cells #[.int .i64 N, .int .i64 (mkB (fun i => i.testBit K) i : Nat)] 25 (0, 0)) ∧ Below w.heap.size w wr)
      (fun v _ => 2 ^ N - (intOf v).toNat)
    case atStart => exact ⟨0, rfl, Nat.zero_le _, g0.1, g0.2.1, b0⟩
    case round =>
      obtain ⟨i, rfl, hi, hr, ho, hb⟩ := hrel
      have c0 : wr.cell? ⟨w.heap.size + 1, 0, none⟩ = some (.int .i64 N) := box_cell ho 0 _ rfl
      have c1 : wr.cell? ⟨w.heap.size + 1, 1, none⟩ = some (.int .i64 (mkB (fun i => i.testBit K) i : Nat)) := box_cell ho 1 _ rfl
      have z1 : wr.frozen? ⟨w.heap.size + 1, 1, none⟩ = false := frozen_of_row wr _ 1 _ _ ho
      have r0 : wr.cell? ⟨w.heap.size, 0, none⟩ = some (.int .i64 0) := box_cell hr 0 _ rfl
      have r1 : wr.cell? ⟨w.heap.size, 1, none⟩ = some (.int .i64 0) := box_cell hr 1 _ rfl
      have y0 : wr.frozen? ⟨w.heap.size, 0, none⟩ = false := frozen_of_row wr _ 0 _ _ hr
      have y1 : wr.frozen? ⟨w.heap.size, 1, none⟩ = false := frozen_of_row wr _ 1 _ _ hr
      have HO := Lib.hid ho
      have HR := Lib.hid hr
      have HB := Lib.hid hb
      clear hr ho hb
      by_cases hlt : i < 2 ^ N
      · have t1 : (i : Int) < 2 ^ N := by rw [pow_cast]; omega
        have ev1 := bit_and1 i K (by omega) (by omega)
        have ev2 := step_bits (fun i => i.testBit K) i (2 ^ N) hlt h16 _ rfl
        have hm := mkB_le (fun i => i.testBit K) i (by omega)
        go_wp2
        go_region_law (fail)
        all_goals go_wp2
        all_goals go_roundw
        case rel => exact ⟨i + 1, by go_num, by omega, (Below.heap_setCell wr _ _ w.heap.size (by simp)).trans HR.out, heap_setCell_same wr _ 1 _ _ _ HO.out, by have hB := HB.out; (repeat' (first | assumption | exact Below.refl _ _ | refine bDrewN ?_ _ | refine Below.drew ?_ | refine bAlloc ?_ (Nat.le_refl _) _ | refine bSet ?_ (by first | exact Nat.le_refl _ | omega | (simp <;> omega)) _))⟩
        case measure => simp [intOf]; omega
      · have t1 : ¬ (i : Int) < 2 ^ N := by rw [pow_cast]; omega
        obtain rfl : i = 2 ^ N := by omega
        go_wp2
        ((try simp only [Exit.inBlock, Exit.then]); refine bodyPost_ret (v := (.tuple #[.agg #[.int .i64 N, .int .i64 (mkB (fun i => i.testBit K) (2 ^ N) : Nat)], .bool true])) (by rw [results_cell_tmp rfl]; go_simp) rfl ?_)
        have hB := HB.out
        exact ⟨rfl, by (repeat' (first | assumption | exact Below.refl _ _ | refine bDrewN ?_ _ | refine Below.drew ?_ | refine bAlloc ?_ (Nat.le_refl _) _ | refine bSet ?_ (by first | exact Nat.le_refl _ | omega | (simp <;> omega)) _))⟩
  · rw [varT_no h]
    by_cases h0 : 0 ≤ n ∧ n ≤ 4
    all_goals first | (have hv : decide (0 ≤ n ∧ n ≤ 4) = true := decide_eq_true h0) | (have hv : decide (0 ≤ n ∧ n ≤ 4) = false := decide_eq_false h0)
    all_goals
      go_enter Try.func53, Try.ntmps53
      go_wp2_with fail
      refine (l01In_at n 0 4 _ hv).mono ?_
      rintro e w1 ⟨rfl, rfl⟩
      go_wp2
    all_goals try (exfalso; omega)
    all_goals ((try simp only [Exit.inBlock, Exit.then]); refine bodyPost_ret (v := (.tuple #[.agg #[.int .i64 0, .int .i64 0], .bool false])) (by rw [results_cell_tmp rfl]; go_simp) rfl ?_)
    all_goals exact ⟨rfl, by (repeat' (first | assumption | exact Below.refl _ _ | refine bDrewN ?_ _ | refine Below.drew ?_ | refine bAlloc ?_ (Nat.le_refl _) _ | refine bSet ?_ (by first | exact Nat.le_refl _ | omega | (simp <;> omega)) _))⟩
end Go.Proofs.Ytjibjnkabfmgaaa
