/-
  Truth tables: value, negation, conjunction, exclusive or.
-/
import Derived.Test.YtjibjnkabfmgaaaTabA
import Derived.Test.YtjibjnkabfmgaaaBits64
import Derived.Deep.RegionLaw
import Derived.Deep.RegionHeld3
import Derived.Deep.AppendLies
namespace Go.Proofs.Ytjibjnkabfmgaaa
open Go.RowKit
set_option linter.unusedSimpArgs false

/-- The value at an index. -/
def evalB (n b i : Int) : Bool := okB n b && decide (0 ≤ i ∧ i < 2 ^ n.toNat) && b.toNat.testBit i.toNat

theorem mask_le (n : Int) (h0 : 0 ≤ n) (h4 : n ≤ 4) : maskN n ≤ 65535 := by
  rcases five h0 h4 with rfl | rfl | rfl | rfl | rfl <;> decide
theorem okB_out {n b : Int} (h : okB n b = true) : ∃ N B : Nat, n = N ∧ b = B ∧ N ≤ 4 ∧ B ≤ maskN N ∧ B ≤ 65535 := by
  unfold okB at h
  have h := of_decide_eq_true h
  have := mask_le n h.1 h.2.1
  obtain ⟨N, rfl⟩ := Int.eq_ofNat_of_zero_le h.1
  obtain ⟨B, rfl⟩ := Int.eq_ofNat_of_zero_le h.2.2.1
  exact ⟨N, B, rfl, rfl, by omega, by omega, by omega⟩
theorem w64_nat (n : Nat) (h : n < 9223372036854775808) : wrap64 (n : Int) = n := by unfold wrap64; omega
theorem pow_cast (N : Nat) : (2 : Int) ^ N = ((2 ^ N : Nat) : Int) := by simp
theorem pow_le16 (N : Nat) (h : N ≤ 4) : 2 ^ N ≤ 16 := by
  rcases (by omega : N = 0 ∨ N = 1 ∨ N = 2 ∨ N = 3 ∨ N = 4) with rfl | rfl | rfl | rfl | rfl <;> decide
theorem shl_one (N : Nat) (h : N ≤ 4) : wrap64 (2 ^ N) = ((2 ^ N : Nat) : Int) := by
  rw [pow_cast]; exact w64_nat _ (by have := pow_le16 N h; omega)
theorem bit_and1 (B I : Nat) (hB : B ≤ 65535) (hI : I ≤ 16) : bits .and .i64 ((B : Int) / 2 ^ I) 1 = ((B.testBit I).toNat : Int) := by
  have := shr64 B I (by omega)
  rw [Int.toNat_natCast, Nat.min_eq_left (by omega)] at this
  rw [this, show (1 : Int) = ((1 : Nat) : Int) from rfl, i64_and _ _ (by have := Nat.shiftRight_le B I; omega) (by omega), bit01]

theorem eval_nat (N B I : Nat) (h : okB N B = true) : evalB N B I = (decide (I < 2 ^ N) && B.testBit I) := by
  unfold evalB
  rw [h]
  have e : decide (0 ≤ (I : Int) ∧ (I : Int) < 2 ^ (N : Int).toNat) = decide (I < 2 ^ N) := by
    rw [Int.toNat_natCast, pow_cast]; exact decide_eq_decide.2 (by omega)
  rw [e]; simp
theorem eval_neg (n b i : Int) (h : i < 0) : evalB n b i = false := by
  unfold evalB
  rw [decide_eq_false (by omega : ¬ (0 ≤ i ∧ i < 2 ^ n.toNat))]; simp

theorem xor_mask (N B : Nat) (hB : B ≤ maskN N) : B ^^^ maskN N = maskN N - B := by
  unfold maskN at *
  rw [Int.toNat_natCast] at *
  have hp : 0 < 2 ^ 2 ^ N := Nat.pow_pos (by omega)
  have hB' : B < 2 ^ 2 ^ N := by omega
  apply Nat.eq_of_testBit_eq
  intro i
  rw [Nat.testBit_xor, Nat.testBit_two_pow_sub_one, show 2 ^ 2 ^ N - 1 - B = 2 ^ 2 ^ N - (B + 1) by omega, Nat.testBit_two_pow_sub_succ hB']
  by_cases hi : i < 2 ^ N
  · simp [hi]
  · have : B.testBit i = false := Nat.testBit_lt_two_pow (Nat.lt_of_lt_of_le hB' (Nat.pow_le_pow_right (by omega) (by omega)))
    simp [hi, this]

/-- The opposite table. -/
def notT (n b : Int) : Value := if okB n b then T n (maskN n - b) else T 0 0
theorem notT_nat (N B : Nat) (h : okB N B = true) (hB : B ≤ maskN N) : notT N B = .agg #[.int .i64 N, .int .i64 (maskN N - B : Nat)] := by
  unfold notT T
  rw [if_pos h, Int.ofNat_sub hB]

/-- The conjunction; the exclusive or. -/
def opT (op : BinOp) (n b m c : Int) : Value := if okB n b && okB m c && decide (n = m) then T n (bits op .i64 b c) else T 0 0
theorem opT_zero (op : BinOp) (n b m c : Int) (h : (okB n b && okB m c && decide (n = m)) = false) : opT op n b m c = .agg #[.int .i64 0, .int .i64 0] := by
  unfold opT; rw [h]; rfl
theorem opT_one (op : BinOp) (n b m c : Int) (h : (okB n b && okB m c && decide (n = m)) = true) : opT op n b m c = .agg #[.int .i64 n, .int .i64 (bits op .i64 b c)] := by
  unfold opT; rw [h]; rfl

set_option maxHeartbeats 400000 in
theorem specNot_any (n b : Int) (w : World) :
    Calls Try.prog 54 #[T n b] w fun e w' => e = .returned (notT n b) ∧ Below w.heap.size w w' := by
  cases hok : okB n b
  · unfold T
    go_enter Try.func54, Try.ntmps54
    go_wp2_with fail
    refine (specOk_any n b _).mono ?_
    rw [hok]
    rintro e w1 ⟨rfl, hb⟩
    have hg := (hb.block (w.heap.size + 1) (by simp)).trans (heap_alloc2_new w _ _)
    have z0 : w1.frozen? ⟨w.heap.size + 1, 0, none⟩ = false := frozen_of_row w1 _ 0 _ _ hg
    have z1 : w1.frozen? ⟨w.heap.size + 1, 1, none⟩ = false := frozen_of_row w1 _ 1 _ _ hg
    have c0 : w1.cell? ⟨w.heap.size + 1, 0, none⟩ = some (.int .i64 0) := box_cell hg 0 _ rfl
    have c1 : w1.cell? ⟨w.heap.size + 1, 1, none⟩ = some (.int .i64 0) := box_cell hg 1 _ rfl
    have HB := Lib.hid hb
    clear hb hg
    go_wp2
    ((try simp only [Exit.inBlock, Exit.then]); refine bodyPost_ret (v := (.agg #[.int .i64 0, .int .i64 0])) (by rw [results_cell1 rfl]; go_simp) rfl ?_)
    exact ⟨by unfold notT; rw [hok]; rfl, bSet (bSet (bTrans (by (repeat' (first | assumption | exact Below.refl _ _ | refine bDrewN ?_ _ | refine Below.drew ?_ | refine bAlloc ?_ (Nat.le_refl _) _ | refine bSet ?_ (by first | exact Nat.le_refl _ | omega | (simp <;> omega)) _))) (by simp <;> omega) HB.out) (by simp) _) (by simp) _⟩
  · have HOK := Lib.hid hok
    obtain ⟨N, B, rfl, rfl, hN, hB1, hB2⟩ := okB_out hok
    clear hok
    have hm := mask_le N (by omega) (by omega)
    unfold T
    go_enter Try.func54, Try.ntmps54
    go_wp2_with fail
    refine (specOk_any N B _).mono ?_
    rw [HOK.out]
    rintro e w1 ⟨rfl, hb⟩
    have hg := (hb.block (w.heap.size + 1) (by simp)).trans (heap_alloc2_new w _ _)
    have hg0 := (hb.block w.heap.size (by simp <;> omega)).trans ((heap_alloc_old _ _ (by simp)).trans (heap_alloc_new w _))
    have z0 : w1.frozen? ⟨w.heap.size + 1, 0, none⟩ = false := frozen_of_row w1 _ 0 _ _ hg
    have z1 : w1.frozen? ⟨w.heap.size + 1, 1, none⟩ = false := frozen_of_row w1 _ 1 _ _ hg
    have c0 : w1.cell? ⟨w.heap.size + 1, 0, none⟩ = some (.int .i64 0) := box_cell hg 0 _ rfl
    have c1 : w1.cell? ⟨w.heap.size + 1, 1, none⟩ = some (.int .i64 0) := box_cell hg 1 _ rfl
    have d0 : w1.cell? ⟨w.heap.size, 0, none⟩ = some (.int .i64 N) := box_cell hg0 0 _ rfl
    have d1 : w1.cell? ⟨w.heap.size, 1, none⟩ = some (.int .i64 B) := box_cell hg0 1 _ rfl
    have HB := Lib.hid hb
    clear hb hg hg0
    have ev : IntKind.i64.wrap (((maskN N : Nat) : Int) - (B : Int)) = ((maskN N - B : Nat) : Int) := by rw [wrap64_int _ (by omega) (by omega), Int.ofNat_sub hB1]
    go_wp2
    go_region_law (go_simp; go_at_call 51; refine (l02Full_any N _ (by omega) (by omega)).mono ?_; rintro e w2 ⟨rfl, rfl⟩)
    all_goals go_wp2
    all_goals ((try simp only [Exit.inBlock, Exit.then]); refine bodyPost_ret (v := (.agg #[.int .i64 N, .int .i64 (maskN N - B : Nat)])) (by rw [results_cell1 rfl]; go_simp) rfl ?_)
    all_goals
      have hB : Below w.heap.size w w1 := bTrans (by (repeat' (first | assumption | exact Below.refl _ _ | refine bDrewN ?_ _ | refine Below.drew ?_ | refine bAlloc ?_ (Nat.le_refl _) _ | refine bSet ?_ (by first | exact Nat.le_refl _ | omega | (simp <;> omega)) _))) (by simp <;> omega) HB.out
      exact ⟨by rw [notT_nat N B HOK.out hB1], by (repeat' (first | assumption | exact Below.refl _ _ | refine bDrewN ?_ _ | refine Below.drew ?_ | refine bAlloc ?_ (Nat.le_refl _) _ | refine bSet ?_ (by first | exact Nat.le_refl _ | omega | (simp <;> omega)) _))⟩
end Go.Proofs.Ytjibjnkabfmgaaa
