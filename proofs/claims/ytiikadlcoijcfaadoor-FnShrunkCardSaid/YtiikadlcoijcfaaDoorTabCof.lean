/-
  Truth tables: the cofactors.
-/
import Derived.Test.YtiikadlcoijcfaaDoorTabVar
namespace Go.Proofs.YtiikadlcoijcfaaDoor
open Go.RowKit
set_option linter.unusedSimpArgs false
set_option linter.unusedVariables false

/-- The cofactor. -/
def cofT (n b k : Int) (v : Bool) : Value := if okB n b = true ∧ 0 ≤ k ∧ k < n then T n (cofN n.toNat b.toNat k.toNat v) else T 0 0
theorem cofT_no {n b k : Int} {v : Bool} (h : ¬ (okB n b = true ∧ 0 ≤ k ∧ k < n)) : cofT n b k v = .agg #[.int .i64 0, .int .i64 0] := if_neg h
theorem cofT_yes (N B K : Nat) (v : Bool) (h : okB N B = true) (hK : K < N) : cofT N B K v = .agg #[.int .i64 N, .int .i64 (cofN N B K v : Nat)] := by
  unfold cofT
  rw [if_pos ⟨h, by omega, by omega⟩]
  rfl
theorem ok_lt {N B : Nat} (h : B ≤ maskN N) : B < 2 ^ 2 ^ N := by
  have : 0 < 2 ^ 2 ^ N := Nat.pow_pos (by omega)
  unfold maskN at h
  rw [Int.toNat_natCast] at h
  omega
theorem shl_le (N K : Nat) (hN : N ≤ 4) (hK : K < N) : 2 ^ K ≤ 8 := by
  have : 2 ^ K ≤ 2 ^ 3 := Nat.pow_le_pow_right (by omega) (by omega)
  omega
theorem shl_oneK (K : Nat) (hK : K ≤ 4) : wrap64 (2 ^ K) = ((2 ^ K : Nat) : Int) := shl_one K hK
theorem cofT_shape (n b k : Int) (v : Bool) : ∃ x y : Int, cofT n b k v = .agg #[.int .i64 x, .int .i64 y] := by
  unfold cofT T; split
  · exact ⟨_, _, rfl⟩
  · exact ⟨_, _, rfl⟩

set_option maxHeartbeats 3200000 in
theorem implCof_no (n b k : Int) (v : Bool) (w : World) (hI : InB w) (h : ¬ (0 ≤ n ∧ n ≤ 4 ∧ 0 ≤ k ∧ k < n)) :
    Calls Tryd.prog 13 #[T n b, .int .i64 k, .bool v] w fun e w' => e = .returned (cofT n b k v) ∧ Below w.heap.size w w' := by
    rw [cofT_no (by intro h2; unfold okB at h2; have := of_decide_eq_true h2.1; omega)]
    unfold T
    go_enter Tryd.func13, Tryd.ntmps13
    go_wp2_with fail
    refine (implVar_any n k _ (hI.keep (by (repeat' (first | assumption | exact Below.refl _ _ | refine bDrewN ?_ _ | refine Below.drew ?_ | refine bAlloc ?_ (Nat.le_refl _) _ | refine bSet ?_ (by first | exact Nat.le_refl _ | omega | (simp <;> omega)) _))))).mono ?_
    rw [varT_no h]
    rintro e w1 ⟨rfl, hb⟩

    have g := box2 hb
    have c0 : w1.cell? ⟨w.heap.size, 0, none⟩ = some (.int .i64 n) := box_cell g.1 0 _ rfl
    have c1 : w1.cell? ⟨w.heap.size, 1, none⟩ = some (.int .i64 b) := box_cell g.1 1 _ rfl
    have r0 : w1.cell? ⟨w.heap.size + 1, 0, none⟩ = some (.int .i64 0) := box_cell g.2.1 0 _ rfl
    have r1 : w1.cell? ⟨w.heap.size + 1, 1, none⟩ = some (.int .i64 0) := box_cell g.2.1 1 _ rfl
    have y0 : w1.frozen? ⟨w.heap.size + 1, 0, none⟩ = false := frozen_of_row w1 _ 0 _ _ g.2.1
    have y1 : w1.frozen? ⟨w.heap.size + 1, 1, none⟩ = false := frozen_of_row w1 _ 1 _ _ g.2.1
    have l0 := World.block_lt_of_cell? _ _ c0
    have l1 := World.block_lt_of_cell? _ _ r0
    have HB := Lib.hid g.2.2
    clear hb g
    go_wp2
    ((try simp only [Exit.inBlock, Exit.then]); refine bodyPost_ret (v := (.agg #[.int .i64 0, .int .i64 0])) (by rw [results_cell1 rfl]; go_simp) rfl ?_)
    have hB := HB.out
    exact ⟨rfl, by (repeat' (first | assumption | exact Below.refl _ _ | refine bDrewN ?_ _ | refine Below.drew ?_ | refine bAlloc ?_ (Nat.le_refl _) _ | refine bSet ?_ (by first | exact Nat.le_refl _ | omega | (simp <;> omega)) _))⟩

set_option maxHeartbeats 3200000 in
theorem implCof_bad (N K : Nat) (b : Int) (v : Bool) (w : World) (hI : InB w) (hN : N ≤ 4) (hK : K < N) (hok : okB N b = false) :
    Calls Tryd.prog 13 #[T N b, .int .i64 K, .bool v] w fun e w' => e = .returned (cofT N b K v) ∧ Below w.heap.size w w' := by
    rw [cofT_no (by rw [hok]; simp)]
    unfold T
    go_enter Tryd.func13, Tryd.ntmps13
    go_wp2_with fail
    refine (implVar_any N K _ (hI.keep (by (repeat' (first | assumption | exact Below.refl _ _ | refine bDrewN ?_ _ | refine Below.drew ?_ | refine bAlloc ?_ (Nat.le_refl _) _ | refine bSet ?_ (by first | exact Nat.le_refl _ | omega | (simp <;> omega)) _))))).mono ?_
    rw [varT_yes N K hN hK]
    rintro e w1 ⟨rfl, hb⟩

    have g := box2 hb
    have c0 : w1.cell? ⟨w.heap.size, 0, none⟩ = some (.int .i64 N) := box_cell g.1 0 _ rfl
    have c1 : w1.cell? ⟨w.heap.size, 1, none⟩ = some (.int .i64 b) := box_cell g.1 1 _ rfl
    have r0 : w1.cell? ⟨w.heap.size + 1, 0, none⟩ = some (.int .i64 0) := box_cell g.2.1 0 _ rfl
    have r1 : w1.cell? ⟨w.heap.size + 1, 1, none⟩ = some (.int .i64 0) := box_cell g.2.1 1 _ rfl
    have y0 : w1.frozen? ⟨w.heap.size + 1, 0, none⟩ = false := frozen_of_row w1 _ 0 _ _ g.2.1
    have y1 : w1.frozen? ⟨w.heap.size + 1, 1, none⟩ = false := frozen_of_row w1 _ 1 _ _ g.2.1
    have l0 := World.block_lt_of_cell? _ _ c0
    have l1 := World.block_lt_of_cell? _ _ r0
    have HB := Lib.hid g.2.2
    clear hb g
    go_wp2_with fail
    refine (implOk_any N b _).mono ?_
    rw [hok]
    rintro e w2 ⟨rfl, hb2⟩
    have g2 := box1 hb2
    have d0 : w2.cell? ⟨w1.heap.size, 0, none⟩ = some (.int .i64 N) := box_cell g2.1 0 _ rfl
    have d1 : w2.cell? ⟨w1.heap.size, 1, none⟩ = some (.int .i64 (varN N K : Nat)) := box_cell g2.1 1 _ rfl
    have l2 := World.block_lt_of_cell? _ _ d0
    replace y0 := keepF g2.2 r0 y0
    replace y1 := keepF g2.2 r1 y1
    replace c0 := keep g2.2 c0
    replace c1 := keep g2.2 c1
    replace r0 := keep g2.2 r0
    replace r1 := keep g2.2 r1
    replace l0 := World.block_lt_of_cell? _ _ c0
    replace l1 := World.block_lt_of_cell? _ _ r0
    replace HB := Lib.hid (bThen HB.out g2.2)
    clear hb2 g2
    go_wp2
    ((try simp only [Exit.inBlock, Exit.then]); refine bodyPost_ret (v := (.agg #[.int .i64 0, .int .i64 0])) (by rw [results_cell1 rfl]; go_simp) rfl ?_)
    have hB := HB.out
    exact ⟨rfl, by (repeat' (first | assumption | exact Below.refl _ _ | refine bDrewN ?_ _ | refine Below.drew ?_ | refine bAlloc ?_ (Nat.le_refl _) _ | refine bSet ?_ (by first | exact Nat.le_refl _ | omega | (simp <;> omega)) _))⟩

set_option maxHeartbeats 3200000 in
theorem implCof_true (N B K : Nat) (w : World) (hI : InB w) (hN : N ≤ 4) (hK : K < N) (hB1 : B ≤ maskN N) (hB2 : B ≤ 65535) (hok : okB N B = true) :
    Calls Tryd.prog 13 #[T N B, .int .i64 K, .bool true] w fun e w' => e = .returned (cofT N B K true) ∧ Below w.heap.size w w' := by
    rw [cofT_yes N B K _ hok hK]
    unfold T
    have hB3 := ok_lt hB1
    have hv := varN_le N K hN
    have h8 := shl_le N K hN hK
    obtain ⟨D, hD⟩ : ∃ D, D = 2 ^ K := ⟨_, rfl⟩
    have e1 : wrap64 (2 ^ K) = ((D : Nat) : Int) := by rw [hD]; exact shl_oneK K (by omega)
    rw [← hD] at h8
    go_enter Tryd.func13, Tryd.ntmps13
    go_wp2_with fail
    refine (implVar_any N K _ (hI.keep (by (repeat' (first | assumption | exact Below.refl _ _ | refine bDrewN ?_ _ | refine Below.drew ?_ | refine bAlloc ?_ (Nat.le_refl _) _ | refine bSet ?_ (by first | exact Nat.le_refl _ | omega | (simp <;> omega)) _))))).mono ?_
    rw [varT_yes N K hN hK]
    rintro e w1 ⟨rfl, hb⟩

    have g := box2 hb
    have c0 : w1.cell? ⟨w.heap.size, 0, none⟩ = some (.int .i64 N) := box_cell g.1 0 _ rfl
    have c1 : w1.cell? ⟨w.heap.size, 1, none⟩ = some (.int .i64 B) := box_cell g.1 1 _ rfl
    have r0 : w1.cell? ⟨w.heap.size + 1, 0, none⟩ = some (.int .i64 0) := box_cell g.2.1 0 _ rfl
    have r1 : w1.cell? ⟨w.heap.size + 1, 1, none⟩ = some (.int .i64 0) := box_cell g.2.1 1 _ rfl
    have y0 : w1.frozen? ⟨w.heap.size + 1, 0, none⟩ = false := frozen_of_row w1 _ 0 _ _ g.2.1
    have y1 : w1.frozen? ⟨w.heap.size + 1, 1, none⟩ = false := frozen_of_row w1 _ 1 _ _ g.2.1
    have l0 := World.block_lt_of_cell? _ _ c0
    have l1 := World.block_lt_of_cell? _ _ r0
    have HB := Lib.hid g.2.2
    clear hb g
    go_wp2_with fail
    refine (implOk_any N B _).mono ?_
    rw [hok]
    rintro e w2 ⟨rfl, hb2⟩
    have g2 := box1 hb2
    have d0 : w2.cell? ⟨w1.heap.size, 0, none⟩ = some (.int .i64 N) := box_cell g2.1 0 _ rfl
    have d1 : w2.cell? ⟨w1.heap.size, 1, none⟩ = some (.int .i64 (varN N K : Nat)) := box_cell g2.1 1 _ rfl
    have l2 := World.block_lt_of_cell? _ _ d0
    replace y0 := keepF g2.2 r0 y0
    replace y1 := keepF g2.2 r1 y1
    replace c0 := keep g2.2 c0
    replace c1 := keep g2.2 c1
    replace r0 := keep g2.2 r0
    replace r1 := keep g2.2 r1
    replace l0 := World.block_lt_of_cell? _ _ c0
    replace l1 := World.block_lt_of_cell? _ _ r0
    replace HB := Lib.hid (bThen HB.out g2.2)
    clear hb2 g2
    have hx : B &&& varN N K ≤ B := Nat.and_le_left
    have ev0 : bits .and .i64 (B : Int) (varN N K) = ((B &&& varN N K : Nat) : Int) := i64_and _ _ (by omega) (by omega)
    have ev1 : bits .or .i64 ((B &&& varN N K : Nat) : Int) (((B &&& varN N K : Nat) : Int) / 2 ^ D) = ((cofN N B K true : Nat) : Int) := by
      have hs := shr64 (B &&& varN N K) D (by omega)
      rw [Int.toNat_natCast, Nat.min_eq_left (by omega)] at hs
      rw [hs, i64_or _ _ (by omega) (by have := Nat.shiftRight_le (B &&& varN N K) D; omega), hD, cof_true N B K hN hK hB3]
    have HD := Lib.hid hD
    clear hD
    go_wp2
    go_region_law (fail)
    all_goals go_wp2
    all_goals ((try simp only [Exit.inBlock, Exit.then]); refine bodyPost_ret (v := (.agg #[.int .i64 N, .int .i64 (cofN N B K true : Nat)])) (by rw [results_cell1 rfl]; go_simp) rfl ?_)
    all_goals
      have hB := HB.out
      exact ⟨rfl, by (repeat' (first | assumption | exact Below.refl _ _ | refine bDrewN ?_ _ | refine Below.drew ?_ | refine bAlloc ?_ (Nat.le_refl _) _ | refine bSet ?_ (by first | exact Nat.le_refl _ | omega | (simp <;> omega)) _))⟩

set_option maxHeartbeats 3200000 in
theorem implCof_false (N B K : Nat) (w : World) (hI : InB w) (hN : N ≤ 4) (hK : K < N) (hB1 : B ≤ maskN N) (hB2 : B ≤ 65535) (hok : okB N B = true) :
    Calls Tryd.prog 13 #[T N B, .int .i64 K, .bool false] w fun e w' => e = .returned (cofT N B K false) ∧ Below w.heap.size w w' := by
    rw [cofT_yes N B K _ hok hK]
    unfold T
    have hB3 := ok_lt hB1
    have hv := varN_le N K hN
    have h8 := shl_le N K hN hK
    obtain ⟨D, hD⟩ : ∃ D, D = 2 ^ K := ⟨_, rfl⟩
    have e1 : wrap64 (2 ^ K) = ((D : Nat) : Int) := by rw [hD]; exact shl_oneK K (by omega)
    rw [← hD] at h8
    go_enter Tryd.func13, Tryd.ntmps13
    go_wp2_with fail
    refine (implVar_any N K _ (hI.keep (by (repeat' (first | assumption | exact Below.refl _ _ | refine bDrewN ?_ _ | refine Below.drew ?_ | refine bAlloc ?_ (Nat.le_refl _) _ | refine bSet ?_ (by first | exact Nat.le_refl _ | omega | (simp <;> omega)) _))))).mono ?_
    rw [varT_yes N K hN hK]
    rintro e w1 ⟨rfl, hb⟩

    have g := box2 hb
    have c0 : w1.cell? ⟨w.heap.size, 0, none⟩ = some (.int .i64 N) := box_cell g.1 0 _ rfl
    have c1 : w1.cell? ⟨w.heap.size, 1, none⟩ = some (.int .i64 B) := box_cell g.1 1 _ rfl
    have r0 : w1.cell? ⟨w.heap.size + 1, 0, none⟩ = some (.int .i64 0) := box_cell g.2.1 0 _ rfl
    have r1 : w1.cell? ⟨w.heap.size + 1, 1, none⟩ = some (.int .i64 0) := box_cell g.2.1 1 _ rfl
    have y0 : w1.frozen? ⟨w.heap.size + 1, 0, none⟩ = false := frozen_of_row w1 _ 0 _ _ g.2.1
    have y1 : w1.frozen? ⟨w.heap.size + 1, 1, none⟩ = false := frozen_of_row w1 _ 1 _ _ g.2.1
    have l0 := World.block_lt_of_cell? _ _ c0
    have l1 := World.block_lt_of_cell? _ _ r0
    have HB := Lib.hid g.2.2
    clear hb g
    go_wp2_with fail
    refine (implOk_any N B _).mono ?_
    rw [hok]
    rintro e w2 ⟨rfl, hb2⟩
    have g2 := box1 hb2
    have d0 : w2.cell? ⟨w1.heap.size, 0, none⟩ = some (.int .i64 N) := box_cell g2.1 0 _ rfl
    have d1 : w2.cell? ⟨w1.heap.size, 1, none⟩ = some (.int .i64 (varN N K : Nat)) := box_cell g2.1 1 _ rfl
    have l2 := World.block_lt_of_cell? _ _ d0
    replace y0 := keepF g2.2 r0 y0
    replace y1 := keepF g2.2 r1 y1
    replace c0 := keep g2.2 c0
    replace c1 := keep g2.2 c1
    replace r0 := keep g2.2 r0
    replace r1 := keep g2.2 r1
    replace l0 := World.block_lt_of_cell? _ _ c0
    replace l1 := World.block_lt_of_cell? _ _ r0
    replace HB := Lib.hid (bThen HB.out g2.2)
    clear hb2 g2
    have hx : andNot B (varN N K) ≤ B := andNot_le _ _
    have ev0 : bits .andNot .i64 (B : Int) (varN N K) = ((andNot B (varN N K) : Nat) : Int) := i64_andNot _ _ (by omega) (by omega)
    obtain ⟨S, hS⟩ : ∃ S, S = andNot B (varN N K) <<< D := ⟨_, rfl⟩
    have hy : S ≤ 65535 * 256 := by
      rw [hS, Nat.shiftLeft_eq]
      exact Nat.mul_le_mul (by omega) (Nat.le_trans (Nat.pow_le_pow_right (by omega) h8) (by decide))
    have ev1 : IntKind.i64.wrap (((andNot B (varN N K) : Nat) : Int) * 2 ^ D) = ((S : Nat) : Int) := by
      have hs := shl64 (andNot B (varN N K)) D (by omega)
      rw [Int.toNat_natCast, Nat.min_eq_left (by omega)] at hs
      rw [hs, ← hS, wrap64_small _ (by omega)]
    have ev2 : bits .or .i64 ((andNot B (varN N K) : Nat) : Int) ((S : Nat) : Int) = ((cofN N B K false : Nat) : Int) := by
      rw [i64_or _ _ (by omega) (by omega), hS, hD, cof_false N B K hN hK hB3]
    clear hS
    have HD := Lib.hid hD
    clear hD
    go_wp2
    go_region_law (fail)
    all_goals go_wp2
    all_goals ((try simp only [Exit.inBlock, Exit.then]); refine bodyPost_ret (v := (.agg #[.int .i64 N, .int .i64 (cofN N B K false : Nat)])) (by rw [results_cell1 rfl]; go_simp) rfl ?_)
    all_goals
      have hB := HB.out
      exact ⟨rfl, by (repeat' (first | assumption | exact Below.refl _ _ | refine bDrewN ?_ _ | refine Below.drew ?_ | refine bAlloc ?_ (Nat.le_refl _) _ | refine bSet ?_ (by first | exact Nat.le_refl _ | omega | (simp <;> omega)) _))⟩

theorem implCof_any (n b k : Int) (v : Bool) (w : World) (hI : InB w) :
    Calls Tryd.prog 13 #[T n b, .int .i64 k, .bool v] w fun e w' => e = .returned (cofT n b k v) ∧ Below w.heap.size w w' := by
  by_cases h : 0 ≤ n ∧ n ≤ 4 ∧ 0 ≤ k ∧ k < n
  · obtain ⟨N, rfl⟩ := Int.eq_ofNat_of_zero_le h.1
    obtain ⟨K, rfl⟩ := Int.eq_ofNat_of_zero_le h.2.2.1
    cases hok : okB N b
    · exact implCof_bad N K b v w hI (by omega) (by omega) hok
    · obtain ⟨N', B, hN', rfl, hN, hB1, hB2⟩ := okB_out hok
      obtain rfl : N = N' := by omega
      cases v
      · exact implCof_false N B K w hI hN (by omega) hB1 hB2 hok
      · exact implCof_true N B K w hI hN (by omega) hB1 hB2 hok
  · exact implCof_no n b k v w hI h

theorem bit_and1' (B I : Nat) (hB : B ≤ 65535) (hI : I ≤ 64) : bits .and .i64 ((B : Int) / 2 ^ I) 1 = ((B.testBit I).toNat : Int) := by
  have := shr64 B I hI
  rw [Int.toNat_natCast, Nat.min_eq_left hI] at this
  rw [this, show (1 : Int) = ((1 : Nat) : Int) from rfl, i64_and _ _ (by have := Nat.shiftRight_le B I; omega) (by omega), bit01]


set_option maxHeartbeats 3200000 in
theorem specCof_no1 (n b k : Int) (v : Bool) (w : World) (hok : okB n b = false) :
    Calls Tryd.prog 25 #[T n b, .int .i64 k, .bool v] w fun e w' => e = .returned (cofT n b k v) ∧ Below w.heap.size w w' := by
    rw [cofT_no (by rw [hok]; simp)]
    unfold T
    go_enter Tryd.func25, Tryd.ntmps25
    go_wp2_with fail
    refine (specOk_any n b _).mono ?_
    rw [hok]
    rintro e w1 ⟨rfl, hb⟩

    have g := box2 hb
    have c0 : w1.cell? ⟨w.heap.size, 0, none⟩ = some (.int .i64 n) := box_cell g.1 0 _ rfl
    have c1 : w1.cell? ⟨w.heap.size, 1, none⟩ = some (.int .i64 b) := box_cell g.1 1 _ rfl
    have r0 : w1.cell? ⟨w.heap.size + 1, 0, none⟩ = some (.int .i64 0) := box_cell g.2.1 0 _ rfl
    have r1 : w1.cell? ⟨w.heap.size + 1, 1, none⟩ = some (.int .i64 0) := box_cell g.2.1 1 _ rfl
    have y0 : w1.frozen? ⟨w.heap.size + 1, 0, none⟩ = false := frozen_of_row w1 _ 0 _ _ g.2.1
    have y1 : w1.frozen? ⟨w.heap.size + 1, 1, none⟩ = false := frozen_of_row w1 _ 1 _ _ g.2.1
    have l0 := World.block_lt_of_cell? _ _ c0
    have l1 := World.block_lt_of_cell? _ _ r0
    have HB := Lib.hid g.2.2
    clear hb g
    go_wp2
    ((try simp only [Exit.inBlock, Exit.then]); refine bodyPost_ret (v := (.agg #[.int .i64 0, .int .i64 0])) (by rw [results_cell1 rfl]; go_simp) rfl ?_)
    have hB := HB.out
    exact ⟨rfl, by (repeat' (first | assumption | exact Below.refl _ _ | refine bDrewN ?_ _ | refine Below.drew ?_ | refine bAlloc ?_ (Nat.le_refl _) _ | refine bSet ?_ (by first | exact Nat.le_refl _ | omega | (simp <;> omega)) _))⟩

set_option maxHeartbeats 3200000 in
theorem specCof_no2 (n b k : Int) (v : Bool) (w : World) (hok : okB n b = true) (hk : k < 0) :
    Calls Tryd.prog 25 #[T n b, .int .i64 k, .bool v] w fun e w' => e = .returned (cofT n b k v) ∧ Below w.heap.size w w' := by
    rw [cofT_no (by omega)]
    unfold T
    go_enter Tryd.func25, Tryd.ntmps25
    go_wp2_with fail
    refine (specOk_any n b _).mono ?_
    rw [hok]
    rintro e w1 ⟨rfl, hb⟩

    have g := box2 hb
    have c0 : w1.cell? ⟨w.heap.size, 0, none⟩ = some (.int .i64 n) := box_cell g.1 0 _ rfl
    have c1 : w1.cell? ⟨w.heap.size, 1, none⟩ = some (.int .i64 b) := box_cell g.1 1 _ rfl
    have r0 : w1.cell? ⟨w.heap.size + 1, 0, none⟩ = some (.int .i64 0) := box_cell g.2.1 0 _ rfl
    have r1 : w1.cell? ⟨w.heap.size + 1, 1, none⟩ = some (.int .i64 0) := box_cell g.2.1 1 _ rfl
    have y0 : w1.frozen? ⟨w.heap.size + 1, 0, none⟩ = false := frozen_of_row w1 _ 0 _ _ g.2.1
    have y1 : w1.frozen? ⟨w.heap.size + 1, 1, none⟩ = false := frozen_of_row w1 _ 1 _ _ g.2.1
    have l0 := World.block_lt_of_cell? _ _ c0
    have l1 := World.block_lt_of_cell? _ _ r0
    have HB := Lib.hid g.2.2
    clear hb g
    go_wp2
    ((try simp only [Exit.inBlock, Exit.then]); refine bodyPost_ret (v := (.agg #[.int .i64 0, .int .i64 0])) (by rw [results_cell1 rfl]; go_simp) rfl ?_)
    have hB := HB.out
    exact ⟨rfl, by (repeat' (first | assumption | exact Below.refl _ _ | refine bDrewN ?_ _ | refine Below.drew ?_ | refine bAlloc ?_ (Nat.le_refl _) _ | refine bSet ?_ (by first | exact Nat.le_refl _ | omega | (simp <;> omega)) _))⟩

set_option maxHeartbeats 3200000 in
theorem specCof_no3 (n b k : Int) (v : Bool) (w : World) (hok : okB n b = true) (hk : ¬ k < 0) (hk2 : ¬ k < n) :
    Calls Tryd.prog 25 #[T n b, .int .i64 k, .bool v] w fun e w' => e = .returned (cofT n b k v) ∧ Below w.heap.size w w' := by
    rw [cofT_no (by omega)]
    unfold T
    go_enter Tryd.func25, Tryd.ntmps25
    go_wp2_with fail
    refine (specOk_any n b _).mono ?_
    rw [hok]
    rintro e w1 ⟨rfl, hb⟩

    have g := box2 hb
    have c0 : w1.cell? ⟨w.heap.size, 0, none⟩ = some (.int .i64 n) := box_cell g.1 0 _ rfl
    have c1 : w1.cell? ⟨w.heap.size, 1, none⟩ = some (.int .i64 b) := box_cell g.1 1 _ rfl
    have r0 : w1.cell? ⟨w.heap.size + 1, 0, none⟩ = some (.int .i64 0) := box_cell g.2.1 0 _ rfl
    have r1 : w1.cell? ⟨w.heap.size + 1, 1, none⟩ = some (.int .i64 0) := box_cell g.2.1 1 _ rfl
    have y0 : w1.frozen? ⟨w.heap.size + 1, 0, none⟩ = false := frozen_of_row w1 _ 0 _ _ g.2.1
    have y1 : w1.frozen? ⟨w.heap.size + 1, 1, none⟩ = false := frozen_of_row w1 _ 1 _ _ g.2.1
    have l0 := World.block_lt_of_cell? _ _ c0
    have l1 := World.block_lt_of_cell? _ _ r0
    have HB := Lib.hid g.2.2
    clear hb g
    go_wp2
    ((try simp only [Exit.inBlock, Exit.then]); refine bodyPost_ret (v := (.agg #[.int .i64 0, .int .i64 0])) (by rw [results_cell1 rfl]; go_simp) rfl ?_)
    have hB := HB.out
    exact ⟨rfl, by (repeat' (first | assumption | exact Below.refl _ _ | refine bDrewN ?_ _ | refine Below.drew ?_ | refine bAlloc ?_ (Nat.le_refl _) _ | refine bSet ?_ (by first | exact Nat.le_refl _ | omega | (simp <;> omega)) _))⟩

set_option maxHeartbeats 6400000 in
theorem specCof_true (N B K : Nat) (w : World) (hN : N ≤ 4) (hK : K < N) (hB1 : B ≤ maskN N) (hB2 : B ≤ 65535) (hok : okB N B = true) :
    Calls Tryd.prog 25 #[T N B, .int .i64 K, .bool true] w fun e w' => e = .returned (cofT N B K true) ∧ Below w.heap.size w w' := by
    rw [cofT_yes N B K _ hok hK]
    unfold T
    have h16 := pow16 N hN
    have h8 := shl_le N K hN hK
    obtain ⟨D, hD⟩ : ∃ D, D = 2 ^ K := ⟨_, rfl⟩
    have e1 : wrap64 (2 ^ K) = ((D : Nat) : Int) := by rw [hD]; exact shl_oneK K (by omega)
    rw [← hD] at h8
    have e2 := shl_one N hN
    have i3 : ¬ (K : Int) < 0 := by omega
    have i4 : ¬ (N : Int) ≤ K := by omega
    have HD := Lib.hid hD
    clear hD
    go_enter Tryd.func25, Tryd.ntmps25
    go_wp2_with fail
    refine (specOk_any N B _).mono ?_
    rw [hok]
    rintro e w1 ⟨rfl, hb⟩
    have g0 := (box2 hb).1
    have g1 := (box2 hb).2.1

    have g := box2 hb
    have c0 : w1.cell? ⟨w.heap.size, 0, none⟩ = some (.int .i64 N) := box_cell g.1 0 _ rfl
    have c1 : w1.cell? ⟨w.heap.size, 1, none⟩ = some (.int .i64 B) := box_cell g.1 1 _ rfl
    have r0 : w1.cell? ⟨w.heap.size + 1, 0, none⟩ = some (.int .i64 0) := box_cell g.2.1 0 _ rfl
    have r1 : w1.cell? ⟨w.heap.size + 1, 1, none⟩ = some (.int .i64 0) := box_cell g.2.1 1 _ rfl
    have y0 : w1.frozen? ⟨w.heap.size + 1, 0, none⟩ = false := frozen_of_row w1 _ 0 _ _ g.2.1
    have y1 : w1.frozen? ⟨w.heap.size + 1, 1, none⟩ = false := frozen_of_row w1 _ 1 _ _ g.2.1
    have l0 := World.block_lt_of_cell? _ _ c0
    have l1 := World.block_lt_of_cell? _ _ r0
    have HB := Lib.hid g.2.2
    clear hb g
    have G0 := Lib.hid g0
    have G1 := Lib.hid g1
    clear g0 g1
    go_wp2
    have q3 : decide ((K : Int) < 0) = false := decide_eq_false (by omega)
    have q4 : decide (N ≤ K) = false := decide_eq_false (by omega)
    simp only [q3, q4, Bool.or_false, Bool.or_self]
    clear q3 q4
    have b0 : Below w.heap.size w (w1.alloc (.cells #[.int .i64 N, .int .i64 0] 25)) := by have hB := HB.out; (repeat' (first | assumption | exact Below.refl _ _ | refine bDrewN ?_ _ | refine Below.drew ?_ | refine bAlloc ?_ (Nat.le_refl _) _ | refine bSet ?_ (by first | exact Nat.le_refl _ | omega | (simp <;> omega)) _))
    have a0 := (heap_alloc_old (w := w1) (.cells #[.int .i64 N, .int .i64 0] 25) l0).trans G0.out
    have a1 := (heap_alloc_old (w := w1) (.cells #[.int .i64 N, .int .i64 0] 25) l1).trans G1.out
    have a2 := heap_alloc_new w1 (.cells #[.int .i64 N, .int .i64 0] 25)
    have m0 := l0
    have m1 := l1
    have m2 := HB.out.size
    clear c0 c1 r0 r1 y0 y1 l0 l1 G0 G1
    go_loopw [8, 9] (fun v j wr => ∃ i : Nat, v = .int .i64 i ∧ i ≤ 2 ^ N ∧ wr.heap[w.heap.size]? = some (.cells #[.int .i64 N, .int .i64 B] 25 (0, 0)) ∧
        wr.heap[w.heap.size + 1]? = some (.cells #[.int .i64 0, .int .i64 0] 25 (0, 0)) ∧
        wr.heap[w1.heap.size]? = some (.cells #[.int .i64 N, .int .i64 (mkB (fun i => B.testBit (setK K true i)) i : Nat)] 25 (0, 0)) ∧ Below w.heap.size w wr)
      (fun v _ _ => 2 ^ N - (intOf v).toNat)
    case atStart => exact ⟨0, rfl, Nat.zero_le _, a0, a1, a2, b0⟩
    case round =>
      obtain ⟨i, rfl, hi, ht, hr, ho, hb⟩ := hrel
      clear a0 a1 a2 b0
      have c0 : wr.cell? ⟨w.heap.size, 0, none⟩ = some (.int .i64 N) := box_cell ht 0 _ rfl
      have c1 : wr.cell? ⟨w.heap.size, 1, none⟩ = some (.int .i64 B) := box_cell ht 1 _ rfl
      have o0 : wr.cell? ⟨w1.heap.size, 0, none⟩ = some (.int .i64 N) := box_cell ho 0 _ rfl
      have o1 : wr.cell? ⟨w1.heap.size, 1, none⟩ = some (.int .i64 (mkB (fun i => B.testBit (setK K true i)) i : Nat)) := box_cell ho 1 _ rfl
      have z1 : wr.frozen? ⟨w1.heap.size, 1, none⟩ = false := frozen_of_row wr _ 1 _ _ ho
      have r0 : wr.cell? ⟨w.heap.size + 1, 0, none⟩ = some (.int .i64 0) := box_cell hr 0 _ rfl
      have r1 : wr.cell? ⟨w.heap.size + 1, 1, none⟩ = some (.int .i64 0) := box_cell hr 1 _ rfl
      have y0 : wr.frozen? ⟨w.heap.size + 1, 0, none⟩ = false := frozen_of_row wr _ 0 _ _ hr
      have y1 : wr.frozen? ⟨w.heap.size + 1, 1, none⟩ = false := frozen_of_row wr _ 1 _ _ hr
      have HT := Lib.hid ht
      have HO := Lib.hid ho
      have HR := Lib.hid hr
      have HB2 := Lib.hid hb
      clear ht hr ho hb
      by_cases hlt : i < 2 ^ N
      · have t1 : (i : Int) < 2 ^ N := by rw [pow_cast]; omega
        obtain ⟨J, hJ⟩ : ∃ J, J = andNot i D := ⟨_, rfl⟩
        have hJi : J ≤ i := by rw [hJ]; exact andNot_le _ _
        have v1 : bits .andNot .i64 (i : Int) (D : Int) = ((J : Nat) : Int) := by rw [i64_andNot _ _ (by omega) (by omega), ← hJ]
        obtain ⟨J2, hJ2⟩ : ∃ J2, J2 = J + D := ⟨_, rfl⟩
        have v2 : (J : Int) + (D : Int) = ((J2 : Nat) : Int) := by omega
        have b2 : J2 ≤ 24 := by omega
        have v3 : bits .and .i64 ((B : Int) / 2 ^ (J2)) 1 = ((B.testBit (setK K true i)).toNat : Int) := by
          rw [bit_and1' B (J2) hB2 (by omega)]
          have : setK K true i = J2 := by unfold setK; simp only [hJ2, hJ, HD.out]; simp
          rw [this]
        have ev2 := step_bits (fun i => B.testBit (setK K true i)) i (2 ^ N) hlt h16 _ rfl
        have hm := mkB_le (fun i => B.testBit (setK K true i)) i (by omega)
        clear hJ hJ2
        go_wp2
        go_region_law (fail)
        all_goals go_wp2
        all_goals go_roundw
        all_goals first
          | exact ⟨i + 1, by go_num, by omega, (Below.heap_setCell wr _ _ w.heap.size (by simp <;> omega)).trans HT.out, (Below.heap_setCell wr _ _ (w.heap.size + 1) (by simp <;> omega)).trans HR.out, heap_setCell_same wr _ 1 _ _ _ HO.out, by have hB := HB2.out; (repeat' (first | assumption | exact Below.refl _ _ | refine bDrewN ?_ _ | refine Below.drew ?_ | refine bAlloc ?_ (Nat.le_refl _) _ | refine bSet ?_ (by first | exact Nat.le_refl _ | omega | (simp <;> omega)) _))⟩
          | (simp [intOf]; omega)
      · have t1 : ¬ (i : Int) < 2 ^ N := by rw [pow_cast]; omega
        obtain rfl : i = 2 ^ N := by omega
        go_wp2
        ((try simp only [Exit.inBlock, Exit.then]); refine bodyPost_ret (v := (.agg #[.int .i64 N, .int .i64 (mkB (fun i => B.testBit (setK K true i)) (2 ^ N) : Nat)])) (by rw [results_cell1 rfl]; go_simp) rfl ?_)
        have hB := HB2.out
        exact ⟨rfl, by (repeat' (first | assumption | exact Below.refl _ _ | refine bDrewN ?_ _ | refine Below.drew ?_ | refine bAlloc ?_ (Nat.le_refl _) _ | refine bSet ?_ (by first | exact Nat.le_refl _ | omega | (simp <;> omega)) _))⟩

set_option maxHeartbeats 6400000 in
theorem specCof_false (N B K : Nat) (w : World) (hN : N ≤ 4) (hK : K < N) (hB1 : B ≤ maskN N) (hB2 : B ≤ 65535) (hok : okB N B = true) :
    Calls Tryd.prog 25 #[T N B, .int .i64 K, .bool false] w fun e w' => e = .returned (cofT N B K false) ∧ Below w.heap.size w w' := by
    rw [cofT_yes N B K _ hok hK]
    unfold T
    have h16 := pow16 N hN
    have h8 := shl_le N K hN hK
    obtain ⟨D, hD⟩ : ∃ D, D = 2 ^ K := ⟨_, rfl⟩
    have e1 : wrap64 (2 ^ K) = ((D : Nat) : Int) := by rw [hD]; exact shl_oneK K (by omega)
    rw [← hD] at h8
    have e2 := shl_one N hN
    have i3 : ¬ (K : Int) < 0 := by omega
    have i4 : ¬ (N : Int) ≤ K := by omega
    have HD := Lib.hid hD
    clear hD
    go_enter Tryd.func25, Tryd.ntmps25
    go_wp2_with fail
    refine (specOk_any N B _).mono ?_
    rw [hok]
    rintro e w1 ⟨rfl, hb⟩
    have g0 := (box2 hb).1
    have g1 := (box2 hb).2.1

    have g := box2 hb
    have c0 : w1.cell? ⟨w.heap.size, 0, none⟩ = some (.int .i64 N) := box_cell g.1 0 _ rfl
    have c1 : w1.cell? ⟨w.heap.size, 1, none⟩ = some (.int .i64 B) := box_cell g.1 1 _ rfl
    have r0 : w1.cell? ⟨w.heap.size + 1, 0, none⟩ = some (.int .i64 0) := box_cell g.2.1 0 _ rfl
    have r1 : w1.cell? ⟨w.heap.size + 1, 1, none⟩ = some (.int .i64 0) := box_cell g.2.1 1 _ rfl
    have y0 : w1.frozen? ⟨w.heap.size + 1, 0, none⟩ = false := frozen_of_row w1 _ 0 _ _ g.2.1
    have y1 : w1.frozen? ⟨w.heap.size + 1, 1, none⟩ = false := frozen_of_row w1 _ 1 _ _ g.2.1
    have l0 := World.block_lt_of_cell? _ _ c0
    have l1 := World.block_lt_of_cell? _ _ r0
    have HB := Lib.hid g.2.2
    clear hb g
    have G0 := Lib.hid g0
    have G1 := Lib.hid g1
    clear g0 g1
    go_wp2
    have q3 : decide ((K : Int) < 0) = false := decide_eq_false (by omega)
    have q4 : decide (N ≤ K) = false := decide_eq_false (by omega)
    simp only [q3, q4, Bool.or_false, Bool.or_self]
    clear q3 q4
    have b0 : Below w.heap.size w (w1.alloc (.cells #[.int .i64 N, .int .i64 0] 25)) := by have hB := HB.out; (repeat' (first | assumption | exact Below.refl _ _ | refine bDrewN ?_ _ | refine Below.drew ?_ | refine bAlloc ?_ (Nat.le_refl _) _ | refine bSet ?_ (by first | exact Nat.le_refl _ | omega | (simp <;> omega)) _))
    have a0 := (heap_alloc_old (w := w1) (.cells #[.int .i64 N, .int .i64 0] 25) l0).trans G0.out
    have a1 := (heap_alloc_old (w := w1) (.cells #[.int .i64 N, .int .i64 0] 25) l1).trans G1.out
    have a2 := heap_alloc_new w1 (.cells #[.int .i64 N, .int .i64 0] 25)
    have m0 := l0
    have m1 := l1
    have m2 := HB.out.size
    clear c0 c1 r0 r1 y0 y1 l0 l1 G0 G1
    go_loopw [8, 9] (fun v j wr => ∃ i : Nat, v = .int .i64 i ∧ i ≤ 2 ^ N ∧ wr.heap[w.heap.size]? = some (.cells #[.int .i64 N, .int .i64 B] 25 (0, 0)) ∧
        wr.heap[w.heap.size + 1]? = some (.cells #[.int .i64 0, .int .i64 0] 25 (0, 0)) ∧
        wr.heap[w1.heap.size]? = some (.cells #[.int .i64 N, .int .i64 (mkB (fun i => B.testBit (setK K false i)) i : Nat)] 25 (0, 0)) ∧ Below w.heap.size w wr)
      (fun v _ _ => 2 ^ N - (intOf v).toNat)
    case atStart => exact ⟨0, rfl, Nat.zero_le _, a0, a1, a2, b0⟩
    case round =>
      obtain ⟨i, rfl, hi, ht, hr, ho, hb⟩ := hrel
      clear a0 a1 a2 b0
      have c0 : wr.cell? ⟨w.heap.size, 0, none⟩ = some (.int .i64 N) := box_cell ht 0 _ rfl
      have c1 : wr.cell? ⟨w.heap.size, 1, none⟩ = some (.int .i64 B) := box_cell ht 1 _ rfl
      have o0 : wr.cell? ⟨w1.heap.size, 0, none⟩ = some (.int .i64 N) := box_cell ho 0 _ rfl
      have o1 : wr.cell? ⟨w1.heap.size, 1, none⟩ = some (.int .i64 (mkB (fun i => B.testBit (setK K false i)) i : Nat)) := box_cell ho 1 _ rfl
      have z1 : wr.frozen? ⟨w1.heap.size, 1, none⟩ = false := frozen_of_row wr _ 1 _ _ ho
      have r0 : wr.cell? ⟨w.heap.size + 1, 0, none⟩ = some (.int .i64 0) := box_cell hr 0 _ rfl
      have r1 : wr.cell? ⟨w.heap.size + 1, 1, none⟩ = some (.int .i64 0) := box_cell hr 1 _ rfl
      have y0 : wr.frozen? ⟨w.heap.size + 1, 0, none⟩ = false := frozen_of_row wr _ 0 _ _ hr
      have y1 : wr.frozen? ⟨w.heap.size + 1, 1, none⟩ = false := frozen_of_row wr _ 1 _ _ hr
      have HT := Lib.hid ht
      have HO := Lib.hid ho
      have HR := Lib.hid hr
      have HB2 := Lib.hid hb
      clear ht hr ho hb
      by_cases hlt : i < 2 ^ N
      · have t1 : (i : Int) < 2 ^ N := by rw [pow_cast]; omega
        obtain ⟨J, hJ⟩ : ∃ J, J = andNot i D := ⟨_, rfl⟩
        have hJi : J ≤ i := by rw [hJ]; exact andNot_le _ _
        have v1 : bits .andNot .i64 (i : Int) (D : Int) = ((J : Nat) : Int) := by rw [i64_andNot _ _ (by omega) (by omega), ← hJ]
        obtain ⟨J2, hJ2⟩ : ∃ J2, J2 = J + D := ⟨_, rfl⟩
        have v2 : (J : Int) + (D : Int) = ((J2 : Nat) : Int) := by omega
        have b2 : J2 ≤ 24 := by omega
        have v3 : bits .and .i64 ((B : Int) / 2 ^ (J)) 1 = ((B.testBit (setK K false i)).toNat : Int) := by
          rw [bit_and1' B (J) hB2 (by omega)]
          have : setK K false i = J := by unfold setK; simp only [hJ2, hJ, HD.out]; simp
          rw [this]
        have ev2 := step_bits (fun i => B.testBit (setK K false i)) i (2 ^ N) hlt h16 _ rfl
        have hm := mkB_le (fun i => B.testBit (setK K false i)) i (by omega)
        clear hJ hJ2
        go_wp2
        go_region_law (fail)
        all_goals go_wp2
        all_goals go_roundw
        all_goals first
          | exact ⟨i + 1, by go_num, by omega, (Below.heap_setCell wr _ _ w.heap.size (by simp <;> omega)).trans HT.out, (Below.heap_setCell wr _ _ (w.heap.size + 1) (by simp <;> omega)).trans HR.out, heap_setCell_same wr _ 1 _ _ _ HO.out, by have hB := HB2.out; (repeat' (first | assumption | exact Below.refl _ _ | refine bDrewN ?_ _ | refine Below.drew ?_ | refine bAlloc ?_ (Nat.le_refl _) _ | refine bSet ?_ (by first | exact Nat.le_refl _ | omega | (simp <;> omega)) _))⟩
          | (simp [intOf]; omega)
      · have t1 : ¬ (i : Int) < 2 ^ N := by rw [pow_cast]; omega
        obtain rfl : i = 2 ^ N := by omega
        go_wp2
        ((try simp only [Exit.inBlock, Exit.then]); refine bodyPost_ret (v := (.agg #[.int .i64 N, .int .i64 (mkB (fun i => B.testBit (setK K false i)) (2 ^ N) : Nat)])) (by rw [results_cell1 rfl]; go_simp) rfl ?_)
        have hB := HB2.out
        exact ⟨rfl, by (repeat' (first | assumption | exact Below.refl _ _ | refine bDrewN ?_ _ | refine Below.drew ?_ | refine bAlloc ?_ (Nat.le_refl _) _ | refine bSet ?_ (by first | exact Nat.le_refl _ | omega | (simp <;> omega)) _))⟩

theorem specCof_any (n b k : Int) (v : Bool) (w : World) :
    Calls Tryd.prog 25 #[T n b, .int .i64 k, .bool v] w fun e w' => e = .returned (cofT n b k v) ∧ Below w.heap.size w w' := by
  cases hok : okB n b
  · exact specCof_no1 n b k v w hok
  · by_cases hk : k < 0
    · exact specCof_no2 n b k v w hok hk
    · by_cases hk2 : k < n
      · obtain ⟨N, B, rfl, rfl, hN, hB1, hB2⟩ := okB_out hok
        obtain ⟨K, rfl⟩ := Int.eq_ofNat_of_zero_le (by omega : 0 ≤ k)
        cases v
        · exact specCof_false N B K w hN (by omega) hB1 hB2 hok
        · exact specCof_true N B K w hN (by omega) hB1 hB2 hok
      · exact specCof_no3 n b k v w hok hk hk2
end Go.Proofs.YtiikadlcoijcfaaDoor
