/-
  The program's cubes: validity; does a cube contain an index?
-/
import Derived.Test.YtjibjnkabfmgaaaCubA
import Derived.Test.YtjibjnkabfmgaaaRecs
namespace Go.Proofs.Ytjibjnkabfmgaaa
open Go.RowKit
set_option linter.unusedVariables false
set_option linter.unusedSimpArgs false

/-- A negative value has a bit outside. -/
theorem neg_out (v : Int) (X : Nat) (hv : Fit v) (h : v < 0) (hX : X < 65536) : bits .andNot .i64 v (X : Int) ≠ 0 := by
  unfold Fit at hv
  have hx : (BitVec.ofInt 64 v &&& ~~~BitVec.ofInt 64 (X : Int)).toNat.testBit 63 = true := by
    rw [BitVec.toNat_and, BitVec.toNat_not, ofInt_u64 X (by omega), Nat.testBit_and]
    have e : 2 ^ 64 - 1 - X = 2 ^ 64 - (X + 1) := by omega
    rw [e, Nat.testBit_two_pow_sub_succ (by omega), Nat.testBit_lt_two_pow (Nat.lt_of_lt_of_le hX (by decide))]
    have h1 : (BitVec.ofInt 64 v).toNat = (v + 2 ^ 64).toNat := by
      rw [BitVec.toNat_ofInt]
      congr 1
      omega
    rw [h1]
    have h2 : 2 ^ 63 ≤ (v + 2 ^ 64).toNat := by omega
    have h3 : (v + 2 ^ 64).toNat < 2 ^ 64 := by omega
    have h4 : (v + 2 ^ 64).toNat.testBit 63 = true := by
      rw [Nat.testBit_eq_decide_div_mod_eq]
      exact decide_eq_true (by omega)
    rw [h4]; rfl
  have hlt : (BitVec.ofInt 64 v &&& ~~~BitVec.ofInt 64 (X : Int)).toNat < 2 ^ 64 := BitVec.isLt _
  show IntKind.i64.wrap ((BitVec.ofInt 64 v &&& ~~~BitVec.ofInt 64 (X : Int)).toNat : Int) ≠ 0
  obtain ⟨y, hy⟩ : ∃ y, (BitVec.ofInt 64 v &&& ~~~BitVec.ofInt 64 (X : Int)).toNat = y := ⟨_, rfl⟩
  rw [hy] at hx hlt ⊢
  have hge := Nat.ge_two_pow_of_testBit hx
  rw [IntKind.wrap_i64]; omega
theorem sub_le {V X : Nat} (hV : V < 2 ^ 64) (hX : X < 2 ^ 64) (h : andNot V X = 0) : V ≤ X := by
  have e : V &&& X = V := by
    apply Nat.eq_of_testBit_eq
    intro i
    rw [Nat.testBit_and]
    have := testBit_andNot V X i hV hX
    rw [h, Nat.zero_testBit] at this
    cases h1 : V.testBit i <;> cases h2 : X.testBit i <;> simp_all
  rw [← e]; exact Nat.and_le_right
/-- The value's bits that are not cared for, as the program reckons them. -/
theorem out_bits (v : Int) (N X : Nat) (hN : N ≤ 4) (hX : X < 2 ^ N) (hv : Fit v) : cubeB N X v = decide (bits .andNot .i64 v (X : Int) = 0) := by
  have h16 := pow_le16 N hN
  by_cases h : 0 ≤ v
  · obtain ⟨V, rfl⟩ := Int.eq_ofNat_of_zero_le h
    unfold Fit at hv
    rw [i64_andNot V X (by omega) (by omega)]
    by_cases h2 : V < 2 ^ N
    · rw [cubeB_nat hN hX h2]
      exact decide_eq_decide.2 (by omega)
    · rw [cubeB_no (by rw [Int.toNat_natCast, pow_cast]; omega)]
      refine (decide_eq_false fun h3 => ?_).symm
      have := sub_le (V := V) (X := X) (by omega) (by omega) (by omega)
      omega
  · rw [cubeB_no (by omega)]
    exact (decide_eq_false (neg_out v X hv (by omega) (by omega))).symm

set_option maxHeartbeats 3200000 in
theorem implCube_any (n c v : Int) (w : World) (hv : Fit v) :
    Calls Try.prog 22 #[.int .i64 n, .agg #[.int .i64 c, .int .i64 v]] w fun e w' => e = .returned (.bool (cubeB n c v)) ∧ Below w.heap.size w w' := by
  by_cases h1 : 0 ≤ n
  · by_cases h2 : n ≤ 4
    · obtain ⟨N, rfl⟩ := Int.eq_ofNat_of_zero_le h1
      have hN : N ≤ 4 := by omega
      have h16 := pow_le16 N hN
      obtain ⟨M, hM⟩ : ∃ M : Nat, M = 2 ^ N := ⟨_, rfl⟩
      have e1 : IntKind.i64.wrap ((2 : Int) ^ N) = (M : Int) := by rw [pow_cast, wrap64_small _ (by omega)]; omega
      by_cases h3 : 0 ≤ c
      · obtain ⟨X, rfl⟩ := Int.eq_ofNat_of_zero_le h3
        by_cases h4 : (X : Int) < (M : Int)
        · rw [out_bits v N X hN (by omega) hv]
          obtain ⟨q, hq⟩ : ∃ q, bits .andNot .i64 v (X : Int) = q := ⟨_, rfl⟩
          rw [hq]
          clear hM hv h16
          by_cases hq0 : q = 0
          all_goals
            go_enter Try.func22, Try.ntmps22
            go_wp2
            have t1 : X < M := by omega
            go_quiet (fail)
            go_wp2
            go_ret
            exact ⟨ret_bool (by simp [hq0]), by (repeat' (first | assumption | exact Below.refl _ _ | refine bDrewN ?_ _ | refine Below.drew ?_ | refine bAlloc ?_ (Nat.le_refl _) _ | refine bSet ?_ (by first | exact Nat.le_refl _ | omega | (simp <;> omega)) _))⟩
        · rw [cubeB_no (by rw [Int.toNat_natCast, pow_cast]; omega)]
          clear hM hv h16
          go_enter Try.func22, Try.ntmps22
          go_wp2
          have t1 : ¬ X < M := by omega
          go_quiet (fail)
          go_wp2
          go_ret
          exact ⟨rfl, by (repeat' (first | assumption | exact Below.refl _ _ | refine bDrewN ?_ _ | refine Below.drew ?_ | refine bAlloc ?_ (Nat.le_refl _) _ | refine bSet ?_ (by first | exact Nat.le_refl _ | omega | (simp <;> omega)) _))⟩
      · rw [cubeB_no (by omega)]
        clear hM hv h16
        go_enter Try.func22, Try.ntmps22
        go_wp2
        have t1 : ¬ 0 ≤ c := by omega
        go_quiet (fail)
        go_wp2
        go_ret
        exact ⟨rfl, by (repeat' (first | assumption | exact Below.refl _ _ | refine bDrewN ?_ _ | refine Below.drew ?_ | refine bAlloc ?_ (Nat.le_refl _) _ | refine bSet ?_ (by first | exact Nat.le_refl _ | omega | (simp <;> omega)) _))⟩
    · rw [cubeB_no (by omega)]
      clear hv
      go_enter Try.func22, Try.ntmps22
      go_wp2
      have t1 : ¬ n ≤ 4 := by omega
      go_quiet (fail)
      go_wp2
      go_ret
      exact ⟨rfl, by (repeat' (first | assumption | exact Below.refl _ _ | refine bDrewN ?_ _ | refine Below.drew ?_ | refine bAlloc ?_ (Nat.le_refl _) _ | refine bSet ?_ (by first | exact Nat.le_refl _ | omega | (simp <;> omega)) _))⟩
  · rw [cubeB_no (by omega)]
    clear hv
    go_enter Try.func22, Try.ntmps22
    go_wp2
    have t1 : ¬ 0 ≤ n := by omega
    go_quiet (fail)
    go_wp2
    go_ret
    exact ⟨rfl, by (repeat' (first | assumption | exact Below.refl _ _ | refine bDrewN ?_ _ | refine Below.drew ?_ | refine bAlloc ?_ (Nat.le_refl _) _ | refine bSet ?_ (by first | exact Nat.le_refl _ | omega | (simp <;> omega)) _))⟩
theorem implCube_at (n c v : Int) {d : Bool} (w : World) (hv : Fit v) (h : cubeB n c v = d) :
    Calls Try.prog 22 #[.int .i64 n, .agg #[.int .i64 c, .int .i64 v]] w fun e w' => e = .returned (.bool d) ∧ Below w.heap.size w w' := by
  subst h; exact implCube_any n c v w hv

set_option maxHeartbeats 3200000 in
theorem implHas_any (n c v i : Int) (w : World) (hv : Fit v) :
    Calls Try.prog 17 #[.int .i64 n, .agg #[.int .i64 c, .int .i64 v], .int .i64 i] w fun e w' => e = .returned (.bool (hasB n c v i)) ∧ Below w.heap.size w w' := by
  unfold hasB
  cases hc : cubeB n c v
  · go_enter Try.func17, Try.ntmps17
    go_wp2_with fail
    refine (implCube_at _ _ _ _ hv hc).mono ?_
    rintro e w1 ⟨rfl, hb⟩
    have g := box1 hb
    have c0 : w1.cell? ⟨w.heap.size, 0, none⟩ = some (.int .i64 c) := box_cell g.1 0 _ rfl
    have c1 : w1.cell? ⟨w.heap.size, 1, none⟩ = some (.int .i64 v) := box_cell g.1 1 _ rfl
    have HW := Lib.hid g.2
    clear hb g
    go_wp2
    go_ret
    exact ⟨rfl, HW.out⟩
  · have HC := Lib.hid hc
    obtain ⟨N, X, Y, rfl, rfl, rfl, hN, hX, hY, _⟩ := cubeB_out hc
    replace hc := HC.out
    have h16 := pow_le16 N hN
    obtain ⟨M, hM⟩ : ∃ M : Nat, M = 2 ^ N := ⟨_, rfl⟩
    have e1 : wrap64 ((2 : Int) ^ N) = (M : Int) := by rw [pow_cast, w64_nat _ (by omega)]; omega
    have e4 : (2 : Int) ^ (N : Int).toNat - 1 = (M : Int) - 1 := by rw [Int.toNat_natCast, pow_cast]; omega
    rw [e4]
    clear e4
    by_cases h3 : 0 ≤ i
    · obtain ⟨I, rfl⟩ := Int.eq_ofNat_of_zero_le h3
      by_cases h4 : (I : Int) < (M : Int)
      · have ev := i64_and I X (by omega) (by omega)
        rw [decide_eq_true (by omega : 0 ≤ (I : Int) ∧ (I : Int) ≤ (M : Int) - 1), show (decide ((I : Int).toNat &&& (X : Int).toNat = (Y : Int).toNat)) = decide (I &&& X = Y) from rfl]
        obtain ⟨q, hq⟩ : ∃ q, I &&& X = q := ⟨_, rfl⟩
        rw [hq] at ev ⊢
        clear hM hq h3
        by_cases hq0 : q = Y
        all_goals
          go_enter Try.func17, Try.ntmps17
          go_wp2_with fail
          refine (implCube_at _ _ _ _ hv hc).mono ?_
          rintro e w1 ⟨rfl, hb⟩
          have g := box1 hb
          have c0 : w1.cell? ⟨w.heap.size, 0, none⟩ = some (.int .i64 X) := box_cell g.1 0 _ rfl
          have c1 : w1.cell? ⟨w.heap.size, 1, none⟩ = some (.int .i64 Y) := box_cell g.1 1 _ rfl
          have HW := Lib.hid g.2
          clear hb g
          go_wp2
          go_ret
          exact ⟨ret_bool (by simp [hq0] <;> omega), HW.out⟩
      · rw [decide_eq_false (by omega : ¬ (0 ≤ (I : Int) ∧ (I : Int) ≤ (M : Int) - 1))]
        clear hM h3
        go_enter Try.func17, Try.ntmps17
        go_wp2_with fail
        refine (implCube_at _ _ _ _ hv hc).mono ?_
        rintro e w1 ⟨rfl, hb⟩
        have g := box1 hb
        have c0 : w1.cell? ⟨w.heap.size, 0, none⟩ = some (.int .i64 X) := box_cell g.1 0 _ rfl
        have c1 : w1.cell? ⟨w.heap.size, 1, none⟩ = some (.int .i64 Y) := box_cell g.1 1 _ rfl
        have HW := Lib.hid g.2
        clear hb g
        go_wp2
        go_ret
        exact ⟨rfl, HW.out⟩
    · rw [decide_eq_false (by omega : ¬ (0 ≤ i ∧ i ≤ (M : Int) - 1))]
      clear hM
      go_enter Try.func17, Try.ntmps17
      go_wp2_with fail
      refine (implCube_at _ _ _ _ hv hc).mono ?_
      rintro e w1 ⟨rfl, hb⟩
      have g := box1 hb
      have c0 : w1.cell? ⟨w.heap.size, 0, none⟩ = some (.int .i64 X) := box_cell g.1 0 _ rfl
      have c1 : w1.cell? ⟨w.heap.size, 1, none⟩ = some (.int .i64 Y) := box_cell g.1 1 _ rfl
      have HW := Lib.hid g.2
      clear hb g
      go_wp2
      go_ret
      exact ⟨rfl, HW.out⟩
theorem implHas_at (n c v i : Int) {d : Bool} (w : World) (hv : Fit v) (h : hasB n c v i = d) :
    Calls Try.prog 17 #[.int .i64 n, .agg #[.int .i64 c, .int .i64 v], .int .i64 i] w fun e w' => e = .returned (.bool d) ∧ Below w.heap.size w w' := by
  subst h; exact implHas_any n c v i w hv
end Go.Proofs.Ytjibjnkabfmgaaa
