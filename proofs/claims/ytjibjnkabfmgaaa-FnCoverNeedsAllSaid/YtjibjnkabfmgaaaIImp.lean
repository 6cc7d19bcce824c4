/-
  The program's implicants and primes.
-/
import Derived.Test.YtjibjnkabfmgaaaICov
import Derived.Lib.QuietBelow
namespace Go.Proofs.Ytjibjnkabfmgaaa
open Go.RowKit
set_option linter.unusedVariables false
set_option linter.unusedSimpArgs false

/-- A valid cube that is an implicant. -/
def impV (N B X Y : Nat) : Bool := decide (andNot Y X = 0) && impB N B X Y

set_option maxHeartbeats 3200000 in
theorem implImp_any (N B X Y : Nat) (w : World) (hN : N ≤ 4) (hB : B ≤ 65535) (hX : X < 2 ^ N) (hY : Y < 2 ^ N) :
    Calls Try.prog 60 #[.agg #[.int .i64 N, .int .i64 B], .agg #[.int .i64 X, .int .i64 Y]] w fun e w' => e = .returned (.bool (impV N B X Y)) ∧ Below w.heap.size w w' := by
  have h16 := pow16 N hN
  have hf : Fit (Y : Int) := fit_nat Y (by omega)
  have hcub := cubeB_nat hN hX hY
  have hz1 := cubN_le N ((X : Int), (Y : Int)) hN
  have hic := imp_cub N B X Y hN hB
  obtain ⟨z, hz⟩ : ∃ z, cubN N ((X : Int), (Y : Int)) = z := ⟨_, rfl⟩
  rw [hz] at hz1 hic
  have HZ := Lib.hid hz
  clear hz
  unfold impV
  by_cases hv : andNot Y X = 0
  · rw [decide_eq_true hv] at hcub
    have HC := Lib.hid hcub
    clear hcub
    have ev := i64_andNot z B (by omega) (by omega)
    obtain ⟨q, hq⟩ : ∃ q, andNot z B = q := ⟨_, rfl⟩
    rw [hq] at ev hic
    rw [decide_eq_true hv, ← hic]
    clear hq hic
    by_cases hq0 : q = 0
    all_goals
      go_enter Try.func60, Try.ntmps60
      go_wp2
      obtain ⟨W, hW⟩ : ∃ W, W = (w.alloc (.cells #[.int .i64 N, .int .i64 B] 25)).alloc (.cells #[.int .i64 X, .int .i64 Y] 32) := ⟨_, rfl⟩
      rw [← hW]
      have g := eqbox2 hW
      have c0 : W.cell? ⟨w.heap.size, 0, none⟩ = some (.int .i64 N) := box_cell g.1 0 _ rfl
      have c1 : W.cell? ⟨w.heap.size, 1, none⟩ = some (.int .i64 B) := box_cell g.1 1 _ rfl
      have d0 : W.cell? ⟨w.heap.size + 1, 0, none⟩ = some (.int .i64 X) := box_cell g.2.1 0 _ rfl
      have d1 : W.cell? ⟨w.heap.size + 1, 1, none⟩ = some (.int .i64 Y) := box_cell g.2.1 1 _ rfl
      have HW := Lib.hid g.2.2
      clear hW g
      replace c0 := cell_regrown c0
      replace c1 := cell_regrown c1
      replace d0 := cell_regrown d0
      replace d1 := cell_regrown d1
      refine wp_region_quiet_below (by kernel_rfl) (by kernel_rfl) ?_
      repeat (go_big_quiet_step (first
        | (go_at_call 22; refine Calls.regrown_of (implCube_at _ _ _ _ hf HC.out))
        | (go_at_call 43; refine Calls.regrown_of (implBits_at N X Y _ hN hX hY (by assumption) HZ.out))))
      refine wpQuiet_nil ?_
      intro _ hw'
      obtain ⟨⟨dq, osq⟩, hw''⟩ := hw'
      subst hw''
      go_wp2
      go_ret
      exact ⟨ret_bool (by simp [hq0]), bThen HW.out (below_regrown _ _ _)⟩
  · rw [decide_eq_false hv] at hcub
    have HC := Lib.hid hcub
    clear hcub hic
    rw [decide_eq_false hv]
    clear hv
    go_enter Try.func60, Try.ntmps60
    go_wp2
    obtain ⟨W, hW⟩ : ∃ W, W = (w.alloc (.cells #[.int .i64 N, .int .i64 B] 25)).alloc (.cells #[.int .i64 X, .int .i64 Y] 32) := ⟨_, rfl⟩
    rw [← hW]
    have g := eqbox2 hW
    have c0 : W.cell? ⟨w.heap.size, 0, none⟩ = some (.int .i64 N) := box_cell g.1 0 _ rfl
    have c1 : W.cell? ⟨w.heap.size, 1, none⟩ = some (.int .i64 B) := box_cell g.1 1 _ rfl
    have d0 : W.cell? ⟨w.heap.size + 1, 0, none⟩ = some (.int .i64 X) := box_cell g.2.1 0 _ rfl
    have d1 : W.cell? ⟨w.heap.size + 1, 1, none⟩ = some (.int .i64 Y) := box_cell g.2.1 1 _ rfl
    have HW := Lib.hid g.2.2
    clear hW g
    replace c0 := cell_regrown c0
    replace c1 := cell_regrown c1
    replace d0 := cell_regrown d0
    replace d1 := cell_regrown d1
    refine wp_region_quiet_below (by kernel_rfl) (by kernel_rfl) ?_
    repeat (go_big_quiet_step (first
      | (go_at_call 22; refine Calls.regrown_of (implCube_at _ _ _ _ hf HC.out))
      | (go_at_call 43; refine Calls.regrown_of (implBits_at N X Y _ hN hX hY (by assumption) HZ.out))))
    refine wpQuiet_nil ?_
    intro _ hw'
    obtain ⟨⟨dq, osq⟩, hw''⟩ := hw'
    subst hw''
    go_wp2
    go_ret
    exact ⟨rfl, bThen HW.out (below_regrown _ _ _)⟩
theorem implImp_at (N B X Y : Nat) {d : Bool} (w : World) (hN : N ≤ 4) (hB : B ≤ 65535) (hX : X < 2 ^ N) (hY : Y < 2 ^ N) (h : impV N B X Y = d) :
    Calls Try.prog 60 #[.agg #[.int .i64 N, .int .i64 B], .agg #[.int .i64 X, .int .i64 Y]] w fun e w' => e = .returned (.bool d) ∧ Below w.heap.size w w' := by
  subst h; exact implImp_any N B X Y w hN hB hX hY
theorem priK_false (N B X Y k : Nat) (hk : k < N) (h : priK N B X Y (k + 1) = false) : primeB N B X Y = false := by
  unfold primeB
  have : priK N B X Y N = false := by
    unfold priK at *
    obtain ⟨i, hi, h⟩ := List.all_eq_false.1 h
    exact List.all_eq_false.2 ⟨i, List.mem_range.2 (by have := List.mem_range.1 hi; omega), h⟩
  rw [this]; simp

set_option maxHeartbeats 6400000 in
theorem implPrime_any (N B X Y : Nat) (w : World) (hN : N ≤ 4) (hB : B ≤ 65535) (hX : X < 2 ^ N) (hY : Y < 2 ^ N) :
    Calls Try.prog 41 #[.agg #[.int .i64 N, .int .i64 B], .agg #[.int .i64 X, .int .i64 Y]] w fun e w' => e = .returned (.bool (primeB N B X Y)) ∧ Below w.heap.size w w' := by
  have h16 := pow16 N hN
  cases hiv : impV N B X Y
  · have hp : primeB N B X Y = false := by
      unfold impV at hiv; unfold primeB; rw [hiv]; rfl
    rw [hp]
    have HI := Lib.hid hiv
    clear hiv hp
    go_enter Try.func41, Try.ntmps41
    go_wp2_with fail
    refine (implImp_at N B X Y _ hN hB hX hY HI.out).mono ?_
    rintro e w1 ⟨rfl, hb⟩
    have g := box2 hb
    have R := Lib.hid g.2.2
    clear hb g
    go_wp2
    go_ret
    exact ⟨rfl, R.out⟩
  · have HI := Lib.hid hiv
    have hiv2 := hiv
    unfold impV at hiv2
    rw [Bool.and_eq_true, decide_eq_true_eq] at hiv2
    obtain ⟨hv, hi⟩ := hiv2
    have HV := Lib.hid (And.intro hv hi)
    clear hiv hv hi
    go_enter Try.func41, Try.ntmps41
    go_wp2_with fail
    refine (implImp_at N B X Y _ hN hB hX hY HI.out).mono ?_
    rintro e w1 ⟨rfl, hb⟩
    have g := box2 hb
    have c0 : w1.cell? ⟨w.heap.size, 0, none⟩ = some (.int .i64 N) := box_cell g.1 0 _ rfl
    have c1 : w1.cell? ⟨w.heap.size, 1, none⟩ = some (.int .i64 B) := box_cell g.1 1 _ rfl
    have d0 : w1.cell? ⟨w.heap.size + 1, 0, none⟩ = some (.int .i64 X) := box_cell g.2.1 0 _ rfl
    have d1 : w1.cell? ⟨w.heap.size + 1, 1, none⟩ = some (.int .i64 Y) := box_cell g.2.1 1 _ rfl
    have HW := Lib.hid g.2.2
    clear hb g
    go_wp2
    go_loopw [5, 6, 13] (fun _ _ v wr => ∃ k : Nat, k ≤ N ∧ v = .int .i64 k ∧ priK N B X Y k = true ∧ Below w1.heap.size w1 wr) (fun _ _ v _ => N - (intOf v).toNat)
    case atStart => exact ⟨0, Nat.zero_le _, rfl, rfl, Below.refl _ _⟩
    case round =>
      obtain ⟨k, hk, rfl, hp, hb⟩ := hrel
      replace c0 := keep hb c0
      replace c1 := keep hb c1
      replace d0 := keep hb d0
      replace d1 := keep hb d1
      have HB := Lib.hid hb
      by_cases hlt : k < N
      · have hst := priK_step N B X Y k
        rw [hp, Bool.true_and] at hst
        have p16 : 2 ^ k ≤ 16 := pow16 k (by omega)
        have es : IntKind.i64.wrap ((2 : Int) ^ k) = (2 : Int) ^ k := by rw [pow_cast, wrap64_small _ (by omega)]
        have ax := i64_andNot X (2 ^ k) (by omega) (by omega)
        have ay := i64_andNot Y (2 ^ k) (by omega) (by omega)
        have lx : andNot X (2 ^ k) ≤ X := andNot_le X (2 ^ k)
        have ly : andNot Y (2 ^ k) ≤ Y := andNot_le Y (2 ^ k)
        have hsame := lit_same X k (by omega) (by omega)
        have hval := lit_val X Y k (by omega) (by omega) (by omega) HV.out.1
        rw [← pow_cast] at ax ay
        obtain ⟨x', hx'⟩ : ∃ x', andNot X (2 ^ k) = x' := ⟨_, rfl⟩
        obtain ⟨y', hy'⟩ : ∃ y', andNot Y (2 ^ k) = y' := ⟨_, rfl⟩
        rw [hx', hy'] at hst hval
        rw [hx'] at ax lx hsame
        rw [hy'] at ay ly
        clear hp hb hx' hy'
        have l1 : w.heap.size + 1 < wr.heap.size := World.block_lt_of_cell? _ _ d0
        have l0 : w.heap.size < wr.heap.size := World.block_lt_of_cell? _ _ c0
        cases hbit : X.testBit k
        · have hxx : x' = X := by rw [hsame]; exact hbit
          have hyy : y' = Y := hval.1 hbit
          subst hxx hyy
          rw [hbit] at hst
          have HS := Lib.hid hst
          clear hst hsame hval hbit
          go_wp2
          go_region_law (fail)
          all_goals go_wp2
          all_goals go_roundw
          all_goals first
            | exact ⟨k + 1, by omega, by go_num, (by rw [HS.out]; rfl), (by have hB := HB.out; (repeat' (first | assumption | exact Below.refl _ _ | refine bDrewN ?_ _ | refine Below.drew ?_ | refine bAlloc ?_ (Nat.le_refl _) _ | refine bSet ?_ (by first | exact Nat.le_refl _ | omega | (simp <;> omega)) _)))⟩
            | (simp [intOf]; omega)
        · have hne : ¬ x' = X := by rw [hsame, hbit]; simp
          have hiv2 : impV N B x' y' = impB N B x' y' := by unfold impV; rw [decide_eq_true hval.2]; rfl
          rw [hbit, Bool.true_and] at hst
          obtain ⟨di, hdi⟩ : ∃ di, impB N B x' y' = di := ⟨_, rfl⟩
          rw [hdi] at hst hiv2
          have HS := Lib.hid hst
          have HI2 := Lib.hid hiv2
          clear hst hsame hval hbit hdi hiv2
          go_wp2
          go_region_law (fail)
          all_goals
            cases di
            all_goals
              go_wp2_with fail
              refine (implImp_at N B x' y' _ hN hB (by omega) (by omega) HI2.out).mono ?_
              rintro e w2 ⟨rfl, hb⟩
              have hB2 : Below wr.heap.size wr w2 := bTrans (bAlloc (Below.refl _ _) (Nat.le_refl _) (.cells #[.int .i64 x', .int .i64 y'] 32)).drew (by simp) hb
              have R := Lib.hid (bThen HB.out hB2)
              clear hb hB2 c0 c1 d0 d1 ax ay es
              go_wp2
            · go_roundw
              case rel => exact ⟨k + 1, by omega, by go_num, (by rw [HS.out]; rfl), R.out⟩
              case measure => simp [intOf]; omega
            · have hno := priK_false N B X Y k hlt (by rw [HS.out]; rfl)
              go_ret
              exact ⟨ret_bool hno.symm, bThen HW.out R.out⟩
      · obtain rfl : k = N := by omega
        have hyes : primeB k B X Y = true := by unfold primeB; rw [HV.out.2, hp, decide_eq_true HV.out.1]; rfl
        have HY := Lib.hid hyes
        clear hp hb hyes
        go_wp2
        go_ret
        exact ⟨ret_bool HY.out.symm, bThen HW.out HB.out⟩
end Go.Proofs.Ytjibjnkabfmgaaa
