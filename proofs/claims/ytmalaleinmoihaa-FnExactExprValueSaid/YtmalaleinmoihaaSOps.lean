/-
  Operators and expressions, as the reference judges them.
-/
import Derived.Test.YtmalaleinmoihaaDtAll
import Derived.Test.YtmalaleinmoihaaTabA
namespace Go.Proofs.Ytmalaleinmoihaa
open Go.RowKit
set_option linter.unusedVariables false
set_option linter.unusedSimpArgs false

/-- The number of operands. -/
def arityI (k : Int) : Int := if 0 ≤ k ∧ k ≤ 12 then (if k ≤ 3 then 0 else if k = 4 then 1 else if k = 12 then 3 else 2) else -1
theorem arityI_no {k : Int} (h : ¬ (0 ≤ k ∧ k ≤ 12)) : arityI k = -1 := if_neg h
theorem arityI_le (k : Int) : -1 ≤ arityI k ∧ arityI k ≤ 3 := by unfold arityI; repeat' split <;> omega
theorem ret_i {a b : Int} (h : a = b) : Ending.returned (.int .i64 a) = .returned (.int .i64 b) := by rw [h]
set_option maxHeartbeats 1600000 in
theorem specArity_any (k : Int) (w : World) : Calls Try.prog 21 #[.int .i64 k] w fun e w' => e = .returned (.int .i64 (arityI k)) ∧ w = w' := by
  by_cases h : 0 ≤ k ∧ k ≤ 12
  · have hv : decide (0 ≤ k ∧ k ≤ 12) = true := decide_eq_true h
    rcases (by omega : k = 0 ∨ k = 1 ∨ k = 2 ∨ k = 3 ∨ k = 4 ∨ k = 5 ∨ k = 6 ∨ k = 7 ∨ k = 8 ∨ k = 9 ∨ k = 10 ∨ k = 11 ∨ k = 12) with rfl | rfl | rfl | rfl | rfl | rfl | rfl | rfl | rfl | rfl | rfl | rfl | rfl
    all_goals
      go_enter Try.func21, Try.ntmps21
      go_wp2_with fail
      refine (l01In_at _ 0 12 _ hv).mono ?_
      rintro e w1 ⟨rfl, rfl⟩
      go_wp2
      go_ret
      exact ⟨rfl, rfl⟩
  · have hv : decide (0 ≤ k ∧ k ≤ 12) = false := decide_eq_false h
    rw [arityI_no h]
    go_enter Try.func21, Try.ntmps21
    go_wp2_with fail
    refine (l01In_at _ 0 12 _ hv).mono ?_
    rintro e w1 ⟨rfl, rfl⟩
    go_wp2
    go_ret
    exact ⟨rfl, rfl⟩
theorem specArity_at (k : Int) {a : Int} (w : World) (h : arityI k = a) : Calls Try.prog 21 #[.int .i64 k] w fun e w' => e = .returned (.int .i64 a) ∧ w = w' := by
  subst h; exact specArity_any k w

/-- A valid operator among n signals. -/
def opB (n : Int) (o : DOp) : Bool :=
  if o.1 = 0 then decide (0 ≤ o.2.1 ∧ o.2.1 ≤ 15) && decide (o.2.2 = 0)
  else if o.1 = 2 then decide (0 ≤ o.2.1 ∧ o.2.1 < n) && decide (o.2.2 = 0)
  else if o.1 = 3 then decide (0 ≤ o.2.1 ∧ o.2.1 < n) && decide (0 ≤ o.2.2 ∧ o.2.2 ≤ 3)
  else decide (0 ≤ arityI o.1) && decide (o.2.1 = 0) && decide (o.2.2 = 0)
set_option maxHeartbeats 3200000 in
theorem specOp_any (n k a b : Int) (w : World) :
    Calls Try.prog 20 #[.agg #[.int .i64 k, .int .i64 a, .int .i64 b], .int .i64 n] w fun e w' => e = .returned (.bool (opB n (k, a, b))) ∧ Below w.heap.size w w' := by
  unfold opB
  dsimp only
  by_cases k0 : k = 0
  · subst k0
    rw [if_pos rfl]
    by_cases ha : 0 ≤ a ∧ a ≤ 15
    · have hv : decide (0 ≤ a ∧ a ≤ 15) = true := decide_eq_true ha
      rw [hv]
      clear ha
      by_cases hb : b = 0
      all_goals
        go_enter Try.func20, Try.ntmps20
        go_wp2_with fail
        refine (l01In_at a 0 15 _ hv).mono ?_
        rintro e w1 ⟨rfl, rfl⟩
        go_wp2
        go_ret
        exact ⟨ret_bool (by simp [hb]), by (repeat' (first | assumption | exact Below.refl _ _ | refine bDrewN ?_ _ | refine Below.drew ?_ | refine bAlloc ?_ (Nat.le_refl _) _ | refine bSet ?_ (by first | exact Nat.le_refl _ | omega | (simp <;> omega)) _))⟩

    · have hv : decide (0 ≤ a ∧ a ≤ 15) = false := decide_eq_false ha
      rw [hv]
      clear ha
      go_enter Try.func20, Try.ntmps20
      go_wp2_with fail
      refine (l01In_at a 0 15 _ hv).mono ?_
      rintro e w1 ⟨rfl, rfl⟩
      go_wp2
      go_ret
      exact ⟨rfl, by (repeat' (first | assumption | exact Below.refl _ _ | refine bDrewN ?_ _ | refine Below.drew ?_ | refine bAlloc ?_ (Nat.le_refl _) _ | refine bSet ?_ (by first | exact Nat.le_refl _ | omega | (simp <;> omega)) _))⟩

  · rw [if_neg k0]
    by_cases k2 : k = 2
    · subst k2
      rw [if_pos rfl]
      by_cases h1 : 0 ≤ a
      · by_cases h2 : a < n
        · rw [decide_eq_true (⟨h1, h2⟩ : 0 ≤ a ∧ a < n)]
          by_cases hb : b = 0
          all_goals
            go_enter Try.func20, Try.ntmps20
            go_wp2
            go_ret
            exact ⟨ret_bool (by simp [hb]), by (repeat' (first | assumption | exact Below.refl _ _ | refine bDrewN ?_ _ | refine Below.drew ?_ | refine bAlloc ?_ (Nat.le_refl _) _ | refine bSet ?_ (by first | exact Nat.le_refl _ | omega | (simp <;> omega)) _))⟩

        · rw [decide_eq_false (by omega : ¬ (0 ≤ a ∧ a < n))]
          go_enter Try.func20, Try.ntmps20
          go_wp2
          go_ret
          exact ⟨rfl, by (repeat' (first | assumption | exact Below.refl _ _ | refine bDrewN ?_ _ | refine Below.drew ?_ | refine bAlloc ?_ (Nat.le_refl _) _ | refine bSet ?_ (by first | exact Nat.le_refl _ | omega | (simp <;> omega)) _))⟩

      · rw [decide_eq_false (by omega : ¬ (0 ≤ a ∧ a < n))]
        go_enter Try.func20, Try.ntmps20
        go_wp2
        go_ret
        exact ⟨rfl, by (repeat' (first | assumption | exact Below.refl _ _ | refine bDrewN ?_ _ | refine Below.drew ?_ | refine bAlloc ?_ (Nat.le_refl _) _ | refine bSet ?_ (by first | exact Nat.le_refl _ | omega | (simp <;> omega)) _))⟩

    · rw [if_neg k2]
      by_cases k3 : k = 3
      · subst k3
        rw [if_pos rfl]
        by_cases h1 : 0 ≤ a
        · by_cases h2 : a < n
          · rw [decide_eq_true (⟨h1, h2⟩ : 0 ≤ a ∧ a < n)]
            obtain ⟨d, hd⟩ : ∃ d, decide (0 ≤ b ∧ b ≤ 3) = d := ⟨_, rfl⟩
            rw [hd]
            go_enter Try.func20, Try.ntmps20
            go_wp2_with fail
            refine (l01In_at b 0 3 _ hd).mono ?_
            rintro e w1 ⟨rfl, rfl⟩
            go_wp2
            go_ret
            exact ⟨ret_bool (by simp), by (repeat' (first | assumption | exact Below.refl _ _ | refine bDrewN ?_ _ | refine Below.drew ?_ | refine bAlloc ?_ (Nat.le_refl _) _ | refine bSet ?_ (by first | exact Nat.le_refl _ | omega | (simp <;> omega)) _))⟩

          · rw [decide_eq_false (by omega : ¬ (0 ≤ a ∧ a < n))]
            go_enter Try.func20, Try.ntmps20
            go_wp2
            go_ret
            exact ⟨rfl, by (repeat' (first | assumption | exact Below.refl _ _ | refine bDrewN ?_ _ | refine Below.drew ?_ | refine bAlloc ?_ (Nat.le_refl _) _ | refine bSet ?_ (by first | exact Nat.le_refl _ | omega | (simp <;> omega)) _))⟩

        · rw [decide_eq_false (by omega : ¬ (0 ≤ a ∧ a < n))]
          go_enter Try.func20, Try.ntmps20
          go_wp2
          go_ret
          exact ⟨rfl, by (repeat' (first | assumption | exact Below.refl _ _ | refine bDrewN ?_ _ | refine Below.drew ?_ | refine bAlloc ?_ (Nat.le_refl _) _ | refine bSet ?_ (by first | exact Nat.le_refl _ | omega | (simp <;> omega)) _))⟩

      · rw [if_neg k3]
        obtain ⟨r, hr⟩ : ∃ r, arityI k = r := ⟨_, rfl⟩
        rw [hr]
        by_cases h1 : 0 ≤ r
        · rw [decide_eq_true h1]
          by_cases ha : a = 0
          all_goals
            by_cases hb : b = 0
            all_goals
              go_enter Try.func20, Try.ntmps20
              go_wp2_with fail
              refine (specArity_at k _ hr).mono ?_
              rintro e w1 ⟨rfl, rfl⟩
              go_wp2
              go_ret
              exact ⟨ret_bool (by simp [ha, hb]), by (repeat' (first | assumption | exact Below.refl _ _ | refine bDrewN ?_ _ | refine Below.drew ?_ | refine bAlloc ?_ (Nat.le_refl _) _ | refine bSet ?_ (by first | exact Nat.le_refl _ | omega | (simp <;> omega)) _))⟩

        · rw [decide_eq_false h1]
          go_enter Try.func20, Try.ntmps20
          go_wp2_with fail
          refine (specArity_at k _ hr).mono ?_
          rintro e w1 ⟨rfl, rfl⟩
          go_wp2
          go_ret
          exact ⟨rfl, by (repeat' (first | assumption | exact Below.refl _ _ | refine bDrewN ?_ _ | refine Below.drew ?_ | refine bAlloc ?_ (Nat.le_refl _) _ | refine bSet ?_ (by first | exact Nat.le_refl _ | omega | (simp <;> omega)) _))⟩

theorem specOp_at (n : Int) (o : DOp) {d : Bool} (w : World) (h : opB n o = d) :
    Calls Try.prog 20 #[.agg #[.int .i64 o.1, .int .i64 o.2.1, .int .i64 o.2.2], .int .i64 n] w fun e w' => e = .returned (.bool d) ∧ Below w.heap.size w w' := by
  subst h; exact specOp_any n _ _ _ w

/-- Do these operators complete what m operands are wanted? -/
def runOps (n : Int) : Int → List DOp → Bool
  | m, [] => decide (m = 0)
  | m, o :: os => if m = 0 then false else opB n o && runOps n (m - 1 + arityI o.1) os
def opsB (n : Int) (L : List DOp) : Bool := decide (L.length ≤ 15) && runOps n 1 L
theorem runOps_step (n m : Int) (L : List DOp) (i : Nat) (h : i < L.length) : runOps n m (L.drop i) = if m = 0 then false else opB n L[i] && runOps n (m - 1 + arityI L[i].1) (L.drop (i + 1)) := by
  rw [List.drop_eq_getElem_cons h]; rfl
theorem opB_ar {n : Int} {o : DOp} (h : opB n o = true) : 0 ≤ arityI o.1 := by
  unfold opB at h
  by_cases k0 : o.1 = 0
  · rw [k0]; decide
  · rw [if_neg k0] at h
    by_cases k2 : o.1 = 2
    · rw [k2]; decide
    · rw [if_neg k2] at h
      by_cases k3 : o.1 = 3
      · rw [k3]; decide
      · rw [if_neg k3, Bool.and_eq_true, Bool.and_eq_true, decide_eq_true_eq] at h; exact h.1.1

set_option maxHeartbeats 3200000 in
theorem specOps_any (n : Int) (L : List DOp) (v : Value) {B T : Nat} (w : World) (h : rdOpS B T w [v] L) (hT : T ≤ w.heap.size) :
    Calls Try.prog 11 #[v, .int .i64 n] w fun e w' => e = .returned (.bool (opsB n L)) ∧ Below w.heap.size w w' := by
  obtain ⟨A, c, ea, hm, hA⟩ := h
  injection ea with ea
  subst ea
  unfold maxLen at hm
  have HA := Lib.hid hA
  clear hA
  unfold opsB
  by_cases hl : L.length ≤ 15
  · have t1 : ¬ (15 : Int) < (L.length : Int) := by omega
    rw [decide_eq_true hl]
    go_enter Try.func11, Try.ntmps11
    go_wp2
    go_loopw [5, 6] (fun q v wr => ∃ (i : Nat) (m : Int), i ≤ L.length ∧ v = .int .i64 i ∧ q = .int .i64 m ∧ 0 ≤ m ∧ m ≤ 1 + 2 * i ∧ runOps n 1 L = runOps n m (L.drop i) ∧ Below w.heap.size w wr) (fun _ v _ => L.length - (intOf v).toNat)
    case atStart => exact ⟨0, 1, Nat.zero_le _, rfl, rfl, by omega, by omega, rfl, Below.refl _ _⟩
    case round =>
      obtain ⟨i, m, hi, rfl, rfl, hm0, hm1, hrun, hb⟩ := hrel
      by_cases hlt : i < L.length
      · obtain ⟨b, o, rfl, _, _, us, hul, hc, hr⟩ := HA.out i hlt
        have hst := runOps_step n m L i hlt
        rw [← hrun] at hst
        obtain ⟨x, hx⟩ : ∃ x, L[i] = x := ⟨_, rfl⟩
        rw [hx] at hr hst
        obtain ⟨u0, u1, u2, rfl, ⟨e0, f0⟩, ⟨e1, f1⟩, ⟨e2, f2⟩⟩ := hr
        injection e0 with e0
        injection e1 with e1
        injection e2 with e2
        subst e0 e1 e2
        have c0 : wr.cell? ⟨b, o + i * 3, none⟩ = some (.int .i64 x.1) := keep hb (hc 0 _ rfl)
        have c1 : wr.cell? ⟨b, o + i * 3 + 1, none⟩ = some (.int .i64 x.2.1) := keep hb (hc 1 _ rfl)
        have c2 : wr.cell? ⟨b, o + i * 3 + 2, none⟩ = some (.int .i64 x.2.2) := keep hb (hc 2 _ rfl)
        have har := arityI_le x.1
        obtain ⟨d, hd⟩ : ∃ d, opB n x = d := ⟨_, rfl⟩
        obtain ⟨r, hr⟩ : ∃ r, arityI x.1 = r := ⟨_, rfl⟩
        have hdr : d = true → 0 ≤ r := fun e => by rw [← hr]; exact opB_ar (by rw [hd, e])
        rw [hd, hr] at hst
        rw [hr] at har
        have HB := Lib.hid hb
        have HS := Lib.hid (And.intro hst (And.intro hd hr))
        clear hb hst hd hr hc hul hx hrun f0 f1 f2
        by_cases hz : m = 0
        · subst hz
          go_wp2
          go_ret
          exact ⟨ret_bool (by rw [HS.out.1]; simp), HB.out⟩
        · cases d
          · go_wp2_with fail
            refine (specOp_at n x _ HS.out.2.1).mono ?_
            rintro e w2 ⟨rfl, hb⟩
            have R := Lib.hid (bThen HB.out hb)
            clear hb
            go_wp2
            go_ret
            exact ⟨ret_bool (by rw [HS.out.1, if_neg hz]; simp), R.out⟩
          · have hr0 := hdr rfl
            go_wp2_with fail
            refine (specOp_at n x _ HS.out.2.1).mono ?_
            rintro e w2 ⟨rfl, hb⟩
            replace c0 := keep hb c0
            have R := Lib.hid (bThen HB.out hb)
            clear hb c1 c2
            go_wp2_with fail
            refine (specArity_at x.1 _ HS.out.2.2).mono ?_
            rintro e w3 ⟨rfl, rfl⟩
            go_wp2
            go_roundw
            case rel => exact ⟨i + 1, m - 1 + r, by omega, by go_num, by go_num, by omega, by omega, by rw [HS.out.1, if_neg hz]; simp, R.out⟩
            case measure => simp [intOf]; omega
      · obtain rfl : i = L.length := by omega
        rw [List.drop_length] at hrun
        have HB := Lib.hid hb
        have HR := Lib.hid hrun
        clear hb hrun
        by_cases hz : m = 0
        all_goals
          go_wp2
          go_ret
          exact ⟨ret_bool (by rw [HR.out]; simp [runOps, hz]), HB.out⟩
  · have t1 : (15 : Int) < (L.length : Int) := by omega
    rw [decide_eq_false hl]
    go_enter Try.func11, Try.ntmps11
    go_wp2
    go_ret
    exact ⟨rfl, Below.refl _ _⟩
end Go.Proofs.Ytmalaleinmoihaa
