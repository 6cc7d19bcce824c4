/-
  Operators and expressions, as the program judges them.
-/
import Derived.Test.YtmalaleinmoihaaSOps
namespace Go.Proofs.Ytmalaleinmoihaa
open Go.RowKit
set_option linter.unusedVariables false
set_option linter.unusedSimpArgs false

set_option maxHeartbeats 1600000 in
theorem implArity_any (k : Int) (w : World) : Calls Try.prog 28 #[.int .i64 k] w fun e w' => e = .returned (.int .i64 (arityI k)) ∧ w = w' := by
  by_cases h : 0 ≤ k ∧ k ≤ 12
  · rcases (by omega : k = 0 ∨ k = 1 ∨ k = 2 ∨ k = 3 ∨ k = 4 ∨ k = 5 ∨ k = 6 ∨ k = 7 ∨ k = 8 ∨ k = 9 ∨ k = 10 ∨ k = 11 ∨ k = 12) with rfl | rfl | rfl | rfl | rfl | rfl | rfl | rfl | rfl | rfl | rfl | rfl | rfl
    all_goals
      go_enter Try.func28, Try.ntmps28
      go_wp2
      go_ret
      exact ⟨rfl, rfl⟩
  · rw [arityI_no h]
    have n0 : ¬ k = 0 := fun e => h (by omega)
    have n1 : ¬ k = 1 := fun e => h (by omega)
    have n2 : ¬ k = 2 := fun e => h (by omega)
    have n3 : ¬ k = 3 := fun e => h (by omega)
    have n4 : ¬ k = 4 := fun e => h (by omega)
    have n5 : ¬ k = 5 := fun e => h (by omega)
    have n6 : ¬ k = 6 := fun e => h (by omega)
    have n7 : ¬ k = 7 := fun e => h (by omega)
    have n8 : ¬ k = 8 := fun e => h (by omega)
    have n9 : ¬ k = 9 := fun e => h (by omega)
    have n10 : ¬ k = 10 := fun e => h (by omega)
    have n11 : ¬ k = 11 := fun e => h (by omega)
    have n12 : ¬ k = 12 := fun e => h (by omega)
    clear h
    go_enter Try.func28, Try.ntmps28
    go_wp2
    go_ret
    exact ⟨rfl, rfl⟩
theorem implArity_at (k : Int) {a : Int} (w : World) (h : arityI k = a) : Calls Try.prog 28 #[.int .i64 k] w fun e w' => e = .returned (.int .i64 a) ∧ w = w' := by
  subst h; exact implArity_any k w

set_option maxHeartbeats 6400000 in
theorem implOp_any (n k a b : Int) (w : World) :
    Calls Try.prog 27 #[.agg #[.int .i64 k, .int .i64 a, .int .i64 b], .int .i64 n] w fun e w' => e = .returned (.bool (opB n (k, a, b))) ∧ Below w.heap.size w w' := by
  unfold opB
  dsimp only
  by_cases k0 : k = 0
  · subst k0
    rw [if_pos rfl]
    by_cases h1 : 0 ≤ a
    · by_cases h2 : a ≤ 15
      · rw [decide_eq_true (⟨h1, h2⟩ : 0 ≤ a ∧ a ≤ 15)]
        by_cases hb : b = 0
        all_goals
          go_enter Try.func27, Try.ntmps27
          go_wp2
          go_ret
          exact ⟨ret_bool (by simp [hb]), by (repeat' (first | assumption | exact Below.refl _ _ | refine bDrewN ?_ _ | refine Below.drew ?_ | refine bAlloc ?_ (Nat.le_refl _) _ | refine bSet ?_ (by first | exact Nat.le_refl _ | omega | (simp <;> omega)) _))⟩
      · rw [decide_eq_false (by omega : ¬ (0 ≤ a ∧ a ≤ 15))]
        go_enter Try.func27, Try.ntmps27
        go_wp2
        go_ret
        exact ⟨rfl, by (repeat' (first | assumption | exact Below.refl _ _ | refine bDrewN ?_ _ | refine Below.drew ?_ | refine bAlloc ?_ (Nat.le_refl _) _ | refine bSet ?_ (by first | exact Nat.le_refl _ | omega | (simp <;> omega)) _))⟩
    · rw [decide_eq_false (by omega : ¬ (0 ≤ a ∧ a ≤ 15))]
      go_enter Try.func27, Try.ntmps27
      go_wp2
      go_ret
      exact ⟨rfl, by (repeat' (first | assumption | exact Below.refl _ _ | refine bDrewN ?_ _ | refine Below.drew ?_ | refine bAlloc ?_ (Nat.le_refl _) _ | refine bSet ?_ (by first | exact Nat.le_refl _ | omega | (simp <;> omega)) _))⟩
  · rw [if_neg k0]
    by_cases k2 : k = 2
    · subst k2
      rw [if_pos rfl]
      by_cases h1 : 0 ≤ a
      · by_cases h2 : a < n
        · rw [decide_eq_true (⟨h1, h2⟩ : 0 ≤ a ∧ a < n)]
          by_cases hb : b = 0
          all_goals
            go_enter Try.func27, Try.ntmps27
            go_wp2
            go_ret
            exact ⟨ret_bool (by simp [hb]), by (repeat' (first | assumption | exact Below.refl _ _ | refine bDrewN ?_ _ | refine Below.drew ?_ | refine bAlloc ?_ (Nat.le_refl _) _ | refine bSet ?_ (by first | exact Nat.le_refl _ | omega | (simp <;> omega)) _))⟩
        · rw [decide_eq_false (by omega : ¬ (0 ≤ a ∧ a < n))]
          go_enter Try.func27, Try.ntmps27
          go_wp2
          go_ret
          exact ⟨rfl, by (repeat' (first | assumption | exact Below.refl _ _ | refine bDrewN ?_ _ | refine Below.drew ?_ | refine bAlloc ?_ (Nat.le_refl _) _ | refine bSet ?_ (by first | exact Nat.le_refl _ | omega | (simp <;> omega)) _))⟩
      · rw [decide_eq_false (by omega : ¬ (0 ≤ a ∧ a < n))]
        go_enter Try.func27, Try.ntmps27
        go_wp2
        go_ret
        exact ⟨rfl, by (repeat' (first | assumption | exact Below.refl _ _ | refine bDrewN ?_ _ | refine Below.drew ?_ | refine bAlloc ?_ (Nat.le_refl _) _ | refine bSet ?_ (by first | exact Nat.le_refl _ | omega | (simp <;> omega)) _))⟩
    · rw [if_neg k2]
      by_cases k3 : k = 3
      · subst k3
        rw [if_pos rfl]
        by_cases h1 : 0 ≤ a
        · by_cases h2 : a < n
          · rw [decide_eq_true (⟨h1, h2⟩ : 0 ≤ a ∧ a < n)]
            by_cases h3 : 0 ≤ b
            · by_cases h4 : b < 4
              · rw [decide_eq_true (by omega : 0 ≤ b ∧ b ≤ 3)]
                go_enter Try.func27, Try.ntmps27
                go_wp2
                go_ret
                exact ⟨rfl, by (repeat' (first | assumption | exact Below.refl _ _ | refine bDrewN ?_ _ | refine Below.drew ?_ | refine bAlloc ?_ (Nat.le_refl _) _ | refine bSet ?_ (by first | exact Nat.le_refl _ | omega | (simp <;> omega)) _))⟩
              · rw [decide_eq_false (by omega : ¬ (0 ≤ b ∧ b ≤ 3))]
                go_enter Try.func27, Try.ntmps27
                go_wp2
                go_ret
                exact ⟨rfl, by (repeat' (first | assumption | exact Below.refl _ _ | refine bDrewN ?_ _ | refine Below.drew ?_ | refine bAlloc ?_ (Nat.le_refl _) _ | refine bSet ?_ (by first | exact Nat.le_refl _ | omega | (simp <;> omega)) _))⟩
            · rw [decide_eq_false (by omega : ¬ (0 ≤ b ∧ b ≤ 3))]
              go_enter Try.func27, Try.ntmps27
              go_wp2
              go_ret
              exact ⟨rfl, by (repeat' (first | assumption | exact Below.refl _ _ | refine bDrewN ?_ _ | refine Below.drew ?_ | refine bAlloc ?_ (Nat.le_refl _) _ | refine bSet ?_ (by first | exact Nat.le_refl _ | omega | (simp <;> omega)) _))⟩
          · rw [decide_eq_false (by omega : ¬ (0 ≤ a ∧ a < n))]
            go_enter Try.func27, Try.ntmps27
            go_wp2
            go_ret
            exact ⟨rfl, by (repeat' (first | assumption | exact Below.refl _ _ | refine bDrewN ?_ _ | refine Below.drew ?_ | refine bAlloc ?_ (Nat.le_refl _) _ | refine bSet ?_ (by first | exact Nat.le_refl _ | omega | (simp <;> omega)) _))⟩
        · rw [decide_eq_false (by omega : ¬ (0 ≤ a ∧ a < n))]
          go_enter Try.func27, Try.ntmps27
          go_wp2
          go_ret
          exact ⟨rfl, by (repeat' (first | assumption | exact Below.refl _ _ | refine bDrewN ?_ _ | refine Below.drew ?_ | refine bAlloc ?_ (Nat.le_refl _) _ | refine bSet ?_ (by first | exact Nat.le_refl _ | omega | (simp <;> omega)) _))⟩
      · rw [if_neg k3]
        obtain ⟨r, hr⟩ : ∃ r, arityI k = r := ⟨_, rfl⟩
        rw [hr]
        by_cases h1 : 0 ≤ r
        · rw [decide_eq_true h1]
          by_cases ha : a = 0
          all_goals
            by_cases hb : b = 0
            all_goals
              go_enter Try.func27, Try.ntmps27
              go_wp2_with fail
              refine (implArity_at k _ hr).mono ?_
              rintro e w1 ⟨rfl, rfl⟩
              go_wp2
              go_ret
              exact ⟨ret_bool (by simp [ha, hb]), by (repeat' (first | assumption | exact Below.refl _ _ | refine bDrewN ?_ _ | refine Below.drew ?_ | refine bAlloc ?_ (Nat.le_refl _) _ | refine bSet ?_ (by first | exact Nat.le_refl _ | omega | (simp <;> omega)) _))⟩
        · rw [decide_eq_false h1]
          go_enter Try.func27, Try.ntmps27
          go_wp2_with fail
          refine (implArity_at k _ hr).mono ?_
          rintro e w1 ⟨rfl, rfl⟩
          go_wp2
          go_ret
          exact ⟨rfl, by (repeat' (first | assumption | exact Below.refl _ _ | refine bDrewN ?_ _ | refine Below.drew ?_ | refine bAlloc ?_ (Nat.le_refl _) _ | refine bSet ?_ (by first | exact Nat.le_refl _ | omega | (simp <;> omega)) _))⟩

theorem implOp_at (n : Int) (o : DOp) {d : Bool} (w : World) (h : opB n o = d) :
    Calls Try.prog 27 #[.agg #[.int .i64 o.1, .int .i64 o.2.1, .int .i64 o.2.2], .int .i64 n] w fun e w' => e = .returned (.bool d) ∧ Below w.heap.size w w' := by
  subst h; exact implOp_any n _ _ _ w

set_option maxHeartbeats 3200000 in
theorem implOps_any (n : Int) (L : List DOp) (v : Value) {B T : Nat} (w : World) (h : rdOpS B T w [v] L) (hT : T ≤ w.heap.size) :
    Calls Try.prog 23 #[v, .int .i64 n] w fun e w' => e = .returned (.bool (opsB n L)) ∧ Below w.heap.size w w' := by
  obtain ⟨A, c, ea, hm, hA⟩ := h
  injection ea with ea
  subst ea
  unfold maxLen at hm
  have HA := Lib.hid hA
  clear hA
  unfold opsB
  by_cases hl : L.length ≤ 15
  · have t1 : ¬ (15 : Int) < (L.length : Int) := by omega
    rw [decide_eq_true hl]
    go_enter Try.func23, Try.ntmps23
    go_wp2
    go_loopw [5, 13] (fun q v wr => ∃ (i : Nat) (m : Int), i ≤ L.length ∧ v = .int .i64 i ∧ q = .int .i64 m ∧ 0 ≤ m ∧ m ≤ 1 + 2 * i ∧ runOps n 1 L = runOps n m (L.drop i) ∧ Below w.heap.size w wr) (fun _ v _ => L.length - (intOf v).toNat)
    case atStart => exact ⟨0, 1, Nat.zero_le _, rfl, rfl, by omega, by omega, rfl, Below.refl _ _⟩
    case round =>
      obtain ⟨i, m, hi, rfl, rfl, hm0, hm1, hrun, hb⟩ := hrel
      by_cases hlt : i < L.length
      · obtain ⟨b, o, rfl, _, _, us, hul, hc, hr⟩ := HA.out i hlt
        have hst := runOps_step n m L i hlt
        rw [← hrun] at hst
        obtain ⟨x, hx⟩ : ∃ x, L[i] = x := ⟨_, rfl⟩
        rw [hx] at hr hst
        obtain ⟨u0, u1, u2, rfl, ⟨e0, f0⟩, ⟨e1, f1⟩, ⟨e2, f2⟩⟩ := hr
        injection e0 with e0
        injection e1 with e1
        injection e2 with e2
        subst e0 e1 e2
        have c0 : wr.cell? ⟨b, o + i * 3, none⟩ = some (.int .i64 x.1) := keep hb (hc 0 _ rfl)
        have c1 : wr.cell? ⟨b, o + i * 3 + 1, none⟩ = some (.int .i64 x.2.1) := keep hb (hc 1 _ rfl)
        have c2 : wr.cell? ⟨b, o + i * 3 + 2, none⟩ = some (.int .i64 x.2.2) := keep hb (hc 2 _ rfl)
        have har := arityI_le x.1
        obtain ⟨d, hd⟩ : ∃ d, opB n x = d := ⟨_, rfl⟩
        obtain ⟨r, hr⟩ : ∃ r, arityI x.1 = r := ⟨_, rfl⟩
        have hdr : d = true → 0 ≤ r := fun e => by rw [← hr]; exact opB_ar (by rw [hd, e])
        rw [hd, hr] at hst
        rw [hr] at har
        have HB := Lib.hid hb
        have HS := Lib.hid (And.intro hst (And.intro hd hr))
        clear hb hst hd hr hc hul hx hrun f0 f1 f2
        by_cases hz : m = 0
        · subst hz
          go_wp2
          go_ret
          exact ⟨ret_bool (by rw [HS.out.1]; simp), bThen HB.out (bAlloc (Below.refl _ _) (Nat.le_refl _) _)⟩
        · have hz' : (m == 0) = false := by simpa using hz
          go_wp2_with fail
          refine (implOp_at n x _ HS.out.2.1).mono ?_
          rintro e w2 ⟨rfl, hb⟩
          have g := box1 hb
          have y0 : w2.cell? ⟨wr.heap.size, 0, none⟩ = some (.int .i64 x.1) := box_cell g.1 0 _ rfl
          have R := Lib.hid (bThen HB.out g.2)
          clear hb c0 c1 c2 g
          cases d
          · go_wp2
            go_ret
            exact ⟨ret_bool (by rw [HS.out.1, if_neg hz]; simp), R.out⟩
          · have hr0 := hdr rfl
            go_wp2_with fail
            refine (implArity_at x.1 _ HS.out.2.2).mono ?_
            rintro e w3 ⟨rfl, rfl⟩
            go_wp2
            go_roundw
            case rel => exact ⟨i + 1, m - 1 + r, by omega, by go_num, by first | go_num | (congr 1; omega), by omega, by omega, by rw [HS.out.1, if_neg hz]; simp, R.out⟩
            case measure => simp [intOf]; omega
      · obtain rfl : i = L.length := by omega
        rw [List.drop_length] at hrun
        have HB := Lib.hid hb
        have HR := Lib.hid hrun
        clear hb hrun
        by_cases hz : m = 0
        all_goals
          go_wp2
          go_ret
          exact ⟨ret_bool (by rw [HR.out]; simp [runOps, hz]), HB.out⟩
  · have t1 : (15 : Int) < (L.length : Int) := by omega
    rw [decide_eq_false hl]
    go_enter Try.func23, Try.ntmps23
    go_wp2
    go_ret
    exact ⟨rfl, Below.refl _ _⟩
end Go.Proofs.Ytmalaleinmoihaa
