/-
  What IsHashed of the program calls, and the pure part.
-/
import Derived.Test.YtedamhkcblemdaaHhA
import Derived.Test.YtedamhkcblemdaaHiN
namespace Go.Proofs.Ytedamhkcblemdaa
open Go.RowKit
set_option linter.unusedVariables false
set_option linter.unusedSimpArgs false
set_option maxHeartbeats 1600000 in
theorem indexF_at (Wt : List Bool) (v : Value) {B T : Nat} (w : World) (h : rdBoolS B T w [v] Wt) :
    Calls Try.prog 119 #[v, .bool false] w fun e w' => (∃ r : Int, e = .returned (.int .i64 r) ∧ decide (0 ≤ r) = Wt.any not) ∧ w = w' := by
  obtain ⟨A, c, ea, hm, hA⟩ := h
  injection ea with ea
  subst ea
  unfold maxLen at hm
  have HA := Lib.hid hA
  clear hA
  go_enter Try.func119, Try.ntmps119
  go_wp2
  go_loop [8] (fun v => ∃ i : Nat, i ≤ Wt.length ∧ v = .int .i64 i ∧ (Wt.take i).any not = false) (fun v => Wt.length - (intOf v).toNat)
  case atStart => exact ⟨0, Nat.zero_le _, rfl, by simp⟩
  case round =>
    obtain ⟨i, hi, rfl, hno⟩ := hrel
    have HN := Lib.hid hno
    clear hno
    by_cases hlt : i < Wt.length
    · obtain ⟨b, o, rfl, _, _, us, _, hc, hr⟩ := HA.out i hlt
      have hr' : us = [.bool (Wt[i]'hlt)] := hr
      subst hr'
      have x0 := hc 0 _ rfl
      rw [Nat.add_zero, Nat.mul_one] at x0
      have HX := Lib.hid (show Wt[i]? = some (Wt[i]'hlt) from List.getElem?_eq_getElem hlt)
      clear hc hr
      obtain ⟨y, hy⟩ : ∃ y, Wt[i]'hlt = y := ⟨_, rfl⟩
      rw [hy] at x0 HX
      clear hy
      cases y with
      | false =>
        have HY := Lib.hid (show Wt.any not = true by rw [List.any_eq_true]; exact ⟨false, List.mem_of_getElem? HX.out, rfl⟩)
        go_wp2
        go_ret
        exact ⟨⟨_, rfl, by rw [HY.out]; simp⟩, rfl⟩
      | true =>
        have HY := Lib.hid (show (Wt.take (i + 1)).any not = false by rw [List.take_add_one, HX.out, List.any_append, HN.out]; rfl)
        go_wp2
        go_round
        case rel => exact ⟨i + 1, by omega, by go_num, HY.out⟩
        case measure => simp [intOf]; omega
    · obtain rfl : i = Wt.length := by omega
      have HF := Lib.hid (show Wt.any not = false by have := HN.out; rwa [List.take_length] at this)
      go_wp2
      go_ret
      exact ⟨⟨_, rfl, by rw [HF.out]; rfl⟩, rfl⟩
theorem containsF_at (Wt : List Bool) (v : Value) {B T : Nat} {r : Bool} (w : World) (h : rdBoolS B T w [v] Wt) (hr : Wt.any not = r) :
    Calls Try.prog 70 #[v, .bool false] w fun e w' => e = .returned (.bool r) ∧ w = w' := by
  have HR := Lib.hid hr
  clear hr
  go_enter Try.func70, Try.ntmps70
  go_wp2_with fail
  refine (indexF_at Wt v _ h).mono ?_
  rintro e w1 ⟨⟨q, rfl, hq⟩, rfl⟩
  have HQ := Lib.hid (hq.trans HR.out)
  clear hq
  go_wp2
  go_ret
  exact ⟨ret_bool HQ.out, rfl⟩

theorem drop_rd {w : World} {B G n c : Nat} {R : List Bool} (h : OwnsB w B (.slice (some ⟨G, 0, none⟩) n c) R) (hn : R.length = n) {F : Nat} (hF : F ≤ n) (hm : n ≤ maxLen) : rdBoolS 0 w.heap.size w [.slice (some ⟨G, F, none⟩) (n - F) (c - F)] (R.drop F) := by
  obtain ⟨A', c', e', hm', -⟩ := h.rd
  injection e' with e'
  injection e' with e1 e2 e3
  subst e3
  have hm1 := hm'.1
  have hm2 := hm'.2
  refine ⟨_, _, by rw [List.length_drop, hn], by rw [List.length_drop]; omega, fun j hj => ?_⟩
  rw [List.length_drop] at hj
  have hc := (OwnsB.shapeN h hn (t := F + j) (by omega)).1
  refine ⟨G, F, rfl, Nat.zero_le _, (OwnsB.ltN h).1, [.bool (R.getD (F + j) false)], rfl, fun i u hu => ?_, ?_⟩
  · cases i with
    | zero => injection hu with hu; subst hu; rw [Nat.add_zero, Nat.mul_one]; exact hc
    | succ i => cases hu
  · show [Value.bool _] = [Value.bool _]
    rw [List.getElem_drop, List.getD_eq_getElem?_getD, List.getElem?_eq_getElem (by omega)]
    rfl
theorem cntK_le (A : List DAnd) : ∀ k, cntK A k ≤ k
  | 0 => Nat.le_refl _
  | k + 1 => by
    have ih := cntK_le A k
    unfold cntK
    split
    · omega
    · split <;> omega
theorem cntK_full {A : List DAnd} : ∀ {k : Nat}, cntK A k = k → ∀ (i : Nat), i < k → ∀ x, A[i]? = some x → ∀ j : Nat, j < i → A[j]? ≠ some x
  | 0, _, i, hi => absurd hi (Nat.not_lt_zero _)
  | k + 1, h, i, hi => by
    have hle := cntK_le A k
    intro x hx j hj
    cases hk : A[k]? with
    | none => rw [show cntK A (k + 1) = cntK A k by conv => lhs; unfold cntK; rw [hk]] at h; omega
    | some y =>
      cases e : idxG y (A.take k) 0 with
      | some t => rw [cntK_old hk e] at h; omega
      | none =>
        rw [cntK_new hk e] at h
        by_cases hik : i = k
        · subst hik
          rw [hk] at hx
          injection hx with hx
          subst hx
          have := idxG_none e j
          rw [List.getElem?_take] at this
          rw [if_pos hj] at this
          exact this
        · exact cntK_full (k := k) (by omega) i (by omega) x hx j hj
theorem cntK_of {A : List DAnd} : ∀ {k : Nat}, k ≤ A.length → (∀ (i : Nat), i < k → ∀ x, A[i]? = some x → ∀ j : Nat, j < i → A[j]? ≠ some x) → cntK A k = k
  | 0, _, _ => rfl
  | k + 1, hk, h => by
    have ih := cntK_of (A := A) (k := k) (by omega) (fun i hi => h i (by omega))
    obtain ⟨x, hx⟩ : ∃ x, A[k]? = some x := ⟨_, List.getElem?_eq_getElem (by omega)⟩
    rw [cntK_new hx (idxG_miss fun j hj => by
      rw [List.length_take] at hj
      rw [List.getElem?_take, if_pos (by omega)]
      exact h k (by omega) x hx j (by omega)), ih]
/-- What the program asks of one AND node. -/
theorem shape_triv {p q : Nat} : (2 ≤ (p : Int) ∧ (p : Int) < (q : Int) ∧ ¬ ((p : Int) % 2 = 0 ∧ (q : Int) = (p : Int) + 1)) ↔ ((trivO (p : Int) (q : Int)).2 = false ∧ (p : Int) ≤ (q : Int)) := by
  unfold trivO cI
  constructor
  · intro ⟨h1, h2, h3⟩
    rw [if_neg (by split <;> omega), if_neg (by omega)]
    exact ⟨rfl, by omega⟩
  · intro ⟨h1, h2⟩
    by_cases c1 : (p : Int) = 0 ∨ (p : Int) = (if (q : Int) % 2 = 0 then (q : Int) + 1 else (q : Int) - 1)
    · rw [if_pos c1] at h1; cases h1
    · rw [if_neg c1] at h1
      by_cases c2 : (p : Int) = 1 ∨ (p : Int) = (q : Int)
      · rw [if_pos c2] at h1; cases h1
      · split at c1 <;> refine ⟨by omega, by omega, by omega⟩
theorem any_drop {R : List Bool} {F : Nat} (h : (R.drop F).any not = false) {i : Nat} (hi : F + i < R.length) : R.getD (F + i) false = true := by
  rw [List.getD_eq_getElem?_getD, List.getElem?_eq_getElem hi, Option.getD_some]
  cases e : R[F + i] with
  | true => rfl
  | false =>
    have : (R.drop F).any not = true := List.any_eq_true.2 ⟨false, List.mem_of_getElem? (i := i) (by rw [List.getElem?_drop, List.getElem?_eq_getElem hi, e]), rfl⟩
    rw [h] at this; cases this
theorem drop_any {R : List Bool} {F : Nat} (h : (R.drop F).any not = true) : ∃ i, F + i < R.length ∧ R.getD (F + i) false = false := by
  obtain ⟨b, hb, hn⟩ := List.any_eq_true.1 h
  obtain ⟨i, hi, e⟩ := List.getElem_of_mem hb
  rw [List.length_drop] at hi
  refine ⟨i, by omega, ?_⟩
  rw [List.getElem_drop] at e
  rw [List.getD_eq_getElem?_getD, List.getElem?_eq_getElem (by omega), Option.getD_some, e]
  cases b with
  | false => rfl
  | true => cases hn
/-- What is left once all AND nodes are reached and of the right shape. -/
theorem hashed_cnt {n : DNet} {R : List Bool} (hP : NetP n) (hR : reachO n = R) (hl : R.length = firN n + n.2.2.1.length) (hk : (R.drop (firN n)).any not = false)
    (hs : ∀ (i : Nat) (a : DAnd), n.2.2.1[i]? = some a → 2 ≤ a.1 ∧ a.1 < a.2 ∧ ¬ (a.1 % 2 = 0 ∧ a.2 = a.1 + 1)) : hashedB n = decide (cntK n.2.2.1 n.2.2.1.length = n.2.2.1.length) := by
  by_cases hc : cntK n.2.2.1 n.2.2.1.length = n.2.2.1.length
  · rw [decide_eq_true hc]
    refine hashed_good hP hR fun i hi => ?_
    have ha := List.getElem?_eq_getElem hi
    exact hashAt_ok ha (any_drop hk (by omega)) (hs i _ ha) (fun k hki => cntK_full hc i hi _ ha k hki)
  · rw [decide_eq_false hc]
    cases e : hashedB n with
    | false => rfl
    | true =>
      refine absurd (cntK_of (Nat.le_refl _) fun i hi x hx j hj hjx => ?_) hc
      rw [hashed_bad hR hi (hashAt_dup hx hj hjx)] at e
      cases e
end Go.Proofs.Ytedamhkcblemdaa
