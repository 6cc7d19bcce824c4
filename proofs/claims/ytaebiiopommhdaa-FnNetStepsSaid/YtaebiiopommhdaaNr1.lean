/-
  The next state of one element, both sides.
-/
import Derived.Test.YtaebiiopommhdaaNrM
import Derived.Test.YtaebiiopommhdaaBitI
import Derived.Test.YtaebiiopommhdaaNet3
import Derived.BigQuiet
import Derived.Deep.QuietTactic
namespace Go.Proofs.Ytaebiiopommhdaa
open Go.RowKit
set_option linter.unusedVariables false
set_option linter.unusedSimpArgs false

theorem bitOf_at (n : Int) (k : Nat) (hk : k ≤ 63) {r : Int} (w : World) (hr : n / 2 ^ k % 2 = r) :
    Calls Try.prog 50 #[.int .i64 n, .int .i64 (k : Int)] w fun e w' => e = .returned (.int .i64 r) ∧ w = w' := by
  have e1 : n / 2 ^ min (k : Int).toNat 64 = n / 2 ^ k := by rw [show min (k : Int).toNat 64 = k by omega]
  have e2 := and_one (n / 2 ^ k)
  rw [hr] at e2
  clear hr
  go_enter Try.func50, Try.ntmps50
  go_wp2
  go_ret
  exact ⟨rfl, rfl⟩
theorem valB_st (k v : Int) : valB k v = decide (0 ≤ v ∧ v < stI k) := by
  unfold valB stI
  apply decide_eq_decide.2
  by_cases h0 : k = 0
  · simp [h0] <;> omega
  · by_cases h1 : k = 1
    · simp [h1] <;> omega
    · simp [h0, h1] <;> omega
theorem seqVal_at (k v : Int) {r : Bool} (w : World) (hr : valB k v = r) :
    Calls Try.prog 46 #[.int .i64 k, .int .i64 v] w fun e w' => e = .returned (.bool r) ∧ Below w.heap.size w w' := by
  rw [valB_st] at hr
  have HR := Lib.hid hr
  clear hr
  by_cases h0 : v < 0
  · go_enter Try.func46, Try.ntmps46
    go_wp2
    go_ret
    refine ⟨ret_bool ?_, by (repeat' (first | assumption | exact Below.refl _ _ | refine bDrewN ?_ _ | refine Below.drew ?_ | refine bAlloc ?_ (Nat.le_refl _) _ | refine bSet ?_ (by first | exact Nat.le_refl _ | omega | (simp <;> omega)) _))⟩
    rw [← HR.out]
    exact (decide_eq_false (by omega)).symm
  · obtain ⟨q, hq⟩ : ∃ q, stI k = q := ⟨_, rfl⟩
    have HQ := Lib.hid hq
    clear hq
    go_enter Try.func46, Try.ntmps46
    go_wp2_with fail
    refine (seqStates_at k _ HQ.out).mono ?_
    rintro e w1 ⟨rfl, hb⟩
    have HB := Lib.hid hb
    clear hb
    go_wp2
    go_ret
    refine ⟨ret_bool ?_, HB.out⟩
    rw [← HR.out, HQ.out]
    apply decide_eq_decide.2
    omega
theorem trunc2_at (n : Int) {r : Int} (w : World) (hr : n % 4 = r) :
    Calls Try.prog 76 #[.int .i64 n, .int .i64 2] w fun e w' => e = .returned (.int .i64 r) ∧ w = w' := by
  have e1 := and_three n
  rw [hr] at e1
  clear hr
  go_enter Try.func76, Try.ntmps76
  go_wp2
  go_ret
  exact ⟨rfl, rfl⟩
-- GEN
set_option maxRecDepth 100000 in
theorem ram_or1 : ∀ (s : Fin 16) (a : Fin 4) (d o : Fin 2), bits .or .i64 ((s.val - s.val / 2 ^ a.val % 2 * 2 ^ a.val : Nat) : Int) ((d.val : Int) * 2 ^ a.val) = ((s.val - s.val / 2 ^ a.val % 2 * 2 ^ a.val + d.val * 2 ^ a.val : Nat) : Int) ∧ s.val - s.val / 2 ^ a.val % 2 * 2 ^ a.val + d.val * 2 ^ a.val < 16 := by decide
set_option maxRecDepth 100000 in
theorem ram_not1 : ∀ (s : Fin 16) (a : Fin 4), bits .andNot .i64 (s.val : Int) (2 ^ a.val) = ((s.val - s.val / 2 ^ a.val % 2 * 2 ^ a.val : Nat) : Int) := by decide
set_option maxRecDepth 100000 in
theorem ram_or2 : ∀ (s : Fin 16) (o : Fin 2), bits .or .i64 ((s.val : Int) * 2) (o.val : Int) = ((s.val * 2 + o.val : Nat) : Int) := by decide
/-- What the program makes of a memory. -/
def ramP (v a c d : Nat) : Nat :=
  let s := v / 2
  (if c = 1 then s - s / 2 ^ a % 2 * 2 ^ a + d * 2 ^ a else s) * 2 + s / 2 ^ a % 2
set_option maxRecDepth 100000 in
theorem ramP_eq : ∀ (v : Fin 32) (y : Fin 16), ramI ((v.val : Nat) : Int) ((y.val : Nat) : Int) = (ramP v.val (y.val % 4) (y.val / 8 % 2) (y.val / 4 % 2) : Int) := by decide
theorem ramP_of {v : Nat} (hv : v < 32) (x : Int) {a c d : Nat} (ha : x % 4 = (a : Int)) (hc : x / 8 % 2 = (c : Int)) (hd : x / 4 % 2 = (d : Int)) : ramI (v : Int) x = (ramP v a c d : Int) := by
  rw [ramI_mod]
  obtain ⟨y, hy⟩ : ∃ y : Nat, x % 16 = (y : Int) := ⟨(x % 16).toNat, by omega⟩
  have h := ramP_eq ⟨v, hv⟩ ⟨y, by omega⟩
  rw [hy]
  rw [h]
  dsimp only
  rw [show y % 4 = a by omega, show y / 8 % 2 = c by omega, show y / 4 % 2 = d by omega]
theorem ramNext_at (v : Nat) (hv : v < 32) (x : Int) {r : Int} (w : World) (hr : ramI (v : Int) x = r) :
    Calls Try.prog 49 #[.int .i64 (v : Int), .int .i64 x] w fun e w' => e = .returned (.int .i64 r) ∧ Below w.heap.size w w' := by
  obtain ⟨s, hs, hs16⟩ : ∃ s : Nat, v / 2 = s ∧ s < 16 := ⟨_, rfl, by omega⟩
  have es : (v : Int) / 2 = (s : Int) := by omega
  obtain ⟨a, ha, ha4⟩ : ∃ a : Nat, x % 4 = (a : Int) ∧ a < 4 := ⟨(x % 4).toNat, by omega, by omega⟩
  obtain ⟨c, hc, hc2⟩ : ∃ c : Nat, x / 8 % 2 = (c : Int) ∧ c < 2 := ⟨(x / 8 % 2).toNat, by omega, by omega⟩
  obtain ⟨d, hd, hd2⟩ : ∃ d : Nat, x / 4 % 2 = (d : Int) ∧ d < 2 := ⟨(x / 4 % 2).toNat, by omega, by omega⟩
  obtain ⟨ov, ho, ho2⟩ : ∃ ov : Nat, (s : Int) / 2 ^ a % 2 = (ov : Int) ∧ ov < 2 := ⟨s / 2 ^ a % 2, by rw [Int.natCast_emod, Int.natCast_ediv, Int.natCast_pow]; rfl, by omega⟩
  have hon : s / 2 ^ a % 2 = ov := by
    have : ((s / 2 ^ a % 2 : Nat) : Int) = (ov : Int) := by rw [← ho, Int.natCast_emod, Int.natCast_ediv, Int.natCast_pow]; rfl
    omega
  have hR := (ramP_of hv x ha hc hd).symm.trans hr
  have HC := Lib.hid (show x / 2 ^ 3 % 2 = (c : Int) from hc)
  have HD := Lib.hid (show x / 2 ^ 2 % 2 = (d : Int) from hd)
  have HA := Lib.hid ha
  have HO := Lib.hid ho
  have n1 := ram_not1 ⟨s, hs16⟩ ⟨a, ha4⟩
  have n2 := ram_or1 ⟨s, hs16⟩ ⟨a, ha4⟩ ⟨d, hd2⟩ ⟨0, by omega⟩
  dsimp only at n1 n2
  have hp : (s - s / 2 ^ a % 2 * 2 ^ a) + d * 2 ^ a < 16 := n2.2
  have n2 := n2.1
  rcases (by omega : c = 0 ∨ c = 1) with rfl | rfl
  · have e2 := ram_or2 ⟨s, hs16⟩ ⟨ov, ho2⟩
    dsimp only at e2
    have hR2 : ((s * 2 + ov : Nat) : Int) = r := by rw [← hR]; simp only [ramP, hs, hon]; rw [if_neg (by decide)]
    rw [hR2] at e2
    clear hR hR2 hr hc hd ha ho n1 n2 hp hon hs
    go_enter Try.func49, Try.ntmps49
    go_wp2_with fail
    refine (trunc2_at x _ HA.out).mono ?_
    rintro e w1 ⟨rfl, rfl⟩
    go_wp2_with fail
    refine (bitOf_at _ a (by omega) _ HO.out).mono ?_
    rintro e w1 ⟨rfl, rfl⟩
    go_wp2_with fail
    refine (bitOf_at x 3 (by omega) _ HC.out).mono ?_
    rintro e w1 ⟨rfl, rfl⟩
    go_wp2
    go_ret
    exact ⟨rfl, by (repeat' (first | assumption | exact Below.refl _ _ | refine bDrewN ?_ _ | refine Below.drew ?_ | refine bAlloc ?_ (Nat.le_refl _) _ | refine bSet ?_ (by first | exact Nat.le_refl _ | omega | (simp <;> omega)) _))⟩
  · obtain ⟨m, hm⟩ : ∃ m : Nat, s - s / 2 ^ a % 2 * 2 ^ a = m := ⟨_, rfl⟩
    rw [hm] at n1 n2 hp
    obtain ⟨q, hq⟩ : ∃ q : Nat, m + d * 2 ^ a = q := ⟨_, rfl⟩
    rw [hq] at n2 hp
    have e2 := ram_or2 ⟨q, hp⟩ ⟨ov, ho2⟩
    dsimp only at e2
    have hR2 : ((q * 2 + ov : Nat) : Int) = r := by rw [← hR]; simp only [ramP, hs, ↓reduceIte, hm, hq]; rw [hon]
    rw [hR2] at e2
    have hm16 : m < 16 := by omega
    clear hR hR2 hr hc hd ha ho hon hs hm hq
    rcases (by omega : a = 0 ∨ a = 1 ∨ a = 2 ∨ a = 3) with rfl | rfl | rfl | rfl
    · have e3 : bits .andNot .i64 (s : Int) 1 = (m : Int) := n1
      have e4 : bits .or .i64 (m : Int) (d : Int) = (q : Int) := by rw [← n2]; simp
      have wq : wrap64 ((q : Int) * 2) = (q : Int) * 2 := by unfold wrap64; omega
      clear n1 n2
      go_enter Try.func49, Try.ntmps49
      go_wp2_with fail
      refine (trunc2_at x _ HA.out).mono ?_
      rintro e w1 ⟨rfl, rfl⟩
      go_wp2_with fail
      refine (bitOf_at _ 0 (by omega) _ HO.out).mono ?_
      rintro e w1 ⟨rfl, rfl⟩
      go_wp2_with fail
      refine (bitOf_at x 3 (by omega) _ HC.out).mono ?_
      rintro e w1 ⟨rfl, rfl⟩
      go_wp2_with fail
      go_quiet (first | (go_at_call 50; refine quietly (bitOf_at x 2 (by omega) _ HD.out)))
      go_wp2
      go_ret
      exact ⟨rfl, by (repeat' (first | assumption | exact Below.refl _ _ | refine bDrewN ?_ _ | refine Below.drew ?_ | refine bAlloc ?_ (Nat.le_refl _) _ | refine bSet ?_ (by first | exact Nat.le_refl _ | omega | (simp <;> omega)) _))⟩
    · have e3 : bits .andNot .i64 (s : Int) 2 = (m : Int) := n1
      have e4 : bits .or .i64 (m : Int) ((d : Int) * 2) = (q : Int) := n2
      have wq : wrap64 ((q : Int) * 2) = (q : Int) * 2 := by unfold wrap64; omega
      clear n1 n2
      go_enter Try.func49, Try.ntmps49
      go_wp2_with fail
      refine (trunc2_at x _ HA.out).mono ?_
      rintro e w1 ⟨rfl, rfl⟩
      go_wp2_with fail
      refine (bitOf_at _ 1 (by omega) _ HO.out).mono ?_
      rintro e w1 ⟨rfl, rfl⟩
      go_wp2_with fail
      refine (bitOf_at x 3 (by omega) _ HC.out).mono ?_
      rintro e w1 ⟨rfl, rfl⟩
      go_wp2_with fail
      go_quiet (first | (go_at_call 50; refine quietly (bitOf_at x 2 (by omega) _ HD.out)))
      go_wp2
      go_ret
      exact ⟨rfl, by (repeat' (first | assumption | exact Below.refl _ _ | refine bDrewN ?_ _ | refine Below.drew ?_ | refine bAlloc ?_ (Nat.le_refl _) _ | refine bSet ?_ (by first | exact Nat.le_refl _ | omega | (simp <;> omega)) _))⟩
    · have e3 : bits .andNot .i64 (s : Int) 4 = (m : Int) := n1
      have e4 : bits .or .i64 (m : Int) ((d : Int) * 4) = (q : Int) := n2
      have wq : wrap64 ((q : Int) * 2) = (q : Int) * 2 := by unfold wrap64; omega
      clear n1 n2
      go_enter Try.func49, Try.ntmps49
      go_wp2_with fail
      refine (trunc2_at x _ HA.out).mono ?_
      rintro e w1 ⟨rfl, rfl⟩
      go_wp2_with fail
      refine (bitOf_at _ 2 (by omega) _ HO.out).mono ?_
      rintro e w1 ⟨rfl, rfl⟩
      go_wp2_with fail
      refine (bitOf_at x 3 (by omega) _ HC.out).mono ?_
      rintro e w1 ⟨rfl, rfl⟩
      go_wp2_with fail
      go_quiet (first | (go_at_call 50; refine quietly (bitOf_at x 2 (by omega) _ HD.out)))
      go_wp2
      go_ret
      exact ⟨rfl, by (repeat' (first | assumption | exact Below.refl _ _ | refine bDrewN ?_ _ | refine Below.drew ?_ | refine bAlloc ?_ (Nat.le_refl _) _ | refine bSet ?_ (by first | exact Nat.le_refl _ | omega | (simp <;> omega)) _))⟩
    · have e3 : bits .andNot .i64 (s : Int) 8 = (m : Int) := n1
      have e4 : bits .or .i64 (m : Int) ((d : Int) * 8) = (q : Int) := n2
      have wq : wrap64 ((q : Int) * 2) = (q : Int) * 2 := by unfold wrap64; omega
      clear n1 n2
      go_enter Try.func49, Try.ntmps49
      go_wp2_with fail
      refine (trunc2_at x _ HA.out).mono ?_
      rintro e w1 ⟨rfl, rfl⟩
      go_wp2_with fail
      refine (bitOf_at _ 3 (by omega) _ HO.out).mono ?_
      rintro e w1 ⟨rfl, rfl⟩
      go_wp2_with fail
      refine (bitOf_at x 3 (by omega) _ HC.out).mono ?_
      rintro e w1 ⟨rfl, rfl⟩
      go_wp2_with fail
      go_quiet (first | (go_at_call 50; refine quietly (bitOf_at x 2 (by omega) _ HD.out)))
      go_wp2
      go_ret
      exact ⟨rfl, by (repeat' (first | assumption | exact Below.refl _ _ | refine bDrewN ?_ _ | refine Below.drew ?_ | refine bAlloc ?_ (Nat.le_refl _) _ | refine bSet ?_ (by first | exact Nat.le_refl _ | omega | (simp <;> omega)) _))⟩
theorem implSeq_at (k v x : Int) {r : Int} (w : World) (hr : seqI k v x = r) :
    Calls Try.prog 23 #[.int .i64 k, .int .i64 v, .int .i64 x] w fun e w' => e = .returned (.int .i64 r) ∧ Below w.heap.size w w' := by
  obtain ⟨b, hb⟩ : ∃ b, valB k v = b := ⟨_, rfl⟩
  have HV := Lib.hid hb
  cases b with
  | false =>
    rw [seqI_no hb] at hr
    subst hr
    clear hb
    go_enter Try.func23, Try.ntmps23
    go_wp2_with fail
    refine (seqVal_at k v _ HV.out).mono ?_
    rintro e w1 ⟨rfl, hb⟩
    have HB := Lib.hid hb
    clear hb
    go_wp2
    go_ret
    exact ⟨rfl, HB.out⟩
  | true =>
    have hK := of_decide_eq_true hb
    have HR := Lib.hid hr
    clear hb hr
    rcases hK with ⟨rfl, h0, h1⟩ | ⟨rfl, h0, h1⟩
    · have HQ := Lib.hid (show x / 2 ^ 0 % 2 = r by rw [← HR.out]; unfold seqI; rw [if_pos ⟨rfl, h0, h1⟩]; simp)
      go_enter Try.func23, Try.ntmps23
      go_wp2_with fail
      refine (seqVal_at 0 v _ HV.out).mono ?_
      rintro e w1 ⟨rfl, hb⟩
      have HB := Lib.hid hb
      clear hb
      go_wp2_with fail
      refine (bitOf_at x 0 (by omega) _ HQ.out).mono ?_
      rintro e w1 ⟨rfl, rfl⟩
      go_wp2
      go_ret
      exact ⟨rfl, HB.out⟩
    · obtain ⟨u, rfl⟩ := Int.eq_ofNat_of_zero_le h0
      have hu : u < 32 := by omega
      have HQ := Lib.hid (show ramI (u : Int) x = r by rw [← HR.out]; unfold seqI; rw [if_neg (by omega), if_pos ⟨rfl, h0, h1⟩])
      go_enter Try.func23, Try.ntmps23
      go_wp2_with fail
      refine (seqVal_at 1 u _ HV.out).mono ?_
      rintro e w1 ⟨rfl, hb⟩
      have HB := Lib.hid hb
      clear hb
      go_wp2_with fail
      refine (ramNext_at u hu x _ HQ.out).mono ?_
      rintro e w2 ⟨rfl, hb⟩
      replace HB := Lib.hid (bThen HB.out hb)
      clear hb
      go_wp2
      go_ret
      exact ⟨rfl, HB.out⟩
set_option maxRecDepth 100000 in
theorem ram_sp1 : ∀ (v : Fin 32), bits .andNot .i64 (v.val : Int) 1 = ((v.val - v.val % 2 : Nat) : Int) := by decide
set_option maxRecDepth 100000 in
theorem ram_sp2 : ∀ (n : Fin 32) (a : Fin 4), bits .andNot .i64 (n.val : Int) (2 ^ (a.val + 1)) = ((n.val - n.val / 2 ^ (a.val + 1) % 2 * 2 ^ (a.val + 1) : Nat) : Int) := by decide
/-- What the specification makes of a memory. -/
def ramS (v a c d : Nat) : Nat :=
  let n := v - v % 2 + v / 2 ^ (a + 1) % 2
  if c = 1 then n - n / 2 ^ (a + 1) % 2 * 2 ^ (a + 1) + d * 2 ^ (a + 1) else n
set_option maxRecDepth 100000 in
theorem ramS_eq : ∀ (v : Fin 32) (y : Fin 16), ramI ((v.val : Nat) : Int) ((y.val : Nat) : Int) = (ramS v.val (y.val % 4) (y.val / 8 % 2) (y.val / 4 % 2) : Int) := by decide
theorem ramS_of {v : Nat} (hv : v < 32) (x : Int) {a c d : Nat} (ha : x % 4 = (a : Int)) (hc : x / 8 % 2 = (c : Int)) (hd : x / 4 % 2 = (d : Int)) : ramI (v : Int) x = (ramS v a c d : Int) := by
  rw [ramI_mod]
  obtain ⟨y, hy⟩ : ∃ y : Nat, x % 16 = (y : Int) := ⟨(x % 16).toNat, by omega⟩
  have h := ramS_eq ⟨v, hv⟩ ⟨y, by omega⟩
  rw [hy]
  rw [h]
  dsimp only
  rw [show y % 4 = a by omega, show y / 8 % 2 = c by omega, show y / 4 % 2 = d by omega]
theorem specSeq_at (k v x : Int) {r : Int} (w : World) (hr : seqI k v x = r) :
    Calls Try.prog 24 #[.int .i64 k, .int .i64 v, .int .i64 x] w fun e w' => e = .returned (.int .i64 r) ∧ Below w.heap.size w w' := by
  have HR := Lib.hid hr
  clear hr
  by_cases k0 : k = 0
  · subst k0
    by_cases h1 : 0 ≤ v ∧ v ≤ 1
    · have HQ := Lib.hid (show decide ((0 : Int) ≤ v ∧ v ≤ 1) = true from decide_eq_true h1)
      have e1 := and_one x
      have HE := Lib.hid (show x % 2 = r by rw [← HR.out]; unfold seqI; rw [if_pos ⟨rfl, h1⟩])
      rw [HE.out] at e1
      go_enter Try.func24, Try.ntmps24
      go_wp2_with fail
      refine (specIn_at _ _ _ _ HQ.out).mono ?_
      rintro e w1 ⟨rfl, hb⟩
      have HB := Lib.hid hb
      clear hb
      go_wp2
      go_ret
      exact ⟨rfl, HB.out⟩
    · have HQ := Lib.hid (show decide ((0 : Int) ≤ v ∧ v ≤ 1) = false from decide_eq_false h1)
      have HE : r = -1 := by rw [← HR.out]; unfold seqI; rw [if_neg (fun c => h1 c.2), if_neg (by omega)]
      subst HE
      clear h1
      go_enter Try.func24, Try.ntmps24
      go_wp2_with fail
      refine (specIn_at _ _ _ _ HQ.out).mono ?_
      rintro e w1 ⟨rfl, hb⟩
      have HB := Lib.hid hb
      clear hb
      go_wp2
      go_ret
      exact ⟨rfl, HB.out⟩
  have b0 : (k == 0) = false := by simp [k0]
  by_cases k1 : k = 1
  · subst k1
    by_cases h1 : 0 ≤ v ∧ v ≤ 31
    · have HQ := Lib.hid (show decide ((0 : Int) ≤ v ∧ v ≤ 31) = true from decide_eq_true h1)
      obtain ⟨u, rfl⟩ := Int.eq_ofNat_of_zero_le h1.1
      have hu : u < 32 := by omega
      have HE : ramI (u : Int) x = r := by rw [← HR.out]; unfold seqI; rw [if_neg (by omega), if_pos ⟨rfl, h1⟩]
      obtain ⟨a, ha, ha4⟩ : ∃ a : Nat, x % 4 = (a : Int) ∧ a < 4 := ⟨(x % 4).toNat, by omega, by omega⟩
      obtain ⟨c, hc, hc2⟩ : ∃ c : Nat, x / 8 % 2 = (c : Int) ∧ c < 2 := ⟨(x / 8 % 2).toNat, by omega, by omega⟩
      obtain ⟨d, hd, hd2⟩ : ∃ d : Nat, x / 4 % 2 = (d : Int) ∧ d < 2 := ⟨(x / 4 % 2).toNat, by omega, by omega⟩
      have hR := (ramS_of hu x ha hc hd).symm.trans HE
      have n1 := ram_sp1 ⟨u, hu⟩
      dsimp only at n1
      obtain ⟨m, hm⟩ : ∃ m : Nat, u - u % 2 = m := ⟨_, rfl⟩
      rw [hm] at n1
      obtain ⟨z, hz, hz2⟩ : ∃ z : Nat, u / 2 ^ (a + 1) % 2 = z ∧ z < 2 := ⟨_, rfl, by omega⟩
      have zi : (u : Int) / 2 ^ (a + 1) % 2 = (z : Int) := by rw [← hz, Int.natCast_emod, Int.natCast_ediv, Int.natCast_pow]; rfl
      have hmz : m + z < 32 := by omega
      have n2 := ram_sp2 ⟨m + z, hmz⟩ ⟨a, ha4⟩
      dsimp only at n2
      obtain ⟨q, hq⟩ : ∃ q : Nat, m + z - (m + z) / 2 ^ (a + 1) % 2 * 2 ^ (a + 1) = q := ⟨_, rfl⟩
      rw [hq] at n2
      have hq32 : q < 32 := by omega
      have eA := and_three x
      rw [ha] at eA
      have eC := and_one (x / 8)
      rw [hc] at eC
      have eD := and_one (x / 4)
      rw [hd] at eD
      have HM := Lib.hid hm
      have HZ := Lib.hid hz
      have HQQ := Lib.hid hq
      have HRR := Lib.hid hR
      have hm32 : m < 32 := by omega
      clear ha hc hd hm hz hq hR HE h1
      rcases (by omega : a = 0 ∨ a = 1 ∨ a = 2 ∨ a = 3) with rfl | rfl | rfl | rfl
      · have e3 : bits .andNot .i64 ((m : Int) + (z : Int)) 2 = (q : Int) := n2
        have e5 := and_one ((u : Int) / 2)
        have e6 : (u : Int) / 2 % 2 = (z : Int) := zi
        rw [e6] at e5
        clear n2 zi e6
        rcases (by omega : c = 0 ∨ c = 1) with rfl | rfl
        · have hF : ((m + z : Nat) : Int) = r := by rw [← HRR.out]; simp only [ramS]; rw [if_neg (by decide), HM.out, HZ.out]
          clear e3
          go_enter Try.func24, Try.ntmps24
          go_wp2_with fail
          refine (specIn_at _ _ _ _ HQ.out).mono ?_
          rintro e w1 ⟨rfl, hb⟩
          have HB := Lib.hid hb
          clear hb
          go_wp2
          go_ret
          refine ⟨ret_i64 ?_, HB.out⟩
          rw [← hF]
          go_num
        · have hF : ((q + d * 2 : Nat) : Int) = r := by rw [← HRR.out]; simp only [ramS, ↓reduceIte, HM.out, HZ.out, HQQ.out]
          go_enter Try.func24, Try.ntmps24
          go_wp2_with fail
          refine (specIn_at _ _ _ _ HQ.out).mono ?_
          rintro e w1 ⟨rfl, hb⟩
          have HB := Lib.hid hb
          clear hb
          go_wp2_with fail
          go_quiet (fail)
          go_wp2
          go_ret
          refine ⟨ret_i64 ?_, bDrewN HB.out _⟩
          rw [← hF]
          go_num
      · have e3 : bits .andNot .i64 ((m : Int) + (z : Int)) 4 = (q : Int) := n2
        have e5 := and_one ((u : Int) / 4)
        have e6 : (u : Int) / 4 % 2 = (z : Int) := zi
        rw [e6] at e5
        clear n2 zi e6
        rcases (by omega : c = 0 ∨ c = 1) with rfl | rfl
        · have hF : ((m + z : Nat) : Int) = r := by rw [← HRR.out]; simp only [ramS]; rw [if_neg (by decide), HM.out, HZ.out]
          clear e3
          go_enter Try.func24, Try.ntmps24
          go_wp2_with fail
          refine (specIn_at _ _ _ _ HQ.out).mono ?_
          rintro e w1 ⟨rfl, hb⟩
          have HB := Lib.hid hb
          clear hb
          go_wp2
          go_ret
          refine ⟨ret_i64 ?_, HB.out⟩
          rw [← hF]
          go_num
        · have hF : ((q + d * 4 : Nat) : Int) = r := by rw [← HRR.out]; simp only [ramS, ↓reduceIte, HM.out, HZ.out, HQQ.out]
          go_enter Try.func24, Try.ntmps24
          go_wp2_with fail
          refine (specIn_at _ _ _ _ HQ.out).mono ?_
          rintro e w1 ⟨rfl, hb⟩
          have HB := Lib.hid hb
          clear hb
          go_wp2_with fail
          go_quiet (fail)
          go_wp2
          go_ret
          refine ⟨ret_i64 ?_, bDrewN HB.out _⟩
          rw [← hF]
          go_num
      · have e3 : bits .andNot .i64 ((m : Int) + (z : Int)) 8 = (q : Int) := n2
        have e5 := and_one ((u : Int) / 8)
        have e6 : (u : Int) / 8 % 2 = (z : Int) := zi
        rw [e6] at e5
        clear n2 zi e6
        rcases (by omega : c = 0 ∨ c = 1) with rfl | rfl
        · have hF : ((m + z : Nat) : Int) = r := by rw [← HRR.out]; simp only [ramS]; rw [if_neg (by decide), HM.out, HZ.out]
          clear e3
          go_enter Try.func24, Try.ntmps24
          go_wp2_with fail
          refine (specIn_at _ _ _ _ HQ.out).mono ?_
          rintro e w1 ⟨rfl, hb⟩
          have HB := Lib.hid hb
          clear hb
          go_wp2
          go_ret
          refine ⟨ret_i64 ?_, HB.out⟩
          rw [← hF]
          go_num
        · have hF : ((q + d * 8 : Nat) : Int) = r := by rw [← HRR.out]; simp only [ramS, ↓reduceIte, HM.out, HZ.out, HQQ.out]
          go_enter Try.func24, Try.ntmps24
          go_wp2_with fail
          refine (specIn_at _ _ _ _ HQ.out).mono ?_
          rintro e w1 ⟨rfl, hb⟩
          have HB := Lib.hid hb
          clear hb
          go_wp2_with fail
          go_quiet (fail)
          go_wp2
          go_ret
          refine ⟨ret_i64 ?_, bDrewN HB.out _⟩
          rw [← hF]
          go_num
      · have e3 : bits .andNot .i64 ((m : Int) + (z : Int)) 16 = (q : Int) := n2
        have e5 := and_one ((u : Int) / 16)
        have e6 : (u : Int) / 16 % 2 = (z : Int) := zi
        rw [e6] at e5
        clear n2 zi e6
        rcases (by omega : c = 0 ∨ c = 1) with rfl | rfl
        · have hF : ((m + z : Nat) : Int) = r := by rw [← HRR.out]; simp only [ramS]; rw [if_neg (by decide), HM.out, HZ.out]
          clear e3
          go_enter Try.func24, Try.ntmps24
          go_wp2_with fail
          refine (specIn_at _ _ _ _ HQ.out).mono ?_
          rintro e w1 ⟨rfl, hb⟩
          have HB := Lib.hid hb
          clear hb
          go_wp2
          go_ret
          refine ⟨ret_i64 ?_, HB.out⟩
          rw [← hF]
          go_num
        · have hF : ((q + d * 16 : Nat) : Int) = r := by rw [← HRR.out]; simp only [ramS, ↓reduceIte, HM.out, HZ.out, HQQ.out]
          go_enter Try.func24, Try.ntmps24
          go_wp2_with fail
          refine (specIn_at _ _ _ _ HQ.out).mono ?_
          rintro e w1 ⟨rfl, hb⟩
          have HB := Lib.hid hb
          clear hb
          go_wp2_with fail
          go_quiet (fail)
          go_wp2
          go_ret
          refine ⟨ret_i64 ?_, bDrewN HB.out _⟩
          rw [← hF]
          go_num
    · have HQ := Lib.hid (show decide ((0 : Int) ≤ v ∧ v ≤ 31) = false from decide_eq_false h1)
      have HE : r = -1 := by rw [← HR.out]; unfold seqI; rw [if_neg (by omega), if_neg (fun c => h1 c.2)]
      subst HE
      clear h1
      go_enter Try.func24, Try.ntmps24
      go_wp2_with fail
      refine (specIn_at _ _ _ _ HQ.out).mono ?_
      rintro e w1 ⟨rfl, hb⟩
      have HB := Lib.hid hb
      clear hb
      go_wp2
      go_ret
      exact ⟨rfl, HB.out⟩
  · have b1 : (k == 1) = false := by simp [k1]
    have HE : r = -1 := by rw [← HR.out]; unfold seqI; rw [if_neg (fun c => k0 c.1), if_neg (fun c => k1 c.1)]
    subst HE
    go_enter Try.func24, Try.ntmps24
    go_wp2
    go_ret
    exact ⟨rfl, by (repeat' (first | assumption | exact Below.refl _ _ | refine bDrewN ?_ _ | refine Below.drew ?_ | refine bAlloc ?_ (Nat.le_refl _) _ | refine bSet ?_ (by first | exact Nat.le_refl _ | omega | (simp <;> omega)) _))⟩
end Go.Proofs.Ytaebiiopommhdaa
