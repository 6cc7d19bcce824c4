/-
  The value of a literal, both sides.
-/
import Derived.Test.YtaebiiopommhdaaNr1
namespace Go.Proofs.Ytaebiiopommhdaa
open Go.RowKit
set_option linter.unusedVariables false
set_option linter.unusedSimpArgs false

theorem xor_bit : ∀ (a b : Fin 2), bits .xor .i64 (a.val : Int) (b.val : Int) = (((a.val + b.val) % 2 : Nat) : Int) := by decide
theorem bitV_of {V : List Int} {l x m : Nat} (hx : V[l / 2]? = some (x : Int)) (hm : l % 2 = m) : bitV V l = (((x + m) % 2 : Nat) : Int) := by
  unfold bitV
  rw [List.getD_eq_getElem?_getD, hx]
  simp only [Option.getD_some]
  omega
/-- What LitValue answers. -/
def litO (V : List Int) (l : Int) : Int := if 0 ≤ l ∧ ((l.toNat / 2 : Nat) : Int) < V.length ∧ 0 ≤ V.getD (l.toNat / 2) 0 ∧ V.getD (l.toNat / 2) 0 ≤ 1 then bitV V l.toNat else -1
theorem litO_neg {V : List Int} {l : Int} (h : l < 0) : litO V l = -1 := if_neg (by omega)
theorem litO_out {V : List Int} {l : Nat} (h : V.length ≤ l / 2) : litO V (l : Int) = -1 := if_neg (by rw [Int.toNat_natCast]; omega)
theorem litO_bad {V : List Int} {l : Nat} {x : Int} (hx : V[l / 2]? = some x) (h : ¬ (0 ≤ x ∧ x ≤ 1)) : litO V (l : Int) = -1 := if_neg (by rw [Int.toNat_natCast, List.getD_eq_getElem?_getD, hx, Option.getD_some]; omega)
theorem litO_good {V : List Int} {l : Nat} {x : Int} (hx : V[l / 2]? = some x) (h0 : 0 ≤ x) (h1 : x ≤ 1) : litO V (l : Int) = bitV V l := by
  have := (List.getElem?_eq_some_iff.1 hx).1
  unfold litO
  rw [Int.toNat_natCast]
  refine if_pos ⟨by omega, by omega, ?_⟩
  rw [List.getD_eq_getElem?_getD, hx, Option.getD_some]
  exact ⟨h0, h1⟩
theorem specBit_at (V : List Int) (l : Nat) (hl : l ≤ 9223372036854775807) (v : Value) {B T : Nat} (w : World) (hv : rdIntS B T w [v] V) (hT : T ≤ w.heap.size) {x : Int} (hx : V[l / 2]? = some x) (h0 : 0 ≤ x) (h1 : x ≤ 1) {r : Int} (hr : bitV V l = r) :
    Calls Try.prog 59 #[v, .int .i64 (l : Int)] w fun e w' => e = .returned (.int .i64 r) ∧ Below w.heap.size w w' := by
  obtain ⟨vA, vc, rfl, vm, -⟩ := slice_of hv
  obtain ⟨u, rfl⟩ := Int.eq_ofNat_of_zero_le h0
  have hu : u < 2 := by omega
  obtain ⟨m, hm⟩ : ∃ m, l % 2 = m := ⟨_, rfl⟩
  have hF := (bitV_of hx hm).symm.trans hr
  obtain ⟨p, hp⟩ : ∃ p, l / 2 = p := ⟨_, rfl⟩
  rw [hp] at hx
  have hpV := (List.getElem?_eq_some_iff.1 hx).1
  obtain ⟨b, q, rfl, -, xc, -⟩ := at_Int hv hx
  have e1 := and_one (l : Int)
  rw [show (l : Int) % 2 = (m : Int) by omega] at e1
  have e2 := xor_bit ⟨u, hu⟩ ⟨m, by omega⟩
  dsimp only at e2
  rw [hF] at e2
  have e3 : (l : Int).tdiv 2 = (p : Int) := by rw [tdiv2, hp]
  have e4 : (l : Int) / 2 = (p : Int) := by omega
  clear hv hx hr hF h0 h1 hp hm
  go_enter Try.func59, Try.ntmps59
  go_wp2
  go_ret
  exact ⟨rfl, by (repeat' (first | assumption | exact Below.refl _ _ | refine bDrewN ?_ _ | refine Below.drew ?_ | refine bAlloc ?_ (Nat.le_refl _) _ | refine bSet ?_ (by first | exact Nat.le_refl _ | omega | (simp <;> omega)) _))⟩
theorem rd_lit1 {w : World} {g : Nat} {x : Int} (h : w.heap[g]? = some (.cells #[.int .i64 x] 3 (0, 0))) (hx : Fit x) : rdIntS g (g + 1) w [.slice (some ⟨g, 0, none⟩) 1 1] [x] := by
  refine ⟨_, _, rfl, by simp [maxLen], fun j hj => ⟨g, 0, rfl, Nat.le_refl _, Nat.lt_succ_self _, ?_⟩⟩
  match j, hj with
  | 0, _ => exact ⟨[.int .i64 x], rfl, fun i u hu => (by match i, hu with | 0, hu => (injection hu with hu; subst hu; exact box_cell h 0 _ rfl)), rfl, hx⟩
theorem implLitV_at (V : List Int) (l : Int) (hl : Fit l) (v : Value) {B T : Nat} (w : World) (hv : rdIntS B T w [v] V) (hT : T ≤ w.heap.size) {r : Int} (hr : litO V l = r) :
    Calls Try.prog 36 #[v, .int .i64 l] w fun e w' => e = .returned (.int .i64 r) ∧ Below w.heap.size w w' := by
  have HR := Lib.hid hr
  clear hr
  have HV := Lib.hid hv
  have hl' := hl
  unfold Fit at hl'
  obtain ⟨vA, vc, rfl, vm, -⟩ := slice_of hv
  obtain ⟨c, hc⟩ : ∃ c, [l].all (litB (V.length : Int)) = c := ⟨_, rfl⟩
  have HC := Lib.hid hc
  have HL := Lib.hid hl
  clear hc hv hl
  go_enter Try.func36, Try.ntmps36
  go_wp2_with fail
  obtain ⟨W0, hV⟩ : ∃ W0, W0 = w.alloc (.cells #[.int .i64 l] 3) := ⟨_, rfl⟩
  rw [← hV]
  have gN := eqbox1 hV
  have HG := Lib.hid (good_IntS.wider (rd_lit1 gN.1 HL.out) (Nat.zero_le _) (show w.heap.size + 1 ≤ W0.heap.size by rw [hV]; simp))
  have HB0 := Lib.hid gN.2
  clear hV gN
  refine (litsOk_at [l] _ _ _ HG.out (Nat.le_refl _) HC.out).mono ?_
  rintro e w1 ⟨rfl, hb⟩
  have HB := Lib.hid (bThen HB0.out hb)
  clear hb
  cases c with
  | false =>
    have HE : r = -1 := by
      rw [← HR.out]
      have hc := HC.out
      simp only [List.all_cons, List.all_nil, Bool.and_true] at hc
      by_cases h0 : l < 0
      · exact litO_neg h0
      · obtain ⟨k, rfl⟩ := Int.eq_ofNat_of_zero_le (show 0 ≤ l by omega)
        have := of_decide_eq_false hc
        rw [tdiv2] at this
        exact litO_out (by omega)
    subst HE
    go_wp2
    go_ret
    exact ⟨rfl, HB.out⟩
  | true =>
    have hc := HC.out
    simp only [List.all_cons, List.all_nil, Bool.and_true] at hc
    have hc := of_decide_eq_true hc
    obtain ⟨k, rfl⟩ := Int.eq_ofNat_of_zero_le hc.1
    have hk := hc.2
    rw [tdiv2] at hk
    obtain ⟨p, hp⟩ : ∃ p, k / 2 = p := ⟨_, rfl⟩
    have HP := Lib.hid hp
    have hpV : p < V.length := by omega
    obtain ⟨x, hx⟩ : ∃ x, V[p]? = some x := ⟨_, List.getElem?_eq_getElem hpV⟩
    have HX := Lib.hid (show V[k / 2]? = some x by rw [hp]; exact hx)
    obtain ⟨b, q, rfl, hbT, xc, xf⟩ := at_Int HV.out hx
    replace xc := keep HB.out xc
    clear hc hk hx
    go_wp2_with fail
    refine (nodeOf_at k _ (by omega)).mono ?_
    rintro e w2 ⟨rfl, hb⟩
    rw [hp]
    replace xc := keep hb xc
    replace HB := Lib.hid (bThen HB.out hb)
    clear hb hp
    have hpi : (p : Int) < (V.length : Int) := by omega
    go_wp2_with fail
    obtain ⟨y, hy⟩ : ∃ y, x / 2 ^ 0 % 2 = y := ⟨_, rfl⟩
    have HY := Lib.hid hy
    have hy2 : x % 2 = y := by rw [← hy]; simp
    refine (bitOf_at x 0 (by omega) _ HY.out).mono ?_
    rintro e w3 ⟨rfl, rfl⟩
    clear hy
    by_cases hxy : x = y
    · have h0 : 0 ≤ x ∧ x ≤ 1 := by omega
      have HF := Lib.hid ((litO_good HX.out h0.1 h0.2).symm.trans HR.out)
      subst hxy
      clear hy2 HY
      obtain ⟨u, rfl⟩ := Int.eq_ofNat_of_zero_le h0.1
      obtain ⟨m, hm⟩ : ∃ m, k % 2 = m := ⟨_, rfl⟩
      have hF := (bitV_of HX.out hm).symm.trans HF.out
      have HM := Lib.hid (show (k : Int) / 2 ^ 0 % 2 = (m : Int) by rw [show (k : Int) / 2 ^ 0 = k by simp]; omega)
      have e2 := xor_bit ⟨u, by omega⟩ ⟨m, by omega⟩
      dsimp only at e2
      rw [hF] at e2
      clear hF hm
      go_wp2_with fail
      refine (bitOf_at k 0 (by omega) _ HM.out).mono ?_
      rintro e w3 ⟨rfl, rfl⟩
      go_wp2
      go_ret
      exact ⟨rfl, HB.out⟩
    · have HF : r = -1 := (HR.out).symm.trans (litO_bad HX.out (by omega))
      subst HF
      go_wp2
      go_ret
      exact ⟨rfl, HB.out⟩
theorem specLitV_at (V : List Int) (l : Int) (hl : Fit l) (v : Value) {B T : Nat} (w : World) (hv : rdIntS B T w [v] V) (hT : T ≤ w.heap.size) {r : Int} (hr : litO V l = r) :
    Calls Try.prog 35 #[v, .int .i64 l] w fun e w' => e = .returned (.int .i64 r) ∧ Below w.heap.size w w' := by
  have HR := Lib.hid hr
  clear hr
  have HV := Lib.hid hv
  have hl' := hl
  unfold Fit at hl'
  obtain ⟨vA, vc, rfl, vm, -⟩ := slice_of hv
  clear hv hl
  by_cases h0 : l < 0
  · have HE : r = -1 := (HR.out).symm.trans (litO_neg h0)
    subst HE
    go_enter Try.func35, Try.ntmps35
    go_wp2
    go_ret
    exact ⟨rfl, by (repeat' (first | assumption | exact Below.refl _ _ | refine bDrewN ?_ _ | refine Below.drew ?_ | refine bAlloc ?_ (Nat.le_refl _) _ | refine bSet ?_ (by first | exact Nat.le_refl _ | omega | (simp <;> omega)) _))⟩
  obtain ⟨k, rfl⟩ := Int.eq_ofNat_of_zero_le (show 0 ≤ l by omega)
  obtain ⟨p, hp⟩ : ∃ p, k / 2 = p := ⟨_, rfl⟩
  have e3 : (k : Int).tdiv 2 = (p : Int) := by rw [tdiv2, hp]
  have e4 : (k : Int) / 2 = (p : Int) := by omega
  by_cases h1 : V.length ≤ p
  · have HE : r = -1 := (HR.out).symm.trans (litO_out (by omega))
    subst HE
    have h2 : (V.length : Int) ≤ (p : Int) := by omega
    clear hp h1
    go_enter Try.func35, Try.ntmps35
    go_wp2
    go_ret
    exact ⟨rfl, by (repeat' (first | assumption | exact Below.refl _ _ | refine bDrewN ?_ _ | refine Below.drew ?_ | refine bAlloc ?_ (Nat.le_refl _) _ | refine bSet ?_ (by first | exact Nat.le_refl _ | omega | (simp <;> omega)) _))⟩
  have hpV : p < V.length := by omega
  have hpi : (p : Int) < (V.length : Int) := by omega
  have h2 : ¬ (V.length : Int) ≤ (p : Int) := by omega
  obtain ⟨x, hx⟩ : ∃ x, V[p]? = some x := ⟨_, List.getElem?_eq_getElem hpV⟩
  have HX := Lib.hid (show V[k / 2]? = some x by rw [hp]; exact hx)
  obtain ⟨b, q, rfl, hbT, xc, xf⟩ := at_Int HV.out hx
  have hbw := Nat.lt_of_lt_of_le hbT hT
  obtain ⟨c, hc⟩ : ∃ c, decide ((0 : Int) ≤ x ∧ x ≤ 1) = c := ⟨_, rfl⟩
  have HC := Lib.hid hc
  clear hp hx h1 hc
  cases c with
  | false =>
    have HE : r = -1 := (HR.out).symm.trans (litO_bad HX.out (of_decide_eq_false HC.out))
    subst HE
    go_enter Try.func35, Try.ntmps35
    go_wp2_with fail
    refine (specIn_at _ _ _ _ HC.out).mono ?_
    rintro e w1 ⟨rfl, hb⟩
    have HB := Lib.hid hb
    clear hb
    go_wp2
    go_ret
    exact ⟨rfl, HB.out⟩
  | true =>
    have hx01 := of_decide_eq_true HC.out
    have HF := Lib.hid ((litO_good HX.out hx01.1 hx01.2).symm.trans HR.out)
    have HX01 := Lib.hid hx01
    clear hx01
    go_enter Try.func35, Try.ntmps35
    go_wp2_with fail
    refine (specIn_at _ _ _ _ HC.out).mono ?_
    rintro e w1 ⟨rfl, hb⟩
    have HB := Lib.hid hb
    clear hb
    go_wp2_with fail
    refine (specBit_at V k (by omega) _ _ (good_IntS.below HV.out hT HB.out) (Nat.le_trans hT HB.out.size) HX.out HX01.out.1 HX01.out.2 HF.out).mono ?_
    rintro e w2 ⟨rfl, hb⟩
    replace HB := Lib.hid (bThen HB.out hb)
    clear hb
    go_wp2
    go_ret
    exact ⟨rfl, HB.out⟩
end Go.Proofs.Ytaebiiopommhdaa
