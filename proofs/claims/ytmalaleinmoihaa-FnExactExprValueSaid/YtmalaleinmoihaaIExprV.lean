/-
  ExprValue: the program.
-/
import Derived.Test.YtmalaleinmoihaaExprMath
import Derived.Test.YtmalaleinmoihaaIFirst
import Derived.Test.YtmalaleinmoihaaPar
import Derived.Laws.StructEq
namespace Go.Proofs.Ytmalaleinmoihaa
open Go.RowKit
set_option linter.unusedVariables false
set_option linter.unusedSimpArgs false

def far15 (x : Int) : Bool := !val15 x
theorem far_at (x : Int) {r : Bool} (w : World) (hr : far15 x = r) : Calls Try.prog 15 #[.int .i64 x] w fun e w' => e = .returned (.bool r) ∧ Below w.heap.size w w' := by
  have HR := Lib.hid hr
  clear hr
  by_cases h0 : x < 0
  · have hv : r = true := by rw [← HR.out]; unfold far15 val15; rw [decide_eq_false (by omega)]; rfl
    go_enter Try.func15, Try.ntmps15
    go_wp2
    go_ret
    exact ⟨by first | rfl | exact ret_bool hv.symm, by (repeat' (first | assumption | exact Below.refl _ _ | refine bDrewN ?_ _ | refine Below.drew ?_ | refine bAlloc ?_ (Nat.le_refl _) _ | refine bSet ?_ (by first | exact Nat.le_refl _ | omega | (simp <;> omega)) _))⟩
  · by_cases h1 : 15 < x
    · have hv : r = true := by rw [← HR.out]; unfold far15 val15; rw [decide_eq_false (by omega)]; rfl
      go_enter Try.func15, Try.ntmps15
      go_wp2
      go_ret
      exact ⟨by first | rfl | exact ret_bool hv.symm, by (repeat' (first | assumption | exact Below.refl _ _ | refine bDrewN ?_ _ | refine Below.drew ?_ | refine bAlloc ?_ (Nat.le_refl _) _ | refine bSet ?_ (by first | exact Nat.le_refl _ | omega | (simp <;> omega)) _))⟩
    · have hv : r = false := by rw [← HR.out]; unfold far15 val15; rw [decide_eq_true (by omega)]; rfl
      go_enter Try.func15, Try.ntmps15
      go_wp2
      go_ret
      exact ⟨by first | rfl | exact ret_bool hv.symm, by (repeat' (first | assumption | exact Below.refl _ _ | refine bDrewN ?_ _ | refine Below.drew ?_ | refine bAlloc ?_ (Nat.le_refl _) _ | refine bSet ?_ (by first | exact Nat.le_refl _ | omega | (simp <;> omega)) _))⟩

set_option maxHeartbeats 3200000 in
theorem far_index (L : List Int) (v : Value)  {B T : Nat} (w : World) (hv : rdIntS B T w [v] L) (hT : T ≤ w.heap.size)  :
    Calls Try.prog 25 #[v, .func (.func 15) #[] #[]] w fun e w' => (∃ r : Int, e = .returned (.int .i64 r) ∧ decide (0 ≤ r) = L.any far15) ∧ Below w.heap.size w w' := by
  obtain ⟨vA, vc, rfl, vm, -⟩ := slice_of hv
  have HV := Lib.hid hv
  clear hv
  go_enter Try.func25, Try.ntmps25
  go_wp2
  go_loopw [8] (fun x wr => ∃ i : Nat, i ≤ L.length ∧ x = .int .i64 i ∧ AnyT far15 L i = false ∧ Below w.heap.size w wr) (fun x _ => L.length - (intOf x).toNat)
  case atStart => exact ⟨0, Nat.zero_le _, rfl, by simp [AnyT], Below.refl _ _⟩
  case round =>
    obtain ⟨i, hi, rfl, hno, hb⟩ := hrel
    have HN := Lib.hid hno
    have HB := Lib.hid hb
    clear hno hb
    by_cases hlt : i < L.length
    · obtain ⟨x, hx⟩ : ∃ x, L[i]? = some x := ⟨_, List.getElem?_eq_getElem hlt⟩
      have HX := Lib.hid hx
      obtain ⟨xb, xq, rfl, xlt, xc0, xf0⟩ := at_Int (good_IntS.below HV.out hT HB.out) hx
      have xlt2 := Nat.lt_of_lt_of_le xlt (Nat.le_trans hT HB.out.size)
      obtain ⟨q, hq⟩ : ∃ q, far15 x = q := ⟨_, rfl⟩
      have HQ := Lib.hid hq
      clear hx hq xlt
      go_wp2_with fail
      refine (far_at x _ HQ.out).mono ?_
      rintro e w1 ⟨rfl, hb1⟩
      have HB1 := Lib.hid (bThen HB.out hb1)
      clear hb1
      cases q with
      | true =>
        have HE := Lib.hid (any_hit HX.out HQ.out)
        go_wp2
        go_ret
        exact ⟨⟨_, rfl, by rw [HE.out]; simp⟩, HB1.out⟩
      | false =>
        have HS := Lib.hid (any_step HX.out HQ.out HN.out)
        go_wp2
        go_roundw
        case rel => exact ⟨i + 1, by omega, by go_num, HS.out, HB1.out⟩
        case measure => simp [intOf]; omega
    · obtain rfl : i = L.length := by omega
      have HE := Lib.hid (any_end HN.out)
      go_wp2
      go_ret
      exact ⟨⟨_, rfl, by rw [HE.out]; rfl⟩, HB.out⟩
theorem far_contains (L : List Int) (v : Value)  {B T : Nat} {r : Bool} (w : World) (hv : rdIntS B T w [v] L) (hT : T ≤ w.heap.size)  (hr : L.any far15 = r) :
    Calls Try.prog 17 #[v, .func (.func 15) #[] #[]] w fun e w' => e = .returned (.bool r) ∧ Below w.heap.size w w' := by
  have HR := Lib.hid hr
  have HV := Lib.hid hv
  clear hr hv
  go_enter Try.func17, Try.ntmps17
  go_wp2_with fail
  refine (far_index L v  _ HV.out hT ).mono ?_
  rintro e w1 ⟨⟨q, rfl, hq⟩, hb⟩
  have HQ := Lib.hid (hq.trans HR.out)
  clear hq
  go_wp2
  go_ret
  exact ⟨ret_bool HQ.out, hb⟩

theorem notPar_any (L : List DOp) : L.all notPar = !L.any isPar := by
  rw [List.all_eq_not_any_not]
  congr 2
  funext o
  simp [isPar, notPar]
theorem far_all (V : List Int) : V.all val15 = !V.any far15 := by
  rw [List.all_eq_not_any_not]; rfl
theorem implOpsE_at (n : Int) (L : List DOp) (v : Value) {B T : Nat} {d : Bool} (w : World) (h : rdOpS B T w [v] L) (hT : T ≤ w.heap.size) (hd : opsB n L = d) :
    Calls Try.prog 23 #[v, .int .i64 n] w fun e w' => e = .returned (.bool d) ∧ Below w.heap.size w w' := by subst hd; exact implOps_any n L v w h hT
/-- What canEvaluate answers. -/
def canB (L : List DOp) (n : Nat) (k : Int) : Bool := decide (n ≤ 30) && decide (1 ≤ k ∧ k ≤ 4) && opsB n L && L.all notPar
theorem canB_1 {L : List DOp} {n : Nat} {k : Int} (h : ¬ n ≤ 30) : canB L n k = false := by unfold canB; rw [decide_eq_false h]; rfl
theorem canB_2 {L : List DOp} {n : Nat} {k : Int} (h : ¬ (1 ≤ k ∧ k ≤ 4)) : canB L n k = false := by unfold canB; rw [decide_eq_false h]; simp
theorem canB_3 {L : List DOp} {n : Nat} {k : Int} (h : opsB n L = false) : canB L n k = false := by unfold canB; rw [h]; simp
theorem canB_4 {L : List DOp} {n : Nat} {k : Int} (h1 : n ≤ 30) (h2 : 1 ≤ k ∧ k ≤ 4) (h3 : opsB n L = true) : canB L n k = !L.any isPar := by unfold canB; rw [decide_eq_true h1, decide_eq_true h2, h3, notPar_any]; rfl
theorem canB_yes {L : List DOp} {n : Nat} {k : Int} (h : canB L n k = true) : n ≤ 30 ∧ (1 ≤ k ∧ k ≤ 4) ∧ opsB n L = true ∧ L.all notPar = true := by
  unfold canB at h
  simp only [Bool.and_eq_true, decide_eq_true_eq] at h
  exact ⟨h.1.1.1, h.1.1.2, h.1.2, h.2⟩
theorem exprB_can {L : List DOp} {V : List Int} {k : Int} (h : canB L V.length k = false) : exprB L V k = false := by
  cases hc : exprB L V k with
  | false => rfl
  | true =>
    unfold exprB at hc
    simp only [Bool.and_eq_true, decide_eq_true_eq] at hc
    have h2 : canB L V.length k = true := by
      unfold canB
      simp only [Bool.and_eq_true, decide_eq_true_eq]
      exact ⟨⟨⟨hc.1.1.1.1, hc.1.1.2⟩, hc.1.1.1.2⟩, hc.2⟩
    rw [h] at h2
    cases h2
set_option maxRecDepth 100000 in
set_option maxHeartbeats 6400000 in
theorem implCan_at (L : List DOp) (n : Nat) (k : Int) (ov : Value) {r : Bool} (w : World) (hL : rdOpS 0 w.heap.size w [ov] L) (hr : canB L n k = r) :
    Calls Try.prog 16 #[ov, .int .i64 n, .int .i64 k] w fun e w' => e = .returned (.bool r) ∧ Below w.heap.size w w' := by
  obtain ⟨oA, oc, rfl, ol, -⟩ := slice_of hL
  have HL := Lib.hid hL
  have HR := Lib.hid hr
  clear hL hr
  by_cases h30 : n ≤ 30
  case neg =>
    have t1 : (30 : Int) < (n : Int) := by omega
    have HE := Lib.hid ((canB_1 h30).symm.trans HR.out)
    go_enter Try.func16, Try.ntmps16
    go_wp2
    go_ret
    exact ⟨ret_bool HE.out, by (repeat' (first | assumption | exact Below.refl _ _ | refine bDrewN ?_ _ | refine Below.drew ?_ | refine bAlloc ?_ (Nat.le_refl _) _ | refine bSet ?_ (by first | exact Nat.le_refl _ | omega | (simp <;> omega)) _))⟩
  have t1 : ¬ (30 : Int) < (n : Int) := by omega
  by_cases hk : 1 ≤ k ∧ k ≤ 4
  case neg =>
    have HE := Lib.hid ((canB_2 hk).symm.trans HR.out)
    by_cases hk1 : k < 1
    · clear hk
      go_enter Try.func16, Try.ntmps16
      go_wp2
      go_ret
      exact ⟨ret_bool HE.out, by (repeat' (first | assumption | exact Below.refl _ _ | refine bDrewN ?_ _ | refine Below.drew ?_ | refine bAlloc ?_ (Nat.le_refl _) _ | refine bSet ?_ (by first | exact Nat.le_refl _ | omega | (simp <;> omega)) _))⟩
    · have hk4 : 4 < k := by omega
      clear hk
      go_enter Try.func16, Try.ntmps16
      go_wp2
      go_ret
      exact ⟨ret_bool HE.out, by (repeat' (first | assumption | exact Below.refl _ _ | refine bDrewN ?_ _ | refine Below.drew ?_ | refine bAlloc ?_ (Nat.le_refl _) _ | refine bSet ?_ (by first | exact Nat.le_refl _ | omega | (simp <;> omega)) _))⟩
  have hk1 : ¬ k < 1 := by omega
  have hk4 : ¬ 4 < k := by omega
  have HK := Lib.hid hk
  obtain ⟨d, hd⟩ : ∃ d, opsB n L = d := ⟨_, rfl⟩
  have HD := Lib.hid hd
  clear hd hk
  go_enter Try.func16, Try.ntmps16
  go_wp2_with fail
  refine (implOpsE_at _ L _ _ HL.out (Nat.le_refl _) HD.out).mono ?_
  rintro e w1 ⟨rfl, hb⟩
  have HB := Lib.hid hb
  clear hb
  cases d with
  | false =>
    have HE := Lib.hid ((canB_3 HD.out).symm.trans HR.out)
    go_wp2
    go_ret
    exact ⟨ret_bool HE.out, HB.out⟩
  | true =>
    obtain ⟨q, hq⟩ : ∃ q, L.any isPar = q := ⟨_, rfl⟩
    have HQ := Lib.hid hq
    have HE := Lib.hid ((canB_4 h30 HK.out HD.out).symm.trans HR.out)
    rw [hq] at HE
    clear hq
    go_wp2_with fail
    refine (containsPar_at L _ _ (rdUp good_OpS HL.out HB.out) (Nat.le_refl _) (parPlain_of HD.out) HQ.out).mono ?_
    rintro e w3 ⟨rfl, hb⟩
    have HB3 := Lib.hid (bThen HB.out hb)
    clear hb HB
    go_wp2
    go_ret
    exact ⟨ret_bool HE.out, HB3.out⟩
set_option maxRecDepth 100000 in
set_option maxHeartbeats 6400000 in
theorem implExprV_at (L : List DOp) (V : List Int) (k : Int) (ov vv : Value) {r : Int} (w : World) (hL : rdOpS 0 w.heap.size w [ov] L) (hv : rdIntS 0 w.heap.size w [vv] V) (hr : exprE L V k = r) :
    Calls Try.prog 8 #[ov, vv, .int .i64 k] w fun e w' => e = .returned (.int .i64 r) ∧ Below w.heap.size w w' := by
  obtain ⟨oA, oc, rfl, ol, -⟩ := slice_of hL
  obtain ⟨vA, vc, rfl, vl, -⟩ := slice_of hv
  have HL := Lib.hid hL
  have HV := Lib.hid hv
  have HR := Lib.hid hr
  clear hL hv hr
  obtain ⟨c, hc⟩ : ∃ c, canB L V.length k = c := ⟨_, rfl⟩
  have HC := Lib.hid hc
  clear hc
  go_enter Try.func8, Try.ntmps8
  go_wp2_with fail
  refine (implCan_at L _ _ _ _ HL.out HC.out).mono ?_
  rintro e w1 ⟨rfl, hb⟩
  have HB := Lib.hid hb
  clear hb
  cases c with
  | false =>
    have HE := Lib.hid (exprE_no HR.out (exprB_can HC.out))
    go_wp2
    go_ret
    exact ⟨ret_i64 HE.out.symm, HB.out⟩
  | true =>
    obtain ⟨h30, hk, hd, hp⟩ := canB_yes HC.out
    obtain ⟨W, rfl⟩ := Int.eq_ofNat_of_zero_le (show 0 ≤ k by omega)
    have hW : 1 ≤ W ∧ W ≤ 4 := by omega
    obtain ⟨f, hf⟩ : ∃ f, V.any far15 = f := ⟨_, rfl⟩
    have HF := Lib.hid hf
    have HD := Lib.hid hd
    have HA := Lib.hid hp
    have HW := Lib.hid hW
    have H30 := Lib.hid h30
    clear hk hd hp hf hW h30
    go_wp2_with fail
    refine (far_contains V _ _ (rdUp good_IntS HV.out HB.out) (Nat.le_refl _) HF.out).mono ?_
    rintro e w2 ⟨rfl, hb⟩
    have HB2 := Lib.hid (bThen HB.out hb)
    clear hb HB
    cases f with
    | true =>
      have HE := Lib.hid (exprE_no HR.out (exprB_4 (by rw [far_all, HF.out]; rfl)))
      go_wp2
      go_ret
      exact ⟨ret_i64 HE.out.symm, HB2.out⟩
    | false =>
      have HY := Lib.hid (exprE_yes HR.out H30.out HD.out HW.out (by rw [far_all, HF.out]; rfl) HA.out)
      go_wp2_with fail
      refine (implExpr_at HD.out HA.out HY.out.2.1 HW.out.2 _ (rdUp good_OpS HL.out HB2.out) (rdUp good_IntS HV.out HB2.out) HY.out.1).mono ?_
      rintro e w4 ⟨rfl, hb⟩
      have HB4 := Lib.hid (bThen HB2.out hb)
      clear hb
      go_wp2
      go_ret
      exact ⟨rfl, HB4.out⟩
end Go.Proofs.Ytmalaleinmoihaa
