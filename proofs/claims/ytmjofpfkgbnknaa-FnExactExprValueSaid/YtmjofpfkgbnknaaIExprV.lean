/-
  ExprValue: the program.
-/
import Derived.Test.YtmjofpfkgbnknaaExprMath
import Derived.Test.YtmjofpfkgbnknaaIFirst
import Derived.Test.YtmjofpfkgbnknaaIFlat
import Derived.Laws.StructEq
namespace Go.Proofs.Ytmjofpfkgbnknaa
open Go.RowKit
set_option linter.unusedVariables false
set_option linter.unusedSimpArgs false

def far15 (x : Int) : Bool := !val15 x
theorem far_at (x : Int) {r : Bool} (w : World) (hr : far15 x = r) : Calls Try.prog 89 #[.int .i64 x] w fun e w' => e = .returned (.bool r) ∧ Below w.heap.size w w' := by
  have HR := Lib.hid hr
  clear hr
  by_cases h0 : x < 0
  · have hv : r = true := by rw [← HR.out]; unfold far15 val15; rw [decide_eq_false (by omega)]; rfl
    go_enter Try.func89, Try.ntmps89
    go_wp2
    go_ret
    exact ⟨by first | rfl | exact ret_bool hv.symm, by (repeat' (first | assumption | exact Below.refl _ _ | refine bDrewN ?_ _ | refine Below.drew ?_ | refine bAlloc ?_ (Nat.le_refl _) _ | refine bSet ?_ (by first | exact Nat.le_refl _ | omega | (simp <;> omega)) _))⟩
  · by_cases h1 : 15 < x
    · have hv : r = true := by rw [← HR.out]; unfold far15 val15; rw [decide_eq_false (by omega)]; rfl
      go_enter Try.func89, Try.ntmps89
      go_wp2
      go_ret
      exact ⟨by first | rfl | exact ret_bool hv.symm, by (repeat' (first | assumption | exact Below.refl _ _ | refine bDrewN ?_ _ | refine Below.drew ?_ | refine bAlloc ?_ (Nat.le_refl _) _ | refine bSet ?_ (by first | exact Nat.le_refl _ | omega | (simp <;> omega)) _))⟩
    · have hv : r = false := by rw [← HR.out]; unfold far15 val15; rw [decide_eq_true (by omega)]; rfl
      go_enter Try.func89, Try.ntmps89
      go_wp2
      go_ret
      exact ⟨by first | rfl | exact ret_bool hv.symm, by (repeat' (first | assumption | exact Below.refl _ _ | refine bDrewN ?_ _ | refine Below.drew ?_ | refine bAlloc ?_ (Nat.le_refl _) _ | refine bSet ?_ (by first | exact Nat.le_refl _ | omega | (simp <;> omega)) _))⟩

set_option maxHeartbeats 3200000 in
theorem far_index (L : List Int) (v : Value)  {B T : Nat} (w : World) (hv : rdIntS B T w [v] L) (hT : T ≤ w.heap.size)  :
    Calls Try.prog 148 #[v, .func (.func 89) #[] #[]] w fun e w' => (∃ r : Int, e = .returned (.int .i64 r) ∧ decide (0 ≤ r) = L.any far15) ∧ Below w.heap.size w w' := by
  obtain ⟨vA, vc, rfl, vm, -⟩ := slice_of hv
  have HV := Lib.hid hv
  clear hv
  go_enter Try.func148, Try.ntmps148
  go_wp2
  go_loopw [8] (fun x wr => ∃ i : Nat, i ≤ L.length ∧ x = .int .i64 i ∧ AnyT far15 L i = false ∧ Below w.heap.size w wr) (fun x _ => L.length - (intOf x).toNat)
  case atStart => exact ⟨0, Nat.zero_le _, rfl, by simp [AnyT], Below.refl _ _⟩
  case round =>
    obtain ⟨i, hi, rfl, hno, hb⟩ := hrel
    have HN := Lib.hid hno
    have HB := Lib.hid hb
    clear hno hb
    by_cases hlt : i < L.length
    · obtain ⟨x, hx⟩ : ∃ x, L[i]? = some x := ⟨_, List.getElem?_eq_getElem hlt⟩
      have HX := Lib.hid hx
      obtain ⟨xb, xq, rfl, xlt, xc0, xf0⟩ := at_Int (good_IntS.below HV.out hT HB.out) hx
      have xlt2 := Nat.lt_of_lt_of_le xlt (Nat.le_trans hT HB.out.size)
      obtain ⟨q, hq⟩ : ∃ q, far15 x = q := ⟨_, rfl⟩
      have HQ := Lib.hid hq
      clear hx hq xlt
      go_wp2_with fail
      refine (far_at x _ HQ.out).mono ?_
      rintro e w1 ⟨rfl, hb1⟩
      have HB1 := Lib.hid (bThen HB.out hb1)
      clear hb1
      cases q with
      | true =>
        have HE := Lib.hid (any_hit HX.out HQ.out)
        go_wp2
        go_ret
        exact ⟨⟨_, rfl, by rw [HE.out]; simp⟩, HB1.out⟩
      | false =>
        have HS := Lib.hid (any_step HX.out HQ.out HN.out)
        go_wp2
        go_roundw
        case rel => exact ⟨i + 1, by omega, by go_num, HS.out, HB1.out⟩
        case measure => simp [intOf]; omega
    · obtain rfl : i = L.length := by omega
      have HE := Lib.hid (any_end HN.out)
      go_wp2
      go_ret
      exact ⟨⟨_, rfl, by rw [HE.out]; rfl⟩, HB.out⟩
theorem far_contains (L : List Int) (v : Value)  {B T : Nat} {r : Bool} (w : World) (hv : rdIntS B T w [v] L) (hT : T ≤ w.heap.size)  (hr : L.any far15 = r) :
    Calls Try.prog 90 #[v, .func (.func 89) #[] #[]] w fun e w' => e = .returned (.bool r) ∧ Below w.heap.size w w' := by
  have HR := Lib.hid hr
  have HV := Lib.hid hv
  clear hr hv
  go_enter Try.func90, Try.ntmps90
  go_wp2_with fail
  refine (far_index L v  _ HV.out hT ).mono ?_
  rintro e w1 ⟨⟨q, rfl, hq⟩, hb⟩
  have HQ := Lib.hid (hq.trans HR.out)
  clear hq
  go_wp2
  go_ret
  exact ⟨ret_bool HQ.out, hb⟩

theorem notPar_any (L : List DOp) : L.all notPar = !L.any isPar := by
  rw [List.all_eq_not_any_not]
  congr 2
  funext o
  simp [isPar, notPar]
theorem far_all (V : List Int) : V.all val15 = !V.any far15 := by
  rw [List.all_eq_not_any_not]; rfl
theorem implOpsE_at (n : Int) (L : List DOp) (v : Value) {B T : Nat} {d : Bool} (w : World) (h : rdOpS B T w [v] L) (hT : T ≤ w.heap.size) (hd : opsB n L = d) :
    Calls Try.prog 88 #[v, .int .i64 n] w fun e w' => e = .returned (.bool d) ∧ Below w.heap.size w w' := by subst hd; exact implOps_any n L v w h hT
set_option maxRecDepth 100000 in
set_option maxHeartbeats 6400000 in
theorem implExprV_at (L : List DOp) (V : List Int) (k : Int) (ov vv : Value) {r : Int} (w : World) (hL : rdOpS 0 w.heap.size w [ov] L) (hv : rdIntS 0 w.heap.size w [vv] V) (hr : exprE L V k = r) :
    Calls Try.prog 38 #[ov, vv, .int .i64 k] w fun e w' => e = .returned (.int .i64 r) ∧ Below w.heap.size w w' := by
  obtain ⟨oA, oc, rfl, ol, -⟩ := slice_of hL
  obtain ⟨vA, vc, rfl, vl, -⟩ := slice_of hv
  have HL := Lib.hid hL
  have HV := Lib.hid hv
  have HR := Lib.hid hr
  clear hL hv hr
  obtain ⟨d, hd⟩ : ∃ d, opsB V.length L = d := ⟨_, rfl⟩
  have HD := Lib.hid hd
  clear hd
  cases d with
  | false =>
    have HE := Lib.hid (exprE_no HR.out (exprB_2 HD.out))
    go_enter Try.func38, Try.ntmps38
    go_wp2_with fail
    refine (implOpsE_at _ L _ _ HL.out (Nat.le_refl _) HD.out).mono ?_
    rintro e w1 ⟨rfl, hb⟩
    have HB := Lib.hid hb
    clear hb
    go_wp2
    go_ret
    exact ⟨ret_i64 HE.out.symm, HB.out⟩
  | true =>
    by_cases h30 : V.length ≤ 30
    case neg =>
      have t1 : (30 : Int) < (V.length : Int) := by omega
      have HE := Lib.hid (exprE_no HR.out (exprB_1 h30))
      go_enter Try.func38, Try.ntmps38
      go_wp2_with fail
      refine (implOpsE_at _ L _ _ HL.out (Nat.le_refl _) HD.out).mono ?_
      rintro e w1 ⟨rfl, hb⟩
      have HB := Lib.hid hb
      clear hb
      go_wp2
      go_ret
      exact ⟨ret_i64 HE.out.symm, HB.out⟩
    have t1 : ¬ (30 : Int) < (V.length : Int) := by omega
    by_cases hk : 1 ≤ k ∧ k ≤ 4
    case neg =>
      have HE := Lib.hid (exprE_no HR.out (exprB_3 (decide_eq_false hk)))
      by_cases hk1 : k < 1
      · clear hk
        go_enter Try.func38, Try.ntmps38
        go_wp2_with fail
        refine (implOpsE_at _ L _ _ HL.out (Nat.le_refl _) HD.out).mono ?_
        rintro e w1 ⟨rfl, hb⟩
        have HB := Lib.hid hb
        clear hb
        go_wp2
        go_ret
        exact ⟨ret_i64 HE.out.symm, HB.out⟩
      · have hk4 : 4 < k := by omega
        clear hk
        go_enter Try.func38, Try.ntmps38
        go_wp2_with fail
        refine (implOpsE_at _ L _ _ HL.out (Nat.le_refl _) HD.out).mono ?_
        rintro e w1 ⟨rfl, hb⟩
        have HB := Lib.hid hb
        clear hb
        go_wp2
        go_ret
        exact ⟨ret_i64 HE.out.symm, HB.out⟩
    obtain ⟨W, rfl⟩ := Int.eq_ofNat_of_zero_le (show 0 ≤ k by omega)
    have hW : 1 ≤ W ∧ W ≤ 4 := by omega
    have hk1 : ¬ (W : Int) < 1 := by omega
    have hk4 : ¬ (4 : Int) < (W : Int) := by omega
    obtain ⟨f, hf⟩ : ∃ f, V.any far15 = f := ⟨_, rfl⟩
    have HF := Lib.hid hf
    obtain ⟨q, hq⟩ : ∃ q, L.any isPar = q := ⟨_, rfl⟩
    have HQ := Lib.hid hq
    clear hk hf hq
    go_enter Try.func38, Try.ntmps38
    go_wp2_with fail
    refine (implOpsE_at _ L _ _ HL.out (Nat.le_refl _) HD.out).mono ?_
    rintro e w1 ⟨rfl, hb⟩
    have HB := Lib.hid hb
    clear hb
    go_wp2_with fail
    refine (far_contains V _ _ (rdUp good_IntS HV.out HB.out) (Nat.le_refl _) HF.out).mono ?_
    rintro e w2 ⟨rfl, hb⟩
    have HB2 := Lib.hid (bThen HB.out hb)
    clear hb HB
    cases f with
    | true =>
      have HE := Lib.hid (exprE_no HR.out (exprB_4 (by rw [far_all, HF.out]; rfl)))
      go_wp2
      go_ret
      exact ⟨ret_i64 HE.out.symm, HB2.out⟩
    | false =>
      go_wp2_with fail
      refine (containsPar_at L _ _ (rdUp good_OpS HL.out HB2.out) (Nat.le_refl _) (parPlain_of HD.out) HQ.out).mono ?_
      rintro e w3 ⟨rfl, hb⟩
      have HB3 := Lib.hid (bThen HB2.out hb)
      clear hb HB2
      cases q with
      | true =>
        have HE := Lib.hid (exprE_no HR.out (exprB_5 (by rw [notPar_any, HQ.out]; rfl)))
        go_wp2
        go_ret
        exact ⟨ret_i64 HE.out.symm, HB3.out⟩
      | false =>
        have HA := Lib.hid (show L.all notPar = true by rw [notPar_any, HQ.out]; rfl)
        have HY := Lib.hid (exprE_yes HR.out h30 HD.out hW (by rw [far_all, HF.out]; rfl) HA.out)
        go_wp2_with fail
        refine (implExpr_at HD.out HA.out HY.out.2.1 hW.2 _ (rdUp good_OpS HL.out HB3.out) (rdUp good_IntS HV.out HB3.out) HY.out.1).mono ?_
        rintro e w4 ⟨rfl, hb⟩
        have HB4 := Lib.hid (bThen HB3.out hb)
        clear hb
        go_wp2
        go_ret
        exact ⟨rfl, HB4.out⟩
end Go.Proofs.Ytmjofpfkgbnknaa
