/-
  ExprValue: the reference.
-/
import Derived.Test.YtmalaleinmoihaaExprMath
import Derived.Test.YtmalaleinmoihaaSEval
import Derived.Test.YtmalaleinmoihaaIEval
namespace Go.Proofs.Ytmalaleinmoihaa
open Go.RowKit
set_option linter.unusedVariables false
set_option linter.unusedSimpArgs false

theorem specOpsE_at (n : Int) (L : List DOp) (v : Value) {B T : Nat} {d : Bool} (w : World) (h : rdOpS B T w [v] L) (hT : T ≤ w.heap.size) (hd : opsB n L = d) :
    Calls Try.prog 11 #[v, .int .i64 n] w fun e w' => e = .returned (.bool d) ∧ Below w.heap.size w w' := by subst hd; exact specOps_any n L v w h hT
set_option maxRecDepth 100000 in
set_option maxHeartbeats 6400000 in
theorem specExprV_at (L : List DOp) (V : List Int) (k : Int) (ov vv : Value) {r : Int} (w : World) (hL : rdOpS 0 w.heap.size w [ov] L) (hv : rdIntS 0 w.heap.size w [vv] V) (hr : exprE L V k = r) :
    Calls Try.prog 5 #[ov, vv, .int .i64 k] w fun e w' => e = .returned (.int .i64 r) ∧ Below w.heap.size w w' := by
  obtain ⟨oA, oc, rfl, ol, -⟩ := slice_of hL
  obtain ⟨vA, vc, rfl, vl, -⟩ := slice_of hv
  have HL := Lib.hid hL
  have HV := Lib.hid hv
  have HR := Lib.hid hr
  clear hL hv hr
  by_cases h30 : V.length ≤ 30
  case neg =>
    have t1 : (30 : Int) < (V.length : Int) := by omega
    have HE := Lib.hid (exprE_no HR.out (exprB_1 h30))
    go_enter Try.func5, Try.ntmps5
    go_wp2
    go_ret
    exact ⟨ret_i64 HE.out.symm, by (repeat' (first | assumption | exact Below.refl _ _ | refine bDrewN ?_ _ | refine Below.drew ?_ | refine bAlloc ?_ (Nat.le_refl _) _ | refine bSet ?_ (by first | exact Nat.le_refl _ | omega | (simp <;> omega)) _))⟩
  have t1 : ¬ (30 : Int) < (V.length : Int) := by omega
  obtain ⟨d, hd⟩ : ∃ d, opsB V.length L = d := ⟨_, rfl⟩
  obtain ⟨kk, hk⟩ : ∃ kk, decide (1 ≤ k ∧ k ≤ 4) = kk := ⟨_, rfl⟩
  have HD := Lib.hid hd
  have HK := Lib.hid hk
  clear hd hk
  go_enter Try.func5, Try.ntmps5
  go_wp2_with fail
  refine (specOpsE_at _ L _ _ HL.out (Nat.le_refl _) HD.out).mono ?_
  rintro e w1 ⟨rfl, hb⟩
  have HB := Lib.hid hb
  clear hb
  cases d with
  | false =>
    have HE := Lib.hid (exprE_no HR.out (exprB_2 HD.out))
    go_wp2
    go_ret
    exact ⟨ret_i64 HE.out.symm, HB.out⟩
  | true =>
    go_wp2_with fail
    refine (l01In_at k 1 4 _ HK.out).mono ?_
    rintro e w2 ⟨rfl, rfl⟩
    cases kk with
    | false =>
      have HE := Lib.hid (exprE_no HR.out (exprB_3 HK.out))
      go_wp2
      go_ret
      exact ⟨ret_i64 HE.out.symm, HB.out⟩
    | true =>
      have hk14 := of_decide_eq_true HK.out
      obtain ⟨W, rfl⟩ := Int.eq_ofNat_of_zero_le (show 0 ≤ k by omega)
      have hW : 1 ≤ W ∧ W ≤ 4 := by omega
      clear hk14
      go_wp2
      go_loopw [7] (fun x wr => ∃ i : Nat, i ≤ V.length ∧ x = .int .i64 (i : Int) ∧ AllT2 val15 V i = true ∧ Below w.heap.size w wr) (fun x _ => V.length - (intOf x).toNat)
      case atStart => exact ⟨0, Nat.zero_le _, rfl, all2_zero _ _, HB.out⟩
      case round =>
        obtain ⟨i, hi, rfl, hall, hb⟩ := hrel
        obtain ⟨w2, rfl⟩ : ∃ w2, w2 = wr := ⟨_, rfl⟩
        have HA := Lib.hid hall
        have HB2 := Lib.hid hb
        clear hall hb
        by_cases hlt : i < V.length
        · obtain ⟨x, hx⟩ : ∃ x, V[i]? = some x := ⟨_, List.getElem?_eq_getElem hlt⟩
          have HX := Lib.hid hx
          obtain ⟨xb, xq, rfl, xlt, c0, -⟩ := at_Int (rdUp good_IntS HV.out HB2.out) hx
          obtain ⟨q, hq⟩ : ∃ q, val15 x = q := ⟨_, rfl⟩
          have HQ := Lib.hid hq
          clear hx hq
          go_wp2_with fail
          refine (l01In_at x 0 15 _ HQ.out).mono ?_
          rintro e w3 ⟨rfl, rfl⟩
          cases q with
          | false =>
            have HE := Lib.hid (exprE_no HR.out (exprB_4 (all2_miss HX.out HQ.out)))
            go_wp2
            go_ret
            exact ⟨ret_i64 HE.out.symm, HB2.out⟩
          | true =>
            have HS := Lib.hid (all2_step HX.out HQ.out HA.out)
            go_wp2
            go_roundw
            case rel => exact ⟨i + 1, by omega, by go_num, HS.out, HB2.out⟩
            case measure => simp [intOf]; omega
        · obtain rfl : i = V.length := by omega
          have HA4 := Lib.hid (all2_end HA.out)
          clear HB hlt
          go_wp2
          go_loopw [8] (fun x wr => ∃ i : Nat, i ≤ L.length ∧ x = .int .i64 (i : Int) ∧ AllT2 notPar L i = true ∧ Below w.heap.size w wr) (fun x _ => L.length - (intOf x).toNat)
          case atStart => exact ⟨0, Nat.zero_le _, rfl, all2_zero _ _, HB2.out⟩
          case round =>
            obtain ⟨i, hi, rfl, hall, hb⟩ := hrel
            obtain ⟨w3, rfl⟩ : ∃ w3, w3 = wr := ⟨_, rfl⟩
            clear HA HB2
            have HA := Lib.hid hall
            have HB2 := Lib.hid hb
            clear hall hb
            by_cases hlt : i < L.length
            · obtain ⟨x, hx⟩ : ∃ x, L[i]? = some x := ⟨_, List.getElem?_eq_getElem hlt⟩
              have HX := Lib.hid hx
              obtain ⟨xb, xq, rfl, xlt, c0, -, c1, -, c2, -⟩ := at_Op (rdUp good_OpS HL.out HB2.out) hx
              obtain ⟨kd, hkd⟩ : ∃ kd, x.1 = kd := ⟨_, rfl⟩
              rw [hkd] at c0
              have HKD := Lib.hid hkd
              clear hx hkd c1 c2
              by_cases h1 : kd = 1
              · have b1 : (kd == 1) = true := by simp [h1]
                have HE := Lib.hid (exprE_no HR.out (exprB_5 (all2_miss HX.out (by unfold notPar; rw [HKD.out, decide_eq_true h1]; rfl))))
                clear h1
                go_wp2
                go_ret
                exact ⟨ret_i64 HE.out.symm, HB2.out⟩
              · have b1 : (kd == 1) = false := by simp [h1]
                have HS := Lib.hid (all2_step HX.out (by unfold notPar; rw [HKD.out, decide_eq_false h1]; rfl) HA.out)
                clear h1
                go_wp2
                go_roundw
                case rel => exact ⟨i + 1, by omega, by go_num, HS.out, HB2.out⟩
                case measure => simp [intOf]; omega
            · obtain rfl : i = L.length := by omega
              have HY := Lib.hid (exprE_yes HR.out h30 HD.out hW HA4.out (all2_end HA.out))
              obtain ⟨M, hM⟩ := maskOf W
              have h16 := pow16 W hW.2
              have e1 := (wrapP W M hW.2 hM).1
              have e3 := (wrapP W M hW.2 hM).2
              have hM15 : M ≤ 15 := by omega
              obtain ⟨v, hev, hvr⟩ := expr_some (V := V) (W := W) HD.out
              have HV2 := Lib.hid (And.intro hev (And.intro (hvr.symm.trans HY.out.1) hM))
              clear hM hev hvr hlt
              go_wp2_with fail
              refine (specEv_all HY.out.2.2 HY.out.2.1 hW.1 hW.2 HV2.out.2.2 16 0 v L.length _ (rdUp good_OpS HL.out HB2.out) (rdUp good_IntS HV.out HB2.out) HV2.out.1).mono ?_
              rintro e w4 ⟨rfl, hb4⟩
              have HB4 := Lib.hid (bThen HB2.out hb4)
              clear hb4
              go_wp2
              go_ret
              exact ⟨ret_i64 HV2.out.2.1, HB4.out⟩
end Go.Proofs.Ytmalaleinmoihaa
