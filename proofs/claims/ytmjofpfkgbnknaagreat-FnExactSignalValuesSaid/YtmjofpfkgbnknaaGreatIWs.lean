/-
  WordStateOk: the program.
-/
import Derived.Test.YtmjofpfkgbnknaaGreatWsMath
import Derived.Test.YtmjofpfkgbnknaaGreatIFlat
import Derived.Test.YtmjofpfkgbnknaaGreatIFirst
import Derived.Deep.RegionHeld3
namespace Go.Proofs.YtmjofpfkgbnknaaGreat
open Go.RowKit
set_option linter.unusedVariables false
set_option linter.unusedSimpArgs false

theorem implFits_at (n : Int) (W : Nat) (hW : W ≤ 4) {r : Bool} (w : World) (hr : fitsB n W = r) : Calls Tryz.prog 112 #[.int .i64 n, .int .i64 (W : Int)] w fun e w' => e = .returned (.bool r) ∧ w = w' := by
  obtain ⟨c, hc⟩ : ∃ c, cutI n W = c := ⟨_, rfl⟩
  have HC := Lib.hid hc
  obtain ⟨q, hq⟩ : ∃ q, (n == c) = q := ⟨_, rfl⟩
  have HQ := Lib.hid (show q = r by rw [← hr, ← fits_cut, hc, hq])
  clear hr hc
  go_enter Tryz.func112, Tryz.ntmps112
  go_wp2_with fail
  refine (implCut_at n W hW _ HC.out).mono ?_
  rintro e w1 ⟨rfl, rfl⟩
  go_wp2
  go_ret
  exact ⟨ret_bool HQ.out, rfl⟩
theorem memOut_at (x : DMem) (s : Int) (p : Nat) {r : Bool} (w : World) (hp : w.cell? ⟨p, 0, none⟩ = some (.int .i64 s)) (hr : outIs s x = r) :
    Calls Tryz.prog 137 #[.agg #[.int .i64 x.1, .int .i64 x.2.1, .int .i64 x.2.2.1, .int .i64 x.2.2.2], .pointer (some ⟨p, 0, none⟩)] w fun e w' => e = .returned (.bool r) ∧ Below w.heap.size w w' := by
  obtain ⟨y, hy⟩ : ∃ y, x.2.2.2 = y := ⟨_, rfl⟩
  obtain ⟨q, hq⟩ : ∃ q, (y == s) = q := ⟨_, rfl⟩
  have HQ := Lib.hid (show q = r by rw [← hr, ← hq]; unfold outIs; rw [hy]; by_cases h : y = s <;> simp [h])
  have plt : p < w.heap.size := World.block_lt_of_cell? _ _ hp
  rw [hy]
  clear hr hy
  go_enter Tryz.func137, Tryz.ntmps137
  go_wp2
  go_ret
  exact ⟨ret_bool HQ.out, by (repeat' (first | assumption | exact Below.refl _ _ | refine bDrewN ?_ _ | refine Below.drew ?_ | refine bAlloc ?_ (Nat.le_refl _) _ | refine bSet ?_ (by first | exact Nat.le_refl _ | omega | (simp <;> omega)) _))⟩

set_option maxHeartbeats 3200000 in
theorem memOut_index (L : List DMem) (v : Value) (s : Int) (p : Nat) {B T : Nat} (w : World) (hv : rdMemS B T w [v] L) (hT : T ≤ w.heap.size) (hp : w.cell? ⟨p, 0, none⟩ = some (.int .i64 s)) :
    Calls Tryz.prog 156 #[v, .func (.func 137) #[] #[.pointer (some ⟨p, 0, none⟩)]] w fun e w' => (∃ r : Int, e = .returned (.int .i64 r) ∧ decide (0 ≤ r) = L.any (outIs s)) ∧ Below w.heap.size w w' := by
  obtain ⟨vA, vc, rfl, vm, -⟩ := slice_of hv
  have HV := Lib.hid hv
  have hp0 := Lib.hid hp
  clear hv hp
  go_enter Tryz.func156, Tryz.ntmps156
  go_wp2
  go_loopw [8] (fun x wr => ∃ i : Nat, i ≤ L.length ∧ x = .int .i64 i ∧ AnyT (outIs s) L i = false ∧ Below w.heap.size w wr) (fun x _ => L.length - (intOf x).toNat)
  case atStart => exact ⟨0, Nat.zero_le _, rfl, by simp [AnyT], Below.refl _ _⟩
  case round =>
    obtain ⟨i, hi, rfl, hno, hb⟩ := hrel
    have HN := Lib.hid hno
    have HB := Lib.hid hb
    clear hno hb
    by_cases hlt : i < L.length
    · obtain ⟨x, hx⟩ : ∃ x, L[i]? = some x := ⟨_, List.getElem?_eq_getElem hlt⟩
      have HX := Lib.hid hx
      obtain ⟨xb, xq, rfl, xlt, xc0, xf0, xc1, xf1, xc2, xf2, xc3, xf3⟩ := at_Mem (good_MemS.below HV.out hT HB.out) hx
      have xlt2 := Nat.lt_of_lt_of_le xlt (Nat.le_trans hT HB.out.size)
      obtain ⟨q, hq⟩ : ∃ q, (outIs s) x = q := ⟨_, rfl⟩
      have HQ := Lib.hid hq
      have hp := keep HB.out hp0.out
      clear hx hq xlt
      go_wp2_with fail
      refine (memOut_at x s p _ hp HQ.out).mono ?_
      rintro e w1 ⟨rfl, hb1⟩
      have HB1 := Lib.hid (bThen HB.out hb1)
      clear hb1
      cases q with
      | true =>
        have HE := Lib.hid (any_hit HX.out HQ.out)
        go_wp2
        go_ret
        exact ⟨⟨_, rfl, by rw [HE.out]; simp⟩, HB1.out⟩
      | false =>
        have HS := Lib.hid (any_step HX.out HQ.out HN.out)
        go_wp2
        go_roundw
        case rel => exact ⟨i + 1, by omega, by go_num, HS.out, HB1.out⟩
        case measure => simp [intOf]; omega
    · obtain rfl : i = L.length := by omega
      have HE := Lib.hid (any_end HN.out)
      go_wp2
      go_ret
      exact ⟨⟨_, rfl, by rw [HE.out]; rfl⟩, HB.out⟩
theorem memOut_contains (L : List DMem) (v : Value) (s : Int) (p : Nat) {B T : Nat} {r : Bool} (w : World) (hv : rdMemS B T w [v] L) (hT : T ≤ w.heap.size) (hp : w.cell? ⟨p, 0, none⟩ = some (.int .i64 s)) (hr : L.any (outIs s) = r) :
    Calls Tryz.prog 138 #[v, .func (.func 137) #[] #[.pointer (some ⟨p, 0, none⟩)]] w fun e w' => e = .returned (.bool r) ∧ Below w.heap.size w w' := by
  have HR := Lib.hid hr
  have HV := Lib.hid hv
  have hp0 := Lib.hid hp
  clear hr hv hp
  go_enter Tryz.func138, Tryz.ntmps138
  go_wp2_with fail
  refine (memOut_index L v s p _ HV.out hT hp0.out).mono ?_
  rintro e w1 ⟨⟨q, rfl, hq⟩, hb⟩
  have HQ := Lib.hid (hq.trans HR.out)
  clear hq
  go_wp2
  go_ret
  exact ⟨ret_bool HQ.out, hb⟩

set_option maxRecDepth 100000 in
set_option maxHeartbeats 6400000 in
theorem implHolds_at (m : DModule) (us : List Value) (s : Nat) (w : World) (h : rdModule 0 w.heap.size w us m) (hs : s < m.1.length) {r : Bool} (hr : stateB m s = r) :
    Calls Tryz.prog 111 #[.agg us.toArray, .int .i64 (s : Int)] w fun e w' => e = .returned (.bool r) ∧ Below w.heap.size w w' := by
  have HR := Lib.hid hr
  clear hr
  obtain ⟨mu0, mu1, mu2, mu3, rfl, mh0, mh1, mh2, mh3⟩ := h
  obtain ⟨mA0, mc0, me0, mm0, -⟩ := slice_of mh0
  subst me0
  have mR0 := Lib.hid mh0
  clear mh0
  obtain ⟨mA1, mc1, me1, mm1, -⟩ := slice_of mh1
  subst me1
  have mR1 := Lib.hid mh1
  clear mh1
  obtain ⟨mA2, mc2, me2, mm2, -⟩ := slice_of mh2
  subst me2
  have mR2 := Lib.hid mh2
  clear mh2
  obtain ⟨mA3, mc3, me3, mm3, -⟩ := slice_of mh3
  subst me3
  have mR3 := Lib.hid mh3
  clear mh3
  obtain ⟨x, hx⟩ : ∃ x, m.1[s]? = some x := ⟨_, List.getElem?_eq_getElem hs⟩
  obtain ⟨b, q, rfl, hb1, x0, -, x1, -, x2, -⟩ := at_Signal mR0.out hx
  obtain ⟨kd, hkd⟩ : ∃ kd, x.1 = kd := ⟨_, rfl⟩
  rw [hkd] at x0
  have HK := Lib.hid (show stateB m s = (decide (kd = 3) || m.2.2.2.any (outIs s)) by unfold stateB; rw [kind_at hx, hkd])
  have ts : (s : Int) < (m.1.length : Int) := by omega
  clear hx hkd x1 x2
  by_cases h3 : kd = 3
  · have b3 : (kd == 3) = true := by simp [h3]
    have HV := Lib.hid (show true = r by rw [← HR.out, HK.out, decide_eq_true h3]; rfl)
    clear h3
    go_enter Tryz.func111, Tryz.ntmps111
    go_wp2
    go_ret
    exact ⟨ret_bool HV.out, by (repeat' (first | assumption | exact Below.refl _ _ | refine bDrewN ?_ _ | refine Below.drew ?_ | refine bAlloc ?_ (Nat.le_refl _) _ | refine bSet ?_ (by first | exact Nat.le_refl _ | omega | (simp <;> omega)) _))⟩
  · have b3 : (kd == 3) = false := by simp [h3]
    have HV := Lib.hid (show m.2.2.2.any (outIs s) = r by rw [← HR.out, HK.out, decide_eq_false h3]; rfl)
    clear h3
    go_enter Tryz.func111, Tryz.ntmps111
    go_wp2_with fail
    obtain ⟨W0, hV⟩ : ∃ W0, W0 = (w.alloc (.cells #[.slice (some ⟨b, q, none⟩) (m.1).length mc0, .slice mA1 (m.2.1).length mc1, .slice mA2 (m.2.2.1).length mc2, .slice mA3 (m.2.2.2).length mc3] 31)).alloc (.cells #[.int .i64 (s : Int)] 3) := ⟨_, rfl⟩
    rw [← hV]
    have gN := eqbox2 hV
    have e0 : W0.cell? ⟨w.heap.size + 1, 0, none⟩ = some (.int .i64 (s : Int)) := box_cell gN.2.1 0 _ rfl
    have HW0 := Lib.hid gN.2.2
    clear hV gN x0
    refine (memOut_contains m.2.2.2 _ (s : Int) (w.heap.size + 1) _ (rdUp good_MemS mR3.out HW0.out) (Nat.le_refl _) e0 HV.out).mono ?_
    rintro e w1 ⟨rfl, hb⟩
    have HB := Lib.hid (bThen HW0.out hb)
    clear hb
    go_wp2
    go_ret
    exact ⟨rfl, HB.out⟩
set_option maxRecDepth 100000 in
set_option maxHeartbeats 12800000 in
theorem implWs_at (m : DModule) (st : DWordState) (us vs : List Value) (w : World) (h : rdModule 0 w.heap.size w us m) (hs : rdWordState 0 w.heap.size w vs st) {r : Bool} (hr : wsB m st = r) :
    Calls Tryz.prog 77 #[.agg us.toArray, .agg vs.toArray] w fun e w' => e = .returned (.bool r) ∧ Below w.heap.size w w' := by
  have HM := Lib.hid h
  have HR := Lib.hid hr
  clear hr
  obtain ⟨mu0, mu1, mu2, mu3, rfl, mh0, mh1, mh2, mh3⟩ := h
  obtain ⟨mA0, mc0, me0, mm0, -⟩ := slice_of mh0
  subst me0
  have mR0 := Lib.hid mh0
  clear mh0
  obtain ⟨mA1, mc1, me1, mm1, -⟩ := slice_of mh1
  subst me1
  have mR1 := Lib.hid mh1
  clear mh1
  obtain ⟨mA2, mc2, me2, mm2, -⟩ := slice_of mh2
  subst me2
  have mR2 := Lib.hid mh2
  clear mh2
  obtain ⟨mA3, mc3, me3, mm3, -⟩ := slice_of mh3
  subst me3
  have mR3 := Lib.hid mh3
  clear mh3
  obtain ⟨su0, su1, rfl, sh0, sh1⟩ := hs
  obtain ⟨sA0, sc0, se0, sm0, -⟩ := slice_of sh0
  subst se0
  have sR0 := Lib.hid sh0
  clear sh0
  obtain ⟨sA1, sc1, se1, sm1, -⟩ := slice_of sh1
  subst se1
  have sR1 := Lib.hid sh1
  clear sh1
  obtain ⟨f, hf⟩ : ∃ f, flatB m = f := ⟨_, rfl⟩
  have HF := Lib.hid hf
  clear hf
  go_enter Tryz.func77, Tryz.ntmps77
  go_wp2_with fail
  obtain ⟨W0, hV⟩ : ∃ W0, W0 = ((w.alloc (.cells #[.slice mA0 (m.1).length mc0, .slice mA1 (m.2.1).length mc1, .slice mA2 (m.2.2.1).length mc2, .slice mA3 (m.2.2.2).length mc3] 31)).alloc (.cells #[.slice sA0 (st.1).length sc0, .slice sA1 (st.2).length sc1] 56)) := ⟨_, rfl⟩
  rw [← hV]
  have gN := eqbox2 hV
  have d0 : W0.cell? ⟨w.heap.size, 0, none⟩ = some (.slice mA0 (m.1).length mc0) := box_cell gN.1 0 _ rfl
  have d1 : W0.cell? ⟨w.heap.size, 1, none⟩ = some (.slice mA1 (m.2.1).length mc1) := box_cell gN.1 1 _ rfl
  have d2 : W0.cell? ⟨w.heap.size, 2, none⟩ = some (.slice mA2 (m.2.2.1).length mc2) := box_cell gN.1 2 _ rfl
  have d3 : W0.cell? ⟨w.heap.size, 3, none⟩ = some (.slice mA3 (m.2.2.2).length mc3) := box_cell gN.1 3 _ rfl
  have e0 : W0.cell? ⟨w.heap.size + 1, 0, none⟩ = some (.slice sA0 (st.1).length sc0) := box_cell gN.2.1 0 _ rfl
  have e1 : W0.cell? ⟨w.heap.size + 1, 1, none⟩ = some (.slice sA1 (st.2).length sc1) := box_cell gN.2.1 1 _ rfl
  have sW0 : W0.heap.size = w.heap.size + 2 := by rw [hV]; simp
  have HW0 := Lib.hid gN.2.2
  clear hV gN
  refine (implFlat_at m _ _ (rdUp good_Module HM.out HW0.out) (Nat.le_refl _) HF.out).mono ?_
  rintro e w1 ⟨rfl, hb⟩
  replace d0 := keep hb d0
  replace d1 := keep hb d1
  replace d2 := keep hb d2
  replace d3 := keep hb d3
  replace e0 := keep hb e0
  replace e1 := keep hb e1
  have HB := Lib.hid (bThen HW0.out hb)
  clear hb
  cases f with
  | false =>
    have HE := Lib.hid (ws_no0 HR.out HF.out)
    go_wp2
    go_ret
    exact ⟨ret_bool HE.out.symm, HB.out⟩
  | true =>
    have HP := Lib.hid (flatP_of HF.out)
    by_cases h1 : st.1.length = m.1.length
    case neg =>
      have HE := Lib.hid (ws_no1 HR.out (fun h => h1 h.1))
      have b1 : ((st.1.length : Int) != (m.1.length : Int)) = true := by simp; omega
      have b1' : ((st.1.length : Int) == (m.1.length : Int)) = false := by simp; omega
      have b1'' : (st.1.length == m.1.length) = false := by simp; omega
      clear h1
      go_wp2
      go_ret
      exact ⟨ret_bool HE.out.symm, HB.out⟩
    by_cases h2 : st.2.length = 4 * m.2.2.2.length
    case neg =>
      have HE := Lib.hid (ws_no1 HR.out (fun h => h2 h.2))
      have hl3 := HP.out.mod.l3
      rw [h1]
      go_wp2
      go_ret
      exact ⟨ret_bool HE.out.symm, HB.out⟩
    have l0 := HP.out.mod.l0
    have l3 := HP.out.mod.l3
    have b1 : ((st.1.length : Int) != (m.1.length : Int)) = false := by simp; omega
    have b2 : ((st.2.length : Int) != 4 * (m.2.2.2.length : Int)) = false := by simp; omega
    have H1 := Lib.hid h1
    have H2 := Lib.hid h2
    have ls1 : st.1.length ≤ 30 := by omega
    have ls2 : st.2.length ≤ 8 := by omega
    clear h1 h2
    go_wp2
    clear b1 b2
    go_loopw [34] (fun v wr => ∃ k : Nat, k ≤ st.1.length ∧ v = .int .i64 (k : Int) ∧ AllN (valB m st.1) k ∧ Below w1.heap.size w1 wr) (fun v _ => st.1.length - (intOf v).toNat)
    case atStart => exact ⟨0, Nat.zero_le _, rfl, AllN.zero _, Below.refl _ _⟩
    case round =>
      obtain ⟨k, hk, rfl, hall, hb⟩ := hrel
      obtain ⟨w3, rfl⟩ : ∃ w3, w3 = wr := ⟨_, rfl⟩
      have HA := Lib.hid hall
      have HBr := Lib.hid hb
      have HB3 := Lib.hid (bThen HB.out hb)
      replace d0 := keep hb d0
      replace d1 := keep hb d1
      replace d2 := keep hb d2
      replace d3 := keep hb d3
      replace e0 := keep hb e0
      replace e1 := keep hb e1
      have lt0 : w.heap.size < w3.heap.size := World.block_lt_of_cell? _ _ d0
      have lt1 : w.heap.size + 1 < w3.heap.size := World.block_lt_of_cell? _ _ e0
      clear hall hb
      by_cases hlt : k < st.1.length
      · have hks : k < m.1.length := by have := H1.out; omega
        obtain ⟨y, hy⟩ : ∃ y : Int, st.1[k]? = some y := ⟨_, List.getElem?_eq_getElem hlt⟩
        have HY := Lib.hid (show st.1.getD k 0 = y by rw [List.getD_eq_getElem?_getD, hy]; rfl)
        obtain ⟨yb, yq, rfl, yb1, y0, -⟩ := at_Int (good_IntS.below sR0.out (Nat.le_refl _) HB3.out) hy
        have yb2 := Nat.lt_of_lt_of_le yb1 HB3.out.size
        obtain ⟨q, hq⟩ : ∃ q, stateB m k = q := ⟨_, rfl⟩
        have HQ := Lib.hid hq
        have HVB := Lib.hid (show valB m st.1 k = fitsB y (if q then widN m k else 0) by unfold valB valW; rw [HY.out, hq])
        clear hy hq yb1
        by_cases hy0 : y = 0
        · have b0 : (y != 0) = false := by simp [hy0]
          have HV := Lib.hid (show valB m st.1 k = true by
            rw [HVB.out, hy0]; unfold fitsB
            rw [decide_eq_true_eq]; omega)
          clear hy0
          go_wp2
          go_roundw
          case rel => exact ⟨k + 1, by omega, by go_num, HA.out.step HV.out, HBr.out⟩
          case measure => simp [intOf]; omega
        · have b0 : (y != 0) = true := by simp [hy0]
          go_wp2_with fail
          refine (implHolds_at m _ k _ (rdUp good_Module HM.out HB3.out) hks HQ.out).mono ?_
          rintro e w4 ⟨rfl, hb⟩
          replace d0 := keep hb d0
          replace d1 := keep hb d1
          replace d2 := keep hb d2
          replace d3 := keep hb d3
          replace e0 := keep hb e0
          replace e1 := keep hb e1
          have HB4 := Lib.hid (bThen HB3.out hb)
          replace HBr := Lib.hid (bThen HBr.out hb)
          clear hb y0 b0
          cases q with
          | false =>
            have HV := Lib.hid (show valB m st.1 k = false by
              rw [HVB.out]; unfold fitsB
              refine decide_eq_false ?_
              have e : ((2 ^ (if false = true then widN m k else 0) - 1 : Nat) : Int) = 0 := rfl
              rw [e]; omega)
            have HE := Lib.hid (ws_no2 HR.out hks HV.out)
            go_wp2
            go_ret
            exact ⟨ret_bool HE.out.symm, HB4.out⟩
          | true =>
            obtain ⟨x, hx⟩ : ∃ x, m.1[k]? = some x := ⟨_, List.getElem?_eq_getElem hks⟩
            obtain ⟨W, hxW, hW⟩ := HP.out.wid k x hx
            obtain ⟨xb, xq, rfl, xb1, x0, -, x1, -, x2, -⟩ := at_Signal (good_SignalS.below mR0.out (Nat.le_refl _) HB4.out) hx
            have xb2 := Nat.lt_of_lt_of_le xb1 HB4.out.size
            rw [hxW] at x1
            obtain ⟨bb, hbb⟩ : ∃ bb, fitsB y W = bb := ⟨_, rfl⟩
            have HV := Lib.hid (show valB m st.1 k = bb by rw [HVB.out, ← hbb, widN_at hx hxW]; rfl)
            have HBB := Lib.hid hbb
            have tk : (k : Int) < (m.1.length : Int) := by omega
            have mlt0 : w.heap.size < w4.heap.size := World.block_lt_of_cell? _ _ d0
            clear hx hxW hbb xb1 x0 x2
            go_wp2_with fail
            refine (implFits_at y W hW.2 _ HBB.out).mono ?_
            rintro e w5 ⟨rfl, rfl⟩
            cases bb with
            | false =>
              have HE := Lib.hid (ws_no2 HR.out hks HV.out)
              go_wp2
              go_ret
              exact ⟨ret_bool HE.out.symm, HB4.out⟩
            | true =>
              go_wp2
              go_roundw
              case rel => exact ⟨k + 1, by omega, by go_num, HA.out.step HV.out, HBr.out⟩
              case measure => simp [intOf]; omega
      · obtain rfl : k = st.1.length := by omega
        have HA1 := Lib.hid HA.out
        clear HA hlt
        go_wp2
        go_loopw [61] (fun v wr => ∃ k : Nat, k ≤ st.2.length ∧ v = .int .i64 (k : Int) ∧ AllN (wordB m st.2) k ∧ Below w3.heap.size w3 wr) (fun v _ => st.2.length - (intOf v).toNat)
        case atStart => exact ⟨0, Nat.zero_le _, rfl, AllN.zero _, Below.refl _ _⟩
        case round =>
          obtain ⟨k, hk, rfl, hall, hb⟩ := hrel
          obtain ⟨w4, rfl⟩ : ∃ w4, w4 = wr := ⟨_, rfl⟩
          have HA := Lib.hid hall
          have HBr2 := Lib.hid hb
          have HB4 := Lib.hid (bThen HB3.out hb)
          replace d0 := keep hb d0
          replace d3 := keep hb d3
          replace e0 := keep hb e0
          replace e1 := keep hb e1
          clear hall hb lt0 lt1
          have lt0 : w.heap.size < w4.heap.size := World.block_lt_of_cell? _ _ d0
          have lt1 : w.heap.size + 1 < w4.heap.size := World.block_lt_of_cell? _ _ e0
          by_cases hlt : k < st.2.length
          · obtain ⟨j, hkj⟩ : ∃ j, k / 4 = j := ⟨_, rfl⟩
            have hj : j < m.2.2.2.length := by have := H2.out; omega
            have ew : IntKind.i64.wrap ((k : Int) / 4) = (j : Int) := by rw [wrap64_int _ (by omega) (by omega)]; omega
            have HKJ := Lib.hid hkj
            obtain ⟨y, hy⟩ : ∃ y : Int, st.2[k]? = some y := ⟨_, List.getElem?_eq_getElem hlt⟩
            obtain ⟨z, hz⟩ : ∃ z, m.2.2.2[j]? = some z := ⟨_, List.getElem?_eq_getElem hj⟩
            obtain ⟨t, ht, htl⟩ := inR_at (HP.out.mod.mem z (List.mem_of_getElem? hz)).2.1
            obtain ⟨x, hx⟩ : ∃ x, m.1[t]? = some x := ⟨_, List.getElem?_eq_getElem htl⟩
            obtain ⟨W, hxW, hW⟩ := HP.out.wid t x hx
            obtain ⟨xb, xq, rfl, xb1, x0, -, x1, -, x2, -⟩ := at_Signal (good_SignalS.below mR0.out (Nat.le_refl _) HB4.out) hx
            obtain ⟨yb, yq, rfl, yb1, y0, -⟩ := at_Int (good_IntS.below sR1.out (Nat.le_refl _) HB4.out) hy
            obtain ⟨zb, zq, rfl, zb1, z0, -, z1, -, z2, -, z3, -⟩ := at_Mem (good_MemS.below mR3.out (Nat.le_refl _) HB4.out) hz
            have xb2 := Nat.lt_of_lt_of_le xb1 HB4.out.size
            have yb2 := Nat.lt_of_lt_of_le yb1 HB4.out.size
            have zb2 := Nat.lt_of_lt_of_le zb1 HB4.out.size
            rw [hxW] at x1
            rw [ht] at z1
            obtain ⟨bb, hbb⟩ : ∃ bb, fitsB y W = bb := ⟨_, rfl⟩
            have HV := Lib.hid (show wordB m st.2 k = bb by
              unfold wordB
              rw [HKJ.out, data_at hz ht, widN_at hx hxW, List.getD_eq_getElem?_getD, hy, ← hbb]; rfl)
            have HBB := Lib.hid hbb
            have tj : (j : Int) < (m.2.2.2.length : Int) := by omega
            have tt : (t : Int) < (m.1.length : Int) := by omega
            have HW4 := Lib.hid hW
            go_wp2_with fail
            have hS0 : (fun w' => Below w4.heap.size w4 w' ∧ w'.cell? ⟨w.heap.size, 0, none⟩ = some (.slice (some ⟨xb, xq, none⟩) (m.1).length mc0) ∧ w'.cell? ⟨w.heap.size, 3, none⟩ = some (.slice (some ⟨zb, zq, none⟩) (m.2.2.2).length mc3) ∧ w'.cell? ⟨xb, xq + t * 3 + 1, none⟩ = some (.int .i64 (W : Int)) ∧ w'.cell? ⟨zb, zq + j * 4 + 1, none⟩ = some (.int .i64 (t : Int))) w4 := ⟨Below.refl _ _, d0, d3, x1, z1⟩
            have hS : ∀ {w0 w' : World}, (fun w' => Below w4.heap.size w4 w' ∧ w'.cell? ⟨w.heap.size, 0, none⟩ = some (.slice (some ⟨xb, xq, none⟩) (m.1).length mc0) ∧ w'.cell? ⟨w.heap.size, 3, none⟩ = some (.slice (some ⟨zb, zq, none⟩) (m.2.2.2).length mc3) ∧ w'.cell? ⟨xb, xq + t * 3 + 1, none⟩ = some (.int .i64 (W : Int)) ∧ w'.cell? ⟨zb, zq + j * 4 + 1, none⟩ = some (.int .i64 (t : Int))) w0 → Below w0.heap.size w0 w' → (fun w' => Below w4.heap.size w4 w' ∧ w'.cell? ⟨w.heap.size, 0, none⟩ = some (.slice (some ⟨xb, xq, none⟩) (m.1).length mc0) ∧ w'.cell? ⟨w.heap.size, 3, none⟩ = some (.slice (some ⟨zb, zq, none⟩) (m.2.2.2).length mc3) ∧ w'.cell? ⟨xb, xq + t * 3 + 1, none⟩ = some (.int .i64 (W : Int)) ∧ w'.cell? ⟨zb, zq + j * 4 + 1, none⟩ = some (.int .i64 (t : Int))) w' := fun h hb => ⟨bThen h.1 hb, keep hb h.2.1, keep hb h.2.2.1, keep hb h.2.2.2.1, keep hb h.2.2.2.2⟩
            dsimp only at hS0 hS
            clear hx hy hz hxW ht xb1 yb1 zb1 x0 x2 z0 z2 z3 hbb hkj hW
            refine wp_region_noPanic ?_
            refine wp_region_kept 13 15 (fun w' => Below w4.heap.size w4 w' ∧ w'.cell? ⟨w.heap.size, 0, none⟩ = some (.slice (some ⟨xb, xq, none⟩) (m.1).length mc0) ∧ w'.cell? ⟨w.heap.size, 3, none⟩ = some (.slice (some ⟨zb, zq, none⟩) (m.2.2.2).length mc3) ∧ w'.cell? ⟨xb, xq + t * 3 + 1, none⟩ = some (.int .i64 (W : Int)) ∧ w'.cell? ⟨zb, zq + j * 4 + 1, none⟩ = some (.int .i64 (t : Int))) (by kernel_rfl) rfl (hS hS0 (Below.drew (Below.refl _ _))) (fun hK0 => ?_)
            refine Kept.take (v := ?vr0) 0 (by kernel_rfl) rfl (by kernel_rfl) (fun _ _ _ h => h) (Or.inl ⟨by rfl, ?hyr0⟩) hK0 ?restr0
            case hyr0 =>
              intro w0 hSw
              (try dsimp only at hSw)
              go_simp
              all_goals (with_reducible rfl)
            (try simp only [Act.put, List.setIfInBounds_toArray, List.set_cons_zero, List.set_cons_succ])
            refine Kept.take (v := ?vr1) 1 (by kernel_rfl) rfl (by kernel_rfl) (fun _ _ _ h => h) (Or.inl ⟨by rfl, ?hyr1⟩) hK0 ?restr1
            case hyr1 =>
              intro w0 hSw
              (try dsimp only at hSw)
              go_simp
              all_goals (with_reducible rfl)
            (try simp only [Act.put, List.setIfInBounds_toArray, List.set_cons_zero, List.set_cons_succ])
            refine Kept.take (v := ?vr2) 2 (by kernel_rfl) rfl (by kernel_rfl) (fun _ _ _ h => h) (Or.inl ⟨by rfl, ?hyr2⟩) hK0 ?restr2
            case hyr2 =>
              intro w0 hSw
              (try dsimp only at hSw)
              go_simp
              all_goals (with_reducible rfl)
            (try simp only [Act.put, List.setIfInBounds_toArray, List.set_cons_zero, List.set_cons_succ])
            refine Kept.take (v := ?vr3) 3 (by kernel_rfl) rfl (by kernel_rfl) (fun _ _ _ h => h) (Or.inl ⟨by rfl, ?hyr3⟩) hK0 ?restr3
            case hyr3 =>
              intro w0 hSw
              (try dsimp only at hSw)
              go_simp
              all_goals (with_reducible rfl)
            (try simp only [Act.put, List.setIfInBounds_toArray, List.set_cons_zero, List.set_cons_succ])
            refine Kept.take (v := ?vr4) 4 (by kernel_rfl) rfl (by kernel_rfl) (fun _ _ _ h => h) (Or.inl ⟨by rfl, ?hyr4⟩) hK0 ?restr4
            case hyr4 =>
              intro w0 hSw
              (try dsimp only at hSw)
              go_simp
              all_goals (with_reducible rfl)
            (try simp only [Act.put, List.setIfInBounds_toArray, List.set_cons_zero, List.set_cons_succ])
            refine Kept.take (v := ?vr5) 5 (by kernel_rfl) rfl (by kernel_rfl) (fun _ _ _ h => h) (Or.inl ⟨by rfl, ?hyr5⟩) hK0 ?restr5
            case hyr5 =>
              intro w0 hSw
              (try dsimp only at hSw)
              go_simp
              all_goals (with_reducible rfl)
            (try simp only [Act.put, List.setIfInBounds_toArray, List.set_cons_zero, List.set_cons_succ])
            refine Kept.take (v := ?vr6) 6 (by kernel_rfl) rfl (by kernel_rfl) (fun _ _ _ h => h) (Or.inl ⟨by rfl, ?hyr6⟩) hK0 ?restr6
            case hyr6 =>
              intro w0 hSw
              (try dsimp only at hSw)
              go_simp
              all_goals (with_reducible rfl)
            (try simp only [Act.put, List.setIfInBounds_toArray, List.set_cons_zero, List.set_cons_succ])
            refine Kept.take (v := ?vr7) 7 (by kernel_rfl) rfl (by kernel_rfl) (fun _ _ _ h => h) (Or.inl ⟨by rfl, ?hyr7⟩) hK0 ?restr7
            case hyr7 =>
              intro w0 hSw
              (try dsimp only at hSw)
              go_simp
              all_goals (with_reducible rfl)
            (try simp only [Act.put, List.setIfInBounds_toArray, List.set_cons_zero, List.set_cons_succ])
            refine Kept.take (v := ?vr8) 8 (by kernel_rfl) rfl (by kernel_rfl) (fun _ _ _ h => h) (Or.inl ⟨by rfl, ?hyr8⟩) hK0 ?restr8
            case hyr8 =>
              intro w0 hSw
              (try dsimp only at hSw)
              go_simp
              all_goals (with_reducible rfl)
            (try simp only [Act.put, List.setIfInBounds_toArray, List.set_cons_zero, List.set_cons_succ])
            refine Kept.take (v := ?vr9) 9 (by kernel_rfl) rfl (by kernel_rfl) (fun _ _ _ h => h) (Or.inl ⟨by rfl, ?hyr9⟩) hK0 ?restr9
            case hyr9 =>
              intro w0 hSw
              (try dsimp only at hSw)
              go_simp
              all_goals (with_reducible rfl)
            (try simp only [Act.put, List.setIfInBounds_toArray, List.set_cons_zero, List.set_cons_succ])
            refine Kept.take (v := ?vr10) 10 (by kernel_rfl) rfl (by kernel_rfl) (fun _ _ _ h => h) (Or.inl ⟨by rfl, ?hyr10⟩) hK0 ?restr10
            case hyr10 =>
              intro w0 hSw
              (try dsimp only at hSw)
              go_simp
              all_goals (with_reducible rfl)
            (try simp only [Act.put, List.setIfInBounds_toArray, List.set_cons_zero, List.set_cons_succ])
            refine Kept.take (v := ?vr11) 11 (by kernel_rfl) rfl (by kernel_rfl) (fun _ _ _ h => h) (Or.inl ⟨by rfl, ?hyr11⟩) hK0 ?restr11
            case hyr11 =>
              intro w0 hSw
              (try dsimp only at hSw)
              go_simp
              all_goals (with_reducible rfl)
            (try simp only [Act.put, List.setIfInBounds_toArray, List.set_cons_zero, List.set_cons_succ])
            refine Kept.take (v := ?vr12) 12 (by kernel_rfl) rfl (by kernel_rfl) (fun _ _ _ h => h) (Or.inl ⟨by rfl, ?hyr12⟩) hK0 ?restr12
            case hyr12 =>
              intro w0 hSw
              (try dsimp only at hSw)
              go_simp
              all_goals (with_reducible rfl)
            (try simp only [Act.put, List.setIfInBounds_toArray, List.set_cons_zero, List.set_cons_succ])
            refine Kept.tail (by rfl) (by kernel_rfl) ?_
            simp only [List.drop_succ_cons, List.drop_zero]
            go_wp2_with fail
            refine (implFits_at y W HW4.out.2 _ HBB.out).mono ?_
            rintro e w5 ⟨rfl, rfl⟩
            have HB5 := Lib.hid hK0.1
            clear hK0 hS hS0 d0 d3 e0 e1 x1 y0 z1
            go_wp2
            refine NoPanic.normal ?_
            cases bb with
            | false =>
              have HE := Lib.hid (ws_no3 HR.out hlt HV.out)
              go_wp2
              go_ret
              exact ⟨ret_bool HE.out.symm, bThen HB4.out HB5.out⟩
            | true =>
              go_wp2
              go_roundw
              case rel => exact ⟨k + 1, by omega, by go_num, HA.out.step HV.out, bThen HBr2.out HB5.out⟩
              case measure => simp [intOf]; omega
          · obtain rfl : k = st.2.length := by omega
            have HE := Lib.hid (ws_yes HR.out HF.out H1.out H2.out (by have h := HA1.out; rw [H1.out] at h; exact h) HA.out)
            go_wp2
            go_ret
            exact ⟨ret_bool HE.out.symm, HB4.out⟩
end Go.Proofs.YtmjofpfkgbnknaaGreat
