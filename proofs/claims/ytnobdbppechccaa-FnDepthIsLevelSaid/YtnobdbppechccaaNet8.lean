/-
  Depth, both sides.
-/
import Derived.Test.YtnobdbppechccaaNet7
import Derived.Deep.RegionHeld3
namespace Go.Proofs.Ytnobdbppechccaa
open Go.RowKit
set_option linter.unusedVariables false
set_option linter.unusedSimpArgs false

set_option maxRecDepth 100000 in
set_option maxHeartbeats 6400000 in
theorem implDep_at (n : DNet) (us : List Value) (w : World) (h : rdNet 0 w.heap.size w us n) {r : Int} (hr : depO n = r) :
    Calls Try.prog 23 #[.agg us.toArray] w fun e w' => e = .returned (.int .i64 r) ∧ Below w.heap.size w w' := by
  have HD := Lib.hid h
  obtain ⟨f, hf⟩ : ∃ f, netB n = f := ⟨_, rfl⟩
  have HF := Lib.hid hf
  have HE := Lib.hid hr
  clear hf hr
  obtain ⟨mu0, mu1, mu2, mu3, rfl, mh0, mh1, mh2, mh3⟩ := h
  obtain ⟨me0, -⟩ := mh0
  injection me0 with me0
  subst me0
  obtain ⟨mA1, mc1, me1, mm1, -⟩ := slice_of mh1
  subst me1
  have mR1 := Lib.hid mh1
  clear mh1
  obtain ⟨mA2, mc2, me2, mm2, -⟩ := slice_of mh2
  subst me2
  have mR2 := Lib.hid mh2
  clear mh2
  obtain ⟨mA3, mc3, me3, mm3, -⟩ := slice_of mh3
  subst me3
  have mR3 := Lib.hid mh3
  clear mh3
  go_enter Try.func23, Try.ntmps23
  go_wp2_with fail
  obtain ⟨W0, hV⟩ : ∃ W0, W0 = (w.alloc (.cells #[.int .i64 n.1, .slice mA1 (n.2.1).length mc1, .slice mA2 (n.2.2.1).length mc2, .slice mA3 (n.2.2.2).length mc3] 28)) := ⟨_, rfl⟩
  rw [← hV]
  have gN := eqbox1 hV
  have d0 : W0.cell? ⟨w.heap.size, 0, none⟩ = some (.int .i64 n.1) := box_cell gN.1 0 _ rfl
  have d1 : W0.cell? ⟨w.heap.size, 1, none⟩ = some (.slice mA1 (n.2.1).length mc1) := box_cell gN.1 1 _ rfl
  have d2 : W0.cell? ⟨w.heap.size, 2, none⟩ = some (.slice mA2 (n.2.2.1).length mc2) := box_cell gN.1 2 _ rfl
  have d3 : W0.cell? ⟨w.heap.size, 3, none⟩ = some (.slice mA3 (n.2.2.2).length mc3) := box_cell gN.1 3 _ rfl
  have sW0 : W0.heap.size = w.heap.size + 1 := by rw [hV]; simp
  have HW0 := Lib.hid gN.2
  clear hV gN
  refine (implNetOk_at n _ _ (rdUp good_Net HD.out HW0.out) HF.out).mono ?_
  rintro e w1 ⟨rfl, hb⟩
  replace d0 := keep hb d0
  replace d1 := keep hb d1
  replace d2 := keep hb d2
  replace d3 := keep hb d3
  have HB1 := Lib.hid (bThen HW0.out hb)
  clear hb
  cases f with
  | false =>
    have HE2 := Lib.hid (show (-1 : Int) = r by rw [← HE.out]; unfold depO; rw [HF.out]; rfl)
    go_wp2
    go_ret
    exact ⟨ret_i64 HE2.out, HB1.out⟩
  | true =>
  have HP := Lib.hid (netP_of HF.out)
  obtain ⟨L, hL⟩ : ∃ L, levO n = L := ⟨_, rfl⟩
  have HLL := Lib.hid hL
  have HLEN := Lib.hid (show L.length = netN n by rw [← hL, lev_yes HF.out, levK_len])
  have HLI := Lib.hid (show ∀ j, 0 ≤ L.getD j 0 ∧ L.getD j 0 ≤ 300 from fun j => by have h1 := levK_in n n.2.2.1.length j; have h2 := HP.out.sz.a300; rw [← hL, lev_yes HF.out]; omega)
  clear hL
  go_wp2_with fail
  refine (levels_at n _ _ (rdUp good_Net HD.out HB1.out) HP.out).mono ?_
  rintro e w2 ⟨G0, rfl, ho, hb⟩
  replace d0 := keep hb d0
  replace d1 := keep hb d1
  replace d2 := keep hb d2
  replace d3 := keep hb d3
  have HB2 := Lib.hid (bThen HB1.out hb)
  rw [← lev_yes HF.out, HLL.out] at ho
  have HL := Lib.hid ho
  clear hb ho
  go_wp2_with fail
  refine (rootNodes_at n _ _ (rdUp good_Net HD.out HB2.out) HP.out (net_parts HF.out)).mono ?_
  rintro e w3 ⟨v, rfl, ho, hb⟩
  have HB3 := Lib.hid (bThen HB2.out hb)
  have HBL := Lib.hid hb
  obtain ⟨R, hR⟩ : ∃ R, nodesL (rootsL n) = R := ⟨_, rfl⟩
  rw [hR] at ho
  obtain ⟨rA, rc, rfl, -⟩ := ho.shape
  have HR := Lib.hid ho
  have hr64 : R.length ≤ 64 := by rw [← hR, nodes_len]; exact HP.out.roots_le
  have HNL := Lib.hid (show R.length = (rootsL n).length by rw [← hR, nodes_len])
  have HNP := Lib.hid (show ∀ k x, R[k]? = some x → ∃ l : Nat, x = ((l / 2 : Nat) : Int) ∧ l / 2 < netN n ∧ (rootsL n)[k]? = some (l : Int) from fun k x h => by
    rw [← hR] at h
    unfold nodesL at h
    rw [List.getElem?_map] at h
    cases hg : (rootsL n)[k]? with
    | none => rw [hg] at h; cases h
    | some y =>
      rw [hg] at h
      obtain ⟨l, rfl, hl⟩ := HP.out.root y (List.mem_of_getElem? hg)
      refine ⟨l, ?_, hl, hg⟩
      simpa using h.symm)
  have HRF := Lib.hid (show ∀ x ∈ R, Fit x from fun x hx => by
    obtain ⟨k, hk, e⟩ := List.getElem_of_mem hx
    obtain ⟨l, h1, h2, _⟩ := HNP.out k x (by rw [List.getElem?_eq_getElem hk, e])
    have := HP.out.sz.net_le
    unfold Fit; omega)
  clear hb ho hR d0 d1 d2 d3
  have hLl : netN n = L.length := HLEN.out.symm
  rw [hLl] at HL ⊢
  clear hLl
  go_wp2
  go_loopw [4, 15] (fun dv v wr => ∃ k : Nat, k ≤ R.length ∧ v = .int .i64 (k : Int) ∧ dv = .int .i64 (depL L (rootsL n |>.take k)) ∧ Below w3.heap.size w3 wr) (fun _ v _ => R.length - (intOf v).toNat)
  case atStart => exact ⟨0, Nat.zero_le _, rfl, rfl, Below.refl _ _⟩
  case round =>
    obtain ⟨k, hk, rfl, rfl, hb⟩ := hrel
    obtain ⟨w4, rfl⟩ : ∃ w4, w4 = wr := ⟨_, rfl⟩
    have HB0 := Lib.hid hb
    have HB := Lib.hid (bThen HB3.out hb)
    clear hb
    obtain ⟨d, hd⟩ : ∃ d, depL L ((rootsL n).take k) = d := ⟨_, rfl⟩
    have HD0 := Lib.hid hd
    have hdi : 0 ≤ d ∧ d ≤ 300 := by rw [← hd]; exact depL_in (by omega) HLI.out _
    rw [hd]
    clear hd
    by_cases hlt : k < R.length
    · obtain ⟨x, hx⟩ : ∃ x, R[k]? = some x := ⟨_, List.getElem?_eq_getElem hlt⟩
      obtain ⟨l, hxl, hl, hnl⟩ := HNP.out k x hx
      subst hxl
      obtain ⟨p, hp⟩ : ∃ p, l / 2 = p := ⟨_, rfl⟩
      rw [hp] at hl
      obtain ⟨u, hu⟩ : ∃ u, L.getD p 0 = u := ⟨_, rfl⟩
      have hui := HLI.out p
      rw [hu] at hui
      have HST := Lib.hid (depL_step (L := L) hnl (show L.getD (l / 2) 0 = u by rw [hp]; exact hu))
      obtain ⟨xb, xq, rfl, xlt, xc, xf⟩ := at_Int (ownI_rd (HR.out.below HB0.out) HRF.out) hx
      unfold Fit at xf
      rw [hp] at xc
      obtain ⟨gA, gc, ge, gsh⟩ := (HL.out.below (bThen HBL.out HB0.out)).shape
      injection ge with ge1 ge2 ge3
      obtain ⟨G, hG, u0, -⟩ := gsh p (by rw [HLEN.out]; exact hl)
      rw [← ge1] at hG
      (first | subst hG | (injection hG with hG; injection hG with hG; subst hG))
      rw [hu] at u0
      have hpN : p < L.length := by rw [HLEN.out]; exact hl
      have tpN : (p : Int) < (L.length : Int) := by omega
      clear hx hu hnl gsh ge1 ge2 ge3
      have hl63 : netN n ≤ 333 := HP.out.sz.net_le.1
      by_cases hdu : d < u
      · have HEQ := Lib.hid (show max d u = u by omega)
        go_wp2
        go_roundw
        case rel => exact ⟨k + 1, by omega, by go_num, by rw [HST.out, HD0.out, HEQ.out], HB0.out⟩
        case measure => simp [intOf]; omega
      · have HEQ := Lib.hid (show max d u = d by omega)
        go_wp2
        go_roundw
        case rel => exact ⟨k + 1, by omega, by go_num, by rw [HST.out, HD0.out, HEQ.out], HB0.out⟩
        case measure => simp [intOf]; omega
    · obtain rfl : k = R.length := by omega
      have HE2 := Lib.hid (show d = r by rw [← HE.out, ← HD0.out]; unfold depO; rw [HF.out, if_pos rfl, HLL.out, List.take_of_length_le (by rw [← HNL.out]; exact Nat.le_refl _)])
      clear hlt
      go_wp2
      go_ret
      exact ⟨ret_i64 HE2.out, HB.out⟩

set_option maxRecDepth 100000 in
set_option maxHeartbeats 6400000 in
theorem specDep_at (n : DNet) (us : List Value) (w : World) (h : rdNet 0 w.heap.size w us n) {r : Int} (hr : depO n = r) :
    Calls Try.prog 34 #[.agg us.toArray] w fun e w' => e = .returned (.int .i64 r) ∧ Below w.heap.size w w' := by
  have HD := Lib.hid h
  obtain ⟨f, hf⟩ : ∃ f, netB n = f := ⟨_, rfl⟩
  have HF := Lib.hid hf
  have HE := Lib.hid hr
  clear hf hr
  obtain ⟨mu0, mu1, mu2, mu3, rfl, mh0, mh1, mh2, mh3⟩ := h
  obtain ⟨me0, -⟩ := mh0
  injection me0 with me0
  subst me0
  obtain ⟨mA1, mc1, me1, mm1, -⟩ := slice_of mh1
  subst me1
  have mR1 := Lib.hid mh1
  clear mh1
  obtain ⟨mA2, mc2, me2, mm2, -⟩ := slice_of mh2
  subst me2
  have mR2 := Lib.hid mh2
  clear mh2
  obtain ⟨mA3, mc3, me3, mm3, -⟩ := slice_of mh3
  subst me3
  have mR3 := Lib.hid mh3
  clear mh3
  go_enter Try.func34, Try.ntmps34
  go_wp2_with fail
  obtain ⟨W0, hV⟩ : ∃ W0, W0 = (w.alloc (.cells #[.int .i64 n.1, .slice mA1 (n.2.1).length mc1, .slice mA2 (n.2.2.1).length mc2, .slice mA3 (n.2.2.2).length mc3] 28)) := ⟨_, rfl⟩
  rw [← hV]
  have gN := eqbox1 hV
  have d0 : W0.cell? ⟨w.heap.size, 0, none⟩ = some (.int .i64 n.1) := box_cell gN.1 0 _ rfl
  have d1 : W0.cell? ⟨w.heap.size, 1, none⟩ = some (.slice mA1 (n.2.1).length mc1) := box_cell gN.1 1 _ rfl
  have d2 : W0.cell? ⟨w.heap.size, 2, none⟩ = some (.slice mA2 (n.2.2.1).length mc2) := box_cell gN.1 2 _ rfl
  have d3 : W0.cell? ⟨w.heap.size, 3, none⟩ = some (.slice mA3 (n.2.2.2).length mc3) := box_cell gN.1 3 _ rfl
  have sW0 : W0.heap.size = w.heap.size + 1 := by rw [hV]; simp
  have HW0 := Lib.hid gN.2
  clear hV gN
  refine (specNetOk_at n _ _ (rdUp good_Net HD.out HW0.out) HF.out).mono ?_
  rintro e w1 ⟨rfl, hb⟩
  replace d0 := keep hb d0
  replace d1 := keep hb d1
  replace d2 := keep hb d2
  replace d3 := keep hb d3
  have HB1 := Lib.hid (bThen HW0.out hb)
  clear hb
  cases f with
  | false =>
    have HE2 := Lib.hid (show (-1 : Int) = r by rw [← HE.out]; unfold depO; rw [HF.out]; rfl)
    go_wp2
    go_ret
    exact ⟨ret_i64 HE2.out, HB1.out⟩
  | true =>
  have HP := Lib.hid (netP_of HF.out)
  obtain ⟨L, hL⟩ : ∃ L, levO n = L := ⟨_, rfl⟩
  have HLL := Lib.hid hL
  have HLEN := Lib.hid (show L.length = netN n by rw [← hL, lev_yes HF.out, levK_len])
  have HLI := Lib.hid (show ∀ j, 0 ≤ L.getD j 0 ∧ L.getD j 0 ≤ 300 from fun j => by have h1 := levK_in n n.2.2.1.length j; have h2 := HP.out.sz.a300; rw [← hL, lev_yes HF.out]; omega)
  clear hL
  go_wp2_with fail
  refine (specLev_at n _ _ (rdUp good_Net HD.out HB1.out) HLL.out).mono ?_
  rintro e w2 ⟨gv, rfl, ho, hb⟩
  replace d0 := keep hb d0
  replace d1 := keep hb d1
  replace d2 := keep hb d2
  replace d3 := keep hb d3
  have HB2 := Lib.hid (bThen HB1.out hb)
  obtain ⟨gA, gc, rfl, -⟩ := ho.shape
  have HL := Lib.hid ho
  clear hb ho
  go_wp2_with fail
  refine (specRoots_at n _ _ (rdUp good_Net HD.out HB2.out) (net_parts HF.out).1 (net_parts HF.out).2).mono ?_
  rintro e w3 ⟨v, rfl, ho, hb⟩
  have HB3 := Lib.hid (bThen HB2.out hb)
  have HBL := Lib.hid hb
  obtain ⟨R, hR⟩ : ∃ R, rootsL n = R := ⟨_, rfl⟩
  rw [hR] at ho
  obtain ⟨rA, rc, rfl, -⟩ := ho.shape
  have HR := Lib.hid ho
  have HRR := Lib.hid hR
  have hr64 : R.length ≤ 64 := by rw [← hR]; exact HP.out.roots_le
  have HRP := Lib.hid (show ∀ k x, R[k]? = some x → ∃ l : Nat, x = (l : Int) ∧ l / 2 < netN n from fun k x h => HP.out.root x (by rw [hR]; exact List.mem_of_getElem? h))
  have HRF := Lib.hid (show ∀ x ∈ R, Fit x by rw [← hR]; exact roots_fit HD.out)
  clear hb ho hR d0 d1 d2 d3
  go_wp2
  go_loopw [5, 6] (fun dv v wr => ∃ k : Nat, k ≤ R.length ∧ v = .int .i64 (k : Int) ∧ dv = .int .i64 (depL L (rootsL n |>.take k)) ∧ Below w3.heap.size w3 wr) (fun _ v _ => R.length - (intOf v).toNat)
  case atStart => exact ⟨0, Nat.zero_le _, rfl, rfl, Below.refl _ _⟩
  case round =>
    obtain ⟨k, hk, rfl, rfl, hb⟩ := hrel
    obtain ⟨w4, rfl⟩ : ∃ w4, w4 = wr := ⟨_, rfl⟩
    have HB0 := Lib.hid hb
    have HB := Lib.hid (bThen HB3.out hb)
    clear hb
    obtain ⟨d, hd⟩ : ∃ d, depL L ((rootsL n).take k) = d := ⟨_, rfl⟩
    have HD0 := Lib.hid hd
    have hdi : 0 ≤ d ∧ d ≤ 300 := by rw [← hd]; exact depL_in (by omega) HLI.out _
    rw [hd]
    clear hd
    by_cases hlt : k < R.length
    · obtain ⟨x, hx⟩ : ∃ x, R[k]? = some x := ⟨_, List.getElem?_eq_getElem hlt⟩
      obtain ⟨l, rfl, hl⟩ := HRP.out k x hx
      obtain ⟨p, hp⟩ : ∃ p, l / 2 = p := ⟨_, rfl⟩
      rw [hp] at hl
      obtain ⟨u, hu⟩ : ∃ u, L.getD p 0 = u := ⟨_, rfl⟩
      have hui := HLI.out p
      rw [hu] at hui
      have HST := Lib.hid (depL_step (L := L) (show (rootsL n)[k]? = some (l : Int) by rw [HRR.out]; exact hx) (show L.getD (l / 2) 0 = u by rw [hp]; exact hu))
      obtain ⟨xb, xq, rfl, xlt, xc, xf⟩ := at_Int (ownI_rd (HR.out.below HB0.out) HRF.out) hx
      unfold Fit at xf
      obtain ⟨gA, gc, ge, gsh⟩ := (HL.out.below (bThen HBL.out HB0.out)).shape
      injection ge with ge1 ge2 ge3
      obtain ⟨G, hG, u0, -⟩ := gsh p (by rw [HLEN.out]; exact hl)
      rw [← ge1] at hG
      (first | subst hG | (injection hG with hG; injection hG with hG; subst hG))
      rw [hu] at u0
      have hpx : ((l : Int) / 2) = (p : Int) := by omega
      have hpt : ((l : Int).tdiv 2) = (p : Int) := by rw [tdiv2, hp]
      have hpw : IntKind.i64.wrap (p : Int) = (p : Int) := wrap64_int _ (by omega) (by omega)
      have hpN : p < L.length := by rw [HLEN.out]; exact hl
      have tpN : (p : Int) < (L.length : Int) := by omega
      clear hx hu gsh ge1 ge2 ge3
      have hl63 : netN n ≤ 333 := HP.out.sz.net_le.1
      by_cases hdu : d < u
      · have HEQ := Lib.hid (show max d u = u by omega)
        go_wp2
        go_roundw
        case rel => exact ⟨k + 1, by omega, by go_num, by rw [HST.out, HD0.out, HEQ.out], HB0.out⟩
        case measure => simp [intOf]; omega
      · have HEQ := Lib.hid (show max d u = d by omega)
        go_wp2
        go_roundw
        case rel => exact ⟨k + 1, by omega, by go_num, by rw [HST.out, HD0.out, HEQ.out], HB0.out⟩
        case measure => simp [intOf]; omega
    · obtain rfl : k = R.length := by omega
      have HE2 := Lib.hid (show d = r by rw [← HE.out, ← HD0.out]; unfold depO; rw [HF.out, if_pos rfl, HLL.out, List.take_of_length_le (by rw [HRR.out]; exact Nat.le_refl _)])
      clear hlt
      go_wp2
      go_ret
      exact ⟨ret_i64 HE2.out, HB.out⟩
end Go.Proofs.Ytnobdbppechccaa
