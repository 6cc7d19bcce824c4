/-
  Conjuncts: the reference.
-/
import Derived.Test.YtiejilmgchmppaaBlB
import Derived.Test.YtiejilmgchmppaaNeC
import Derived.Deep.RegionHeld3
namespace Go.Proofs.Ytiejilmgchmppaa
open Go.RowKit
set_option linter.unusedVariables false
set_option linter.unusedSimpArgs false

theorem conj_no {n : DNet} {v : Int} (h : ¬ (netB n = true ∧ (firN n : Int) ≤ v ∧ v < (netN n : Int))) : conjO n v = [] := by unfold conjO; rw [if_neg h]
theorem conj_yes {n : DNet} {t : Nat} (h : netB n = true) (ht : t < n.2.2.1.length) : conjO n ((firN n + t : Nat) : Int) = cjL n t := by
  unfold conjO
  rw [if_pos ⟨h, by omega, by unfold netN; omega⟩, Int.toNat_natCast, show firN n + t - firN n = t by omega]
theorem cjL_in (n : DNet) (t : Nat) (hN : netN n ≤ 333) : (cjL n t).length ≤ 666 ∧ ∀ x ∈ cjL n t, 0 ≤ x ∧ x ≤ 666 := by
  unfold cjL
  refine ⟨Nat.le_trans (coneK_len _ _) (by omega), fun x hx => ?_⟩
  obtain ⟨i, rfl, hi, _⟩ := cone_mem.1 hx
  omega
theorem conjO_in (n : DNet) (v : Int) : (conjO n v).length ≤ 666 ∧ ∀ x ∈ conjO n v, Fit x := by
  unfold conjO
  split
  · rename_i h
    have hN := (netP_of h.1).sz.net_le
    have hc := cjL_in n (v.toNat - firN n) hN.1
    exact ⟨hc.1, fun x hx => by have := hc.2 x hx; unfold Fit; omega⟩
  · simp
theorem specFirst_to (n : DNet) (us : List Value) {B T : Nat} (w : World) (h : rdNet B T w us n) (hT : T ≤ w.heap.size) (hS : SizeP n) {F : Nat} (hF : firN n = F) :
    Calls Try.prog 28 #[.agg us.toArray] w fun e w' => e = .returned (.int .i64 (F : Int)) ∧ Below w.heap.size w w' := by
  subst hF; exact specFirst_at n us w h hT hS
set_option maxRecDepth 100000 in
set_option maxHeartbeats 25600000 in
theorem specConj_at (n : DNet) (v : Int) (hvf : Fit v) (us : List Value) (w : World) (h : rdNet 0 w.heap.size w us n) {L : List Int} (hL : conjO n v = L) :
    Calls Try.prog 14 #[.agg us.toArray, .int .i64 v] w fun e w' => ∃ v, e = .returned v ∧ OwnsI w' w.heap.size v L ∧ Below w.heap.size w w' := by
  obtain ⟨i0, hi, hz0, hz1, hz2⟩ := info_parts infoI
  obtain ⟨iB, hiB, hzB0, hzB1, hzB2⟩ := info_parts infoB
  have HD := Lib.hid h
  obtain ⟨f, hf⟩ : ∃ f, netB n = f := ⟨_, rfl⟩
  have HF := Lib.hid hf
  have HX := Lib.hid hL
  clear hf hL
  obtain ⟨mu0, mu1, mu2, mu3, rfl, mh0, mh1, mh2, mh3⟩ := h
  obtain ⟨me0, -⟩ := mh0
  injection me0 with me0
  subst me0
  obtain ⟨mA1, mc1, me1, mm1, -⟩ := slice_of mh1
  subst me1
  have mR1 := Lib.hid mh1
  clear mh1
  obtain ⟨mA2, mc2, me2, mm2, -⟩ := slice_of mh2
  subst me2
  have mR2 := Lib.hid mh2
  clear mh2
  obtain ⟨mA3, mc3, me3, mm3, -⟩ := slice_of mh3
  subst me3
  have mR3 := Lib.hid mh3
  clear mh3
  go_enter Try.func14, Try.ntmps14
  go_wp2_with fail
  obtain ⟨Wb, hVb⟩ : ∃ W0, W0 = w.alloc (.cells #[.int .i64 n.1, .slice mA1 (n.2.1).length mc1, .slice mA2 (n.2.2.1).length mc2, .slice mA3 (n.2.2.2).length mc3] 28) := ⟨_, rfl⟩
  rw [← hVb]
  have gNb := eqbox1 hVb
  have d0 : Wb.cell? ⟨w.heap.size, 0, none⟩ = some (.int .i64 n.1) := box_cell gNb.1 0 _ rfl
  have d1 : Wb.cell? ⟨w.heap.size, 1, none⟩ = some (.slice mA1 (n.2.1).length mc1) := box_cell gNb.1 1 _ rfl
  have d2 : Wb.cell? ⟨w.heap.size, 2, none⟩ = some (.slice mA2 (n.2.2.1).length mc2) := box_cell gNb.1 2 _ rfl
  have d3 : Wb.cell? ⟨w.heap.size, 3, none⟩ = some (.slice mA3 (n.2.2.2).length mc3) := box_cell gNb.1 3 _ rfl
  have sWb : Wb.heap.size = w.heap.size + 1 := by rw [hVb]; simp
  obtain ⟨W0, hV⟩ : ∃ W0, W0 = Wb.alloc (.cells #[] 3) := ⟨_, rfl⟩
  rw [← hV]
  have gN := eqbox1 hV
  replace d0 := keep gN.2 d0
  replace d1 := keep gN.2 d1
  replace d2 := keep gN.2 d2
  replace d3 := keep gN.2 d3
  have HW0 := Lib.hid (bThen gNb.2 gN.2)
  have hOUT : OwnsI W0 w.heap.size (.slice (some ⟨w.heap.size + 1, 0, none⟩) 0 0) [] := by rw [← sWb, hV]; exact own_newI Wb w.heap.size (by omega)
  have HOUT0 := Lib.hid hOUT
  have sW0 : W0.heap.size = w.heap.size + 2 := by rw [hV]; simp; omega
  have HEE := Lib.hid (And.intro d0 (And.intro d1 (And.intro d2 d3)))
  clear hV gN hVb gNb hOUT
  refine (specNetOk_at n _ _ (rdUp good_Net HD.out HW0.out) HF.out).mono ?_
  rintro e w1 ⟨rfl, hb⟩
  replace d0 := keep hb d0
  replace d1 := keep hb d1
  replace d2 := keep hb d2
  replace d3 := keep hb d3
  have HB1 := Lib.hid (bThen HW0.out hb)
  have HB01 := Lib.hid hb
  clear hb
  cases f with
  | false =>
    have HE := Lib.hid ((conj_no (v := v) (fun h => by rw [HF.out] at h; cases h.1)).symm.trans HX.out)
    go_wp2
    go_ret
    refine ⟨_, rfl, ?_, HB1.out⟩
    rw [← HE.out]
    exact HOUT0.out.below HB01.out
  | true =>
  have hP := netP_of HF.out
  have HP := Lib.hid hP
  have HSP := Lib.hid hP.sz
  have a300 := hP.sz.a300
  have f33 := hP.sz.fir_le
  obtain ⟨NN, hN⟩ : ∃ N : Nat, netN n = N := ⟨_, rfl⟩
  have hNN : NN ≤ 333 ∧ 1 ≤ NN := by rw [← hN]; exact hP.sz.net_le
  have HQ := Lib.hid (show ncI n = (NN : Int) by rw [hP.sz.nc, hN])
  have HN := Lib.hid hN
  obtain ⟨FN, hFN⟩ : ∃ F : Nat, firN n = F := ⟨_, rfl⟩
  have HFN := Lib.hid hFN
  rw [hFN] at f33
  clear hP hN hFN
  go_wp2_with fail
  refine (specFirst_at n _ _ (rdUp good_Net HD.out HB1.out) (Nat.le_refl _) HSP.out).mono ?_
  rw [HFN.out]
  rintro e w2 ⟨rfl, hb⟩
  replace d0 := keep hb d0
  replace d1 := keep hb d1
  replace d2 := keep hb d2
  replace d3 := keep hb d3
  have HB2 := Lib.hid (bThen HB1.out hb)
  have HB02 := Lib.hid (bThen HB01.out hb)
  clear hb
  by_cases h0 : v < (FN : Int)
  · have HE := Lib.hid ((conj_no (n := n) (fun h => by rw [HFN.out] at h; omega)).symm.trans HX.out)
    go_wp2
    go_ret
    refine ⟨_, rfl, ?_, HB2.out⟩
    rw [← HE.out]
    exact HOUT0.out.below HB02.out
  obtain ⟨f0, rfl⟩ : ∃ f0 : Nat, v = (f0 : Int) := ⟨v.toNat, by omega⟩
  obtain ⟨t, ht1, ht2⟩ : ∃ t : Nat, f0 ≤ FN + t ∧ FN + t ≤ f0 := ⟨f0 - FN, by omega, by omega⟩
  clear h0
  go_wp2_with fail
  refine (specNc_at n _ _ (rdUp good_Net HD.out HB2.out) (Nat.le_refl _) HQ.out).mono ?_
  rintro e w3 ⟨rfl, hb⟩
  replace d0 := keep hb d0
  replace d1 := keep hb d1
  replace d2 := keep hb d2
  replace d3 := keep hb d3
  have HB3 := Lib.hid (bThen HB2.out hb)
  have HB03 := Lib.hid (bThen HB02.out hb)
  clear hb
  by_cases h1 : (NN : Int) ≤ (f0 : Int)
  · have HE := Lib.hid ((conj_no (n := n) (v := (f0 : Int)) (fun h => by rw [HN.out] at h; omega)).symm.trans HX.out)
    go_wp2
    go_ret
    refine ⟨_, rfl, ?_, HB3.out⟩
    rw [← HE.out]
    exact HOUT0.out.below HB03.out
  have htl : t < n.2.2.1.length := by have h2 := HN.out; have h3 := HFN.out; unfold netN at h2; omega
  have hFt : f0 < NN := by omega
  obtain ⟨N, hN2⟩ : ∃ N : Nat, 2 * NN = N := ⟨_, rfl⟩
  have h2N : (2 : Int) * (NN : Int) = (N : Int) := by omega
  have h2W : IntKind.i64.wrap (N : Int) = (N : Int) := wrap64_int _ (by omega) (by omega)
  have hN3 : N ≤ 666 ∧ 1 ≤ N := by omega
  obtain ⟨z0, hz0'⟩ : ∃ z : Nat, 2 * f0 = z := ⟨_, rfl⟩
  have h2Z : (2 : Int) * (f0 : Int) = (z0 : Int) := by omega
  have h2ZW : IntKind.i64.wrap (z0 : Int) = (z0 : Int) := wrap64_int _ (by omega) (by omega)
  have hzN : z0 < N := by omega
  have tzN : (z0 : Int) < (N : Int) := by omega
  go_wp2_with fail
  refine (specNc_at n _ _ (rdUp good_Net HD.out HB3.out) (Nat.le_refl _) HQ.out).mono ?_
  rintro e w4 ⟨rfl, hb⟩
  replace d0 := keep hb d0
  replace d1 := keep hb d1
  replace d2 := keep hb d2
  replace d3 := keep hb d3
  have HB4 := Lib.hid (bThen HB3.out hb)
  have HB04 := Lib.hid (bThen HB03.out hb)
  clear hb
  have lt03 : w.heap.size < w4.heap.size := World.block_lt_of_cell? _ _ d0
  go_wp2_with (at_make; refine wpList_make_full _ rfl _ _ 63 rfl w4.heap.size 4 iB (.bool false) 1 Try.underlying63 hiB hzB0 hzB1 .i64 .i64 (N : Int) (N : Int) N rfl rfl rfl rfl (by rw [hzB2]; omega) (by unfold maxLen; omega) (Nat.le_refl _) ?_; intro w5 hown1 hgrow1; replace d0 := grownC hgrow1 d0 (by intro e; cases e); replace d1 := grownC hgrow1 d1 (by intro e; cases e); replace d2 := grownC hgrow1 d2 (by intro e; cases e); replace d3 := grownC hgrow1 d3 (by intro e; cases e); have hz := (own_makeB hown1); have hc4 := OwnsB.shapeN hz (show (List.replicate N false).length = N by simp) hzN; have y0 := hc4.1; have y1 := hc4.2)
  obtain ⟨W5, hW5⟩ : ∃ x, x = w5.setCell ⟨w4.heap.size, z0, none⟩ (.bool true) := ⟨_, rfl⟩
  rw [← hW5]
  have hb45 : Below w4.heap.size w4 w5 := (Below.refl _ _).grown hgrow1 (Nat.le_refl _) (by intro g hg; cases hg)
  obtain ⟨G, hG⟩ : ∃ G, w4.heap.size = G := ⟨_, rfl⟩
  have hGw : w.heap.size < G := by rw [← hG]; exact lt03
  have hGW0 : W0.heap.size ≤ G := by rw [← hG]; exact HB04.out.size
  have HM := Lib.hid (show OwnsB W5 w.heap.size (.slice (some ⟨G, 0, none⟩) N N) (cjK n t 0) by
    have e : cjK n t 0 = oneL N z0 := by
      show oneL (2 * netN n) (2 * (firN n + t)) = oneL N z0
      rw [HN.out, HFN.out, hN2, show 2 * (FN + t) = z0 by omega]
    rw [hW5, ← hG, e]
    exact (OwnsB.set hz (by simp) hzN true).lower (by omega))
  have HB5 := Lib.hid (show Below W0.heap.size W0 W5 by rw [hW5]; exact bSet (p := ⟨w4.heap.size, z0, none⟩) (bThen HB04.out hb45) HB04.out.size _)
  have HE := Lib.hid (show W0.cell? ⟨w.heap.size, 0, none⟩ = some (.int .i64 n.1) ∧ W0.cell? ⟨w.heap.size, 1, none⟩ = some (.slice mA1 (n.2.1).length mc1) ∧ W0.cell? ⟨w.heap.size, 2, none⟩ = some (.slice mA2 (n.2.2.1).length mc2) ∧ W0.cell? ⟨w.heap.size, 3, none⟩ = some (.slice mA3 (n.2.2.2).length mc3) from HEE.out)
  have HRES := Lib.hid (show coneK (cjK n t (t + 1)) N = L by
    have e := conj_yes HF.out htl
    unfold cjL at e
    rw [HFN.out, show FN + t = f0 by omega, HX.out, HN.out, hN2] at e
    exact e.symm)
  have HLN := Lib.hid (show ∀ j, (cjK n t j).length = N from fun j => by rw [cjK_len, HN.out, hN2])
  rw [hG]
  clear hown1 hgrow1 hz hc4 y0 y1 hW5 hG hb45 HB1 HB01 HB2 HB02 HB3 HB03 HB4 HB04 lt03 d0 d1 d2 d3 h1 hz0' h2Z h2ZW hzN tzN hN2
  go_loopw [7] (fun v wr => ∃ j f : Nat, j ≤ t + 1 ∧ f + j ≤ FN + t ∧ FN + t ≤ f + j ∧ v = .int .i64 (f : Int) ∧ OwnsB wr w.heap.size (.slice (some ⟨G, 0, none⟩) N N) (cjK n t j) ∧ Below W0.heap.size W0 wr) (fun v _ => (intOf v).toNat)
  case atStart => exact ⟨0, f0, by omega, by omega, by omega, rfl, HM.out, HB5.out⟩
  case round =>
    obtain ⟨j, f, hj, hf1, hf2, rfl, hown, hb⟩ := hrel
    obtain ⟨w2, rfl⟩ : ∃ w2, w2 = wr := ⟨_, rfl⟩
    clear HM HB5
    have HO := Lib.hid hown
    have HB0 := Lib.hid hb
    have HB := Lib.hid (bThen HW0.out hb)
    have c0 := keep hb HE.out.1
    have c1 := keep hb HE.out.2.1
    have c2 := keep hb HE.out.2.2.1
    have c3 := keep hb HE.out.2.2.2
    clear hown hb
    by_cases hge : FN ≤ f
    · obtain ⟨i, hi1, hi2⟩ : ∃ i, i + j ≤ t ∧ t ≤ i + j := ⟨t - j, by omega, by omega⟩
      have HI := Lib.hid (show t - j = i by omega)
      obtain ⟨a, ha⟩ : ∃ a, n.2.2.1[i]? = some a := ⟨_, List.getElem?_eq_getElem (by omega)⟩
      obtain ⟨x, y, rfl, hx, hy⟩ := HP.out.and_ i a ha
      rw [HFN.out] at hx hy
      have xN : x < N := by omega
      have yN : y < N := by omega
      obtain ⟨z, hz⟩ : ∃ z : Nat, 2 * f = z := ⟨_, rfl⟩
      have h2Z : (2 : Int) * (f : Int) = (z : Int) := by omega
      have hzN : z < N := by omega
      have tzN : (z : Int) < (N : Int) := by omega
      have HZ := Lib.hid (show 2 * (firN n + (t - j)) = z by rw [HFN.out]; omega)
      have hEw : IntKind.i64.wrap ((f : Int) - (FN : Int)) = (i : Int) := by rw [wrap64_int _ (by omega) (by omega)]; omega
      obtain ⟨b, hb⟩ : ∃ b, (cjK n t j).getD z false = b := ⟨_, rfl⟩
      have HMB := Lib.hid (show (cjK n t j).getD (2 * (firN n + (t - j))) false = b by rw [HZ.out]; exact hb)
      have HA := Lib.hid (show n.2.2.1[t - j]? = some ((x : Int), (y : Int)) by rw [HI.out]; exact ha)
      obtain ⟨ab, aq, rfl, ab1, x0, xf, x1, yf⟩ := at_And (good_AndS.below mR2.out (Nat.le_refl _) HB.out) ha
      have ab2 := Nat.lt_of_lt_of_le ab1 HB.out.size
      unfold Fit at xf yf
      dsimp only at x0 x1 xf yf
      have u0 := (HO.out.shapeN (HLN.out j) hzN).1
      rw [hb] at u0
      have txN : (x : Int) < (N : Int) := by omega
      have tyN : (y : Int) < (N : Int) := by omega
      have ti : (i : Int) < (n.2.2.1.length : Int) := by omega
      have tge : (FN : Int) ≤ (f : Int) := by omega
      clear ha hb hz
      go_wp2_with fail
      refine (specFirst_to n _ _ (rdUp good_Net HD.out HB.out) (Nat.le_refl _) HSP.out HFN.out).mono ?_
      rintro e w3 ⟨rfl, hb3⟩
      replace c0 := keep hb3 c0
      replace c1 := keep hb3 c1
      replace c2 := keep hb3 c2
      replace c3 := keep hb3 c3
      replace x0 := keep hb3 x0
      replace x1 := keep hb3 x1
      replace u0 := keep hb3 u0
      have HO3 := Lib.hid (HO.out.below hb3)
      have HB3 := Lib.hid (bThen HB.out hb3)
      have HB03 := Lib.hid (bThen HB0.out hb3)
      clear hb3
      cases b with
      | false =>
        have HE2 := Lib.hid (cjK_no HMB.out)
        clear c0 c1 c3 x0 x1 ab1
        go_wp2
        go_roundw
        case rel => exact ⟨j + 1, f - 1, by omega, by omega, by omega, by go_num, by rw [HE2.out]; exact HO3.out, HB03.out⟩
        case measure => simp [intOf] <;> omega
      | true =>
        have HE2 := Lib.hid (cjK_yes HA.out HMB.out)
        go_wp2_with fail
        have hS0 : (fun w' => Below w3.heap.size w3 w' ∧ w'.cell? ⟨w.heap.size, 0, none⟩ = some (.int .i64 n.1) ∧ w'.cell? ⟨w.heap.size, 1, none⟩ = some (.slice mA1 (n.2.1).length mc1) ∧ w'.cell? ⟨w.heap.size, 2, none⟩ = some (.slice (some ⟨ab, aq, none⟩) (n.2.2.1).length mc2) ∧ w'.cell? ⟨w.heap.size, 3, none⟩ = some (.slice mA3 (n.2.2.2).length mc3) ∧ w'.cell? ⟨ab, aq + i * 2, none⟩ = some (.int .i64 (x : Int)) ∧ w'.cell? ⟨ab, aq + i * 2 + 1, none⟩ = some (.int .i64 (y : Int))) w3 := ⟨Below.refl _ _, c0, c1, c2, c3, x0, x1⟩
        have hS : ∀ {w0 w' : World}, (fun w' => Below w3.heap.size w3 w' ∧ w'.cell? ⟨w.heap.size, 0, none⟩ = some (.int .i64 n.1) ∧ w'.cell? ⟨w.heap.size, 1, none⟩ = some (.slice mA1 (n.2.1).length mc1) ∧ w'.cell? ⟨w.heap.size, 2, none⟩ = some (.slice (some ⟨ab, aq, none⟩) (n.2.2.1).length mc2) ∧ w'.cell? ⟨w.heap.size, 3, none⟩ = some (.slice mA3 (n.2.2.2).length mc3) ∧ w'.cell? ⟨ab, aq + i * 2, none⟩ = some (.int .i64 (x : Int)) ∧ w'.cell? ⟨ab, aq + i * 2 + 1, none⟩ = some (.int .i64 (y : Int))) w0 → Below w0.heap.size w0 w' → (fun w' => Below w3.heap.size w3 w' ∧ w'.cell? ⟨w.heap.size, 0, none⟩ = some (.int .i64 n.1) ∧ w'.cell? ⟨w.heap.size, 1, none⟩ = some (.slice mA1 (n.2.1).length mc1) ∧ w'.cell? ⟨w.heap.size, 2, none⟩ = some (.slice (some ⟨ab, aq, none⟩) (n.2.2.1).length mc2) ∧ w'.cell? ⟨w.heap.size, 3, none⟩ = some (.slice mA3 (n.2.2.2).length mc3) ∧ w'.cell? ⟨ab, aq + i * 2, none⟩ = some (.int .i64 (x : Int)) ∧ w'.cell? ⟨ab, aq + i * 2 + 1, none⟩ = some (.int .i64 (y : Int))) w' := fun h hb => ⟨bThen h.1 hb, keep hb h.2.1, keep hb h.2.2.1, keep hb h.2.2.2.1, keep hb h.2.2.2.2.1, keep hb h.2.2.2.2.2.1, keep hb h.2.2.2.2.2.2⟩
        dsimp only at hS0 hS
        refine wp_region_noPanic ?_
        refine wp_region_kept 9 10 (fun w' => Below w3.heap.size w3 w' ∧ w'.cell? ⟨w.heap.size, 0, none⟩ = some (.int .i64 n.1) ∧ w'.cell? ⟨w.heap.size, 1, none⟩ = some (.slice mA1 (n.2.1).length mc1) ∧ w'.cell? ⟨w.heap.size, 2, none⟩ = some (.slice (some ⟨ab, aq, none⟩) (n.2.2.1).length mc2) ∧ w'.cell? ⟨w.heap.size, 3, none⟩ = some (.slice mA3 (n.2.2.2).length mc3) ∧ w'.cell? ⟨ab, aq + i * 2, none⟩ = some (.int .i64 (x : Int)) ∧ w'.cell? ⟨ab, aq + i * 2 + 1, none⟩ = some (.int .i64 (y : Int))) (by kernel_rfl) rfl (hS hS0 (Below.drew (Below.refl _ _))) (fun hK0 => ?_)
        refine Kept.take (v := ?vs0) 0 (by kernel_rfl) rfl (by kernel_rfl) (fun _ _ _ h => h) (Or.inl ⟨by rfl, ?hys0⟩) hK0 ?rests0
        case hys0 =>
          intro w0 hSw
          (try dsimp only at hSw)
          go_simp
          all_goals (with_reducible rfl)
        (try simp only [Act.put, List.setIfInBounds_toArray, List.set_cons_zero, List.set_cons_succ])
        refine Kept.take (v := ?vs1) 1 (by kernel_rfl) rfl (by kernel_rfl) (fun _ _ _ h => h) (Or.inl ⟨by rfl, ?hys1⟩) hK0 ?rests1
        case hys1 =>
          intro w0 hSw
          (try dsimp only at hSw)
          go_simp
          all_goals (with_reducible rfl)
        (try simp only [Act.put, List.setIfInBounds_toArray, List.set_cons_zero, List.set_cons_succ])
        refine Kept.take (v := ?vs2) 2 (by kernel_rfl) rfl (by kernel_rfl) (fun _ _ _ h => h) (Or.inl ⟨by rfl, ?hys2⟩) hK0 ?rests2
        case hys2 =>
          intro w0 hSw
          (try dsimp only at hSw)
          go_simp
          all_goals (with_reducible rfl)
        (try simp only [Act.put, List.setIfInBounds_toArray, List.set_cons_zero, List.set_cons_succ])
        refine Kept.take (v := ?vs3) 3 (by kernel_rfl) rfl (by kernel_rfl) (fun _ _ _ h => h) (Or.inl ⟨by rfl, ?hys3⟩) hK0 ?rests3
        case hys3 =>
          intro w0 hSw
          (try dsimp only at hSw)
          go_simp
          all_goals (with_reducible rfl)
        (try simp only [Act.put, List.setIfInBounds_toArray, List.set_cons_zero, List.set_cons_succ])
        refine Kept.rg (sz := 82) (g := 1) [(4, 51), (5, 52), (6, 53), (7, 54), (8, 8)] [8] (fun kO vals w' => match kO with
          | 4 => vals 4 = .int .i64 (FN : Int)
          | 5 => vals 5 = .int .i64 (i : Int)
          | 6 => vals 6 = .pointer (some ⟨ab, aq + i * 2, none⟩)
          | 7 => vals 7 = .agg #[.int .i64 (x : Int), .int .i64 (y : Int)]
          | 8 => ∃ g, vals 8 = .pointer (some ⟨g, 0, none⟩) ∧ w'.heap[g]? = some (.cells #[.int .i64 0, .int .i64 0] 53 (0, 0)) ∧ w3.heap.size ≤ g
          | _ => True) (by kernel_rfl) (by kernel_rfl) hK0 (fun _ _ _ h => h) ?hSRs ?hlocs ?hsteps ?hends
        case hSRs =>
          intro k hk vals w1 w2 h hb
          simp only [List.map_cons, List.map_nil, List.mem_cons, List.not_mem_nil, or_false] at hk
          rcases hk with rfl | rfl | rfl | rfl | rfl
          · exact h
          · exact h
          · exact h
          · exact h
          · obtain ⟨g, e, ho, hB⟩ := h; exact ⟨g, e, rowB' hb ho, hB⟩
        case hlocs =>
          intro k j hk hj hne hw vals v w1 h
          simp only [List.map_cons, List.map_nil, List.mem_cons, List.not_mem_nil, or_false] at hk hj
          rcases hk with rfl | rfl | rfl | rfl | rfl <;> rcases hj with rfl | rfl | rfl | rfl | rfl <;> first | exact absurd rfl hne | exact h | exact absurd (hw.symm.trans (by kernel_rfl : _ = true)) (by decide)
        case hsteps =>
          intro k t o hm ho vals wA hSA hpre
          simp only [List.mem_cons, List.not_mem_nil, or_false, Prod.mk.injEq] at hm
          rcases hm with ⟨rfl, rfl⟩ | ⟨rfl, rfl⟩ | ⟨rfl, rfl⟩ | ⟨rfl, rfl⟩ | ⟨rfl, rfl⟩
          · have ho' := Option.some.inj ho
            subst ho'
            unfold RgStep
            rw [if_pos (by rfl)]
            intro K hK
            have hSw := hSA
            (try dsimp only at hSw)
            clear hpre
            simp only [fillA, Act.put, List.setIfInBounds_toArray, List.set_cons_zero, List.set_cons_succ]
            go_simp
            go_at_call 28
            refine (specFirst_to n _ _ (rdUp good_Net HD.out (bThen HB3.out hSA.1)) (Nat.le_refl _) HSP.out HFN.out).mono ?_
            rintro e wB ⟨rfl, hb⟩
            have hK' := hK (.int .i64 (FN : Int)) wB (hS hSA hb) hb (upd_self _ _ _) (fun h => absurd h (by decide))
            clear hK
            simp only [fillA, Act.put, List.setIfInBounds_toArray, List.set_cons_zero, List.set_cons_succ] at hK'
            go_simp
            all_goals exact hK'
          · have ho' := Option.some.inj ho
            subst ho'
            have e4 : vals 4 = .int .i64 (FN : Int) := hpre 4 (by kernel_rfl) (by decide)
            unfold RgStep
            rw [if_pos (by rfl)]
            intro K hK
            have hSw := hSA
            (try dsimp only at hSw)
            clear hpre
            have hK' := hK (.int .i64 (i : Int)) wA hSA (Below.refl _ _) (upd_self _ _ _) (fun h => absurd h (by decide))
            clear hK
            simp only [fillA, Act.put, List.setIfInBounds_toArray, List.set_cons_zero, List.set_cons_succ] at hK' ⊢
            (try simp only [e4])
            (try simp only [e4] at hK')
            go_simp
            all_goals exact hK'
          · have ho' := Option.some.inj ho
            subst ho'
            have e5 : vals 5 = .int .i64 (i : Int) := hpre 5 (by kernel_rfl) (by decide)
            unfold RgStep
            rw [if_pos (by rfl)]
            intro K hK
            have hSw := hSA
            (try dsimp only at hSw)
            clear hpre
            have hK' := hK (.pointer (some ⟨ab, aq + i * 2, none⟩)) wA hSA (Below.refl _ _) (upd_self _ _ _) (fun h => absurd h (by decide))
            clear hK
            simp only [fillA, Act.put, List.setIfInBounds_toArray, List.set_cons_zero, List.set_cons_succ] at hK' ⊢
            (try simp only [e5])
            (try simp only [e5] at hK')
            go_simp
            all_goals exact hK'
          · have ho' := Option.some.inj ho
            subst ho'
            have e6 : vals 6 = .pointer (some ⟨ab, aq + i * 2, none⟩) := hpre 6 (by kernel_rfl) (by decide)
            unfold RgStep
            rw [if_pos (by rfl)]
            intro K hK
            have hSw := hSA
            (try dsimp only at hSw)
            clear hpre
            have hK' := hK (.agg #[.int .i64 (x : Int), .int .i64 (y : Int)]) wA hSA (Below.refl _ _) (upd_self _ _ _) (fun h => absurd h (by decide))
            clear hK
            simp only [fillA, Act.put, List.setIfInBounds_toArray, List.set_cons_zero, List.set_cons_succ] at hK' ⊢
            (try simp only [e6])
            (try simp only [e6] at hK')
            go_simp
            all_goals exact hK'
          · have ho' := Option.some.inj ho
            subst ho'
            unfold RgStep
            rw [if_pos (by rfl)]
            intro K hK
            have hSw := hSA
            (try dsimp only at hSw)
            clear hpre
            have hBA : w3.heap.size ≤ wA.heap.size := hSA.1.size
            have hK' := hK (.pointer (some ⟨wA.heap.size, 0, none⟩)) (wA.alloc (.cells #[.int .i64 0, .int .i64 0] 53)) (hS hSA (bAlloc (Below.refl _ _) (Nat.le_refl _) _)) (bAlloc (Below.refl _ _) (Nat.le_refl _) _) ⟨_, upd_self _ _ _, heap_alloc_new _ _, hBA⟩ (fun _ b hb => by
              have hb' : b = wA.heap.size := by simpa [topB] using hb
              subst hb'
              simp)
            clear hK
            simp only [fillA, Act.put, List.setIfInBounds_toArray, List.set_cons_zero, List.set_cons_succ] at hK' ⊢
            go_simp
            all_goals exact hK'
        intro vals wB hSB hR hap
        have e4 : vals 4 = .int .i64 (FN : Int) := hR 4 (by decide)
        have e5 : vals 5 = .int .i64 (i : Int) := hR 5 (by decide)
        have e6 : vals 6 = .pointer (some ⟨ab, aq + i * 2, none⟩) := hR 6 (by decide)
        have e7 : vals 7 = .agg #[.int .i64 (x : Int), .int .i64 (y : Int)] := hR 7 (by decide)
        obtain ⟨g8, e8, r8, b8⟩ := hR 8 (by decide)
        simp only [fillA, Act.put, List.setIfInBounds_toArray, List.set_cons_zero, List.set_cons_succ]
        simp only [e4, e5, e6, e7, e8]
        clear hap hR e4 e5 e6 e7 e8
        refine Kept.tail (by rfl) (by kernel_rfl) ?_
        simp only [List.drop_succ_cons, List.drop_zero]
        have k0 := box_cell r8 0 _ rfl
        have k1 := box_cell r8 1 _ rfl
        have q0 := frozen_of_row _ _ 0 _ _ r8
        have q1 := frozen_of_row _ _ 1 _ _ r8
        have k1' := (World.cell?_setCell_other wB ⟨g8, 0, none⟩ ⟨g8, 1, none⟩ (.int .i64 (x : Int)) (by intro e; injection e with e1 e2; cases e2)).trans k1
        have HBW := Lib.hid (show Below w3.heap.size w3 ((wB.setCell ⟨g8, 0, none⟩ (.int .i64 (x : Int))).setCell ⟨g8, 1, none⟩ (.int .i64 (y : Int))) from bSet (p := ⟨g8, 1, none⟩) (bSet (p := ⟨g8, 0, none⟩) hSB.1 b8 _) b8 _)
        clear hS hS0 c0 c1 c2 c3 x0 x1 u0
        go_wp2
        refine NoPanic.normal ?_
        obtain ⟨W1, hW1⟩ : ∃ x', x' = (wB.setCell ⟨g8, 0, none⟩ (.int .i64 (x : Int))).setCell ⟨g8, 1, none⟩ (.int .i64 (y : Int)) := ⟨_, rfl⟩
        rw [← hW1] at HBW ⊢
        have s0 : W1.cell? ⟨g8, 0, none⟩ = some (.int .i64 (x : Int)) := by rw [hW1]; exact set_far (set_same k0) (by decide)
        have s1 : W1.cell? ⟨g8, 1, none⟩ = some (.int .i64 (y : Int)) := by rw [hW1]; exact set_same k1'
        have HOW := Lib.hid (HO3.out.below HBW.out)
        have gG := HO3.out.ltN.1
        have gne : g8 ≠ G := by omega
        have o1 := OwnsB.set HOW.out (HLN.out j) hzN false
        have o2 := OwnsB.set o1 (by rw [List.length_set]; exact HLN.out j) xN true
        have o3 := OwnsB.set o2 (by rw [List.length_set, List.length_set]; exact HLN.out j) yN true
        have HO4 := Lib.hid o3
        have a0 := (HOW.out.shapeN (HLN.out j) hzN).1
        have a1 := (HOW.out.shapeN (HLN.out j) hzN).2
        have a2 := (o1.shapeN (by rw [List.length_set]; exact HLN.out j) xN).1
        have a3 := (o1.shapeN (by rw [List.length_set]; exact HLN.out j) xN).2
        have a4 := (o2.shapeN (by rw [List.length_set, List.length_set]; exact HLN.out j) yN).1
        have a5 := (o2.shapeN (by rw [List.length_set, List.length_set]; exact HLN.out j) yN).2
        have t0 : (W1.setCell ⟨G, z, none⟩ (.bool false)).cell? ⟨g8, 0, none⟩ = some (.int .i64 (x : Int)) := (World.cell?_setCell_other W1 ⟨G, z, none⟩ ⟨g8, 0, none⟩ (.bool false) (by intro e; injection e with e; omega)).trans s0
        have t1 : ((W1.setCell ⟨G, z, none⟩ (.bool false)).setCell ⟨G, x, none⟩ (.bool true)).cell? ⟨g8, 1, none⟩ = some (.int .i64 (y : Int)) := (World.cell?_setCell_other _ ⟨G, x, none⟩ ⟨g8, 1, none⟩ (.bool true) (by intro e; injection e with e; omega)).trans ((World.cell?_setCell_other W1 ⟨G, z, none⟩ ⟨g8, 1, none⟩ (.bool false) (by intro e; injection e with e; omega)).trans s1)
        have HB4 := Lib.hid (show Below W0.heap.size W0 (((W1.setCell ⟨G, z, none⟩ (.bool false)).setCell ⟨G, x, none⟩ (.bool true)).setCell ⟨G, y, none⟩ (.bool true)) from bSet (p := ⟨G, y, none⟩) (bSet (p := ⟨G, x, none⟩) (bSet (p := ⟨G, z, none⟩) (bThen HB03.out HBW.out) hGW0 _) hGW0 _) hGW0 _)
        clear hW1 k0 k1 q0 q1 k1' s0 s1 o1 o2 o3 r8 b8 hSB
        go_wp2
        go_roundw
        case rel => exact ⟨j + 1, f - 1, by omega, by omega, by omega, by go_num, by rw [HE2.out, HZ.out]; exact HO4.out, HB4.out⟩
        case measure => simp [intOf] <;> omega
    · obtain rfl : j = t + 1 := by omega
      obtain ⟨MK, hMK⟩ : ∃ MK, cjK n t (t + 1) = MK := ⟨_, rfl⟩
      have HLEN := Lib.hid (show MK.length = N by rw [← hMK]; exact HLN.out _)
      rw [hMK] at HO HRES
      have tge : (f : Int) < (FN : Int) := by omega
      clear hMK
      go_wp2_with fail
      refine (specFirst_to n _ _ (rdUp good_Net HD.out HB.out) (Nat.le_refl _) HSP.out HFN.out).mono ?_
      rintro e w3 ⟨rfl, hb3⟩
      have HM := Lib.hid (HO.out.below hb3)
      have HB5 := Lib.hid (bThen HB.out hb3)
      have HOUT := Lib.hid (show OwnsI w3 w.heap.size (.slice (some ⟨w.heap.size + 1, 0, none⟩) (coneK MK 0).length 0) (coneK MK 0) from HOUT0.out.below (bThen HB0.out hb3))
      have hne0 : (Value.slice (some ⟨w.heap.size + 1, 0, none⟩) (coneK MK 0).length 0).ownBlock ≠ some G := by
        intro e; injection e with e; dsimp only at e; omega
      have HW1 := Lib.hid (Below.refl w.heap.size w)
      clear hb3 c0 c1 c2 c3 HW0 HO HB0 HB
      have HW0 := HW1
      go_wp2
      go_loopw [5, 9] (fun v x wr => ∃ (k : Nat) (A : Option Addr) (c : Nat), k ≤ N ∧ x = .int .i64 (k : Int) ∧ v = .slice A (coneK MK k).length c ∧ OwnsI wr w.heap.size (.slice A (coneK MK k).length c) (coneK MK k) ∧ (Value.slice A (coneK MK k).length c).ownBlock ≠ some G ∧ OwnsB wr w.heap.size (.slice (some ⟨G, 0, none⟩) N N) MK ∧ Below w.heap.size w wr) (fun _ x _ => N - (intOf x).toNat)
      case atStart => exact ⟨0, _, _, Nat.zero_le _, rfl, rfl, HOUT.out, hne0, HM.out, HB5.out⟩
      case round =>
        obtain ⟨k, A, c, hk, rfl, rfl, hown, hne, hm, hb⟩ := hrel
        obtain ⟨w6, rfl⟩ : ∃ w6, w6 = wr := ⟨_, rfl⟩
        clear HM HB5 HOUT hne0
        have HO := Lib.hid hown
        have HM := Lib.hid hm
        have HB0 := Lib.hid hb
        have HB := Lib.hid (bThen HW0.out hb)
        have gl := hm.ltN
        clear hown hm hb
        by_cases hlt : k < N
        · have u0 := (HM.out.shapeN HLEN.out hlt).1
          have tk : (k : Int) < (N : Int) := by omega
          obtain ⟨b, hb⟩ : ∃ b, MK.getD k false = b := ⟨_, rfl⟩
          rw [hb] at u0
          cases b with
          | false =>
            have HE := Lib.hid (coneK_no hb)
            have HNE := Lib.hid hne
            clear hb hne
            go_wp2
            go_roundw
            case rel => exact ⟨k + 1, A, c, by omega, by go_num, by rw [HE.out], by rw [HE.out]; exact HO.out, by rw [HE.out]; exact HNE.out, HM.out, HB0.out⟩
            case measure => simp [intOf] <;> omega
          | true =>
            have HE := Lib.hid (coneK_yes hb)
            have hlen := coneK_len MK k
            obtain ⟨K, hK⟩ : ∃ K, coneK MK k = K := ⟨_, rfl⟩
            rw [hK] at HO HE hlen hne ⊢
            have HNE := Lib.hid hne
            have HBA := Lib.hid (show Below w6.heap.size w6 (w6.alloc (.cells #[.int .i64 (k : Int)] 3)) from bAlloc (Below.refl _ _) (Nat.le_refl _) _)
            have HBB := Lib.hid (bThen HB0.out HBA.out)
            have hsz := HBB.out.size
            have HOA := Lib.hid (HO.out.below HBA.out)
            clear hb hK hne
            go_wp2_with (at_builtin; refine wpList_append_all (by rfl) _ _ 26 (by rfl) w.heap.size 3 i0 (.int .i64 0) 1 8 Try.underlying26 hi hz0 hz1 hz2 rfl (by omega) (.slice A K.length c) K.length (K.map vI) (by rfl) HOA.out (some ⟨w6.heap.size, 0, none⟩) 1 1 [.int .i64 (k : Int)] (by rfl) (by rfl) (.inr ⟨_, rfl, World.news_of_block (heap_alloc_new _ _)⟩) (by simp [Value.oneCell']) (by unfold maxLen; omega) (by omega) hsz ?_; intro A' c' w7 hown7 hgrow7 hkeep7 hat7)
            have HB7 := Lib.hid (HBB.out.grown hgrow7 HBB.out.size (fun g hg => (HO.out.lt g hg).1))
            have HO7 := Lib.hid (show OwnsI w7 w.heap.size (.slice A' (K.length + 1) c') (K ++ [(k : Int)]) from (by unfold OwnsI; rw [List.length_append, List.map_append]; exact hown7))
            have HM7 := Lib.hid (show OwnsB w7 w.heap.size (.slice (some ⟨G, 0, none⟩) N N) MK from (HM.out.below HBA.out).atB (hgrow7.block G (by simp; omega) (fun e => HNE.out e.symm)))
            have HN7 := Lib.hid (show (Value.slice A' (K.length + 1) c').ownBlock ≠ some G from fun e => by
              rcases hat7 with h | h
              · exact HNE.out (h.symm.trans e)
              · rw [e] at h; injection h with h; simp at h; omega)
            clear hown7 hgrow7 hkeep7 hat7 hsz
            go_roundw
            case rel => exact ⟨k + 1, A', c', by omega, by go_num, by rw [HE.out, List.length_append]; rfl, by rw [HE.out, List.length_append]; exact HO7.out, by rw [HE.out, List.length_append]; exact HN7.out, HM7.out, HB7.out⟩
            case measure => simp [intOf] <;> omega
        · obtain rfl : k = N := by omega
          clear hlt
          go_wp2
          go_ret
          rw [← HRES.out]
          exact ⟨_, rfl, HO.out.lower HW0.out.size, HB.out⟩
end Go.Proofs.Ytiejilmgchmppaa
