/-
  Conjuncts: the program, from its arguments.
-/
import Derived.Test.YtiejilmgchmppaaOlC
import Derived.Deep.RegionHeld3
namespace Go.Proofs.Ytiejilmgchmppaa
open Go.RowKit
set_option linter.unusedVariables false
set_option linter.unusedSimpArgs false

set_option maxRecDepth 100000 in
set_option maxHeartbeats 12800000 in
theorem implConj_at (n : DNet) (v : Int) (hvf : Fit v) (us : List Value) (w : World) (h : rdNet 0 w.heap.size w us n) {L : List Int} (hL : conjO n v = L) :
    Calls Try.prog 11 #[.agg us.toArray, .int .i64 v] w fun e w' => ∃ v, e = .returned v ∧ OwnsI w' w.heap.size v L ∧ Below w.heap.size w w' := by
  have HD := Lib.hid h
  obtain ⟨f, hf⟩ : ∃ f, netB n = f := ⟨_, rfl⟩
  have HF := Lib.hid hf
  have HX := Lib.hid hL
  clear hf hL
  obtain ⟨mu0, mu1, mu2, mu3, rfl, mh0, mh1, mh2, mh3⟩ := h
  obtain ⟨me0, -⟩ := mh0
  injection me0 with me0
  subst me0
  obtain ⟨mA1, mc1, me1, mm1, -⟩ := slice_of mh1
  subst me1
  have mR1 := Lib.hid mh1
  clear mh1
  obtain ⟨mA2, mc2, me2, mm2, -⟩ := slice_of mh2
  subst me2
  have mR2 := Lib.hid mh2
  clear mh2
  obtain ⟨mA3, mc3, me3, mm3, -⟩ := slice_of mh3
  subst me3
  have mR3 := Lib.hid mh3
  clear mh3
  go_enter Try.func11, Try.ntmps11
  go_wp2_with fail
  obtain ⟨W0, hV⟩ : ∃ W0, W0 = (w.alloc (.cells #[.int .i64 n.1, .slice mA1 (n.2.1).length mc1, .slice mA2 (n.2.2.1).length mc2, .slice mA3 (n.2.2.2).length mc3] 28)) := ⟨_, rfl⟩
  rw [← hV]
  have gN := eqbox1 hV
  have d0 : W0.cell? ⟨w.heap.size, 0, none⟩ = some (.int .i64 n.1) := box_cell gN.1 0 _ rfl
  have d1 : W0.cell? ⟨w.heap.size, 1, none⟩ = some (.slice mA1 (n.2.1).length mc1) := box_cell gN.1 1 _ rfl
  have d2 : W0.cell? ⟨w.heap.size, 2, none⟩ = some (.slice mA2 (n.2.2.1).length mc2) := box_cell gN.1 2 _ rfl
  have d3 : W0.cell? ⟨w.heap.size, 3, none⟩ = some (.slice mA3 (n.2.2.2).length mc3) := box_cell gN.1 3 _ rfl
  have sW0 : W0.heap.size = w.heap.size + 1 := by rw [hV]; simp
  have HW0 := Lib.hid gN.2
  clear hV gN
  refine (implNetOk_at n _ _ (rdUp good_Net HD.out HW0.out) HF.out).mono ?_
  rintro e w1 ⟨rfl, hb⟩
  replace d0 := keep hb d0
  replace d1 := keep hb d1
  replace d2 := keep hb d2
  replace d3 := keep hb d3
  have HB1 := Lib.hid (bThen HW0.out hb)
  clear hb
  cases f with
  | false =>
    have HE := Lib.hid ((conj_no (v := v) (fun h => by rw [HF.out] at h; cases h.1)).symm.trans HX.out)
    go_wp2
    go_ret
    refine ⟨_, rfl, ?_, HB1.out⟩
    rw [← HE.out]
    exact own_nilI _ _
  | true =>
  have hP := netP_of HF.out
  have HP := Lib.hid hP
  have HSP := Lib.hid hP.sz
  obtain ⟨NN, hN⟩ : ∃ N : Nat, netN n = N := ⟨_, rfl⟩
  have hNN : NN ≤ 333 ∧ 1 ≤ NN := by rw [← hN]; exact hP.sz.net_le
  have HQ := Lib.hid (show ncI n = (NN : Int) by rw [hP.sz.nc, hN])
  have HN := Lib.hid hN
  obtain ⟨FN, hFN⟩ : ∃ F : Nat, firN n + 0 = F := ⟨_, rfl⟩
  have HFN := Lib.hid hFN
  have f33 := hP.sz.fir_le
  rw [show firN n = FN by omega] at f33
  clear hP hN hFN
  go_wp2_with fail
  refine (andNode_to n 0 _ _ (rdUp good_Net HD.out HB1.out) (Nat.le_refl _) HSP.out (by omega) HFN.out).mono ?_
  rintro e w2 ⟨rfl, hb⟩
  replace d0 := keep hb d0
  replace d1 := keep hb d1
  replace d2 := keep hb d2
  replace d3 := keep hb d3
  have HB2 := Lib.hid (bThen HB1.out hb)
  clear hb
  by_cases h0 : v < (FN : Int)
  · have HE := Lib.hid ((conj_no (n := n) (fun h => by have := HFN.out; omega)).symm.trans HX.out)
    go_wp2
    go_ret
    refine ⟨_, rfl, ?_, HB2.out⟩
    rw [← HE.out]
    exact own_nilI _ _
  obtain ⟨f0, rfl⟩ : ∃ f0 : Nat, v = (f0 : Int) := ⟨v.toNat, by omega⟩
  obtain ⟨t, ht1, ht2⟩ : ∃ t : Nat, f0 ≤ FN + t ∧ FN + t ≤ f0 := ⟨f0 - FN, by omega, by omega⟩
  clear h0
  go_wp2_with fail
  refine (implNc_at n _ _ (rdUp good_Net HD.out HB2.out) (Nat.le_refl _) HQ.out).mono ?_
  rintro e w3 ⟨rfl, hb⟩
  replace d0 := keep hb d0
  replace d1 := keep hb d1
  replace d2 := keep hb d2
  replace d3 := keep hb d3
  have HB3 := Lib.hid (bThen HB2.out hb)
  clear hb
  by_cases h1 : (NN : Int) ≤ (f0 : Int)
  · have HE := Lib.hid ((conj_no (n := n) (v := (f0 : Int)) (fun h => by rw [HN.out] at h; omega)).symm.trans HX.out)
    go_wp2
    go_ret
    refine ⟨_, rfl, ?_, HB3.out⟩
    rw [← HE.out]
    exact own_nilI _ _
  have htl : t < n.2.2.1.length := by have h2 := HN.out; have h3 := HFN.out; unfold netN at h2; omega
  have HFT := Lib.hid (show firN n + t = f0 by have h3 := HFN.out; omega)
  have HRES := Lib.hid (show cjL n t = L by
    have e := conj_yes HF.out htl
    rw [HFT.out, HX.out] at e
    exact e.symm)
  go_wp2_with fail
  refine (implConjs_at n t _ _ (rdUp good_Net HD.out HB3.out) HP.out htl HFT.out).mono ?_
  rintro e w4 ⟨u, rfl, ho, hb⟩
  have HO := Lib.hid (ho.lower HB3.out.size)
  have HB4 := Lib.hid (bThen HB3.out hb)
  clear ho hb d0 d1 d2 d3
  go_wp2
  go_ret
  exact ⟨_, rfl, by rw [← HRES.out]; exact HO.out, HB4.out⟩
end Go.Proofs.Ytiejilmgchmppaa
