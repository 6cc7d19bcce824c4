/-
  Cones and what is reached: the reference.
-/
import Derived.Test.YtnobdbppechccaaNet9
import Derived.Deep.RegionHeld3
namespace Go.Proofs.Ytnobdbppechccaa
open Go.RowKit
set_option linter.unusedVariables false
set_option linter.unusedSimpArgs false

theorem cone_no {n : DNet} {v : Int} (h : ¬ (netB n = true ∧ 0 ≤ v ∧ v < ncI n)) : coneO n v = [] := by unfold coneO; rw [if_neg h]
theorem cone_yes {n : DNet} {k : Nat} (h : netB n = true) (hk : k < netN n) : coneO n (k : Int) = coneK (markL n (oneL (netN n) k)) (netN n) := by
  unfold coneO
  rw [if_pos ⟨h, by omega, by rw [(netP_of h).sz.nc]; omega⟩, Int.toNat_natCast]
theorem coneO_in (n : DNet) (v : Int) : (coneO n v).length ≤ 333 ∧ ∀ x ∈ coneO n v, Fit x := by
  unfold coneO
  split
  · rename_i h
    have hN := (netP_of h.1).sz.net_le
    refine ⟨Nat.le_trans (coneK_len _ _) hN.1, fun x hx => ?_⟩
    unfold coneK at hx
    obtain ⟨i, hi, rfl⟩ := List.mem_map.1 hx
    have := List.mem_range.1 (List.mem_filter.1 hi).1
    unfold Fit; omega
  · simp
set_option maxRecDepth 100000 in
set_option maxHeartbeats 12800000 in
theorem specCone_at (n : DNet) (v : Int) (us : List Value) (w : World) (h : rdNet 0 w.heap.size w us n) {L : List Int} (hL : coneO n v = L) :
    Calls Try.prog 35 #[.agg us.toArray, .int .i64 v] w fun e w' => ∃ v, e = .returned v ∧ OwnsI w' w.heap.size v L ∧ Below w.heap.size w w' := by
  obtain ⟨i0, hi, hz0, hz1, hz2⟩ := info_parts infoI
  obtain ⟨iB, hiB, hzB0, hzB1, hzB2⟩ := info_parts infoB
  have HD := Lib.hid h
  obtain ⟨f, hf⟩ : ∃ f, netB n = f := ⟨_, rfl⟩
  have HF := Lib.hid hf
  have HX := Lib.hid hL
  obtain ⟨Q, hQ⟩ : ∃ Q, ncI n = Q := ⟨_, rfl⟩
  have HQ := Lib.hid hQ
  clear hf hL hQ
  obtain ⟨mu0, mu1, mu2, mu3, rfl, mh0, mh1, mh2, mh3⟩ := h
  obtain ⟨me0, -⟩ := mh0
  injection me0 with me0
  subst me0
  obtain ⟨mA1, mc1, me1, mm1, -⟩ := slice_of mh1
  subst me1
  have mR1 := Lib.hid mh1
  clear mh1
  obtain ⟨mA2, mc2, me2, mm2, -⟩ := slice_of mh2
  subst me2
  have mR2 := Lib.hid mh2
  clear mh2
  obtain ⟨mA3, mc3, me3, mm3, -⟩ := slice_of mh3
  subst me3
  have mR3 := Lib.hid mh3
  clear mh3
  go_enter Try.func35, Try.ntmps35
  go_wp2_with fail
  obtain ⟨Wb, hVb⟩ : ∃ W0, W0 = w.alloc (.cells #[.int .i64 n.1, .slice mA1 (n.2.1).length mc1, .slice mA2 (n.2.2.1).length mc2, .slice mA3 (n.2.2.2).length mc3] 28) := ⟨_, rfl⟩
  rw [← hVb]
  have gNb := eqbox1 hVb
  have d0 : Wb.cell? ⟨w.heap.size, 0, none⟩ = some (.int .i64 n.1) := box_cell gNb.1 0 _ rfl
  have d1 : Wb.cell? ⟨w.heap.size, 1, none⟩ = some (.slice mA1 (n.2.1).length mc1) := box_cell gNb.1 1 _ rfl
  have d2 : Wb.cell? ⟨w.heap.size, 2, none⟩ = some (.slice mA2 (n.2.2.1).length mc2) := box_cell gNb.1 2 _ rfl
  have d3 : Wb.cell? ⟨w.heap.size, 3, none⟩ = some (.slice mA3 (n.2.2.2).length mc3) := box_cell gNb.1 3 _ rfl
  have sWb : Wb.heap.size = w.heap.size + 1 := by rw [hVb]; simp
  obtain ⟨W0, hV⟩ : ∃ W0, W0 = Wb.alloc (.cells #[] 3) := ⟨_, rfl⟩
  rw [← hV]
  have gN := eqbox1 hV
  replace d0 := keep gN.2 d0
  replace d1 := keep gN.2 d1
  replace d2 := keep gN.2 d2
  replace d3 := keep gN.2 d3
  have HW0 := Lib.hid (bThen gNb.2 gN.2)
  have hOUT : OwnsI W0 w.heap.size (.slice (some ⟨w.heap.size + 1, 0, none⟩) 0 0) [] := by rw [← sWb, hV]; exact own_newI Wb w.heap.size (by omega)
  have HOUT0 := Lib.hid hOUT
  have sW0 : W0.heap.size = w.heap.size + 2 := by rw [hV]; simp; omega
  clear hV gN hVb gNb hOUT
  refine (specNetOk_at n _ _ (rdUp good_Net HD.out HW0.out) HF.out).mono ?_
  rintro e w1 ⟨rfl, hb⟩
  replace d0 := keep hb d0
  replace d1 := keep hb d1
  replace d2 := keep hb d2
  replace d3 := keep hb d3
  have HB1 := Lib.hid (bThen HW0.out hb)
  have HB01 := Lib.hid hb
  clear hb
  cases f with
  | false =>
    have HE := Lib.hid ((cone_no (v := v) (fun h => by rw [HF.out] at h; cases h.1)).symm.trans HX.out)
    go_wp2
    go_ret
    refine ⟨_, rfl, ?_, HB1.out⟩
    rw [← HE.out]
    exact HOUT0.out.below HB01.out
  | true =>
  by_cases h0 : v < 0
  · have HE := Lib.hid ((cone_no (n := n) (fun h => by omega)).symm.trans HX.out)
    go_wp2
    go_ret
    refine ⟨_, rfl, ?_, HB1.out⟩
    rw [← HE.out]
    exact HOUT0.out.below HB01.out
  obtain ⟨k0, rfl⟩ : ∃ k0 : Nat, v = (k0 : Int) := ⟨v.toNat, by omega⟩
  clear h0
  have hP := netP_of HF.out
  have HP := Lib.hid hP
  obtain ⟨N, hN⟩ : ∃ N : Nat, netN n = N := ⟨_, rfl⟩
  have hN3 : N ≤ 333 ∧ 1 ≤ N := by rw [← hN]; exact hP.sz.net_le
  have hQN : Q = (N : Int) := by rw [← HQ.out, hP.sz.nc, hN]
  have HN := Lib.hid hN
  subst hQN
  clear hP hN
  go_wp2_with fail
  refine (specNc_at n _ _ (rdUp good_Net HD.out HB1.out) (Nat.le_refl _) HQ.out).mono ?_
  rintro e w2 ⟨rfl, hb⟩
  replace d0 := keep hb d0
  replace d1 := keep hb d1
  replace d2 := keep hb d2
  replace d3 := keep hb d3
  have HB2 := Lib.hid (bThen HB1.out hb)
  have HB02 := Lib.hid (bThen HB01.out hb)
  clear hb
  by_cases h1 : (N : Int) ≤ (k0 : Int)
  · have HE := Lib.hid ((cone_no (n := n) (v := (k0 : Int)) (fun h => by rw [HQ.out] at h; omega)).symm.trans HX.out)
    go_wp2
    go_ret
    refine ⟨_, rfl, ?_, HB2.out⟩
    rw [← HE.out]
    exact HOUT0.out.below HB02.out
  have hkN : k0 < N := by omega
  go_wp2_with fail
  refine (specNc_at n _ _ (rdUp good_Net HD.out HB2.out) (Nat.le_refl _) HQ.out).mono ?_
  rintro e w3 ⟨rfl, hb⟩
  replace d0 := keep hb d0
  replace d1 := keep hb d1
  replace d2 := keep hb d2
  replace d3 := keep hb d3
  have HB03 := Lib.hid (bThen HB02.out hb)
  clear hb
  have tkN : (k0 : Int) < (N : Int) := by omega
  have lt03 : w.heap.size < w3.heap.size := World.block_lt_of_cell? _ _ d0
  go_wp2_with (at_make; refine wpList_make_full _ rfl _ _ 31 rfl w3.heap.size 4 iB (.bool false) 1 Try.underlying31 hiB hzB0 hzB1 .i64 .i64 (N : Int) (N : Int) N rfl rfl rfl rfl (by rw [hzB2]; omega) (by unfold maxLen; omega) (Nat.le_refl _) ?_; intro w4 hown1 hgrow1; replace d0 := grownC hgrow1 d0 (by intro e; cases e); replace d1 := grownC hgrow1 d1 (by intro e; cases e); replace d2 := grownC hgrow1 d2 (by intro e; cases e); replace d3 := grownC hgrow1 d3 (by intro e; cases e); have hz := (own_makeB hown1); have hc4 := OwnsB.shapeN hz (show (List.replicate N false).length = N by simp) hkN; have y0 := hc4.1; have y1 := hc4.2; have t0 := (World.cell?_setCell_other w4 ⟨w3.heap.size, k0, none⟩ ⟨w.heap.size, 0, none⟩ (.bool true) (by intro e; injection e with e; omega)).trans d0; have t1 := (World.cell?_setCell_other w4 ⟨w3.heap.size, k0, none⟩ ⟨w.heap.size, 1, none⟩ (.bool true) (by intro e; injection e with e; omega)).trans d1; have t2 := (World.cell?_setCell_other w4 ⟨w3.heap.size, k0, none⟩ ⟨w.heap.size, 2, none⟩ (.bool true) (by intro e; injection e with e; omega)).trans d2; have t3 := (World.cell?_setCell_other w4 ⟨w3.heap.size, k0, none⟩ ⟨w.heap.size, 3, none⟩ (.bool true) (by intro e; injection e with e; omega)).trans d3)
  obtain ⟨G0, hG0⟩ : ∃ G, w3.heap.size = G := ⟨_, rfl⟩
  have hb : Below w3.heap.size w3 w4 := (Below.refl _ _).grown hgrow1 (Nat.le_refl _) (by intro g hg; cases hg)
  have g03 := HB03.out.size
  have HB04 := Lib.hid (show Below W0.heap.size W0 (w4.setCell ⟨w3.heap.size, k0, none⟩ (.bool true)) from bSet (bThen HB03.out hb) g03 _)
  have HMK := Lib.hid (show OwnsB (w4.setCell ⟨w3.heap.size, k0, none⟩ (.bool true)) w.heap.size (.slice (some ⟨w3.heap.size, 0, none⟩) N N) (oneL N k0) from (OwnsB.set hz (by simp) hkN true).lower (by have := HB2.out.size; omega))
  obtain ⟨w5, hw5⟩ : ∃ w5, w5 = w4.setCell ⟨w3.heap.size, k0, none⟩ (.bool true) := ⟨_, rfl⟩
  rw [← hw5] at HB04 HMK ⊢
  rw [hG0] at HMK ⊢
  have HB5' := Lib.hid (bThen HW0.out HB04.out)
  have hml := HMK.out.ltN
  have HOUT5 := Lib.hid (HOUT0.out.below HB04.out)
  clear hown1 hgrow1 hz hc4 y0 y1 hb hw5 hG0 d0 d1 d2 d3 t0 t1 t2 t3
  refine (specMark_at n (oneL N k0) _ _ _ (rdUp good_Net HD.out HB5'.out) (good_BoolS.wider HMK.out.rd (Nat.zero_le _) (Nat.le_refl _)) HP.out (by rw [HN.out]; simp [oneL])).mono ?_
  rintro e w6 ⟨v, rfl, ho, hb⟩
  obtain ⟨MK, hMK⟩ : ∃ MK, markL n (oneL N k0) = MK := ⟨_, rfl⟩
  have hml2 : MK.length = N := by rw [← hMK]; unfold markL; rw [markK_len]; simp [oneL]
  rw [hMK] at ho
  have HLEN := Lib.hid hml2
  obtain ⟨G, gc, rfl⟩ : ∃ G gc, v = .slice (some ⟨G, 0, none⟩) N gc := by
    rcases ho.2 with ⟨e, h0⟩ | ⟨g, cap, cur, e, _⟩
    · omega
    · exact ⟨g, cap, by rw [e, hml2]⟩
  have hGl := ho.ltN
  have HM := Lib.hid (OwnsB.lower ho (show w.heap.size ≤ w5.heap.size by have := HB5'.out.size; omega))
  have HB5 := Lib.hid (bThen HB5'.out hb)
  have HRES := Lib.hid (show coneK MK N = L by rw [← HX.out, cone_yes HF.out (by rw [HN.out]; exact hkN), HN.out, hMK])
  have HOUT := Lib.hid (show OwnsI w6 w.heap.size (.slice (some ⟨w.heap.size + 1, 0, none⟩) (coneK MK 0).length 0) (coneK MK 0) from HOUT5.out.below hb)
  have hne0 : (Value.slice (some ⟨w.heap.size + 1, 0, none⟩) (coneK MK 0).length 0).ownBlock ≠ some G := by
    intro e; injection e with e; dsimp only at e; have := HB04.out.size; omega
  have HW1 := Lib.hid (Below.refl w.heap.size w)
  clear ho hb hMK hml2 HMK HOUT5 HB04 HB03 HB02 HB01 HB1 HB2 HB5' HOUT0 HW0
  have HW0 := HW1
  go_wp2
  go_loopw [5, 7] (fun v x wr => ∃ (k : Nat) (A : Option Addr) (c : Nat), k ≤ N ∧ x = .int .i64 (k : Int) ∧ v = .slice A (coneK MK k).length c ∧ OwnsI wr w.heap.size (.slice A (coneK MK k).length c) (coneK MK k) ∧ (Value.slice A (coneK MK k).length c).ownBlock ≠ some G ∧ OwnsB wr w.heap.size (.slice (some ⟨G, 0, none⟩) N gc) MK ∧ Below w.heap.size w wr) (fun _ x _ => N - (intOf x).toNat)
  case atStart => exact ⟨0, _, _, Nat.zero_le _, rfl, rfl, HOUT.out, hne0, HM.out, HB5.out⟩
  case round =>
    obtain ⟨k, A, c, hk, rfl, rfl, hown, hne, hm, hb⟩ := hrel
    obtain ⟨w6, rfl⟩ : ∃ w6, w6 = wr := ⟨_, rfl⟩
    clear HM HB5 HOUT hne0
    have HO := Lib.hid hown
    have HM := Lib.hid hm
    have HB0 := Lib.hid hb
    have HB := Lib.hid (bThen HW0.out hb)
    have gl := hm.ltN
    clear hown hm hb
    by_cases hlt : k < N
    · have u0 := (HM.out.shapeN HLEN.out hlt).1
      have tk : (k : Int) < (N : Int) := by omega
      obtain ⟨b, hb⟩ : ∃ b, MK.getD k false = b := ⟨_, rfl⟩
      rw [hb] at u0
      cases b with
      | false =>
        have HE := Lib.hid (coneK_no hb)
        have HNE := Lib.hid hne
        clear hb hne
        go_wp2
        go_roundw
        case rel => exact ⟨k + 1, A, c, by omega, by go_num, by rw [HE.out], by rw [HE.out]; exact HO.out, by rw [HE.out]; exact HNE.out, HM.out, HB0.out⟩
        case measure => simp [intOf] <;> omega
      | true =>
        have HE := Lib.hid (coneK_yes hb)
        have hlen := coneK_len MK k
        obtain ⟨K, hK⟩ : ∃ K, coneK MK k = K := ⟨_, rfl⟩
        rw [hK] at HO HE hlen hne ⊢
        have HNE := Lib.hid hne
        have HBA := Lib.hid (show Below w6.heap.size w6 (w6.alloc (.cells #[.int .i64 (k : Int)] 3)) from bAlloc (Below.refl _ _) (Nat.le_refl _) _)
        have HBB := Lib.hid (bThen HB0.out HBA.out)
        have hsz := HBB.out.size
        have HOA := Lib.hid (HO.out.below HBA.out)
        clear hb hK hne
        go_wp2_with (at_builtin; refine wpList_append_all (by rfl) _ _ 26 (by rfl) w.heap.size 3 i0 (.int .i64 0) 1 8 Try.underlying26 hi hz0 hz1 hz2 rfl (by omega) (.slice A K.length c) K.length (K.map vI) (by rfl) HOA.out (some ⟨w6.heap.size, 0, none⟩) 1 1 [.int .i64 (k : Int)] (by rfl) (by rfl) (.inr ⟨_, rfl, World.news_of_block (heap_alloc_new _ _)⟩) (by simp [Value.oneCell']) (by unfold maxLen; omega) (by omega) hsz ?_; intro A' c' w7 hown7 hgrow7 hkeep7 hat7)
        have HB7 := Lib.hid (HBB.out.grown hgrow7 HBB.out.size (fun g hg => (HO.out.lt g hg).1))
        have HO7 := Lib.hid (show OwnsI w7 w.heap.size (.slice A' (K.length + 1) c') (K ++ [(k : Int)]) from (by unfold OwnsI; rw [List.length_append, List.map_append]; exact hown7))
        have HM7 := Lib.hid (show OwnsB w7 w.heap.size (.slice (some ⟨G, 0, none⟩) N gc) MK from (HM.out.below HBA.out).atB (hgrow7.block G (by simp; omega) (fun e => HNE.out e.symm)))
        have HN7 := Lib.hid (show (Value.slice A' (K.length + 1) c').ownBlock ≠ some G from fun e => by
          rcases hat7 with h | h
          · exact HNE.out (h.symm.trans e)
          · rw [e] at h; injection h with h; simp at h; omega)
        clear hown7 hgrow7 hkeep7 hat7 hsz
        go_roundw
        case rel => exact ⟨k + 1, A', c', by omega, by go_num, by rw [HE.out, List.length_append]; rfl, by rw [HE.out, List.length_append]; exact HO7.out, by rw [HE.out, List.length_append]; exact HN7.out, HM7.out, HB7.out⟩
        case measure => simp [intOf] <;> omega
    · obtain rfl : k = N := by omega
      clear hlt
      go_wp2
      go_ret
      rw [← HRES.out]
      exact ⟨_, rfl, HO.out.lower HW0.out.size, HB.out⟩
end Go.Proofs.Ytnobdbppechccaa
