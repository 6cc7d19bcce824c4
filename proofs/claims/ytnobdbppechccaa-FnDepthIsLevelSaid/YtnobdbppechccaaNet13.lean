/-
  Cones and what is reached: the program.
-/
import Derived.Test.YtnobdbppechccaaNet12
import Derived.Deep.RegionHeld3
namespace Go.Proofs.Ytnobdbppechccaa
open Go.RowKit
set_option linter.unusedVariables false
set_option linter.unusedSimpArgs false

theorem rd_lit1 {w : World} {g : Nat} {x : Int} (h : w.heap[g]? = some (.cells #[.int .i64 x] 3 (0, 0))) (hx : Fit x) : rdIntS g (g + 1) w [.slice (some ⟨g, 0, none⟩) 1 1] [x] := by
  refine ⟨_, _, rfl, by simp [maxLen], fun j hj => ⟨g, 0, rfl, Nat.le_refl _, Nat.lt_succ_self _, ?_⟩⟩
  match j, hj with
  | 0, _ => exact ⟨[.int .i64 x], rfl, fun i u hu => (by match i, hu with | 0, hu => (injection hu with hu; subst hu; exact box_cell h 0 _ rfl)), rfl, hx⟩
theorem fit_nodes {L : List Int} {N : Nat} (hN : N ≤ 1000) (h : ∀ (k : Nat) (x : Int), L[k]? = some x → ∃ p : Nat, x = (p : Int) ∧ p < N) : ∀ x ∈ L, Fit x := fun x hx => by
  obtain ⟨k, hk, e⟩ := List.getElem_of_mem hx
  obtain ⟨p, rfl, hp⟩ := h k x (by rw [List.getElem?_eq_getElem hk, e])
  unfold Fit; omega
theorem nodes_in {n : DNet} (hP : NetP n) : ∀ (k : Nat) (x : Int), (nodesL (rootsL n))[k]? = some x → ∃ p : Nat, x = (p : Int) ∧ p < netN n := fun k x h => by
  unfold nodesL at h
  rw [List.getElem?_map] at h
  cases hg : (rootsL n)[k]? with
  | none => rw [hg] at h; cases h
  | some y =>
    rw [hg] at h
    obtain ⟨l, rfl, hl⟩ := hP.root y (List.mem_of_getElem? hg)
    exact ⟨l / 2, by simpa using h.symm, hl⟩
set_option maxRecDepth 100000 in
set_option maxHeartbeats 12800000 in
theorem implReach_at (n : DNet) (us : List Value) (w : World) (h : rdNet 0 w.heap.size w us n) {L : List Bool} (hL : reachO n = L) :
    Calls Try.prog 15 #[.agg us.toArray] w fun e w' => ∃ v, e = .returned v ∧ OwnsB w' w.heap.size v L ∧ Below w.heap.size w w' := by
  have HD := Lib.hid h
  obtain ⟨f, hf⟩ : ∃ f, netB n = f := ⟨_, rfl⟩
  have HF := Lib.hid hf
  have HX := Lib.hid hL
  clear hf hL
  obtain ⟨mu0, mu1, mu2, mu3, rfl, mh0, mh1, mh2, mh3⟩ := h
  obtain ⟨me0, -⟩ := mh0
  injection me0 with me0
  subst me0
  obtain ⟨mA1, mc1, me1, mm1, -⟩ := slice_of mh1
  subst me1
  have mR1 := Lib.hid mh1
  clear mh1
  obtain ⟨mA2, mc2, me2, mm2, -⟩ := slice_of mh2
  subst me2
  have mR2 := Lib.hid mh2
  clear mh2
  obtain ⟨mA3, mc3, me3, mm3, -⟩ := slice_of mh3
  subst me3
  have mR3 := Lib.hid mh3
  clear mh3
  go_enter Try.func15, Try.ntmps15
  go_wp2_with fail
  obtain ⟨W0, hV⟩ : ∃ W0, W0 = (w.alloc (.cells #[.int .i64 n.1, .slice mA1 (n.2.1).length mc1, .slice mA2 (n.2.2.1).length mc2, .slice mA3 (n.2.2.2).length mc3] 28)) := ⟨_, rfl⟩
  rw [← hV]
  have gN := eqbox1 hV
  have d0 : W0.cell? ⟨w.heap.size, 0, none⟩ = some (.int .i64 n.1) := box_cell gN.1 0 _ rfl
  have d1 : W0.cell? ⟨w.heap.size, 1, none⟩ = some (.slice mA1 (n.2.1).length mc1) := box_cell gN.1 1 _ rfl
  have d2 : W0.cell? ⟨w.heap.size, 2, none⟩ = some (.slice mA2 (n.2.2.1).length mc2) := box_cell gN.1 2 _ rfl
  have d3 : W0.cell? ⟨w.heap.size, 3, none⟩ = some (.slice mA3 (n.2.2.2).length mc3) := box_cell gN.1 3 _ rfl
  have sW0 : W0.heap.size = w.heap.size + 1 := by rw [hV]; simp
  have HW0 := Lib.hid gN.2
  clear hV gN
  refine (implNetOk_at n _ _ (rdUp good_Net HD.out HW0.out) HF.out).mono ?_
  rintro e w1 ⟨rfl, hb⟩
  replace d0 := keep hb d0
  replace d1 := keep hb d1
  replace d2 := keep hb d2
  replace d3 := keep hb d3
  have HB1 := Lib.hid (bThen HW0.out hb)
  clear hb
  cases f with
  | false =>
    have HE := Lib.hid ((reach_no HF.out).symm.trans HX.out)
    go_wp2
    go_ret
    refine ⟨_, rfl, ?_, HB1.out⟩
    rw [← HE.out]
    exact own_nilB _ _
  | true =>
  have HP := Lib.hid (netP_of HF.out)
  have HE := Lib.hid (show markL n (setsL (netN n) (nodesL (rootsL n))) = L by rw [← HX.out, reach_yes HF.out, sets_nodes])
  have hS0 : (fun w' => Below w1.heap.size w1 w' ∧ w'.cell? ⟨w.heap.size, 0, none⟩ = some (.int .i64 n.1) ∧ w'.cell? ⟨w.heap.size, 1, none⟩ = some (.slice mA1 (n.2.1).length mc1) ∧ w'.cell? ⟨w.heap.size, 2, none⟩ = some (.slice mA2 (n.2.2.1).length mc2) ∧ w'.cell? ⟨w.heap.size, 3, none⟩ = some (.slice mA3 (n.2.2.2).length mc3)) w1 := ⟨Below.refl _ _, d0, d1, d2, d3⟩
  have hS : ∀ {w0 w' : World}, (fun w' => Below w1.heap.size w1 w' ∧ w'.cell? ⟨w.heap.size, 0, none⟩ = some (.int .i64 n.1) ∧ w'.cell? ⟨w.heap.size, 1, none⟩ = some (.slice mA1 (n.2.1).length mc1) ∧ w'.cell? ⟨w.heap.size, 2, none⟩ = some (.slice mA2 (n.2.2.1).length mc2) ∧ w'.cell? ⟨w.heap.size, 3, none⟩ = some (.slice mA3 (n.2.2.2).length mc3)) w0 → Below w0.heap.size w0 w' → (fun w' => Below w1.heap.size w1 w' ∧ w'.cell? ⟨w.heap.size, 0, none⟩ = some (.int .i64 n.1) ∧ w'.cell? ⟨w.heap.size, 1, none⟩ = some (.slice mA1 (n.2.1).length mc1) ∧ w'.cell? ⟨w.heap.size, 2, none⟩ = some (.slice mA2 (n.2.2.1).length mc2) ∧ w'.cell? ⟨w.heap.size, 3, none⟩ = some (.slice mA3 (n.2.2.2).length mc3)) w' := fun h hb => ⟨bThen h.1 hb, keep hb h.2.1, keep hb h.2.2.1, keep hb h.2.2.2.1, keep hb h.2.2.2.2⟩
  dsimp only at hS0 hS
  go_wp2_with fail
  refine wp_region_noPanic ?_
  refine wp_region_kept 3 5 (fun w' => Below w1.heap.size w1 w' ∧ w'.cell? ⟨w.heap.size, 0, none⟩ = some (.int .i64 n.1) ∧ w'.cell? ⟨w.heap.size, 1, none⟩ = some (.slice mA1 (n.2.1).length mc1) ∧ w'.cell? ⟨w.heap.size, 2, none⟩ = some (.slice mA2 (n.2.2.1).length mc2) ∧ w'.cell? ⟨w.heap.size, 3, none⟩ = some (.slice mA3 (n.2.2.2).length mc3)) (by kernel_rfl) rfl (hS hS0 (Below.drew (Below.refl _ _))) (fun hK0 => ?_)
  refine Kept.take (v := ?vr0) 0 (by kernel_rfl) rfl (by kernel_rfl) (fun _ _ _ h => h) (Or.inl ⟨by rfl, ?hyr0⟩) hK0 ?restr0
  case hyr0 =>
    intro w0 hSw
    (try dsimp only at hSw)
    go_simp
    all_goals (with_reducible rfl)
  (try simp only [Act.put, List.setIfInBounds_toArray, List.set_cons_zero, List.set_cons_succ])
  refine Kept.take (v := ?vr1) 1 (by kernel_rfl) rfl (by kernel_rfl) (fun _ _ _ h => h) (Or.inl ⟨by rfl, ?hyr1⟩) hK0 ?restr1
  case hyr1 =>
    intro w0 hSw
    (try dsimp only at hSw)
    go_simp
    all_goals (with_reducible rfl)
  (try simp only [Act.put, List.setIfInBounds_toArray, List.set_cons_zero, List.set_cons_succ])
  refine Kept.one 2 (by kernel_rfl) rfl (fun K hK => ?_)
  go_simp
  go_at_call 47
  refine (rootNodes_at n _ _ (rdUp good_Net HD.out (bThen HB1.out hK0.1)) HP.out (net_parts HF.out)).mono ?_
  rintro e wr2 ⟨v2, rfl, ho2, hbr2⟩
  go_simp
  refine hK.out _ _ (hS hK0 hbr2) (fun hK1 => ?_)
  clear hK K hK0
  (try simp only [Act.put, List.setIfInBounds_toArray, List.set_cons_zero, List.set_cons_succ])
  refine Kept.tail (by rfl) (by kernel_rfl) ?_
  simp only [List.drop_succ_cons, List.drop_zero]
  have HB2 := Lib.hid (bThen HB1.out hK1.1)
  have HR := Lib.hid ho2
  clear hK1 hS0 hS ho2 hbr2 d0 d1 d2 d3
  go_wp2_with fail
  refine (inCones_at n (nodesL (rootsL n)) _ _ _ (rdUp good_Net HD.out HB2.out) (ownI_rd HR.out (fit_nodes (by have := HP.out.sz.net_le; omega) (nodes_in HP.out))) HP.out (nodes_in HP.out) rfl).mono ?_
  rintro e w3 ⟨g, rfl, ho, hb⟩
  have HO := Lib.hid ho
  have HB3 := Lib.hid (bThen HB2.out hb)
  clear hb ho
  go_wp2
  refine NoPanic.normal ?_
  go_wp2
  go_ret
  rw [← HE.out]
  exact ⟨_, rfl, OwnsB.lower HO.out HB2.out.size, HB3.out⟩

set_option maxRecDepth 100000 in
set_option maxHeartbeats 12800000 in
theorem implCone_at (n : DNet) (v : Int) (us : List Value) (w : World) (h : rdNet 0 w.heap.size w us n) {L : List Int} (hL : coneO n v = L) :
    Calls Try.prog 22 #[.agg us.toArray, .int .i64 v] w fun e w' => ∃ v, e = .returned v ∧ OwnsI w' w.heap.size v L ∧ Below w.heap.size w w' := by
  obtain ⟨i0, hi, hz0, hz1, hz2⟩ := info_parts infoI
  have HD := Lib.hid h
  obtain ⟨f, hf⟩ : ∃ f, netB n = f := ⟨_, rfl⟩
  have HF := Lib.hid hf
  have HX := Lib.hid hL
  obtain ⟨Q, hQ⟩ : ∃ Q, ncI n = Q := ⟨_, rfl⟩
  have HQ := Lib.hid hQ
  clear hf hL hQ
  obtain ⟨mu0, mu1, mu2, mu3, rfl, mh0, mh1, mh2, mh3⟩ := h
  obtain ⟨me0, -⟩ := mh0
  injection me0 with me0
  subst me0
  obtain ⟨mA1, mc1, me1, mm1, -⟩ := slice_of mh1
  subst me1
  have mR1 := Lib.hid mh1
  clear mh1
  obtain ⟨mA2, mc2, me2, mm2, -⟩ := slice_of mh2
  subst me2
  have mR2 := Lib.hid mh2
  clear mh2
  obtain ⟨mA3, mc3, me3, mm3, -⟩ := slice_of mh3
  subst me3
  have mR3 := Lib.hid mh3
  clear mh3
  go_enter Try.func22, Try.ntmps22
  go_wp2_with fail
  obtain ⟨W0, hV⟩ : ∃ W0, W0 = (w.alloc (.cells #[.int .i64 n.1, .slice mA1 (n.2.1).length mc1, .slice mA2 (n.2.2.1).length mc2, .slice mA3 (n.2.2.2).length mc3] 28)) := ⟨_, rfl⟩
  rw [← hV]
  have gN := eqbox1 hV
  have d0 : W0.cell? ⟨w.heap.size, 0, none⟩ = some (.int .i64 n.1) := box_cell gN.1 0 _ rfl
  have d1 : W0.cell? ⟨w.heap.size, 1, none⟩ = some (.slice mA1 (n.2.1).length mc1) := box_cell gN.1 1 _ rfl
  have d2 : W0.cell? ⟨w.heap.size, 2, none⟩ = some (.slice mA2 (n.2.2.1).length mc2) := box_cell gN.1 2 _ rfl
  have d3 : W0.cell? ⟨w.heap.size, 3, none⟩ = some (.slice mA3 (n.2.2.2).length mc3) := box_cell gN.1 3 _ rfl
  have sW0 : W0.heap.size = w.heap.size + 1 := by rw [hV]; simp
  have HW0 := Lib.hid gN.2
  clear hV gN
  refine (implNetOk_at n _ _ (rdUp good_Net HD.out HW0.out) HF.out).mono ?_
  rintro e w1 ⟨rfl, hb⟩
  replace d0 := keep hb d0
  replace d1 := keep hb d1
  replace d2 := keep hb d2
  replace d3 := keep hb d3
  have HB1 := Lib.hid (bThen HW0.out hb)
  clear hb
  cases f with
  | false =>
    have HE := Lib.hid ((cone_no (v := v) (fun h => by rw [HF.out] at h; cases h.1)).symm.trans HX.out)
    go_wp2
    go_ret
    refine ⟨_, rfl, ?_, HB1.out⟩
    rw [← HE.out]
    exact own_nilI _ _
  | true =>
  by_cases h0 : v < 0
  · have HE := Lib.hid ((cone_no (n := n) (fun h => by omega)).symm.trans HX.out)
    go_wp2
    go_ret
    refine ⟨_, rfl, ?_, HB1.out⟩
    rw [← HE.out]
    exact own_nilI _ _
  obtain ⟨k0, rfl⟩ : ∃ k0 : Nat, v = (k0 : Int) := ⟨v.toNat, by omega⟩
  clear h0
  have hP := netP_of HF.out
  have HP := Lib.hid hP
  obtain ⟨N, hN⟩ : ∃ N : Nat, netN n = N := ⟨_, rfl⟩
  have hN3 : N ≤ 333 ∧ 1 ≤ N := by rw [← hN]; exact hP.sz.net_le
  have hQN : Q = (N : Int) := by rw [← HQ.out, hP.sz.nc, hN]
  have HN := Lib.hid hN
  subst hQN
  clear hP hN
  go_wp2_with fail
  refine (implNc_at n _ _ (rdUp good_Net HD.out HB1.out) (Nat.le_refl _) HQ.out).mono ?_
  rintro e w2 ⟨rfl, hb⟩
  replace d0 := keep hb d0
  replace d1 := keep hb d1
  replace d2 := keep hb d2
  replace d3 := keep hb d3
  have HB2 := Lib.hid (bThen HB1.out hb)
  clear hb
  by_cases h1 : (N : Int) ≤ (k0 : Int)
  · have HE := Lib.hid ((cone_no (n := n) (v := (k0 : Int)) (fun h => by rw [HQ.out] at h; omega)).symm.trans HX.out)
    go_wp2
    go_ret
    refine ⟨_, rfl, ?_, HB2.out⟩
    rw [← HE.out]
    exact own_nilI _ _
  have hkN : k0 < N := by omega
  go_wp2_with fail
  obtain ⟨w3, hV⟩ : ∃ w3, w3 = w2.alloc (.cells #[.int .i64 (k0 : Int)] 3) := ⟨_, rfl⟩
  rw [← hV]
  have gN := eqbox1 hV
  have HB3 := Lib.hid (bThen HB2.out gN.2)
  have HRL := Lib.hid (good_IntS.wider (rd_lit1 gN.1 (show Fit (k0 : Int) by unfold Fit; omega)) (Nat.zero_le _) (show w2.heap.size + 1 ≤ w3.heap.size by rw [hV]; simp))
  have HIN := Lib.hid (show ∀ (k : Nat) (x : Int), [(k0 : Int)][k]? = some x → ∃ p : Nat, x = (p : Int) ∧ p < netN n from fun k x h => by
    match k, h with
    | 0, h => injection h with h; exact ⟨k0, h.symm, by rw [HN.out]; exact hkN⟩)
  clear hV gN d0 d1 d2 d3
  refine (inCones_at n [(k0 : Int)] _ _ _ (rdUp good_Net HD.out HB3.out) HRL.out HP.out HIN.out HN.out).mono ?_
  rintro e w6 ⟨G, rfl, ho, hb⟩
  obtain ⟨MK, hMK⟩ : ∃ MK, markL n (setsL N [(k0 : Int)]) = MK := ⟨_, rfl⟩
  have hml2 : MK.length = N := by rw [← hMK]; unfold markL; rw [markK_len, setsL_len]
  rw [hMK] at ho
  have HLEN := Lib.hid hml2
  have HM := Lib.hid (OwnsB.lower ho (show w.heap.size ≤ w3.heap.size from HB3.out.size))
  have HB5 := Lib.hid (bThen HB3.out hb)
  have HRES := Lib.hid (show coneK MK N = L by rw [← HX.out, cone_yes HF.out (by rw [HN.out]; exact hkN), HN.out, ← hMK]; rfl)
  have HOUT := Lib.hid (show OwnsI w6 w.heap.size (.slice none (coneK MK 0).length 0) (coneK MK 0) from own_nilI _ _)
  have hne0 : (Value.slice none (coneK MK 0).length 0).ownBlock ≠ some G := by intro e; cases e
  have HW1 := Lib.hid (Below.refl w.heap.size w)
  clear ho hb hMK hml2 HB1 HB2 HB3 HW0 HRL HIN
  have HW0 := HW1
  go_wp2
  go_loopw [5, 26] (fun v x wr => ∃ (k : Nat) (A : Option Addr) (c : Nat), k ≤ N ∧ x = .int .i64 (k : Int) ∧ v = .slice A (coneK MK k).length c ∧ OwnsI wr w.heap.size (.slice A (coneK MK k).length c) (coneK MK k) ∧ (Value.slice A (coneK MK k).length c).ownBlock ≠ some G ∧ OwnsB wr w.heap.size (.slice (some ⟨G, 0, none⟩) N N) MK ∧ Below w.heap.size w wr) (fun _ x _ => N - (intOf x).toNat)
  case atStart => exact ⟨0, _, _, Nat.zero_le _, rfl, rfl, HOUT.out, hne0, HM.out, HB5.out⟩
  case round =>
    obtain ⟨k, A, c, hk, rfl, rfl, hown, hne, hm, hb⟩ := hrel
    obtain ⟨w6, rfl⟩ : ∃ w6, w6 = wr := ⟨_, rfl⟩
    clear HM HB5 HOUT hne0
    have HO := Lib.hid hown
    have HM := Lib.hid hm
    have HB0 := Lib.hid hb
    have HB := Lib.hid (bThen HW0.out hb)
    have gl := hm.ltN
    clear hown hm hb
    by_cases hlt : k < N
    · have u0 := (HM.out.shapeN HLEN.out hlt).1
      have tk : (k : Int) < (N : Int) := by omega
      obtain ⟨b, hb⟩ : ∃ b, MK.getD k false = b := ⟨_, rfl⟩
      rw [hb] at u0
      cases b with
      | false =>
        have HE := Lib.hid (coneK_no hb)
        have HNE := Lib.hid hne
        clear hb hne
        go_wp2
        go_roundw
        case rel => exact ⟨k + 1, A, c, by omega, by go_num, by rw [HE.out], by rw [HE.out]; exact HO.out, by rw [HE.out]; exact HNE.out, HM.out, HB0.out⟩
        case measure => simp [intOf] <;> omega
      | true =>
        have HE := Lib.hid (coneK_yes hb)
        have hlen := coneK_len MK k
        obtain ⟨K, hK⟩ : ∃ K, coneK MK k = K := ⟨_, rfl⟩
        rw [hK] at HO HE hlen hne ⊢
        have HNE := Lib.hid hne
        have HBA := Lib.hid (show Below w6.heap.size w6 (w6.alloc (.cells #[.int .i64 (k : Int)] 3)) from bAlloc (Below.refl _ _) (Nat.le_refl _) _)
        have HBB := Lib.hid (bThen HB0.out HBA.out)
        have hsz := HBB.out.size
        have HOA := Lib.hid (HO.out.below HBA.out)
        clear hb hK hne
        go_wp2_with (at_builtin; refine wpList_append_all (by rfl) _ _ 26 (by rfl) w.heap.size 3 i0 (.int .i64 0) 1 8 Try.underlying26 hi hz0 hz1 hz2 rfl (by omega) (.slice A K.length c) K.length (K.map vI) (by rfl) HOA.out (some ⟨w6.heap.size, 0, none⟩) 1 1 [.int .i64 (k : Int)] (by rfl) (by rfl) (.inr ⟨_, rfl, World.news_of_block (heap_alloc_new _ _)⟩) (by simp [Value.oneCell']) (by unfold maxLen; omega) (by omega) hsz ?_; intro A' c' w7 hown7 hgrow7 hkeep7 hat7)
        have HB7 := Lib.hid (HBB.out.grown hgrow7 HBB.out.size (fun g hg => (HO.out.lt g hg).1))
        have HO7 := Lib.hid (show OwnsI w7 w.heap.size (.slice A' (K.length + 1) c') (K ++ [(k : Int)]) from (by unfold OwnsI; rw [List.length_append, List.map_append]; exact hown7))
        have HM7 := Lib.hid (show OwnsB w7 w.heap.size (.slice (some ⟨G, 0, none⟩) N N) MK from (HM.out.below HBA.out).atB (hgrow7.block G (by simp; omega) (fun e => HNE.out e.symm)))
        have HN7 := Lib.hid (show (Value.slice A' (K.length + 1) c').ownBlock ≠ some G from fun e => by
          rcases hat7 with h | h
          · exact HNE.out (h.symm.trans e)
          · rw [e] at h; injection h with h; simp at h; omega)
        clear hown7 hgrow7 hkeep7 hat7 hsz
        go_roundw
        case rel => exact ⟨k + 1, A', c', by omega, by go_num, by rw [HE.out, List.length_append]; rfl, by rw [HE.out, List.length_append]; exact HO7.out, by rw [HE.out, List.length_append]; exact HN7.out, HM7.out, HB7.out⟩
        case measure => simp [intOf] <;> omega
    · obtain rfl : k = N := by omega
      clear hlt
      go_wp2
      go_ret
      rw [← HRES.out]
      exact ⟨_, rfl, HO.out.lower HW0.out.size, HB.out⟩
end Go.Proofs.Ytnobdbppechccaa
