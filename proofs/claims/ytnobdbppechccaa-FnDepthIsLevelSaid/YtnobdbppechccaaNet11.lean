/-
  What is reached: the reference.
-/
import Derived.Test.YtnobdbppechccaaNet10
import Derived.Test.YtnobdbppechccaaNet5
import Derived.Deep.RegionHeld3
namespace Go.Proofs.Ytnobdbppechccaa
open Go.RowKit
set_option linter.unusedVariables false
set_option linter.unusedSimpArgs false

theorem reach_no {n : DNet} (h : netB n = false) : reachO n = [] := by unfold reachO; rw [h]; rfl
theorem reach_yes {n : DNet} (h : netB n = true) : reachO n = markL n (seenL (netN n) (rootsL n)) := by unfold reachO; rw [if_pos h]
theorem reachO_len (n : DNet) : (reachO n).length ≤ 333 := by
  unfold reachO
  split
  · rename_i h
    unfold markL
    rw [markK_len, seenL_len]
    exact (netP_of h).sz.net_le.1
  · simp
theorem own_nilB (w : World) (B : Nat) : OwnsB w B (.slice none 0 0) [] := ownR_nil _ _ _ _ _
theorem own_newB (w : World) (B : Nat) (hB : B ≤ w.heap.size) : OwnsB (w.alloc (.cells #[] 4)) B (.slice (some ⟨w.heap.size, 0, none⟩) 0 0) [] := ownR_new fB 1 4 w B hB
set_option maxRecDepth 100000 in
set_option maxHeartbeats 12800000 in
theorem specReach_at (n : DNet) (us : List Value) (w : World) (h : rdNet 0 w.heap.size w us n) {L : List Bool} (hL : reachO n = L) :
    Calls Try.prog 36 #[.agg us.toArray] w fun e w' => ∃ v, e = .returned v ∧ OwnsB w' w.heap.size v L ∧ Below w.heap.size w w' := by
  obtain ⟨iB, hiB, hzB0, hzB1, hzB2⟩ := info_parts infoB
  have HD := Lib.hid h
  obtain ⟨f, hf⟩ : ∃ f, netB n = f := ⟨_, rfl⟩
  have HF := Lib.hid hf
  have HX := Lib.hid hL
  clear hf hL
  obtain ⟨mu0, mu1, mu2, mu3, rfl, mh0, mh1, mh2, mh3⟩ := h
  obtain ⟨me0, -⟩ := mh0
  injection me0 with me0
  subst me0
  obtain ⟨mA1, mc1, me1, mm1, -⟩ := slice_of mh1
  subst me1
  have mR1 := Lib.hid mh1
  clear mh1
  obtain ⟨mA2, mc2, me2, mm2, -⟩ := slice_of mh2
  subst me2
  have mR2 := Lib.hid mh2
  clear mh2
  obtain ⟨mA3, mc3, me3, mm3, -⟩ := slice_of mh3
  subst me3
  have mR3 := Lib.hid mh3
  clear mh3
  go_enter Try.func36, Try.ntmps36
  go_wp2_with fail
  obtain ⟨W0, hV⟩ : ∃ W0, W0 = (w.alloc (.cells #[.int .i64 n.1, .slice mA1 (n.2.1).length mc1, .slice mA2 (n.2.2.1).length mc2, .slice mA3 (n.2.2.2).length mc3] 28)) := ⟨_, rfl⟩
  rw [← hV]
  have gN := eqbox1 hV
  have d0 : W0.cell? ⟨w.heap.size, 0, none⟩ = some (.int .i64 n.1) := box_cell gN.1 0 _ rfl
  have d1 : W0.cell? ⟨w.heap.size, 1, none⟩ = some (.slice mA1 (n.2.1).length mc1) := box_cell gN.1 1 _ rfl
  have d2 : W0.cell? ⟨w.heap.size, 2, none⟩ = some (.slice mA2 (n.2.2.1).length mc2) := box_cell gN.1 2 _ rfl
  have d3 : W0.cell? ⟨w.heap.size, 3, none⟩ = some (.slice mA3 (n.2.2.2).length mc3) := box_cell gN.1 3 _ rfl
  have sW0 : W0.heap.size = w.heap.size + 1 := by rw [hV]; simp
  have HW0 := Lib.hid gN.2
  clear hV gN
  refine (specNetOk_at n _ _ (rdUp good_Net HD.out HW0.out) HF.out).mono ?_
  rintro e w1 ⟨rfl, hb⟩
  replace d0 := keep hb d0
  replace d1 := keep hb d1
  replace d2 := keep hb d2
  replace d3 := keep hb d3
  have HB1 := Lib.hid (bThen HW0.out hb)
  clear hb
  cases f with
  | false =>
    have HE := Lib.hid ((reach_no HF.out).symm.trans HX.out)
    go_wp2
    go_ret
    refine ⟨_, rfl, ?_, bAlloc HB1.out (Nat.le_refl _) _⟩
    rw [← HE.out]
    exact own_newB _ _ HB1.out.size
  | true =>
  have hP := netP_of HF.out
  have HP := Lib.hid hP
  obtain ⟨N, hN⟩ : ∃ N : Nat, netN n = N := ⟨_, rfl⟩
  have hN3 : N ≤ 333 ∧ 1 ≤ N := by rw [← hN]; exact hP.sz.net_le
  have HNC := Lib.hid (show ncI n = (N : Int) by rw [hP.sz.nc, hN])
  have HN := Lib.hid hN
  clear hP hN
  go_wp2_with fail
  refine (specNc_at n _ _ (rdUp good_Net HD.out HB1.out) (Nat.le_refl _) HNC.out).mono ?_
  rintro e w3 ⟨rfl, hb⟩
  replace d0 := keep hb d0
  replace d1 := keep hb d1
  replace d2 := keep hb d2
  replace d3 := keep hb d3
  have HB3 := Lib.hid (bThen HB1.out hb)
  clear hb
  have lt03 : w.heap.size < w3.heap.size := World.block_lt_of_cell? _ _ d0
  go_wp2_with (at_make; refine wpList_make_full _ rfl _ _ 31 rfl w3.heap.size 4 iB (.bool false) 1 Try.underlying31 hiB hzB0 hzB1 .i64 .i64 (N : Int) (N : Int) N rfl rfl rfl rfl (by rw [hzB2]; omega) (by unfold maxLen; omega) (Nat.le_refl _) ?_; intro w4 hown1 hgrow1; replace d0 := grownC hgrow1 d0 (by intro e; cases e); replace d1 := grownC hgrow1 d1 (by intro e; cases e); replace d2 := grownC hgrow1 d2 (by intro e; cases e); replace d3 := grownC hgrow1 d3 (by intro e; cases e))
  have hz := (own_makeB hown1)
  have hb : Below w3.heap.size w3 w4 := (Below.refl _ _).grown hgrow1 (Nat.le_refl _) (by intro g hg; cases hg)
  obtain ⟨G, hG⟩ : ∃ G, w3.heap.size = G := ⟨_, rfl⟩
  have hGw : w.heap.size ≤ G := by rw [← hG]; exact HB3.out.size
  have gn0 : G ≠ w.heap.size := by rw [← hG]; omega
  clear lt03
  have HM0 := Lib.hid (show OwnsB w4 w.heap.size (.slice (some ⟨G, 0, none⟩) N N) (List.replicate N false) by rw [← hG]; exact OwnsB.lower hz HB3.out.size)
  have HB4 := Lib.hid (bThen HB3.out hb)
  rw [hG]
  clear hown1 hgrow1 hz hb hG
  refine (specRoots_at n _ _ (rdUp good_Net HD.out HB4.out) (net_parts HF.out).1 (net_parts HF.out).2).mono ?_
  rintro e w5 ⟨v, rfl, ho, hb⟩
  have HB5 := Lib.hid (bThen HB4.out hb)
  obtain ⟨R, hR⟩ : ∃ R, rootsL n = R := ⟨_, rfl⟩
  rw [hR] at ho
  obtain ⟨rA, rc, rfl, -⟩ := ho.shape
  have HR := Lib.hid ho
  have HRR := Lib.hid hR
  have HM5 := Lib.hid (HM0.out.below hb)
  have hG4 := HM0.out.ltN.1
  have hr64 : R.length ≤ 64 := by rw [← hR]; exact HP.out.roots_le
  have HRP := Lib.hid (show ∀ k x, R[k]? = some x → ∃ l : Nat, x = (l : Int) ∧ l / 2 < N from fun k x h => by rw [← HN.out]; exact HP.out.root x (by rw [hR]; exact List.mem_of_getElem? h))
  have HRF := Lib.hid (show ∀ x ∈ R, Fit x by rw [← hR]; exact roots_fit HD.out)
  replace d0 := keep hb d0
  replace d1 := keep hb d1
  replace d2 := keep hb d2
  replace d3 := keep hb d3
  have hwl : w.heap.size < w5.heap.size := World.block_lt_of_cell? _ _ d0
  clear ho hb hR HM0
  go_wp2
  go_loopw [5] (fun v wr => ∃ k : Nat, k ≤ R.length ∧ v = .int .i64 (k : Int) ∧ OwnsB wr w.heap.size (.slice (some ⟨G, 0, none⟩) N N) (seenL N (R.take k)) ∧ OwnsI wr w4.heap.size (.slice rA R.length rc) R ∧ Below w.heap.size w wr ∧ wr.cell? ⟨w.heap.size, 0, none⟩ = some (.int .i64 n.1) ∧ wr.cell? ⟨w.heap.size, 1, none⟩ = some (.slice mA1 (n.2.1).length mc1) ∧ wr.cell? ⟨w.heap.size, 2, none⟩ = some (.slice mA2 (n.2.2.1).length mc2) ∧ wr.cell? ⟨w.heap.size, 3, none⟩ = some (.slice mA3 (n.2.2.2).length mc3)) (fun v _ => R.length - (intOf v).toNat)
  case atStart => exact ⟨0, Nat.zero_le _, rfl, HM5.out, HR.out, HB5.out, d0, d1, d2, d3⟩
  case round =>
    obtain ⟨k, hk, rfl, hm, hr, hb, c0, c1, c2, c3⟩ := hrel
    obtain ⟨w6, rfl⟩ : ∃ w6, w6 = wr := ⟨_, rfl⟩
    clear HM5 HR HB5 d0 d1 d2 d3 hwl
    have HM := Lib.hid hm
    have HR := Lib.hid hr
    have HB := Lib.hid hb
    have C := Lib.hid (And.intro c0 (And.intro c1 (And.intro c2 c3)))
    clear hm hr hb
    have hslen : (seenL N (R.take k)).length = N := seenL_len _ _
    by_cases hlt : k < R.length
    · obtain ⟨x, hx⟩ : ∃ x, R[k]? = some x := ⟨_, List.getElem?_eq_getElem hlt⟩
      obtain ⟨l, rfl, hl⟩ := HRP.out k x hx
      obtain ⟨p, hp⟩ : ∃ p, l / 2 = p := ⟨_, rfl⟩
      rw [hp] at hl
      have HST := Lib.hid (seenL_step (N := N) hx)
      have HPP := Lib.hid hp
      obtain ⟨A2, c2', e2, hsh⟩ := HR.out.shape
      injection e2 with e3 e4 e5
      obtain ⟨g, hg, xc, -⟩ := hsh k hlt
      rw [← e3] at hg
      subst hg
      rw [List.getD_eq_getElem?_getD, hx] at xc
      replace xc : w6.cell? ⟨g, k, none⟩ = some (.int .i64 (l : Int)) := xc
      have xf := HRF.out _ (List.mem_of_getElem? hx)
      unfold Fit at xf
      have gr := (HR.out.lt g rfl)
      have gne : g ≠ G := by omega
      have sp := HM.out.shapeN hslen hl
      have p0 := sp.1
      have p1 := sp.2
      have hpx : ((l : Int) / 2) = (p : Int) := by omega
      have hpt : ((l : Int).tdiv 2) = (p : Int) := by rw [tdiv2, hp]
      have hpw : IntKind.i64.wrap (p : Int) = (p : Int) := wrap64_int _ (by omega) (by omega)
      have tpN : (p : Int) < (N : Int) := by omega
      have tk : (k : Int) < (R.length : Int) := by omega
      clear hx hp hsh e3 e5 sp c0 c1 c2 c3
      go_wp2
      go_roundw
      case rel =>
        have h3 := OwnsB.set HM.out hslen hl true
        have e := HST.out
        rw [HPP.out] at e
        have h4 := ownI_far (g := G) (k := p) (u := .bool true) HR.out (by intro e; injection e with e; exact gne e)
        have cf : ∀ i v, w6.cell? ⟨w.heap.size, i, none⟩ = some v → _ := fun i v h => (World.cell?_setCell_other _ ⟨G, p, none⟩ ⟨w.heap.size, i, none⟩ (.bool true) (by intro e; injection e with e; exact gn0 e)).trans h
        exact ⟨k + 1, by omega, by go_num, by rw [e]; exact h3, h4, bSet (p := ⟨G, p, none⟩) HB.out hGw _, cf _ _ C.out.1, cf _ _ C.out.2.1, cf _ _ C.out.2.2.1, cf _ _ C.out.2.2.2⟩
      case measure => simp [intOf] <;> omega
    · obtain rfl : k = R.length := by omega
      rw [List.take_length] at HM hslen
      clear hlt
      go_wp2_with fail
      refine (specMark_at n (seenL N R) _ _ _ (rdUp good_Net HD.out HB.out) (good_BoolS.wider (by have h := HM.out.rd; exact (show rdBoolS w.heap.size w6.heap.size w6 [.slice (some ⟨G, 0, none⟩) N N] (seenL N R) from h)) (Nat.zero_le _) (Nat.le_refl _)) HP.out (by rw [hslen, HN.out])).mono ?_
      rintro e w7 ⟨v, rfl, ho, hb⟩
      have hls : (markL n (seenL N R)).length = N := by unfold markL; rw [markK_len, hslen]
      have HE := Lib.hid (show markL n (seenL N R) = L by rw [← HX.out, reach_yes HF.out, HN.out, HRR.out])
      obtain ⟨G2, gc2, rfl⟩ : ∃ G gc, v = .slice (some ⟨G, 0, none⟩) N gc := by
        rcases ho.2 with ⟨e, h0⟩ | ⟨g, cap, cur, e, _⟩
        · omega
        · exact ⟨g, cap, by rw [e, hls]⟩
      have HO := Lib.hid ho
      have HB7 := Lib.hid (bThen HB.out hb)
      clear ho hb hls
      go_wp2
      go_ret
      rw [← HE.out]
      exact ⟨_, rfl, OwnsB.lower HO.out HB.out.size, HB7.out⟩
end Go.Proofs.Ytnobdbppechccaa
