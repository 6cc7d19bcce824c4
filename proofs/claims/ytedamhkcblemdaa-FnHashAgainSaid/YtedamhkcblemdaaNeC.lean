/-
  Net9, Net10, Net11, Back, Lift, Net12, Net13 as one text.
-/
import Derived.Test.YtedamhkcblemdaaNeB
import Derived.Test.YtedamhkcblemdaaOwnB
import Derived.Deep.RegionHeld3
import Derived.Test.YtedamhkcblemdaaAtAll
import Derived.Test.YtedamhkcblemdaaNeA
import Derived.RangeFuncNested
import Derived.RangeFuncBound
import Derived.RangeFuncCalls
import Derived.RangeFuncLeaves
import Derived.Shelf.Abstract
import Derived.Shelf.RegionOpen
import Derived.OwnWalkIn
import Derived.TacticsInMore
import Derived.LoopNIn
import Derived.LoopIn
import Derived.Test.YtedamhkcblemdaaRgN
import Derived.RegionIn
/- Net9: Marks spread through a net: the reference. -/
namespace Go.Proofs.Ytedamhkcblemdaa
open Go.RowKit
set_option linter.unusedVariables false
set_option linter.unusedSimpArgs false

theorem fB_one (L : List Bool) : ∀ u ∈ L.flatMap fB, u.oneCell' = true := fun u hu => by
  obtain ⟨c, _, hc⟩ := List.mem_flatMap.1 hu
  simp only [fB, List.mem_cons, List.not_mem_nil, or_false] at hc
  subst hc; rfl
theorem usBool (B T : Nat) (w : World) (us : List Value) (x : Bool) (h : rdBool B T w us x) : us = fB x := h
theorem OwnsB.below {w w' : World} {B : Nat} {v : Value} {L : List Bool} (h : OwnsB w B v L) (hb : Below w.heap.size w w') : OwnsB w' B v L := ownI_below h hb
theorem OwnsB.lower {w : World} {B B' : Nat} {v : Value} {L : List Bool} (h : OwnsB w B v L) (hB : B' ≤ B) : OwnsB w B' v L := by
  obtain ⟨h1, h2⟩ := h
  refine ⟨h1, ?_⟩
  rcases h2 with h2 | ⟨g, cap, cur, e1, e2, e3⟩
  · exact .inl h2
  · exact .inr ⟨g, cap, cur, e1, Nat.le_trans hB e2, e3⟩
theorem own_makeB {w : World} {B : Nat} {v : Value} {n : Nat} (h : w.ownsRow B 4 1 v n (madeCells (Value.bool false).cells (n * 1)).toList) : OwnsB w B v (List.replicate n false) := by
  unfold OwnsB OwnsR
  rw [List.length_replicate, ← made_rows fB 1 fB_len false (.bool false : Value).cells rfl (by omega)]
  exact h
theorem mark_hit {n : DNet} {M : List Bool} {j i x y : Nat} (hi : n.2.2.1.length - 1 - j = i) (h : n.2.2.1[i]? = some ((x : Int), (y : Int))) (hb : (markK n M j).getD (firN n + i) false = true) :
    markK n M (j + 1) = ((markK n M j).set (x / 2) true).set (y / 2) true := by
  conv => lhs; unfold markK
  rw [hi, h]
  simp only [hb, if_true, Int.toNat_natCast]
theorem mark_miss {n : DNet} {M : List Bool} {j i : Nat} {a : DAnd} (hi : n.2.2.1.length - 1 - j = i) (h : n.2.2.1[i]? = some a) (hb : (markK n M j).getD (firN n + i) false = false) : markK n M (j + 1) = markK n M j := by
  conv => lhs; unfold markK
  rw [hi, h]
  simp only [hb, Bool.false_eq_true, if_false]
set_option maxRecDepth 100000 in
set_option maxHeartbeats 12800000 in
theorem specMark_at (n : DNet) (L : List Bool) (us : List Value) (v : Value) (w : World) (h : rdNet 0 w.heap.size w us n) (hv : rdBoolS 0 w.heap.size w [v] L) (hP : NetP n) (hL : L.length = netN n) :
    Calls Try.prog 129 #[.agg us.toArray, v] w fun e w' => ∃ v, e = .returned v ∧ OwnsB w' w.heap.size v (markL n L) ∧ Below w.heap.size w w' := by
  obtain ⟨iB, hi, hz0, hz1, hz2⟩ := info_parts infoB
  have HD := Lib.hid h
  have HP := Lib.hid hP
  have HSP := Lib.hid hP.sz
  have a300 := hP.sz.a300
  have f33 := hP.sz.fir_le
  obtain ⟨N, hN⟩ : ∃ N : Nat, netN n = N := ⟨_, rfl⟩
  have hN3 : N ≤ 333 ∧ 1 ≤ N := by rw [← hN]; exact hP.sz.net_le
  have HN := Lib.hid hN
  rw [hN] at hL
  clear hP hN
  obtain ⟨mu0, mu1, mu2, mu3, rfl, mh0, mh1, mh2, mh3⟩ := h
  obtain ⟨me0, -⟩ := mh0
  injection me0 with me0
  subst me0
  obtain ⟨mA1, mc1, me1, mm1, -⟩ := slice_of mh1
  subst me1
  have mR1 := Lib.hid mh1
  clear mh1
  obtain ⟨mA2, mc2, me2, mm2, -⟩ := slice_of mh2
  subst me2
  have mR2 := Lib.hid mh2
  clear mh2
  obtain ⟨mA3, mc3, me3, mm3, -⟩ := slice_of mh3
  subst me3
  have mR3 := Lib.hid mh3
  clear mh3
  obtain ⟨vA, vc, rfl, vm, -⟩ := slice_of hv
  obtain ⟨W0, hV⟩ : ∃ W0, W0 = w.alloc (.cells #[.int .i64 n.1, .slice mA1 (n.2.1).length mc1, .slice mA2 (n.2.2.1).length mc2, .slice mA3 (n.2.2.2).length mc3] 36) := ⟨_, rfl⟩
  have gN := eqbox1 hV
  have HW0 := Lib.hid gN.2
  have HNW := Lib.hid (show NewsAt (W0.alloc (.cells #[] 4)) vA L.length (L.flatMap fB) from (newsAt_of fB 1 fB_len (by omega) usBool (good_BoolS.below hv (Nat.le_refl _) (bThen gN.2 (bAlloc (Below.refl _ _) (Nat.le_refl _) _)))).2)
  have sW0 : W0.heap.size = w.heap.size + 1 := by rw [hV]; simp
  have HEQ := Lib.hid hV
  have d0 : W0.cell? ⟨w.heap.size, 0, none⟩ = some (.int .i64 n.1) := box_cell gN.1 0 _ rfl
  have d1 : W0.cell? ⟨w.heap.size, 1, none⟩ = some (.slice mA1 (n.2.1).length mc1) := box_cell gN.1 1 _ rfl
  have d2 : W0.cell? ⟨w.heap.size, 2, none⟩ = some (.slice mA2 (n.2.2.1).length mc2) := box_cell gN.1 2 _ rfl
  have d3 : W0.cell? ⟨w.heap.size, 3, none⟩ = some (.slice mA3 (n.2.2.2).length mc3) := box_cell gN.1 3 _ rfl
  have HE0 := Lib.hid d0
  have HE1 := Lib.hid d1
  have HE2 := Lib.hid d2
  have HE3 := Lib.hid d3
  rw [hL] at HNW
  have fl : (L.flatMap fB).length = N * 1 := by rw [flat_len fB 1 fB_len, hL]
  have HL := Lib.hid hL
  rw [hL]
  clear gN hV hv hL
  go_enter Try.func129, Try.ntmps129
  go_wp2_with ((try rw [← HEQ.out]); at_builtin; refine wpList_append_all (by rfl) _ _ 82 (by rfl) W0.heap.size 4 iB (.bool false) 1 1 Try.underlying82 hi hz0 hz1 hz2 rfl (by omega) (.slice (some ⟨W0.heap.size, 0, none⟩) 0 0) 0 [] (by (first | rfl | (rw [sW0]; rfl))) (ownR_new fB 1 4 W0 W0.heap.size (Nat.le_refl _)) vA N vc (L.flatMap fB) (by rfl) fl HNW.out (fB_one _) (by unfold maxLen; omega) (by omega) (by simp) ?_; intro A' c' w1 hown hgrow hkeep hat; have hb1 := (show Below W0.heap.size W0 w1 from (show Below W0.heap.size W0 (W0.alloc (.cells #[] 4)) from bAlloc (Below.refl _ _) (Nat.le_refl _) _).grown hgrow (by simp) (by intro g hg; injection hg with hg; dsimp only at hg; omega)); replace d0 := keep hb1 d0; replace d1 := keep hb1 d1; replace d2 := keep hb1 d2; replace d3 := keep hb1 d3)
  have hr := hown
  rw [Nat.zero_add, List.nil_append] at hr
  have hO : OwnsB w1 W0.heap.size (.slice A' N c') L := by unfold OwnsB OwnsR; rw [HL.out]; exact hr
  obtain ⟨G, hG⟩ : ∃ G, A' = some ⟨G, 0, none⟩ := by
    rcases hO.2 with ⟨e, h0⟩ | ⟨g, cap, cur, e, _⟩
    · rw [HL.out] at h0; omega
    · injection e with e; exact ⟨g, e⟩
  subst hG
  have HO := Lib.hid hO
  have HB1 := Lib.hid hb1
  have gB := hO.ltN.2
  clear hown hgrow hkeep hat hr hO hb1 HNW fl d0 d1 d2 d3
  go_loopw [6] (fun v wr => ∃ j : Nat, j ≤ n.2.2.1.length ∧ v = .int .i64 ((n.2.2.1.length : Int) - 1 - j) ∧ OwnsB wr W0.heap.size (.slice (some ⟨G, 0, none⟩) N c') (markK n L j) ∧ Below W0.heap.size W0 wr) (fun v _ => (intOf v + 1).toNat)
  case atStart => exact ⟨0, Nat.zero_le _, by go_num, HO.out, HB1.out⟩
  case round =>
    obtain ⟨j, hj, rfl, hown, hb⟩ := hrel
    obtain ⟨w2, rfl⟩ : ∃ w2, w2 = wr := ⟨_, rfl⟩
    clear HO HB1
    have HO := Lib.hid hown
    have HB0 := Lib.hid hb
    have HB := Lib.hid (bThen HW0.out hb)
    have c0 := keep hb HE0.out
    have c1 := keep hb HE1.out
    have c2 := keep hb HE2.out
    have c3 := keep hb HE3.out
    clear hown hb
    by_cases hlt : j < n.2.2.1.length
    · obtain ⟨i, hi'⟩ : ∃ i, n.2.2.1.length - 1 - j = i := ⟨_, rfl⟩
      have hil : i < n.2.2.1.length := by omega
      have hie : ((n.2.2.1.length : Int) - 1 - j) = (i : Int) := by omega
      rw [hie]
      obtain ⟨a, ha⟩ : ∃ a, n.2.2.1[i]? = some a := ⟨_, List.getElem?_eq_getElem hil⟩
      obtain ⟨x, y, rfl, hx, hy⟩ := HP.out.and_ i a ha
      have hfk : firN n + i < N := by rw [← HN.out]; unfold netN; omega
      have hlen : (markK n L j).length = N := by rw [markK_len, HL.out]
      obtain ⟨f, hf⟩ : ∃ f, firN n + i = f := ⟨_, rfl⟩
      have hEw : IntKind.i64.wrap ((firN n : Int) + (i : Int)) = (f : Int) := by rw [wrap64_int _ (by omega) (by omega)]; omega
      obtain ⟨p, hp⟩ : ∃ p, x / 2 = p := ⟨_, rfl⟩
      obtain ⟨q, hq⟩ : ∃ q, y / 2 = q := ⟨_, rfl⟩
      rw [hf] at hfk hx hy
      rw [hp] at hx
      rw [hq] at hy
      obtain ⟨b, hb⟩ : ∃ b, (markK n L j).getD f false = b := ⟨_, rfl⟩
      have HMB := Lib.hid (show (markK n L j).getD (firN n + i) false = b by rw [hf]; exact hb)
      have HA := Lib.hid ha
      have HI := Lib.hid hi'
      have HPQ := Lib.hid (And.intro hp hq)
      obtain ⟨ab, aq, rfl, ab1, x0, xf, x1, yf⟩ := at_And (good_AndS.below mR2.out (Nat.le_refl _) HB.out) ha
      have ab2 := Nat.lt_of_lt_of_le ab1 HB.out.size
      unfold Fit at xf yf
      dsimp only at x0 x1 xf yf
      have u0 := (HO.out.shapeN hlen hfk).1
      rw [hb] at u0
      have hpx : ((x : Int) / 2) = (p : Int) := by omega
      have hqy : ((y : Int) / 2) = (q : Int) := by omega
      have hpt : ((x : Int).tdiv 2) = (p : Int) := by rw [tdiv2, hp]
      have hqt : ((y : Int).tdiv 2) = (q : Int) := by rw [tdiv2, hq]
      have hpw : IntKind.i64.wrap (p : Int) = (p : Int) := wrap64_int _ (by omega) (by omega)
      have hqw : IntKind.i64.wrap (q : Int) = (q : Int) := wrap64_int _ (by omega) (by omega)
      have HLEN := Lib.hid hlen
      have tpN : (p : Int) < (N : Int) := by omega
      have tqN : (q : Int) < (N : Int) := by omega
      have tfN : (f : Int) < (N : Int) := by omega
      have ti : (i : Int) < (n.2.2.1.length : Int) := by omega
      clear ha hi' hf hp hq hb hlen hie
      go_wp2_with fail
      refine (specFirst_at n _ _ (rdUp good_Net HD.out HB.out) (Nat.le_refl _) HSP.out).mono ?_
      rintro e w3 ⟨rfl, hb3⟩
      replace c0 := keep hb3 c0
      replace c1 := keep hb3 c1
      replace c2 := keep hb3 c2
      replace c3 := keep hb3 c3
      replace x0 := keep hb3 x0
      replace x1 := keep hb3 x1
      replace u0 := keep hb3 u0
      have HO3 := Lib.hid (HO.out.below hb3)
      have HB3 := Lib.hid (bThen HB0.out hb3)
      clear hb3
      cases b with
      | false =>
        have HE := Lib.hid (mark_miss HI.out HA.out HMB.out)
        clear c0 c1 c3 x0 x1 ab1
        go_wp2
        go_roundw
        case rel => exact ⟨j + 1, by omega, by have := HI.out; go_num, by rw [HE.out]; exact HO3.out, HB3.out⟩
        case measure => simp [intOf] <;> omega
      | true =>
        have HE := Lib.hid (mark_hit HI.out HA.out HMB.out)
        have sp := HO3.out.shapeN HLEN.out (show p < N by omega)
        have sq := HO3.out.shapeN HLEN.out (show q < N by omega)
        have hO1 := OwnsB.set HO3.out HLEN.out (show p < N by omega) true
        have HO1 := Lib.hid hO1
        have s1 := (hO1.shapeN (by rw [List.length_set]; exact HLEN.out) (show q < N by omega))
        have gn0 : G ≠ w.heap.size := by have := HO3.out.ltN; have := HW0.out.size; omega
        have gab : ab ≠ G := by omega
        clear ab1
        have p0 := sp.1
        have p1 := sp.2
        have q0 := s1.1
        have q1 := s1.2
        have e2 : (w3.setCell ⟨G, p, none⟩ (.bool true)).cell? ⟨w.heap.size, 2, none⟩ = some (.slice (some ⟨ab, aq, none⟩) (n.2.2.1).length mc2) := (World.cell?_setCell_other _ ⟨G, p, none⟩ ⟨w.heap.size, 2, none⟩ _ (by intro e; injection e with e; exact gn0 e)).trans c2
        have e3 : (w3.setCell ⟨G, p, none⟩ (.bool true)).cell? ⟨ab, aq + i * 2 + 1, none⟩ = some (.int .i64 (y : Int)) := (World.cell?_setCell_other _ ⟨G, p, none⟩ ⟨ab, aq + i * 2 + 1, none⟩ _ (by intro e; injection e with e; exact gab e.symm)).trans x1
        clear sp sq s1 hO1 c0 c1 c3 x1 gn0 gab
        go_wp2
        go_roundw
        case rel =>
          have h3 := OwnsB.set HO1.out (by rw [List.length_set]; exact HLEN.out) (show q < N by omega) true
          have e := HE.out
          rw [HPQ.out.1, HPQ.out.2] at e
          exact ⟨j + 1, by omega, by have := HI.out; go_num, by rw [e]; exact h3, bSet (p := ⟨G, q, none⟩) (bSet (p := ⟨G, p, none⟩) HB3.out gB _) gB _⟩
        case measure => simp [intOf] <;> omega
    · obtain rfl : j = n.2.2.1.length := by omega
      have hE : OwnsB w2 W0.heap.size (.slice (some ⟨G, 0, none⟩) N c') (markL n L) := HO.out
      have HE := Lib.hid hE
      clear hE hlt c0 c1 c3
      go_wp2
      go_ret
      exact ⟨_, rfl, HE.out.lower HW0.out.size, HB.out⟩
end Go.Proofs.Ytedamhkcblemdaa
/- Net10: Cones and what is reached: the reference. -/
namespace Go.Proofs.Ytedamhkcblemdaa
open Go.RowKit
set_option linter.unusedVariables false
set_option linter.unusedSimpArgs false

theorem cone_no {n : DNet} {v : Int} (h : ¬ (netB n = true ∧ 0 ≤ v ∧ v < ncI n)) : coneO n v = [] := by unfold coneO; rw [if_neg h]
theorem cone_yes {n : DNet} {k : Nat} (h : netB n = true) (hk : k < netN n) : coneO n (k : Int) = coneK (markL n (oneL (netN n) k)) (netN n) := by
  unfold coneO
  rw [if_pos ⟨h, by omega, by rw [(netP_of h).sz.nc]; omega⟩, Int.toNat_natCast]
theorem coneO_in (n : DNet) (v : Int) : (coneO n v).length ≤ 333 ∧ ∀ x ∈ coneO n v, Fit x := by
  unfold coneO
  split
  · rename_i h
    have hN := (netP_of h.1).sz.net_le
    refine ⟨Nat.le_trans (coneK_len _ _) hN.1, fun x hx => ?_⟩
    unfold coneK at hx
    obtain ⟨i, hi, rfl⟩ := List.mem_map.1 hx
    have := List.mem_range.1 (List.mem_filter.1 hi).1
    unfold Fit; omega
  · simp
end Go.Proofs.Ytedamhkcblemdaa
/- Net11: What is reached: the reference. -/
namespace Go.Proofs.Ytedamhkcblemdaa
open Go.RowKit
set_option linter.unusedVariables false
set_option linter.unusedSimpArgs false

theorem reach_no {n : DNet} (h : netB n = false) : reachO n = [] := by unfold reachO; rw [h]; rfl
theorem reach_yes {n : DNet} (h : netB n = true) : reachO n = markL n (seenL (netN n) (rootsL n)) := by unfold reachO; rw [if_pos h]
theorem reachO_len (n : DNet) : (reachO n).length ≤ 333 := by
  unfold reachO
  split
  · rename_i h
    unfold markL
    rw [markK_len, seenL_len]
    exact (netP_of h).sz.net_le.1
  · simp
theorem own_nilB (w : World) (B : Nat) : OwnsB w B (.slice none 0 0) [] := ownR_nil _ _ _ _ _
theorem own_newB (w : World) (B : Nat) (hB : B ≤ w.heap.size) : OwnsB (w.alloc (.cells #[] 4)) B (.slice (some ⟨w.heap.size, 0, none⟩) 0 0) [] := ownR_new fB 1 4 w B hB
set_option maxRecDepth 100000 in
set_option maxHeartbeats 12800000 in
theorem specReach_at (n : DNet) (us : List Value) (w : World) (h : rdNet 0 w.heap.size w us n) {L : List Bool} (hL : reachO n = L) :
    Calls Try.prog 93 #[.agg us.toArray] w fun e w' => ∃ v, e = .returned v ∧ OwnsB w' w.heap.size v L ∧ Below w.heap.size w w' := by
  obtain ⟨iB, hiB, hzB0, hzB1, hzB2⟩ := info_parts infoB
  have HD := Lib.hid h
  obtain ⟨f, hf⟩ : ∃ f, netB n = f := ⟨_, rfl⟩
  have HF := Lib.hid hf
  have HX := Lib.hid hL
  clear hf hL
  obtain ⟨mu0, mu1, mu2, mu3, rfl, mh0, mh1, mh2, mh3⟩ := h
  obtain ⟨me0, -⟩ := mh0
  injection me0 with me0
  subst me0
  obtain ⟨mA1, mc1, me1, mm1, -⟩ := slice_of mh1
  subst me1
  have mR1 := Lib.hid mh1
  clear mh1
  obtain ⟨mA2, mc2, me2, mm2, -⟩ := slice_of mh2
  subst me2
  have mR2 := Lib.hid mh2
  clear mh2
  obtain ⟨mA3, mc3, me3, mm3, -⟩ := slice_of mh3
  subst me3
  have mR3 := Lib.hid mh3
  clear mh3
  go_enter Try.func93, Try.ntmps93
  go_wp2_with fail
  obtain ⟨W0, hV⟩ : ∃ W0, W0 = (w.alloc (.cells #[.int .i64 n.1, .slice mA1 (n.2.1).length mc1, .slice mA2 (n.2.2.1).length mc2, .slice mA3 (n.2.2.2).length mc3] 36)) := ⟨_, rfl⟩
  rw [← hV]
  have gN := eqbox1 hV
  have d0 : W0.cell? ⟨w.heap.size, 0, none⟩ = some (.int .i64 n.1) := box_cell gN.1 0 _ rfl
  have d1 : W0.cell? ⟨w.heap.size, 1, none⟩ = some (.slice mA1 (n.2.1).length mc1) := box_cell gN.1 1 _ rfl
  have d2 : W0.cell? ⟨w.heap.size, 2, none⟩ = some (.slice mA2 (n.2.2.1).length mc2) := box_cell gN.1 2 _ rfl
  have d3 : W0.cell? ⟨w.heap.size, 3, none⟩ = some (.slice mA3 (n.2.2.2).length mc3) := box_cell gN.1 3 _ rfl
  have sW0 : W0.heap.size = w.heap.size + 1 := by rw [hV]; simp
  have HW0 := Lib.hid gN.2
  clear hV gN
  refine (specNetOk_at n _ _ (rdUp good_Net HD.out HW0.out) HF.out).mono ?_
  rintro e w1 ⟨rfl, hb⟩
  replace d0 := keep hb d0
  replace d1 := keep hb d1
  replace d2 := keep hb d2
  replace d3 := keep hb d3
  have HB1 := Lib.hid (bThen HW0.out hb)
  clear hb
  cases f with
  | false =>
    have HE := Lib.hid ((reach_no HF.out).symm.trans HX.out)
    go_wp2
    go_ret
    refine ⟨_, rfl, ?_, bAlloc HB1.out (Nat.le_refl _) _⟩
    rw [← HE.out]
    exact own_newB _ _ HB1.out.size
  | true =>
  have hP := netP_of HF.out
  have HP := Lib.hid hP
  obtain ⟨N, hN⟩ : ∃ N : Nat, netN n = N := ⟨_, rfl⟩
  have hN3 : N ≤ 333 ∧ 1 ≤ N := by rw [← hN]; exact hP.sz.net_le
  have HNC := Lib.hid (show ncI n = (N : Int) by rw [hP.sz.nc, hN])
  have HN := Lib.hid hN
  clear hP hN
  go_wp2_with fail
  refine (specNc_at n _ _ (rdUp good_Net HD.out HB1.out) (Nat.le_refl _) HNC.out).mono ?_
  rintro e w3 ⟨rfl, hb⟩
  replace d0 := keep hb d0
  replace d1 := keep hb d1
  replace d2 := keep hb d2
  replace d3 := keep hb d3
  have HB3 := Lib.hid (bThen HB1.out hb)
  clear hb
  have lt03 : w.heap.size < w3.heap.size := World.block_lt_of_cell? _ _ d0
  go_wp2_with (at_make; refine wpList_make_full _ rfl _ _ 82 rfl w3.heap.size 4 iB (.bool false) 1 Try.underlying82 hiB hzB0 hzB1 .i64 .i64 (N : Int) (N : Int) N rfl rfl rfl rfl (by rw [hzB2]; omega) (by unfold maxLen; omega) (Nat.le_refl _) ?_; intro w4 hown1 hgrow1; replace d0 := grownC hgrow1 d0 (by intro e; cases e); replace d1 := grownC hgrow1 d1 (by intro e; cases e); replace d2 := grownC hgrow1 d2 (by intro e; cases e); replace d3 := grownC hgrow1 d3 (by intro e; cases e))
  have hz := (own_makeB hown1)
  have hb : Below w3.heap.size w3 w4 := (Below.refl _ _).grown hgrow1 (Nat.le_refl _) (by intro g hg; cases hg)
  obtain ⟨G, hG⟩ : ∃ G, w3.heap.size = G := ⟨_, rfl⟩
  have hGw : w.heap.size ≤ G := by rw [← hG]; exact HB3.out.size
  have gn0 : G ≠ w.heap.size := by rw [← hG]; omega
  clear lt03
  have HM0 := Lib.hid (show OwnsB w4 w.heap.size (.slice (some ⟨G, 0, none⟩) N N) (List.replicate N false) by rw [← hG]; exact OwnsB.lower hz HB3.out.size)
  have HB4 := Lib.hid (bThen HB3.out hb)
  rw [hG]
  clear hown1 hgrow1 hz hb hG
  refine (specRoots_at n _ _ (rdUp good_Net HD.out HB4.out) (net_parts HF.out).1 (net_parts HF.out).2).mono ?_
  rintro e w5 ⟨v, rfl, ho, hb⟩
  have HB5 := Lib.hid (bThen HB4.out hb)
  obtain ⟨R, hR⟩ : ∃ R, rootsL n = R := ⟨_, rfl⟩
  rw [hR] at ho
  obtain ⟨rA, rc, rfl, -⟩ := ho.shape
  have HR := Lib.hid ho
  have HRR := Lib.hid hR
  have HM5 := Lib.hid (HM0.out.below hb)
  have hG4 := HM0.out.ltN.1
  have hr64 : R.length ≤ 64 := by rw [← hR]; exact HP.out.roots_le
  have HRP := Lib.hid (show ∀ k x, R[k]? = some x → ∃ l : Nat, x = (l : Int) ∧ l / 2 < N from fun k x h => by rw [← HN.out]; exact HP.out.root x (by rw [hR]; exact List.mem_of_getElem? h))
  have HRF := Lib.hid (show ∀ x ∈ R, Fit x by rw [← hR]; exact roots_fit HD.out)
  replace d0 := keep hb d0
  replace d1 := keep hb d1
  replace d2 := keep hb d2
  replace d3 := keep hb d3
  have hwl : w.heap.size < w5.heap.size := World.block_lt_of_cell? _ _ d0
  clear ho hb hR HM0
  go_wp2
  go_loopw [5] (fun v wr => ∃ k : Nat, k ≤ R.length ∧ v = .int .i64 (k : Int) ∧ OwnsB wr w.heap.size (.slice (some ⟨G, 0, none⟩) N N) (seenL N (R.take k)) ∧ OwnsI wr w4.heap.size (.slice rA R.length rc) R ∧ Below w.heap.size w wr ∧ wr.cell? ⟨w.heap.size, 0, none⟩ = some (.int .i64 n.1) ∧ wr.cell? ⟨w.heap.size, 1, none⟩ = some (.slice mA1 (n.2.1).length mc1) ∧ wr.cell? ⟨w.heap.size, 2, none⟩ = some (.slice mA2 (n.2.2.1).length mc2) ∧ wr.cell? ⟨w.heap.size, 3, none⟩ = some (.slice mA3 (n.2.2.2).length mc3)) (fun v _ => R.length - (intOf v).toNat)
  case atStart => exact ⟨0, Nat.zero_le _, rfl, HM5.out, HR.out, HB5.out, d0, d1, d2, d3⟩
  case round =>
    obtain ⟨k, hk, rfl, hm, hr, hb, c0, c1, c2, c3⟩ := hrel
    obtain ⟨w6, rfl⟩ : ∃ w6, w6 = wr := ⟨_, rfl⟩
    clear HM5 HR HB5 d0 d1 d2 d3 hwl
    have HM := Lib.hid hm
    have HR := Lib.hid hr
    have HB := Lib.hid hb
    have C := Lib.hid (And.intro c0 (And.intro c1 (And.intro c2 c3)))
    clear hm hr hb
    have hslen : (seenL N (R.take k)).length = N := seenL_len _ _
    by_cases hlt : k < R.length
    · obtain ⟨x, hx⟩ : ∃ x, R[k]? = some x := ⟨_, List.getElem?_eq_getElem hlt⟩
      obtain ⟨l, rfl, hl⟩ := HRP.out k x hx
      obtain ⟨p, hp⟩ : ∃ p, l / 2 = p := ⟨_, rfl⟩
      rw [hp] at hl
      have HST := Lib.hid (seenL_step (N := N) hx)
      have HPP := Lib.hid hp
      obtain ⟨A2, c2', e2, hsh⟩ := HR.out.shape
      injection e2 with e3 e4 e5
      obtain ⟨g, hg, xc, -⟩ := hsh k hlt
      rw [← e3] at hg
      subst hg
      rw [List.getD_eq_getElem?_getD, hx] at xc
      replace xc : w6.cell? ⟨g, k, none⟩ = some (.int .i64 (l : Int)) := xc
      have xf := HRF.out _ (List.mem_of_getElem? hx)
      unfold Fit at xf
      have gr := (HR.out.lt g rfl)
      have gne : g ≠ G := by omega
      have sp := HM.out.shapeN hslen hl
      have p0 := sp.1
      have p1 := sp.2
      have hpx : ((l : Int) / 2) = (p : Int) := by omega
      have hpt : ((l : Int).tdiv 2) = (p : Int) := by rw [tdiv2, hp]
      have hpw : IntKind.i64.wrap (p : Int) = (p : Int) := wrap64_int _ (by omega) (by omega)
      have tpN : (p : Int) < (N : Int) := by omega
      have tk : (k : Int) < (R.length : Int) := by omega
      clear hx hp hsh e3 e5 sp c0 c1 c2 c3
      go_wp2
      go_roundw
      case rel =>
        have h3 := OwnsB.set HM.out hslen hl true
        have e := HST.out
        rw [HPP.out] at e
        have h4 := ownI_far (g := G) (k := p) (u := .bool true) HR.out (by intro e; injection e with e; exact gne e)
        have cf : ∀ i v, w6.cell? ⟨w.heap.size, i, none⟩ = some v → _ := fun i v h => (World.cell?_setCell_other _ ⟨G, p, none⟩ ⟨w.heap.size, i, none⟩ (.bool true) (by intro e; injection e with e; exact gn0 e)).trans h
        exact ⟨k + 1, by omega, by go_num, by rw [e]; exact h3, h4, bSet (p := ⟨G, p, none⟩) HB.out hGw _, cf _ _ C.out.1, cf _ _ C.out.2.1, cf _ _ C.out.2.2.1, cf _ _ C.out.2.2.2⟩
      case measure => simp [intOf] <;> omega
    · obtain rfl : k = R.length := by omega
      rw [List.take_length] at HM hslen
      clear hlt
      go_wp2_with fail
      refine (specMark_at n (seenL N R) _ _ _ (rdUp good_Net HD.out HB.out) (good_BoolS.wider (by have h := HM.out.rd; exact (show rdBoolS w.heap.size w6.heap.size w6 [.slice (some ⟨G, 0, none⟩) N N] (seenL N R) from h)) (Nat.zero_le _) (Nat.le_refl _)) HP.out (by rw [hslen, HN.out])).mono ?_
      rintro e w7 ⟨v, rfl, ho, hb⟩
      have hls : (markL n (seenL N R)).length = N := by unfold markL; rw [markK_len, hslen]
      have HE := Lib.hid (show markL n (seenL N R) = L by rw [← HX.out, reach_yes HF.out, HN.out, HRR.out])
      obtain ⟨G2, gc2, rfl⟩ : ∃ G gc, v = .slice (some ⟨G, 0, none⟩) N gc := by
        rcases ho.2 with ⟨e, h0⟩ | ⟨g, cap, cur, e, _⟩
        · omega
        · exact ⟨g, cap, by rw [e, hls]⟩
      have HO := Lib.hid ho
      have HB7 := Lib.hid (bThen HB.out hb)
      clear ho hb hls
      go_wp2
      go_ret
      rw [← HE.out]
      exact ⟨_, rfl, OwnsB.lower HO.out HB.out.size, HB7.out⟩
end Go.Proofs.Ytedamhkcblemdaa
/- Back: slices.Backward over a slice of AND nodes: the iterator's contract. -/
namespace Go.Proofs.Ytedamhkcblemdaa
open Go.RowKit
set_option linter.unusedVariables false
set_option linter.unusedSimpArgs false

attribute [local go_sem] Oper.semAt_some

/-- The rounds of A elements: the last element first. -/
abbrev Rnd (A : Nat) : Type := { j : Nat // j < A }
def rnds (A : Nat) : List (Rnd A) := (List.finRange A).map fun j => ⟨j.1, j.2⟩
theorem rnds_len (A : Nat) : (rnds A).length = A := by simp [rnds]
theorem rnds_at {A k : Nat} (hk : k < A) : (rnds A)[k]? = some ⟨k, hk⟩ := by
  unfold rnds
  rw [List.getElem?_map, List.getElem?_eq_getElem (by simp; exact hk)]
  simp
theorem rnds_step {A k : Nat} (hk : k < A) : (rnds A).take (k + 1) = (rnds A).take k ++ [⟨k, hk⟩] := by
  rw [List.take_add_one, rnds_at hk]; rfl
/-- What a round is handed. -/
def backV (L : List DAnd) (x : Rnd L.length) : Array Value := #[.int .i64 ((L.length : Int) - 1 - x.1), .agg #[.int .i64 (L.getD (L.length - 1 - x.1) (0, 0)).1, .int .i64 (L.getD (L.length - 1 - x.1) (0, 0)).2]]
/-- What the rounds keep: what lay below n, and the block b. -/
def KeepB (n b : Nat) (W W' : World) : Prop := Below n W W' ∧ W'.heap[b]? = W.heap[b]?
theorem keepB_t {n b : Nat} {X Y Z : World} (h : KeepB n b X Y) (k : KeepB n b Y Z) : KeepB n b X Z := ⟨h.1.trans k.1, k.2.trans h.2⟩
theorem keepB_b {n b : Nat} {w : World} (hn : n ≤ w.heap.size) (hb : b < w.heap.size) (W : World) (l : Nat) (o o' : Obj) (hl : w.heap.size ≤ l) (h : W.heap[l]? = some o) (h1 : o.isCells = false) (h2 : o.isWalk = false) : KeepB n b W (W.putObj l o') :=
  ⟨belowK_b hn W l o o' hl h h1 h2, World.putObj_heap_other (by omega)⟩
theorem KeepB.cell {n b : Nat} {W W' : World} (h : KeepB n b W W') {v : Value} {i : Nat} (hc : W.cell? ⟨b, i, none⟩ = some v) : W'.cell? ⟨b, i, none⟩ = some v := (World.cell?_of_block (w := W) (w' := W') (a := ⟨b, i, none⟩) h.2).trans hc
set_option maxHeartbeats 1000000 in
theorem backward_at (A : Option Addr) (len cap : Nat) (w : World) :
    Calls Try.prog 135 #[.slice A len cap] w fun e w' => e = .returned (.func (.func 136) #[] #[.pointer (some ⟨w.heap.size, 0, none⟩)]) ∧ w' = w.alloc (.cells #[.slice A len cap] 34) := by
  go_enter Try.func135, Try.ntmps135
  go_wp2
  go_ret
  exact ⟨rfl, rfl⟩
set_option maxRecDepth 100000 in
set_option maxHeartbeats 4000000 in
theorem back1_in (F : Fence) (n : Nat) (h8 : F.fn 136) (hro : F.round = none) (hn : 1 ≤ n) (l Bs n0 : Nat) (A : Option Addr) (cap : Nat) (L : List DAnd) (hl : L.length ≤ 1000) (J Jx : List (Rnd L.length) → World → Prop)
    (hY : ∀ pre x W, J pre W → pre.length < L.length → YieldAt F (n - 1) Try.prog l (backV L x) W fun e W' =>
      (e = .returned (.bool true) ∧ J (pre ++ [x]) W' ∧ KeepB n0 Bs W W') ∨ (e = .returned (.bool false) ∧ Jx (pre ++ [x]) W'))
    (W : World) (hBs : W.cell? ⟨Bs, 0, none⟩ = some (.slice A L.length cap)) (hr : rdAndS 0 n0 W [.slice A L.length cap] L) (h0 : J [] W) :
    CallsIn F n Try.prog 136 #[.func (.yield l) #[] #[], .pointer (some ⟨Bs, 0, none⟩)] W fun e W' => (∃ v, e = .returned v) ∧
      ((∃ ys, ys = rnds L.length ∧ J ys W') ∨ (∃ pre, True ∧ Jx pre W')) := by
  have HR := Lib.hid hr
  have HY := Lib.hid hY
  clear hr hY
  refine callsIn_of_wp Try.func136 rfl h8 ?_ hro
  simp only [Try.ntmps136, List.size_toArray, List.length_cons, List.length_nil, Nat.reduceAdd, Nat.reduceSub, Array.replicate_succ, Array.replicate_zero, List.push_toArray, List.append_toArray, List.nil_append, List.cons_append]
  gi_wp2
  gi_loopw [3] (fun v wr => ∃ k : Nat, k ≤ L.length ∧ v = .int .i64 ((L.length : Int) - 1 - k) ∧ J ((rnds L.length).take k) wr ∧ KeepB n0 Bs W wr)
    (fun v _ => (intOf v + 1).toNat)
  case atStart => exact ⟨0, Nat.zero_le _, by simp, h0, Below.refl _ _, rfl⟩
  case round =>
    obtain ⟨k, hk, rfl, hJs, hnx⟩ := hrel
    have hb := hnx.cell hBs
    by_cases hlt : k < L.length
    · obtain ⟨fn, tmps, assign, body, hy, hR⟩ := HY.out _ ⟨k, hlt⟩ wr hJs (by rw [List.length_take, rnds_len]; omega)
      obtain ⟨i, hi⟩ : ∃ i, L.length - 1 - k = i := ⟨_, rfl⟩
      have hil : i < L.length := by omega
      have hie : ((L.length : Int) - 1 - k) = (i : Int) := by omega
      have hd : L.getD (L.length - 1 - k) (0, 0) = L[i] := by rw [hi, List.getD_eq_getElem?_getD, List.getElem?_eq_getElem hil]; rfl
      obtain ⟨b, q, rfl, hb1, x0, -, x1, -⟩ := at_And (good_AndS _ _ _ _ _ _ _ _ HR.out (Nat.le_refl _) (Nat.le_refl _) (fun b _ hb => hnx.1.block b hb)) (List.getElem?_eq_getElem hil)
      obtain ⟨x, hx⟩ : ∃ x, L[i].1 = x := ⟨_, rfl⟩
      obtain ⟨y, hyy⟩ : ∃ y, L[i].2 = y := ⟨_, rfl⟩
      rw [hx] at x0
      rw [hyy] at x1
      unfold backV at hy
      dsimp only at hy
      rw [hd, hx, hyy, hie] at hy
      rw [hie]
      have ti : (i : Int) < (L.length : Int) := by omega
      have HK := Lib.hid hnx
      have HI := Lib.hid hi
      clear hnx hJs hd hx hyy hi hie hb1
      gi_wp2
      refine hR.mono ?_
      rintro e W3 (⟨rfl, hJ3, hk3⟩ | ⟨rfl, hJx3⟩)
      · have HJ := Lib.hid (show J ((rnds L.length).take (k + 1)) W3 by rw [rnds_step hlt]; exact hJ3)
        have HK3 := Lib.hid (keepB_t HK.out hk3)
        clear hJ3 hk3 x0 x1 hb
        gi_wp2
        go_roundw
        case rel => exact ⟨k + 1, by omega, by have := HI.out; go_num, HJ.out, HK3.out⟩
        case measure => simp [intOf] <;> omega
      · clear x0 x1 hb
        gi_wp2
        refine bodyPost_ret (results_none rfl _ _ _) rfl ?_
        exact ⟨⟨_, rfl⟩, .inr ⟨_, trivial, hJx3⟩⟩
    · obtain rfl : k = L.length := by omega
      have HJ := Lib.hid (show J (rnds L.length) wr by rw [← List.take_length (l := rnds L.length), rnds_len]; exact hJs)
      clear hJs hnx hb
      gi_wp2
      go_end0
      exact ⟨⟨_, rfl⟩, .inl ⟨_, rfl, HJ.out⟩⟩
theorem back_stops (F : Fence) (n : Nat) (h8 : F.fn 136) (hro : F.round = none) (hn : 1 ≤ n) (Bs n0 : Nat) (A : Option Addr) (cap : Nat) (L : List DAnd) (hl : L.length ≤ 1000)
    (w : World) (hB : Bs < w.heap.size) (hn0 : n0 ≤ w.heap.size) (hc : w.cell? ⟨Bs, 0, none⟩ = some (.slice A L.length cap)) (hr : rdAndS 0 n0 w [.slice A L.length cap] L) :
    SeqStopsK F n Try.prog 136 #[.pointer (some ⟨Bs, 0, none⟩)] (backV L) (KeepB n0 Bs) (fun ys => ys = rnds L.length) (fun _ => True) L.length w := fun l J Jx W hW _ _ hY h0 =>
  back1_in F n h8 hro hn l Bs n0 A cap L hl J Jx hY W ((hW.cell (p := ⟨Bs, 0, none⟩) hB).trans hc) (good_AndS _ _ _ _ _ _ _ _ hr (Nat.le_refl _) (Nat.le_refl _) (fun b _ hb => hW.block b (Nat.lt_of_lt_of_le hb hn0))) h0
end Go.Proofs.Ytedamhkcblemdaa
/- Lift: Regions that draw their order in the round of a range over a function: as anywhere, at the wide fence. -/
namespace Go.Proofs.Ytedamhkcblemdaa
open Go.RowKit
set_option linter.unusedVariables false

/-- The normal way alone. -/
def OnlyN (Q : Exit → Act → World → Prop) : Exit → Act → World → Prop
  | .normal, a, w => Q .normal a w
  | _, _, _ => False
theorem OnlyN.normal {Q : Exit → Act → World → Prop} {a : Act} {w : World} (h : Q .normal a w) : OnlyN Q .normal a w := h
theorem OnlyN.imp {Q : Exit → Act → World → Prop} : ∀ (e : Exit) (a : Act) (w : World), OnlyN Q e a w → Q e a w := fun e a w h => by
  cases e <;> first | exact h | exact (h : False).elim
def noDefer (ops : Array Oper) : Bool := ops.all fun o => match o.op with | .defer _ => false | _ => true
section
variable {P : Program} {ops : Array Oper} {Q : Exit → Act → World → Prop} {S : World → Prop} {l m : Nat}
theorem opLift {o : Oper} {a : Act} {w : World} {next : Act → World → Prop} (hd : ∀ c, o.op ≠ .defer c) (h : Oper.wp P o a w next Q) : Oper.wpIn (Fence.wide.inRound l) m P o a w next Q := by
  refine ⟨fun _ _ => trivial, ?_⟩
  rw [Fence.inRound_round, Oper.semAt_some l _ _ hd]
  unfold Oper.wp at h
  generalize (execOp a.eval o).run P w = r at h ⊢
  cases r with
  | halt x w' => cases x <;> first | exact h | exact (h : False).elim
  | ok x w' =>
    cases x with
    | value v => exact h
    | skip => exact h
    | defer d => exact h
    | enter f args => exact ⟨(fun h' => by cases h'), CallsIn.inRound l (callsIn_wide.2 h)⟩
    | row row args => exact ⟨(fun h' => by cases h'), fun c cs _ => let ⟨v, w'', r, s⟩ := (h : Rows P row args w' _) c cs; ⟨v, w'', r, stepsIn_wide.2 s⟩⟩
    | _ => exact (h : False).elim
theorem wpAnyLift (hd : noDefer ops = true) (hQ : ∀ a w, ¬ Q .outgrown a w) : ∀ (f : Nat) (L : Array Bool) (a : Act) (w : World), wpAny P .any ops Q f L a w → wpAnyIn (Fence.wide.inRound l) m P .any ops Q f L a w := by
  intro f
  induction f with
  | zero => intro L a w h; exact h
  | succ f ih =>
    intro L a w h
    refine ⟨h.1, fun i hi => ?_⟩
    have h2 := h.2 i hi
    unfold wpOp at h2
    unfold wpOpIn
    cases ho : ops[i]? with
    | none => rw [ho] at h2; exact ih _ _ _ h2
    | some o =>
      rw [ho] at h2
      dsimp only at h2 ⊢
      have hm : o ∈ ops := Array.mem_of_getElem? ho
      have hdo : ∀ c, o.op ≠ .defer c := fun c e => by
        have h3 := Array.all_eq_true'.1 hd o hm
        rw [e] at h3; cases h3
      by_cases hw : Region.wanted o (yielded ops a.tmps) = true
      · rw [if_pos hw] at h2 ⊢
        rcases h2 with h2 | ⟨_, h2⟩
        · exact Oper.wpIn_mono (fun a w h => ih _ a w h) (opLift hdo h2)
        · obtain ⟨a', w', h3⟩ := h2
          exact absurd h3 (hQ a' w')
      · rw [if_neg hw] at h2 ⊢
        exact ⟨fun _ _ => trivial, ih _ _ _ h2⟩
theorem wpIn_region_kept {id : Nat} {a : Act} {w : World} (n N : Nat) (S : World → Prop) (hm : P.follows .mixedOrders = true) (hN : ops.size = N) (hd : noDefer ops = true) (hS : S w.drew) (h : S w.drew → Kept P .any ops (OnlyN Q) S n N (Array.replicate N false) a w.drew) :
    (Code.region id ops true).wpIn (Fence.wide.inRound l) m P Q a w := by
  subst hN
  refine wpIn_mono (Q := OnlyN Q) (wpIn_region_any hm (wpAnyLift hd (fun _ _ h => h) _ _ _ _ (wpKept.any _ _ _ _ (h hS ⟨by simp, fun j oj _ hl => (by rw [getD_replicate_false] at hl; cases hl), fun t _ ht => getD_in (by simpa using ht) (getD_replicate_false _ _)⟩)))) OnlyN.imp
end
end Go.Proofs.Ytedamhkcblemdaa
/- Net12: The cones of nodes: the program. -/
namespace Go.Proofs.Ytedamhkcblemdaa
open Go.RowKit
set_option linter.unusedVariables false
set_option linter.unusedSimpArgs false

attribute [local go_sem] Oper.semAt_some

theorem calls_marks {P : Program} (n : Nat) {f : FuncId} {fn : Func} {c : Code} {args : Array Value} {w : World} {R : Ending → World → Prop} (hf : P.funcs[f]? = some fn) (hb : fn.body = some c)
    (h : c.wp P (bodyPostM Fence.wide n P fn R) { tmps := args ++ Array.replicate (fn.ntmps - args.size) undef, defers := [] } w) : Calls P f args w R :=
  callsIn_wide.1 (callsIn_of_wp_marks (n := n) hf hb trivial (wpIn_wide.2 h) rfl)
/-- The law of a range over a function whose loop variable is boxed: the frame of a round in the words of the frame ahead of it. -/
theorem rangeBox {F : Fence} {n : Nat} {P : Program} {α : Type} {g : Operand} {ps : Array Tmp} {assign body : Code} {Q : Exit → Act → World → Prop} {a : Act} {w : World}
    (hro : F.round = none) (h1 : 1 ≤ n) {gf : Nat} {lb : Array Value} (hg : a.eval g = .func (.func gf) #[] lb) (hFg : F.fn gf) (eg : ∀ args w, (callFunc gf args).run P w = .ok (.enter gf args) w)
    {encs : α → Array Value} {Kp : World → World → Prop} {S Sp : List α → Prop} {N : Nat} {w0 : World} (hseq : SeqStopsK F (n - 1) P gf lb encs Kp S Sp N w0)
    (hKt : ∀ {A B C : World}, Kp A B → Kp B C → Kp A C) (hKb : ∀ (W : World) (l : Nat) (o o' : Obj), w.heap.size ≤ l → W.heap[l]? = some o → o.isCells = false → o.isWalk = false → Kp W (W.putObj l o')) (hb0 : Below w0.heap.size w0 w) (hps : ∀ x, (encs x).size = ps.size)
    (I : List α → World → Prop) (hI : OwnFrom w.heap.size I) (h0 : I [] w) (bx : α → Nat → World → Prop) (hbx : ∀ x b, OwnFrom w.heap.size (fun (_ : Unit) W => bx x b W)) (setA : Array Value → α → Nat → Array Value)
    (hassign : ∀ (l : Nat) (pre : List α) (x : α) (W : World) (K : Act → World → Prop), I pre W → (∀ b W', KeepsFrom w.heap.size W W' → Kp W W' → I pre W' → bx x b W' → K { tmps := setA a.tmps x b, defers := [] } W') →
      assign.wpIn (F.inRound l) (n - 1 - 1) P (Exit.then K (fun _ _ _ => False)) { tmps := (ps.zip (encs x)).foldl (fun t (p, v) => t.setIfInBounds p v) a.tmps, defers := [] } W)
    (hbody : ∀ (l : Nat) (pre : List α) (x : α) (b : Nat) (W : World), I pre W → bx x b W → pre.length < N → body.wpIn (F.inRound l) (n - 1 - 1) P (ownPostG w.heap.size Kp I (fun _ _ _ => False) (pre ++ [x]) W) { tmps := setA a.tmps x b, defers := [] } W)
    (hdone : ∀ (D : Nat) (xs : List α) (W : World), w.heap.size ≤ D → S xs → I xs W → W.heap[D]? = some (.deferred (some [])) → Q .normal { a with defers := { target := .collected D, args := #[] } :: a.defers } W) :
    (Code.rangeFunc g ps assign body).wpIn F n P Q a w := by
  refine wpIn_rangeFunc_ownH hro h1 hg hFg eg hseq hKt hKb hb0 hps I (fun _ _ _ => False) hI (fun _ _ _ _ _ hs _ _ => hs) h0 (fun x a' W => ∃ b, bx x b W ∧ a' = { tmps := setA a.tmps x b, defers := [] }) ?_ ?_ ?_ hdone (fun _ _ _ _ _ _ h _ => h.elim)
  · rintro x a' s W W' row ⟨b, hb, he⟩ hg hr
    exact ⟨b, hbx x b () W W' row hb hg hr, he⟩
  · intro l pre x W K hi hK
    exact hassign l pre x W K hi fun b W' h1 h2 h3 h4 => hK _ W' h1 h2 h3 ⟨b, h4, rfl⟩
  · rintro l pre x a' W - - hi ⟨b, hb, rfl⟩ hlt
    exact hbody l pre x b W hi hb hlt
theorem bThen' {B : Nat} {a w1 w2 : World} (h : Below B a w1) (hB : B ≤ a.heap.size) (hs : a.heap.size ≤ w1.heap.size) (k : Below w1.heap.size w1 w2) : Below B a w2 := h.trans (k.mono (Nat.le_trans hB hs))
theorem keeps_below {W W' : World} (h : Below W.heap.size W W') : KeepsOthers W W' := ⟨h.size, fun k o hk _ => (h.block k (Array.getElem?_eq_some_iff.1 hk).1).trans hk⟩
theorem ownsB_own {β : Type} (B : Nat) (v : Value) (f : β → List Bool) : Own (fun s W => OwnsB W B v (f s)) := by
  intro s X Y row h hg hrow
  refine World.ownsRow.kept h (row := row) hg ?_
  rcases h.2 with ⟨rfl, _⟩ | ⟨g, cap, cur, rfl, _, hgb, _⟩
  · exact .inl rfl
  · refine .inr (fun e => ?_)
    obtain ⟨o, ho, hc⟩ := hrow g e.symm
    rw [hgb] at ho; cases ho; cases hc
/-- The marks M, spread from the AND node of round j. -/
def stepM (n : DNet) (M : List Bool) (j : Nat) : List Bool := match n.2.2.1[n.2.2.1.length - 1 - j]? with
  | some a => if M.getD (firN n + (n.2.2.1.length - 1 - j)) false then (M.set (a.1.toNat / 2) true).set (a.2.toNat / 2) true else M
  | none => M
theorem markK_stepM (n : DNet) (M : List Bool) (j : Nat) : markK n M (j + 1) = stepM n (markK n M j) j := rfl
theorem stepM_len (n : DNet) (M : List Bool) (j : Nat) : (stepM n M j).length = M.length := by
  unfold stepM
  split
  · split <;> simp
  · rfl
def foldM (n : DNet) (M : List Bool) (xs : List (Rnd n.2.2.1.length)) : List Bool := xs.foldl (fun M x => stepM n M x.1) M
theorem foldM_add (n : DNet) (M : List Bool) (xs : List (Rnd n.2.2.1.length)) (x : Rnd n.2.2.1.length) : foldM n M (xs ++ [x]) = stepM n (foldM n M xs) x.1 := by simp [foldM]
theorem foldM_len (n : DNet) (xs : List (Rnd n.2.2.1.length)) : ∀ M : List Bool, (foldM n M xs).length = M.length := by
  unfold foldM
  induction xs with
  | nil => intro M; rfl
  | cons x xs ih => intro M; rw [List.foldl_cons, ih, stepM_len]
theorem foldM_take (n : DNet) (M : List Bool) : ∀ k, k ≤ n.2.2.1.length → foldM n M ((rnds n.2.2.1.length).take k) = markK n M k
  | 0, _ => by simp [foldM, markK]
  | k + 1, h => by rw [rnds_step (by omega), foldM_add, foldM_take n M k (by omega), markK_stepM]
theorem foldM_all (n : DNet) (M : List Bool) : foldM n M (rnds n.2.2.1.length) = markL n M := by
  have h := foldM_take n M n.2.2.1.length (Nat.le_refl _)
  rw [List.take_of_length_le (by rw [rnds_len]; exact Nat.le_refl _)] at h
  exact h
theorem stepM_hit {n : DNet} {M : List Bool} {j i x y : Nat} (hi : n.2.2.1.length - 1 - j = i) (h : n.2.2.1[i]? = some ((x : Int), (y : Int))) (hb : M.getD (firN n + i) false = true) : stepM n M j = (M.set (x / 2) true).set (y / 2) true := by
  unfold stepM; rw [hi, h]; simp only [hb, if_true, Int.toNat_natCast]
theorem stepM_miss {n : DNet} {M : List Bool} {j i : Nat} {a : DAnd} (hi : n.2.2.1.length - 1 - j = i) (h : n.2.2.1[i]? = some a) (hb : M.getD (firN n + i) false = false) : stepM n M j = M := by
  unfold stepM; rw [hi, h]; simp only [hb, Bool.false_eq_true, if_false]
/-- The nodes P marked. -/
def setsL (N : Nat) (P : List Int) : List Bool := P.foldl (fun M x => M.set x.toNat true) (List.replicate N false)
theorem setsL_len (N : Nat) (P : List Int) : (setsL N P).length = N := by
  unfold setsL
  suffices ∀ (P : List Int) (M : List Bool), (P.foldl (fun M x => M.set x.toNat true) M).length = M.length by rw [this]; simp
  intro P
  induction P with
  | nil => intro M; rfl
  | cons r P ih => intro M; rw [List.foldl_cons, ih, List.length_set]
theorem setsL_step {N : Nat} {P : List Int} {k p : Nat} (h : P[k]? = some (p : Int)) : setsL N (P.take (k + 1)) = (setsL N (P.take k)).set p true := by
  unfold setsL
  rw [List.take_add_one, h, List.foldl_append]
  simp
theorem sets_nodes (N : Nat) (R : List Int) : setsL N (nodesL R) = seenL N R := by
  unfold setsL nodesL seenL
  rw [List.foldl_map]
  congr 1
set_option maxRecDepth 100000 in
set_option maxHeartbeats 12800000 in
theorem inCones_at (n : DNet) (P : List Int) (us : List Value) (v : Value) (w : World) (h : rdNet 0 w.heap.size w us n) (hv : rdIntS 0 w.heap.size w [v] P) (hP : NetP n) (hin : ∀ (k : Nat) (x : Int), P[k]? = some x → ∃ p : Nat, x = (p : Int) ∧ p < netN n) {N : Nat} (hN : netN n = N) :
    Calls Try.prog 120 #[.agg us.toArray, v] w fun e w' => ∃ g, e = .returned (.slice (some ⟨g, 0, none⟩) N N) ∧ OwnsB w' w.heap.size (.slice (some ⟨g, 0, none⟩) N N) (markL n (setsL N P)) ∧ Below w.heap.size w w' := by
  obtain ⟨iB, hiB, hzB0, hzB1, hzB2⟩ := info_parts infoB
  have HD := Lib.hid h
  have HP := Lib.hid hP
  have HSP := Lib.hid hP.sz
  have a300 := hP.sz.a300
  have hN3 : N ≤ 333 ∧ 1 ≤ N := by rw [← hN]; exact hP.sz.net_le
  have HNC := Lib.hid (show ncI n = (N : Int) by rw [hP.sz.nc, hN])
  have HN := Lib.hid hN
  have HIN := Lib.hid hin
  clear hP hN hin
  obtain ⟨mu0, mu1, mu2, mu3, rfl, mh0, mh1, mh2, mh3⟩ := h
  obtain ⟨me0, -⟩ := mh0
  injection me0 with me0
  subst me0
  obtain ⟨mA1, mc1, me1, mm1, -⟩ := slice_of mh1
  subst me1
  have mR1 := Lib.hid mh1
  clear mh1
  obtain ⟨mA2, mc2, me2, mm2, -⟩ := slice_of mh2
  subst me2
  have mR2 := Lib.hid mh2
  clear mh2
  obtain ⟨mA3, mc3, me3, mm3, -⟩ := slice_of mh3
  subst me3
  have mR3 := Lib.hid mh3
  clear mh3
  obtain ⟨vA, vc, rfl, vm, -⟩ := slice_of hv
  have HV := Lib.hid hv
  clear hv
  refine calls_marks 6 Try.func120 rfl ?_
  simp only [Try.ntmps120, List.size_toArray, List.length_cons, List.length_nil, Nat.reduceAdd, Nat.reduceSub, Array.replicate_succ, Array.replicate_zero, List.push_toArray, List.append_toArray, List.nil_append, List.cons_append]
  go_wp2_with fail
  obtain ⟨W0, hV⟩ : ∃ W0, W0 = (w.alloc (.cells #[.int .i64 n.1, .slice mA1 (n.2.1).length mc1, .slice mA2 (n.2.2.1).length mc2, .slice mA3 (n.2.2.2).length mc3] 36)) := ⟨_, rfl⟩
  rw [← hV]
  have gN := eqbox1 hV
  have d0 : W0.cell? ⟨w.heap.size, 0, none⟩ = some (.int .i64 n.1) := box_cell gN.1 0 _ rfl
  have d1 : W0.cell? ⟨w.heap.size, 1, none⟩ = some (.slice mA1 (n.2.1).length mc1) := box_cell gN.1 1 _ rfl
  have d2 : W0.cell? ⟨w.heap.size, 2, none⟩ = some (.slice mA2 (n.2.2.1).length mc2) := box_cell gN.1 2 _ rfl
  have d3 : W0.cell? ⟨w.heap.size, 3, none⟩ = some (.slice mA3 (n.2.2.2).length mc3) := box_cell gN.1 3 _ rfl
  have sW0 : W0.heap.size = w.heap.size + 1 := by rw [hV]; simp
  have HW0 := Lib.hid gN.2
  clear hV gN
  have HE0 := Lib.hid d0
  have HE1 := Lib.hid d1
  have HE2 := Lib.hid d2
  have HE3 := Lib.hid d3
  refine (implNc_at n _ _ (rdUp good_Net HD.out HW0.out) (Nat.le_refl _) HNC.out).mono ?_
  rintro e w3 ⟨rfl, hb⟩
  replace d0 := keep hb d0
  replace d1 := keep hb d1
  replace d2 := keep hb d2
  replace d3 := keep hb d3
  have HB3 := Lib.hid (bThen HW0.out hb)
  have HB03 := Lib.hid hb
  have lt03 : w.heap.size < w3.heap.size := World.block_lt_of_cell? _ _ d0
  clear hb
  go_wp2_with (at_make; refine wpList_make_full _ rfl _ _ 82 rfl w3.heap.size 4 iB (.bool false) 1 Try.underlying82 hiB hzB0 hzB1 .i64 .i64 (N : Int) (N : Int) N rfl rfl rfl rfl (by rw [hzB2]; omega) (by unfold maxLen; omega) (Nat.le_refl _) ?_; intro w4 hown1 hgrow1; replace d0 := grownC hgrow1 d0 (by intro e; cases e); replace d1 := grownC hgrow1 d1 (by intro e; cases e); replace d2 := grownC hgrow1 d2 (by intro e; cases e); replace d3 := grownC hgrow1 d3 (by intro e; cases e))
  obtain ⟨W1, hV⟩ : ∃ W1, W1 = w4.alloc (.cells #[.slice (some ⟨w3.heap.size, 0, none⟩) N N] 82) := ⟨_, rfl⟩
  rw [← hV]
  have gN := eqbox1 hV
  have hz := own_makeB hown1
  have hb : Below w3.heap.size w3 w4 := (Below.refl _ _).grown hgrow1 (Nat.le_refl _) (by intro g hg; cases hg)
  have i0 : W1.cell? ⟨w4.heap.size, 0, none⟩ = some (.slice (some ⟨w3.heap.size, 0, none⟩) N N) := box_cell gN.1 0 _ rfl
  have gl := hz.ltN.1
  have HM0 := Lib.hid (show OwnsB W1 w.heap.size (.slice (some ⟨w3.heap.size, 0, none⟩) N N) (List.replicate N false) from (OwnsB.lower hz HB3.out.size).below gN.2)
  have HB1 := Lib.hid (bThen (bThen HB3.out hb) gN.2)
  replace d0 := keep gN.2 d0
  replace d1 := keep gN.2 d1
  replace d2 := keep gN.2 d2
  replace d3 := keep gN.2 d3
  obtain ⟨G, hG⟩ : ∃ G, w3.heap.size = G := ⟨_, rfl⟩
  obtain ⟨Bi, hBi⟩ : ∃ Bi, w4.heap.size = Bi := ⟨_, rfl⟩
  rw [hG] at HM0 i0 gl lt03 ⊢
  rw [hBi] at i0 gl ⊢
  clear hV gN hz hb hown1 hgrow1 hG hBi
  go_loopw [15] (fun x wr => ∃ k : Nat, k ≤ P.length ∧ x = .int .i64 (k : Int) ∧ OwnsB wr w.heap.size (.slice (some ⟨G, 0, none⟩) N N) (setsL N (P.take k)) ∧ Below w.heap.size w wr ∧ wr.cell? ⟨Bi, 0, none⟩ = some (.slice (some ⟨G, 0, none⟩) N N) ∧ wr.cell? ⟨w.heap.size, 0, none⟩ = some (.int .i64 n.1) ∧ wr.cell? ⟨w.heap.size, 1, none⟩ = some (.slice mA1 (n.2.1).length mc1) ∧ wr.cell? ⟨w.heap.size, 2, none⟩ = some (.slice mA2 (n.2.2.1).length mc2) ∧ wr.cell? ⟨w.heap.size, 3, none⟩ = some (.slice mA3 (n.2.2.2).length mc3)) (fun x _ => P.length - (intOf x).toNat)
  case atStart => exact ⟨0, Nat.zero_le _, rfl, HM0.out, HB1.out, i0, d0, d1, d2, d3⟩
  case round =>
    obtain ⟨k, hk, rfl, hm, hb, i0, c0, c1, c2, c3⟩ := hrel
    obtain ⟨w6, rfl⟩ : ∃ w6, w6 = wr := ⟨_, rfl⟩
    clear HM0 HB1 d0 d1 d2 d3
    have HM := Lib.hid hm
    have HB := Lib.hid hb
    have C := Lib.hid (And.intro i0 (And.intro c0 (And.intro c1 (And.intro c2 c3))))
    have hsl : (setsL N (P.take k)).length = N := setsL_len _ _
    clear hm hb
    by_cases hlt : k < P.length
    · obtain ⟨x, hx⟩ : ∃ x, P[k]? = some x := ⟨_, List.getElem?_eq_getElem hlt⟩
      obtain ⟨p, rfl, hp⟩ := HIN.out k x hx
      rw [HN.out] at hp
      have HST := Lib.hid (setsL_step (N := N) hx)
      obtain ⟨xb, xq, rfl, xlt, xc, xf⟩ := at_Int (good_IntS.below HV.out (Nat.le_refl _) HB.out) hx
      have xlt2 := Nat.lt_of_lt_of_le xlt HB.out.size
      have sp := HM.out.shapeN hsl hp
      have p0 := sp.1
      have p1 := sp.2
      have tpN : (p : Int) < (N : Int) := by omega
      have tk : (k : Int) < (P.length : Int) := by omega
      have HSL := Lib.hid hsl
      clear hx sp xlt xf c0 c1 c2 c3 hsl
      go_wp2
      go_roundw
      case rel =>
        have h3 := OwnsB.set HM.out HSL.out hp true
        have cf : ∀ b i v, b ≠ G → w6.cell? ⟨b, i, none⟩ = some v → _ := fun b i v hne h => (World.cell?_setCell_other _ ⟨G, p, none⟩ ⟨b, i, none⟩ (.bool true) (by intro e; injection e with e; exact hne e.symm)).trans h
        exact ⟨k + 1, by omega, by go_num, by rw [HST.out]; exact h3, bSet (p := ⟨G, p, none⟩) HB.out (by dsimp only; omega) _, cf _ _ _ (by omega) C.out.1, cf _ _ _ (by omega) C.out.2.1, cf _ _ _ (by omega) C.out.2.2.1, cf _ _ _ (by omega) C.out.2.2.2.1, cf _ _ _ (by omega) C.out.2.2.2.2⟩
      case measure => simp [intOf] <;> omega
    · obtain rfl : k = P.length := by omega
      rw [List.take_length] at HM
      obtain ⟨M0, hM0⟩ : ∃ M0, setsL N P = M0 := ⟨_, rfl⟩
      have hml : M0.length = N := by rw [← hM0]; exact setsL_len _ _
      rw [hM0] at HM
      have HM0 := Lib.hid hM0
      have HML := Lib.hid hml
      clear hlt hM0 hml hsl
      go_wp2_with fail
      refine (backward_at _ _ _ _).mono ?_
      rintro e w' ⟨rfl, rfl⟩
      obtain ⟨W2, hV⟩ : ∃ W2, W2 = w6.alloc (.cells #[.slice mA2 n.2.2.1.length mc2] 34) := ⟨_, rfl⟩
      rw [← hV]
      have gN := eqbox1 hV
      have s0 : W2.cell? ⟨w6.heap.size, 0, none⟩ = some (.slice mA2 n.2.2.1.length mc2) := box_cell gN.1 0 _ rfl
      have HM2 := Lib.hid (HM.out.below gN.2)
      have HB2 := Lib.hid (bThen HB.out gN.2)
      have sW2 : W2.heap.size = w6.heap.size + 1 := by rw [hV]; simp
      replace i0 := keep gN.2 i0
      replace c0 := keep gN.2 c0
      replace c1 := keep gN.2 c1
      replace c2 := keep gN.2 c2
      replace c3 := keep gN.2 c3
      have hG6 := HM.out.ltN.1
      have hBi6 : Bi < W2.heap.size := World.block_lt_of_cell? _ _ i0
      obtain ⟨Bs, hBs⟩ : ∃ Bs, w6.heap.size = Bs := ⟨_, rfl⟩
      rw [hBs] at s0 sW2 hG6 ⊢
      have hGs : w.heap.size < Bs := by omega
      clear hV gN hBs HM HB C
      go_wp2
      refine (wpIn_wide (n := 6)).1 ?_
      refine rangeBox (bx := fun x b W => Bs < b ∧ W.cell? ⟨b, 0, none⟩ = some (.int .i64 (n.2.2.1.getD (n.2.2.1.length - 1 - x.1) (0, 0)).1) ∧ W.cell? ⟨b, 1, none⟩ = some (.int .i64 (n.2.2.1.getD (n.2.2.1.length - 1 - x.1) (0, 0)).2))
        (setA := fun t x b => ((((t.setIfInBounds 26 (.int .i64 ((n.2.2.1.length : Int) - 1 - x.1))).setIfInBounds 27 (.agg #[.int .i64 (n.2.2.1.getD (n.2.2.1.length - 1 - x.1) (0, 0)).1, .int .i64 (n.2.2.1.getD (n.2.2.1.length - 1 - x.1) (0, 0)).2])).setIfInBounds 8 (.int .i64 ((n.2.2.1.length : Int) - 1 - x.1))).setIfInBounds 9 (.pointer (some ⟨b, 0, none⟩))))
        (gf := 136) (lb := #[.pointer (some ⟨Bs, 0, none⟩)]) rfl (by omega) rfl trivial (enters_of Try.func136 (by kernel_rfl) rfl)
        (back_stops Fence.wide 5 trivial rfl (by omega) Bs w.heap.size mA2 mc2 n.2.2.1 (by omega) W2 (by omega) (by omega) s0 (good_AndS.below mR2.out (Nat.le_refl _) HB2.out))
        keepB_t (keepB_b (by omega) (by omega)) (Below.refl _ _) (fun _ => rfl)
        (I := fun pre W => (OwnsB W w.heap.size (.slice (some ⟨G, 0, none⟩) N N) (foldM n M0 pre) ∧ W.cell? ⟨Bi, 0, none⟩ = some (.slice (some ⟨G, 0, none⟩) N N) ∧ W.cell? ⟨Bs, 0, none⟩ = some (.slice mA2 n.2.2.1.length mc2) ∧ W.cell? ⟨w.heap.size, 0, none⟩ = some (.int .i64 n.1) ∧ W.cell? ⟨w.heap.size, 1, none⟩ = some (.slice mA1 (n.2.1).length mc1) ∧ W.cell? ⟨w.heap.size, 2, none⟩ = some (.slice mA2 (n.2.2.1).length mc2) ∧ W.cell? ⟨w.heap.size, 3, none⟩ = some (.slice mA3 (n.2.2.2).length mc3)) ∧ Below w.heap.size w W)
        (hI := OwnFrom.and (Own.from (fun s A B row hs hg hr => ⟨ownsB_own _ _ (foldM n M0) s A B row hs.1 hg hr, cell_kept hs.2.1 hg hr, cell_kept hs.2.2.1 hg hr, cell_kept hs.2.2.2.1 hg hr, cell_kept hs.2.2.2.2.1 hg hr, cell_kept hs.2.2.2.2.2.1 hg hr, cell_kept hs.2.2.2.2.2.2 hg hr⟩) _) (ownFrom_below (Nat.le_refl _) (by omega)))
        (h0 := ⟨⟨HM2.out, i0, s0, c0, c1, c2, c3⟩, HB2.out⟩)
        (hbx := fun x b => Own.from (fun s A B row hs hg hr => ⟨hs.1, cell_kept hs.2.1 hg hr, cell_kept hs.2.2 hg hr⟩) _) ?assign ?body ?done
      case assign =>
        rintro l pre x W K ⟨⟨hm, i0, s1, c0, c1, c2, c3⟩, hB⟩ hK
        have hB' := hB
        have hsz := hB.size
        unfold backV
        gi_wp2
        have hba : Below W.heap.size W (W.alloc (.cells #[.int .i64 (n.2.2.1.getD (n.2.2.1.length - 1 - x.1) (0, 0)).1, .int .i64 (n.2.2.1.getD (n.2.2.1.length - 1 - x.1) (0, 0)).2] 67)) := bAlloc (Below.refl _ _) (Nat.le_refl _) _
        have hr := World.alloc_heap_new W (.cells #[.int .i64 (n.2.2.1.getD (n.2.2.1.length - 1 - x.1) (0, 0)).1, .int .i64 (n.2.2.1.getD (n.2.2.1.length - 1 - x.1) (0, 0)).2] 67)
        have lts := World.block_lt_of_cell? _ _ s1
        exact hK W.heap.size _ ((KeepsOthers.alloc _ _).from _) ⟨hba.mono hsz, hba.block Bs lts⟩ ⟨⟨hm.below hba, keep hba i0, keep hba s1, keep hba c0, keep hba c1, keep hba c2, keep hba c3⟩, bThen hB hba⟩ ⟨lts, box_cell hr 0 _ rfl, box_cell hr 1 _ rfl⟩
      case body =>
        rintro l pre x b W ⟨⟨hm, i0, s1, c0, c1, c2, c3⟩, hB⟩ ⟨hb, y0, y1⟩ hlt
        simp only [List.setIfInBounds_toArray, List.set_cons_zero, List.set_cons_succ]
        obtain ⟨j, hjl⟩ := x
        dsimp only at y0 y1 ⊢
        obtain ⟨i, hi⟩ : ∃ i, n.2.2.1.length - 1 - j = i := ⟨_, rfl⟩
        have hil : i < n.2.2.1.length := by omega
        have hie : ((n.2.2.1.length : Int) - 1 - j) = (i : Int) := by omega
        obtain ⟨a, ha⟩ : ∃ a, n.2.2.1[i]? = some a := ⟨_, List.getElem?_eq_getElem hil⟩
        have hd : n.2.2.1.getD (n.2.2.1.length - 1 - j) (0, 0) = a := by rw [hi, List.getD_eq_getElem?_getD, ha]; rfl
        obtain ⟨ab, aq, -, -, -, xf, -, yf⟩ := at_And mR2.out ha
        obtain ⟨x, y, rfl, hx, hy⟩ := HP.out.and_ i a ha
        unfold Fit at xf yf
        dsimp only at xf yf
        have hx63 : x ≤ 9223372036854775807 := by omega
        have hy63 : y ≤ 9223372036854775807 := by omega
        clear xf yf
        rw [hd] at y0 y1
        rw [hd, hie]
        dsimp only at y0 y1 ⊢
        have hfk : firN n + i < N := by rw [← HN.out]; unfold netN; omega
        obtain ⟨MM, hMM⟩ : ∃ MM, foldM n M0 pre = MM := ⟨_, rfl⟩
        have hlen : MM.length = N := by rw [← hMM, foldM_len, HML.out]
        rw [hMM] at hm
        obtain ⟨f, hf⟩ : ∃ f, firN n + i = f := ⟨_, rfl⟩
        obtain ⟨p, hp⟩ : ∃ p, x / 2 = p := ⟨_, rfl⟩
        obtain ⟨q, hq⟩ : ∃ q, y / 2 = q := ⟨_, rfl⟩
        rw [hf] at hfk hx hy
        rw [hp] at hx
        rw [hq] at hy
        obtain ⟨bt, hbt⟩ : ∃ bt, MM.getD f false = bt := ⟨_, rfl⟩
        have HM := Lib.hid hm
        have HBW := Lib.hid hB
        have HMM := Lib.hid hMM
        have HA := Lib.hid ha
        have HI := Lib.hid hi
        have HF := Lib.hid hf
        have HPQ := Lib.hid (And.intro hp hq)
        have HMB := Lib.hid (show MM.getD (firN n + i) false = bt by rw [hf]; exact hbt)
        have HLEN := Lib.hid hlen
        have u0 := (hm.shapeN hlen hfk).1
        rw [hbt] at u0
        have tf : (f : Int) < (N : Int) := by omega
        have hk3 : i ≤ 300 := by omega
        have ltB : Bs < W.heap.size := World.block_lt_of_cell? _ _ s1
        have ltb : b < W.heap.size := World.block_lt_of_cell? _ _ y0
        clear hm hB hMM ha hi hf hp hq hbt hd hie hlen
        gi_wp2
        have hS0 : (fun w' => Below W.heap.size W w' ∧ w'.cell? ⟨Bi, 0, none⟩ = some (.slice (some ⟨G, 0, none⟩) N N) ∧ w'.cell? ⟨w.heap.size, 0, none⟩ = some (.int .i64 n.1) ∧ w'.cell? ⟨w.heap.size, 1, none⟩ = some (.slice mA1 (n.2.1).length mc1) ∧ w'.cell? ⟨w.heap.size, 2, none⟩ = some (.slice mA2 (n.2.2.1).length mc2) ∧ w'.cell? ⟨w.heap.size, 3, none⟩ = some (.slice mA3 (n.2.2.2).length mc3) ∧ w'.cell? ⟨b, 0, none⟩ = some (.int .i64 (x : Int)) ∧ w'.cell? ⟨b, 1, none⟩ = some (.int .i64 (y : Int)) ∧ w'.cell? ⟨Bs, 0, none⟩ = some (.slice mA2 n.2.2.1.length mc2) ∧ w'.cell? ⟨G, f, none⟩ = some (.bool bt)) W := ⟨Below.refl _ _, i0, c0, c1, c2, c3, y0, y1, s1, u0⟩
        have hS : ∀ {w0 w' : World}, (fun w' => Below W.heap.size W w' ∧ w'.cell? ⟨Bi, 0, none⟩ = some (.slice (some ⟨G, 0, none⟩) N N) ∧ w'.cell? ⟨w.heap.size, 0, none⟩ = some (.int .i64 n.1) ∧ w'.cell? ⟨w.heap.size, 1, none⟩ = some (.slice mA1 (n.2.1).length mc1) ∧ w'.cell? ⟨w.heap.size, 2, none⟩ = some (.slice mA2 (n.2.2.1).length mc2) ∧ w'.cell? ⟨w.heap.size, 3, none⟩ = some (.slice mA3 (n.2.2.2).length mc3) ∧ w'.cell? ⟨b, 0, none⟩ = some (.int .i64 (x : Int)) ∧ w'.cell? ⟨b, 1, none⟩ = some (.int .i64 (y : Int)) ∧ w'.cell? ⟨Bs, 0, none⟩ = some (.slice mA2 n.2.2.1.length mc2) ∧ w'.cell? ⟨G, f, none⟩ = some (.bool bt)) w0 → Below w0.heap.size w0 w' → (fun w' => Below W.heap.size W w' ∧ w'.cell? ⟨Bi, 0, none⟩ = some (.slice (some ⟨G, 0, none⟩) N N) ∧ w'.cell? ⟨w.heap.size, 0, none⟩ = some (.int .i64 n.1) ∧ w'.cell? ⟨w.heap.size, 1, none⟩ = some (.slice mA1 (n.2.1).length mc1) ∧ w'.cell? ⟨w.heap.size, 2, none⟩ = some (.slice mA2 (n.2.2.1).length mc2) ∧ w'.cell? ⟨w.heap.size, 3, none⟩ = some (.slice mA3 (n.2.2.2).length mc3) ∧ w'.cell? ⟨b, 0, none⟩ = some (.int .i64 (x : Int)) ∧ w'.cell? ⟨b, 1, none⟩ = some (.int .i64 (y : Int)) ∧ w'.cell? ⟨Bs, 0, none⟩ = some (.slice mA2 n.2.2.1.length mc2) ∧ w'.cell? ⟨G, f, none⟩ = some (.bool bt)) w' := fun h hb => ⟨bThen h.1 hb, keep hb h.2.1, keep hb h.2.2.1, keep hb h.2.2.2.1, keep hb h.2.2.2.2.1, keep hb h.2.2.2.2.2.1, keep hb h.2.2.2.2.2.2.1, keep hb h.2.2.2.2.2.2.2.1, keep hb h.2.2.2.2.2.2.2.2.1, keep hb h.2.2.2.2.2.2.2.2.2⟩
        dsimp only at hS0 hS
        refine wpIn_region_kept 4 6 (fun w' => Below W.heap.size W w' ∧ w'.cell? ⟨Bi, 0, none⟩ = some (.slice (some ⟨G, 0, none⟩) N N) ∧ w'.cell? ⟨w.heap.size, 0, none⟩ = some (.int .i64 n.1) ∧ w'.cell? ⟨w.heap.size, 1, none⟩ = some (.slice mA1 (n.2.1).length mc1) ∧ w'.cell? ⟨w.heap.size, 2, none⟩ = some (.slice mA2 (n.2.2.1).length mc2) ∧ w'.cell? ⟨w.heap.size, 3, none⟩ = some (.slice mA3 (n.2.2.2).length mc3) ∧ w'.cell? ⟨b, 0, none⟩ = some (.int .i64 (x : Int)) ∧ w'.cell? ⟨b, 1, none⟩ = some (.int .i64 (y : Int)) ∧ w'.cell? ⟨Bs, 0, none⟩ = some (.slice mA2 n.2.2.1.length mc2) ∧ w'.cell? ⟨G, f, none⟩ = some (.bool bt)) (by kernel_rfl) rfl (by kernel_rfl) (hS hS0 (Below.drew (Below.refl _ _))) (fun hK0 => ?_)
        refine Kept.take (v := ?vr0) 0 (by kernel_rfl) rfl (by kernel_rfl) (fun _ _ _ h => h) (Or.inl ⟨by rfl, ?hyr0⟩) hK0 ?restr0
        case hyr0 =>
          intro w0 hSw
          (try dsimp only at hSw)
          go_simp
          all_goals (with_reducible rfl)
        (try simp only [Act.put, List.setIfInBounds_toArray, List.set_cons_zero, List.set_cons_succ])
        refine Kept.take (v := ?vr1) 1 (by kernel_rfl) rfl (by kernel_rfl) (fun _ _ _ h => h) (Or.inl ⟨by rfl, ?hyr1⟩) hK0 ?restr1
        case hyr1 =>
          intro w0 hSw
          (try dsimp only at hSw)
          go_simp
          all_goals (with_reducible rfl)
        (try simp only [Act.put, List.setIfInBounds_toArray, List.set_cons_zero, List.set_cons_succ])
        refine Kept.take (v := ?vr2) 2 (by kernel_rfl) rfl (by kernel_rfl) (fun _ _ _ h => h) (Or.inl ⟨by rfl, ?hyr2⟩) hK0 ?restr2
        case hyr2 =>
          intro w0 hSw
          (try dsimp only at hSw)
          go_simp
          all_goals (with_reducible rfl)
        (try simp only [Act.put, List.setIfInBounds_toArray, List.set_cons_zero, List.set_cons_succ])
        refine Kept.rg (sz := 45) (g := 2) [(3, 31)] [] (fun kO vals w' => match kO with
          | 3 => vals 3 = .int .i64 (f : Int)
          | _ => True) (by kernel_rfl) (by kernel_rfl) hK0 (fun _ _ _ h => h) ?hSRr ?hlocr ?hstepr ?hendr
        case hSRr =>
          intro k hk vals w1 w2 h hb
          simp only [List.map_cons, List.map_nil, List.mem_cons, List.not_mem_nil, or_false] at hk
          subst hk
          · exact h
        case hlocr =>
          intro k j hk hj hne hw vals v w1 h
          simp only [List.map_cons, List.map_nil, List.mem_cons, List.not_mem_nil, or_false] at hk hj
          subst hk hj
          exact absurd rfl hne
        case hstepr =>
          intro k t o hm ho vals wA hSA hpre
          simp only [List.mem_cons, List.not_mem_nil, or_false, Prod.mk.injEq] at hm
          obtain ⟨rfl, rfl⟩ := hm
          · have ho' := Option.some.inj ho
            subst ho'
            unfold RgStep
            rw [if_pos (by rfl)]
            intro K hK
            have hSw := hSA
            (try dsimp only at hSw)
            clear hpre
            simp only [fillA, Act.put, List.setIfInBounds_toArray, List.set_cons_zero, List.set_cons_succ]
            go_simp
            go_at_call 72
            refine (andNode_to n i _ _ (rdUp good_Net HD.out (bThen HBW.out hSA.1)) (Nat.le_refl _) HSP.out hk3 HF.out).mono ?_
            rintro e wB ⟨rfl, hb⟩
            have hK' := hK (.int .i64 (f : Int)) wB (hS hSA hb) hb (upd_self _ _ _) (fun h => absurd h (by decide))
            clear hK
            simp only [fillA, Act.put, List.setIfInBounds_toArray, List.set_cons_zero, List.set_cons_succ] at hK'
            go_simp
            all_goals exact hK'
        intro vals wB hSB hR hap
        have e3 : vals 3 = .int .i64 (f : Int) := hR 3 (by decide)
        simp only [fillA, Act.put, List.setIfInBounds_toArray, List.set_cons_zero, List.set_cons_succ]
        simp only [e3]
        clear hap hR e3
        refine Kept.tail (by rfl) (by kernel_rfl) ?_
        simp only [List.drop_succ_cons, List.drop_zero]
        have HBB := Lib.hid hSB.1
        have b0 := hSB.2
        have u1 := b0.2.2.2.2.2.2.2.2
        have HMB2 := Lib.hid (HM.out.below HBB.out)
        clear hSB hS0 hS
        obtain ⟨i0', z0, z1, z2, z3, w0', w1', s1', -⟩ := b0
        clear i0 c0 c1 c2 c3 y0 y1 s1 u0
        go_wp2
        refine OnlyN.normal ?_
        cases bt with
        | false =>
          have HE := Lib.hid (stepM_miss HI.out HA.out HMB.out)
          clear u1
          gi_wp2
          exact ⟨(keeps_below HBB.out).from _, ⟨HBB.out.mono HBW.out.size, HBB.out.block Bs ltB⟩, ⟨by rw [foldM_add, HMM.out, HE.out]; exact HMB2.out, i0', s1', z0, z1, z2, z3⟩, bThen HBW.out HBB.out⟩
        | true =>
          have HE := Lib.hid (stepM_hit HI.out HA.out HMB.out)
          clear u1
          gi_wp2
          have HSP1 := HMB2.out.shapeN HLEN.out (show p < N by omega)
          have sp0 := HSP1.1
          have sp1 := HSP1.2
          have tp : (p : Int) < (N : Int) := by omega
          have tq : (q : Int) < (N : Int) := by omega
          have hBB := HBB.out.size
          have hG1 := HMB2.out.ltN
          clear HSP1
          have hS0 : (fun w' => Below wB.heap.size wB w' ∧ w'.cell? ⟨Bi, 0, none⟩ = some (.slice (some ⟨G, 0, none⟩) N N) ∧ w'.cell? ⟨w.heap.size, 0, none⟩ = some (.int .i64 n.1) ∧ w'.cell? ⟨w.heap.size, 1, none⟩ = some (.slice mA1 (n.2.1).length mc1) ∧ w'.cell? ⟨w.heap.size, 2, none⟩ = some (.slice mA2 (n.2.2.1).length mc2) ∧ w'.cell? ⟨w.heap.size, 3, none⟩ = some (.slice mA3 (n.2.2.2).length mc3) ∧ w'.cell? ⟨b, 0, none⟩ = some (.int .i64 (x : Int)) ∧ w'.cell? ⟨b, 1, none⟩ = some (.int .i64 (y : Int)) ∧ w'.cell? ⟨Bs, 0, none⟩ = some (.slice mA2 n.2.2.1.length mc2) ∧ w'.cell? ⟨G, p, none⟩ = some (.bool (MM.getD p false))) wB := ⟨Below.refl _ _, i0', z0, z1, z2, z3, w0', w1', s1', sp0⟩
          have hS : ∀ {w0 w' : World}, (fun w' => Below wB.heap.size wB w' ∧ w'.cell? ⟨Bi, 0, none⟩ = some (.slice (some ⟨G, 0, none⟩) N N) ∧ w'.cell? ⟨w.heap.size, 0, none⟩ = some (.int .i64 n.1) ∧ w'.cell? ⟨w.heap.size, 1, none⟩ = some (.slice mA1 (n.2.1).length mc1) ∧ w'.cell? ⟨w.heap.size, 2, none⟩ = some (.slice mA2 (n.2.2.1).length mc2) ∧ w'.cell? ⟨w.heap.size, 3, none⟩ = some (.slice mA3 (n.2.2.2).length mc3) ∧ w'.cell? ⟨b, 0, none⟩ = some (.int .i64 (x : Int)) ∧ w'.cell? ⟨b, 1, none⟩ = some (.int .i64 (y : Int)) ∧ w'.cell? ⟨Bs, 0, none⟩ = some (.slice mA2 n.2.2.1.length mc2) ∧ w'.cell? ⟨G, p, none⟩ = some (.bool (MM.getD p false))) w0 → Below w0.heap.size w0 w' → (fun w' => Below wB.heap.size wB w' ∧ w'.cell? ⟨Bi, 0, none⟩ = some (.slice (some ⟨G, 0, none⟩) N N) ∧ w'.cell? ⟨w.heap.size, 0, none⟩ = some (.int .i64 n.1) ∧ w'.cell? ⟨w.heap.size, 1, none⟩ = some (.slice mA1 (n.2.1).length mc1) ∧ w'.cell? ⟨w.heap.size, 2, none⟩ = some (.slice mA2 (n.2.2.1).length mc2) ∧ w'.cell? ⟨w.heap.size, 3, none⟩ = some (.slice mA3 (n.2.2.2).length mc3) ∧ w'.cell? ⟨b, 0, none⟩ = some (.int .i64 (x : Int)) ∧ w'.cell? ⟨b, 1, none⟩ = some (.int .i64 (y : Int)) ∧ w'.cell? ⟨Bs, 0, none⟩ = some (.slice mA2 n.2.2.1.length mc2) ∧ w'.cell? ⟨G, p, none⟩ = some (.bool (MM.getD p false))) w' := fun h hb => ⟨bThen h.1 hb, keep hb h.2.1, keep hb h.2.2.1, keep hb h.2.2.2.1, keep hb h.2.2.2.2.1, keep hb h.2.2.2.2.2.1, keep hb h.2.2.2.2.2.2.1, keep hb h.2.2.2.2.2.2.2.1, keep hb h.2.2.2.2.2.2.2.2.1, keep hb h.2.2.2.2.2.2.2.2.2⟩
          dsimp only at hS0 hS
          refine wpIn_region_kept 4 6 (fun w' => Below wB.heap.size wB w' ∧ w'.cell? ⟨Bi, 0, none⟩ = some (.slice (some ⟨G, 0, none⟩) N N) ∧ w'.cell? ⟨w.heap.size, 0, none⟩ = some (.int .i64 n.1) ∧ w'.cell? ⟨w.heap.size, 1, none⟩ = some (.slice mA1 (n.2.1).length mc1) ∧ w'.cell? ⟨w.heap.size, 2, none⟩ = some (.slice mA2 (n.2.2.1).length mc2) ∧ w'.cell? ⟨w.heap.size, 3, none⟩ = some (.slice mA3 (n.2.2.2).length mc3) ∧ w'.cell? ⟨b, 0, none⟩ = some (.int .i64 (x : Int)) ∧ w'.cell? ⟨b, 1, none⟩ = some (.int .i64 (y : Int)) ∧ w'.cell? ⟨Bs, 0, none⟩ = some (.slice mA2 n.2.2.1.length mc2) ∧ w'.cell? ⟨G, p, none⟩ = some (.bool (MM.getD p false))) (by kernel_rfl) rfl (by kernel_rfl) (hS hS0 (Below.drew (Below.refl _ _))) (fun hK0 => ?_)
          refine Kept.take (v := ?vs0) 0 (by kernel_rfl) rfl (by kernel_rfl) (fun _ _ _ h => h) (Or.inl ⟨by rfl, ?hys0⟩) hK0 ?rests0
          case hys0 =>
            intro w0 hSw
            (try dsimp only at hSw)
            go_simp
            all_goals (with_reducible rfl)
          (try simp only [Act.put, List.setIfInBounds_toArray, List.set_cons_zero, List.set_cons_succ])
          refine Kept.take (v := ?vs1) 1 (by kernel_rfl) rfl (by kernel_rfl) (fun _ _ _ h => h) (Or.inl ⟨by rfl, ?hys1⟩) hK0 ?rests1
          case hys1 =>
            intro w0 hSw
            (try dsimp only at hSw)
            go_simp
            all_goals (with_reducible rfl)
          (try simp only [Act.put, List.setIfInBounds_toArray, List.set_cons_zero, List.set_cons_succ])
          refine Kept.take (v := ?vs2) 2 (by kernel_rfl) rfl (by kernel_rfl) (fun _ _ _ h => h) (Or.inl ⟨by rfl, ?hys2⟩) hK0 ?rests2
          case hys2 =>
            intro w0 hSw
            (try dsimp only at hSw)
            go_simp
            all_goals (with_reducible rfl)
          (try simp only [Act.put, List.setIfInBounds_toArray, List.set_cons_zero, List.set_cons_succ])
          refine Kept.rg (sz := 45) (g := 2) [(3, 37)] [] (fun kO vals w' => match kO with
            | 3 => vals 3 = .int .i64 (p : Int)
            | _ => True) (by kernel_rfl) (by kernel_rfl) hK0 (fun _ _ _ h => h) ?hSRs ?hlocs ?hsteps ?hends
          case hSRs =>
            intro k hk vals w1 w2 h hb
            simp only [List.map_cons, List.map_nil, List.mem_cons, List.not_mem_nil, or_false] at hk
            subst hk
            · exact h
          case hlocs =>
            intro k j hk hj hne hw vals v w1 h
            simp only [List.map_cons, List.map_nil, List.mem_cons, List.not_mem_nil, or_false] at hk hj
            subst hk hj
            exact absurd rfl hne
          case hsteps =>
            intro k t o hm ho vals wA hSA hpre
            simp only [List.mem_cons, List.not_mem_nil, or_false, Prod.mk.injEq] at hm
            obtain ⟨rfl, rfl⟩ := hm
            · have ho' := Option.some.inj ho
              subst ho'
              unfold RgStep
              rw [if_pos (by rfl)]
              intro K hK
              have hSw := hSA
              (try dsimp only at hSw)
              clear hpre
              simp only [fillA, Act.put, List.setIfInBounds_toArray, List.set_cons_zero, List.set_cons_succ]
              go_simp
              go_at_call 105
              refine (nodeOf_to x _ hx63 HPQ.out.1).mono ?_
              rintro e wB ⟨rfl, hb⟩
              have hK' := hK (.int .i64 (p : Int)) wB (hS hSA hb) hb (upd_self _ _ _) (fun h => absurd h (by decide))
              clear hK
              simp only [fillA, Act.put, List.setIfInBounds_toArray, List.set_cons_zero, List.set_cons_succ] at hK'
              go_simp
              all_goals exact hK'
          intro vals wC hSB hR hap
          have e3 : vals 3 = .int .i64 (p : Int) := hR 3 (by decide)
          simp only [fillA, Act.put, List.setIfInBounds_toArray, List.set_cons_zero, List.set_cons_succ]
          simp only [e3]
          clear hap hR e3
          refine Kept.tail (by rfl) (by kernel_rfl) ?_
          simp only [List.drop_succ_cons, List.drop_zero]
          have HC := Lib.hid hSB.1
          have q1 := hSB.2
          have HMC := Lib.hid (HMB2.out.below HC.out)
          clear hSB hS0 hS
          obtain ⟨i1, x0', x1', x2', x3', v0', v1', s2, -⟩ := q1
          have sp2 := HMC.out.shapeN HLEN.out (show p < N by omega)
          have g0 := sp2.1
          have g1 := sp2.2
          clear i0' z0 z1 z2 z3 w0' w1' s1' sp0 sp1 sp2
          go_wp2
          refine OnlyN.normal ?_
          have HMD := Lib.hid (OwnsB.set HMC.out HLEN.out (show p < N by omega) true)
          obtain ⟨wD, hwD⟩ : ∃ wD, wD = wC.setCell ⟨G, p, none⟩ (.bool true) := ⟨_, rfl⟩
          rw [← hwD] at HMD ⊢
          have nG : Bi ≠ G ∧ w.heap.size ≠ G ∧ b ≠ G ∧ Bs ≠ G := by refine ⟨?_, ?_, ?_, ?_⟩ <;> omega
          have cf : ∀ b i v, b ≠ G → wC.cell? ⟨b, i, none⟩ = some v → wD.cell? ⟨b, i, none⟩ = some v := fun b i v hne h => by rw [hwD]; exact (World.cell?_setCell_other _ ⟨G, p, none⟩ ⟨b, i, none⟩ (.bool true) (by intro e; injection e with e; exact hne e.symm)).trans h
          have j0 := cf _ _ _ nG.1 i1
          have j1 := cf _ _ _ nG.2.1 x0'
          have j2 := cf _ _ _ nG.2.1 x1'
          have j3 := cf _ _ _ nG.2.1 x2'
          have j4 := cf _ _ _ nG.2.1 x3'
          have j5 := cf _ _ _ nG.2.2.1 v0'
          have j6 := cf _ _ _ nG.2.2.1 v1'
          have j7 := cf _ _ _ nG.2.2.2 s2
          have HKD := Lib.hid (show KeepsOthers W wD from (keeps_below HBB.out).trans ((keeps_below HC.out).trans (by rw [hwD]; exact KeepsOthers.setCell _ _ _)))
          have HBD := Lib.hid (show Below w.heap.size W wD by rw [hwD]; exact bSet (p := ⟨G, p, none⟩) (bThen' (HBB.out.mono HBW.out.size) HBW.out.size HBB.out.size HC.out) hG1.2 _)
          have HHD := Lib.hid (show wD.heap[Bs]? = W.heap[Bs]? by rw [hwD, Below.heap_setCell _ _ _ _ (fun e => nG.2.2.2 e), HC.out.block Bs (by omega), HBB.out.block Bs ltB])
          have hD8 : wD.heap.size = wC.heap.size := by rw [hwD]; simp
          have hCC := HC.out.size
          clear hwD cf i1 x0' x1' x2' x3' v0' v1' s2 g0 g1
          gi_wp2
          have hS0 : (fun w' => Below wD.heap.size wD w' ∧ w'.cell? ⟨Bi, 0, none⟩ = some (.slice (some ⟨G, 0, none⟩) N N) ∧ w'.cell? ⟨w.heap.size, 0, none⟩ = some (.int .i64 n.1) ∧ w'.cell? ⟨w.heap.size, 1, none⟩ = some (.slice mA1 (n.2.1).length mc1) ∧ w'.cell? ⟨w.heap.size, 2, none⟩ = some (.slice mA2 (n.2.2.1).length mc2) ∧ w'.cell? ⟨w.heap.size, 3, none⟩ = some (.slice mA3 (n.2.2.2).length mc3) ∧ w'.cell? ⟨b, 0, none⟩ = some (.int .i64 (x : Int)) ∧ w'.cell? ⟨b, 1, none⟩ = some (.int .i64 (y : Int)) ∧ w'.cell? ⟨Bs, 0, none⟩ = some (.slice mA2 n.2.2.1.length mc2) ∧ w'.cell? ⟨Bi, 0, none⟩ = some (.slice (some ⟨G, 0, none⟩) N N)) wD := ⟨Below.refl _ _, j0, j1, j2, j3, j4, j5, j6, j7, j0⟩
          have hS : ∀ {w0 w' : World}, (fun w' => Below wD.heap.size wD w' ∧ w'.cell? ⟨Bi, 0, none⟩ = some (.slice (some ⟨G, 0, none⟩) N N) ∧ w'.cell? ⟨w.heap.size, 0, none⟩ = some (.int .i64 n.1) ∧ w'.cell? ⟨w.heap.size, 1, none⟩ = some (.slice mA1 (n.2.1).length mc1) ∧ w'.cell? ⟨w.heap.size, 2, none⟩ = some (.slice mA2 (n.2.2.1).length mc2) ∧ w'.cell? ⟨w.heap.size, 3, none⟩ = some (.slice mA3 (n.2.2.2).length mc3) ∧ w'.cell? ⟨b, 0, none⟩ = some (.int .i64 (x : Int)) ∧ w'.cell? ⟨b, 1, none⟩ = some (.int .i64 (y : Int)) ∧ w'.cell? ⟨Bs, 0, none⟩ = some (.slice mA2 n.2.2.1.length mc2) ∧ w'.cell? ⟨Bi, 0, none⟩ = some (.slice (some ⟨G, 0, none⟩) N N)) w0 → Below w0.heap.size w0 w' → (fun w' => Below wD.heap.size wD w' ∧ w'.cell? ⟨Bi, 0, none⟩ = some (.slice (some ⟨G, 0, none⟩) N N) ∧ w'.cell? ⟨w.heap.size, 0, none⟩ = some (.int .i64 n.1) ∧ w'.cell? ⟨w.heap.size, 1, none⟩ = some (.slice mA1 (n.2.1).length mc1) ∧ w'.cell? ⟨w.heap.size, 2, none⟩ = some (.slice mA2 (n.2.2.1).length mc2) ∧ w'.cell? ⟨w.heap.size, 3, none⟩ = some (.slice mA3 (n.2.2.2).length mc3) ∧ w'.cell? ⟨b, 0, none⟩ = some (.int .i64 (x : Int)) ∧ w'.cell? ⟨b, 1, none⟩ = some (.int .i64 (y : Int)) ∧ w'.cell? ⟨Bs, 0, none⟩ = some (.slice mA2 n.2.2.1.length mc2) ∧ w'.cell? ⟨Bi, 0, none⟩ = some (.slice (some ⟨G, 0, none⟩) N N)) w' := fun h hb => ⟨bThen h.1 hb, keep hb h.2.1, keep hb h.2.2.1, keep hb h.2.2.2.1, keep hb h.2.2.2.2.1, keep hb h.2.2.2.2.2.1, keep hb h.2.2.2.2.2.2.1, keep hb h.2.2.2.2.2.2.2.1, keep hb h.2.2.2.2.2.2.2.2.1, keep hb h.2.2.2.2.2.2.2.2.2⟩
          dsimp only at hS0 hS
          refine wpIn_region_kept 4 6 (fun w' => Below wD.heap.size wD w' ∧ w'.cell? ⟨Bi, 0, none⟩ = some (.slice (some ⟨G, 0, none⟩) N N) ∧ w'.cell? ⟨w.heap.size, 0, none⟩ = some (.int .i64 n.1) ∧ w'.cell? ⟨w.heap.size, 1, none⟩ = some (.slice mA1 (n.2.1).length mc1) ∧ w'.cell? ⟨w.heap.size, 2, none⟩ = some (.slice mA2 (n.2.2.1).length mc2) ∧ w'.cell? ⟨w.heap.size, 3, none⟩ = some (.slice mA3 (n.2.2.2).length mc3) ∧ w'.cell? ⟨b, 0, none⟩ = some (.int .i64 (x : Int)) ∧ w'.cell? ⟨b, 1, none⟩ = some (.int .i64 (y : Int)) ∧ w'.cell? ⟨Bs, 0, none⟩ = some (.slice mA2 n.2.2.1.length mc2) ∧ w'.cell? ⟨Bi, 0, none⟩ = some (.slice (some ⟨G, 0, none⟩) N N)) (by kernel_rfl) rfl (by kernel_rfl) (hS hS0 (Below.drew (Below.refl _ _))) (fun hK0 => ?_)
          refine Kept.take (v := ?vu0) 0 (by kernel_rfl) rfl (by kernel_rfl) (fun _ _ _ h => h) (Or.inl ⟨by rfl, ?hyu0⟩) hK0 ?restu0
          case hyu0 =>
            intro w0 hSw
            (try dsimp only at hSw)
            go_simp
            all_goals (with_reducible rfl)
          (try simp only [Act.put, List.setIfInBounds_toArray, List.set_cons_zero, List.set_cons_succ])
          refine Kept.take (v := ?vu1) 1 (by kernel_rfl) rfl (by kernel_rfl) (fun _ _ _ h => h) (Or.inl ⟨by rfl, ?hyu1⟩) hK0 ?restu1
          case hyu1 =>
            intro w0 hSw
            (try dsimp only at hSw)
            go_simp
            all_goals (with_reducible rfl)
          (try simp only [Act.put, List.setIfInBounds_toArray, List.set_cons_zero, List.set_cons_succ])
          refine Kept.take (v := ?vu2) 2 (by kernel_rfl) rfl (by kernel_rfl) (fun _ _ _ h => h) (Or.inl ⟨by rfl, ?hyu2⟩) hK0 ?restu2
          case hyu2 =>
            intro w0 hSw
            (try dsimp only at hSw)
            go_simp
            all_goals (with_reducible rfl)
          (try simp only [Act.put, List.setIfInBounds_toArray, List.set_cons_zero, List.set_cons_succ])
          refine Kept.rg (sz := 45) (g := 2) [(3, 42)] [] (fun kO vals w' => match kO with
            | 3 => vals 3 = .int .i64 (q : Int)
            | _ => True) (by kernel_rfl) (by kernel_rfl) hK0 (fun _ _ _ h => h) ?hSRu ?hlocu ?hstepu ?hendu
          case hSRu =>
            intro k hk vals w1 w2 h hb
            simp only [List.map_cons, List.map_nil, List.mem_cons, List.not_mem_nil, or_false] at hk
            subst hk
            · exact h
          case hlocu =>
            intro k j hk hj hne hw vals v w1 h
            simp only [List.map_cons, List.map_nil, List.mem_cons, List.not_mem_nil, or_false] at hk hj
            subst hk hj
            exact absurd rfl hne
          case hstepu =>
            intro k t o hm ho vals wA hSA hpre
            simp only [List.mem_cons, List.not_mem_nil, or_false, Prod.mk.injEq] at hm
            obtain ⟨rfl, rfl⟩ := hm
            · have ho' := Option.some.inj ho
              subst ho'
              unfold RgStep
              rw [if_pos (by rfl)]
              intro K hK
              have hSw := hSA
              (try dsimp only at hSw)
              clear hpre
              simp only [fillA, Act.put, List.setIfInBounds_toArray, List.set_cons_zero, List.set_cons_succ]
              go_simp
              go_at_call 105
              refine (nodeOf_to y _ hy63 HPQ.out.2).mono ?_
              rintro e wB ⟨rfl, hb⟩
              have hK' := hK (.int .i64 (q : Int)) wB (hS hSA hb) hb (upd_self _ _ _) (fun h => absurd h (by decide))
              clear hK
              simp only [fillA, Act.put, List.setIfInBounds_toArray, List.set_cons_zero, List.set_cons_succ] at hK'
              go_simp
              all_goals exact hK'
          intro vals wE hSB hR hap
          have e3 : vals 3 = .int .i64 (q : Int) := hR 3 (by decide)
          simp only [fillA, Act.put, List.setIfInBounds_toArray, List.set_cons_zero, List.set_cons_succ]
          simp only [e3]
          clear hap hR e3
          refine Kept.tail (by rfl) (by kernel_rfl) ?_
          simp only [List.drop_succ_cons, List.drop_zero]
          have HE2 := Lib.hid hSB.1
          have q2 := hSB.2
          have HME := Lib.hid (HMD.out.below HE2.out)
          clear hSB hS0 hS
          obtain ⟨i1, x0', x1', x2', x3', v0', v1', s2, -⟩ := q2
          have sp2 := HME.out.shapeN (by rw [List.length_set]; exact HLEN.out) (show q < N by omega)
          have g0 := sp2.1
          have g1 := sp2.2
          clear j0 j1 j2 j3 j4 j5 j6 j7 sp2
          go_wp2
          refine OnlyN.normal ?_
          have HMF := Lib.hid (OwnsB.set HME.out (by rw [List.length_set]; exact HLEN.out) (show q < N by omega) true)
          obtain ⟨wF, hwF⟩ : ∃ wF, wF = wE.setCell ⟨G, q, none⟩ (.bool true) := ⟨_, rfl⟩
          rw [← hwF] at HMF ⊢
          have cf : ∀ b i v, b ≠ G → wE.cell? ⟨b, i, none⟩ = some v → wF.cell? ⟨b, i, none⟩ = some v := fun b i v hne h => by rw [hwF]; exact (World.cell?_setCell_other _ ⟨G, q, none⟩ ⟨b, i, none⟩ (.bool true) (by intro e; injection e with e; exact hne e.symm)).trans h
          have HKF := Lib.hid (show KeepsOthers W wF from HKD.out.trans ((keeps_below HE2.out).trans (by rw [hwF]; exact KeepsOthers.setCell _ _ _)))
          have HBF := Lib.hid (show Below w.heap.size W wF by rw [hwF]; exact bSet (p := ⟨G, q, none⟩) (HBD.out.trans (HE2.out.mono (by omega))) hG1.2 _)
          have HHF := Lib.hid (show wF.heap[Bs]? = W.heap[Bs]? by rw [hwF, Below.heap_setCell _ _ _ _ (fun e => nG.2.2.2 e), HE2.out.block Bs (by omega), HHD.out])
          have HFI := Lib.hid (And.intro (cf _ _ _ nG.1 i1) (And.intro (cf _ _ _ nG.2.2.2 s2) (And.intro (cf _ _ _ nG.2.1 x0') (And.intro (cf _ _ _ nG.2.1 x1') (And.intro (cf _ _ _ nG.2.1 x2') (cf _ _ _ nG.2.1 x3'))))))
          clear hwF cf i1 x0' x1' x2' x3' v0' v1' s2 g0 g1
          have e := HE.out
          rw [HPQ.out.1, HPQ.out.2] at e
          gi_wp2
          exact ⟨HKF.out.from _, ⟨HBF.out, HHF.out⟩, ⟨by rw [foldM_add, HMM.out, e]; exact HMF.out, HFI.out⟩, HBW.out.trans HBF.out⟩
      case done =>
        rintro D xs W hD rfl ⟨⟨hm, i0, s1, c0, c1, c2, c3⟩, hB⟩ hK
        rw [foldM_all] at hm
        have HM := Lib.hid hm
        have HBB := Lib.hid hB
        clear hm hB c0 c1 c2 c3 s1
        go_wp2
        refine ⟨by simp, .inl ⟨_, _, rfl, run_takeDeferred hK, ?_⟩⟩
        refine ⟨_, results_tmp rfl _ _ _, G, rfl, by rw [HM0.out]; exact ownsB_own _ _ (fun _ : Unit => markL n M0) () W _ _ HM.out (grownBy_putObj' W D _) (fun r e => by cases e; exact ⟨_, hK, rfl⟩), HBB.out.trans (belowK_b (w := w) (Nat.le_refl _) W D _ _ (by omega) hK rfl rfl)⟩
end Go.Proofs.Ytedamhkcblemdaa
/- Net13: Cones and what is reached: the program. -/
namespace Go.Proofs.Ytedamhkcblemdaa
open Go.RowKit
set_option linter.unusedVariables false
set_option linter.unusedSimpArgs false

theorem rd_lit1N {w : World} {g : Nat} {x : Int} (h : w.heap[g]? = some (.cells #[.int .i64 x] 3 (0, 0))) (hx : Fit x) : rdIntS g (g + 1) w [.slice (some ⟨g, 0, none⟩) 1 1] [x] := by
  refine ⟨_, _, rfl, by simp [maxLen], fun j hj => ⟨g, 0, rfl, Nat.le_refl _, Nat.lt_succ_self _, ?_⟩⟩
  match j, hj with
  | 0, _ => exact ⟨[.int .i64 x], rfl, fun i u hu => (by match i, hu with | 0, hu => (injection hu with hu; subst hu; exact box_cell h 0 _ rfl)), rfl, hx⟩
theorem fit_nodes {L : List Int} {N : Nat} (hN : N ≤ 1000) (h : ∀ (k : Nat) (x : Int), L[k]? = some x → ∃ p : Nat, x = (p : Int) ∧ p < N) : ∀ x ∈ L, Fit x := fun x hx => by
  obtain ⟨k, hk, e⟩ := List.getElem_of_mem hx
  obtain ⟨p, rfl, hp⟩ := h k x (by rw [List.getElem?_eq_getElem hk, e])
  unfold Fit; omega
theorem nodes_in {n : DNet} (hP : NetP n) : ∀ (k : Nat) (x : Int), (nodesL (rootsL n))[k]? = some x → ∃ p : Nat, x = (p : Int) ∧ p < netN n := fun k x h => by
  unfold nodesL at h
  rw [List.getElem?_map] at h
  cases hg : (rootsL n)[k]? with
  | none => rw [hg] at h; cases h
  | some y =>
    rw [hg] at h
    obtain ⟨l, rfl, hl⟩ := hP.root y (List.mem_of_getElem? hg)
    exact ⟨l / 2, by simpa using h.symm, hl⟩
set_option maxRecDepth 100000 in
set_option maxHeartbeats 12800000 in
theorem implReach_at (n : DNet) (us : List Value) (w : World) (h : rdNet 0 w.heap.size w us n) {L : List Bool} (hL : reachO n = L) :
    Calls Try.prog 71 #[.agg us.toArray] w fun e w' => ∃ v, e = .returned v ∧ OwnsB w' w.heap.size v L ∧ Below w.heap.size w w' := by
  have HD := Lib.hid h
  obtain ⟨f, hf⟩ : ∃ f, netB n = f := ⟨_, rfl⟩
  have HF := Lib.hid hf
  have HX := Lib.hid hL
  clear hf hL
  obtain ⟨mu0, mu1, mu2, mu3, rfl, mh0, mh1, mh2, mh3⟩ := h
  obtain ⟨me0, -⟩ := mh0
  injection me0 with me0
  subst me0
  obtain ⟨mA1, mc1, me1, mm1, -⟩ := slice_of mh1
  subst me1
  have mR1 := Lib.hid mh1
  clear mh1
  obtain ⟨mA2, mc2, me2, mm2, -⟩ := slice_of mh2
  subst me2
  have mR2 := Lib.hid mh2
  clear mh2
  obtain ⟨mA3, mc3, me3, mm3, -⟩ := slice_of mh3
  subst me3
  have mR3 := Lib.hid mh3
  clear mh3
  go_enter Try.func71, Try.ntmps71
  go_wp2_with fail
  obtain ⟨W0, hV⟩ : ∃ W0, W0 = (w.alloc (.cells #[.int .i64 n.1, .slice mA1 (n.2.1).length mc1, .slice mA2 (n.2.2.1).length mc2, .slice mA3 (n.2.2.2).length mc3] 36)) := ⟨_, rfl⟩
  rw [← hV]
  have gN := eqbox1 hV
  have d0 : W0.cell? ⟨w.heap.size, 0, none⟩ = some (.int .i64 n.1) := box_cell gN.1 0 _ rfl
  have d1 : W0.cell? ⟨w.heap.size, 1, none⟩ = some (.slice mA1 (n.2.1).length mc1) := box_cell gN.1 1 _ rfl
  have d2 : W0.cell? ⟨w.heap.size, 2, none⟩ = some (.slice mA2 (n.2.2.1).length mc2) := box_cell gN.1 2 _ rfl
  have d3 : W0.cell? ⟨w.heap.size, 3, none⟩ = some (.slice mA3 (n.2.2.2).length mc3) := box_cell gN.1 3 _ rfl
  have sW0 : W0.heap.size = w.heap.size + 1 := by rw [hV]; simp
  have HW0 := Lib.hid gN.2
  clear hV gN
  refine (implNetOk_at n _ _ (rdUp good_Net HD.out HW0.out) HF.out).mono ?_
  rintro e w1 ⟨rfl, hb⟩
  replace d0 := keep hb d0
  replace d1 := keep hb d1
  replace d2 := keep hb d2
  replace d3 := keep hb d3
  have HB1 := Lib.hid (bThen HW0.out hb)
  clear hb
  cases f with
  | false =>
    have HE := Lib.hid ((reach_no HF.out).symm.trans HX.out)
    go_wp2
    go_ret
    refine ⟨_, rfl, ?_, HB1.out⟩
    rw [← HE.out]
    exact own_nilB _ _
  | true =>
  have HP := Lib.hid (netP_of HF.out)
  have HE := Lib.hid (show markL n (setsL (netN n) (nodesL (rootsL n))) = L by rw [← HX.out, reach_yes HF.out, sets_nodes])
  have hS0 : (fun w' => Below w1.heap.size w1 w' ∧ w'.cell? ⟨w.heap.size, 0, none⟩ = some (.int .i64 n.1) ∧ w'.cell? ⟨w.heap.size, 1, none⟩ = some (.slice mA1 (n.2.1).length mc1) ∧ w'.cell? ⟨w.heap.size, 2, none⟩ = some (.slice mA2 (n.2.2.1).length mc2) ∧ w'.cell? ⟨w.heap.size, 3, none⟩ = some (.slice mA3 (n.2.2.2).length mc3)) w1 := ⟨Below.refl _ _, d0, d1, d2, d3⟩
  have hS : ∀ {w0 w' : World}, (fun w' => Below w1.heap.size w1 w' ∧ w'.cell? ⟨w.heap.size, 0, none⟩ = some (.int .i64 n.1) ∧ w'.cell? ⟨w.heap.size, 1, none⟩ = some (.slice mA1 (n.2.1).length mc1) ∧ w'.cell? ⟨w.heap.size, 2, none⟩ = some (.slice mA2 (n.2.2.1).length mc2) ∧ w'.cell? ⟨w.heap.size, 3, none⟩ = some (.slice mA3 (n.2.2.2).length mc3)) w0 → Below w0.heap.size w0 w' → (fun w' => Below w1.heap.size w1 w' ∧ w'.cell? ⟨w.heap.size, 0, none⟩ = some (.int .i64 n.1) ∧ w'.cell? ⟨w.heap.size, 1, none⟩ = some (.slice mA1 (n.2.1).length mc1) ∧ w'.cell? ⟨w.heap.size, 2, none⟩ = some (.slice mA2 (n.2.2.1).length mc2) ∧ w'.cell? ⟨w.heap.size, 3, none⟩ = some (.slice mA3 (n.2.2.2).length mc3)) w' := fun h hb => ⟨bThen h.1 hb, keep hb h.2.1, keep hb h.2.2.1, keep hb h.2.2.2.1, keep hb h.2.2.2.2⟩
  dsimp only at hS0 hS
  go_wp2_with fail
  refine wp_region_noPanic ?_
  refine wp_region_kept 3 5 (fun w' => Below w1.heap.size w1 w' ∧ w'.cell? ⟨w.heap.size, 0, none⟩ = some (.int .i64 n.1) ∧ w'.cell? ⟨w.heap.size, 1, none⟩ = some (.slice mA1 (n.2.1).length mc1) ∧ w'.cell? ⟨w.heap.size, 2, none⟩ = some (.slice mA2 (n.2.2.1).length mc2) ∧ w'.cell? ⟨w.heap.size, 3, none⟩ = some (.slice mA3 (n.2.2.2).length mc3)) (by kernel_rfl) rfl (hS hS0 (Below.drew (Below.refl _ _))) (fun hK0 => ?_)
  refine Kept.take (v := ?vr0) 0 (by kernel_rfl) rfl (by kernel_rfl) (fun _ _ _ h => h) (Or.inl ⟨by rfl, ?hyr0⟩) hK0 ?restr0
  case hyr0 =>
    intro w0 hSw
    (try dsimp only at hSw)
    go_simp
    all_goals (with_reducible rfl)
  (try simp only [Act.put, List.setIfInBounds_toArray, List.set_cons_zero, List.set_cons_succ])
  refine Kept.take (v := ?vr1) 1 (by kernel_rfl) rfl (by kernel_rfl) (fun _ _ _ h => h) (Or.inl ⟨by rfl, ?hyr1⟩) hK0 ?restr1
  case hyr1 =>
    intro w0 hSw
    (try dsimp only at hSw)
    go_simp
    all_goals (with_reducible rfl)
  (try simp only [Act.put, List.setIfInBounds_toArray, List.set_cons_zero, List.set_cons_succ])
  refine Kept.one 2 (by kernel_rfl) rfl (fun K hK => ?_)
  go_simp
  go_at_call 62
  refine (rootNodes_at n _ _ (rdUp good_Net HD.out (bThen HB1.out hK0.1)) HP.out (net_parts HF.out)).mono ?_
  rintro e wr2 ⟨v2, rfl, ho2, hbr2⟩
  go_simp
  refine hK.out _ _ (hS hK0 hbr2) (fun hK1 => ?_)
  clear hK K hK0
  (try simp only [Act.put, List.setIfInBounds_toArray, List.set_cons_zero, List.set_cons_succ])
  refine Kept.tail (by rfl) (by kernel_rfl) ?_
  simp only [List.drop_succ_cons, List.drop_zero]
  have HB2 := Lib.hid (bThen HB1.out hK1.1)
  have HR := Lib.hid ho2
  clear hK1 hS0 hS ho2 hbr2 d0 d1 d2 d3
  go_wp2_with fail
  refine (inCones_at n (nodesL (rootsL n)) _ _ _ (rdUp good_Net HD.out HB2.out) (ownI_rd HR.out (fit_nodes (by have := HP.out.sz.net_le; omega) (nodes_in HP.out))) HP.out (nodes_in HP.out) rfl).mono ?_
  rintro e w3 ⟨g, rfl, ho, hb⟩
  have HO := Lib.hid ho
  have HB3 := Lib.hid (bThen HB2.out hb)
  clear hb ho
  go_wp2
  refine NoPanic.normal ?_
  go_wp2
  go_ret
  rw [← HE.out]
  exact ⟨_, rfl, OwnsB.lower HO.out HB2.out.size, HB3.out⟩

end Go.Proofs.Ytedamhkcblemdaa
