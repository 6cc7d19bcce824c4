/-
  Marks spread through a net: the reference.
-/
import Derived.Test.YtnobdbppechccaaNet7
import Derived.Test.YtnobdbppechccaaOwnB
import Derived.Deep.RegionHeld3
namespace Go.Proofs.Ytnobdbppechccaa
open Go.RowKit
set_option linter.unusedVariables false
set_option linter.unusedSimpArgs false

theorem fB_one (L : List Bool) : ∀ u ∈ L.flatMap fB, u.oneCell' = true := fun u hu => by
  obtain ⟨c, _, hc⟩ := List.mem_flatMap.1 hu
  simp only [fB, List.mem_cons, List.not_mem_nil, or_false] at hc
  subst hc; rfl
theorem usBool (B T : Nat) (w : World) (us : List Value) (x : Bool) (h : rdBool B T w us x) : us = fB x := h
theorem OwnsB.below {w w' : World} {B : Nat} {v : Value} {L : List Bool} (h : OwnsB w B v L) (hb : Below w.heap.size w w') : OwnsB w' B v L := ownI_below h hb
theorem OwnsB.lower {w : World} {B B' : Nat} {v : Value} {L : List Bool} (h : OwnsB w B v L) (hB : B' ≤ B) : OwnsB w B' v L := by
  obtain ⟨h1, h2⟩ := h
  refine ⟨h1, ?_⟩
  rcases h2 with h2 | ⟨g, cap, cur, e1, e2, e3⟩
  · exact .inl h2
  · exact .inr ⟨g, cap, cur, e1, Nat.le_trans hB e2, e3⟩
theorem own_makeB {w : World} {B : Nat} {v : Value} {n : Nat} (h : w.ownsRow B 4 1 v n (madeCells (Value.bool false).cells (n * 1)).toList) : OwnsB w B v (List.replicate n false) := by
  unfold OwnsB OwnsR
  rw [List.length_replicate, ← made_rows fB 1 fB_len false (.bool false : Value).cells rfl (by omega)]
  exact h
theorem mark_hit {n : DNet} {M : List Bool} {j i x y : Nat} (hi : n.2.2.1.length - 1 - j = i) (h : n.2.2.1[i]? = some ((x : Int), (y : Int))) (hb : (markK n M j).getD (firN n + i) false = true) :
    markK n M (j + 1) = ((markK n M j).set (x / 2) true).set (y / 2) true := by
  conv => lhs; unfold markK
  rw [hi, h]
  simp only [hb, if_true, Int.toNat_natCast]
theorem mark_miss {n : DNet} {M : List Bool} {j i : Nat} {a : DAnd} (hi : n.2.2.1.length - 1 - j = i) (h : n.2.2.1[i]? = some a) (hb : (markK n M j).getD (firN n + i) false = false) : markK n M (j + 1) = markK n M j := by
  conv => lhs; unfold markK
  rw [hi, h]
  simp only [hb, Bool.false_eq_true, if_false]
set_option maxRecDepth 100000 in
set_option maxHeartbeats 12800000 in
theorem specMark_at (n : DNet) (L : List Bool) (us : List Value) (v : Value) (w : World) (h : rdNet 0 w.heap.size w us n) (hv : rdBoolS 0 w.heap.size w [v] L) (hP : NetP n) (hL : L.length = netN n) :
    Calls Try.prog 67 #[.agg us.toArray, v] w fun e w' => ∃ v, e = .returned v ∧ OwnsB w' w.heap.size v (markL n L) ∧ Below w.heap.size w w' := by
  obtain ⟨iB, hi, hz0, hz1, hz2⟩ := info_parts infoB
  have HD := Lib.hid h
  have HP := Lib.hid hP
  have HSP := Lib.hid hP.sz
  have a300 := hP.sz.a300
  have f33 := hP.sz.fir_le
  obtain ⟨N, hN⟩ : ∃ N : Nat, netN n = N := ⟨_, rfl⟩
  have hN3 : N ≤ 333 ∧ 1 ≤ N := by rw [← hN]; exact hP.sz.net_le
  have HN := Lib.hid hN
  rw [hN] at hL
  clear hP hN
  obtain ⟨mu0, mu1, mu2, mu3, rfl, mh0, mh1, mh2, mh3⟩ := h
  obtain ⟨me0, -⟩ := mh0
  injection me0 with me0
  subst me0
  obtain ⟨mA1, mc1, me1, mm1, -⟩ := slice_of mh1
  subst me1
  have mR1 := Lib.hid mh1
  clear mh1
  obtain ⟨mA2, mc2, me2, mm2, -⟩ := slice_of mh2
  subst me2
  have mR2 := Lib.hid mh2
  clear mh2
  obtain ⟨mA3, mc3, me3, mm3, -⟩ := slice_of mh3
  subst me3
  have mR3 := Lib.hid mh3
  clear mh3
  obtain ⟨vA, vc, rfl, vm, -⟩ := slice_of hv
  obtain ⟨W0, hV⟩ : ∃ W0, W0 = w.alloc (.cells #[.int .i64 n.1, .slice mA1 (n.2.1).length mc1, .slice mA2 (n.2.2.1).length mc2, .slice mA3 (n.2.2.2).length mc3] 28) := ⟨_, rfl⟩
  have gN := eqbox1 hV
  have HW0 := Lib.hid gN.2
  have HNW := Lib.hid (show NewsAt (W0.alloc (.cells #[] 4)) vA L.length (L.flatMap fB) from (newsAt_of fB 1 fB_len (by omega) usBool (good_BoolS.below hv (Nat.le_refl _) (bThen gN.2 (bAlloc (Below.refl _ _) (Nat.le_refl _) _)))).2)
  have sW0 : W0.heap.size = w.heap.size + 1 := by rw [hV]; simp
  have HEQ := Lib.hid hV
  have d0 : W0.cell? ⟨w.heap.size, 0, none⟩ = some (.int .i64 n.1) := box_cell gN.1 0 _ rfl
  have d1 : W0.cell? ⟨w.heap.size, 1, none⟩ = some (.slice mA1 (n.2.1).length mc1) := box_cell gN.1 1 _ rfl
  have d2 : W0.cell? ⟨w.heap.size, 2, none⟩ = some (.slice mA2 (n.2.2.1).length mc2) := box_cell gN.1 2 _ rfl
  have d3 : W0.cell? ⟨w.heap.size, 3, none⟩ = some (.slice mA3 (n.2.2.2).length mc3) := box_cell gN.1 3 _ rfl
  have HE0 := Lib.hid d0
  have HE1 := Lib.hid d1
  have HE2 := Lib.hid d2
  have HE3 := Lib.hid d3
  rw [hL] at HNW
  have fl : (L.flatMap fB).length = N * 1 := by rw [flat_len fB 1 fB_len, hL]
  have HL := Lib.hid hL
  rw [hL]
  clear gN hV hv hL
  go_enter Try.func67, Try.ntmps67
  go_wp2_with ((try rw [← HEQ.out]); at_builtin; refine wpList_append_all (by rfl) _ _ 31 (by rfl) W0.heap.size 4 iB (.bool false) 1 1 Try.underlying31 hi hz0 hz1 hz2 rfl (by omega) (.slice (some ⟨W0.heap.size, 0, none⟩) 0 0) 0 [] (by (first | rfl | (rw [sW0]; rfl))) (ownR_new fB 1 4 W0 W0.heap.size (Nat.le_refl _)) vA N vc (L.flatMap fB) (by rfl) fl HNW.out (fB_one _) (by unfold maxLen; omega) (by omega) (by simp) ?_; intro A' c' w1 hown hgrow hkeep hat; have hb1 := (show Below W0.heap.size W0 w1 from (show Below W0.heap.size W0 (W0.alloc (.cells #[] 4)) from bAlloc (Below.refl _ _) (Nat.le_refl _) _).grown hgrow (by simp) (by intro g hg; injection hg with hg; dsimp only at hg; omega)); replace d0 := keep hb1 d0; replace d1 := keep hb1 d1; replace d2 := keep hb1 d2; replace d3 := keep hb1 d3)
  have hr := hown
  rw [Nat.zero_add, List.nil_append] at hr
  have hO : OwnsB w1 W0.heap.size (.slice A' N c') L := by unfold OwnsB OwnsR; rw [HL.out]; exact hr
  obtain ⟨G, hG⟩ : ∃ G, A' = some ⟨G, 0, none⟩ := by
    rcases hO.2 with ⟨e, h0⟩ | ⟨g, cap, cur, e, _⟩
    · rw [HL.out] at h0; omega
    · injection e with e; exact ⟨g, e⟩
  subst hG
  have HO := Lib.hid hO
  have HB1 := Lib.hid hb1
  have gB := hO.ltN.2
  clear hown hgrow hkeep hat hr hO hb1 HNW fl d0 d1 d2 d3
  go_loopw [6] (fun v wr => ∃ j : Nat, j ≤ n.2.2.1.length ∧ v = .int .i64 ((n.2.2.1.length : Int) - 1 - j) ∧ OwnsB wr W0.heap.size (.slice (some ⟨G, 0, none⟩) N c') (markK n L j) ∧ Below W0.heap.size W0 wr) (fun v _ => (intOf v + 1).toNat)
  case atStart => exact ⟨0, Nat.zero_le _, by go_num, HO.out, HB1.out⟩
  case round =>
    obtain ⟨j, hj, rfl, hown, hb⟩ := hrel
    obtain ⟨w2, rfl⟩ : ∃ w2, w2 = wr := ⟨_, rfl⟩
    clear HO HB1
    have HO := Lib.hid hown
    have HB0 := Lib.hid hb
    have HB := Lib.hid (bThen HW0.out hb)
    have c0 := keep hb HE0.out
    have c1 := keep hb HE1.out
    have c2 := keep hb HE2.out
    have c3 := keep hb HE3.out
    clear hown hb
    by_cases hlt : j < n.2.2.1.length
    · obtain ⟨i, hi'⟩ : ∃ i, n.2.2.1.length - 1 - j = i := ⟨_, rfl⟩
      have hil : i < n.2.2.1.length := by omega
      have hie : ((n.2.2.1.length : Int) - 1 - j) = (i : Int) := by omega
      rw [hie]
      obtain ⟨a, ha⟩ : ∃ a, n.2.2.1[i]? = some a := ⟨_, List.getElem?_eq_getElem hil⟩
      obtain ⟨x, y, rfl, hx, hy⟩ := HP.out.and_ i a ha
      have hfk : firN n + i < N := by rw [← HN.out]; unfold netN; omega
      have hlen : (markK n L j).length = N := by rw [markK_len, HL.out]
      obtain ⟨f, hf⟩ : ∃ f, firN n + i = f := ⟨_, rfl⟩
      have hEw : IntKind.i64.wrap ((firN n : Int) + (i : Int)) = (f : Int) := by rw [wrap64_int _ (by omega) (by omega)]; omega
      obtain ⟨p, hp⟩ : ∃ p, x / 2 = p := ⟨_, rfl⟩
      obtain ⟨q, hq⟩ : ∃ q, y / 2 = q := ⟨_, rfl⟩
      rw [hf] at hfk hx hy
      rw [hp] at hx
      rw [hq] at hy
      obtain ⟨b, hb⟩ : ∃ b, (markK n L j).getD f false = b := ⟨_, rfl⟩
      have HMB := Lib.hid (show (markK n L j).getD (firN n + i) false = b by rw [hf]; exact hb)
      have HA := Lib.hid ha
      have HI := Lib.hid hi'
      have HPQ := Lib.hid (And.intro hp hq)
      obtain ⟨ab, aq, rfl, ab1, x0, xf, x1, yf⟩ := at_And (good_AndS.below mR2.out (Nat.le_refl _) HB.out) ha
      have ab2 := Nat.lt_of_lt_of_le ab1 HB.out.size
      unfold Fit at xf yf
      dsimp only at x0 x1 xf yf
      have u0 := (HO.out.shapeN hlen hfk).1
      rw [hb] at u0
      have hpx : ((x : Int) / 2) = (p : Int) := by omega
      have hqy : ((y : Int) / 2) = (q : Int) := by omega
      have hpt : ((x : Int).tdiv 2) = (p : Int) := by rw [tdiv2, hp]
      have hqt : ((y : Int).tdiv 2) = (q : Int) := by rw [tdiv2, hq]
      have hpw : IntKind.i64.wrap (p : Int) = (p : Int) := wrap64_int _ (by omega) (by omega)
      have hqw : IntKind.i64.wrap (q : Int) = (q : Int) := wrap64_int _ (by omega) (by omega)
      have HLEN := Lib.hid hlen
      have tpN : (p : Int) < (N : Int) := by omega
      have tqN : (q : Int) < (N : Int) := by omega
      have tfN : (f : Int) < (N : Int) := by omega
      have ti : (i : Int) < (n.2.2.1.length : Int) := by omega
      clear ha hi' hf hp hq hb hlen hie
      go_wp2_with fail
      refine (specFirst_at n _ _ (rdUp good_Net HD.out HB.out) (Nat.le_refl _) HSP.out).mono ?_
      rintro e w3 ⟨rfl, hb3⟩
      replace c0 := keep hb3 c0
      replace c1 := keep hb3 c1
      replace c2 := keep hb3 c2
      replace c3 := keep hb3 c3
      replace x0 := keep hb3 x0
      replace x1 := keep hb3 x1
      replace u0 := keep hb3 u0
      have HO3 := Lib.hid (HO.out.below hb3)
      have HB3 := Lib.hid (bThen HB0.out hb3)
      clear hb3
      cases b with
      | false =>
        have HE := Lib.hid (mark_miss HI.out HA.out HMB.out)
        clear c0 c1 c3 x0 x1 ab1
        go_wp2
        go_roundw
        case rel => exact ⟨j + 1, by omega, by have := HI.out; go_num, by rw [HE.out]; exact HO3.out, HB3.out⟩
        case measure => simp [intOf] <;> omega
      | true =>
        have HE := Lib.hid (mark_hit HI.out HA.out HMB.out)
        have sp := HO3.out.shapeN HLEN.out (show p < N by omega)
        have sq := HO3.out.shapeN HLEN.out (show q < N by omega)
        have hO1 := OwnsB.set HO3.out HLEN.out (show p < N by omega) true
        have HO1 := Lib.hid hO1
        have s1 := (hO1.shapeN (by rw [List.length_set]; exact HLEN.out) (show q < N by omega))
        have gn0 : G ≠ w.heap.size := by have := HO3.out.ltN; have := HW0.out.size; omega
        have gab : ab ≠ G := by omega
        clear ab1
        have p0 := sp.1
        have p1 := sp.2
        have q0 := s1.1
        have q1 := s1.2
        have e2 : (w3.setCell ⟨G, p, none⟩ (.bool true)).cell? ⟨w.heap.size, 2, none⟩ = some (.slice (some ⟨ab, aq, none⟩) (n.2.2.1).length mc2) := (World.cell?_setCell_other _ ⟨G, p, none⟩ ⟨w.heap.size, 2, none⟩ _ (by intro e; injection e with e; exact gn0 e)).trans c2
        have e3 : (w3.setCell ⟨G, p, none⟩ (.bool true)).cell? ⟨ab, aq + i * 2 + 1, none⟩ = some (.int .i64 (y : Int)) := (World.cell?_setCell_other _ ⟨G, p, none⟩ ⟨ab, aq + i * 2 + 1, none⟩ _ (by intro e; injection e with e; exact gab e.symm)).trans x1
        clear sp sq s1 hO1 c0 c1 c3 x1 gn0 gab
        go_wp2
        go_roundw
        case rel =>
          have h3 := OwnsB.set HO1.out (by rw [List.length_set]; exact HLEN.out) (show q < N by omega) true
          have e := HE.out
          rw [HPQ.out.1, HPQ.out.2] at e
          exact ⟨j + 1, by omega, by have := HI.out; go_num, by rw [e]; exact h3, bSet (p := ⟨G, q, none⟩) (bSet (p := ⟨G, p, none⟩) HB3.out gB _) gB _⟩
        case measure => simp [intOf] <;> omega
    · obtain rfl : j = n.2.2.1.length := by omega
      have hE : OwnsB w2 W0.heap.size (.slice (some ⟨G, 0, none⟩) N c') (markL n L) := HO.out
      have HE := Lib.hid hE
      clear hE hlt c0 c1 c3
      go_wp2
      go_ret
      exact ⟨_, rfl, HE.out.lower HW0.out.size, HB.out⟩
end Go.Proofs.Ytnobdbppechccaa
