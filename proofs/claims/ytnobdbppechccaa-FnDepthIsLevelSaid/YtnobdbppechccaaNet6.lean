/-
  levels: the program.
-/
import Derived.Test.YtnobdbppechccaaNet5
import Derived.Deep.RegionHeld3
namespace Go.Proofs.Ytnobdbppechccaa
open Go.RowKit
set_option linter.unusedVariables false
set_option linter.unusedSimpArgs false

theorem andNode_to (n : DNet) (k : Nat) (us : List Value) {B T : Nat} (w : World) (h : rdNet B T w us n) (hT : T ≤ w.heap.size) (hS : SizeP n) (hk : k ≤ 300) {f : Nat} (hf : firN n + k = f) :
    Calls Try.prog 53 #[.agg us.toArray, .int .i64 (k : Int)] w fun e w' => e = .returned (.int .i64 (f : Int)) ∧ Below w.heap.size w w' := by
  subst hf; exact andNode_at n k us w h hT hS hk
theorem nodeOf_to (l : Nat) (w : World) (hl : l ≤ 9223372036854775807) {p : Nat} (hp : l / 2 = p) :
    Calls Try.prog 71 #[.int .i64 (l : Int)] w fun e w' => e = .returned (.int .i64 (p : Int)) ∧ Below w.heap.size w w' := by
  subst hp; exact nodeOf_at l w hl
set_option maxRecDepth 100000 in
set_option maxHeartbeats 12800000 in
theorem levels_at (n : DNet) (us : List Value) (w : World) (h : rdNet 0 w.heap.size w us n) (hP : NetP n) :
    Calls Try.prog 45 #[.agg us.toArray] w fun e w' => ∃ g, e = .returned (.slice (some ⟨g, 0, none⟩) (netN n) (netN n)) ∧ OwnsI w' w.heap.size (.slice (some ⟨g, 0, none⟩) (netN n) (netN n)) (levK n n.2.2.1.length) ∧ Below w.heap.size w w' := by
  obtain ⟨i0, hi, hz0, hz1, hz2⟩ := info_parts infoI
  have HD := Lib.hid h
  have HP := Lib.hid hP
  have HSP := Lib.hid hP.sz
  have a300 := hP.sz.a300
  obtain ⟨N, hN⟩ : ∃ N : Nat, netN n = N := ⟨_, rfl⟩
  have hN3 : N ≤ 333 := by rw [← hN]; exact hP.sz.net_le.1
  have HNC := Lib.hid (show ncI n = (N : Int) by rw [hP.sz.nc, hN])
  have HN := Lib.hid hN
  rw [hN]
  clear hP hN
  obtain ⟨mu0, mu1, mu2, mu3, rfl, mh0, mh1, mh2, mh3⟩ := h
  obtain ⟨me0, -⟩ := mh0
  injection me0 with me0
  subst me0
  obtain ⟨mA1, mc1, me1, mm1, -⟩ := slice_of mh1
  subst me1
  have mR1 := Lib.hid mh1
  clear mh1
  obtain ⟨mA2, mc2, me2, mm2, -⟩ := slice_of mh2
  subst me2
  have mR2 := Lib.hid mh2
  clear mh2
  obtain ⟨mA3, mc3, me3, mm3, -⟩ := slice_of mh3
  subst me3
  have mR3 := Lib.hid mh3
  clear mh3
  go_enter Try.func45, Try.ntmps45
  go_wp2_with fail
  obtain ⟨W0, hV⟩ : ∃ W0, W0 = (w.alloc (.cells #[.int .i64 n.1, .slice mA1 (n.2.1).length mc1, .slice mA2 (n.2.2.1).length mc2, .slice mA3 (n.2.2.2).length mc3] 28)) := ⟨_, rfl⟩
  rw [← hV]
  have gN := eqbox1 hV
  have d0 : W0.cell? ⟨w.heap.size, 0, none⟩ = some (.int .i64 n.1) := box_cell gN.1 0 _ rfl
  have d1 : W0.cell? ⟨w.heap.size, 1, none⟩ = some (.slice mA1 (n.2.1).length mc1) := box_cell gN.1 1 _ rfl
  have d2 : W0.cell? ⟨w.heap.size, 2, none⟩ = some (.slice mA2 (n.2.2.1).length mc2) := box_cell gN.1 2 _ rfl
  have d3 : W0.cell? ⟨w.heap.size, 3, none⟩ = some (.slice mA3 (n.2.2.2).length mc3) := box_cell gN.1 3 _ rfl
  have sW0 : W0.heap.size = w.heap.size + 1 := by rw [hV]; simp
  have HW0 := Lib.hid gN.2
  clear hV gN
  refine (implNc_at n _ _ (rdUp good_Net HD.out HW0.out) (Nat.le_refl _) HNC.out).mono ?_
  rintro e w1 ⟨rfl, hb⟩
  have HE0 := Lib.hid d0
  have HE1 := Lib.hid d1
  have HE2 := Lib.hid d2
  have HE3 := Lib.hid d3
  replace d0 := keep hb d0
  replace d1 := keep hb d1
  replace d2 := keep hb d2
  replace d3 := keep hb d3
  have HB1 := Lib.hid (bThen HW0.out hb)
  have HB01 := Lib.hid hb
  clear hb
  go_wp2_with (at_make; refine wpList_make_full _ rfl _ _ 26 rfl w1.heap.size 3 i0 (.int .i64 0) 1 Try.underlying26 hi hz0 hz1 .i64 .i64 (N : Int) (N : Int) N rfl rfl rfl rfl (by rw [hz2]; omega) (by unfold maxLen; omega) (Nat.le_refl _) ?_; intro w2 hown1 hgrow1; replace d0 := grownC hgrow1 d0 (by intro e; cases e); replace d1 := grownC hgrow1 d1 (by intro e; cases e); replace d2 := grownC hgrow1 d2 (by intro e; cases e); replace d3 := grownC hgrow1 d3 (by intro e; cases e))
  have hO := own_makeI hown1
  have hb : Below w1.heap.size w1 w2 := (Below.refl _ _).grown hgrow1 (Nat.le_refl _) (by intro g hg; cases hg)
  obtain ⟨G, hG⟩ : ∃ G, w1.heap.size = G := ⟨_, rfl⟩
  have hGW : W0.heap.size ≤ G := by rw [← hG]; exact HB01.out.size
  have HO := Lib.hid (show OwnsI w2 W0.heap.size (.slice (some ⟨G, 0, none⟩) N N) (List.replicate N 0) by rw [← hG]; exact hO.lower HB01.out.size)
  have HB02 := Lib.hid (bThen HB01.out hb)
  rw [hG]
  clear hown1 hgrow1 hO hb hG
  clear d0 d1 d2 d3
  go_loopw [12] (fun v wr => ∃ k : Nat, k ≤ n.2.2.1.length ∧ v = .int .i64 (k : Int) ∧ OwnsI wr W0.heap.size (.slice (some ⟨G, 0, none⟩) N N) (levK n k) ∧ Below W0.heap.size W0 wr) (fun v _ => n.2.2.1.length - (intOf v).toNat)
  case atStart => exact ⟨0, Nat.zero_le _, rfl, by rw [← HN.out] at HO ⊢; exact HO.out, HB02.out⟩
  case round =>
    obtain ⟨k, hk, rfl, hown, hb⟩ := hrel
    obtain ⟨w3, rfl⟩ : ∃ w3, w3 = wr := ⟨_, rfl⟩
    clear HO HB02
    have HO := Lib.hid hown
    have HB0 := Lib.hid hb
    have HB := Lib.hid (bThen HW0.out hb)
    clear hown hb
    by_cases hlt : k < n.2.2.1.length
    · obtain ⟨a, ha⟩ : ∃ a, n.2.2.1[k]? = some a := ⟨_, List.getElem?_eq_getElem hlt⟩
      obtain ⟨x, y, rfl, hx, hy⟩ := HP.out.and_ k a ha
      have hfk : firN n + k < N := by rw [← HN.out]; unfold netN; omega
      have hlen : (levK n k).length = N := by rw [levK_len, HN.out]
      obtain ⟨f, hf⟩ : ∃ f, firN n + k = f := ⟨_, rfl⟩
      obtain ⟨p, hp⟩ : ∃ p, x / 2 = p := ⟨_, rfl⟩
      obtain ⟨q, hq⟩ : ∃ q, y / 2 = q := ⟨_, rfl⟩
      rw [hf] at hfk hx hy
      rw [hp] at hx
      rw [hq] at hy
      obtain ⟨u, hu⟩ : ∃ u, (levK n k).getD p 0 = u := ⟨_, rfl⟩
      obtain ⟨v, hv⟩ : ∃ v, (levK n k).getD q 0 = v := ⟨_, rfl⟩
      have hui := levK_in n k p
      have hvi := levK_in n k q
      rw [hu] at hui
      rw [hv] at hvi
      have HST := Lib.hid (levK_step ha (show (levK n k).getD (x / 2) 0 = u by rw [hp]; exact hu) (show (levK n k).getD (y / 2) 0 = v by rw [hq]; exact hv))
      obtain ⟨ab, aq, rfl, ab1, x0, xf, x1, yf⟩ := at_And (good_AndS.below mR2.out (Nat.le_refl _) HB.out) ha
      have ab2 := Nat.lt_of_lt_of_le ab1 HB.out.size
      unfold Fit at xf yf
      dsimp only at x0 x1 xf yf
      have hx63 : x ≤ 9223372036854775807 := by omega
      have hy63 : y ≤ 9223372036854775807 := by omega
      have hk3 : k ≤ 300 := by omega
      have c0 := keep HB0.out HE0.out
      have c1 := keep HB0.out HE1.out
      have c2 := keep HB0.out HE2.out
      have c3 := keep HB0.out HE3.out
      go_wp2_with fail
      obtain ⟨V, hV⟩ : ∃ V, V = w3.alloc (.cells #[.int .i64 (x : Int), .int .i64 (y : Int)] 38) := ⟨_, rfl⟩
      rw [← hV]
      have gN := eqbox1 hV
      have y0 : V.cell? ⟨w3.heap.size, 0, none⟩ = some (.int .i64 (x : Int)) := box_cell gN.1 0 _ rfl
      have y1 : V.cell? ⟨w3.heap.size, 1, none⟩ = some (.int .i64 (y : Int)) := box_cell gN.1 1 _ rfl
      replace c0 := keep gN.2 c0
      replace c1 := keep gN.2 c1
      replace c2 := keep gN.2 c2
      replace c3 := keep gN.2 c3
      have u0 := keep gN.2 (ownI_cell HO.out hlen (show p < N by omega)).1
      have v0 := keep gN.2 (ownI_cell HO.out hlen (show q < N by omega)).1
      rw [hu] at u0
      rw [hv] at v0
      have HV0 := Lib.hid (bThen HB0.out gN.2)
      have HBV := Lib.hid (bThen HB.out gN.2)
      have HOV := Lib.hid (HO.out.below gN.2)
      have HLEN := Lib.hid hlen
      have HF := Lib.hid hf
      have HPQ := Lib.hid (And.intro hp hq)
      clear ha hV gN x0 x1 xf yf hu hv hlen hf hp hq ab1
      have hpN : p < N := by omega
      have hqN : q < N := by omega
      have mx : max u v = if u < v then v else u := by split <;> omega
      have fs : IntKind.i64.wrap (1 + if u < v then v else u) = 1 + if u < v then v else u := by rw [← mx]; exact wrap64_int _ (by omega) (by omega)
      have HMX := Lib.hid mx
      clear mx
      have hS0 : (fun w' => Below V.heap.size V w' ∧ w'.cell? ⟨w.heap.size, 0, none⟩ = some (.int .i64 n.1) ∧ w'.cell? ⟨w.heap.size, 1, none⟩ = some (.slice mA1 (n.2.1).length mc1) ∧ w'.cell? ⟨w.heap.size, 2, none⟩ = some (.slice (some ⟨ab, aq, none⟩) (n.2.2.1).length mc2) ∧ w'.cell? ⟨w.heap.size, 3, none⟩ = some (.slice mA3 (n.2.2.2).length mc3) ∧ w'.cell? ⟨w3.heap.size, 0, none⟩ = some (.int .i64 (x : Int)) ∧ w'.cell? ⟨w3.heap.size, 1, none⟩ = some (.int .i64 (y : Int)) ∧ w'.cell? ⟨G, p, none⟩ = some (.int .i64 u) ∧ w'.cell? ⟨G, q, none⟩ = some (.int .i64 v)) V := ⟨Below.refl _ _, c0, c1, c2, c3, y0, y1, u0, v0⟩
      have hS : ∀ {w0 w' : World}, (fun w' => Below V.heap.size V w' ∧ w'.cell? ⟨w.heap.size, 0, none⟩ = some (.int .i64 n.1) ∧ w'.cell? ⟨w.heap.size, 1, none⟩ = some (.slice mA1 (n.2.1).length mc1) ∧ w'.cell? ⟨w.heap.size, 2, none⟩ = some (.slice (some ⟨ab, aq, none⟩) (n.2.2.1).length mc2) ∧ w'.cell? ⟨w.heap.size, 3, none⟩ = some (.slice mA3 (n.2.2.2).length mc3) ∧ w'.cell? ⟨w3.heap.size, 0, none⟩ = some (.int .i64 (x : Int)) ∧ w'.cell? ⟨w3.heap.size, 1, none⟩ = some (.int .i64 (y : Int)) ∧ w'.cell? ⟨G, p, none⟩ = some (.int .i64 u) ∧ w'.cell? ⟨G, q, none⟩ = some (.int .i64 v)) w0 → Below w0.heap.size w0 w' → (fun w' => Below V.heap.size V w' ∧ w'.cell? ⟨w.heap.size, 0, none⟩ = some (.int .i64 n.1) ∧ w'.cell? ⟨w.heap.size, 1, none⟩ = some (.slice mA1 (n.2.1).length mc1) ∧ w'.cell? ⟨w.heap.size, 2, none⟩ = some (.slice (some ⟨ab, aq, none⟩) (n.2.2.1).length mc2) ∧ w'.cell? ⟨w.heap.size, 3, none⟩ = some (.slice mA3 (n.2.2.2).length mc3) ∧ w'.cell? ⟨w3.heap.size, 0, none⟩ = some (.int .i64 (x : Int)) ∧ w'.cell? ⟨w3.heap.size, 1, none⟩ = some (.int .i64 (y : Int)) ∧ w'.cell? ⟨G, p, none⟩ = some (.int .i64 u) ∧ w'.cell? ⟨G, q, none⟩ = some (.int .i64 v)) w' := fun h hb => ⟨bThen h.1 hb, keep hb h.2.1, keep hb h.2.2.1, keep hb h.2.2.2.1, keep hb h.2.2.2.2.1, keep hb h.2.2.2.2.2.1, keep hb h.2.2.2.2.2.2.1, keep hb h.2.2.2.2.2.2.2.1, keep hb h.2.2.2.2.2.2.2.2⟩
      dsimp only at hS0 hS
      refine wp_region_noPanic ?_
      refine wp_region_kept 18 20 (fun w' => Below V.heap.size V w' ∧ w'.cell? ⟨w.heap.size, 0, none⟩ = some (.int .i64 n.1) ∧ w'.cell? ⟨w.heap.size, 1, none⟩ = some (.slice mA1 (n.2.1).length mc1) ∧ w'.cell? ⟨w.heap.size, 2, none⟩ = some (.slice (some ⟨ab, aq, none⟩) (n.2.2.1).length mc2) ∧ w'.cell? ⟨w.heap.size, 3, none⟩ = some (.slice mA3 (n.2.2.2).length mc3) ∧ w'.cell? ⟨w3.heap.size, 0, none⟩ = some (.int .i64 (x : Int)) ∧ w'.cell? ⟨w3.heap.size, 1, none⟩ = some (.int .i64 (y : Int)) ∧ w'.cell? ⟨G, p, none⟩ = some (.int .i64 u) ∧ w'.cell? ⟨G, q, none⟩ = some (.int .i64 v)) (by kernel_rfl) rfl (hS hS0 (Below.drew (Below.refl _ _))) (fun hK0 => ?_)
      refine Kept.take (v := ?vr0) 0 (by kernel_rfl) rfl (by kernel_rfl) (fun _ _ _ h => h) (Or.inl ⟨by rfl, ?hyr0⟩) hK0 ?restr0
      case hyr0 =>
        intro w0 hSw
        (try dsimp only at hSw)
        go_simp
        all_goals (with_reducible rfl)
      (try simp only [Act.put, List.setIfInBounds_toArray, List.set_cons_zero, List.set_cons_succ])
      refine Kept.take (v := ?vr1) 1 (by kernel_rfl) rfl (by kernel_rfl) (fun _ _ _ h => h) (Or.inl ⟨by rfl, ?hyr1⟩) hK0 ?restr1
      case hyr1 =>
        intro w0 hSw
        (try dsimp only at hSw)
        go_simp
        all_goals (with_reducible rfl)
      (try simp only [Act.put, List.setIfInBounds_toArray, List.set_cons_zero, List.set_cons_succ])
      refine Kept.take (v := ?vr2) 2 (by kernel_rfl) rfl (by kernel_rfl) (fun _ _ _ h => h) (Or.inl ⟨by rfl, ?hyr2⟩) hK0 ?restr2
      case hyr2 =>
        intro w0 hSw
        (try dsimp only at hSw)
        go_simp
        all_goals (with_reducible rfl)
      (try simp only [Act.put, List.setIfInBounds_toArray, List.set_cons_zero, List.set_cons_succ])
      refine Kept.take (v := ?vr4) 4 (by kernel_rfl) rfl (by kernel_rfl) (fun _ _ _ h => h) (Or.inl ⟨by rfl, ?hyr4⟩) hK0 ?restr4
      case hyr4 =>
        intro w0 hSw
        (try dsimp only at hSw)
        go_simp
        all_goals (with_reducible rfl)
      (try simp only [Act.put, List.setIfInBounds_toArray, List.set_cons_zero, List.set_cons_succ])
      refine Kept.take (v := ?vr5) 5 (by kernel_rfl) rfl (by kernel_rfl) (fun _ _ _ h => h) (Or.inl ⟨by rfl, ?hyr5⟩) hK0 ?restr5
      case hyr5 =>
        intro w0 hSw
        (try dsimp only at hSw)
        go_simp
        all_goals (with_reducible rfl)
      (try simp only [Act.put, List.setIfInBounds_toArray, List.set_cons_zero, List.set_cons_succ])
      refine Kept.take (v := ?vr6) 6 (by kernel_rfl) rfl (by kernel_rfl) (fun _ _ _ h => h) (Or.inl ⟨by rfl, ?hyr6⟩) hK0 ?restr6
      case hyr6 =>
        intro w0 hSw
        (try dsimp only at hSw)
        go_simp
        all_goals (with_reducible rfl)
      (try simp only [Act.put, List.setIfInBounds_toArray, List.set_cons_zero, List.set_cons_succ])
      refine Kept.take (v := ?vr10) 10 (by kernel_rfl) rfl (by kernel_rfl) (fun _ _ _ h => h) (Or.inl ⟨by rfl, ?hyr10⟩) hK0 ?restr10
      case hyr10 =>
        intro w0 hSw
        (try dsimp only at hSw)
        go_simp
        all_goals (with_reducible rfl)
      (try simp only [Act.put, List.setIfInBounds_toArray, List.set_cons_zero, List.set_cons_succ])
      refine Kept.take (v := ?vr11) 11 (by kernel_rfl) rfl (by kernel_rfl) (fun _ _ _ h => h) (Or.inl ⟨by rfl, ?hyr11⟩) hK0 ?restr11
      case hyr11 =>
        intro w0 hSw
        (try dsimp only at hSw)
        go_simp
        all_goals (with_reducible rfl)
      (try simp only [Act.put, List.setIfInBounds_toArray, List.set_cons_zero, List.set_cons_succ])
      refine Kept.take (v := ?vr12) 12 (by kernel_rfl) rfl (by kernel_rfl) (fun _ _ _ h => h) (Or.inl ⟨by rfl, ?hyr12⟩) hK0 ?restr12
      case hyr12 =>
        intro w0 hSw
        (try dsimp only at hSw)
        go_simp
        all_goals (with_reducible rfl)
      (try simp only [Act.put, List.setIfInBounds_toArray, List.set_cons_zero, List.set_cons_succ])
      refine Kept.rg (sz := 38) (g := 2) [(3, 20), (7, 24), (8, 25), (9, 26), (13, 30), (14, 31), (15, 32), (16, 33), (17, 34)] [] (fun kO vals w' => match kO with
        | 3 => vals 3 = .int .i64 (f : Int)
        | 7 => vals 7 = .int .i64 (p : Int)
        | 8 => vals 8 = .pointer (some ⟨G, p, none⟩)
        | 9 => vals 9 = .int .i64 u
        | 13 => vals 13 = .int .i64 (q : Int)
        | 14 => vals 14 = .pointer (some ⟨G, q, none⟩)
        | 15 => vals 15 = .int .i64 v
        | 16 => vals 16 = .int .i64 (if u < v then v else u)
        | 17 => vals 17 = .int .i64 (1 + if u < v then v else u)
        | _ => True) (by kernel_rfl) (by kernel_rfl) hK0 (fun _ _ _ h => h) ?hSR ?hloc ?hstep ?hend
      case hSR =>
        intro k hk vals w1 w2 h hb
        simp only [List.map_cons, List.map_nil, List.mem_cons, List.not_mem_nil, or_false] at hk
        rcases hk with rfl | rfl | rfl | rfl | rfl | rfl | rfl | rfl | rfl
        · exact h
        · exact h
        · exact h
        · exact h
        · exact h
        · exact h
        · exact h
        · exact h
        · exact h
      case hloc =>
        intro k j hk hj hne hw vals v w1 h
        simp only [List.map_cons, List.map_nil, List.mem_cons, List.not_mem_nil, or_false] at hk hj
        rcases hk with rfl | rfl | rfl | rfl | rfl | rfl | rfl | rfl | rfl <;> rcases hj with rfl | rfl | rfl | rfl | rfl | rfl | rfl | rfl | rfl <;> first | exact absurd rfl hne | exact h | exact absurd (hw.symm.trans (by kernel_rfl : _ = true)) (by decide)
      case hstep =>
        intro k t o hm ho vals wA hSA hpre
        simp only [List.mem_cons, List.not_mem_nil, or_false, Prod.mk.injEq] at hm
        rcases hm with ⟨rfl, rfl⟩ | ⟨rfl, rfl⟩ | ⟨rfl, rfl⟩ | ⟨rfl, rfl⟩ | ⟨rfl, rfl⟩ | ⟨rfl, rfl⟩ | ⟨rfl, rfl⟩ | ⟨rfl, rfl⟩ | ⟨rfl, rfl⟩
        · have ho' := Option.some.inj ho
          subst ho'
          unfold RgStep
          rw [if_pos (by rfl)]
          intro K hK
          have hSw := hSA
          (try dsimp only at hSw)
          clear hpre
          simp only [fillA, Act.put, List.setIfInBounds_toArray, List.set_cons_zero, List.set_cons_succ]
          go_simp
          go_at_call 53
          refine (andNode_to n k _ _ (rdUp good_Net HD.out (bThen HBV.out hSA.1)) (Nat.le_refl _) HSP.out hk3 HF.out).mono ?_
          rintro e wB ⟨rfl, hb⟩
          have hK' := hK (.int .i64 (f : Int)) wB (hS hSA hb) hb (upd_self _ _ _) (fun h => absurd h (by decide))
          clear hK
          simp only [fillA, Act.put, List.setIfInBounds_toArray, List.set_cons_zero, List.set_cons_succ] at hK'
          go_simp
          all_goals exact hK'
        · have ho' := Option.some.inj ho
          subst ho'
          unfold RgStep
          rw [if_pos (by rfl)]
          intro K hK
          have hSw := hSA
          (try dsimp only at hSw)
          clear hpre
          simp only [fillA, Act.put, List.setIfInBounds_toArray, List.set_cons_zero, List.set_cons_succ]
          go_simp
          go_at_call 71
          refine (nodeOf_to x _ hx63 HPQ.out.1).mono ?_
          rintro e wB ⟨rfl, hb⟩
          have hK' := hK (.int .i64 (p : Int)) wB (hS hSA hb) hb (upd_self _ _ _) (fun h => absurd h (by decide))
          clear hK
          simp only [fillA, Act.put, List.setIfInBounds_toArray, List.set_cons_zero, List.set_cons_succ] at hK'
          go_simp
          all_goals exact hK'
        · have ho' := Option.some.inj ho
          subst ho'
          have e7 : vals 7 = .int .i64 (p : Int) := hpre 7 (by kernel_rfl) (by decide)
          unfold RgStep
          rw [if_pos (by rfl)]
          intro K hK
          have hSw := hSA
          (try dsimp only at hSw)
          clear hpre
          have hK' := hK (.pointer (some ⟨G, p, none⟩)) wA hSA (Below.refl _ _) (upd_self _ _ _) (fun h => absurd h (by decide))
          clear hK
          simp only [fillA, Act.put, List.setIfInBounds_toArray, List.set_cons_zero, List.set_cons_succ] at hK' ⊢
          (try simp only [e7])
          (try simp only [e7] at hK')
          go_simp
          all_goals exact hK'
        · have ho' := Option.some.inj ho
          subst ho'
          have e8 : vals 8 = .pointer (some ⟨G, p, none⟩) := hpre 8 (by kernel_rfl) (by decide)
          unfold RgStep
          rw [if_pos (by rfl)]
          intro K hK
          have hSw := hSA
          (try dsimp only at hSw)
          clear hpre
          have hK' := hK (.int .i64 u) wA hSA (Below.refl _ _) (upd_self _ _ _) (fun h => absurd h (by decide))
          clear hK
          simp only [fillA, Act.put, List.setIfInBounds_toArray, List.set_cons_zero, List.set_cons_succ] at hK' ⊢
          (try simp only [e8])
          (try simp only [e8] at hK')
          go_simp
          all_goals exact hK'
        · have ho' := Option.some.inj ho
          subst ho'
          unfold RgStep
          rw [if_pos (by rfl)]
          intro K hK
          have hSw := hSA
          (try dsimp only at hSw)
          clear hpre
          simp only [fillA, Act.put, List.setIfInBounds_toArray, List.set_cons_zero, List.set_cons_succ]
          go_simp
          go_at_call 71
          refine (nodeOf_to y _ hy63 HPQ.out.2).mono ?_
          rintro e wB ⟨rfl, hb⟩
          have hK' := hK (.int .i64 (q : Int)) wB (hS hSA hb) hb (upd_self _ _ _) (fun h => absurd h (by decide))
          clear hK
          simp only [fillA, Act.put, List.setIfInBounds_toArray, List.set_cons_zero, List.set_cons_succ] at hK'
          go_simp
          all_goals exact hK'
        · have ho' := Option.some.inj ho
          subst ho'
          have e13 : vals 13 = .int .i64 (q : Int) := hpre 13 (by kernel_rfl) (by decide)
          unfold RgStep
          rw [if_pos (by rfl)]
          intro K hK
          have hSw := hSA
          (try dsimp only at hSw)
          clear hpre
          have hK' := hK (.pointer (some ⟨G, q, none⟩)) wA hSA (Below.refl _ _) (upd_self _ _ _) (fun h => absurd h (by decide))
          clear hK
          simp only [fillA, Act.put, List.setIfInBounds_toArray, List.set_cons_zero, List.set_cons_succ] at hK' ⊢
          (try simp only [e13])
          (try simp only [e13] at hK')
          go_simp
          all_goals exact hK'
        · have ho' := Option.some.inj ho
          subst ho'
          have e14 : vals 14 = .pointer (some ⟨G, q, none⟩) := hpre 14 (by kernel_rfl) (by decide)
          unfold RgStep
          rw [if_pos (by rfl)]
          intro K hK
          have hSw := hSA
          (try dsimp only at hSw)
          clear hpre
          have hK' := hK (.int .i64 v) wA hSA (Below.refl _ _) (upd_self _ _ _) (fun h => absurd h (by decide))
          clear hK
          simp only [fillA, Act.put, List.setIfInBounds_toArray, List.set_cons_zero, List.set_cons_succ] at hK' ⊢
          (try simp only [e14])
          (try simp only [e14] at hK')
          go_simp
          all_goals exact hK'
        · have ho' := Option.some.inj ho
          subst ho'
          have e9 : vals 9 = .int .i64 u := hpre 9 (by kernel_rfl) (by decide)
          have e15 : vals 15 = .int .i64 v := hpre 15 (by kernel_rfl) (by decide)
          unfold RgStep
          rw [if_pos (by rfl)]
          intro K hK
          have hSw := hSA
          (try dsimp only at hSw)
          clear hpre
          have hK' := hK (.int .i64 (if u < v then v else u)) wA hSA (Below.refl _ _) (upd_self _ _ _) (fun h => absurd h (by decide))
          clear hK
          simp only [fillA, Act.put, List.setIfInBounds_toArray, List.set_cons_zero, List.set_cons_succ] at hK' ⊢
          (try simp only [e9, e15])
          (try simp only [e9, e15] at hK')
          go_simp
          all_goals exact hK'
        · have ho' := Option.some.inj ho
          subst ho'
          have e16 : vals 16 = .int .i64 (if u < v then v else u) := hpre 16 (by kernel_rfl) (by decide)
          unfold RgStep
          rw [if_pos (by rfl)]
          intro K hK
          have hSw := hSA
          (try dsimp only at hSw)
          clear hpre
          have hK' := hK (.int .i64 (1 + if u < v then v else u)) wA hSA (Below.refl _ _) (upd_self _ _ _) (fun h => absurd h (by decide))
          clear hK
          simp only [fillA, Act.put, List.setIfInBounds_toArray, List.set_cons_zero, List.set_cons_succ] at hK' ⊢
          (try simp only [e16])
          (try simp only [e16] at hK')
          go_simp
          all_goals exact hK'
      intro vals wB hSB hR hap
      have e3 : vals 3 = .int .i64 (f : Int) := hR 3 (by decide)
      have e7 : vals 7 = .int .i64 (p : Int) := hR 7 (by decide)
      have e8 : vals 8 = .pointer (some ⟨G, p, none⟩) := hR 8 (by decide)
      have e9 : vals 9 = .int .i64 u := hR 9 (by decide)
      have e13 : vals 13 = .int .i64 (q : Int) := hR 13 (by decide)
      have e14 : vals 14 = .pointer (some ⟨G, q, none⟩) := hR 14 (by decide)
      have e15 : vals 15 = .int .i64 v := hR 15 (by decide)
      have e16 : vals 16 = .int .i64 (if u < v then v else u) := hR 16 (by decide)
      have e17 : vals 17 = .int .i64 (1 + if u < v then v else u) := hR 17 (by decide)
      simp only [fillA, Act.put, List.setIfInBounds_toArray, List.set_cons_zero, List.set_cons_succ]
      simp only [e3, e7, e8, e9, e13, e14, e15, e16, e17]
      clear hap hR e3 e7 e8 e9 e13 e14 e15 e16 e17
      refine Kept.tail (by rfl) (by kernel_rfl) ?_
      simp only [List.drop_succ_cons, List.drop_zero]
      obtain ⟨mm, hm⟩ : ∃ m : Int, (if u < v then v else u) = m := ⟨_, rfl⟩
      rw [hm]
      have HM2 := Lib.hid hm
      clear hm fs
      have HB4 := Lib.hid hSB.1
      have Q3 := HOV.out.below HB4.out
      have HQ3 := Lib.hid Q3
      have gf := ownI_cell Q3 HLEN.out hfk
      have t0 := gf.1
      have t1 := gf.2
      have gB := (Q3.lt G rfl).1
      have tl : (f : Int) < (N : Int) := by omega
      clear gf Q3 hSB hS0 hS y0 y1 c0 c1 c2 c3 u0 v0
      go_wp2
      refine NoPanic.normal ?_
      go_wp2
      go_roundw
      case rel =>
        have h3 := ownI_set HQ3.out HLEN.out hfk (1 + mm)
        have hst := HST.out
        rw [HF.out, HMX.out, HM2.out] at hst
        rw [hst] at h3
        exact ⟨k + 1, by omega, by go_num, h3, bSet (p := ⟨G, f, none⟩) (bThen HV0.out HB4.out) hGW _⟩
      case measure => simp [intOf]; omega
    · obtain rfl : k = n.2.2.1.length := by omega
      clear hlt
      go_wp2
      go_ret
      exact ⟨G, rfl, HO.out.lower HW0.out.size, HB.out⟩
end Go.Proofs.Ytnobdbppechccaa
