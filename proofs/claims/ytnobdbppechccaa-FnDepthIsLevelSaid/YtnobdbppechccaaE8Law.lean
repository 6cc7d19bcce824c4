/-
  The walk of the law FnDepthIsLevel.
-/
import Derived.Test.YtnobdbppechccaaNet15
import Derived.Test.YtnobdbppechccaaNetP
import Derived.Test.YtnobdbppechccaaNet13
import Derived.Test.YtnobdbppechccaaNet11
import Derived.Test.YtnobdbppechccaaNet8
import Derived.Deep.RegionHeld3
namespace Go.Proofs.Ytnobdbppechccaa
open Go.RowKit
set_option linter.unusedVariables false
set_option linter.unusedSimpArgs false

theorem OwnsI.addrN {w : World} {B n c : Nat} {A : Option Addr} {L : List Int} (h : OwnsI w B (.slice A n c) L) (hl : L.length = n) (h0 : 0 < n) : ∃ g, A = some ⟨g, 0, none⟩ := by
  rcases h.2 with ⟨e, _⟩ | ⟨g, cap, cur, e, _⟩
  · injection e with _ e2 _
    omega
  · injection e with e1 _ _
    exact ⟨g, e1⟩
set_option maxRecDepth 100000 in
set_option maxHeartbeats 25600000 in
theorem depthLevel_walk (a : Option Addr) (len cap : Nat) (zs : List Int) (w : World) (hw : IsRow .u8 w a len cap zs) :
    Calls Try.prog 3 #[.slice a len cap] w fun e w' => e = .returned (.bool true) ∧ Below w.heap.size w w' := by
  obtain ⟨iB, hiB, hzB0, hzB1, hzB2⟩ := info_parts infoB
  have HCD := Lib.hid hw.codeW
  clear hw
  by_cases hbig : 1048576 < (len : Int)
  · go_enter Try.func3, Try.ntmps3
    go_wp2_with fail
    refine (big_any a len cap _).mono ?_
    rw [decide_eq_true (by omega)]
    rintro e w1 ⟨rfl, rfl⟩
    go_wp2
    go_ret
    exact ⟨rfl, Below.refl _ _⟩
  · go_enter Try.func3, Try.ntmps3
    go_wp2_with fail
    refine (big_any a len cap _).mono ?_
    rw [decide_eq_false (by omega)]
    rintro e w1 ⟨rfl, rfl⟩
    go_wp2_with fail
    refine (drawNet_any a len cap _ HCD.out).mono ?_
    rintro e w1 ⟨us, n, rfl, ⟨hrd, hok⟩, hb⟩
    have HBW := Lib.hid hb
    have HOK := Lib.hid hok
    have HP := Lib.hid (netP_of hok)
    replace hrd := good_Net.wider hrd (Nat.zero_le _) (Nat.le_refl _)
    have HD0 := Lib.hid hrd
    clear hb hok
    obtain ⟨mu0, mu1, mu2, mu3, rfl, mh0, mh1, mh2, mh3⟩ := hrd
    obtain ⟨me0, -⟩ := mh0
    injection me0 with me0
    subst me0
    obtain ⟨mA1, mc1, me1, mm1, -⟩ := slice_of mh1
    subst me1
    have mR1 := Lib.hid mh1
    clear mh1
    obtain ⟨mA2, mc2, me2, mm2, -⟩ := slice_of mh2
    subst me2
    have mR2 := Lib.hid mh2
    clear mh2
    obtain ⟨mA3, mc3, me3, mm3, -⟩ := slice_of mh3
    subst me3
    have mR3 := Lib.hid mh3
    clear mh3
    have HD := Lib.hid HD0.out
    clear HD0
    go_wp2_with fail
    obtain ⟨W0, hV⟩ : ∃ W0, W0 = (w1.alloc (.cells #[.int .i64 n.1, .slice mA1 (n.2.1).length mc1, .slice mA2 (n.2.2.1).length mc2, .slice mA3 (n.2.2.2).length mc3] 28)) := ⟨_, rfl⟩
    rw [← hV]
    have gN := eqbox1 hV
    have d0 : W0.cell? ⟨w1.heap.size, 0, none⟩ = some (.int .i64 n.1) := box_cell gN.1 0 _ rfl
    have d1 : W0.cell? ⟨w1.heap.size, 1, none⟩ = some (.slice mA1 (n.2.1).length mc1) := box_cell gN.1 1 _ rfl
    have d2 : W0.cell? ⟨w1.heap.size, 2, none⟩ = some (.slice mA2 (n.2.2.1).length mc2) := box_cell gN.1 2 _ rfl
    have d3 : W0.cell? ⟨w1.heap.size, 3, none⟩ = some (.slice mA3 (n.2.2.2).length mc3) := box_cell gN.1 3 _ rfl
    have sW0 : W0.heap.size = w1.heap.size + 1 := by rw [hV]; simp
    have HW0 := Lib.hid gN.2
    clear hV gN
    obtain ⟨N, hN⟩ : ∃ N, netN n = N := ⟨_, rfl⟩
    have hN333 : N ≤ 333 ∧ 1 ≤ N := by have := HP.out.sz.net_le; omega
    have HN := Lib.hid hN
    obtain ⟨F1, hF1⟩ : ∃ F, firN n = F := ⟨_, rfl⟩
    have hNF : N = F1 + (n.2.2.1).length := by rw [← hN, ← hF1]; rfl
    have hF133 : 1 ≤ F1 := by have := HP.out.sz.fir_le; omega
    have ha300 : (n.2.2.1).length ≤ 300 := HP.out.sz.a300
    have HF1 := Lib.hid hF1
    have HNF := Lib.hid hNF
    have hNF2 : N ≤ F1 + (n.2.2.1).length ∧ F1 + (n.2.2.1).length ≤ N := by omega
    clear hNF
    have HNC := Lib.hid (show ncI n = (N : Int) by rw [HP.out.sz.nc, hN])
    obtain ⟨LV, hLV⟩ : ∃ L, levO n = L := ⟨_, rfl⟩
    have HLV := Lib.hid hLV
    have HLK := Lib.hid (show levK n n.2.2.1.length = LV by rw [← lev_yes HOK.out]; exact hLV)
    have HLL := Lib.hid (show LV.length = N by rw [← HLK.out, levK_len, hN])
    have HLI := Lib.hid (show ∀ j, 0 ≤ LV.getD j 0 ∧ LV.getD j 0 ≤ 300 from fun j => by have h1 := levK_in n n.2.2.1.length j; rw [← HLK.out]; omega)
    have HLF := Lib.hid (show ∀ x ∈ LV, Fit x by rw [← hLV]; exact levO_len.2)
    obtain ⟨RE, hRE⟩ : ∃ L, reachO n = L := ⟨_, rfl⟩
    have HRE := Lib.hid hRE
    have HRL := Lib.hid (show RE.length = N by rw [← hRE, reach_yes HOK.out]; unfold markL; rw [markK_len, seenL_len, hN])
    obtain ⟨R, hR⟩ : ∃ L, rootsO n = L := ⟨_, rfl⟩
    have HR := Lib.hid hR
    have HRT := Lib.hid (show rootsL n = R by rw [← hR]; unfold rootsO; rw [if_pos HOK.out])
    have hR64 : R.length ≤ 64 := by rw [← hR]; exact rootsO_len n
    have HRF := Lib.hid (show ∀ x ∈ R, Fit x by rw [← hR]; exact rootsO_in HD.out)
    clear hN hF1 hLV hRE hR
    refine (implLev_at n _ _ (rdUp good_Net HD.out HW0.out) HLV.out).mono ?_
    rintro e w2 ⟨v4, rfl, ho, hb⟩
    replace d0 := keep hb d0
    replace d1 := keep hb d1
    replace d2 := keep hb d2
    replace d3 := keep hb d3
    have HB2 := Lib.hid (bThen HW0.out hb)
    obtain ⟨A4, c4, e4, -⟩ := ho.shape
    rw [HLL.out] at e4
    subst e4
    have HO4 := Lib.hid ho
    clear ho
    clear hb
    go_wp2_with fail
    refine (implReach_at n _ _ (rdUp good_Net HD.out HB2.out) HRE.out).mono ?_
    rintro e w3 ⟨v5, rfl, ho, hb⟩
    replace d0 := keep hb d0
    replace d1 := keep hb d1
    replace d2 := keep hb d2
    replace d3 := keep hb d3
    have HB3 := Lib.hid (bThen HB2.out hb)
    replace HO4 := Lib.hid (OwnsI.below HO4.out hb)
    obtain ⟨A5, c5, e5, -, -⟩ := slice_of ho.rd
    rw [HRL.out] at e5
    subst e5
    have HO5 := Lib.hid ho
    clear ho
    clear hb
    go_wp2_with fail
    refine (implRootsO_at n _ _ (rdUp good_Net HD.out HB3.out) HR.out).mono ?_
    rintro e w4 ⟨v6, rfl, ho, hb⟩
    replace d0 := keep hb d0
    replace d1 := keep hb d1
    replace d2 := keep hb d2
    replace d3 := keep hb d3
    have HB4 := Lib.hid (bThen HB3.out hb)
    replace HO4 := Lib.hid (OwnsI.below HO4.out hb)
    replace HO5 := Lib.hid (OwnsB.below HO5.out hb)
    obtain ⟨A6, c6, e6, -⟩ := ho.shape
    subst e6
    have HO6 := Lib.hid ho
    clear ho
    clear hb
    go_wp2_with fail
    have hFI : (N : Int) - ((n.2.2.1).length : Int) = (F1 : Int) := by omega
    rw [hFI]
    clear hFI
    refine (implNetOk_at n _ _ (rdUp good_Net HD.out HB4.out) HOK.out).mono ?_
    rintro e w5 ⟨rfl, hb⟩
    replace d0 := keep hb d0
    replace d1 := keep hb d1
    replace d2 := keep hb d2
    replace d3 := keep hb d3
    have HB5 := Lib.hid (bThen HB4.out hb)
    replace HO4 := Lib.hid (OwnsI.below HO4.out hb)
    replace HO5 := Lib.hid (OwnsB.below HO5.out hb)
    replace HO6 := Lib.hid (OwnsI.below HO6.out hb)
    clear hb
    go_wp2_with fail
    refine (specNc_at n _ _ (rdUp good_Net HD.out HB5.out) (Nat.le_refl _) HNC.out).mono ?_
    rintro e w6 ⟨rfl, hb⟩
    replace d0 := keep hb d0
    replace d1 := keep hb d1
    replace d2 := keep hb d2
    replace d3 := keep hb d3
    have HB6 := Lib.hid (bThen HB5.out hb)
    replace HO4 := Lib.hid (OwnsI.below HO4.out hb)
    replace HO5 := Lib.hid (OwnsB.below HO5.out hb)
    replace HO6 := Lib.hid (OwnsI.below HO6.out hb)
    clear hb
    go_wp2_with fail
    refine (implNc_at n _ _ (rdUp good_Net HD.out HB6.out) (Nat.le_refl _) HNC.out).mono ?_
    rintro e w7 ⟨rfl, hb⟩
    replace d0 := keep hb d0
    replace d1 := keep hb d1
    replace d2 := keep hb d2
    replace d3 := keep hb d3
    have HB7 := Lib.hid (bThen HB6.out hb)
    replace HO4 := Lib.hid (OwnsI.below HO4.out hb)
    replace HO5 := Lib.hid (OwnsB.below HO5.out hb)
    replace HO6 := Lib.hid (OwnsI.below HO6.out hb)
    clear hb
    go_wp2_with fail
    refine (specRootsO_at n _ _ (rdUp good_Net HD.out HB7.out) HR.out).mono ?_
    rintro e w8 ⟨v7, rfl, ho, hb⟩
    replace d0 := keep hb d0
    replace d1 := keep hb d1
    replace d2 := keep hb d2
    replace d3 := keep hb d3
    have HB8 := Lib.hid (bThen HB7.out hb)
    replace HO4 := Lib.hid (OwnsI.below HO4.out hb)
    replace HO5 := Lib.hid (OwnsB.below HO5.out hb)
    replace HO6 := Lib.hid (OwnsI.below HO6.out hb)
    have HO7 := Lib.hid ho
    clear ho
    clear hb
    go_wp2_with fail
    refine (sameI_any _ _ _ _ R _ HO6.out HO7.out (by omega)).mono ?_
    rintro e w9 ⟨rfl, hb⟩
    replace d0 := keep hb d0
    replace d1 := keep hb d1
    replace d2 := keep hb d2
    replace d3 := keep hb d3
    have HB9 := Lib.hid (bThen HB8.out hb)
    replace HO4 := Lib.hid (OwnsI.below HO4.out hb)
    replace HO5 := Lib.hid (OwnsB.below HO5.out hb)
    replace HO6 := Lib.hid (OwnsI.below HO6.out hb)
    clear hb HO7
    have HD9 := Lib.hid (And.intro d0 (And.intro d1 (And.intro d2 d3)))
    have tF1 : ¬ (F1 : Int) < 1 := by omega
    go_wp2_with (at_make; refine wpList_make_full _ rfl _ _ 31 rfl w9.heap.size 4 iB (.bool false) 1 Try.underlying31 hiB hzB0 hzB1 .i64 .i64 (N : Int) (N : Int) N rfl rfl rfl rfl (by rw [hzB2]; omega) (by unfold maxLen; omega) (Nat.le_refl _) ?_; intro w10 hown1 hgrow1; replace d0 := grownC hgrow1 d0 (by intro e; cases e); replace d1 := grownC hgrow1 d1 (by intro e; cases e); replace d2 := grownC hgrow1 d2 (by intro e; cases e); replace d3 := grownC hgrow1 d3 (by intro e; cases e))
    have hb : Below w9.heap.size w9 w10 := (Below.refl _ _).grown hgrow1 (Nat.le_refl _) (by intro g hg; cases hg)
    have HM0 := Lib.hid (own_makeB hown1)
    have HBM := Lib.hid hb
    obtain ⟨G, hG⟩ : ∃ G, w9.heap.size = G := ⟨_, rfl⟩
    have HGE := Lib.hid hG
    rw [hG] at HM0 ⊢
    have HMN := Lib.hid (show markL n (seenL N ([] : List Int)) = List.replicate N false by rw [← HN.out]; exact markL_nil n)
    have HC0 := Lib.hid HD9.out.1
    have HC1 := Lib.hid HD9.out.2.1
    have HC2 := Lib.hid HD9.out.2.2.1
    have HC3 := Lib.hid HD9.out.2.2.2
    clear hown1 hgrow1 hb hG d0 d1 d2 d3 HD9
    go_loopw [8, 10] (fun bv v wr => ∃ i : Nat, i ≤ R.length ∧ v = .int .i64 (i : Int) ∧ bv = .int .i64 (depL LV (R.take i)) ∧ OwnsB wr G (.slice (some ⟨G, 0, none⟩) N N) (markL n (seenL N (R.take i))) ∧ Below w9.heap.size w9 wr) (fun _ v _ => R.length - (intOf v).toNat)
    case atStart => exact ⟨0, Nat.zero_le _, rfl, rfl, by rw [List.take_zero, HMN.out]; exact HM0.out, HBM.out⟩
    case round =>
      obtain ⟨i, hi, rfl, rfl, hown, hb⟩ := hrel
      obtain ⟨w11, rfl⟩ : ∃ w11, w11 = wr := ⟨_, rfl⟩
      clear HM0 HBM
      obtain ⟨ML, hML⟩ : ∃ M, markL n (seenL N (R.take i)) = M := ⟨_, rfl⟩
      rw [hML] at hown
      have HMEQ := Lib.hid hML
      have HMLL := Lib.hid (show ML.length = N by rw [← hML]; unfold markL; rw [markK_len, seenL_len])
      have hGl := hown.ltN.1
      have HM := Lib.hid hown
      have HB := Lib.hid hb
      have HBR := Lib.hid (bThen HB9.out hb)
      obtain ⟨dd, hdd⟩ : ∃ d, depL LV (R.take i) = d := ⟨_, rfl⟩
      have HDD := Lib.hid hdd
      have hdi : 0 ≤ dd ∧ dd ≤ 300 := by rw [← hdd]; exact depL_in (by omega) HLI.out _
      rw [hdd]
      have c0 := keep hb HC0.out
      have c1 := keep hb HC1.out
      have c2 := keep hb HC2.out
      have c3 := keep hb HC3.out
      clear hML hdd hown hb
      by_cases hlt : i < R.length
      · obtain ⟨x, hx⟩ : ∃ x, R[i]? = some x := ⟨_, List.getElem?_eq_getElem hlt⟩
        obtain ⟨l, hxl, hl⟩ := HP.out.root x (by rw [HRT.out]; exact List.mem_of_getElem? hx)
        subst hxl
        rw [HN.out] at hl
        have HX := Lib.hid hx
        obtain ⟨p, hp⟩ : ∃ p, l / 2 = p := ⟨_, rfl⟩
        rw [hp] at hl
        have HPL := Lib.hid hp
        obtain ⟨u, hu⟩ : ∃ u, LV.getD p 0 = u := ⟨_, rfl⟩
        have hui := HLI.out p
        rw [hu] at hui
        have HST := Lib.hid (depL_step (L := LV) hx (show LV.getD (l / 2) 0 = u by rw [hp]; exact hu))
        obtain ⟨xb, xq, hxe, xlt, xc, xf⟩ := at_Int (ownI_rd (HO6.out.below HB.out) HRF.out) hx
        unfold Fit at xf
        obtain ⟨yb, yq, hye, ylt, yc, yf⟩ := at_Int (ownI_rd (HO4.out.below HB.out) HLF.out) (show LV[p]? = some u by
          have hpl : p < LV.length := by rw [HLL.out]; exact hl
          rw [List.getD_eq_getElem?_getD, List.getElem?_eq_getElem hpl] at hu
          rw [List.getElem?_eq_getElem hpl]; simpa using hu)
        subst hxe hye
        obtain ⟨C, hC⟩ : ∃ C, coneO n (p : Int) = C := ⟨_, rfl⟩
        have HCN := Lib.hid hC
        have HCK := Lib.hid (show coneK (markL n (oneL N p)) N = C by rw [← hC, ← HN.out]; exact (cone_yes HOK.out (by rw [HN.out]; exact hl)).symm)
        have hC333 : C.length ≤ 333 := by rw [← hC]; exact (coneO_in n _).1
        have HCF := Lib.hid (show ∀ x ∈ C, Fit x by rw [← hC]; exact (coneO_in n _).2)
        have hpt : ((l : Int).tdiv 2) = (p : Int) := by rw [tdiv2, hp]
        have hpx : ((l : Int) / 2) = (p : Int) := by omega
        have hpw : IntKind.i64.wrap (p : Int) = (p : Int) := wrap64_int _ (by omega) (by omega)
        have tpN : (p : Int) < (N : Int) := by omega
        have ti : (i : Int) < (R.length : Int) := by omega
        clear hx hu hC hp
        have hS0 : (fun w' => Below w11.heap.size w11 w' ∧ w'.cell? ⟨w1.heap.size, 0, none⟩ = some (.int .i64 n.1) ∧ w'.cell? ⟨w1.heap.size, 1, none⟩ = some (.slice mA1 (n.2.1).length mc1) ∧ w'.cell? ⟨w1.heap.size, 2, none⟩ = some (.slice mA2 (n.2.2.1).length mc2) ∧ w'.cell? ⟨w1.heap.size, 3, none⟩ = some (.slice mA3 (n.2.2.2).length mc3) ∧ w'.cell? ⟨xb, xq + i, none⟩ = some (.int .i64 (l : Int))) w11 := ⟨Below.refl _ _, c0, c1, c2, c3, xc⟩
        have hS : ∀ {w0 w' : World}, (fun w' => Below w11.heap.size w11 w' ∧ w'.cell? ⟨w1.heap.size, 0, none⟩ = some (.int .i64 n.1) ∧ w'.cell? ⟨w1.heap.size, 1, none⟩ = some (.slice mA1 (n.2.1).length mc1) ∧ w'.cell? ⟨w1.heap.size, 2, none⟩ = some (.slice mA2 (n.2.2.1).length mc2) ∧ w'.cell? ⟨w1.heap.size, 3, none⟩ = some (.slice mA3 (n.2.2.2).length mc3) ∧ w'.cell? ⟨xb, xq + i, none⟩ = some (.int .i64 (l : Int))) w0 → Below w0.heap.size w0 w' → (fun w' => Below w11.heap.size w11 w' ∧ w'.cell? ⟨w1.heap.size, 0, none⟩ = some (.int .i64 n.1) ∧ w'.cell? ⟨w1.heap.size, 1, none⟩ = some (.slice mA1 (n.2.1).length mc1) ∧ w'.cell? ⟨w1.heap.size, 2, none⟩ = some (.slice mA2 (n.2.2.1).length mc2) ∧ w'.cell? ⟨w1.heap.size, 3, none⟩ = some (.slice mA3 (n.2.2.2).length mc3) ∧ w'.cell? ⟨xb, xq + i, none⟩ = some (.int .i64 (l : Int))) w' := fun h hb => ⟨bThen h.1 hb, keep hb h.2.1, keep hb h.2.2.1, keep hb h.2.2.2.1, keep hb h.2.2.2.2.1, keep hb h.2.2.2.2.2⟩
        dsimp only at hS0 hS
        by_cases hdu : dd < u
        · have HEQ := Lib.hid (show max dd u = u by omega)
          go_wp2_with fail
          refine wp_region_noPanic ?_
          refine wp_region_kept 6 8 (fun w' => Below w11.heap.size w11 w' ∧ w'.cell? ⟨w1.heap.size, 0, none⟩ = some (.int .i64 n.1) ∧ w'.cell? ⟨w1.heap.size, 1, none⟩ = some (.slice mA1 (n.2.1).length mc1) ∧ w'.cell? ⟨w1.heap.size, 2, none⟩ = some (.slice mA2 (n.2.2.1).length mc2) ∧ w'.cell? ⟨w1.heap.size, 3, none⟩ = some (.slice mA3 (n.2.2.2).length mc3) ∧ w'.cell? ⟨xb, xq + i, none⟩ = some (.int .i64 (l : Int))) (by kernel_rfl) rfl (hS hS0 (Below.drew (Below.refl _ _))) (fun hK0 => ?_)
          refine Kept.take (v := ?va0) 0 (by kernel_rfl) rfl (by kernel_rfl) (fun _ _ _ h => h) (Or.inl ⟨by rfl, ?hya0⟩) hK0 ?resta0
          case hya0 =>
            intro w0 hSw
            (try dsimp only at hSw)
            go_simp
            all_goals (with_reducible rfl)
          (try simp only [Act.put, List.setIfInBounds_toArray, List.set_cons_zero, List.set_cons_succ])
          refine Kept.take (v := ?va1) 1 (by kernel_rfl) rfl (by kernel_rfl) (fun _ _ _ h => h) (Or.inl ⟨by rfl, ?hya1⟩) hK0 ?resta1
          case hya1 =>
            intro w0 hSw
            (try dsimp only at hSw)
            go_simp
            all_goals (with_reducible rfl)
          (try simp only [Act.put, List.setIfInBounds_toArray, List.set_cons_zero, List.set_cons_succ])
          refine Kept.take (v := ?va2) 2 (by kernel_rfl) rfl (by kernel_rfl) (fun _ _ _ h => h) (Or.inl ⟨by rfl, ?hya2⟩) hK0 ?resta2
          case hya2 =>
            intro w0 hSw
            (try dsimp only at hSw)
            go_simp
            all_goals (with_reducible rfl)
          (try simp only [Act.put, List.setIfInBounds_toArray, List.set_cons_zero, List.set_cons_succ])
          refine Kept.take (v := ?va3) 3 (by kernel_rfl) rfl (by kernel_rfl) (fun _ _ _ h => h) (Or.inl ⟨by rfl, ?hya3⟩) hK0 ?resta3
          case hya3 =>
            intro w0 hSw
            (try dsimp only at hSw)
            go_simp
            all_goals (with_reducible rfl)
          (try simp only [Act.put, List.setIfInBounds_toArray, List.set_cons_zero, List.set_cons_succ])
          refine Kept.take (v := ?va4) 4 (by kernel_rfl) rfl (by kernel_rfl) (fun _ _ _ h => h) (Or.inl ⟨by rfl, ?hya4⟩) hK0 ?resta4
          case hya4 =>
            intro w0 hSw
            (try dsimp only at hSw)
            go_simp
            all_goals (with_reducible rfl)
          (try simp only [Act.put, List.setIfInBounds_toArray, List.set_cons_zero, List.set_cons_succ])
          refine Kept.take (v := ?va5) 5 (by kernel_rfl) rfl (by kernel_rfl) (fun _ _ _ h => h) (Or.inl ⟨by rfl, ?hya5⟩) hK0 ?resta5
          case hya5 =>
            intro w0 hSw
            (try dsimp only at hSw)
            go_simp
            all_goals (with_reducible rfl)
          (try simp only [Act.put, List.setIfInBounds_toArray, List.set_cons_zero, List.set_cons_succ])
          refine Kept.tail (by rfl) (by kernel_rfl) ?_
          simp only [List.drop_succ_cons, List.drop_zero]
          go_wp2_with fail
          refine (implCone_at n (p : Int) _ _ (rdUp good_Net HD.out (bThen HBR.out hK0.1)) HCN.out).mono ?_
          rintro e w12 ⟨vC, rfl, hoC, hbC⟩
          have HOC := Lib.hid (OwnsI.lower hoC hK0.1.size)
          have hK1 : Below w11.heap.size w11 w12 := bThen hK0.1 hbC
          obtain ⟨A7, c7, rfl, -⟩ := HOC.out.shape
          have HB12 := Lib.hid (bThen HB.out hK1)
          have HM12 := Lib.hid (HM.out.below hK1)
          clear hK0 hK1 hS0 hS hbC hoC c0 c1 c2 c3 xc yc
          go_wp2_with fail
          refine NoPanic.normal ?_
          go_wp2_with fail
          go_loopw [12] (fun v wr => ∃ k : Nat, k ≤ C.length ∧ v = .int .i64 (k : Int) ∧ OwnsB wr G (.slice (some ⟨G, 0, none⟩) N N) (orL ML (C.take k)) ∧ OwnsI wr w11.heap.size (.slice A7 C.length c7) C ∧ Below w9.heap.size w9 wr) (fun v _ => C.length - (intOf v).toNat)
          case atStart => exact ⟨0, Nat.zero_le _, rfl, HM12.out, HOC.out, HB12.out⟩
          case round =>
            obtain ⟨k, hk, rfl, hm, hc, hb⟩ := hrel
            obtain ⟨w13, rfl⟩ : ∃ w13, w13 = wr := ⟨_, rfl⟩
            clear HM12 HOC HB12
            have HM := Lib.hid hm
            have HC := Lib.hid hc
            have HB := Lib.hid hb
            clear hm hc hb
            by_cases hk2 : k < C.length
            · obtain ⟨z, hz⟩ : ∃ z, C[k]? = some z := ⟨_, List.getElem?_eq_getElem hk2⟩
              obtain ⟨t, hzt, ht⟩ := coneK_at (show z ∈ coneK (markL n (oneL N p)) N by rw [HCK.out]; exact List.mem_of_getElem? hz)
              subst hzt
              have HZ := Lib.hid hz
              have hml : (orL ML (C.take k)).length = N := by rw [orL_len]; exact HMLL.out
              have hne : (Value.slice A7 C.length c7).ownBlock ≠ some G := fun e => by have := HC.out.lt _ e; omega
              have mc := (OwnsB.shapeN HM.out hml ht).1
              have mf := (OwnsB.shapeN HM.out hml ht).2
              have HS := Lib.hid (OwnsB.set HM.out hml ht true)
              have HF := Lib.hid (OwnsI.setFar (t := t) (u := .bool true) HC.out hne)
              have HBS := Lib.hid (show Below w9.heap.size w9 (w13.setCell ⟨G, t, none⟩ (.bool true)) from bSet HB.out (by rw [HGE.out]; exact Nat.le_refl _) _)
              obtain ⟨zb, zq, hze, zlt, zc, zf⟩ := at_Int (ownI_rd HC.out HCF.out) hz
              unfold Fit at zf
              subst hze
              have ttN : (t : Int) < (N : Int) := by omega
              have tk : (k : Int) < (C.length : Int) := by omega
              generalize (orL ML (C.take k)).getD t false = bb at mc
              clear hz hml hne
              go_wp2
              go_roundw
              case rel => exact ⟨k + 1, by omega, by go_num, by rw [orL_step HZ.out]; exact HS.out, HF.out, HBS.out⟩
              case measure => simp [intOf]; omega
            · have ek : k = C.length := by omega
              have HM2 := Lib.hid (show OwnsB w13 G (.slice (some ⟨G, 0, none⟩) N N) (markL n (seenL N (R.take (i + 1)))) by
                have h1 := markL_root (n := n) HX.out
                rw [HN.out, HPL.out, HCK.out, HMEQ.out] at h1
                rw [← h1]
                have h2 := HM.out
                rw [ek, List.take_length] at h2
                exact h2)
              go_wp2
              go_roundw
              case rel => exact ⟨i + 1, by omega, by go_num, by rw [HST.out, HDD.out, HEQ.out], HM2.out, HB.out⟩
              case measure => simp [intOf]; omega
        · have HEQ := Lib.hid (show max dd u = dd by omega)
          go_wp2_with fail
          refine wp_region_noPanic ?_
          refine wp_region_kept 6 8 (fun w' => Below w11.heap.size w11 w' ∧ w'.cell? ⟨w1.heap.size, 0, none⟩ = some (.int .i64 n.1) ∧ w'.cell? ⟨w1.heap.size, 1, none⟩ = some (.slice mA1 (n.2.1).length mc1) ∧ w'.cell? ⟨w1.heap.size, 2, none⟩ = some (.slice mA2 (n.2.2.1).length mc2) ∧ w'.cell? ⟨w1.heap.size, 3, none⟩ = some (.slice mA3 (n.2.2.2).length mc3) ∧ w'.cell? ⟨xb, xq + i, none⟩ = some (.int .i64 (l : Int))) (by kernel_rfl) rfl (hS hS0 (Below.drew (Below.refl _ _))) (fun hK0 => ?_)
          refine Kept.take (v := ?vb0) 0 (by kernel_rfl) rfl (by kernel_rfl) (fun _ _ _ h => h) (Or.inl ⟨by rfl, ?hyb0⟩) hK0 ?restb0
          case hyb0 =>
            intro w0 hSw
            (try dsimp only at hSw)
            go_simp
            all_goals (with_reducible rfl)
          (try simp only [Act.put, List.setIfInBounds_toArray, List.set_cons_zero, List.set_cons_succ])
          refine Kept.take (v := ?vb1) 1 (by kernel_rfl) rfl (by kernel_rfl) (fun _ _ _ h => h) (Or.inl ⟨by rfl, ?hyb1⟩) hK0 ?restb1
          case hyb1 =>
            intro w0 hSw
            (try dsimp only at hSw)
            go_simp
            all_goals (with_reducible rfl)
          (try simp only [Act.put, List.setIfInBounds_toArray, List.set_cons_zero, List.set_cons_succ])
          refine Kept.take (v := ?vb2) 2 (by kernel_rfl) rfl (by kernel_rfl) (fun _ _ _ h => h) (Or.inl ⟨by rfl, ?hyb2⟩) hK0 ?restb2
          case hyb2 =>
            intro w0 hSw
            (try dsimp only at hSw)
            go_simp
            all_goals (with_reducible rfl)
          (try simp only [Act.put, List.setIfInBounds_toArray, List.set_cons_zero, List.set_cons_succ])
          refine Kept.take (v := ?vb3) 3 (by kernel_rfl) rfl (by kernel_rfl) (fun _ _ _ h => h) (Or.inl ⟨by rfl, ?hyb3⟩) hK0 ?restb3
          case hyb3 =>
            intro w0 hSw
            (try dsimp only at hSw)
            go_simp
            all_goals (with_reducible rfl)
          (try simp only [Act.put, List.setIfInBounds_toArray, List.set_cons_zero, List.set_cons_succ])
          refine Kept.take (v := ?vb4) 4 (by kernel_rfl) rfl (by kernel_rfl) (fun _ _ _ h => h) (Or.inl ⟨by rfl, ?hyb4⟩) hK0 ?restb4
          case hyb4 =>
            intro w0 hSw
            (try dsimp only at hSw)
            go_simp
            all_goals (with_reducible rfl)
          (try simp only [Act.put, List.setIfInBounds_toArray, List.set_cons_zero, List.set_cons_succ])
          refine Kept.take (v := ?vb5) 5 (by kernel_rfl) rfl (by kernel_rfl) (fun _ _ _ h => h) (Or.inl ⟨by rfl, ?hyb5⟩) hK0 ?restb5
          case hyb5 =>
            intro w0 hSw
            (try dsimp only at hSw)
            go_simp
            all_goals (with_reducible rfl)
          (try simp only [Act.put, List.setIfInBounds_toArray, List.set_cons_zero, List.set_cons_succ])
          refine Kept.tail (by rfl) (by kernel_rfl) ?_
          simp only [List.drop_succ_cons, List.drop_zero]
          go_wp2_with fail
          refine (implCone_at n (p : Int) _ _ (rdUp good_Net HD.out (bThen HBR.out hK0.1)) HCN.out).mono ?_
          rintro e w12 ⟨vC, rfl, hoC, hbC⟩
          have HOC := Lib.hid (OwnsI.lower hoC hK0.1.size)
          have hK1 : Below w11.heap.size w11 w12 := bThen hK0.1 hbC
          obtain ⟨A7, c7, rfl, -⟩ := HOC.out.shape
          have HB12 := Lib.hid (bThen HB.out hK1)
          have HM12 := Lib.hid (HM.out.below hK1)
          clear hK0 hK1 hS0 hS hbC hoC c0 c1 c2 c3 xc yc
          go_wp2_with fail
          refine NoPanic.normal ?_
          go_wp2_with fail
          go_loopw [12] (fun v wr => ∃ k : Nat, k ≤ C.length ∧ v = .int .i64 (k : Int) ∧ OwnsB wr G (.slice (some ⟨G, 0, none⟩) N N) (orL ML (C.take k)) ∧ OwnsI wr w11.heap.size (.slice A7 C.length c7) C ∧ Below w9.heap.size w9 wr) (fun v _ => C.length - (intOf v).toNat)
          case atStart => exact ⟨0, Nat.zero_le _, rfl, HM12.out, HOC.out, HB12.out⟩
          case round =>
            obtain ⟨k, hk, rfl, hm, hc, hb⟩ := hrel
            obtain ⟨w13, rfl⟩ : ∃ w13, w13 = wr := ⟨_, rfl⟩
            clear HM12 HOC HB12
            have HM := Lib.hid hm
            have HC := Lib.hid hc
            have HB := Lib.hid hb
            clear hm hc hb
            by_cases hk2 : k < C.length
            · obtain ⟨z, hz⟩ : ∃ z, C[k]? = some z := ⟨_, List.getElem?_eq_getElem hk2⟩
              obtain ⟨t, hzt, ht⟩ := coneK_at (show z ∈ coneK (markL n (oneL N p)) N by rw [HCK.out]; exact List.mem_of_getElem? hz)
              subst hzt
              have HZ := Lib.hid hz
              have hml : (orL ML (C.take k)).length = N := by rw [orL_len]; exact HMLL.out
              have hne : (Value.slice A7 C.length c7).ownBlock ≠ some G := fun e => by have := HC.out.lt _ e; omega
              have mc := (OwnsB.shapeN HM.out hml ht).1
              have mf := (OwnsB.shapeN HM.out hml ht).2
              have HS := Lib.hid (OwnsB.set HM.out hml ht true)
              have HF := Lib.hid (OwnsI.setFar (t := t) (u := .bool true) HC.out hne)
              have HBS := Lib.hid (show Below w9.heap.size w9 (w13.setCell ⟨G, t, none⟩ (.bool true)) from bSet HB.out (by rw [HGE.out]; exact Nat.le_refl _) _)
              obtain ⟨zb, zq, hze, zlt, zc, zf⟩ := at_Int (ownI_rd HC.out HCF.out) hz
              unfold Fit at zf
              subst hze
              have ttN : (t : Int) < (N : Int) := by omega
              have tk : (k : Int) < (C.length : Int) := by omega
              generalize (orL ML (C.take k)).getD t false = bb at mc
              clear hz hml hne
              go_wp2
              go_roundw
              case rel => exact ⟨k + 1, by omega, by go_num, by rw [orL_step HZ.out]; exact HS.out, HF.out, HBS.out⟩
              case measure => simp [intOf]; omega
            · have ek : k = C.length := by omega
              have HM2 := Lib.hid (show OwnsB w13 G (.slice (some ⟨G, 0, none⟩) N N) (markL n (seenL N (R.take (i + 1)))) by
                have h1 := markL_root (n := n) HX.out
                rw [HN.out, HPL.out, HCK.out, HMEQ.out] at h1
                rw [← h1]
                have h2 := HM.out
                rw [ek, List.take_length] at h2
                exact h2)
              go_wp2
              go_roundw
              case rel => exact ⟨i + 1, by omega, by go_num, by rw [HST.out, HDD.out, HEQ.out], HM2.out, HB.out⟩
              case measure => simp [intOf]; omega
      · have ei : i = R.length := by omega
        have HDE := Lib.hid (show depO n = dd by rw [← HDD.out, ei, List.take_length]; unfold depO; rw [HOK.out, if_pos rfl, HLV.out, HRT.out])
        have HME := Lib.hid (show ML = RE by rw [← HMEQ.out, ei, List.take_length, ← HRE.out, reach_yes HOK.out, HRT.out, HN.out])
        clear HDD HMEQ ei hGl
        go_wp2_with fail
        clear hlt hi
        go_loopw [13] (fun v wr => ∃ k : Nat, k ≤ (n.2.2.1).length ∧ v = .int .i64 (k : Int) ∧ OwnsB wr G (.slice (some ⟨G, 0, none⟩) N N) ML ∧ Below w9.heap.size w9 wr) (fun v _ => (n.2.2.1).length - (intOf v).toNat)
        case atStart => exact ⟨0, Nat.zero_le _, rfl, HM.out, HB.out⟩
        case round =>
          obtain ⟨k, hk, rfl, hm, hb⟩ := hrel
          obtain ⟨w13, rfl⟩ : ∃ w13, w13 = wr := ⟨_, rfl⟩
          clear HM HB HBR c0 c1 c2 c3
          have HM := Lib.hid hm
          have HB := Lib.hid hb
          have HBR := Lib.hid (bThen HB9.out hb)
          have c0 := keep hb HC0.out
          have c1 := keep hb HC1.out
          have c2 := keep hb HC2.out
          have c3 := keep hb HC3.out
          clear hm hb
          by_cases hlt : k < (n.2.2.1).length
          · obtain ⟨ad, ha⟩ : ∃ a, n.2.2.1[k]? = some a := ⟨_, List.getElem?_eq_getElem hlt⟩
            obtain ⟨x, y, hae, hx, hy⟩ := HP.out.and_ k _ ha
            subst hae
            rw [HF1.out] at hx hy
            have hfN : F1 + k < N := by omega
            have hL0 := levK_edge HP.out ha hlt (by rw [HF1.out, HN.out]; exact hfN)
            rw [HLK.out, HF1.out] at hL0
            have hM0 : ML.getD (F1 + k) false = true → ML.getD (x / 2) false = true ∧ ML.getD (y / 2) false = true := by
              intro ht
              have h1 := markL_edge HP.out (M := seenL (netN n) (rootsL n)) (seenL_len _ _) ha (by rw [HF1.out, HN.out]; exact hfN)
              have h2 : markL n (seenL (netN n) (rootsL n)) = ML := by rw [HME.out, ← HRE.out, reach_yes HOK.out]
              rw [h2, HF1.out] at h1
              exact h1 ht
            obtain ⟨ab, aq, hab, ab1, x0, xf, x1, yf⟩ := at_And (good_AndS.below mR2.out (Nat.le_refl _) HBR.out) ha
            have ab2 := Nat.lt_of_lt_of_le ab1 HBR.out.size
            unfold Fit at xf yf
            dsimp only at x0 x1 xf yf
            subst hab
            obtain ⟨p, hp⟩ : ∃ p, x / 2 = p := ⟨_, rfl⟩
            obtain ⟨q, hq⟩ : ∃ q, y / 2 = q := ⟨_, rfl⟩
            obtain ⟨f, hf⟩ : ∃ f, F1 + k = f := ⟨_, rfl⟩
            have hEw : IntKind.i64.wrap ((F1 : Int) + (k : Int)) = (f : Int) := by rw [wrap64_int _ (by omega) (by omega)]; omega
            have hEf : ((F1 : Int) + (k : Int)) = (f : Int) := by omega
            have hpx : ((x : Int) / 2) = (p : Int) := by omega
            have hqy : ((y : Int) / 2) = (q : Int) := by omega
            have hpt : ((x : Int).tdiv 2) = (p : Int) := by rw [tdiv2, hp]
            have hqt : ((y : Int).tdiv 2) = (q : Int) := by rw [tdiv2, hq]
            rw [hf] at hfN hL0 hM0 hx hy
            rw [hp] at hL0 hM0 hx
            rw [hq] at hL0 hM0 hy
            have hpN : p < N := by omega
            have hqN : q < N := by omega
            have hpw : IntKind.i64.wrap (p : Int) = (p : Int) := wrap64_int _ (by omega) (by omega)
            have hqw : IntKind.i64.wrap (q : Int) = (q : Int) := wrap64_int _ (by omega) (by omega)
            have tfN : (f : Int) < (N : Int) := by omega
            have tpN : (p : Int) < (N : Int) := by omega
            have tqN : (q : Int) < (N : Int) := by omega
            have tk : (k : Int) < ((n.2.2.1).length : Int) := by omega
            obtain ⟨g4, hg4⟩ := OwnsI.addrN HO4.out HLL.out (by omega)
            subst hg4
            have l0 := (ownI_cell (HO4.out.below HB.out) HLL.out hfN).1
            have l1 := (ownI_cell (HO4.out.below HB.out) HLL.out hpN).1
            have l2 := (ownI_cell (HO4.out.below HB.out) HLL.out hqN).1
            have m0 := (OwnsB.shapeN HM.out HMLL.out hfN).1
            have m1 := (OwnsB.shapeN HM.out HMLL.out hpN).1
            have m2 := (OwnsB.shapeN HM.out HMLL.out hqN).1
            have i1 := HLI.out p
            have i2 := HLI.out q
            rw [hL0] at l0
            obtain ⟨u, hu⟩ : ∃ u, LV.getD p 0 = u := ⟨_, rfl⟩
            obtain ⟨v, hv⟩ : ∃ v, LV.getD q 0 = v := ⟨_, rfl⟩
            rw [hu] at l0 l1 i1
            rw [hv] at l0 l2 i2
            obtain ⟨b0, hb0⟩ : ∃ b, ML.getD f false = b := ⟨_, rfl⟩
            obtain ⟨b1, hb1⟩ : ∃ b, ML.getD p false = b := ⟨_, rfl⟩
            obtain ⟨b2, hb2⟩ : ∃ b, ML.getD q false = b := ⟨_, rfl⟩
            rw [hb0] at m0 hM0
            rw [hb1] at m1 hM0
            rw [hb2] at m2 hM0
            clear ha hL0 hu hv hb0 hb1 hb2 hf hp hq hx hy ab1 HDE HME
            go_wp2_with fail
            obtain ⟨W4, hV⟩ : ∃ W4, W4 = w13.alloc (.cells #[.int .i64 (x : Int), .int .i64 (y : Int)] 38) := ⟨_, rfl⟩
            rw [← hV]
            have gN := eqbox1 hV
            have y0 : W4.cell? ⟨w13.heap.size, 0, none⟩ = some (.int .i64 (x : Int)) := box_cell gN.1 0 _ rfl
            have y1 : W4.cell? ⟨w13.heap.size, 1, none⟩ = some (.int .i64 (y : Int)) := box_cell gN.1 1 _ rfl
            have k0 := keep gN.2 l0
            have k1 := keep gN.2 l1
            have k2 := keep gN.2 l2
            have n0 := keep gN.2 m0
            have n1 := keep gN.2 m1
            have n2 := keep gN.2 m2
            have HM4 := Lib.hid (HM.out.below gN.2)
            have HB4 := Lib.hid (bThen HB.out gN.2)
            clear hV gN c0 c1 c2 c3 x0 x1 l0 l1 l2 m0 m1 m2 HM HB HBR
            by_cases hdu : u < v
            · have hmx : max u v = v := by omega
              rw [hmx] at k0
              clear hmx
              cases b0 with
              | false =>
                go_quiet (fail)
                go_wp2
                go_roundw
                case rel => exact ⟨k + 1, by omega, by go_num, HM4.out, by have hB := HB4.out; (repeat' (first | assumption | exact Below.refl _ _ | refine bDrewN ?_ _ | refine Below.drew ?_ | refine bAlloc ?_ (Nat.le_refl _) _ | refine bSet ?_ (by first | exact Nat.le_refl _ | omega | (simp <;> omega)) _))⟩
                case measure => simp [intOf]; omega
              | true =>
                obtain ⟨rfl, rfl⟩ := hM0 rfl
                go_quiet (fail)
                go_wp2
                go_roundw
                case rel => exact ⟨k + 1, by omega, by go_num, HM4.out, by have hB := HB4.out; (repeat' (first | assumption | exact Below.refl _ _ | refine bDrewN ?_ _ | refine Below.drew ?_ | refine bAlloc ?_ (Nat.le_refl _) _ | refine bSet ?_ (by first | exact Nat.le_refl _ | omega | (simp <;> omega)) _))⟩
                case measure => simp [intOf]; omega
            · have hmx : max u v = u := by omega
              rw [hmx] at k0
              clear hmx
              cases b0 with
              | false =>
                go_quiet (fail)
                go_wp2
                go_roundw
                case rel => exact ⟨k + 1, by omega, by go_num, HM4.out, by have hB := HB4.out; (repeat' (first | assumption | exact Below.refl _ _ | refine bDrewN ?_ _ | refine Below.drew ?_ | refine bAlloc ?_ (Nat.le_refl _) _ | refine bSet ?_ (by first | exact Nat.le_refl _ | omega | (simp <;> omega)) _))⟩
                case measure => simp [intOf]; omega
              | true =>
                obtain ⟨rfl, rfl⟩ := hM0 rfl
                go_quiet (fail)
                go_wp2
                go_roundw
                case rel => exact ⟨k + 1, by omega, by go_num, HM4.out, by have hB := HB4.out; (repeat' (first | assumption | exact Below.refl _ _ | refine bDrewN ?_ _ | refine Below.drew ?_ | refine bAlloc ?_ (Nat.le_refl _) _ | refine bSet ?_ (by first | exact Nat.le_refl _ | omega | (simp <;> omega)) _))⟩
                case measure => simp [intOf]; omega
          · have ek : k = (n.2.2.1).length := by omega
            go_wp2_with fail
            refine (implDep_at n _ _ (rdUp good_Net HD.out HBR.out) HDE.out).mono ?_
            rintro e w14 ⟨rfl, hb⟩
            have HB14 := Lib.hid (bThen HB.out hb)
            have HM14 := Lib.hid (HM.out.below hb)
            have HO14 := Lib.hid (HO5.out.below HB14.out)
            clear hb c0 c1 c2 c3
            go_wp2_with fail
            have h1 := HM14.out.rd
            rw [HME.out] at h1
            refine (sameB_any RE _ _ _ h1 HO14.out.rd (Nat.le_refl _) (Nat.le_refl _)).mono ?_
            rintro e w15 ⟨rfl, hb⟩
            have HB15 := Lib.hid (bThen (bThen HB9.out (bThen HB14.out hb)) (Below.refl _ _))
            clear hb h1
            go_wp2
            go_ret
            exact ⟨rfl, bThen HBW.out HB15.out⟩
end Go.Proofs.Ytnobdbppechccaa
