/-
  Sweep: the specification.
-/
import Derived.Test.YtedamhkcblemdaaHeA
import Derived.Test.YtedamhkcblemdaaHcP
import Derived.Test.YtedamhkcblemdaaHcC
import Derived.Test.YtedamhkcblemdaaNeC
import Derived.Test.YtedamhkcblemdaaHiL
import Derived.Deep.RegionHeld3
namespace Go.Proofs.Ytedamhkcblemdaa
open Go.RowKit
set_option linter.unusedVariables false
set_option linter.unusedSimpArgs false

theorem two_rd {w : World} {b : Nat} {x y : Int} (h : w.heap[b]? = some (.cells #[.int .i64 x, .int .i64 y] 3 (0, 0))) (hl : b < w.heap.size) (hf : ∀ z ∈ [x, y], Fit z) : rdIntS 0 w.heap.size w [.slice (some ⟨b, 0, none⟩) 2 2] [x, y] := by
  refine ⟨_, _, rfl, ⟨by simp [maxLen], by simp⟩, fun j hj => ⟨b, 0, rfl, Nat.zero_le _, hl, [.int .i64 ([x, y][j])], rfl, fun i u hu => ?_, ?_⟩⟩
  · cases i with
    | succ i => cases hu
    | zero =>
      injection hu with hu
      subst hu
      rw [Nat.add_zero, Nat.mul_one, Nat.zero_add]
      match j, hj with
      | 0, _ => exact box_cell h 0 _ rfl
      | 1, _ => exact box_cell h 1 _ rfl
  · exact ⟨rfl, hf _ (List.getElem_mem hj)⟩
theorem CopyAt.setO {w0 w : World} {F G N : Nat} {v1 vA v3 v : Value} {rows : List V3} {bs : List Nat} {n : DNet} {I : List Int} (h : CopyAt w0 w F G v1 vA v3 rows bs n) (hv : OwnsI w N v I) (hf : ∀ x ∈ I, Fit x) (hN : w0.heap.size + 2 ≤ N) (hGN : G < N) (hFN : ∀ b ∈ blkL v1 ++ (bs ++ blkL vA), b < N) :
    CopyAt w0 (w.setCell ⟨G, 3, none⟩ v) F G v1 vA v rows bs (n.1, n.2.1, n.2.2.1, I) := by
  have hvb : ∀ b ∈ blkL v, N ≤ b ∧ b < w.heap.size := fun b hb => hv.lt b (mem_blkL.1 hb)
  have hF2 := h.hF2
  have hGg := h.hG
  have hrow : OwnsR fInt 1 TInt1 w (w0.heap.size + 2) v I := by unfold OwnsR; rw [flat_vI]; exact hv.lower hN
  refine ⟨h.box.set3 v, h.res.at (Below.heap_setCell w _ _ F (by show F ≠ G; omega)), ⟨h.net.s.far gow_Seq (fun hb => h.off G (by rcases List.mem_append.1 hb with hb | hb <;> simp [hb]) rfl), h.net.a.far gow_And (fun hb => h.off G (by simp only [List.append_nil] at hb; simp [hb]) rfl), GrR.far owInt_good (gr_flat hrow (fun x hx => ⟨rfl, rfl, hf x hx⟩)) (fun hb => by have := (hvb G (by simpa using hb)).1; omega), h.net.sa, fun b hb hm => ?_, fun b hb hm => ?_, h.net.fit⟩, fun b hb => ?_, bSet h.chg (by show w0.heap.size ≤ G; omega) _, h.hF, h.hF2, h.hG⟩
  · have h1 := (hvb b hm).1
    have h2 := hFN b (by rcases List.mem_append.1 hb with hb | hb <;> simp [hb])
    omega
  · have h1 := (hvb b hm).1
    have h2 := hFN b (by simp [hb])
    omega
  · by_cases hm : b ∈ blkL v
    · have h1 := (hvb b hm).1
      omega
    · refine h.off b ?_
      simp only [List.mem_append] at hb ⊢
      rcases hb with h1 | h1 | h1 | h1
      · exact .inl h1
      · exact .inr (.inl h1)
      · exact .inr (.inr (.inl h1))
      · exact absurd h1 hm
set_option maxRecDepth 100000 in
set_option maxHeartbeats 25600000 in
theorem specSweep_at (n : DNet) (us : List Value) (w : World) (h : rdNet 0 w.heap.size w us n) {m : DNet} (hL : sweepO n = m) :
    Calls Try.prog 38 #[.agg us.toArray] w fun e w' => ∃ v1 vA v3 rows bs, e = .returned (.agg #[.int .i64 m.1, v1, vA, v3]) ∧ NetG w.heap.size w' v1 vA v3 rows bs m ∧ Below w.heap.size w w' := by
  obtain ⟨i0, hi, hz0, hz1, hz2⟩ := info_parts infoI
  obtain ⟨iA, hiA, hzA0, hzA1, hzA2⟩ := info_parts infoA1
  have HIiA := Lib.hid (And.intro hiA (And.intro hzA0 (And.intro hzA1 hzA2)))
  clear hiA hzA0 hzA1 hzA2
  have HD := Lib.hid h
  have HX := Lib.hid hL
  obtain ⟨f, hf⟩ : ∃ f, netB n = f := ⟨_, rfl⟩
  have HF := Lib.hid hf
  clear hL hf
  obtain ⟨mu0, mu1, mu2, mu3, rfl, mh0, mh1, mh2, mh3⟩ := h
  obtain ⟨me0, -⟩ := mh0
  injection me0 with me0
  subst me0
  obtain ⟨mA1, mc1, me1, mm1, -⟩ := slice_of mh1
  subst me1
  have mR1 := Lib.hid mh1
  clear mh1
  obtain ⟨mA2, mc2, me2, mm2, -⟩ := slice_of mh2
  subst me2
  have mR2 := Lib.hid mh2
  clear mh2
  obtain ⟨mA3, mc3, me3, mm3, -⟩ := slice_of mh3
  subst me3
  have mR3 := Lib.hid mh3
  clear mh3
  go_enter Try.func38, Try.ntmps38
  go_wp2_with fail
  obtain ⟨W0, hV⟩ : ∃ W0, W0 = ((w.alloc (.cells #[.int .i64 n.1, .slice mA1 (n.2.1).length mc1, .slice mA2 (n.2.2.1).length mc2, .slice mA3 (n.2.2.2).length mc3] 36)).alloc (.cells #[.int .i64 0, .slice none 0 0, .slice none 0 0, .slice none 0 0] 36)) := ⟨_, rfl⟩
  rw [← hV]
  have gN := eqbox2 hV
  have d0 : W0.cell? ⟨w.heap.size, 0, none⟩ = some (.int .i64 n.1) := box_cell gN.1 0 _ rfl
  have d1 : W0.cell? ⟨w.heap.size, 1, none⟩ = some (.slice mA1 (n.2.1).length mc1) := box_cell gN.1 1 _ rfl
  have d2 : W0.cell? ⟨w.heap.size, 2, none⟩ = some (.slice mA2 (n.2.2.1).length mc2) := box_cell gN.1 2 _ rfl
  have d3 : W0.cell? ⟨w.heap.size, 3, none⟩ = some (.slice mA3 (n.2.2.2).length mc3) := box_cell gN.1 3 _ rfl
  have HB := Lib.hid gN.2.2
  have HRES := Lib.hid (show BoxN W0 (w.heap.size + 1) (.int .i64 0) vNil vNil vNil from gN.2.1)
  clear hV gN
  refine (specNetOk_at n _ _ (rdUp good_Net HD.out HB.out) HF.out).mono ?_
  rintro e w1 ⟨rfl, hb⟩
  replace d0 := keep hb d0
  replace d1 := keep hb d1
  replace d2 := keep hb d2
  replace d3 := keep hb d3
  replace HB := Lib.hid (bThen HB.out hb)
  replace HRES := Lib.hid (HRES.out.at (hb.block _ HRES.out.lt))
  clear hb
  cases f with
  | false =>
    obtain rfl : zeroN = m := (show sweepO n = zeroN by unfold sweepO; rw [if_neg (by rw [HF.out]; decide)]).symm.trans HX.out
    have f0 := HRES.out.cells.1.1
    have f1 := HRES.out.cells.1.2.1
    have f2 := HRES.out.cells.1.2.2.1
    have f3 := HRES.out.cells.1.2.2.2
    have fz := HRES.out.cells.2
    go_wp2
    ((try simp only [Exit.inBlock, Exit.then]); refine bodyPost_ret (v := (.agg #[.int .i64 0, .slice none 0 0, .slice none 0 0, .slice none 0 0])) (by rw [results_cell1 rfl]; go_simp) rfl ?_)
    have P2 := bSet (bSet (bSet (bSet HB.out (p := ⟨w.heap.size + 1, 0, none⟩) (Nat.le_succ _) (.int .i64 0)) (p := ⟨w.heap.size + 1, 1, none⟩) (Nat.le_succ _) (.slice none 0 0)) (p := ⟨w.heap.size + 1, 2, none⟩) (Nat.le_succ _) (.slice none 0 0)) (p := ⟨w.heap.size + 1, 3, none⟩) (Nat.le_succ _) (.slice none 0 0)
    exact ⟨_, _, _, [], [], rfl, ⟨GrR.nil _ _ _ _ _ _, GrR.nil _ _ _ _ _ _, GrR.nil _ _ _ _ _ _, (fun b hb hm => by simp [blkL_nil] at hm), (fun b hb hm => by simp [blkL_nil] at hm), (fun b hb hm => by simp [blkL_nil] at hm), by unfold zeroN Fit; omega⟩, P2⟩
  | true =>
    have hP := netP_of HF.out
    have HP := Lib.hid hP
    have a300 := hP.sz.a300
    have s12 := hP.sz.s12
    have h33 : firN n ≤ 33 := by have := hP.sz.i20; unfold firN; omega
    obtain ⟨R, hR⟩ : ∃ R, reachO n = R := ⟨_, rfl⟩
    have HR := Lib.hid hR
    have HRL := Lib.hid (show R.length = firN n + n.2.2.1.length by rw [← hR]; unfold reachO; rw [if_pos (netB_of hP)]; unfold markL; rw [markK_len, seenL_len]; rfl)
    clear hP hR
    go_wp2_with fail
    refine (specReach_at n _ _ (rdUp good_Net HD.out HB.out) HR.out).mono ?_
    rintro e w2 ⟨vr, rfl, hor, hb⟩
    replace d0 := keep hb d0
    replace d1 := keep hb d1
    replace d2 := keep hb d2
    replace d3 := keep hb d3
    replace HB := Lib.hid (bThen HB.out hb)
    replace HRES := Lib.hid (HRES.out.at (hb.block _ HRES.out.lt))
    have HSZ2 := Lib.hid (show w.heap.size + 2 ≤ w2.heap.size by have := HRES.out.lt; omega)
    obtain ⟨rA, rc, rfl, hrs⟩ := OwnsR.shape fB_len hor
    have HRS := Lib.hid hrs
    clear hor hrs
    clear hb
    have HE2 := Lib.hid (And.intro d0 (And.intro d1 (And.intro d2 d3)))
    have HBW2 := Lib.hid HB.out
    go_wp2_with fail
    refine (specEmpty_at n _ _ (rdUp good_Net HD.out HB.out) HP.out).mono ?_
    rintro e w3 ⟨v1, rows, bs, vt, rfl, hnet, hto, hdj, hb⟩
    replace d0 := keep hb d0
    replace d1 := keep hb d1
    replace d2 := keep hb d2
    replace d3 := keep hb d3
    replace HB := Lib.hid (bThen HB.out hb)
    replace HRES := Lib.hid (HRES.out.at (hb.block _ HRES.out.lt))
    have HSZ3 := Lib.hid hb.size
    obtain ⟨A1, c1, rfl⟩ := hnet.s.cap fV3_len
    obtain ⟨tA, tc, rfl, -⟩ := hto.shape
    have HTO := Lib.hid hto
    have HTO3 := Lib.hid hto
    have HB26 := Lib.hid hb
    have HDJ := Lib.hid hdj
    have HV1 := Lib.hid (show ∀ b ∈ blkL (Value.slice A1 (emptyN n).2.1.length c1), w2.heap.size ≤ b from fun b hb => (hnet.lt (b := b) (by simp [hb])).2)
    have HNET0 := Lib.hid hnet
    clear hto hdj hnet
    clear hb
    have hFw := HRES.out.lt
    have hw2 : w.heap.size + 2 ≤ w2.heap.size := HSZ2.out
    have HNET := Lib.hid (HNET0.out.lower hw2)
    have hw3 : w2.heap.size ≤ w3.heap.size := HSZ3.out
    clear HNET0
    have hlt0 : w.heap.size < w3.heap.size := by omega
    go_wp2_with fail
    obtain ⟨W5, hW5⟩ : ∃ x, x = w3.alloc (.cells #[.int .i64 n.1, .slice A1 (emptyN n).2.1.length c1, .slice none 0 0, .slice none 0 0] 36) := ⟨_, rfl⟩
    rw [← hW5]
    have hb5 : Below w3.heap.size w3 W5 := by rw [hW5]; exact bAlloc (Below.refl _ _) (Nat.le_refl _) _
    have HC := Lib.hid (CopyAt.init (w0 := w) (n := emptyN n) hW5 HRES.out HNET.out HB.out (Nat.le_succ _) (by omega) (by omega))
    obtain ⟨G, hG⟩ : ∃ G, w3.heap.size = G := ⟨_, rfl⟩
    rw [hG] at HC ⊢
    replace d0 := keep hb5 d0
    replace d1 := keep hb5 d1
    replace d2 := keep hb5 d2
    replace d3 := keep hb5 d3
    replace HB := Lib.hid (bThen HB.out hb5)
    replace HTO := Lib.hid (HTO.out.below hb5)
    replace HB26 := Lib.hid (bThen HB26.out hb5)
    have hG3 := Nat.le_of_eq hG
    clear hW5 hG hb5 HNET HRES
    refine (specFirst_at n _ _ (rdUp good_Net HD.out HB.out) (Nat.le_refl _) HP.out.sz).mono ?_
    rintro e w6 ⟨rfl, hb⟩
    replace d0 := keep hb d0
    replace d1 := keep hb d1
    replace d2 := keep hb d2
    replace d3 := keep hb d3
    replace HB := Lib.hid (bThen HB.out hb)
    replace HTO := Lib.hid (HTO.out.below hb)
    replace HC := Lib.hid (HC.out.below hb)
    replace HB26 := Lib.hid (bThen HB26.out hb)
    clear hb
    go_wp2
    have HE := Lib.hid (show w2.cell? ⟨w.heap.size, 0, none⟩ = some (.int .i64 n.1) ∧ w2.cell? ⟨w.heap.size, 1, none⟩ = some (.slice mA1 (n.2.1).length mc1) ∧ w2.cell? ⟨w.heap.size, 2, none⟩ = some (.slice mA2 (n.2.2.1).length mc2) ∧ w2.cell? ⟨w.heap.size, 3, none⟩ = some (.slice mA3 (n.2.2.2).length mc3) from HE2.out)
    have HB2 := Lib.hid HBW2.out
    have HBA := Lib.hid HB26.out
    have HAP := Lib.hid (show ∀ b, (Value.slice tA (toK0 n).length tc).ownBlock = some b → b ≠ G ∧ b ∉ blkL (Value.slice A1 (emptyN n).2.1.length c1) ++ bs ∧ (Value.slice none 0 0).ownBlock ≠ some b from fun b e => ⟨fun eG => by
      have h1 := (HTO3.out.lt b e).2
      omega, fun hm => HDJ.out b e hm, fun h0 => by cases h0⟩)
    clear d0 d1 d2 d3 HB HE2 HBW2 HB26
    go_loopw [5, 6, 7] (fun t x z wr => ∃ (k : Nat) (B : Option Addr) (d : Nat) (C : Option Addr) (c2 : Nat), k ≤ n.2.2.1.length ∧ z = .int .i64 (k : Int) ∧ t = .slice B (sweepK n R k).2.length d ∧ x = .int .i64 ((firN n + (sweepK n R k).1.length : Nat) : Int) ∧ OwnsI wr w2.heap.size (.slice B (sweepK n R k).2.length d) (sweepK n R k).2 ∧ CopyAt w wr (w.heap.size + 1) G (.slice A1 (emptyN n).2.1.length c1) (.slice C (sweepK n R k).1.length c2) (.slice none 0 0) rows bs (sweN n (sweepK n R k).1) ∧ (∀ b, (Value.slice B (sweepK n R k).2.length d).ownBlock = some b → b ≠ G ∧ b ∉ blkL (Value.slice A1 (emptyN n).2.1.length c1) ++ bs ∧ (Value.slice C (sweepK n R k).1.length c2).ownBlock ≠ some b) ∧ (∀ b, (Value.slice C (sweepK n R k).1.length c2).ownBlock = some b → w2.heap.size ≤ b) ∧ Below w2.heap.size w2 wr) (fun _ _ z _ => n.2.2.1.length - (intOf z).toNat)
    case atStart => exact ⟨0, tA, tc, none, 0, Nat.zero_le _, rfl, rfl, rfl, HTO.out, HC.out, HAP.out, (fun b e => by cases e), HBA.out⟩
    case round =>
      obtain ⟨k, B, d, C, c2, hk, rfl, rfl, rfl, hA, hC, hne, hcl, hb⟩ := hrel
      have HCL := Lib.hid hcl
      clear hcl
      obtain ⟨w3, rfl⟩ : ∃ w3, w3 = wr := ⟨_, rfl⟩
      clear HC HTO HAP HBA
      have HA := Lib.hid hA
      have HC := Lib.hid hC
      have HNE := Lib.hid hne
      have HBL := Lib.hid hb
      have HB := Lib.hid (bThen HB2.out hb)
      have hwl := hb.size
      have hw0 : w.heap.size < w3.heap.size := by omega
      have d0 := keep hb HE.out.1
      have d1 := keep hb HE.out.2.1
      have d2 := keep hb HE.out.2.2.1
      have d3 := keep hb HE.out.2.2.2
      clear hA hC hne hb
      by_cases hlt : k < n.2.2.1.length
      · obtain ⟨a, ha⟩ : ∃ a, n.2.2.1[k]? = some a := ⟨_, List.getElem?_eq_getElem hlt⟩
        obtain ⟨p, q, rfl, hp, hq⟩ := HP.out.and_ k a ha
        obtain ⟨ab, aq, rfl, ab1, x0, xf0, x1, xf1⟩ := at_And (good_AndS.below mR2.out (Nat.le_refl _) HB.out) ha
        have tk : (k : Int) < (n.2.2.1.length : Int) := by omega
        have HAK := Lib.hid ha
        have HPQ := Lib.hid (show Fit (p : Int) ∧ Fit (q : Int) from ⟨xf0, xf1⟩)
        have HSS := Lib.hid (sweepK_same (n := n) (keep := R) k (by omega))
        obtain ⟨KA, hKA⟩ : ∃ KA, (sweepK n R k).1 = KA := ⟨_, rfl⟩
        obtain ⟨KL, hKL⟩ : ∃ KL, (sweepK n R k).2 = KL := ⟨_, rfl⟩
        have HKA := Lib.hid hKA
        have HKK := Lib.hid hKL
        rw [hKA] at HC HNE HSS HCL ⊢
        rw [hKL] at HA HNE HSS ⊢
        obtain ⟨NX, hNX⟩ : ∃ NX, firN n + KA.length = NX := ⟨_, rfl⟩
        have HNX := Lib.hid hNX
        rw [hNX]
        have hnx : NX ≤ 400 := by have := HSS.out.1; omega
        have hla : KA.length ≤ 300 := by have := HSS.out.1; omega
        have hll : KL.length ≤ 400 := by have := HSS.out.2.1; omega
        obtain ⟨bq, hbq⟩ : ∃ bq, R.getD (firN n + k) false = bq := ⟨_, rfl⟩
        have HBQ := Lib.hid hbq
        have hrl : firN n + k < R.length := by rw [HRL.out]; omega
        obtain ⟨rb, hrb, hrc⟩ := HRS.out (firN n + k) hrl
        subst hrb
        have xr := hrc 0 _ rfl
        rw [List.getD_eq_getElem?_getD, List.getElem?_eq_getElem hrl] at hbq
        have xr1 := xr.1
        rw [Nat.mul_one, Nat.add_zero, show R[firN n + k] = bq from hbq] at xr1
        have xr2 := keep HBL.out xr1
        have trl : ((firN n + k : Nat) : Int) < (R.length : Int) := by omega
        clear ha hp hq xf0 xf1 ab1 hKA hKL hNX hrc xr xr1 hbq
        dsimp only at x0 x1
        go_wp2_with fail
        refine (specFirst_at n _ _ (rdUp good_Net HD.out HB.out) (Nat.le_refl _) HP.out.sz).mono ?_
        rintro e w4 ⟨rfl, hb⟩
        replace x0 := keep hb x0
        replace x1 := keep hb x1
        replace xr2 := keep hb xr2
        replace HA := Lib.hid (HA.out.below hb)
        replace HC := Lib.hid (HC.out.below hb)
        replace HBL := Lib.hid (bThen HBL.out hb)
        have HB4 := Lib.hid (bThen HB.out hb)
        have hw24 : w2.heap.size ≤ w4.heap.size := HBL.out.size
        have ex : (firN n : Int) + (k : Int) = ((firN n + k : Nat) : Int) := by omega
        obtain ⟨K9, hK9⟩ : ∃ K9, firN n + k = K9 := ⟨_, rfl⟩
        rw [hK9] at ex xr2 trl
        have eK : IntKind.i64.wrap ((firN n : Int) + (k : Int)) = (K9 : Int) := by rw [ex]; exact wrap64_int _ (by omega) (by omega)
        replace d0 := keep hb d0
        replace d1 := keep hb d1
        replace d2 := keep hb d2
        replace d3 := keep hb d3
        clear hK9 hrl hb
        cases bq with
        | false =>
          have HBX := Lib.hid (show Below w4.heap.size w4 (w4.alloc (.cells #[.int .i64 0] 3)) from bAlloc (Below.refl _ _) (Nat.le_refl _) _)
          have HNBk := Lib.hid (show (w4.alloc (.cells #[.int .i64 0] 3)).heap[w4.heap.size]? = some (.cells #[.int .i64 0] 3 (0, 0)) from heap_alloc_new _ _)
          have HOA := Lib.hid (HA.out.below HBX.out)
          have hsz := Lib.hid (show w2.heap.size ≤ (w4.alloc (.cells #[.int .i64 0] 3)).heap.size from Nat.le_trans HBL.out.size HBX.out.size)
          have HOR := Lib.hid (show (w4.alloc (.cells #[.int .i64 0] 3)).ownsRow w2.heap.size 3 1 (.slice B KL.length d) KL.length (KL.map vI) by have h := HOA.out; unfold OwnsI at h; exact h)
          go_wp2_with (at_builtin; refine wpList_append_all (by rfl) _ _ 24 (by rfl) w2.heap.size 3 i0 (.int .i64 0) 1 8 Try.underlying24 hi hz0 hz1 hz2 rfl (by omega) (.slice B KL.length d) KL.length (KL.map vI) (by rfl) HOR.out (some ⟨w4.heap.size, 0, none⟩) 1 1 [.int .i64 0] (by rfl) (by rfl) (.inr ⟨_, rfl, World.news_of_block HNBk.out⟩) (by simp [Value.oneCell']) (by unfold maxLen; omega) (by omega) hsz.out ?_; intro A' c' w7 hown7 hgrow7 hkeep7 hat7)
          have HSW := Lib.hid (show sweepK n R (k + 1) = (KA, KL ++ [0]) by rw [sweepK_no HAK.out HBQ.out, HKA.out, HKK.out])
          have HC7 := Lib.hid ((HC.out.below HBX.out).grownT hgrow7 (by have := hsz.out; omega) (fun b e => ⟨by have := (HA.out.lt b e).1; omega, (HNE.out b e).1, fun hm => by
            rcases List.mem_append.1 hm with hm | hm
            · exact (HNE.out b e).2.1 (List.mem_append.2 (.inl hm))
            rcases List.mem_append.1 hm with hm | hm
            · exact (HNE.out b e).2.1 (List.mem_append.2 (.inr hm))
            rcases List.mem_append.1 hm with hm | hm
            · exact (HNE.out b e).2.2 (mem_blkL.1 hm)
            · simp [blkL_nil] at hm⟩))
          have HO7 := Lib.hid (show OwnsI w7 w2.heap.size (.slice A' (KL.length + 1) c') (KL ++ [0]) from (by unfold OwnsI; rw [List.length_append, List.map_append]; exact hown7))
          have HN7 := Lib.hid (show ∀ b, (Value.slice A' (KL.length + 1) c').ownBlock = some b → b ≠ G ∧ b ∉ blkL (Value.slice A1 (emptyN n).2.1.length c1) ++ bs ∧ (Value.slice C KA.length c2).ownBlock ≠ some b from fun b e => by
            rcases hat7 with h1 | h1
            · exact HNE.out b (h1 ▸ e)
            · have e9 : b = (w4.alloc (.cells #[.int .i64 0] 3)).heap.size := by rw [h1] at e; injection e with e; exact e.symm
              have hl : w4.heap.size ≤ b := by rw [e9]; exact HBX.out.size
              refine ⟨fun eG => by have := HC.out.box.lt; omega, fun hm => ?_, fun h0 => ?_⟩
              · have := (HC.out.net.lt (b := b) (by rcases List.mem_append.1 hm with hm | hm <;> simp [hm])).1; omega
              · have := (HC.out.net.lt (b := b) (by simp [mem_blkL.2 h0])).1; omega)
          have HB7 := Lib.hid ((bThen HBL.out HBX.out).grown hgrow7 hsz.out (fun g hg => (HA.out.lt g hg).1))
          clear hown7 hgrow7 hkeep7 hat7
          go_roundw
          case rel => exact ⟨k + 1, A', c', C, c2, by omega, by go_num, by rw [HSW.out]; simp, by rw [HSW.out, ← HNX.out], by rw [HSW.out]; simpa using HO7.out, by rw [HSW.out]; exact HC7.out, by rw [HSW.out]; simpa using HN7.out, by rw [HSW.out]; exact HCL.out, HB7.out⟩
          case measure => simp [intOf] <;> omega
        | true =>
          have HLIT := Lib.hid (show ∀ x ∈ [(p : Int), (q : Int)], ∃ y : Nat, x = (y : Int) ∧ y / 2 < KL.length from fun x hx => by rw [← HKK.out]; exact sweepK_lit HP.out HAK.out x hx)
          have HKF := Lib.hid (show ∀ x ∈ KL, Fit x from by rw [← HKK.out]; exact sweepK_fit HP.out (by omega))
          have HPOS := Lib.hid HSS.out.2.2
          have HPQF := Lib.hid (show ∀ x ∈ [(p : Int), (q : Int)], Fit x from fun x hx => by
            have h5 := HPQ.out
            simp only [List.mem_cons, List.not_mem_nil, or_false] at hx
            rcases hx with rfl | rfl
            · exact h5.1
            · exact h5.2)
          have HKB := Lib.hid (show ∀ x ∈ KL, -1 ≤ x ∧ x ≤ 10000 from fun x hx => ⟨by have := HSS.out.2.2 x hx; omega, by have := sweepK_top (n := n) (keep := R) k (by omega) x (by rw [HKK.out]; exact hx); omega⟩)
          have HXF := Lib.hid (show ∀ l : Int, Fit (mapI KL l) from fun l => by have := mapI_bd (l := l) HKB.out; unfold Fit; omega)
          go_wp2_with fail
          have hS0 : (fun w' => Below w4.heap.size w4 w' ∧ w'.cell? ⟨w.heap.size, 2, none⟩ = some (.slice (some ⟨ab, aq, none⟩) (n.2.2.1).length mc2) ∧ w'.cell? ⟨ab, aq + k * 2, none⟩ = some (.int .i64 (p : Int)) ∧ w'.cell? ⟨ab, aq + k * 2 + 1, none⟩ = some (.int .i64 (q : Int))) w4 := ⟨Below.refl _ _, d2, x0, x1⟩
          have hS : ∀ {w0 w' : World}, (fun w' => Below w4.heap.size w4 w' ∧ w'.cell? ⟨w.heap.size, 2, none⟩ = some (.slice (some ⟨ab, aq, none⟩) (n.2.2.1).length mc2) ∧ w'.cell? ⟨ab, aq + k * 2, none⟩ = some (.int .i64 (p : Int)) ∧ w'.cell? ⟨ab, aq + k * 2 + 1, none⟩ = some (.int .i64 (q : Int))) w0 → Below w0.heap.size w0 w' → (fun w' => Below w4.heap.size w4 w' ∧ w'.cell? ⟨w.heap.size, 2, none⟩ = some (.slice (some ⟨ab, aq, none⟩) (n.2.2.1).length mc2) ∧ w'.cell? ⟨ab, aq + k * 2, none⟩ = some (.int .i64 (p : Int)) ∧ w'.cell? ⟨ab, aq + k * 2 + 1, none⟩ = some (.int .i64 (q : Int))) w' := fun h hb => ⟨bThen h.1 hb, keep hb h.2.1, keep hb h.2.2.1, keep hb h.2.2.2⟩
          dsimp only at hS0 hS
          refine wp_region_noPanic ?_
          refine wp_region_kept 14 16 (fun w' => Below w4.heap.size w4 w' ∧ w'.cell? ⟨w.heap.size, 2, none⟩ = some (.slice (some ⟨ab, aq, none⟩) (n.2.2.1).length mc2) ∧ w'.cell? ⟨ab, aq + k * 2, none⟩ = some (.int .i64 (p : Int)) ∧ w'.cell? ⟨ab, aq + k * 2 + 1, none⟩ = some (.int .i64 (q : Int))) (by kernel_rfl) rfl (hS hS0 (Below.drew (Below.refl _ _))) (fun hK0 => ?_)
          refine Kept.take (v := ?vm0) 0 (by kernel_rfl) rfl (by kernel_rfl) (fun _ _ _ h => h) (Or.inl ⟨by rfl, ?hym0⟩) hK0 ?restm0
          case hym0 =>
            intro w0 hSw
            (try dsimp only at hSw)
            go_simp
            all_goals (with_reducible rfl)
          (try simp only [Act.put, List.setIfInBounds_toArray, List.set_cons_zero, List.set_cons_succ])
          refine Kept.take (v := ?vm1) 1 (by kernel_rfl) rfl (by kernel_rfl) (fun _ _ _ h => h) (Or.inl ⟨by rfl, ?hym1⟩) hK0 ?restm1
          case hym1 =>
            intro w0 hSw
            (try dsimp only at hSw)
            go_simp
            all_goals (with_reducible rfl)
          (try simp only [Act.put, List.setIfInBounds_toArray, List.set_cons_zero, List.set_cons_succ])
          refine Kept.take (v := ?vm2) 2 (by kernel_rfl) rfl (by kernel_rfl) (fun _ _ _ h => h) (Or.inl ⟨by rfl, ?hym2⟩) hK0 ?restm2
          case hym2 =>
            intro w0 hSw
            (try dsimp only at hSw)
            go_simp
            all_goals (with_reducible rfl)
          (try simp only [Act.put, List.setIfInBounds_toArray, List.set_cons_zero, List.set_cons_succ])
          refine Kept.take (v := ?vm3) 3 (by kernel_rfl) rfl (by kernel_rfl) (fun _ _ _ h => h) (Or.inl ⟨by rfl, ?hym3⟩) hK0 ?restm3
          case hym3 =>
            intro w0 hSw
            (try dsimp only at hSw)
            go_simp
            all_goals (with_reducible rfl)
          (try simp only [Act.put, List.setIfInBounds_toArray, List.set_cons_zero, List.set_cons_succ])
          refine Kept.take (v := ?vm4) 4 (by kernel_rfl) rfl (by kernel_rfl) (fun _ _ _ h => h) (Or.inl ⟨by rfl, ?hym4⟩) hK0 ?restm4
          case hym4 =>
            intro w0 hSw
            (try dsimp only at hSw)
            go_simp
            all_goals (with_reducible rfl)
          (try simp only [Act.put, List.setIfInBounds_toArray, List.set_cons_zero, List.set_cons_succ])
          refine Kept.take (v := ?vm5) 5 (by kernel_rfl) rfl (by kernel_rfl) (fun _ _ _ h => h) (Or.inl ⟨by rfl, ?hym5⟩) hK0 ?restm5
          case hym5 =>
            intro w0 hSw
            (try dsimp only at hSw)
            go_simp
            all_goals (with_reducible rfl)
          (try simp only [Act.put, List.setIfInBounds_toArray, List.set_cons_zero, List.set_cons_succ])
          refine Kept.take (v := ?vm6) 6 (by kernel_rfl) rfl (by kernel_rfl) (fun _ _ _ h => h) (Or.inl ⟨by rfl, ?hym6⟩) hK0 ?restm6
          case hym6 =>
            intro w0 hSw
            (try dsimp only at hSw)
            go_simp
            all_goals (with_reducible rfl)
          (try simp only [Act.put, List.setIfInBounds_toArray, List.set_cons_zero, List.set_cons_succ])
          refine Kept.take (v := ?vm7) 7 (by kernel_rfl) rfl (by kernel_rfl) (fun _ _ _ h => h) (Or.inl ⟨by rfl, ?hym7⟩) hK0 ?restm7
          case hym7 =>
            intro w0 hSw
            (try dsimp only at hSw)
            go_simp
            all_goals (with_reducible rfl)
          (try simp only [Act.put, List.setIfInBounds_toArray, List.set_cons_zero, List.set_cons_succ])
          refine Kept.take (v := ?vm8) 8 (by kernel_rfl) rfl (by kernel_rfl) (fun _ _ _ h => h) (Or.inl ⟨by rfl, ?hym8⟩) hK0 ?restm8
          case hym8 =>
            intro w0 hSw
            (try dsimp only at hSw)
            go_simp
            all_goals (with_reducible rfl)
          (try simp only [Act.put, List.setIfInBounds_toArray, List.set_cons_zero, List.set_cons_succ])
          refine Kept.take (v := ?vm9) 9 (by kernel_rfl) rfl (by kernel_rfl) (fun _ _ _ h => h) (Or.inl ⟨by rfl, ?hym9⟩) hK0 ?restm9
          case hym9 =>
            intro w0 hSw
            (try dsimp only at hSw)
            go_simp
            all_goals (with_reducible rfl)
          (try simp only [Act.put, List.setIfInBounds_toArray, List.set_cons_zero, List.set_cons_succ])
          refine Kept.take (v := ?vm10) 10 (by kernel_rfl) rfl (by kernel_rfl) (fun _ _ _ h => h) (Or.inl ⟨by rfl, ?hym10⟩) hK0 ?restm10
          case hym10 =>
            intro w0 hSw
            (try dsimp only at hSw)
            go_simp
            all_goals (with_reducible rfl)
          (try simp only [Act.put, List.setIfInBounds_toArray, List.set_cons_zero, List.set_cons_succ])
          refine Kept.take (v := ?vm11) 11 (by kernel_rfl) rfl (by kernel_rfl) (fun _ _ _ h => h) (Or.inl ⟨by rfl, ?hym11⟩) hK0 ?restm11
          case hym11 =>
            intro w0 hSw
            (try dsimp only at hSw)
            go_simp
            all_goals (with_reducible rfl)
          (try simp only [Act.put, List.setIfInBounds_toArray, List.set_cons_zero, List.set_cons_succ])
          refine Kept.take (v := ?vm12) 12 (by kernel_rfl) rfl (by kernel_rfl) (fun _ _ _ h => h) (Or.inl ⟨by rfl, ?hym12⟩) hK0 ?restm12
          case hym12 =>
            intro w0 hSw
            (try dsimp only at hSw)
            go_simp
            all_goals (with_reducible rfl)
          (try simp only [Act.put, List.setIfInBounds_toArray, List.set_cons_zero, List.set_cons_succ])
          refine Kept.one 13 (by kernel_rfl) rfl (fun K hK => ?_)
          go_simp
          obtain ⟨w8, hw8⟩ : ∃ x, x = (w4.alloc (.cells #[.int .i64 (p : Int), .int .i64 (q : Int)] 3)).drew := ⟨_, rfl⟩
          rw [← hw8]
          have hb8 : Below w4.drew.heap.size w4.drew w8 := by rw [hw8]; exact bAlloc (Below.refl _ _) (Nat.le_refl _) _
          have HL8 := Lib.hid (show w8.heap[w4.heap.size]? = some (.cells #[.int .i64 (p : Int), .int .i64 (q : Int)] 3 (0, 0)) by rw [hw8]; exact heap_alloc_new _ _)
          have hlt8 : w4.heap.size < w8.heap.size := by rw [hw8]; simp
          clear hw8
          refine hK.out _ _ (hS hK0 hb8) (fun hK1 => ?_)
          clear hK K hK0
          (try simp only [Act.put, List.setIfInBounds_toArray, List.set_cons_zero, List.set_cons_succ])
          refine Kept.tail (by rfl) (by kernel_rfl) ?_
          simp only [List.drop_succ_cons, List.drop_zero]
          obtain ⟨px, hpx⟩ : ∃ px, mapI KL (p : Int) = px := ⟨_, rfl⟩
          obtain ⟨qx, hqx⟩ : ∃ qx, mapI KL (q : Int) = qx := ⟨_, rfl⟩
          have HPX := Lib.hid (And.intro hpx hqx)
          clear hpx hqx
          go_wp2_with fail
          refine (specMap_at KL [(p : Int), (q : Int)] _ _ _ (ownI_rd (HA.out.below hK1.1) HKF.out) (two_rd HL8.out hlt8 HPQF.out) HLIT.out HPOS.out (by simp)).mono ?_
          rintro e w9 ⟨vx, rfl, hox, hb9⟩
          have HB49 := Lib.hid (bThen hK1.1 hb9)
          replace hox : OwnsI w9 w8.heap.size vx [px, qx] := by rw [← HPX.out.1, ← HPX.out.2]; exact hox
          have HFX := Lib.hid (show FitA (px, qx) from ⟨HPX.out.1 ▸ HXF.out (p : Int), HPX.out.2 ▸ HXF.out (q : Int)⟩)
          obtain ⟨xA, xc, rfl, hx⟩ := hox.shape
          obtain ⟨xb, rfl, x8, -⟩ := hx 0 (by show 0 < 2; omega)
          obtain ⟨xb', ex9, x9, -⟩ := hx 1 (by show 1 < 2; omega)
          cases ex9
          have HXL := Lib.hid (hox.lt xb rfl)
          replace x8 : w9.cell? ⟨xb, 0, none⟩ = some (.int .i64 px) := x8
          replace x9 : w9.cell? ⟨xb, 1, none⟩ = some (.int .i64 qx) := x9
          have HNG := Lib.hid (show some G ≠ (Value.slice C KA.length c2).ownBlock from fun e => HC.out.off G (by simp [mem_blkL.2 e.symm]) rfl)
          have HNQ := Lib.hid (show some xb ≠ (Value.slice C KA.length c2).ownBlock from fun e => by have h1 := (HC.out.net.a.lt gow_And (List.mem_append.2 (.inl (mem_blkL.2 e.symm)))).1; have h2 := HXL.out.1; omega)
          have HXB := Lib.hid (show ∀ b, (Value.slice B KL.length d).ownBlock = some b → b < w9.heap.size from fun b e => Nat.lt_of_lt_of_le (HA.out.lt b e).2 HB49.out.size)
          replace HA := Lib.hid (HA.out.below HB49.out)
          replace HC := Lib.hid (HC.out.below HB49.out)
          replace HBL := Lib.hid (bThen HBL.out HB49.out)
          have g2 := HC.out.box.cells.1.2.2.1
          have hsw : w.heap.size + 2 ≤ w9.heap.size := by have := HBL.out.size; omega
          clear hox hx hb9 hK1 hS0 hS hb8 hlt8 x0 x1 d0 d1 d2 d3 xr2
          go_wp2
          refine NoPanic.normal ?_
          go_wp2_with fail
          have hS0 : (fun w' => w'.cell? ⟨G, 2, none⟩ = some (.slice C KA.length c2) ∧ w'.cell? ⟨xb, 0, none⟩ = some (.int .i64 px) ∧ w'.cell? ⟨xb, 1, none⟩ = some (.int .i64 qx)) w9 := ⟨g2, x8, x9⟩
          have hS : ∀ {w0 w' : World}, (fun w' => w'.cell? ⟨G, 2, none⟩ = some (.slice C KA.length c2) ∧ w'.cell? ⟨xb, 0, none⟩ = some (.int .i64 px) ∧ w'.cell? ⟨xb, 1, none⟩ = some (.int .i64 qx)) w0 → Below w0.heap.size w0 w' → (fun w' => w'.cell? ⟨G, 2, none⟩ = some (.slice C KA.length c2) ∧ w'.cell? ⟨xb, 0, none⟩ = some (.int .i64 px) ∧ w'.cell? ⟨xb, 1, none⟩ = some (.int .i64 qx)) w' := fun h hb => ⟨keep hb h.1, keep hb h.2.1, keep hb h.2.2⟩
          dsimp only at hS0 hS
          refine wp_region_noPanic ?_
          refine wp_region_kept 10 13 (fun w' => w'.cell? ⟨G, 2, none⟩ = some (.slice C KA.length c2) ∧ w'.cell? ⟨xb, 0, none⟩ = some (.int .i64 px) ∧ w'.cell? ⟨xb, 1, none⟩ = some (.int .i64 qx)) (by kernel_rfl) rfl (hS hS0 (Below.drew (Below.refl _ _))) (fun hK0 => ?_)
          refine Kept.take (v := ?vq0) 0 (by kernel_rfl) rfl (by kernel_rfl) (fun _ _ _ h => h) (Or.inl ⟨by rfl, ?hyq0⟩) hK0 ?restq0
          case hyq0 =>
            intro w0 hSw
            (try dsimp only at hSw)
            go_simp
            all_goals (with_reducible rfl)
          (try simp only [Act.put, List.setIfInBounds_toArray, List.set_cons_zero, List.set_cons_succ])
          refine Kept.take (v := ?vq1) 1 (by kernel_rfl) rfl (by kernel_rfl) (fun _ _ _ h => h) (Or.inl ⟨by rfl, ?hyq1⟩) hK0 ?restq1
          case hyq1 =>
            intro w0 hSw
            (try dsimp only at hSw)
            go_simp
            all_goals (with_reducible rfl)
          (try simp only [Act.put, List.setIfInBounds_toArray, List.set_cons_zero, List.set_cons_succ])
          refine Kept.take (v := ?vq2) 2 (by kernel_rfl) rfl (by kernel_rfl) (fun _ _ _ h => h) (Or.inl ⟨by rfl, ?hyq2⟩) hK0 ?restq2
          case hyq2 =>
            intro w0 hSw
            (try dsimp only at hSw)
            go_simp
            all_goals (with_reducible rfl)
          (try simp only [Act.put, List.setIfInBounds_toArray, List.set_cons_zero, List.set_cons_succ])
          refine Kept.take (v := ?vq3) 3 (by kernel_rfl) rfl (by kernel_rfl) (fun _ _ _ h => h) (Or.inl ⟨by rfl, ?hyq3⟩) hK0 ?restq3
          case hyq3 =>
            intro w0 hSw
            (try dsimp only at hSw)
            go_simp
            all_goals (with_reducible rfl)
          (try simp only [Act.put, List.setIfInBounds_toArray, List.set_cons_zero, List.set_cons_succ])
          refine Kept.take (v := ?vq4) 4 (by kernel_rfl) rfl (by kernel_rfl) (fun _ _ _ h => h) (Or.inl ⟨by rfl, ?hyq4⟩) hK0 ?restq4
          case hyq4 =>
            intro w0 hSw
            (try dsimp only at hSw)
            go_simp
            all_goals (with_reducible rfl)
          (try simp only [Act.put, List.setIfInBounds_toArray, List.set_cons_zero, List.set_cons_succ])
          refine Kept.take (v := ?vq5) 5 (by kernel_rfl) rfl (by kernel_rfl) (fun _ _ _ h => h) (Or.inl ⟨by rfl, ?hyq5⟩) hK0 ?restq5
          case hyq5 =>
            intro w0 hSw
            (try dsimp only at hSw)
            go_simp
            all_goals (with_reducible rfl)
          (try simp only [Act.put, List.setIfInBounds_toArray, List.set_cons_zero, List.set_cons_succ])
          refine Kept.take (v := ?vq6) 6 (by kernel_rfl) rfl (by kernel_rfl) (fun _ _ _ h => h) (Or.inl ⟨by rfl, ?hyq6⟩) hK0 ?restq6
          case hyq6 =>
            intro w0 hSw
            (try dsimp only at hSw)
            go_simp
            all_goals (with_reducible rfl)
          (try simp only [Act.put, List.setIfInBounds_toArray, List.set_cons_zero, List.set_cons_succ])
          refine Kept.take (v := ?vq7) 7 (by kernel_rfl) rfl (by kernel_rfl) (fun _ _ _ h => h) (Or.inl ⟨by rfl, ?hyq7⟩) hK0 ?restq7
          case hyq7 =>
            intro w0 hSw
            (try dsimp only at hSw)
            go_simp
            all_goals (with_reducible rfl)
          (try simp only [Act.put, List.setIfInBounds_toArray, List.set_cons_zero, List.set_cons_succ])
          refine Kept.take (v := ?vq8) 8 (by kernel_rfl) rfl (by kernel_rfl) (fun _ _ _ h => h) (Or.inl ⟨by rfl, ?hyq8⟩) hK0 ?restq8
          case hyq8 =>
            intro w0 hSw
            (try dsimp only at hSw)
            go_simp
            all_goals (with_reducible rfl)
          (try simp only [Act.put, List.setIfInBounds_toArray, List.set_cons_zero, List.set_cons_succ])
          refine Kept.one 9 (by kernel_rfl) rfl (fun K hK => ?_)
          go_simp
          refine hK.out _ _ (hS hK0 (bAlloc (Below.refl _ _) (Nat.le_refl _) _)) (fun hK1 => ?_)
          clear hK K hK0
          (try simp only [Act.put, List.setIfInBounds_toArray, List.set_cons_zero, List.set_cons_succ])
          refine Kept.tail (by rfl) (by kernel_rfl) ?_
          simp only [List.drop_succ_cons, List.drop_zero]
          clear hK1 hS hS0
          obtain ⟨RW, hRW⟩ : ∃ x, x = (w9.alloc (.cells #[.int .i64 px, .int .i64 qx] 67)).drew := ⟨_, rfl⟩
          have HRB := Lib.hid (show Below w9.heap.size w9 RW by rw [hRW]; exact Below.drew (bAlloc (Below.refl _ _) (Nat.le_refl _) _))
          have HNB2 := Lib.hid (show RW.heap[w9.heap.size]? = some (.cells #[.int .i64 px, .int .i64 qx] 67 (0, 0)) by rw [hRW]; exact heap_alloc_new _ _)
          rw [← hRW]
          clear hRW
          have HCR := Lib.hid (HC.out.below HRB.out)
          have HRW := Lib.hid (show RW.ownsRow (w.heap.size + 2) 67 2 (.slice C KA.length c2) KA.length (KA.flatMap fAnd) from HCR.out.net.a.own)
          have HSZ := Lib.hid (show w.heap.size + 2 ≤ RW.heap.size from Nat.le_trans hsw HRB.out.size)
          have hneG : (Value.slice C KA.length c2).ownBlock ≠ some G := fun e => HNG.out e.symm
          have hf2 := HCR.out.box.cells.1.2.2.1
          have hz2 := HCR.out.box.cells.2 2
          clear g2 x8 x9
          go_wp2_with (at_builtin; refine wpList_append_all (by rfl) _ _ 34 (by rfl) (w.heap.size + 2) 67 iA (.agg #[.int .i64 0, .int .i64 0]) 2 16 Try.underlying34 HIiA.out.1 HIiA.out.2.1 HIiA.out.2.2.1 HIiA.out.2.2.2 rfl (by omega) (.slice C KA.length c2) KA.length (KA.flatMap fAnd) (by rfl) HRW.out (some ⟨w9.heap.size, 0, none⟩) 1 1 [.int .i64 px, .int .i64 qx] (by rfl) (by rfl) (.inr ⟨_, rfl, World.news_of_block HNB2.out⟩) (by simp [Value.oneCell']) (by unfold maxLen; omega) (by omega) HSZ.out ?_; intro A6 c6 w6 hown6 hgrow6 hkeep6 hat6; have y2 := grownC hgrow6 hf2 hneG; have z2 := grownZ hgrow6 hf2 hz2 hneG)
          refine NoPanic.normal ?_
          obtain ⟨WB, hWB⟩ : ∃ x, x = w6.setCell ⟨G, 2, none⟩ (.slice A6 (KA.length + 1) c6) := ⟨_, rfl⟩
          have HC9 := Lib.hid (show CopyAt w WB (w.heap.size + 1) G (.slice A1 (emptyN n).2.1.length c1) (.slice A6 (KA.length + 1) c6) (.slice none 0 0) rows bs (sweN n (KA ++ [(px, qx)])) by rw [hWB, ← sweN_add]; exact HCR.out.add (x := (px, qx)) hown6 rfl hgrow6 hat6 HFX.out HSZ.out)
          have hneB : (Value.slice B KL.length d).ownBlock = none ∨ (Value.slice B KL.length d).ownBlock ≠ (Value.slice C KA.length c2).ownBlock := by
            cases e : (Value.slice B KL.length d).ownBlock with
            | none => exact .inl rfl
            | some b => exact .inr (fun e2 => (HNE.out b e).2.2 e2.symm)
          have HA9 := Lib.hid (show OwnsI WB w2.heap.size (.slice B KL.length d) KL by rw [hWB]; exact ownI_far (g := G) (k := 2) (ownI_stays (HA.out.below HRB.out) hgrow6 hneB) (fun e => (HNE.out G e).1 rfl))
          have hGw2 : w2.heap.size ≤ G := Nat.le_trans hw3 hG3
          have HBL9 := Lib.hid (show Below w2.heap.size w2 WB by rw [hWB]; exact bSet ((bThen HBL.out HRB.out).grown hgrow6 (Nat.le_trans HBL.out.size HRB.out.size) (fun g hg => HCL.out g hg)) (p := ⟨G, 2, none⟩) hGw2 _)
          have hs69 : RW.heap.size ≤ WB.heap.size := by rw [hWB]; exact Nat.le_trans hgrow6.size (Nat.le_of_eq (by simp [World.setCell]))
          have HCL9 := Lib.hid (show ∀ b, (Value.slice A6 (KA.length + 1) c6).ownBlock = some b → w2.heap.size ≤ b ∧ ((Value.slice C KA.length c2).ownBlock = some b ∨ b = RW.heap.size) from fun b e => by
            rcases hat6 with h1 | h1
            · exact ⟨HCL.out b (h1 ▸ e), .inl (h1 ▸ e)⟩
            · have e9 : b = RW.heap.size := by rw [h1] at e; injection e with e; exact e.symm
              exact ⟨by rw [e9]; exact Nat.le_trans HBL.out.size HRB.out.size, .inr e9⟩)
          rw [← hWB]
          clear hWB hown6 hgrow6 hkeep6 hat6 hf2 hz2 y2 z2 hneB HC HA HBL HCL hneG
          obtain ⟨y, hy⟩ : ∃ y : Int, 2 * (NX : Int) = y := ⟨_, rfl⟩
          have e2k : IntKind.i64.wrap (2 * (NX : Int)) = y := by rw [← hy]; exact wrap64_int _ (by omega) (by omega)
          have HSW := Lib.hid (show sweepK n R (k + 1) = (KA ++ [(px, qx)], KL ++ [y]) by rw [sweepK_yes HAK.out HBQ.out, HKA.out, HKK.out, HPX.out.1, HPX.out.2, HNX.out, hy])
          have HBX := Lib.hid (show Below WB.heap.size WB (WB.alloc (.cells #[.int .i64 y] 3)) from bAlloc (Below.refl _ _) (Nat.le_refl _) _)
          have HNBk := Lib.hid (show (WB.alloc (.cells #[.int .i64 y] 3)).heap[WB.heap.size]? = some (.cells #[.int .i64 y] 3 (0, 0)) from heap_alloc_new _ _)
          have HOA := Lib.hid (HA9.out.below HBX.out)
          have hsz := Lib.hid (show w2.heap.size ≤ (WB.alloc (.cells #[.int .i64 y] 3)).heap.size from Nat.le_trans HBL9.out.size HBX.out.size)
          have HOR := Lib.hid (show (WB.alloc (.cells #[.int .i64 y] 3)).ownsRow w2.heap.size 3 1 (.slice B KL.length d) KL.length (KL.map vI) by have h := HOA.out; unfold OwnsI at h; exact h)
          clear hy
          go_wp2_with (at_builtin; refine wpList_append_all (by rfl) _ _ 24 (by rfl) w2.heap.size 3 i0 (.int .i64 0) 1 8 Try.underlying24 hi hz0 hz1 hz2 rfl (by omega) (.slice B KL.length d) KL.length (KL.map vI) (by rfl) HOR.out (some ⟨WB.heap.size, 0, none⟩) 1 1 [.int .i64 y] (by rfl) (by rfl) (.inr ⟨_, rfl, World.news_of_block HNBk.out⟩) (by simp [Value.oneCell']) (by unfold maxLen; omega) (by omega) hsz.out ?_; intro A' c' w7 hown7 hgrow7 hkeep7 hat7)
          have HRW9 := Lib.hid (show ∀ b, (Value.slice B KL.length d).ownBlock = some b → b ≠ G ∧ b ∉ blkL (.slice A1 (emptyN n).2.1.length c1) ++ bs ∧ (Value.slice A6 (KA.length + 1) c6).ownBlock ≠ some b from fun b e => ⟨(HNE.out b e).1, (HNE.out b e).2.1, fun e2 => by
            rcases (HCL9.out b e2).2 with h1 | h1
            · exact (HNE.out b e).2.2 h1
            · have h2 := HXB.out b e
              have := HRB.out.size
              omega⟩)
          have HC7 := Lib.hid ((HC9.out.below HBX.out).grownT hgrow7 (by have := hsz.out; omega) (fun b e => ⟨by have := (HA9.out.lt b e).1; omega, (HNE.out b e).1, fun hm => by
            rcases List.mem_append.1 hm with hm | hm
            · exact (HRW9.out b e).2.1 (List.mem_append.2 (.inl hm))
            rcases List.mem_append.1 hm with hm | hm
            · exact (HRW9.out b e).2.1 (List.mem_append.2 (.inr hm))
            rcases List.mem_append.1 hm with hm | hm
            · exact (HRW9.out b e).2.2 (mem_blkL.1 hm)
            · simp [blkL_nil] at hm⟩))
          have HO7 := Lib.hid (show OwnsI w7 w2.heap.size (.slice A' (KL.length + 1) c') (KL ++ [y]) from (by unfold OwnsI; rw [List.length_append, List.map_append]; exact hown7))
          have HN7 := Lib.hid (show ∀ b, (Value.slice A' (KL.length + 1) c').ownBlock = some b → b ≠ G ∧ b ∉ blkL (.slice A1 (emptyN n).2.1.length c1) ++ bs ∧ (Value.slice A6 (KA.length + 1) c6).ownBlock ≠ some b from fun b e => by
            rcases hat7 with h1 | h1
            · exact HRW9.out b (h1 ▸ e)
            · have e9 : b = (WB.alloc (.cells #[.int .i64 y] 3)).heap.size := by rw [h1] at e; injection e with e; exact e.symm
              have hl : WB.heap.size ≤ b := by rw [e9]; exact HBX.out.size
              refine ⟨fun eG => by have := HC9.out.box.lt; omega, fun hm => ?_, fun h0 => ?_⟩
              · have := (HC9.out.net.lt (b := b) (by rcases List.mem_append.1 hm with hm | hm <;> simp [hm])).1; omega
              · have := (HC9.out.net.lt (b := b) (by simp [mem_blkL.2 h0])).1; omega)
          have HB7 := Lib.hid ((bThen HBL9.out HBX.out).grown hgrow7 hsz.out (fun g hg => (HA9.out.lt g hg).1))
          clear hown7 hgrow7 hkeep7 hat7 e2k
          go_wp2
          go_roundw
          case rel => exact ⟨k + 1, A', c', A6, c6, by omega, by go_num, by rw [HSW.out]; simp, by rw [HSW.out, List.length_append, ← Nat.add_assoc, HNX.out]; rfl, by rw [HSW.out]; simpa using HO7.out, by rw [HSW.out]; simpa using HC7.out, by rw [HSW.out]; simpa using HN7.out, by rw [HSW.out]; exact fun b e => (HCL9.out b (by simpa using e)).1, HB7.out⟩
          case measure => simp [intOf] <;> omega
      · obtain rfl : k = n.2.2.1.length := by omega
        obtain ⟨KA, hKA⟩ : ∃ KA, (sweepK n R n.2.2.1.length).1 = KA := ⟨_, rfl⟩
        obtain ⟨KL, hKL⟩ : ∃ KL, (sweepK n R n.2.2.1.length).2 = KL := ⟨_, rfl⟩
        have hEL : (emptyN n).2.1.length = n.2.1.length := by simp [emptyN]
        have hm : rootsTo n KA KL = m := by rw [← HX.out]; unfold sweepO; rw [if_pos HF.out, HR.out, hKA, hKL]
        subst hm
        have HKF := Lib.hid (show ∀ x ∈ KL, Fit x by rw [← hKL]; exact sweepK_fit HP.out (Nat.le_refl _))
        have HPOS := Lib.hid (show ∀ x ∈ KL, 0 ≤ x by rw [← hKL]; exact (sweepK_same (n := n) (keep := R) _ (Nat.le_refl _)).2.2)
        have HKB := Lib.hid (show ∀ x ∈ KL, -1 ≤ x ∧ x ≤ 10000 from fun x hx => ⟨by have := HPOS.out x hx; omega, by have := sweepK_top (n := n) (keep := R) _ (Nat.le_refl _) x (by rw [hKL]; exact hx); omega⟩)
        have HMF := Lib.hid (show ∀ l : Int, Fit (mapI KL l) from fun l => by have := mapI_bd (l := l) HKB.out; unfold Fit; omega)
        have HROOT := Lib.hid (show ∀ r ∈ rootsL n, ∃ p : Nat, r = (p : Int) ∧ p / 2 < KL.length by rw [← hKL]; exact sweepK_root HP.out)
        rw [hKL] at HA HNE
        rw [hKA] at HC
        rw [hEL] at HC HNE HV1 ⊢
        rw [hKL]
        (try rw [hKA])
        have HRL := Lib.hid (HC.out.net.s.len.trans hEL)
        have HC4 := Lib.hid (show CopyAt w w3 (w.heap.size + 1) G (.slice A1 n.2.1.length c1) (.slice C KA.length c2) (.slice none 0 0) rows bs (n.1, mapK n.2.1 KL 0, KA, []) by rw [mapK_zero]; exact HC.out)
        have HDJ2 := Lib.hid (show ∀ b, (Value.slice B KL.length d).ownBlock = some b → b ∉ blkL (.slice A1 n.2.1.length c1) ++ bs from fun b e => (HNE.out b e).2.1)
        clear HC HNE hlt hEL hKA hKL HCL
        go_wp2
        clear d0 d1 d2 d3
        go_loopw [9] (fun z wr => ∃ (j : Nat) (rows : List V3) (bs : List Nat), j ≤ n.2.1.length ∧ z = .int .i64 (j : Int) ∧ rows.length = n.2.1.length ∧ CopyAt w wr (w.heap.size + 1) G (.slice A1 n.2.1.length c1) (.slice C KA.length c2) (.slice none 0 0) rows bs (n.1, mapK n.2.1 KL j, KA, []) ∧ OwnsI wr w2.heap.size (.slice B KL.length d) KL ∧ (∀ b, (Value.slice B KL.length d).ownBlock = some b → b ∉ blkL (.slice A1 n.2.1.length c1) ++ bs) ∧ Below w2.heap.size w2 wr) (fun z _ => n.2.1.length - (intOf z).toNat)
        case atStart => exact ⟨0, rows, bs, Nat.zero_le _, rfl, HRL.out, HC4.out, HA.out, HDJ2.out, HBL.out⟩
        case round =>
          obtain ⟨j, rows, bs, hj, rfl, hrl, hcp, hto, hdj, hb⟩ := hrel
          obtain ⟨w3, rfl⟩ : ∃ w3, w3 = wr := ⟨_, rfl⟩
          clear HA HC4 HDJ2 HRL HBL
          have HC := Lib.hid hcp
          have HT := Lib.hid hto
          have HDJ := Lib.hid hdj
          have HRL := Lib.hid hrl
          have HBL := Lib.hid hb
          have HB := Lib.hid (bThen HB2.out hb)
          have g1 := hcp.box.cells.1.2.1
          have d1 := keep hb HE.out.2.1
          have d3 := keep hb HE.out.2.2.2
          have hwB := HB.out.size
          clear hcp hto hdj hrl hb
          by_cases hlt : j < n.2.1.length
          · obtain ⟨s, hs⟩ : ∃ s, n.2.1[j]? = some s := ⟨_, List.getElem?_eq_getElem hlt⟩
            have HSK := Lib.hid (mapK_at (to := KL) hs)
            have HNX := Lib.hid (mapK_step (to := KL) hs)
            have HS4 := Lib.hid (show s.2.2.length ≤ 16 by have := (seq_ins (HP.out.seq s (List.mem_of_getElem? hs))).1; omega)
            have HLIT := Lib.hid (show ∀ x ∈ s.2.2, ∃ p : Nat, x = (p : Int) ∧ p / 2 < KL.length from fun x hx => HROOT.out x (mem_rootsS (List.mem_of_getElem? hs) hx))
            have hs16 := HS4.out
            obtain ⟨sb, sq, sA, sc, rfl, sb1, -, -, -, -, x2, sR⟩ := at_Seq (good_SeqS.below mR1.out (Nat.le_refl _) HB.out) hs
            have HSR := Lib.hid sR
            obtain ⟨gg, cc, r, xA, xc, hv1, hr, y2, hfz, hgl, hgw⟩ := HC.out.rowAt HSK.out
            rw [HRL.out] at hv1
            injection hv1 with hv1 hv2 hv3
            subst hv1 hv3
            have HRW := Lib.hid hr
            have HFZ := Lib.hid hfz
            have tj : (j : Int) < (n.2.1.length : Int) := by omega
            have HLT := Lib.hid HC.out.lt
            have hGw := HC.out.box.lt
            have hGg := HC.out.hG
            have hgge := HV1.out gg (by simp [blkL_at])
            clear hs hr hfz hv2 sR sb1
            go_wp2_with fail
            have hS0 : (fun w' => Below w3.heap.size w3 w' ∧ w'.cell? ⟨G, 1, none⟩ = some (.slice (some ⟨gg, 0, none⟩) n.2.1.length c1) ∧ w'.cell? ⟨w.heap.size, 1, none⟩ = some (.slice (some ⟨sb, sq, none⟩) (n.2.1).length mc1) ∧ w'.cell? ⟨sb, sq + j * 3 + 2, none⟩ = some (.slice sA s.2.2.length sc)) w3 := ⟨Below.refl _ _, g1, d1, x2⟩
            have hS : ∀ {w0 w' : World}, (fun w' => Below w3.heap.size w3 w' ∧ w'.cell? ⟨G, 1, none⟩ = some (.slice (some ⟨gg, 0, none⟩) n.2.1.length c1) ∧ w'.cell? ⟨w.heap.size, 1, none⟩ = some (.slice (some ⟨sb, sq, none⟩) (n.2.1).length mc1) ∧ w'.cell? ⟨sb, sq + j * 3 + 2, none⟩ = some (.slice sA s.2.2.length sc)) w0 → Below w0.heap.size w0 w' → (fun w' => Below w3.heap.size w3 w' ∧ w'.cell? ⟨G, 1, none⟩ = some (.slice (some ⟨gg, 0, none⟩) n.2.1.length c1) ∧ w'.cell? ⟨w.heap.size, 1, none⟩ = some (.slice (some ⟨sb, sq, none⟩) (n.2.1).length mc1) ∧ w'.cell? ⟨sb, sq + j * 3 + 2, none⟩ = some (.slice sA s.2.2.length sc)) w' := fun h hb => ⟨bThen h.1 hb, keep hb h.2.1, keep hb h.2.2.1, keep hb h.2.2.2⟩
            dsimp only at hS0 hS
            refine wp_region_noPanic ?_
            refine wp_region_kept 11 14 (fun w' => Below w3.heap.size w3 w' ∧ w'.cell? ⟨G, 1, none⟩ = some (.slice (some ⟨gg, 0, none⟩) n.2.1.length c1) ∧ w'.cell? ⟨w.heap.size, 1, none⟩ = some (.slice (some ⟨sb, sq, none⟩) (n.2.1).length mc1) ∧ w'.cell? ⟨sb, sq + j * 3 + 2, none⟩ = some (.slice sA s.2.2.length sc)) (by kernel_rfl) rfl (hS hS0 (Below.drew (Below.refl _ _))) (fun hK0 => ?_)
            refine Kept.take (v := ?vv0) 0 (by kernel_rfl) rfl (by kernel_rfl) (fun _ _ _ h => h) (Or.inl ⟨by rfl, ?hyv0⟩) hK0 ?restv0
            case hyv0 =>
              intro w0 hSw
              (try dsimp only at hSw)
              go_simp
              all_goals (with_reducible rfl)
            (try simp only [Act.put, List.setIfInBounds_toArray, List.set_cons_zero, List.set_cons_succ])
            refine Kept.take (v := ?vv1) 1 (by kernel_rfl) rfl (by kernel_rfl) (fun _ _ _ h => h) (Or.inl ⟨by rfl, ?hyv1⟩) hK0 ?restv1
            case hyv1 =>
              intro w0 hSw
              (try dsimp only at hSw)
              go_simp
              all_goals (with_reducible rfl)
            (try simp only [Act.put, List.setIfInBounds_toArray, List.set_cons_zero, List.set_cons_succ])
            refine Kept.take (v := ?vv2) 2 (by kernel_rfl) rfl (by kernel_rfl) (fun _ _ _ h => h) (Or.inl ⟨by rfl, ?hyv2⟩) hK0 ?restv2
            case hyv2 =>
              intro w0 hSw
              (try dsimp only at hSw)
              go_simp
              all_goals (with_reducible rfl)
            (try simp only [Act.put, List.setIfInBounds_toArray, List.set_cons_zero, List.set_cons_succ])
            refine Kept.take (v := ?vv3) 3 (by kernel_rfl) rfl (by kernel_rfl) (fun _ _ _ h => h) (Or.inl ⟨by rfl, ?hyv3⟩) hK0 ?restv3
            case hyv3 =>
              intro w0 hSw
              (try dsimp only at hSw)
              go_simp
              all_goals (with_reducible rfl)
            (try simp only [Act.put, List.setIfInBounds_toArray, List.set_cons_zero, List.set_cons_succ])
            refine Kept.take (v := ?vv4) 4 (by kernel_rfl) rfl (by kernel_rfl) (fun _ _ _ h => h) (Or.inl ⟨by rfl, ?hyv4⟩) hK0 ?restv4
            case hyv4 =>
              intro w0 hSw
              (try dsimp only at hSw)
              go_simp
              all_goals (with_reducible rfl)
            (try simp only [Act.put, List.setIfInBounds_toArray, List.set_cons_zero, List.set_cons_succ])
            refine Kept.take (v := ?vv5) 5 (by kernel_rfl) rfl (by kernel_rfl) (fun _ _ _ h => h) (Or.inl ⟨by rfl, ?hyv5⟩) hK0 ?restv5
            case hyv5 =>
              intro w0 hSw
              (try dsimp only at hSw)
              go_simp
              all_goals (with_reducible rfl)
            (try simp only [Act.put, List.setIfInBounds_toArray, List.set_cons_zero, List.set_cons_succ])
            refine Kept.take (v := ?vv6) 6 (by kernel_rfl) rfl (by kernel_rfl) (fun _ _ _ h => h) (Or.inl ⟨by rfl, ?hyv6⟩) hK0 ?restv6
            case hyv6 =>
              intro w0 hSw
              (try dsimp only at hSw)
              go_simp
              all_goals (with_reducible rfl)
            (try simp only [Act.put, List.setIfInBounds_toArray, List.set_cons_zero, List.set_cons_succ])
            refine Kept.take (v := ?vv7) 7 (by kernel_rfl) rfl (by kernel_rfl) (fun _ _ _ h => h) (Or.inl ⟨by rfl, ?hyv7⟩) hK0 ?restv7
            case hyv7 =>
              intro w0 hSw
              (try dsimp only at hSw)
              go_simp
              all_goals (with_reducible rfl)
            (try simp only [Act.put, List.setIfInBounds_toArray, List.set_cons_zero, List.set_cons_succ])
            refine Kept.take (v := ?vv8) 8 (by kernel_rfl) rfl (by kernel_rfl) (fun _ _ _ h => h) (Or.inl ⟨by rfl, ?hyv8⟩) hK0 ?restv8
            case hyv8 =>
              intro w0 hSw
              (try dsimp only at hSw)
              go_simp
              all_goals (with_reducible rfl)
            (try simp only [Act.put, List.setIfInBounds_toArray, List.set_cons_zero, List.set_cons_succ])
            refine Kept.take (v := ?vv9) 9 (by kernel_rfl) rfl (by kernel_rfl) (fun _ _ _ h => h) (Or.inl ⟨by rfl, ?hyv9⟩) hK0 ?restv9
            case hyv9 =>
              intro w0 hSw
              (try dsimp only at hSw)
              go_simp
              all_goals (with_reducible rfl)
            (try simp only [Act.put, List.setIfInBounds_toArray, List.set_cons_zero, List.set_cons_succ])
            refine Kept.one 10 (by kernel_rfl) rfl (fun K hK => ?_)
            go_simp
            go_at_call 95
            refine (specMap_at KL s.2.2 _ _ _ (ownI_rd (HT.out.below hK0.1) HKF.out) (good_IntS.wider (good_IntS.below HSR.out hwB hK0.1) (Nat.le_refl _) (Nat.le_trans hwB hK0.1.size)) HLIT.out HPOS.out (by omega)).mono ?_
            rintro e w8 ⟨vx, rfl, hox, hb8⟩
            obtain ⟨oA, oc, exx, -⟩ := hox.shape
            rw [List.length_map] at exx
            subst exx
            have HOX := Lib.hid (show OwnsI w8 w3.heap.size (.slice oA s.2.2.length oc) (s.2.2.map (mapI KL)) from hox)
            clear hox
            go_simp
            refine hK.out _ _ (hS hK0 hb8) (fun hK1 => ?_)
            clear hK K hK0
            (try simp only [Act.put, List.setIfInBounds_toArray, List.set_cons_zero, List.set_cons_succ])
            refine Kept.tail (by rfl) (by kernel_rfl) ?_
            simp only [List.drop_succ_cons, List.drop_zero]
            have HB38 := Lib.hid hK1.1
            have y3 := keep HB38.out y2
            have yz : w8.frozen? ⟨gg, j * 3 + 2, none⟩ = false := (World.frozen?_of_block (HB38.out.block gg hgl)).trans (HFZ.out _)
            have HC5 := Lib.hid (HC.out.below HB38.out)
            have HT5 := Lib.hid (HT.out.below HB38.out)
            clear hK1 hS hS0 g1 d1 d3 x2 y2
            go_wp2
            refine NoPanic.normal ?_
            obtain ⟨bs', rows', hc6, hl6, hb6⟩ := CopyAt.setIn (N := w3.heap.size) (by rw [← HRL.out] at HC5; exact HC5.out) (by rw [HRL.out]; exact hlt) HRW.out HSK.out HOX.out (fun x hx => by obtain ⟨z, -, rfl⟩ := List.mem_map.1 hx; exact HMF.out z) (by omega) hGw (fun b hb => HLT.out b (by rw [HRL.out] at hb; exact hb))
            rw [HRL.out] at hc6 hl6
            have HC6 := Lib.hid hc6
            have HL6 := Lib.hid hl6
            have HT6 := Lib.hid (ownI_far (g := gg) (k := j * 3 + 2) (u := .slice oA s.2.2.length oc) HT5.out (fun e => HDJ.out gg e (by simp [blkL_at])))
            have HD6 := Lib.hid (show ∀ b, (Value.slice B KL.length d).ownBlock = some b → b ∉ blkL (Value.slice (some ⟨gg, 0, none⟩) n.2.1.length c1) ++ bs' from fun b e hm => by
              rcases List.mem_append.1 hm with hm | hm
              · exact HDJ.out b e (List.mem_append.2 (.inl hm))
              · rcases hb6 b hm with hm | hm
                · exact HDJ.out b e (List.mem_append.2 (.inr hm))
                · have := (HT.out.lt b e).2; omega)
            have HB6 := Lib.hid (bSet (bThen HBL.out HB38.out) (p := ⟨gg, j * 3 + 2, none⟩) hgge (.slice oA s.2.2.length oc))
            clear hc6 hl6 hb6 y3 yz
            go_wp2
            go_roundw
            case rel => exact ⟨j + 1, by omega, by go_num, rows', HL6.out, bs', by rw [HNX.out]; exact HC6.out, HT6.out, (fun b e => ⟨fun hm => HD6.out b e (List.mem_append.2 (.inl hm)), fun hm => HD6.out b e (List.mem_append.2 (.inr hm))⟩), HB6.out⟩
            case measure => simp [intOf] <;> omega
          · obtain rfl : n.2.1.length = j := by omega
            rw [mapK_all] at HC
            have HOL := Lib.hid (show ∀ x ∈ n.2.2.2, ∃ p : Nat, x = (p : Int) ∧ p / 2 < KL.length from fun x hx => HROOT.out x (mem_rootsO hx))
            have ho40 := HP.out.sz.o16
            clear hlt
            go_wp2_with fail
            refine (specMap_at KL n.2.2.2 _ _ _ (ownI_rd HT.out HKF.out) (rdUp good_IntS mR3.out HB.out) HOL.out HPOS.out (by omega)).mono ?_
            rintro e w8 ⟨vo, rfl, hoo, hb8⟩
            obtain ⟨oA, oc, exx, -⟩ := hoo.shape
            rw [List.length_map] at exx
            subst exx
            have hGw := HC.out.box.lt
            have HC9 := Lib.hid (CopyAt.setO (HC.out.below hb8) hoo (fun x hx => by obtain ⟨z, -, rfl⟩ := List.mem_map.1 hx; exact HMF.out z) (by have := HC.out.hG; omega) hGw (fun b hb => HC.out.lt b (by simp only [List.mem_append] at hb ⊢; rcases hb with h1 | h1 | h1 <;> simp [h1])))
            have y3 := (HC.out.below hb8).box.cells.1.2.2.2
            have yz := (HC.out.below hb8).box.cells.2
            have k0 := HC9.out.box.cells.1.1
            have k1 := HC9.out.box.cells.1.2.1
            have k2 := HC9.out.box.cells.1.2.2.1
            have k3 := HC9.out.box.cells.1.2.2.2
            have f0 := HC9.out.res.cells.1.1
            have f1 := HC9.out.res.cells.1.2.1
            have f2 := HC9.out.res.cells.1.2.2.1
            have f3 := HC9.out.res.cells.1.2.2.2
            have fz := HC9.out.res.cells.2
            clear hb8 hoo g1 d1 d3
            go_wp2
            ((try simp only [Exit.inBlock, Exit.then]); refine bodyPost_ret (v := (.agg #[.int .i64 n.1, .slice A1 n.2.1.length c1, .slice C KA.length c2, .slice oA n.2.2.2.length oc])) (by rw [results_cell1 rfl]; go_simp) rfl ?_)
            exact ⟨_, _, _, rows, bs, rfl, (HC9.out.done _ _ _ _).1, (HC9.out.done _ _ _ _).2⟩
end Go.Proofs.Ytedamhkcblemdaa
