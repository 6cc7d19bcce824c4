/-
  NetOk: the reference.
-/
import Derived.Test.YtaebiiopommhdaaNet3
import Derived.Deep.RegionHeld3
import Derived.Lib.QuietBelow
namespace Go.Proofs.Ytaebiiopommhdaa
open Go.RowKit
set_option linter.unusedVariables false
set_option linter.unusedSimpArgs false

theorem seq_no {n : DNet} {k : Nat} {s : DSeq} (h : n.2.1[k]? = some s) (hq : seqB s = false) : netB n = false := by
  unfold netB; rw [allK_miss h hq]; simp
theorem and_no {n : DNet} {k : Nat} {a : DAnd} (h : n.2.2.1[k]? = some a) (h0 : andAt n k a = false) : netB n = false := by
  unfold netB; rw [ands_miss h h0]; simp
theorem root_no {n : DNet} {k : Nat} {x e : Int} (he : ncI n = e) (h : (rootsL n)[k]? = some x) (h0 : litB e x = false) : netB n = false := by
  subst he; unfold netB; rw [allK_miss h h0]; simp
theorem net_yes {n : DNet} {e : Int} (he : ncI n = e) (h1 : sizesB n = true) (h2 : n.2.1.all seqB = true) (h3 : andsB n = true) (h4 : (rootsL n).all (litB e) = true) : netB n = true := by
  subst he; unfold netB; rw [h1, h2, h3, h4]; rfl
theorem net_size {n : DNet} (h : sizesB n = false) : netB n = false := by unfold netB; rw [h]; rfl
set_option maxRecDepth 100000 in
set_option maxHeartbeats 12800000 in
theorem specNetOk_at (n : DNet) (us : List Value) (w : World) (h : rdNet 0 w.heap.size w us n) {r : Bool} (hr : netB n = r) :
    Calls Try.prog 54 #[.agg us.toArray] w fun e w' => e = .returned (.bool r) ∧ Below w.heap.size w w' := by
  have HR := Lib.hid hr
  have HD := Lib.hid h
  clear hr
  obtain ⟨mu0, mu1, mu2, mu3, rfl, mh0, mh1, mh2, mh3⟩ := h
  obtain ⟨me0, -⟩ := mh0
  injection me0 with me0
  subst me0
  obtain ⟨mA1, mc1, me1, mm1, -⟩ := slice_of mh1
  subst me1
  have mR1 := Lib.hid mh1
  clear mh1
  obtain ⟨mA2, mc2, me2, mm2, -⟩ := slice_of mh2
  subst me2
  have mR2 := Lib.hid mh2
  clear mh2
  obtain ⟨mA3, mc3, me3, mm3, -⟩ := slice_of mh3
  subst me3
  have mR3 := Lib.hid mh3
  clear mh3
  obtain ⟨N, hN⟩ : ∃ N, ncI n = N := ⟨_, rfl⟩
  obtain ⟨b1, hb1⟩ : ∃ b, sizesB n = b := ⟨_, rfl⟩
  have hp : (0 < N) = (b1 = true) := by rw [← hN, ← hb1]; exact nc_pos
  have hz : b1 = false → N = 0 := fun e => by rw [← hN]; exact nc_no (hb1.trans e)
  have HN := Lib.hid hN
  have H1 := Lib.hid hb1
  clear hN hb1
  go_enter Try.func54, Try.ntmps54
  go_wp2_with fail
  obtain ⟨W0, hV⟩ : ∃ W0, W0 = (w.alloc (.cells #[.int .i64 n.1, .slice mA1 (n.2.1).length mc1, .slice mA2 (n.2.2.1).length mc2, .slice mA3 (n.2.2.2).length mc3] 28)) := ⟨_, rfl⟩
  rw [← hV]
  have gN := eqbox1 hV
  have d0 : W0.cell? ⟨w.heap.size, 0, none⟩ = some (.int .i64 n.1) := box_cell gN.1 0 _ rfl
  have d1 : W0.cell? ⟨w.heap.size, 1, none⟩ = some (.slice mA1 (n.2.1).length mc1) := box_cell gN.1 1 _ rfl
  have d2 : W0.cell? ⟨w.heap.size, 2, none⟩ = some (.slice mA2 (n.2.2.1).length mc2) := box_cell gN.1 2 _ rfl
  have d3 : W0.cell? ⟨w.heap.size, 3, none⟩ = some (.slice mA3 (n.2.2.2).length mc3) := box_cell gN.1 3 _ rfl
  have sW0 : W0.heap.size = w.heap.size + 1 := by rw [hV]; simp
  have HW0 := Lib.hid gN.2
  clear hV gN
  refine (specNc_at n _ _ (rdUp good_Net HD.out HW0.out) (Nat.le_refl _) HN.out).mono ?_
  rintro e w1 ⟨rfl, hb⟩
  replace d0 := keep hb d0
  replace d1 := keep hb d1
  replace d2 := keep hb d2
  replace d3 := keep hb d3
  have HB1 := Lib.hid (bThen HW0.out hb)
  clear hb
  cases b1 with
  | false =>
    have hz' := hz rfl
    subst hz'
    clear hp hz
    go_wp2
    go_ret
    exact ⟨ret_bool ((net_size H1.out).symm.trans HR.out), HB1.out⟩
  | true =>
  have hp' : 0 < N := by rw [hp]
  have b0 : (N == 0) = false := by simp; omega
  have hSz := sizeP_of H1.out
  have HSP := Lib.hid hSz
  have hN3 : N ≤ 333 := by have a := HN.out.symm.trans hSz.nc; have b := hSz.net_le; omega
  have s12 := hSz.s12
  have a300 := hSz.a300
  have o16 := hSz.o16
  clear hp hz hSz
  go_wp2
  go_loopw [4] (fun x wr => ∃ k : Nat, k ≤ n.2.1.length ∧ x = .int .i64 (k : Int) ∧ AllK seqB n.2.1 k = true ∧ Below w1.heap.size w1 wr) (fun x _ => n.2.1.length - (intOf x).toNat)
  case atStart => exact ⟨0, Nat.zero_le _, rfl, allK_zero _ _, Below.refl _ _⟩
  case round =>
    obtain ⟨k, hk, rfl, hall, hb⟩ := hrel
    obtain ⟨w2, rfl⟩ : ∃ w2, w2 = wr := ⟨_, rfl⟩
    have HB0 := Lib.hid hb
    have HB := Lib.hid (bThen HB1.out hb)
    have HA := Lib.hid hall
    have c0 := keep hb d0
    have c1 := keep hb d1
    have c2 := keep hb d2
    have c3 := keep hb d3
    clear hb hall d0 d1 d2 d3
    by_cases hlt : k < n.2.1.length
    · obtain ⟨s, hs⟩ : ∃ s, n.2.1[k]? = some s := ⟨_, List.getElem?_eq_getElem hlt⟩
      have HS := Lib.hid hs
      obtain ⟨sb, sq, sA, sc, rfl, sb1, x0, -, x1, -, x2, sR⟩ := at_Seq (good_SeqS.below mR1.out (Nat.le_refl _) HB.out) hs
      have sb2 := Nat.lt_of_lt_of_le sb1 HB.out.size
      have hq := seqB_eq s
      obtain ⟨L, hL⟩ : ∃ L, s.2.2 = L := ⟨_, rfl⟩
      obtain ⟨kd, hkd⟩ : ∃ kd : Int, s.1 = kd := ⟨_, rfl⟩
      obtain ⟨it, hit⟩ : ∃ it : Int, s.2.1 = it := ⟨_, rfl⟩
      rw [hL, hkd, hit] at hq
      have hq2 : seqB s = decide ((kd = 0 ∧ 0 ≤ it ∧ it ≤ 1 ∧ L.length = 1) ∨ (kd = 1 ∧ 0 ≤ it ∧ it ≤ 31 ∧ L.length = 4)) := by unfold seqB; rw [hL, hkd, hit]
      rw [hL] at x2
      rw [hkd] at x0
      rw [hit] at x1
      have HQ := Lib.hid hq2
      clear hs hL hkd hit hq hq2 sR sb1
      have lt2 : w.heap.size < w2.heap.size := World.block_lt_of_cell? _ _ c1
      by_cases h0 : kd = 0
      · subst h0
        obtain ⟨r1, hr1⟩ : ∃ r1, decide ((0 : Int) ≤ it ∧ it ≤ 1) = r1 := ⟨_, rfl⟩
        have HR1 := Lib.hid hr1
        clear hr1
        go_wp2_with fail
        obtain ⟨V, hV⟩ : ∃ V, V = w2.alloc (.cells #[.int .i64 0, .int .i64 it, .slice sA L.length sc] 67) := ⟨_, rfl⟩
        rw [← hV]
        have gN := eqbox1 hV
        have y0 : V.cell? ⟨w2.heap.size, 0, none⟩ = some (.int .i64 0) := box_cell gN.1 0 _ rfl
        have y1 : V.cell? ⟨w2.heap.size, 1, none⟩ = some (.int .i64 it) := box_cell gN.1 1 _ rfl
        have y2 : V.cell? ⟨w2.heap.size, 2, none⟩ = some (.slice sA L.length sc) := box_cell gN.1 2 _ rfl
        have HBV0 := Lib.hid (bThen HB0.out gN.2)
        have HBV := Lib.hid (bThen HB.out gN.2)
        have ltV : w2.heap.size < V.heap.size := World.block_lt_of_cell? _ _ y0
        clear hV gN x0 x1 x2 c0 c1 c2 c3 lt2
        refine (specIn_at _ _ _ _ HR1.out).mono ?_
        rintro e w4 ⟨rfl, hb4⟩
        replace y0 := keep hb4 y0
        replace y1 := keep hb4 y1
        replace y2 := keep hb4 y2
        have HB4 := Lib.hid (bThen HBV.out hb4)
        have HC4 := Lib.hid (bThen HBV0.out hb4)
        clear hb4
        cases r1 with
        | false =>
          have HE := Lib.hid (seq_no HS.out (HQ.out.trans (decide_eq_false (by have := of_decide_eq_false HR1.out; omega))))
          go_wp2
          go_ret
          exact ⟨ret_bool (HE.out.symm.trans HR.out), HB4.out⟩
        | true =>
          by_cases hl : (L.length : Int) = 1
          · have HY := Lib.hid (allK_step HS.out (HQ.out.trans (decide_eq_true (.inl ⟨by trivial, (of_decide_eq_true HR1.out).1, (of_decide_eq_true HR1.out).2, by omega⟩))) HA.out)
            have b2 : ((L.length : Int) == 1) = true := by simp [hl]
            go_wp2
            go_roundw
            case rel => exact ⟨k + 1, by omega, by go_num, HY.out, HC4.out⟩
            case measure => simp [intOf]; omega
          · have HE := Lib.hid (seq_no HS.out (HQ.out.trans (decide_eq_false (by omega))))
            have b2 : ((L.length : Int) == 1) = false := by simp [hl]
            go_wp2
            go_ret
            exact ⟨ret_bool (HE.out.symm.trans HR.out), HB4.out⟩
      by_cases h1 : kd = 1
      · subst h1
        obtain ⟨r1, hr1⟩ : ∃ r1, decide ((0 : Int) ≤ it ∧ it ≤ 31) = r1 := ⟨_, rfl⟩
        have HR1 := Lib.hid hr1
        clear hr1
        go_wp2_with fail
        obtain ⟨V, hV⟩ : ∃ V, V = w2.alloc (.cells #[.int .i64 1, .int .i64 it, .slice sA L.length sc] 67) := ⟨_, rfl⟩
        rw [← hV]
        have gN := eqbox1 hV
        have y0 : V.cell? ⟨w2.heap.size, 0, none⟩ = some (.int .i64 1) := box_cell gN.1 0 _ rfl
        have y1 : V.cell? ⟨w2.heap.size, 1, none⟩ = some (.int .i64 it) := box_cell gN.1 1 _ rfl
        have y2 : V.cell? ⟨w2.heap.size, 2, none⟩ = some (.slice sA L.length sc) := box_cell gN.1 2 _ rfl
        have HBV0 := Lib.hid (bThen HB0.out gN.2)
        have HBV := Lib.hid (bThen HB.out gN.2)
        have ltV : w2.heap.size < V.heap.size := World.block_lt_of_cell? _ _ y0
        clear hV gN x0 x1 x2 c0 c1 c2 c3 lt2
        refine (specIn_at _ _ _ _ HR1.out).mono ?_
        rintro e w4 ⟨rfl, hb4⟩
        replace y0 := keep hb4 y0
        replace y1 := keep hb4 y1
        replace y2 := keep hb4 y2
        have HB4 := Lib.hid (bThen HBV.out hb4)
        have HC4 := Lib.hid (bThen HBV0.out hb4)
        clear hb4
        cases r1 with
        | false =>
          have HE := Lib.hid (seq_no HS.out (HQ.out.trans (decide_eq_false (by have := of_decide_eq_false HR1.out; omega))))
          go_wp2
          go_ret
          exact ⟨ret_bool (HE.out.symm.trans HR.out), HB4.out⟩
        | true =>
          by_cases hl : (L.length : Int) = 4
          · have HY := Lib.hid (allK_step HS.out (HQ.out.trans (decide_eq_true (.inr ⟨by trivial, (of_decide_eq_true HR1.out).1, (of_decide_eq_true HR1.out).2, by omega⟩))) HA.out)
            have b2 : ((L.length : Int) == 4) = true := by simp [hl]
            go_wp2
            go_roundw
            case rel => exact ⟨k + 1, by omega, by go_num, HY.out, HC4.out⟩
            case measure => simp [intOf]; omega
          · have HE := Lib.hid (seq_no HS.out (HQ.out.trans (decide_eq_false (by omega))))
            have b2 : ((L.length : Int) == 4) = false := by simp [hl]
            go_wp2
            go_ret
            exact ⟨ret_bool (HE.out.symm.trans HR.out), HB4.out⟩
      · have b1' : (kd == 0) = false := by simp [h0]
        have b2' : (kd == 1) = false := by simp [h1]
        have HE := Lib.hid (seq_no HS.out (HQ.out.trans (decide_eq_false (by omega))))
        clear h0 h1 c0 c2 c3
        go_wp2
        go_ret
        exact ⟨ret_bool (HE.out.symm.trans HR.out), bThen HB.out (bAlloc (Below.refl _ _) (Nat.le_refl _) _)⟩
    · obtain rfl : k = n.2.1.length := by omega
      have H2 := Lib.hid (allK_end HA.out)
      clear hlt HA
      go_wp2_with fail
      refine (specRoots_at n _ _ (rdUp good_Net HD.out HB.out) H1.out H2.out).mono ?_
      rintro e w3 ⟨v, rfl, ho, hb⟩
      obtain ⟨rA, rc, rfl, -⟩ := ho.shape
      replace c0 := keep hb c0
      replace c1 := keep hb c1
      replace c2 := keep hb c2
      replace c3 := keep hb c3
      have HO := Lib.hid ho
      have HB3 := Lib.hid (bThen HB.out hb)
      have hrl : (rootsL n).length ≤ 1000 := by have h1 := rootsK_le H2.out n.2.1.length; rw [rootsK_end] at h1; omega
      clear hb ho HB HB0
      obtain ⟨R, hR⟩ : ∃ R, rootsL n = R := ⟨_, rfl⟩
      have HRR := Lib.hid hR
      rw [hR] at HO hrl ⊢
      clear hR
      go_wp2
      go_loopw [7] (fun x wr => ∃ k : Nat, k ≤ R.length ∧ x = .int .i64 (k : Int) ∧ AllK (litB N) R k = true ∧ Below w3.heap.size w3 wr) (fun x _ => R.length - (intOf x).toNat)
      case atStart => exact ⟨0, Nat.zero_le _, rfl, allK_zero _ _, Below.refl _ _⟩
      case round =>
        obtain ⟨k, hk, rfl, hall, hb⟩ := hrel
        obtain ⟨w2, rfl⟩ : ∃ w2, w2 = wr := ⟨_, rfl⟩
        have HB0 := Lib.hid hb
        have HB := Lib.hid (bThen HB3.out hb)
        have HA := Lib.hid hall
        replace c0 := keep hb c0
        replace c1 := keep hb c1
        replace c2 := keep hb c2
        replace c3 := keep hb c3
        clear hb hall
        by_cases hlt : k < R.length
        · obtain ⟨x, hx⟩ : ∃ x, R[k]? = some x := ⟨_, List.getElem?_eq_getElem hlt⟩
          have HX := Lib.hid hx
          have hr0 := ownI_rd (HO.out.below HB0.out) (by rw [← HRR.out]; exact roots_fit HD.out)
          obtain ⟨xb, xq, rfl, xlt, xc, xf⟩ := at_Int hr0 hx
          obtain ⟨q, hq⟩ : ∃ q, litB N x = q := ⟨_, rfl⟩
          have HQ := Lib.hid hq
          have HF := Lib.hid xf
          clear hx hq xf hr0 c0 c1 c2 c3
          go_wp2_with fail
          refine (specLit_at _ _ _ HF.out HQ.out).mono ?_
          rintro e w5 ⟨rfl, hb5⟩
          have HB5 := Lib.hid (bThen HB.out hb5)
          have HB6 := Lib.hid (bThen HB0.out hb5)
          clear hb5
          cases q with
          | false =>
            have HE := Lib.hid ((root_no HN.out (by rw [HRR.out]; exact HX.out) HQ.out).symm.trans HR.out)
            clear xc
            go_wp2
            go_ret
            exact ⟨ret_bool HE.out, HB5.out⟩
          | true =>
            have HY := Lib.hid (allK_step HX.out HQ.out HA.out)
            clear xc
            go_wp2
            go_roundw
            case rel => exact ⟨k + 1, by omega, by go_num, HY.out, HB6.out⟩
            case measure => simp [intOf]; omega
        · obtain rfl : k = R.length := by omega
          have H4 := Lib.hid (show (rootsL n).all (litB N) = true by rw [HRR.out]; exact allK_end HA.out)
          have HB3' := HB
          clear hlt HA HO HB0 HB3
          have HB3 := Lib.hid HB3'.out
          clear HB3'
          go_wp2
          go_loopw [8] (fun x wr => ∃ k : Nat, k ≤ n.2.2.1.length ∧ x = .int .i64 (k : Int) ∧ andsK n k = true ∧ Below w2.heap.size w2 wr) (fun x _ => n.2.2.1.length - (intOf x).toNat)
          case atStart => exact ⟨0, Nat.zero_le _, rfl, ands_zero n, Below.refl _ _⟩
          case round =>
            obtain ⟨k, hk, rfl, hall, hb⟩ := hrel
            obtain ⟨w6, rfl⟩ : ∃ w6, w6 = wr := ⟨_, rfl⟩
            have HB0 := Lib.hid hb
            have HB := Lib.hid (bThen HB3.out hb)
            have HA := Lib.hid hall
            replace c0 := keep hb c0
            replace c1 := keep hb c1
            replace c2 := keep hb c2
            replace c3 := keep hb c3
            clear hb hall
            by_cases hlt : k < n.2.2.1.length
            · obtain ⟨a, ha⟩ : ∃ a, n.2.2.1[k]? = some a := ⟨_, List.getElem?_eq_getElem hlt⟩
              have HST := Lib.hid (ands_step ha HA.out)
              have HMI := Lib.hid (fun h => and_no (n := n) ha h)
              obtain ⟨ab, aq, rfl, ab1, x0, xf, x1, yf⟩ := at_And (good_AndS.below mR2.out (Nat.le_refl _) HB.out) ha
              have ab2 := Nat.lt_of_lt_of_le ab1 HB.out.size
              obtain ⟨x, y⟩ := a
              dsimp only at x0 x1 xf yf
              have HF := Lib.hid (And.intro xf yf)
              obtain ⟨E, hE⟩ : ∃ E : Int, firI n + k = E := ⟨_, rfl⟩
              obtain ⟨q1, hq1⟩ : ∃ q, litB E x = q := ⟨_, rfl⟩
              obtain ⟨q2, hq2⟩ : ∃ q, litB E y = q := ⟨_, rfl⟩
              have hat : andAt n k (x, y) = (q1 && q2) := by unfold andAt; rw [hE, hq1, hq2]
              have hEw : IntKind.i64.wrap ((firN n : Int) + (k : Int)) = E := by have hf := HSP.out.fir_le; rw [← hE, HSP.out.fir, wrap64_int _ (by omega) (by omega)]
              have HL1 := Lib.hid hq1
              have HL2 := Lib.hid hq2
              have HAT := Lib.hid hat
              have tk : (k : Int) < (n.2.2.1.length : Int) := by omega
              have z0 : ∀ d os, (Sort.grow (redrawn w6 d) os).cell? ⟨w.heap.size, 0, none⟩ = some (.int .i64 n.1) := cell_regrown c0
              have z1 : ∀ d os, (Sort.grow (redrawn w6 d) os).cell? ⟨w.heap.size, 1, none⟩ = some (.slice mA1 (n.2.1).length mc1) := cell_regrown c1
              have z2 : ∀ d os, (Sort.grow (redrawn w6 d) os).cell? ⟨w.heap.size, 2, none⟩ = some (.slice (some ⟨ab, aq, none⟩) (n.2.2.1).length mc2) := cell_regrown c2
              have z3 : ∀ d os, (Sort.grow (redrawn w6 d) os).cell? ⟨w.heap.size, 3, none⟩ = some (.slice mA3 (n.2.2.2).length mc3) := cell_regrown c3
              have p0 : ∀ d os, (Sort.grow (redrawn w6 d) os).cell? ⟨ab, aq + k * 2, none⟩ = some (.int .i64 x) := cell_regrown x0
              have p1 : ∀ d os, (Sort.grow (redrawn w6 d) os).cell? ⟨ab, aq + k * 2 + 1, none⟩ = some (.int .i64 y) := cell_regrown x1
              clear ha xf yf hE hq1 hq2 hat ab1 x0 x1 c0 c1 c3
              cases q1 with
              | false =>
                have HE := Lib.hid ((HMI.out (HAT.out.trans rfl)).symm.trans HR.out)
                go_wp2
                clear c2
                refine wp_region_quiet_below (by kernel_rfl) (by kernel_rfl) ?_
                repeat (go_big_quiet_step (first | (go_at_call 60; refine Calls.regrown_of (specFirst_at n _ _ (good_Net.below (rdUp good_Net HD.out HB.out) (Nat.le_refl _) (below_regrown _ _ _)) (below_regrown _ _ _).size HSP.out)) | (go_at_call 79; refine Calls.regrown_of (specLit_at _ _ _ (by first | exact HF.out.1 | exact HF.out.2) (by first | exact HL1.out | exact HL2.out)))))
                refine wpQuiet_nil ?_
                intro _ hw'
                obtain ⟨⟨dq, osq⟩, hw''⟩ := hw'
                subst hw''
                have HBQ := Lib.hid (bThen HB.out (below_regrown w6 dq osq))
                have HBQ3 := Lib.hid (bThen HB0.out (below_regrown w6 dq osq))
                go_wp2
                go_ret
                exact ⟨ret_bool HE.out, HBQ.out⟩
              | true =>
                cases q2 with
                | false =>
                  have HE := Lib.hid ((HMI.out (HAT.out.trans rfl)).symm.trans HR.out)
                  go_wp2
                  clear c2
                  refine wp_region_quiet_below (by kernel_rfl) (by kernel_rfl) ?_
                  repeat (go_big_quiet_step (first | (go_at_call 60; refine Calls.regrown_of (specFirst_at n _ _ (good_Net.below (rdUp good_Net HD.out HB.out) (Nat.le_refl _) (below_regrown _ _ _)) (below_regrown _ _ _).size HSP.out)) | (go_at_call 79; refine Calls.regrown_of (specLit_at _ _ _ (by first | exact HF.out.1 | exact HF.out.2) (by first | exact HL1.out | exact HL2.out)))))
                  refine wpQuiet_nil ?_
                  intro _ hw'
                  obtain ⟨⟨dq, osq⟩, hw''⟩ := hw'
                  subst hw''
                  have HBQ := Lib.hid (bThen HB.out (below_regrown w6 dq osq))
                  have HBQ3 := Lib.hid (bThen HB0.out (below_regrown w6 dq osq))
                  go_wp2
                  go_ret
                  exact ⟨ret_bool HE.out, HBQ.out⟩
                | true =>
                  have HY := Lib.hid (HST.out.trans (HAT.out.trans rfl))
                  go_wp2
                  clear c2
                  refine wp_region_quiet_below (by kernel_rfl) (by kernel_rfl) ?_
                  repeat (go_big_quiet_step (first | (go_at_call 60; refine Calls.regrown_of (specFirst_at n _ _ (good_Net.below (rdUp good_Net HD.out HB.out) (Nat.le_refl _) (below_regrown _ _ _)) (below_regrown _ _ _).size HSP.out)) | (go_at_call 79; refine Calls.regrown_of (specLit_at _ _ _ (by first | exact HF.out.1 | exact HF.out.2) (by first | exact HL1.out | exact HL2.out)))))
                  refine wpQuiet_nil ?_
                  intro _ hw'
                  obtain ⟨⟨dq, osq⟩, hw''⟩ := hw'
                  subst hw''
                  have HBQ := Lib.hid (bThen HB.out (below_regrown w6 dq osq))
                  have HBQ3 := Lib.hid (bThen HB0.out (below_regrown w6 dq osq))
                  go_wp2
                  go_roundw
                  case rel => exact ⟨k + 1, by omega, by go_num, HY.out, HBQ3.out⟩
                  case measure => simp [intOf]; omega
            · obtain rfl : k = n.2.2.1.length := by omega
              have HE := Lib.hid ((net_yes HN.out H1.out H2.out HA.out H4.out).symm.trans HR.out)
              clear c0 c1 c3
              go_wp2
              go_ret
              exact ⟨ret_bool HE.out, HB.out⟩
end Go.Proofs.Ytaebiiopommhdaa
