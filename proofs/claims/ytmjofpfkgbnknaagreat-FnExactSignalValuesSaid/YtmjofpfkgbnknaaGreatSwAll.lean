/-
  SStates, SWs as one text.
-/
import Derived.Test.YtmjofpfkgbnknaaGreatWsMath
import Derived.Test.YtmjofpfkgbnknaaGreatSFlat
import Derived.Test.YtmjofpfkgbnknaaGreatAtR
import Derived.Test.YtmjofpfkgbnknaaGreatEvS
import Derived.Test.YtmjofpfkgbnknaaGreatSEval
import Derived.Test.YtmjofpfkgbnknaaGreatIEval
import Derived.Test.YtmjofpfkgbnknaaGreatKept
import Derived.Deep.RegionHeld3
/- SStates: Valid states of flat modules: the reference. -/
namespace Go.Proofs.YtmjofpfkgbnknaaGreat
open Go.RowKit
set_option linter.unusedVariables false
set_option linter.unusedSimpArgs false

set_option maxRecDepth 100000 in
set_option maxHeartbeats 6400000 in
theorem specStates_at (m : DModule) (us : List Value) (w : World) (h : rdModule 0 w.heap.size w us m) (hl : m.1.length ≤ 30) (hl3 : m.2.2.2.length ≤ 2) (hmem : ∀ x ∈ m.2.2.2, ∃ t : Nat, x.2.2.2 = t ∧ t < m.1.length) :
    Calls Tryz.prog 104 #[.agg us.toArray] w fun e w' => ∃ g, e = .returned (.slice (some ⟨g, 0, none⟩) m.1.length m.1.length) ∧ OwnsB w' w.heap.size (.slice (some ⟨g, 0, none⟩) m.1.length m.1.length) (statesL m) ∧ Below w.heap.size w w' := by
  obtain ⟨iB, hiB, hzB0, hzB1, hzB2⟩ := info_parts infoB
  have HM := Lib.hid hmem
  clear hmem
  obtain ⟨mu0, mu1, mu2, mu3, rfl, mh0, mh1, mh2, mh3⟩ := h
  obtain ⟨mA0, mc0, me0, mm0, -⟩ := slice_of mh0
  subst me0
  have mR0 := Lib.hid mh0
  clear mh0
  obtain ⟨mA1, mc1, me1, mm1, -⟩ := slice_of mh1
  subst me1
  have mR1 := Lib.hid mh1
  clear mh1
  obtain ⟨mA2, mc2, me2, mm2, -⟩ := slice_of mh2
  subst me2
  have mR2 := Lib.hid mh2
  clear mh2
  obtain ⟨mA3, mc3, me3, mm3, -⟩ := slice_of mh3
  subst me3
  have mR3 := Lib.hid mh3
  clear mh3
  go_enter Tryz.func104, Tryz.ntmps104
  go_wp2_with (at_make; refine wpList_make_full _ rfl _ _ 137 rfl (w.heap.size + 1) 4 iB (.bool false) 1 Tryz.underlying137 hiB hzB0 hzB1 .i64 .i64 (m.1.length : Int) (m.1.length : Int) m.1.length rfl rfl rfl rfl (by rw [hzB2]; omega) (by unfold maxLen; omega) (by simp) ?_; intro w1 hown1 hgrow1)
  obtain ⟨W0, hV⟩ : ∃ W0, W0 = w.alloc (.cells #[.slice mA0 (m.1).length mc0, .slice mA1 (m.2.1).length mc1, .slice mA2 (m.2.2.1).length mc2, .slice mA3 (m.2.2.2).length mc3] 31) := ⟨_, rfl⟩
  rw [← hV] at hown1 hgrow1
  have gN := eqbox1 hV
  have sW0 : W0.heap.size = w.heap.size + 1 := by rw [hV]; simp
  have HW0 := Lib.hid gN.2
  have d0 : W0.cell? ⟨w.heap.size, 0, none⟩ = some (.slice mA0 (m.1).length mc0) := box_cell gN.1 0 _ rfl
  have d3 : W0.cell? ⟨w.heap.size, 3, none⟩ = some (.slice mA3 (m.2.2.2).length mc3) := box_cell gN.1 3 _ rfl
  clear hV gN
  obtain ⟨G, hG⟩ : ∃ G, G = w.heap.size + 1 := ⟨_, rfl⟩
  rw [sW0] at hown1
  have hown : OwnsB w1 w.heap.size (.slice (some ⟨G, 0, none⟩) m.1.length m.1.length) (st1 m 0) := by
    rw [st1_zero]
    unfold OwnsB OwnsR
    rw [List.length_replicate, ← made_rows fB 1 fB_len false (.bool false : Value).cells rfl (by omega), hG]
    have h := hown1
    refine ⟨h.1, ?_⟩
    rcases h.2 with h2 | ⟨g', cap', cur', e1', e2', e3', e4'⟩
    · exact .inl h2
    · exact .inr ⟨g', cap', cur', e1', by omega, e3', e4'⟩
  have hB1 : Below W0.heap.size W0 w1 := (Below.refl _ _).grown hgrow1 (Nat.le_refl _) (by intro g hg; cases hg)
  rw [← hG]
  have HO := Lib.hid hown
  have HB := Lib.hid (bThen HW0.out hB1)
  have hG1 : w.heap.size + 1 ≤ G := by omega
  clear hG hown hown1 hgrow1
  replace d0 := keep hB1 d0
  replace d3 := keep hB1 d3
  clear hB1
  go_loopw [4] (fun v wr => ∃ k : Nat, k ≤ m.1.length ∧ v = .int .i64 (k : Int) ∧ OwnsB wr w.heap.size (.slice (some ⟨G, 0, none⟩) m.1.length m.1.length) (st1 m k) ∧ Below w.heap.size w wr ∧ wr.cell? ⟨w.heap.size, 0, none⟩ = some (.slice mA0 (m.1).length mc0) ∧ wr.cell? ⟨w.heap.size, 3, none⟩ = some (.slice mA3 (m.2.2.2).length mc3)) (fun v _ => m.1.length - (intOf v).toNat)
  case atStart => exact ⟨0, Nat.zero_le _, rfl, HO.out, HB.out, d0, d3⟩
  case round =>
    obtain ⟨k, hk, rfl, hown, hb, c0, c3⟩ := hrel
    obtain ⟨w2, rfl⟩ : ∃ w2, w2 = wr := ⟨_, rfl⟩
    clear HO HB d0 d3
    have HO := Lib.hid hown
    have HB := Lib.hid hb
    have hlt0 : w.heap.size < w2.heap.size := World.block_lt_of_cell? _ _ c0
    have hGl := hown.ltN.1
    clear hown hb
    by_cases hlt : k < m.1.length
    · obtain ⟨x, hx⟩ : ∃ x, m.1[k]? = some x := ⟨_, List.getElem?_eq_getElem hlt⟩
      have HX := Lib.hid (st1_step hx)
      obtain ⟨b, q, rfl, hb1, x0, -, x1, -, x2, -⟩ := at_Signal (good_SignalS.below mR0.out (Nat.le_refl _) HB.out) hx
      have hb2 := Nat.lt_of_lt_of_le hb1 HB.out.size
      obtain ⟨kd, hkd⟩ : ∃ kd, x.1 = kd := ⟨_, rfl⟩
      rw [hkd] at x0
      obtain ⟨b3, hb3⟩ : ∃ b3, (kd == 3) = b3 := ⟨_, rfl⟩
      have HR3 := Lib.hid (show isReg x = b3 by unfold isReg; rw [hkd, ← hb3]; by_cases h : kd = 3 <;> simp [h])
      have gf := OwnsB.shapeN HO.out (st1_len m k hk) hlt
      have g0 := gf.1
      have g1 := gf.2
      clear gf hkd hx x1 x2 hb1
      go_wp2
      go_roundw
      case rel =>
        have hne : G ≠ w.heap.size := by omega
        refine ⟨k + 1, by omega, by go_num, ?_, bSet HB.out (by dsimp only; omega) _, ?_, ?_⟩
        · have h := OwnsB.set HO.out (st1_len m k hk) hlt b3
          rw [← HR3.out, HX.out] at h
          first | exact h | (rw [HR3.out] at h; exact h)
        · rw [World.cell?_setCell_other _ _ _ _ (by intro e; injection e with e; exact hne e)]; exact c0
        · rw [World.cell?_setCell_other _ _ _ _ (by intro e; injection e with e; exact hne e)]; exact c3
      case measure => simp [intOf]; omega
    · obtain rfl : k = m.1.length := by omega
      rw [st1_end] at HO
      clear hlt
      go_wp2
      go_loopw [5] (fun v wr => ∃ k : Nat, k ≤ m.2.2.2.length ∧ v = .int .i64 (k : Int) ∧ OwnsB wr w.heap.size (.slice (some ⟨G, 0, none⟩) m.1.length m.1.length) (stM m k) ∧ Below w.heap.size w wr ∧ wr.cell? ⟨w.heap.size, 3, none⟩ = some (.slice mA3 (m.2.2.2).length mc3)) (fun v _ => m.2.2.2.length - (intOf v).toNat)
      case atStart => exact ⟨0, Nat.zero_le _, rfl, HO.out, HB.out, c3⟩
      case round =>
        obtain ⟨k, hk, rfl, hown, hb, c3⟩ := hrel
        obtain ⟨w3, rfl⟩ : ∃ w3, w3 = wr := ⟨_, rfl⟩
        clear HO HB hlt0 hGl c0
        have HO := Lib.hid hown
        have HB := Lib.hid hb
        have hlt0 : w.heap.size < w3.heap.size := World.block_lt_of_cell? _ _ c3
        have hGl := hown.ltN.1
        clear hown hb
        by_cases hlt : k < m.2.2.2.length
        · obtain ⟨x, hx⟩ : ∃ x, m.2.2.2[k]? = some x := ⟨_, List.getElem?_eq_getElem hlt⟩
          obtain ⟨t, ht, htl⟩ := HM.out x (List.mem_of_getElem? hx)
          have HX := Lib.hid (stM_step hx ht)
          obtain ⟨b, q, rfl, hb1, x0, -, x1, -, x2, -, x3, -⟩ := at_Mem (good_MemS.below mR3.out (Nat.le_refl _) HB.out) hx
          have hb2 := Nat.lt_of_lt_of_le hb1 HB.out.size
          rw [ht] at x3
          have gf := OwnsB.shapeN HO.out (stM_len m k) htl
          have g0 := gf.1
          have g1 := gf.2
          have tl : (t : Int) < (m.1.length : Int) := by omega
          clear gf hx ht x0 x1 x2 hb1
          go_wp2
          go_roundw
          case rel =>
            have hne : G ≠ w.heap.size := by omega
            refine ⟨k + 1, by omega, by go_num, ?_, bSet HB.out (by dsimp only; omega) _, ?_⟩
            · have h := OwnsB.set HO.out (stM_len m k) htl true
              rw [HX.out] at h; exact h
            · rw [World.cell?_setCell_other _ _ _ _ (by intro e; injection e with e; exact hne e)]; exact c3
          case measure => simp [intOf]; omega
        · obtain rfl : k = m.2.2.2.length := by omega
          go_wp2
          go_ret
          exact ⟨_, rfl, HO.out, HB.out⟩
end Go.Proofs.YtmjofpfkgbnknaaGreat
/- SWs: WordStateOk: the reference. -/
namespace Go.Proofs.YtmjofpfkgbnknaaGreat
open Go.RowKit
set_option linter.unusedVariables false
set_option linter.unusedSimpArgs false

theorem mask_eqs (W : Nat) (hW : W ≤ 4) : ∃ M : Nat, M = 2 ^ W - 1 ∧ M ≤ 15 ∧ IntKind.i64.wrap ((2 : Int) ^ W) = (M : Int) + 1 ∧ wrap64 ((2 : Int) ^ W) = (M : Int) + 1 := by
  obtain ⟨M, hM⟩ := maskOf W
  have h16 := pow16 W hW
  exact ⟨M, by omega, by omega, (wrapP W M hW hM).1, (wrapP W M hW hM).2⟩
theorem mask_go (W : Nat) (hW : W ≤ 4) : ∃ M : Nat, M = 2 ^ W - 1 ∧ M ≤ 15 ∧ wrap64 (wrap64 ((2 : Int) ^ min W 64) - 1) = (M : Int) ∧ IntKind.i64.wrap (IntKind.i64.wrap ((2 : Int) ^ min W 64) - 1) = (M : Int) := by
  obtain ⟨M, hM, hM15, e1, e3⟩ := mask_eqs W hW
  refine ⟨M, hM, hM15, ?_, ?_⟩
  · rw [Nat.min_eq_left (by omega), e3]; unfold wrap64; omega
  · rw [Nat.min_eq_left (by omega), e1]
    have e : (M : Int) + 1 - 1 = (M : Int) := by omega
    rw [e, wrap64_small _ (by omega)]
set_option maxRecDepth 100000 in
set_option maxHeartbeats 12800000 in
theorem specWs_at (m : DModule) (st : DWordState) (us vs : List Value) (w : World) (h : rdModule 0 w.heap.size w us m) (hs : rdWordState 0 w.heap.size w vs st) {r : Bool} (hr : wsB m st = r) :
    Calls Tryz.prog 69 #[.agg us.toArray, .agg vs.toArray] w fun e w' => e = .returned (.bool r) ∧ Below w.heap.size w w' := by
  have HM := Lib.hid h
  have HR := Lib.hid hr
  clear hr
  obtain ⟨mu0, mu1, mu2, mu3, rfl, mh0, mh1, mh2, mh3⟩ := h
  obtain ⟨mA0, mc0, me0, mm0, -⟩ := slice_of mh0
  subst me0
  have mR0 := Lib.hid mh0
  clear mh0
  obtain ⟨mA1, mc1, me1, mm1, -⟩ := slice_of mh1
  subst me1
  have mR1 := Lib.hid mh1
  clear mh1
  obtain ⟨mA2, mc2, me2, mm2, -⟩ := slice_of mh2
  subst me2
  have mR2 := Lib.hid mh2
  clear mh2
  obtain ⟨mA3, mc3, me3, mm3, -⟩ := slice_of mh3
  subst me3
  have mR3 := Lib.hid mh3
  clear mh3
  obtain ⟨su0, su1, rfl, sh0, sh1⟩ := hs
  obtain ⟨sA0, sc0, se0, sm0, -⟩ := slice_of sh0
  subst se0
  have sR0 := Lib.hid sh0
  clear sh0
  obtain ⟨sA1, sc1, se1, sm1, -⟩ := slice_of sh1
  subst se1
  have sR1 := Lib.hid sh1
  clear sh1
  obtain ⟨f, hf⟩ : ∃ f, flatB m = f := ⟨_, rfl⟩
  have HF := Lib.hid hf
  clear hf
  go_enter Tryz.func69, Tryz.ntmps69
  go_wp2_with fail
  obtain ⟨W0, hV⟩ : ∃ W0, W0 = ((w.alloc (.cells #[.slice mA0 (m.1).length mc0, .slice mA1 (m.2.1).length mc1, .slice mA2 (m.2.2.1).length mc2, .slice mA3 (m.2.2.2).length mc3] 31)).alloc (.cells #[.slice sA0 (st.1).length sc0, .slice sA1 (st.2).length sc1] 56)) := ⟨_, rfl⟩
  rw [← hV]
  have gN := eqbox2 hV
  have d0 : W0.cell? ⟨w.heap.size, 0, none⟩ = some (.slice mA0 (m.1).length mc0) := box_cell gN.1 0 _ rfl
  have d1 : W0.cell? ⟨w.heap.size, 1, none⟩ = some (.slice mA1 (m.2.1).length mc1) := box_cell gN.1 1 _ rfl
  have d2 : W0.cell? ⟨w.heap.size, 2, none⟩ = some (.slice mA2 (m.2.2.1).length mc2) := box_cell gN.1 2 _ rfl
  have d3 : W0.cell? ⟨w.heap.size, 3, none⟩ = some (.slice mA3 (m.2.2.2).length mc3) := box_cell gN.1 3 _ rfl
  have e0 : W0.cell? ⟨w.heap.size + 1, 0, none⟩ = some (.slice sA0 (st.1).length sc0) := box_cell gN.2.1 0 _ rfl
  have e1 : W0.cell? ⟨w.heap.size + 1, 1, none⟩ = some (.slice sA1 (st.2).length sc1) := box_cell gN.2.1 1 _ rfl
  have sW0 : W0.heap.size = w.heap.size + 2 := by rw [hV]; simp
  have HW0 := Lib.hid gN.2.2
  clear hV gN
  refine (specFlat_at m _ _ (rdUp good_Module HM.out HW0.out) (Nat.le_refl _) HF.out).mono ?_
  rintro e w1 ⟨rfl, hb⟩
  replace d0 := keep hb d0
  replace d1 := keep hb d1
  replace d2 := keep hb d2
  replace d3 := keep hb d3
  replace e0 := keep hb e0
  replace e1 := keep hb e1
  have HB := Lib.hid (bThen HW0.out hb)
  clear hb
  cases f with
  | false =>
    have HE := Lib.hid (ws_no0 HR.out HF.out)
    go_wp2
    go_ret
    exact ⟨ret_bool HE.out.symm, HB.out⟩
  | true =>
    have HP := Lib.hid (flatP_of HF.out)
    by_cases h1 : st.1.length = m.1.length
    case neg =>
      have HE := Lib.hid (ws_no1 HR.out (fun h => h1 h.1))
      have b1 : ((st.1.length : Int) != (m.1.length : Int)) = true := by simp; omega
      have b1' : ((st.1.length : Int) == (m.1.length : Int)) = false := by simp; omega
      have b1'' : (st.1.length == m.1.length) = false := by simp; omega
      clear h1
      go_wp2
      go_ret
      exact ⟨ret_bool HE.out.symm, HB.out⟩
    by_cases h2 : st.2.length = 4 * m.2.2.2.length
    case neg =>
      have HE := Lib.hid (ws_no1 HR.out (fun h => h2 h.2))
      have hl3 := HP.out.mod.l3
      rw [h1]
      go_wp2
      go_ret
      exact ⟨ret_bool HE.out.symm, HB.out⟩
    have l0 := HP.out.mod.l0
    have l3 := HP.out.mod.l3
    have b1 : ((st.1.length : Int) != (m.1.length : Int)) = false := by simp; omega
    have b2 : ((st.2.length : Int) != 4 * (m.2.2.2.length : Int)) = false := by simp; omega
    have H1 := Lib.hid h1
    have H2 := Lib.hid h2
    have ls1 : st.1.length ≤ 30 := by omega
    have ls2 : st.2.length ≤ 8 := by omega
    clear h1 h2
    go_wp2_with fail
    refine (specStates_at m _ _ (rdUp good_Module HM.out HB.out) l0 l3 (mem_outs HP.out)).mono ?_
    rintro e w2 ⟨G, rfl, hown, hb⟩
    replace d0 := keep hb d0
    replace d1 := keep hb d1
    replace d2 := keep hb d2
    replace d3 := keep hb d3
    replace e0 := keep hb e0
    replace e1 := keep hb e1
    have HO := Lib.hid hown
    have HB2 := Lib.hid (bThen HB.out hb)
    clear hown hb HB d1 d2 b1 b2
    go_wp2
    go_loopw [6] (fun v wr => ∃ k : Nat, k ≤ m.1.length ∧ v = .int .i64 (k : Int) ∧ AllN (valB m st.1) k ∧ Below w2.heap.size w2 wr) (fun v _ => m.1.length - (intOf v).toNat)
    case atStart => exact ⟨0, Nat.zero_le _, rfl, AllN.zero _, Below.refl _ _⟩
    case round =>
      obtain ⟨k, hk, rfl, hall, hb⟩ := hrel
      obtain ⟨w3, rfl⟩ : ∃ w3, w3 = wr := ⟨_, rfl⟩
      have HA := Lib.hid hall
      have HB := Lib.hid hb
      have HB3 := Lib.hid (bThen HB2.out hb)
      replace d0 := keep hb d0
      replace d3 := keep hb d3
      replace e0 := keep hb e0
      replace e1 := keep hb e1
      have lt0 : w.heap.size < w3.heap.size := World.block_lt_of_cell? _ _ d0
      have lt1 : w.heap.size + 1 < w3.heap.size := World.block_lt_of_cell? _ _ e0
      have HO3 := Lib.hid (OwnsR.below HO.out hb)
      clear hall hb
      by_cases hlt : k < m.1.length
      · obtain ⟨x, hx⟩ : ∃ x, m.1[k]? = some x := ⟨_, List.getElem?_eq_getElem hlt⟩
        obtain ⟨W, hxW, hW⟩ := HP.out.wid k x hx
        have hks : k < st.1.length := by have := H1.out; omega
        obtain ⟨y, hy⟩ : ∃ y, st.1[k]? = some y := ⟨_, List.getElem?_eq_getElem hks⟩
        have HY := Lib.hid (show st.1.getD k 0 = y by rw [List.getD_eq_getElem?_getD, hy]; rfl)
        obtain ⟨xb, xq, rfl, xb1, x0, -, x1, -, x2, -⟩ := at_Signal (good_SignalS.below mR0.out (Nat.le_refl _) HB3.out) hx
        obtain ⟨yb, yq, rfl, yb1, y0, -⟩ := at_Int (good_IntS.below sR0.out (Nat.le_refl _) HB3.out) hy
        have xb2 := Nat.lt_of_lt_of_le xb1 HB3.out.size
        have yb2 := Nat.lt_of_lt_of_le yb1 HB3.out.size
        rw [hxW] at x1
        obtain ⟨M, hM, hM15, hm1, hm2⟩ := mask_go W hW.2
        have HEM := Lib.hid (And.intro hm1 hm2)
        obtain ⟨q, hq⟩ : ∃ q, stateB m k = q := ⟨_, rfl⟩
        have g0 := (OwnsB.shapeN HO3.out (stM_len m _) hlt).1
        rw [statesL_at (mem_outs HP.out) hlt, hq] at g0
        have glt := (OwnsB.ltN HO3.out).1
        have HVB := Lib.hid (show valB m st.1 k = fitsB y (if q then W else 0) by unfold valB valW; rw [HY.out, hq, widN_at hx hxW])
        have HMM := Lib.hid hM
        clear hx hy hxW hq xb1 yb1 x0 x2 hM hW hm1 hm2 hM15
        cases q with
        | true =>
          obtain ⟨bb, hbb⟩ : ∃ bb, decide (0 ≤ y ∧ y ≤ (M : Int)) = bb := ⟨_, rfl⟩
          have HV := Lib.hid (show valB m st.1 k = bb by rw [HVB.out, ← hbb, HMM.out]; rfl)
          have HBB := Lib.hid hbb
          clear hbb
          go_wp2_with fail
          (try simp only [HEM.out.1, HEM.out.2])
          refine (l01In_at y 0 (M : Int) _ HBB.out).mono ?_
          rintro e w4 ⟨rfl, rfl⟩
          cases bb with
          | false =>
            have HE := Lib.hid (ws_no2 HR.out hlt HV.out)
            go_wp2
            go_ret
            exact ⟨ret_bool HE.out.symm, HB3.out⟩
          | true =>
            go_wp2
            go_roundw
            case rel => exact ⟨k + 1, by omega, by go_num, HA.out.step HV.out, HB.out⟩
            case measure => simp [intOf]; omega
        | false =>
          obtain ⟨bb, hbb⟩ : ∃ bb, decide (0 ≤ y ∧ y ≤ (0 : Int)) = bb := ⟨_, rfl⟩
          have HV := Lib.hid (show valB m st.1 k = bb by rw [HVB.out, ← hbb]; rfl)
          have HBB := Lib.hid hbb
          clear hbb
          go_wp2_with fail
          refine (l01In_at y 0 0 _ HBB.out).mono ?_
          rintro e w4 ⟨rfl, rfl⟩
          cases bb with
          | false =>
            have HE := Lib.hid (ws_no2 HR.out hlt HV.out)
            go_wp2
            go_ret
            exact ⟨ret_bool HE.out.symm, HB3.out⟩
          | true =>
            go_wp2
            go_roundw
            case rel => exact ⟨k + 1, by omega, by go_num, HA.out.step HV.out, HB.out⟩
            case measure => simp [intOf]; omega
      · obtain rfl : k = m.1.length := by omega
        have HA1 := Lib.hid HA.out
        clear HA HO3 hlt
        go_wp2
        go_loopw [8] (fun v wr => ∃ k : Nat, k ≤ st.2.length ∧ v = .int .i64 (k : Int) ∧ AllN (wordB m st.2) k ∧ Below w3.heap.size w3 wr) (fun v _ => st.2.length - (intOf v).toNat)
        case atStart => exact ⟨0, Nat.zero_le _, rfl, AllN.zero _, Below.refl _ _⟩
        case round =>
          obtain ⟨k, hk, rfl, hall, hb⟩ := hrel
          obtain ⟨w4, rfl⟩ : ∃ w4, w4 = wr := ⟨_, rfl⟩
          have HA := Lib.hid hall
          have HBr := Lib.hid hb
          have HB4 := Lib.hid (bThen HB3.out hb)
          replace d0 := keep hb d0
          replace d3 := keep hb d3
          replace e0 := keep hb e0
          replace e1 := keep hb e1
          clear hall hb lt0 lt1
          have lt0 : w.heap.size < w4.heap.size := World.block_lt_of_cell? _ _ d0
          have lt1 : w.heap.size + 1 < w4.heap.size := World.block_lt_of_cell? _ _ e0
          by_cases hlt : k < st.2.length
          · obtain ⟨j, hkj⟩ : ∃ j, k / 4 = j := ⟨_, rfl⟩
            have hj : j < m.2.2.2.length := by have := H2.out; omega
            have ew : IntKind.i64.wrap ((k : Int) / 4) = (j : Int) := by rw [wrap64_int _ (by omega) (by omega)]; omega
            have HKJ := Lib.hid hkj
            obtain ⟨y, hy⟩ : ∃ y, st.2[k]? = some y := ⟨_, List.getElem?_eq_getElem hlt⟩
            obtain ⟨z, hz⟩ : ∃ z, m.2.2.2[j]? = some z := ⟨_, List.getElem?_eq_getElem hj⟩
            obtain ⟨t, ht, htl⟩ := inR_at (HP.out.mod.mem z (List.mem_of_getElem? hz)).2.1
            obtain ⟨x, hx⟩ : ∃ x, m.1[t]? = some x := ⟨_, List.getElem?_eq_getElem htl⟩
            obtain ⟨W, hxW, hW⟩ := HP.out.wid t x hx
            obtain ⟨xb, xq, rfl, xb1, x0, -, x1, -, x2, -⟩ := at_Signal (good_SignalS.below mR0.out (Nat.le_refl _) HB4.out) hx
            obtain ⟨yb, yq, rfl, yb1, y0, -⟩ := at_Int (good_IntS.below sR1.out (Nat.le_refl _) HB4.out) hy
            obtain ⟨zb, zq, rfl, zb1, z0, -, z1, -, z2, -, z3, -⟩ := at_Mem (good_MemS.below mR3.out (Nat.le_refl _) HB4.out) hz
            have xb2 := Nat.lt_of_lt_of_le xb1 HB4.out.size
            have yb2 := Nat.lt_of_lt_of_le yb1 HB4.out.size
            have zb2 := Nat.lt_of_lt_of_le zb1 HB4.out.size
            rw [hxW] at x1
            rw [ht] at z1
            obtain ⟨M, hM, hM15, hm1, hm2⟩ := mask_go W hW.2
            have HEM := Lib.hid (And.intro hm1 hm2)
            obtain ⟨bb, hbb⟩ : ∃ bb, decide (0 ≤ y ∧ y ≤ (M : Int)) = bb := ⟨_, rfl⟩
            have HV := Lib.hid (show wordB m st.2 k = bb by
              unfold wordB
              rw [HKJ.out, data_at hz ht, widN_at hx hxW, List.getD_eq_getElem?_getD, hy, ← hbb, hM]; rfl)
            have HBB := Lib.hid hbb
            have tj : (j : Int) < (m.2.2.2.length : Int) := by omega
            have tt : (t : Int) < (m.1.length : Int) := by omega
            have hS0 : (fun w' => Below w4.heap.size w4 w' ∧ w'.cell? ⟨w.heap.size, 0, none⟩ = some (.slice (some ⟨xb, xq, none⟩) (m.1).length mc0) ∧ w'.cell? ⟨w.heap.size, 3, none⟩ = some (.slice (some ⟨zb, zq, none⟩) (m.2.2.2).length mc3) ∧ w'.cell? ⟨w.heap.size + 1, 1, none⟩ = some (.slice (some ⟨yb, yq, none⟩) (st.2).length sc1) ∧ w'.cell? ⟨xb, xq + t * 3 + 1, none⟩ = some (.int .i64 (W : Int)) ∧ w'.cell? ⟨yb, yq + k, none⟩ = some (.int .i64 y) ∧ w'.cell? ⟨zb, zq + j * 4 + 1, none⟩ = some (.int .i64 (t : Int))) w4 := ⟨Below.refl _ _, d0, d3, e1, x1, y0, z1⟩
            have hS : ∀ {w0 w' : World}, (fun w' => Below w4.heap.size w4 w' ∧ w'.cell? ⟨w.heap.size, 0, none⟩ = some (.slice (some ⟨xb, xq, none⟩) (m.1).length mc0) ∧ w'.cell? ⟨w.heap.size, 3, none⟩ = some (.slice (some ⟨zb, zq, none⟩) (m.2.2.2).length mc3) ∧ w'.cell? ⟨w.heap.size + 1, 1, none⟩ = some (.slice (some ⟨yb, yq, none⟩) (st.2).length sc1) ∧ w'.cell? ⟨xb, xq + t * 3 + 1, none⟩ = some (.int .i64 (W : Int)) ∧ w'.cell? ⟨yb, yq + k, none⟩ = some (.int .i64 y) ∧ w'.cell? ⟨zb, zq + j * 4 + 1, none⟩ = some (.int .i64 (t : Int))) w0 → Below w0.heap.size w0 w' → (fun w' => Below w4.heap.size w4 w' ∧ w'.cell? ⟨w.heap.size, 0, none⟩ = some (.slice (some ⟨xb, xq, none⟩) (m.1).length mc0) ∧ w'.cell? ⟨w.heap.size, 3, none⟩ = some (.slice (some ⟨zb, zq, none⟩) (m.2.2.2).length mc3) ∧ w'.cell? ⟨w.heap.size + 1, 1, none⟩ = some (.slice (some ⟨yb, yq, none⟩) (st.2).length sc1) ∧ w'.cell? ⟨xb, xq + t * 3 + 1, none⟩ = some (.int .i64 (W : Int)) ∧ w'.cell? ⟨yb, yq + k, none⟩ = some (.int .i64 y) ∧ w'.cell? ⟨zb, zq + j * 4 + 1, none⟩ = some (.int .i64 (t : Int))) w' := fun h hb => ⟨bThen h.1 hb, keep hb h.2.1, keep hb h.2.2.1, keep hb h.2.2.2.1, keep hb h.2.2.2.2.1, keep hb h.2.2.2.2.2.1, keep hb h.2.2.2.2.2.2⟩
            dsimp only at hS0 hS
            clear hx hy hz hxW ht xb1 yb1 zb1 x0 x2 z0 z2 z3 hM hbb hkj hW hm1 hm2 hM15
            go_wp2_with fail
            refine wp_region_noPanic ?_
            refine wp_region_kept 19 21 (fun w' => Below w4.heap.size w4 w' ∧ w'.cell? ⟨w.heap.size, 0, none⟩ = some (.slice (some ⟨xb, xq, none⟩) (m.1).length mc0) ∧ w'.cell? ⟨w.heap.size, 3, none⟩ = some (.slice (some ⟨zb, zq, none⟩) (m.2.2.2).length mc3) ∧ w'.cell? ⟨w.heap.size + 1, 1, none⟩ = some (.slice (some ⟨yb, yq, none⟩) (st.2).length sc1) ∧ w'.cell? ⟨xb, xq + t * 3 + 1, none⟩ = some (.int .i64 (W : Int)) ∧ w'.cell? ⟨yb, yq + k, none⟩ = some (.int .i64 y) ∧ w'.cell? ⟨zb, zq + j * 4 + 1, none⟩ = some (.int .i64 (t : Int))) (by kernel_rfl) rfl (hS hS0 (Below.drew (Below.refl _ _))) (fun hK0 => ?_)
            refine Kept.take (v := ?vr0) 0 (by kernel_rfl) rfl (by kernel_rfl) (fun _ _ _ h => h) (Or.inl ⟨by rfl, ?hyr0⟩) hK0 ?restr0
            case hyr0 =>
              intro w0 hSw
              (try dsimp only at hSw)
              go_simp
              all_goals (with_reducible rfl)
            (try simp only [Act.put, List.setIfInBounds_toArray, List.set_cons_zero, List.set_cons_succ])
            refine Kept.take (v := ?vr1) 1 (by kernel_rfl) rfl (by kernel_rfl) (fun _ _ _ h => h) (Or.inl ⟨by rfl, ?hyr1⟩) hK0 ?restr1
            case hyr1 =>
              intro w0 hSw
              (try dsimp only at hSw)
              go_simp
              all_goals (with_reducible rfl)
            (try simp only [Act.put, List.setIfInBounds_toArray, List.set_cons_zero, List.set_cons_succ])
            refine Kept.take (v := ?vr2) 2 (by kernel_rfl) rfl (by kernel_rfl) (fun _ _ _ h => h) (Or.inl ⟨by rfl, ?hyr2⟩) hK0 ?restr2
            case hyr2 =>
              intro w0 hSw
              (try dsimp only at hSw)
              go_simp
              all_goals (with_reducible rfl)
            (try simp only [Act.put, List.setIfInBounds_toArray, List.set_cons_zero, List.set_cons_succ])
            refine Kept.take (v := ?vr3) 3 (by kernel_rfl) rfl (by kernel_rfl) (fun _ _ _ h => h) (Or.inl ⟨by rfl, ?hyr3⟩) hK0 ?restr3
            case hyr3 =>
              intro w0 hSw
              (try dsimp only at hSw)
              go_simp
              all_goals (with_reducible rfl)
            (try simp only [Act.put, List.setIfInBounds_toArray, List.set_cons_zero, List.set_cons_succ])
            refine Kept.take (v := ?vr4) 4 (by kernel_rfl) rfl (by kernel_rfl) (fun _ _ _ h => h) (Or.inl ⟨by rfl, ?hyr4⟩) hK0 ?restr4
            case hyr4 =>
              intro w0 hSw
              (try dsimp only at hSw)
              go_simp
              all_goals (with_reducible rfl)
            (try simp only [Act.put, List.setIfInBounds_toArray, List.set_cons_zero, List.set_cons_succ])
            refine Kept.take (v := ?vr5) 5 (by kernel_rfl) rfl (by kernel_rfl) (fun _ _ _ h => h) (Or.inl ⟨by rfl, ?hyr5⟩) hK0 ?restr5
            case hyr5 =>
              intro w0 hSw
              (try dsimp only at hSw)
              go_simp
              all_goals (with_reducible rfl)
            (try simp only [Act.put, List.setIfInBounds_toArray, List.set_cons_zero, List.set_cons_succ])
            refine Kept.take (v := ?vr6) 6 (by kernel_rfl) rfl (by kernel_rfl) (fun _ _ _ h => h) (Or.inl ⟨by rfl, ?hyr6⟩) hK0 ?restr6
            case hyr6 =>
              intro w0 hSw
              (try dsimp only at hSw)
              go_simp
              all_goals (with_reducible rfl)
            (try simp only [Act.put, List.setIfInBounds_toArray, List.set_cons_zero, List.set_cons_succ])
            refine Kept.take (v := ?vr7) 7 (by kernel_rfl) rfl (by kernel_rfl) (fun _ _ _ h => h) (Or.inl ⟨by rfl, ?hyr7⟩) hK0 ?restr7
            case hyr7 =>
              intro w0 hSw
              (try dsimp only at hSw)
              go_simp
              all_goals (with_reducible rfl)
            (try simp only [Act.put, List.setIfInBounds_toArray, List.set_cons_zero, List.set_cons_succ])
            refine Kept.take (v := ?vr8) 8 (by kernel_rfl) rfl (by kernel_rfl) (fun _ _ _ h => h) (Or.inl ⟨by rfl, ?hyr8⟩) hK0 ?restr8
            case hyr8 =>
              intro w0 hSw
              (try dsimp only at hSw)
              go_simp
              all_goals (with_reducible rfl)
            (try simp only [Act.put, List.setIfInBounds_toArray, List.set_cons_zero, List.set_cons_succ])
            refine Kept.take (v := ?vr9) 9 (by kernel_rfl) rfl (by kernel_rfl) (fun _ _ _ h => h) (Or.inl ⟨by rfl, ?hyr9⟩) hK0 ?restr9
            case hyr9 =>
              intro w0 hSw
              (try dsimp only at hSw)
              go_simp
              all_goals (with_reducible rfl)
            (try simp only [Act.put, List.setIfInBounds_toArray, List.set_cons_zero, List.set_cons_succ])
            refine Kept.take (v := ?vr10) 10 (by kernel_rfl) rfl (by kernel_rfl) (fun _ _ _ h => h) (Or.inl ⟨by rfl, ?hyr10⟩) hK0 ?restr10
            case hyr10 =>
              intro w0 hSw
              (try dsimp only at hSw)
              go_simp
              all_goals (with_reducible rfl)
            (try simp only [Act.put, List.setIfInBounds_toArray, List.set_cons_zero, List.set_cons_succ])
            refine Kept.take (v := ?vr11) 11 (by kernel_rfl) rfl (by kernel_rfl) (fun _ _ _ h => h) (Or.inl ⟨by rfl, ?hyr11⟩) hK0 ?restr11
            case hyr11 =>
              intro w0 hSw
              (try dsimp only at hSw)
              go_simp
              all_goals (with_reducible rfl)
            (try simp only [Act.put, List.setIfInBounds_toArray, List.set_cons_zero, List.set_cons_succ])
            refine Kept.take (v := ?vr12) 12 (by kernel_rfl) rfl (by kernel_rfl) (fun _ _ _ h => h) (Or.inl ⟨by rfl, ?hyr12⟩) hK0 ?restr12
            case hyr12 =>
              intro w0 hSw
              (try dsimp only at hSw)
              go_simp
              all_goals (with_reducible rfl)
            (try simp only [Act.put, List.setIfInBounds_toArray, List.set_cons_zero, List.set_cons_succ])
            refine Kept.take (v := ?vr13) 13 (by kernel_rfl) rfl (by kernel_rfl) (fun _ _ _ h => h) (Or.inl ⟨by rfl, ?hyr13⟩) hK0 ?restr13
            case hyr13 =>
              intro w0 hSw
              (try dsimp only at hSw)
              go_simp
              all_goals (with_reducible rfl)
            (try simp only [Act.put, List.setIfInBounds_toArray, List.set_cons_zero, List.set_cons_succ])
            refine Kept.take (v := ?vr14) 14 (by kernel_rfl) rfl (by kernel_rfl) (fun _ _ _ h => h) (Or.inl ⟨by rfl, ?hyr14⟩) hK0 ?restr14
            case hyr14 =>
              intro w0 hSw
              (try dsimp only at hSw)
              go_simp
              all_goals (with_reducible rfl)
            (try simp only [Act.put, List.setIfInBounds_toArray, List.set_cons_zero, List.set_cons_succ])
            refine Kept.take (v := ?vr15) 15 (by kernel_rfl) rfl (by kernel_rfl) (fun _ _ _ h => h) (Or.inl ⟨by rfl, ?hyr15⟩) hK0 ?restr15
            case hyr15 =>
              intro w0 hSw
              (try dsimp only at hSw)
              go_simp
              all_goals (with_reducible rfl)
            (try simp only [Act.put, List.setIfInBounds_toArray, List.set_cons_zero, List.set_cons_succ])
            refine Kept.take (v := ?vr16) 16 (by kernel_rfl) rfl (by kernel_rfl) (fun _ _ _ h => h) (Or.inl ⟨by rfl, ?hyr16⟩) hK0 ?restr16
            case hyr16 =>
              intro w0 hSw
              (try dsimp only at hSw)
              go_simp
              all_goals (with_reducible rfl)
            (try simp only [Act.put, List.setIfInBounds_toArray, List.set_cons_zero, List.set_cons_succ])
            refine Kept.take (v := ?vr17) 17 (by kernel_rfl) rfl (by kernel_rfl) (fun _ _ _ h => h) (Or.inl ⟨by rfl, ?hyr17⟩) hK0 ?restr17
            case hyr17 =>
              intro w0 hSw
              (try dsimp only at hSw)
              go_simp
              all_goals (with_reducible rfl)
            (try simp only [Act.put, List.setIfInBounds_toArray, List.set_cons_zero, List.set_cons_succ])
            refine Kept.take (v := ?vr18) 18 (by kernel_rfl) rfl (by kernel_rfl) (fun _ _ _ h => h) (Or.inl ⟨by rfl, ?hyr18⟩) hK0 ?restr18
            case hyr18 =>
              intro w0 hSw
              (try dsimp only at hSw)
              go_simp
              all_goals (with_reducible rfl)
            (try simp only [Act.put, List.setIfInBounds_toArray, List.set_cons_zero, List.set_cons_succ])
            refine Kept.tail (by rfl) (by kernel_rfl) ?_
            simp only [List.drop_succ_cons, List.drop_zero]
            go_wp2_with fail
            (try simp only [HEM.out.1, HEM.out.2])
            refine (l01In_at y 0 (M : Int) _ HBB.out).mono ?_
            rintro e w5 ⟨rfl, rfl⟩
            have HB5 := Lib.hid hK0.1
            clear hK0 hS hS0 d0 d3 e0 e1 x1 y0 z1
            go_wp2
            refine NoPanic.normal ?_
            cases bb with
            | false =>
              have HE := Lib.hid (ws_no3 HR.out hlt HV.out)
              go_wp2
              go_ret
              exact ⟨ret_bool HE.out.symm, bThen HB4.out HB5.out⟩
            | true =>
              go_wp2
              go_roundw
              case rel => exact ⟨k + 1, by omega, by go_num, HA.out.step HV.out, bThen HBr.out HB5.out⟩
              case measure => simp [intOf]; omega
          · obtain rfl : k = st.2.length := by omega
            have HE := Lib.hid (ws_yes HR.out HF.out H1.out H2.out HA1.out HA.out)
            go_wp2
            go_ret
            exact ⟨ret_bool HE.out.symm, HB4.out⟩
end Go.Proofs.YtmjofpfkgbnknaaGreat
