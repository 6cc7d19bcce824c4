/-
  Valid states of flat modules: the reference.
-/
import Derived.Test.YtmjofpfkgbnknaaWsMath
import Derived.Test.YtmjofpfkgbnknaaSFlat
import Derived.Test.YtmjofpfkgbnknaaAtR
import Derived.Test.YtmjofpfkgbnknaaEvS
import Derived.Test.YtmjofpfkgbnknaaSEval
import Derived.Test.YtmjofpfkgbnknaaIEval
import Derived.Test.YtmjofpfkgbnknaaKept
import Derived.Deep.RegionHeld3
namespace Go.Proofs.Ytmjofpfkgbnknaa
open Go.RowKit
set_option linter.unusedVariables false
set_option linter.unusedSimpArgs false

set_option maxRecDepth 100000 in
set_option maxHeartbeats 6400000 in
theorem specStates_at (m : DModule) (us : List Value) (w : World) (h : rdModule 0 w.heap.size w us m) (hl : m.1.length ≤ 30) (hl3 : m.2.2.2.length ≤ 2) (hmem : ∀ x ∈ m.2.2.2, ∃ t : Nat, x.2.2.2 = t ∧ t < m.1.length) :
    Calls Try.prog 99 #[.agg us.toArray] w fun e w' => ∃ g, e = .returned (.slice (some ⟨g, 0, none⟩) m.1.length m.1.length) ∧ OwnsB w' w.heap.size (.slice (some ⟨g, 0, none⟩) m.1.length m.1.length) (statesL m) ∧ Below w.heap.size w w' := by
  obtain ⟨iB, hiB, hzB0, hzB1, hzB2⟩ := info_parts infoB
  have HM := Lib.hid hmem
  clear hmem
  obtain ⟨mu0, mu1, mu2, mu3, rfl, mh0, mh1, mh2, mh3⟩ := h
  obtain ⟨mA0, mc0, me0, mm0, -⟩ := slice_of mh0
  subst me0
  have mR0 := Lib.hid mh0
  clear mh0
  obtain ⟨mA1, mc1, me1, mm1, -⟩ := slice_of mh1
  subst me1
  have mR1 := Lib.hid mh1
  clear mh1
  obtain ⟨mA2, mc2, me2, mm2, -⟩ := slice_of mh2
  subst me2
  have mR2 := Lib.hid mh2
  clear mh2
  obtain ⟨mA3, mc3, me3, mm3, -⟩ := slice_of mh3
  subst me3
  have mR3 := Lib.hid mh3
  clear mh3
  go_enter Try.func99, Try.ntmps99
  go_wp2_with (at_make; refine wpList_make_full _ rfl _ _ 137 rfl (w.heap.size + 1) 4 iB (.bool false) 1 Try.underlying137 hiB hzB0 hzB1 .i64 .i64 (m.1.length : Int) (m.1.length : Int) m.1.length rfl rfl rfl rfl (by rw [hzB2]; omega) (by unfold maxLen; omega) (by simp) ?_; intro w1 hown1 hgrow1)
  obtain ⟨W0, hV⟩ : ∃ W0, W0 = w.alloc (.cells #[.slice mA0 (m.1).length mc0, .slice mA1 (m.2.1).length mc1, .slice mA2 (m.2.2.1).length mc2, .slice mA3 (m.2.2.2).length mc3] 34) := ⟨_, rfl⟩
  rw [← hV] at hown1 hgrow1
  have gN := eqbox1 hV
  have sW0 : W0.heap.size = w.heap.size + 1 := by rw [hV]; simp
  have HW0 := Lib.hid gN.2
  have d0 : W0.cell? ⟨w.heap.size, 0, none⟩ = some (.slice mA0 (m.1).length mc0) := box_cell gN.1 0 _ rfl
  have d3 : W0.cell? ⟨w.heap.size, 3, none⟩ = some (.slice mA3 (m.2.2.2).length mc3) := box_cell gN.1 3 _ rfl
  clear hV gN
  obtain ⟨G, hG⟩ : ∃ G, G = w.heap.size + 1 := ⟨_, rfl⟩
  rw [sW0] at hown1
  have hown : OwnsB w1 w.heap.size (.slice (some ⟨G, 0, none⟩) m.1.length m.1.length) (st1 m 0) := by
    rw [st1_zero]
    unfold OwnsB OwnsR
    rw [List.length_replicate, ← made_rows fB 1 fB_len false (.bool false : Value).cells rfl (by omega), hG]
    have h := hown1
    refine ⟨h.1, ?_⟩
    rcases h.2 with h2 | ⟨g', cap', cur', e1', e2', e3', e4'⟩
    · exact .inl h2
    · exact .inr ⟨g', cap', cur', e1', by omega, e3', e4'⟩
  have hB1 : Below W0.heap.size W0 w1 := (Below.refl _ _).grown hgrow1 (Nat.le_refl _) (by intro g hg; cases hg)
  rw [← hG]
  have HO := Lib.hid hown
  have HB := Lib.hid (bThen HW0.out hB1)
  have hG1 : w.heap.size + 1 ≤ G := by omega
  clear hG hown hown1 hgrow1
  replace d0 := keep hB1 d0
  replace d3 := keep hB1 d3
  clear hB1
  go_loopw [4] (fun v wr => ∃ k : Nat, k ≤ m.1.length ∧ v = .int .i64 (k : Int) ∧ OwnsB wr w.heap.size (.slice (some ⟨G, 0, none⟩) m.1.length m.1.length) (st1 m k) ∧ Below w.heap.size w wr ∧ wr.cell? ⟨w.heap.size, 0, none⟩ = some (.slice mA0 (m.1).length mc0) ∧ wr.cell? ⟨w.heap.size, 3, none⟩ = some (.slice mA3 (m.2.2.2).length mc3)) (fun v _ => m.1.length - (intOf v).toNat)
  case atStart => exact ⟨0, Nat.zero_le _, rfl, HO.out, HB.out, d0, d3⟩
  case round =>
    obtain ⟨k, hk, rfl, hown, hb, c0, c3⟩ := hrel
    obtain ⟨w2, rfl⟩ : ∃ w2, w2 = wr := ⟨_, rfl⟩
    clear HO HB d0 d3
    have HO := Lib.hid hown
    have HB := Lib.hid hb
    have hlt0 : w.heap.size < w2.heap.size := World.block_lt_of_cell? _ _ c0
    have hGl := hown.ltN.1
    clear hown hb
    by_cases hlt : k < m.1.length
    · obtain ⟨x, hx⟩ : ∃ x, m.1[k]? = some x := ⟨_, List.getElem?_eq_getElem hlt⟩
      have HX := Lib.hid (st1_step hx)
      obtain ⟨b, q, rfl, hb1, x0, -, x1, -, x2, -⟩ := at_Signal (good_SignalS.below mR0.out (Nat.le_refl _) HB.out) hx
      have hb2 := Nat.lt_of_lt_of_le hb1 HB.out.size
      obtain ⟨kd, hkd⟩ : ∃ kd, x.1 = kd := ⟨_, rfl⟩
      rw [hkd] at x0
      obtain ⟨b3, hb3⟩ : ∃ b3, (kd == 3) = b3 := ⟨_, rfl⟩
      have HR3 := Lib.hid (show isReg x = b3 by unfold isReg; rw [hkd, ← hb3]; by_cases h : kd = 3 <;> simp [h])
      have gf := OwnsB.shapeN HO.out (st1_len m k hk) hlt
      have g0 := gf.1
      have g1 := gf.2
      clear gf hkd hx x1 x2 hb1
      go_wp2
      go_roundw
      case rel =>
        have hne : G ≠ w.heap.size := by omega
        refine ⟨k + 1, by omega, by go_num, ?_, bSet HB.out (by dsimp only; omega) _, ?_, ?_⟩
        · have h := OwnsB.set HO.out (st1_len m k hk) hlt b3
          rw [← HR3.out, HX.out] at h
          first | exact h | (rw [HR3.out] at h; exact h)
        · rw [World.cell?_setCell_other _ _ _ _ (by intro e; injection e with e; exact hne e)]; exact c0
        · rw [World.cell?_setCell_other _ _ _ _ (by intro e; injection e with e; exact hne e)]; exact c3
      case measure => simp [intOf]; omega
    · obtain rfl : k = m.1.length := by omega
      rw [st1_end] at HO
      clear hlt
      go_wp2
      go_loopw [5] (fun v wr => ∃ k : Nat, k ≤ m.2.2.2.length ∧ v = .int .i64 (k : Int) ∧ OwnsB wr w.heap.size (.slice (some ⟨G, 0, none⟩) m.1.length m.1.length) (stM m k) ∧ Below w.heap.size w wr ∧ wr.cell? ⟨w.heap.size, 3, none⟩ = some (.slice mA3 (m.2.2.2).length mc3)) (fun v _ => m.2.2.2.length - (intOf v).toNat)
      case atStart => exact ⟨0, Nat.zero_le _, rfl, HO.out, HB.out, c3⟩
      case round =>
        obtain ⟨k, hk, rfl, hown, hb, c3⟩ := hrel
        obtain ⟨w3, rfl⟩ : ∃ w3, w3 = wr := ⟨_, rfl⟩
        clear HO HB hlt0 hGl c0
        have HO := Lib.hid hown
        have HB := Lib.hid hb
        have hlt0 : w.heap.size < w3.heap.size := World.block_lt_of_cell? _ _ c3
        have hGl := hown.ltN.1
        clear hown hb
        by_cases hlt : k < m.2.2.2.length
        · obtain ⟨x, hx⟩ : ∃ x, m.2.2.2[k]? = some x := ⟨_, List.getElem?_eq_getElem hlt⟩
          obtain ⟨t, ht, htl⟩ := HM.out x (List.mem_of_getElem? hx)
          have HX := Lib.hid (stM_step hx ht)
          obtain ⟨b, q, rfl, hb1, x0, -, x1, -, x2, -, x3, -⟩ := at_Mem (good_MemS.below mR3.out (Nat.le_refl _) HB.out) hx
          have hb2 := Nat.lt_of_lt_of_le hb1 HB.out.size
          rw [ht] at x3
          have gf := OwnsB.shapeN HO.out (stM_len m k) htl
          have g0 := gf.1
          have g1 := gf.2
          have tl : (t : Int) < (m.1.length : Int) := by omega
          clear gf hx ht x0 x1 x2 hb1
          go_wp2
          go_roundw
          case rel =>
            have hne : G ≠ w.heap.size := by omega
            refine ⟨k + 1, by omega, by go_num, ?_, bSet HB.out (by dsimp only; omega) _, ?_⟩
            · have h := OwnsB.set HO.out (stM_len m k) htl true
              rw [HX.out] at h; exact h
            · rw [World.cell?_setCell_other _ _ _ _ (by intro e; injection e with e; exact hne e)]; exact c3
          case measure => simp [intOf]; omega
        · obtain rfl : k = m.2.2.2.length := by omega
          go_wp2
          go_ret
          exact ⟨_, rfl, HO.out, HB.out⟩
end Go.Proofs.Ytmjofpfkgbnknaa
