/-
  NetRun: the program.
-/
import Derived.Test.YtedamhkcblemdaaNrA
import Derived.Test.YtedamhkcblemdaaNr9
import Derived.Test.YtedamhkcblemdaaNrB
import Derived.Deep.RegionHeld3
namespace Go.Proofs.Ytedamhkcblemdaa
open Go.RowKit
set_option linter.unusedVariables false
set_option linter.unusedSimpArgs false

theorem topB_own {w : World} {B : Nat} {v : Value} {L : List Int} (h : OwnsI w B v L) : ∀ b ∈ topB v, B ≤ b ∧ b < w.heap.size := by
  intro b hb
  rcases h.2 with ⟨rfl, h0⟩ | ⟨g, cap, cur, rfl, e2, e3, e4, e5, e6⟩
  · simp [topB] at hb
  · have : b = g := by simpa [topB] using hb
    subst this
    exact ⟨e2, (Array.getElem?_eq_some_iff.1 e3).1⟩
theorem own_topB {w : World} {B b : Nat} {v : Value} {L : List Int} (h : OwnsI w B v L) (e : v.ownBlock = some b) : b ∈ topB v := by
  rcases h.2 with ⟨rfl, h0⟩ | ⟨g, cap, cur, rfl, e2, e3, e4, e5, e6⟩
  · cases e
  · injection e with e
    simp [topB, ← e]
theorem store5 {W : World} {b : Nat} {x0 x1 x2 x3 x4 y0 y1 y2 y3 y4 : Value} (f0 : W.cell? ⟨b, 0, none⟩ = some x0) (f1 : W.cell? ⟨b, 1, none⟩ = some x1) (f2 : W.cell? ⟨b, 2, none⟩ = some x2) (f3 : W.cell? ⟨b, 3, none⟩ = some x3) (f4 : W.cell? ⟨b, 4, none⟩ = some x4) :
    (∀ (i : Nat) (u : Value), [y0, y1, y2, y3][i]? = some u → (((((W.setCell ⟨b, 0, none⟩ y0).setCell ⟨b, 1, none⟩ y1).setCell ⟨b, 2, none⟩ y2).setCell ⟨b, 3, none⟩ y3).setCell ⟨b, 4, none⟩ y4).cell? ⟨b, i, none⟩ = some u) ∧
    (((((W.setCell ⟨b, 0, none⟩ y0).setCell ⟨b, 1, none⟩ y1).setCell ⟨b, 2, none⟩ y2).setCell ⟨b, 3, none⟩ y3).setCell ⟨b, 4, none⟩ y4).cell? ⟨b, 4, none⟩ = some y4 := by
  refine ⟨fun i u hu => ?_, set_same (set_far (set_far (set_far (set_far f4 (by decide)) (by decide)) (by decide)) (by decide))⟩
  have hi : i < 4 := by simpa using (List.getElem?_eq_some_iff.1 hu).1
  rcases (by omega : i = 0 ∨ i = 1 ∨ i = 2 ∨ i = 3) with rfl | rfl | rfl | rfl
  · obtain rfl := Option.some.inj hu
    exact set_far (set_far (set_far (set_far (set_same f0) (by decide)) (by decide)) (by decide)) (by decide)
  · obtain rfl := Option.some.inj hu
    exact set_far (set_far (set_far (set_same (set_far f1 (by decide))) (by decide)) (by decide)) (by decide)
  · obtain rfl := Option.some.inj hu
    exact set_far (set_far (set_same (set_far (set_far f2 (by decide)) (by decide))) (by decide)) (by decide)
  · obtain rfl := Option.some.inj hu
    exact set_far (set_same (set_far (set_far (set_far f3 (by decide)) (by decide)) (by decide))) (by decide)
set_option maxRecDepth 100000 in
set_option maxHeartbeats 12800000 in
theorem implRun_at (n : DNet) (xs : List Int) (us : List Value) (l : Value) (w : World) (h : rdNet 0 w.heap.size w us n) (hl : rdIntS 0 w.heap.size w [l] xs) {L : List Int} (hL : runO n xs = L) :
    Calls Try.prog 24 #[.agg us.toArray, l] w fun e w' => ∃ v', e = .returned v' ∧ OwnsI w' w.heap.size v' L ∧ Below w.heap.size w w' := by
  obtain ⟨i0, hi, hz0, hz1, hz2⟩ := info_parts infoI
  have HD := Lib.hid h
  have HLI := Lib.hid hl
  obtain ⟨f, hf⟩ : ∃ f, netB n = f := ⟨_, rfl⟩
  have HF := Lib.hid hf
  have HX := Lib.hid hL
  obtain ⟨lA, lc, rfl, lm, -⟩ := slice_of hl
  clear hf hL hl
  obtain ⟨mu0, mu1, mu2, mu3, rfl, mh0, mh1, mh2, mh3⟩ := h
  obtain ⟨me0, -⟩ := mh0
  injection me0 with me0
  subst me0
  obtain ⟨mA1, mc1, me1, mm1, -⟩ := slice_of mh1
  subst me1
  have mR1 := Lib.hid mh1
  clear mh1
  obtain ⟨mA2, mc2, me2, mm2, -⟩ := slice_of mh2
  subst me2
  have mR2 := Lib.hid mh2
  clear mh2
  obtain ⟨mA3, mc3, me3, mm3, -⟩ := slice_of mh3
  subst me3
  have mR3 := Lib.hid mh3
  clear mh3
  go_enter Try.func24, Try.ntmps24
  go_wp2_with fail
  obtain ⟨W0, hV⟩ : ∃ W0, W0 = (w.alloc (.cells #[.int .i64 n.1, .slice mA1 (n.2.1).length mc1, .slice mA2 (n.2.2.1).length mc2, .slice mA3 (n.2.2.2).length mc3] 36)) := ⟨_, rfl⟩
  rw [← hV]
  have gN := eqbox1 hV
  have d0 : W0.cell? ⟨w.heap.size, 0, none⟩ = some (.int .i64 n.1) := box_cell gN.1 0 _ rfl
  have d1 : W0.cell? ⟨w.heap.size, 1, none⟩ = some (.slice mA1 (n.2.1).length mc1) := box_cell gN.1 1 _ rfl
  have d2 : W0.cell? ⟨w.heap.size, 2, none⟩ = some (.slice mA2 (n.2.2.1).length mc2) := box_cell gN.1 2 _ rfl
  have d3 : W0.cell? ⟨w.heap.size, 3, none⟩ = some (.slice mA3 (n.2.2.2).length mc3) := box_cell gN.1 3 _ rfl
  have sW0 : W0.heap.size = w.heap.size + 1 := by rw [hV]; simp
  have HW0 := Lib.hid gN.2
  clear hV gN
  refine (implNetOk_at n _ _ (rdUp good_Net HD.out HW0.out) HF.out).mono ?_
  rintro e w1 ⟨rfl, hb⟩
  replace d0 := keep hb d0
  replace d1 := keep hb d1
  replace d2 := keep hb d2
  replace d3 := keep hb d3
  have HB := Lib.hid (bThen HW0.out hb)
  clear hb
  cases f with
  | false =>
    have HE := Lib.hid ((run_no (xs := xs) (fun c => by have h1 := HF.out; rw [c.1] at h1; cases h1)).symm.trans HX.out)
    go_wp2
    go_ret
    refine ⟨_, rfl, ?_, HB.out⟩
    rw [← HE.out]
    exact own_nilI _ _
  | true =>
    by_cases h16 : (16 : Int) < (xs.length : Int)
    · have HE := Lib.hid ((run_no (xs := xs) (fun c => by omega)).symm.trans HX.out)
      go_wp2
      go_ret
      refine ⟨_, rfl, ?_, HB.out⟩
      rw [← HE.out]
      exact own_nilI _ _
    have hx16 : xs.length ≤ 16 := by omega
    have HE := Lib.hid ((run_yes HF.out hx16).symm.trans HX.out)
    go_wp2_with fail
    have hS0 : (fun w' => Below w1.heap.size w1 w' ∧ w'.cell? ⟨w.heap.size, 0, none⟩ = some (.int .i64 n.1) ∧ w'.cell? ⟨w.heap.size, 1, none⟩ = some (.slice mA1 (n.2.1).length mc1) ∧ w'.cell? ⟨w.heap.size, 2, none⟩ = some (.slice mA2 (n.2.2.1).length mc2) ∧ w'.cell? ⟨w.heap.size, 3, none⟩ = some (.slice mA3 (n.2.2.2).length mc3)) w1 := ⟨Below.refl _ _, d0, d1, d2, d3⟩
    have hS : ∀ {w0 w' : World}, (fun w' => Below w1.heap.size w1 w' ∧ w'.cell? ⟨w.heap.size, 0, none⟩ = some (.int .i64 n.1) ∧ w'.cell? ⟨w.heap.size, 1, none⟩ = some (.slice mA1 (n.2.1).length mc1) ∧ w'.cell? ⟨w.heap.size, 2, none⟩ = some (.slice mA2 (n.2.2.1).length mc2) ∧ w'.cell? ⟨w.heap.size, 3, none⟩ = some (.slice mA3 (n.2.2.2).length mc3)) w0 → Below w0.heap.size w0 w' → (fun w' => Below w1.heap.size w1 w' ∧ w'.cell? ⟨w.heap.size, 0, none⟩ = some (.int .i64 n.1) ∧ w'.cell? ⟨w.heap.size, 1, none⟩ = some (.slice mA1 (n.2.1).length mc1) ∧ w'.cell? ⟨w.heap.size, 2, none⟩ = some (.slice mA2 (n.2.2.1).length mc2) ∧ w'.cell? ⟨w.heap.size, 3, none⟩ = some (.slice mA3 (n.2.2.2).length mc3)) w' := fun h hb => ⟨bThen h.1 hb, keep hb h.2.1, keep hb h.2.2.1, keep hb h.2.2.2.1, keep hb h.2.2.2.2⟩
    dsimp only at hS0 hS
    refine wp_region_noPanic ?_
    refine wp_region_kept 5 6 (fun w' => Below w1.heap.size w1 w' ∧ w'.cell? ⟨w.heap.size, 0, none⟩ = some (.int .i64 n.1) ∧ w'.cell? ⟨w.heap.size, 1, none⟩ = some (.slice mA1 (n.2.1).length mc1) ∧ w'.cell? ⟨w.heap.size, 2, none⟩ = some (.slice mA2 (n.2.2.1).length mc2) ∧ w'.cell? ⟨w.heap.size, 3, none⟩ = some (.slice mA3 (n.2.2.2).length mc3)) (by kernel_rfl) rfl (hS hS0 (Below.drew (Below.refl _ _))) (fun hK0 => ?_)
    refine Kept.take (v := ?va0) 0 (by kernel_rfl) rfl (by kernel_rfl) (fun _ _ _ h => h) (Or.inl ⟨by rfl, ?hya0⟩) hK0 ?resta0
    case hya0 =>
      intro w0 hSw
      (try dsimp only at hSw)
      go_simp
      all_goals (with_reducible rfl)
    (try simp only [Act.put, List.setIfInBounds_toArray, List.set_cons_zero, List.set_cons_succ])
    refine Kept.take (v := ?va1) 1 (by kernel_rfl) rfl (by kernel_rfl) (fun _ _ _ h => h) (Or.inl ⟨by rfl, ?hya1⟩) hK0 ?resta1
    case hya1 =>
      intro w0 hSw
      (try dsimp only at hSw)
      go_simp
      all_goals (with_reducible rfl)
    (try simp only [Act.put, List.setIfInBounds_toArray, List.set_cons_zero, List.set_cons_succ])
    refine Kept.rg (sz := 34) (g := 1) [(2, 19), (3, 20), (4, 5)] [2, 4] (fun kO vals w' => match kO with
      | 2 => ∃ A c, vals 2 = .slice A (startO n).length c ∧ OwnsI w' w1.heap.size (vals 2) (startO n)
      | 3 => vals 3 = .agg #[.int .i64 n.1, .slice mA1 (n.2.1).length mc1, .slice mA2 (n.2.2.1).length mc2, .slice mA3 (n.2.2.2).length mc3, vals 2]
      | 4 => ∃ g, vals 4 = .pointer (some ⟨g, 0, none⟩) ∧ w'.heap[g]? = some (.cells #[.int .i64 0, .slice none 0 0, .slice none 0 0, .slice none 0 0, .slice none 0 0] 75 (0, 0)) ∧ w1.heap.size ≤ g
      | _ => True) (by kernel_rfl) (by kernel_rfl) hK0 (fun _ _ _ h => h) ?hSR ?hloc ?hstep ?hend
    case hSR =>
      intro k hk vals wa wb h hb
      simp only [List.map_cons, List.map_nil, List.mem_cons, List.not_mem_nil, or_false] at hk
      rcases hk with rfl | rfl | rfl
      · obtain ⟨A, c, e, ho⟩ := h; exact ⟨A, c, e, ho.below hb⟩
      · exact h
      · obtain ⟨g, e, ho, hB⟩ := h; exact ⟨g, e, rowB' hb ho, hB⟩
    case hloc =>
      intro k j hk hj hne hw vals v wa h
      simp only [List.map_cons, List.map_nil, List.mem_cons, List.not_mem_nil, or_false] at hk hj
      rcases hk with rfl | rfl | rfl <;> rcases hj with rfl | rfl | rfl <;> first | exact absurd rfl hne | exact h | exact absurd (hw.symm.trans (by kernel_rfl : _ = true)) (by decide)
    case hstep =>
      intro k t o hm ho vals wA hSA hpre
      simp only [List.mem_cons, List.not_mem_nil, or_false, Prod.mk.injEq] at hm
      rcases hm with ⟨rfl, rfl⟩ | ⟨rfl, rfl⟩ | ⟨rfl, rfl⟩
      · have ho' := Option.some.inj ho
        subst ho'
        unfold RgStep
        rw [if_pos (by rfl)]
        intro K hK
        have hSw := hSA
        (try dsimp only at hSw)
        clear hpre
        simp only [fillA, Act.put, List.setIfInBounds_toArray, List.set_cons_zero, List.set_cons_succ]
        go_simp
        go_at_call 56
        refine (implStart_at n _ _ (rdUp good_Net HD.out (bThen HB.out hSA.1)) rfl).mono ?_
        rintro e wB ⟨v, rfl, hoB, hb⟩
        have htb := topB_own hoB
        obtain ⟨A, c, rfl, -⟩ := hoB.shape
        have hK' := hK (.slice A (startO n).length c) wB (hS hSA hb) hb ⟨A, c, upd_self _ _ _, by rw [upd_self]; exact hoB.lower hSA.1.size⟩ (fun _ b hb' => htb b hb')
        clear hK htb hoB
        simp only [fillA, Act.put, List.setIfInBounds_toArray, List.set_cons_zero, List.set_cons_succ] at hK'
        go_simp
        all_goals exact hK'
      · have ho' := Option.some.inj ho
        subst ho'
        obtain ⟨A, c, e2, -⟩ := hpre 2 (by kernel_rfl) (by decide)
        unfold RgStep
        rw [if_pos (by rfl)]
        intro K hK
        have hK' := hK (.agg #[.int .i64 n.1, .slice mA1 (n.2.1).length mc1, .slice mA2 (n.2.2.1).length mc2, .slice mA3 (n.2.2.2).length mc3, vals 2]) wA hSA (Below.refl _ _) (by
          show upd vals 3 _ 3 = .agg #[.int .i64 n.1, .slice mA1 (n.2.1).length mc1, .slice mA2 (n.2.2.1).length mc2, .slice mA3 (n.2.2.2).length mc3, upd vals 3 _ 2]
          rw [upd_self, upd_ne _ _ (by decide)]) (fun h => absurd h (by decide))
        clear hK hpre
        simp only [fillA, Act.put, List.setIfInBounds_toArray, List.set_cons_zero, List.set_cons_succ] at hK' ⊢
        rw [e2] at hK' ⊢
        go_simp
        all_goals exact hK'
      · have ho' := Option.some.inj ho
        subst ho'
        unfold RgStep
        rw [if_pos (by rfl)]
        intro K hK
        have hBA : w1.heap.size ≤ wA.heap.size := hSA.1.size
        have hK' := hK (.pointer (some ⟨wA.heap.size, 0, none⟩)) (wA.alloc (.cells #[.int .i64 0, .slice none 0 0, .slice none 0 0, .slice none 0 0, .slice none 0 0] 75)) (hS hSA (bAlloc (Below.refl _ _) (Nat.le_refl _) _)) (bAlloc (Below.refl _ _) (Nat.le_refl _) _) ⟨_, rfl, heap_alloc_new _ _, hBA⟩ (fun _ b hb => by
          have hb' : b = wA.heap.size := by simpa [topB] using hb
          subst hb'
          simp)
        clear hK hpre
        simp only [fillA, Act.put, List.setIfInBounds_toArray, List.set_cons_zero, List.set_cons_succ] at hK' ⊢
        go_simp
        all_goals exact hK'
    intro vals wB hSB hR hap
    obtain ⟨A6, c6, e2, o2⟩ := hR 2 (by decide)
    have e3 : vals 3 = .agg #[.int .i64 n.1, .slice mA1 (n.2.1).length mc1, .slice mA2 (n.2.2.1).length mc2, .slice mA3 (n.2.2.2).length mc3, vals 2] := hR 3 (by decide)
    obtain ⟨rb, e4, hF, hFB⟩ := hR 4 (by decide)
    have a24 := hap 2 4 (by decide) (by decide) (by decide)
    rw [e2, e4] at a24
    rw [e2] at e3 o2
    simp only [fillA, Act.put, List.setIfInBounds_toArray, List.set_cons_zero, List.set_cons_succ]
    rw [e2, e3, e4]
    have hne4 : (Value.slice A6 (startO n).length c6).ownBlock ≠ some rb := fun e => a24 rb (own_topB o2 e) (by simp [topB])
    clear hap a24 hR e2 e3 e4
    have f0 := box_cell hF 0 _ rfl
    have f1 := box_cell hF 1 _ rfl
    have f2 := box_cell hF 2 _ rfl
    have f3 := box_cell hF 3 _ rfl
    have f4 := box_cell hF 4 _ rfl
    have z0 := frozen_of_row _ _ 0 _ _ hF
    have z1 := frozen_of_row _ _ 1 _ _ hF
    have z2 := frozen_of_row _ _ 2 _ _ hF
    have z3 := frozen_of_row _ _ 3 _ _ hF
    have z4 := frozen_of_row _ _ 4 _ _ hF
    refine Kept.tail (by rfl) (by kernel_rfl) ?_
    simp only [List.drop_succ_cons, List.drop_zero]
    have HWB := Lib.hid hSB.1
    obtain ⟨WS, hWS⟩ : ∃ WS, WS = (((((wB.setCell ⟨rb, 0, none⟩ (.int .i64 n.1)).setCell ⟨rb, 1, none⟩ (.slice mA1 (n.2.1).length mc1)).setCell ⟨rb, 2, none⟩ (.slice mA2 (n.2.2.1).length mc2)).setCell ⟨rb, 3, none⟩ (.slice mA3 (n.2.2.2).length mc3)).setCell ⟨rb, 4, none⟩ (.slice A6 (startO n).length c6)) := ⟨_, rfl⟩
    have h5 := store5 (y0 := .int .i64 n.1) (y1 := .slice mA1 (n.2.1).length mc1) (y2 := .slice mA2 (n.2.2.1).length mc2) (y3 := .slice mA3 (n.2.2.2).length mc3) (y4 := .slice A6 (startO n).length c6) f0 f1 f2 f3 f4
    have z5 : (((((wB.setCell ⟨rb, 0, none⟩ (.int .i64 n.1)).setCell ⟨rb, 1, none⟩ (.slice mA1 (n.2.1).length mc1)).setCell ⟨rb, 2, none⟩ (.slice mA2 (n.2.2.1).length mc2)).setCell ⟨rb, 3, none⟩ (.slice mA3 (n.2.2.2).length mc3)).setCell ⟨rb, 4, none⟩ (.slice A6 (startO n).length c6)).frozen? ⟨rb, 4, none⟩ = false := set_froz (set_froz (set_froz (set_froz (set_froz z4))))
    have hOS := ownI_far (u := .slice A6 (startO n).length c6) (k := 4) (ownI_far (u := .slice mA3 (n.2.2.2).length mc3) (k := 3) (ownI_far (u := .slice mA2 (n.2.2.1).length mc2) (k := 2) (ownI_far (u := .slice mA1 (n.2.1).length mc1) (k := 1) (ownI_far (u := .int .i64 n.1) (k := 0) o2 hne4) hne4) hne4) hne4) hne4
    have hbS := bSet (p := ⟨rb, 4, none⟩) (bSet (p := ⟨rb, 3, none⟩) (bSet (p := ⟨rb, 2, none⟩) (bSet (p := ⟨rb, 1, none⟩) (bSet (p := ⟨rb, 0, none⟩) HWB.out hFB (.int .i64 n.1)) hFB (.slice mA1 (n.2.1).length mc1)) hFB (.slice mA2 (n.2.2.1).length mc2)) hFB (.slice mA3 (n.2.2.2).length mc3)) hFB (.slice A6 (startO n).length c6)
    rw [← hWS] at h5 z5 hOS hbS
    have HCU := Lib.hid h5.1
    have HC4 := Lib.hid h5.2
    have HZ4 := Lib.hid z5
    have HQ := Lib.hid (show OwnsI WS w1.heap.size (.slice A6 (startO n).length c6) (stAt n xs 0) from hOS)
    have HB0 := Lib.hid hbS
    have hrbS : rb < WS.heap.size := World.block_lt_of_cell? _ _ h5.2
    have hrbw : w.heap.size ≤ rb := Nat.le_trans HB.out.size hFB
    clear h5 z5 hOS hbS o2 hne4 hSB hS hS0 d0 d1 d2 d3
    go_wp2
    refine NoPanic.normal ?_
    rw [← hWS]
    clear hF f0 f1 f2 f3 f4 z0 z1 z2 z3 z4 hWS HWB
    go_wp2
    have HO := Lib.hid (own_nilI WS w1.heap.size)
    go_loopw [6, 23] (fun s z wr => ∃ (k : Nat) (A : Option Addr) (c : Nat) (q : Value), k ≤ xs.length ∧ z = .int .i64 (k : Int) ∧ s = .slice A (outsK n xs k).length c ∧ OwnsI wr w1.heap.size (.slice A (outsK n xs k).length c) (outsK n xs k) ∧ OwnsI wr w1.heap.size q (stAt n xs k) ∧ (Value.slice A (outsK n xs k).length c).ownBlock ≠ some rb ∧ wr.cell? ⟨rb, 4, none⟩ = some q ∧ wr.frozen? ⟨rb, 4, none⟩ = false ∧ (∀ (i : Nat) (u : Value), [.int .i64 n.1, .slice mA1 (n.2.1).length mc1, .slice mA2 (n.2.2.1).length mc2, .slice mA3 (n.2.2.2).length mc3][i]? = some u → wr.cell? ⟨rb, i, none⟩ = some u) ∧ Below w1.heap.size w1 wr) (fun _ z _ => xs.length - (intOf z).toNat)
    case atStart => exact ⟨0, none, 0, _, Nat.zero_le _, rfl, rfl, HO.out, HQ.out, by simp [Value.ownBlock], HC4.out, HZ4.out, HCU.out, HB0.out⟩
    case round =>
      obtain ⟨k, A, c, q, hk, rfl, rfl, hown, hq, hne, hc4, hz4, hcu, hb⟩ := hrel
      obtain ⟨w3, rfl⟩ : ∃ w3, w3 = wr := ⟨_, rfl⟩
      clear HO HQ HCU HC4 HZ4 HB0 hrbS
      have HO := Lib.hid hown
      have HQ := Lib.hid hq
      have HNE := Lib.hid hne
      have HC4 := Lib.hid hc4
      have HZ4 := Lib.hid hz4
      have HCU := Lib.hid hcu
      have HB0 := Lib.hid hb
      have HBW := Lib.hid (bThen HB.out hb)
      have hrb3 : rb < w3.heap.size := World.block_lt_of_cell? _ _ hc4
      clear hown hq hne hc4 hz4 hcu hb
      by_cases hlt : k < xs.length
      · obtain ⟨x, hx⟩ : ∃ x, xs[k]? = some x := ⟨_, List.getElem?_eq_getElem hlt⟩
        obtain ⟨lb, lq, rfl, lb1, xc, -⟩ := at_Int (good_IntS.below HLI.out (Nat.le_refl _) HBW.out) hx
        have lb2 := Nat.lt_of_lt_of_le lb1 HBW.out.size
        have tk : (k : Int) < (xs.length : Int) := by omega
        obtain ⟨S1, o1, hso⟩ : ∃ S1 o1, stepO n (stAt n xs k) x = (S1, o1) := ⟨_, _, rfl⟩
        have hst := outs_step hx hso
        have HSO := Lib.hid hso
        have HSP := Lib.hid (stAt_ok HF.out xs k)
        have HQR := Lib.hid (ownI_rd HQ.out (state_fit HSP.out))
        obtain ⟨KL, hK⟩ : ∃ KL, outsK n xs k = KL := ⟨_, rfl⟩
        have hlen : KL.length ≤ 16 := by rw [← hK, outs_len]; omega
        rw [hK] at hst
        have HKS := Lib.hid hst
        rw [hK] at HO HNE ⊢
        have HDR := Lib.hid (good_Net.wider (good_Net.below HD.out (Nat.le_refl _) HBW.out) (Nat.le_refl _) hrbw)
        clear hx hK hst hso lb1
        go_wp2_with fail
        refine (implStepR_at n _ x rb _ _ w3 HDR.out HQR.out HCU.out HC4.out HZ4.out HSP.out HSO.out).mono ?_
        rintro e w4 ⟨v8, rfl, hc4, hz4, ho8, hg8, hcu⟩
        have HO8 := Lib.hid ho8
        have HOS := Lib.hid (ownI_stays HO.out hg8 (.inr HNE.out))
        have HB4 := Lib.hid (HB0.out.grown hg8 HB0.out.size (fun g e => by injection e with e; omega))
        have hs34 : w3.heap.size ≤ w4.heap.size := hg8.size
        have HNV := Lib.hid (own_apart HO.out ho8)
        have hbA : Below w4.heap.size w4 (w4.alloc (.cells #[.int .i64 o1] 3)) := bAlloc (Below.refl _ _) (Nat.le_refl _) _
        have HC4A := Lib.hid (keep hbA hc4)
        have HZ4A := Lib.hid (froz_below hbA hc4 hz4)
        have HCUA := Lib.hid (show ∀ (i : Nat) (u : Value), [.int .i64 n.1, .slice mA1 (n.2.1).length mc1, .slice mA2 (n.2.2.1).length mc2, .slice mA3 (n.2.2.2).length mc3][i]? = some u → (w4.alloc (.cells #[.int .i64 o1] 3)).cell? ⟨rb, i, none⟩ = some u from fun i u hu => keep hbA (hcu i u hu))
        have HOA := Lib.hid (HOS.out.below hbA)
        have HQA := Lib.hid (show OwnsI (w4.alloc (.cells #[.int .i64 o1] 3)) w1.heap.size v8 S1 from (ho8.below hbA).lower HB0.out.size)
        have HBX := Lib.hid (bThen HB4.out hbA)
        have hsz := Lib.hid HBX.out.size
        have hrbA := Lib.hid (show rb < (w4.alloc (.cells #[.int .i64 o1] 3)).heap.size by have := hbA.size; omega)
        clear hc4 hz4 ho8 hg8 hcu hbA xc
        go_wp2_with (at_builtin; refine wpList_append_all (by rfl) _ _ 24 (by rfl) w1.heap.size 3 i0 (.int .i64 0) 1 8 Try.underlying24 hi hz0 hz1 hz2 rfl (by omega) (.slice A KL.length c) KL.length (KL.map vI) (by rfl) HOA.out (some ⟨w4.heap.size, 0, none⟩) 1 1 [.int .i64 o1] (by rfl) (by rfl) (.inr ⟨_, rfl, World.news_of_block (heap_alloc_new _ _)⟩) (by simp [Value.oneCell']) (by unfold maxLen; omega) (by omega) hsz.out ?_; intro A' c' w7 hown7 hgrow7 hkeep7 hat7)
        have HB7 := Lib.hid ((HBX.out.grown hgrow7 hsz.out (fun g hg => (HO.out.lt g hg).1)))
        have HO7 := Lib.hid (own_int hown7)
        have HQ7 := Lib.hid (ownI_stays HQA.out hgrow7 HNV.out)
        have HC7 := Lib.hid (grownC hgrow7 HC4A.out HNE.out)
        have HZ7 := Lib.hid (grownZ hgrow7 HC4A.out HZ4A.out HNE.out)
        have HU7 := Lib.hid (fun (i : Nat) (u : Value) (hu : [.int .i64 n.1, .slice mA1 (n.2.1).length mc1, .slice mA2 (n.2.2.1).length mc2, .slice mA3 (n.2.2.2).length mc3][i]? = some u) => grownC hgrow7 (HCUA.out i u hu) HNE.out)
        have HN7 := Lib.hid (show (Value.slice A' (KL.length + 1) c').ownBlock ≠ some rb from fun e => by
          rcases hat7 with h | h
          · exact HNE.out (h.symm.trans e)
          · rw [e] at h; injection h with h; have := hrbA.out; omega)
        clear hown7 hgrow7 hkeep7 hat7 hsz
        (try go_wp2)
        go_roundw
        case rel => exact ⟨k + 1, A', c', v8, by omega, by go_num, by rw [HKS.out.1, List.length_append]; rfl, by rw [HKS.out.1, List.length_append]; exact HO7.out, by rw [HKS.out.2]; exact HQ7.out, by rw [HKS.out.1, List.length_append]; exact HN7.out, HC7.out, HZ7.out, HU7.out, HB7.out⟩
        case measure => simp [intOf] <;> omega
      · obtain rfl : k = xs.length := by omega
        rw [HE.out] at HO ⊢
        clear hlt
        go_wp2
        go_ret
        exact ⟨_, rfl, HO.out.lower HB.out.size, HBW.out⟩
end Go.Proofs.Ytedamhkcblemdaa
