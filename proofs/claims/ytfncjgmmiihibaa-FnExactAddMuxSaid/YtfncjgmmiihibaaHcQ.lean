/-
  Hc4, Hc5, Hc6, Hc7 as one text.
-/
import Derived.Test.YtfncjgmmiihibaaHc3
import Derived.Test.YtfncjgmmiihibaaHcC
import Derived.Deep.RegionHeld3
import Derived.Test.YtfncjgmmiihibaaOwnB
import Derived.Test.YtfncjgmmiihibaaHcD
/- Hc4: AddOr: the specification. -/
namespace Go.Proofs.Ytfncjgmmiihibaa
open Go.RowKit
set_option linter.unusedVariables false
set_option linter.unusedSimpArgs false

theorem orO_neg {n m : DNet} {a b x : Int} (h : andO n (notI a) (notI b) = (m, x)) (hx : x < 0) : orO n a b = (n, -1) := by unfold orO; rw [h]; exact if_pos hx
theorem orO_pos {n m : DNet} {a b x : Int} (h : andO n (notI a) (notI b) = (m, x)) (hx : ¬ x < 0) : orO n a b = (m, notI x) := by unfold orO; rw [h]; exact if_neg hx
set_option maxRecDepth 100000 in
set_option maxHeartbeats 25600000 in
theorem specOr_at (n : DNet) (a b : Int) (us : List Value) (w : World) (h : rdNet 0 w.heap.size w us n) (hq12 : n.2.1.length ≤ 3000000) (hin : ∀ s ∈ n.2.1, s.2.2.length ≤ 3000000) (ha12 : n.2.2.1.length ≤ 3000000) (ho12 : n.2.2.2.length ≤ 3000000) (fa : Fit a) (fb : Fit b) {m : DNet} {x : Int} (hm : orO n a b = (m, x)) :
    Calls Try.prog 45 #[.agg us.toArray, .int .i64 a, .int .i64 b] w fun e w' => ∃ v1 vA v3 rows bs, e = .returned (.tuple #[.agg #[.int .i64 m.1, v1, vA, v3], .int .i64 x]) ∧ NetG w.heap.size w' v1 vA v3 rows bs m ∧ Below w.heap.size w w' := by
  have HD := Lib.hid h
  have HX := Lib.hid hm
  have HIN := Lib.hid hin
  obtain ⟨⟨m1, x1⟩, hA⟩ : ∃ r, andO n (notI a) (notI b) = r := ⟨_, rfl⟩
  have HA := Lib.hid hA
  have HXS := Lib.hid (show -1 ≤ x1 ∧ x1 < 3000000 by have := andO_small (n := n) (a := notI a) (b := notI b); rw [hA] at this; exact this)
  clear hm hin hA
  obtain ⟨mu0, mu1, mu2, mu3, rfl, mh0, mh1, mh2, mh3⟩ := h
  obtain ⟨me0, -⟩ := mh0
  injection me0 with me0
  subst me0
  obtain ⟨mA1, mc1, me1, mm1, -⟩ := slice_of mh1
  subst me1
  have mR1 := Lib.hid mh1
  clear mh1
  obtain ⟨mA2, mc2, me2, mm2, -⟩ := slice_of mh2
  subst me2
  have mR2 := Lib.hid mh2
  clear mh2
  obtain ⟨mA3, mc3, me3, mm3, -⟩ := slice_of mh3
  subst me3
  have mR3 := Lib.hid mh3
  clear mh3
  go_enter Try.func45, Try.ntmps45
  go_wp2_with fail
  obtain ⟨W0, hV⟩ : ∃ W0, W0 = ((w.alloc (.cells #[.int .i64 n.1, .slice mA1 (n.2.1).length mc1, .slice mA2 (n.2.2.1).length mc2, .slice mA3 (n.2.2.2).length mc3] 28)).alloc (.cells #[.int .i64 0, .slice none 0 0, .slice none 0 0, .slice none 0 0] 28)) := ⟨_, rfl⟩
  rw [← hV]
  have gN := eqbox2 hV
  have d0 : W0.cell? ⟨w.heap.size, 0, none⟩ = some (.int .i64 n.1) := box_cell gN.1 0 _ rfl
  have d1 : W0.cell? ⟨w.heap.size, 1, none⟩ = some (.slice mA1 (n.2.1).length mc1) := box_cell gN.1 1 _ rfl
  have d2 : W0.cell? ⟨w.heap.size, 2, none⟩ = some (.slice mA2 (n.2.2.1).length mc2) := box_cell gN.1 2 _ rfl
  have d3 : W0.cell? ⟨w.heap.size, 3, none⟩ = some (.slice mA3 (n.2.2.2).length mc3) := box_cell gN.1 3 _ rfl
  have r0 : W0.cell? ⟨w.heap.size + 1, 0, none⟩ = some (.int .i64 0) := box_cell gN.2.1 0 _ rfl
  have r1 : W0.cell? ⟨w.heap.size + 1, 1, none⟩ = some (.slice none 0 0) := box_cell gN.2.1 1 _ rfl
  have r2 : W0.cell? ⟨w.heap.size + 1, 2, none⟩ = some (.slice none 0 0) := box_cell gN.2.1 2 _ rfl
  have r3 : W0.cell? ⟨w.heap.size + 1, 3, none⟩ = some (.slice none 0 0) := box_cell gN.2.1 3 _ rfl
  have sW0 : W0.heap.size = w.heap.size + 2 := by rw [hV]; simp
  have HW0 := Lib.hid gN.2.2
  have HR0 := Lib.hid (show BoxN W0 (w.heap.size + 1) (.int .i64 0) vNil vNil vNil from gN.2.1)
  clear hV gN r0 r1 r2 r3
  have hS0 : (fun w' => w'.cell? ⟨w.heap.size, 0, none⟩ = some (.int .i64 n.1) ∧ w'.cell? ⟨w.heap.size, 1, none⟩ = some (.slice mA1 (n.2.1).length mc1) ∧ w'.cell? ⟨w.heap.size, 2, none⟩ = some (.slice mA2 (n.2.2.1).length mc2) ∧ w'.cell? ⟨w.heap.size, 3, none⟩ = some (.slice mA3 (n.2.2.2).length mc3)) W0 := ⟨d0, d1, d2, d3⟩
  have hS : ∀ {w0 w' : World}, (fun w' => w'.cell? ⟨w.heap.size, 0, none⟩ = some (.int .i64 n.1) ∧ w'.cell? ⟨w.heap.size, 1, none⟩ = some (.slice mA1 (n.2.1).length mc1) ∧ w'.cell? ⟨w.heap.size, 2, none⟩ = some (.slice mA2 (n.2.2.1).length mc2) ∧ w'.cell? ⟨w.heap.size, 3, none⟩ = some (.slice mA3 (n.2.2.2).length mc3)) w0 → Below w0.heap.size w0 w' → (fun w' => w'.cell? ⟨w.heap.size, 0, none⟩ = some (.int .i64 n.1) ∧ w'.cell? ⟨w.heap.size, 1, none⟩ = some (.slice mA1 (n.2.1).length mc1) ∧ w'.cell? ⟨w.heap.size, 2, none⟩ = some (.slice mA2 (n.2.2.1).length mc2) ∧ w'.cell? ⟨w.heap.size, 3, none⟩ = some (.slice mA3 (n.2.2.2).length mc3)) w' := fun h hb => ⟨keep hb h.1, keep hb h.2.1, keep hb h.2.2.1, keep hb h.2.2.2⟩
  dsimp only at hS0 hS
  obtain ⟨Wd, hWd⟩ : ∃ x, x = W0.drew := ⟨_, rfl⟩
  have hbd : Below W0.heap.size W0 Wd := by rw [hWd]; exact Below.drew (Below.refl _ _)
  have HR := Lib.hid (HR0.out.at (hbd.block _ HR0.out.lt))
  have HB := Lib.hid (bThen HW0.out hbd)
  have sA : w.heap.size + 2 ≤ Wd.heap.size := by have := hbd.size; omega
  clear hbd HR0 HW0 d0 d1 d2 d3 sW0
  refine wp_region_noPanic ?_
  refine wp_region_kept 11 12 (fun w' => w'.cell? ⟨w.heap.size, 0, none⟩ = some (.int .i64 n.1) ∧ w'.cell? ⟨w.heap.size, 1, none⟩ = some (.slice mA1 (n.2.1).length mc1) ∧ w'.cell? ⟨w.heap.size, 2, none⟩ = some (.slice mA2 (n.2.2.1).length mc2) ∧ w'.cell? ⟨w.heap.size, 3, none⟩ = some (.slice mA3 (n.2.2.2).length mc3)) (by kernel_rfl) rfl (hS hS0 (Below.drew (Below.refl _ _))) (fun hK0 => ?_)
  rw [← hWd] at hK0 ⊢
  clear hWd
  refine Kept.take (v := ?vr0) 0 (by kernel_rfl) rfl (by kernel_rfl) (fun _ _ _ h => h) (Or.inl ⟨by rfl, ?hyr0⟩) hK0 ?restr0
  case hyr0 =>
    intro w0 hSw
    (try dsimp only at hSw)
    go_simp
    all_goals (with_reducible rfl)
  (try simp only [Act.put, List.setIfInBounds_toArray, List.set_cons_zero, List.set_cons_succ])
  refine Kept.take (v := ?vr1) 1 (by kernel_rfl) rfl (by kernel_rfl) (fun _ _ _ h => h) (Or.inl ⟨by rfl, ?hyr1⟩) hK0 ?restr1
  case hyr1 =>
    intro w0 hSw
    (try dsimp only at hSw)
    go_simp
    all_goals (with_reducible rfl)
  (try simp only [Act.put, List.setIfInBounds_toArray, List.set_cons_zero, List.set_cons_succ])
  refine Kept.take (v := ?vr3) 3 (by kernel_rfl) rfl (by kernel_rfl) (fun _ _ _ h => h) (Or.inl ⟨by rfl, ?hyr3⟩) hK0 ?restr3
  case hyr3 =>
    intro w0 hSw
    (try dsimp only at hSw)
    go_simp
    all_goals (with_reducible rfl)
  (try simp only [Act.put, List.setIfInBounds_toArray, List.set_cons_zero, List.set_cons_succ])
  refine Kept.fork [2, 9] (by kernel_rfl) (by decide) (fun iF hi o ho K hK => ?_)
  simp only [List.mem_cons, List.not_mem_nil, or_false] at hi
  rcases hi with rfl | rfl
  · have ho' := Option.some.inj ho
    subst ho'
    go_simp
    go_at_call 118
    refine (specNot_at a _ fa rfl).mono ?_
    rintro e wq2 ⟨rfl, hbN⟩
    have hszwq2 : Wd.heap.size ≤ wq2.heap.size := hbN.size
    replace HR := Lib.hid (HR.out.at (hbN.block _ HR.out.lt))
    replace HB := Lib.hid (bThen HB.out hbN)
    go_simp
    refine hK.out _ _ (hS hK0 hbN) (fun hK1 => ?_)
    clear hK K hK0 hbN
    (try simp only [Act.put, List.setIfInBounds_toArray, List.set_cons_zero, List.set_cons_succ])
    refine Kept.fork [4, 9] (by kernel_rfl) (by decide) (fun iF hi o ho K hK => ?_)
    simp only [List.mem_cons, List.not_mem_nil, or_false] at hi
    rcases hi with rfl | rfl
    · have ho' := Option.some.inj ho
      subst ho'
      go_simp
      go_at_call 118
      refine (specNot_at b _ fb rfl).mono ?_
      rintro e wq2_4 ⟨rfl, hbN⟩
      have hszwq2_4 : wq2.heap.size ≤ wq2_4.heap.size := hbN.size
      replace HR := Lib.hid (HR.out.at (hbN.block _ HR.out.lt))
      replace HB := Lib.hid (bThen HB.out hbN)
      go_simp
      refine hK.out _ _ (hS hK1 hbN) (fun hK2 => ?_)
      clear hK K hK1 hbN
      (try simp only [Act.put, List.setIfInBounds_toArray, List.set_cons_zero, List.set_cons_succ])
      refine Kept.fork [5, 9] (by kernel_rfl) (by decide) (fun iF hi o ho K hK => ?_)
      simp only [List.mem_cons, List.not_mem_nil, or_false] at hi
      rcases hi with rfl | rfl
      · have ho' := Option.some.inj ho
        subst ho'
        go_simp
        go_at_call 40
        refine (specAnd_at n (notI a) (notI b) _ _ (rdUp good_Net HD.out HB.out) hq12 HIN.out ha12 ho12 (notI_fit fa) (notI_fit fb) HA.out).mono ?_
        rintro e wq2_4_5 ⟨v1, vA, v3, rows, bs, rfl, hnet, hbN⟩
        have HNB := Lib.hid (show ∀ b ∈ blkL v1 ++ (bs ++ (blkL vA ++ blkL v3)), wq2_4.heap.size ≤ b ∧ b < wq2_4_5.heap.size from fun b hb => ⟨(hnet.lt hb).2, (hnet.lt hb).1⟩)
        have HN := Lib.hid (hnet.lower (B' := w.heap.size + 2) (by omega))
        obtain ⟨A1, c1, rfl⟩ := HN.out.s.cap fV3_len
        obtain ⟨A2, c2, rfl⟩ := HN.out.a.cap fAnd_len
        obtain ⟨A3, c3, rfl⟩ := HN.out.o.cap fInt_len
        clear hnet
        have hszwq2_4_5 : wq2_4.heap.size ≤ wq2_4_5.heap.size := hbN.size
        replace HR := Lib.hid (HR.out.at (hbN.block _ HR.out.lt))
        replace HB := Lib.hid (bThen HB.out hbN)
        go_simp
        refine hK.out _ _ (hS hK2 hbN) (fun hK3 => ?_)
        clear hK K hK2 hbN
        (try simp only [Act.put, List.setIfInBounds_toArray, List.set_cons_zero, List.set_cons_succ])
        refine Kept.take (v := ?vt2_4_5n6) 6 (by kernel_rfl) rfl (by kernel_rfl) (fun _ _ _ h => h) (Or.inl ⟨by rfl, ?hyt2_4_5n6⟩) hK3 ?restt2_4_5n6
        case hyt2_4_5n6 =>
          intro w0 hSw
          (try dsimp only at hSw)
          go_simp
          all_goals (with_reducible rfl)
        (try simp only [Act.put, List.setIfInBounds_toArray, List.set_cons_zero, List.set_cons_succ])
        refine Kept.take (v := ?vt2_4_5n7) 7 (by kernel_rfl) rfl (by kernel_rfl) (fun _ _ _ h => h) (Or.inl ⟨by rfl, ?hyt2_4_5n7⟩) hK3 ?restt2_4_5n7
        case hyt2_4_5n7 =>
          intro w0 hSw
          (try dsimp only at hSw)
          go_simp
          all_goals (with_reducible rfl)
        (try simp only [Act.put, List.setIfInBounds_toArray, List.set_cons_zero, List.set_cons_succ])
        refine Kept.take (v := ?vt2_4_5n8) 8 (by kernel_rfl) rfl (by kernel_rfl) (fun _ _ _ h => h) (Or.inl ⟨by rfl, ?hyt2_4_5n8⟩) hK3 ?restt2_4_5n8
        case hyt2_4_5n8 =>
          intro w0 hSw
          (try dsimp only at hSw)
          go_simp
          all_goals (with_reducible rfl)
        (try simp only [Act.put, List.setIfInBounds_toArray, List.set_cons_zero, List.set_cons_succ])
        refine Kept.one 9 (by kernel_rfl) rfl (fun K hK => ?_)
        go_simp
        obtain ⟨wq2_4_5_9, hw2⟩ : ∃ x, x = (wq2_4_5.alloc (.cells #[.int .i64 0, .slice none 0 0, .slice none 0 0, .slice none 0 0] 28)) := ⟨_, rfl⟩
        rw [← hw2]
        have hbN : Below wq2_4_5.heap.size wq2_4_5 wq2_4_5_9 := by rw [hw2]; exact bAlloc (Below.refl _ _) (Nat.le_refl _) _
        have HGz0 := Lib.hid (show BoxN wq2_4_5_9 wq2_4_5.heap.size (.int .i64 0) vNil vNil vNil by rw [hw2]; exact heap_alloc_new _ _)
        have hltwq2_4_5_9 : wq2_4_5.heap.size + 1 ≤ wq2_4_5_9.heap.size := by rw [hw2]; simp
        obtain ⟨G, hG⟩ : ∃ G, G = wq2_4_5.heap.size := ⟨_, rfl⟩
        rw [← hG] at HGz0 ⊢
        have HGz := HGz0
        have hG1 := Nat.le_of_eq hG
        have hG2 := Nat.le_of_eq hG.symm
        clear HGz0 hw2 hG
        have hszwq2_4_5_9 : wq2_4_5.heap.size ≤ wq2_4_5_9.heap.size := hbN.size
        replace HR := Lib.hid (HR.out.at (hbN.block _ HR.out.lt))
        replace HB := Lib.hid (bThen HB.out hbN)
        replace HN := Lib.hid (HN.out.below hbN)
        refine hK.out _ _ (hS hK3 hbN) (fun hK4 => ?_)
        clear hK K hK3 hbN
        (try simp only [Act.put, List.setIfInBounds_toArray, List.set_cons_zero, List.set_cons_succ])
        have HOFF := Lib.hid (show ∀ b ∈ blkL (.slice A1 m1.2.1.length c1) ++ (bs ++ (blkL (.slice A2 m1.2.2.1.length c2) ++ blkL (.slice A3 m1.2.2.2.length c3))), b ≠ G from fun b hb => by have h1 := HNB.out b hb; have := HGz.out.lt; omega)
        have HC := Lib.hid (CopyAt.stored HGz.out HR.out HN.out HOFF.out HB.out (Nat.le_succ _) (by omega) (by omega))
        have k0 := HGz.out.cells.1.1
        have k1 := HGz.out.cells.1.2.1
        have k2 := HGz.out.cells.1.2.2.1
        have k3 := HGz.out.cells.1.2.2.2
        have kz := HGz.out.cells.2
        have hEG : w.heap.size ≠ G := by omega
        refine Kept.one 10 (by kernel_rfl) rfl (fun K hK => ?_)
        go_simp
        refine hK.out _ _ (⟨(World.cell?_of_block (far4 hEG)).trans hK4.1, (World.cell?_of_block (far4 hEG)).trans hK4.2.1, (World.cell?_of_block (far4 hEG)).trans hK4.2.2.1, (World.cell?_of_block (far4 hEG)).trans hK4.2.2.2⟩) (fun hK5 => ?_)
        clear hK K hK4 k0 k1 k2 k3 kz
        (try simp only [Act.put, List.setIfInBounds_toArray, List.set_cons_zero, List.set_cons_succ])
        refine Kept.tail (by rfl) (by kernel_rfl) ?_
        simp only [List.drop_succ_cons, List.drop_zero]
        obtain ⟨W9, hW9⟩ : ∃ x, x = ((((wq2_4_5_9.setCell ⟨G, 0, none⟩ (.int .i64 m1.1)).setCell ⟨G, 1, none⟩ (.slice A1 m1.2.1.length c1)).setCell ⟨G, 2, none⟩ (.slice A2 m1.2.2.1.length c2)).setCell ⟨G, 3, none⟩ (.slice A3 m1.2.2.2.length c3)) := ⟨_, rfl⟩
        rw [← hW9] at HC hK5 ⊢
        have d0 := hK5.1
        have d1 := hK5.2.1
        have d2 := hK5.2.2.1
        have d3 := hK5.2.2.2
        clear hW9 hK5 HGz HN HR HB
        have HB := Lib.hid HC.out.chg
        go_wp2
        refine NoPanic.normal ?_
        by_cases hx : x1 < 0
        · have hE := Prod.mk.inj ((orO_neg HA.out hx).symm.trans HX.out)
          obtain ⟨hE1, hE2⟩ := hE
          subst hE1 hE2
          go_wp2_with fail
          refine (specCopy_at n _ _ (rdUp good_Net HD.out HB.out) hq12 HIN.out ha12 ho12).mono ?_
          rintro e w5 ⟨u1, uA, u3, rows2, bs2, rfl, hnet, hb⟩
          have HBF := Lib.hid (HC.out.res.at (hb.block _ HC.out.res.lt))
          have hws := HB.out.size
          have hcs := HC.out.hG
          have hcg := HC.out.box.lt
          have HB5 := Lib.hid (bThen HB.out hb)
          obtain ⟨B1, e1, rfl⟩ := hnet.s.cap fV3_len
          obtain ⟨B2, e2, rfl⟩ := hnet.a.cap fAnd_len
          obtain ⟨B3, e3, rfl⟩ := hnet.o.cap fInt_len
          have HNN := Lib.hid hnet
          have f0 := HBF.out.cells.1.1
          have f1 := HBF.out.cells.1.2.1
          have f2 := HBF.out.cells.1.2.2.1
          have f3 := HBF.out.cells.1.2.2.2
          have fz := HBF.out.cells.2
          clear hnet hb
          go_wp2
          ((try simp only [Exit.inBlock, Exit.then]); refine bodyPost_ret (v := (.tuple #[.agg #[.int .i64 n.1, .slice B1 n.2.1.length e1, .slice B2 n.2.2.1.length e2, .slice B3 n.2.2.2.length e3], .int .i64 (-1)])) (by rw [results_cell_tmp rfl]; go_simp) rfl ?_)
          exact ⟨_, _, _, rows2, bs2, rfl, (HNN.out.at fun b h1 h2 h3 => far4 (by omega)).lower (by omega), bSet (bSet (bSet (bSet HB5.out (Nat.le_succ _) _) (Nat.le_succ _) _) (Nat.le_succ _) _) (Nat.le_succ _) _⟩
        · have hE := Prod.mk.inj ((orO_pos HA.out hx).symm.trans HX.out)
          obtain ⟨hE1, hE2⟩ := hE
          subst hE1 hE2
          have hxb : bits .xor .i64 x1 1 = notI x1 := by
            have h2 := HXS.out
            obtain ⟨z, rfl⟩ : ∃ z : Nat, x1 = (z : Int) := ⟨x1.toNat, by omega⟩
            exact not_bits z (by omega)
          have g0 := HC.out.box.cells.1.1
          have g1 := HC.out.box.cells.1.2.1
          have g2 := HC.out.box.cells.1.2.2.1
          have g3 := HC.out.box.cells.1.2.2.2
          have f0 := HC.out.res.cells.1.1
          have f1 := HC.out.res.cells.1.2.1
          have f2 := HC.out.res.cells.1.2.2.1
          have f3 := HC.out.res.cells.1.2.2.2
          have fz := HC.out.res.cells.2
          go_wp2
          ((try simp only [Exit.inBlock, Exit.then]); refine bodyPost_ret (v := (.tuple #[.agg #[.int .i64 m1.1, .slice A1 m1.2.1.length c1, .slice A2 m1.2.2.1.length c2, .slice A3 m1.2.2.2.length c3], .int .i64 (notI x1)])) (by rw [results_cell_tmp rfl]; go_simp) rfl ?_)
          first | exact ⟨_, _, _, rows, bs, rfl, (HC.out.done _ _ _ _).1, (HC.out.done _ _ _ _).2⟩ | exact ⟨_, _, _, rfl, rows, bs, (HC.out.done _ _ _ _).1, (HC.out.done _ _ _ _).2⟩ | exact ⟨_, _, _, rfl, ⟨rows, bs, (HC.out.done _ _ _ _).1⟩, (HC.out.done _ _ _ _).2⟩
      · have ho' := Option.some.inj ho
        subst ho'
        go_simp
        obtain ⟨wq2_4_9, hw2⟩ : ∃ x, x = (wq2_4.alloc (.cells #[.int .i64 0, .slice none 0 0, .slice none 0 0, .slice none 0 0] 28)) := ⟨_, rfl⟩
        rw [← hw2]
        have hbN : Below wq2_4.heap.size wq2_4 wq2_4_9 := by rw [hw2]; exact bAlloc (Below.refl _ _) (Nat.le_refl _) _
        have HGz0 := Lib.hid (show BoxN wq2_4_9 wq2_4.heap.size (.int .i64 0) vNil vNil vNil by rw [hw2]; exact heap_alloc_new _ _)
        have hltwq2_4_9 : wq2_4.heap.size + 1 ≤ wq2_4_9.heap.size := by rw [hw2]; simp
        obtain ⟨G, hG⟩ : ∃ G, G = wq2_4.heap.size := ⟨_, rfl⟩
        rw [← hG] at HGz0 ⊢
        have HGz := HGz0
        have hG1 := Nat.le_of_eq hG
        have hG2 := Nat.le_of_eq hG.symm
        clear HGz0 hw2 hG
        have hszwq2_4_9 : wq2_4.heap.size ≤ wq2_4_9.heap.size := hbN.size
        replace HR := Lib.hid (HR.out.at (hbN.block _ HR.out.lt))
        replace HB := Lib.hid (bThen HB.out hbN)
        refine hK.out _ _ (hS hK2 hbN) (fun hK3 => ?_)
        clear hK K hK2 hbN
        (try simp only [Act.put, List.setIfInBounds_toArray, List.set_cons_zero, List.set_cons_succ])
        refine Kept.one 5 (by kernel_rfl) rfl (fun K hK => ?_)
        go_simp
        go_at_call 40
        refine (specAnd_at n (notI a) (notI b) _ _ (rdUp good_Net HD.out HB.out) hq12 HIN.out ha12 ho12 (notI_fit fa) (notI_fit fb) HA.out).mono ?_
        rintro e wq2_4_9_5 ⟨v1, vA, v3, rows, bs, rfl, hnet, hbN⟩
        have HNB := Lib.hid (show ∀ b ∈ blkL v1 ++ (bs ++ (blkL vA ++ blkL v3)), wq2_4_9.heap.size ≤ b ∧ b < wq2_4_9_5.heap.size from fun b hb => ⟨(hnet.lt hb).2, (hnet.lt hb).1⟩)
        have HN := Lib.hid (hnet.lower (B' := w.heap.size + 2) (by omega))
        obtain ⟨A1, c1, rfl⟩ := HN.out.s.cap fV3_len
        obtain ⟨A2, c2, rfl⟩ := HN.out.a.cap fAnd_len
        obtain ⟨A3, c3, rfl⟩ := HN.out.o.cap fInt_len
        clear hnet
        have hszwq2_4_9_5 : wq2_4_9.heap.size ≤ wq2_4_9_5.heap.size := hbN.size
        replace HR := Lib.hid (HR.out.at (hbN.block _ HR.out.lt))
        replace HB := Lib.hid (bThen HB.out hbN)
        replace HGz := Lib.hid (HGz.out.at (hbN.block _ HGz.out.lt))
        go_simp
        refine hK.out _ _ (hS hK3 hbN) (fun hK4 => ?_)
        clear hK K hK3 hbN
        (try simp only [Act.put, List.setIfInBounds_toArray, List.set_cons_zero, List.set_cons_succ])
        refine Kept.take (v := ?vt2_4_9_5n6) 6 (by kernel_rfl) rfl (by kernel_rfl) (fun _ _ _ h => h) (Or.inl ⟨by rfl, ?hyt2_4_9_5n6⟩) hK4 ?restt2_4_9_5n6
        case hyt2_4_9_5n6 =>
          intro w0 hSw
          (try dsimp only at hSw)
          go_simp
          all_goals (with_reducible rfl)
        (try simp only [Act.put, List.setIfInBounds_toArray, List.set_cons_zero, List.set_cons_succ])
        refine Kept.take (v := ?vt2_4_9_5n7) 7 (by kernel_rfl) rfl (by kernel_rfl) (fun _ _ _ h => h) (Or.inl ⟨by rfl, ?hyt2_4_9_5n7⟩) hK4 ?restt2_4_9_5n7
        case hyt2_4_9_5n7 =>
          intro w0 hSw
          (try dsimp only at hSw)
          go_simp
          all_goals (with_reducible rfl)
        (try simp only [Act.put, List.setIfInBounds_toArray, List.set_cons_zero, List.set_cons_succ])
        refine Kept.take (v := ?vt2_4_9_5n8) 8 (by kernel_rfl) rfl (by kernel_rfl) (fun _ _ _ h => h) (Or.inl ⟨by rfl, ?hyt2_4_9_5n8⟩) hK4 ?restt2_4_9_5n8
        case hyt2_4_9_5n8 =>
          intro w0 hSw
          (try dsimp only at hSw)
          go_simp
          all_goals (with_reducible rfl)
        (try simp only [Act.put, List.setIfInBounds_toArray, List.set_cons_zero, List.set_cons_succ])
        have HOFF := Lib.hid (show ∀ b ∈ blkL (.slice A1 m1.2.1.length c1) ++ (bs ++ (blkL (.slice A2 m1.2.2.1.length c2) ++ blkL (.slice A3 m1.2.2.2.length c3))), b ≠ G from fun b hb => by have h1 := HNB.out b hb; have := HGz.out.lt; omega)
        have HC := Lib.hid (CopyAt.stored HGz.out HR.out HN.out HOFF.out HB.out (Nat.le_succ _) (by omega) (by omega))
        have k0 := HGz.out.cells.1.1
        have k1 := HGz.out.cells.1.2.1
        have k2 := HGz.out.cells.1.2.2.1
        have k3 := HGz.out.cells.1.2.2.2
        have kz := HGz.out.cells.2
        have hEG : w.heap.size ≠ G := by omega
        refine Kept.one 10 (by kernel_rfl) rfl (fun K hK => ?_)
        go_simp
        refine hK.out _ _ (⟨(World.cell?_of_block (far4 hEG)).trans hK4.1, (World.cell?_of_block (far4 hEG)).trans hK4.2.1, (World.cell?_of_block (far4 hEG)).trans hK4.2.2.1, (World.cell?_of_block (far4 hEG)).trans hK4.2.2.2⟩) (fun hK5 => ?_)
        clear hK K hK4 k0 k1 k2 k3 kz
        (try simp only [Act.put, List.setIfInBounds_toArray, List.set_cons_zero, List.set_cons_succ])
        refine Kept.tail (by rfl) (by kernel_rfl) ?_
        simp only [List.drop_succ_cons, List.drop_zero]
        obtain ⟨W9, hW9⟩ : ∃ x, x = ((((wq2_4_9_5.setCell ⟨G, 0, none⟩ (.int .i64 m1.1)).setCell ⟨G, 1, none⟩ (.slice A1 m1.2.1.length c1)).setCell ⟨G, 2, none⟩ (.slice A2 m1.2.2.1.length c2)).setCell ⟨G, 3, none⟩ (.slice A3 m1.2.2.2.length c3)) := ⟨_, rfl⟩
        rw [← hW9] at HC hK5 ⊢
        have d0 := hK5.1
        have d1 := hK5.2.1
        have d2 := hK5.2.2.1
        have d3 := hK5.2.2.2
        clear hW9 hK5 HGz HN HR HB
        have HB := Lib.hid HC.out.chg
        go_wp2
        refine NoPanic.normal ?_
        by_cases hx : x1 < 0
        · have hE := Prod.mk.inj ((orO_neg HA.out hx).symm.trans HX.out)
          obtain ⟨hE1, hE2⟩ := hE
          subst hE1 hE2
          go_wp2_with fail
          refine (specCopy_at n _ _ (rdUp good_Net HD.out HB.out) hq12 HIN.out ha12 ho12).mono ?_
          rintro e w5 ⟨u1, uA, u3, rows2, bs2, rfl, hnet, hb⟩
          have HBF := Lib.hid (HC.out.res.at (hb.block _ HC.out.res.lt))
          have hws := HB.out.size
          have hcs := HC.out.hG
          have hcg := HC.out.box.lt
          have HB5 := Lib.hid (bThen HB.out hb)
          obtain ⟨B1, e1, rfl⟩ := hnet.s.cap fV3_len
          obtain ⟨B2, e2, rfl⟩ := hnet.a.cap fAnd_len
          obtain ⟨B3, e3, rfl⟩ := hnet.o.cap fInt_len
          have HNN := Lib.hid hnet
          have f0 := HBF.out.cells.1.1
          have f1 := HBF.out.cells.1.2.1
          have f2 := HBF.out.cells.1.2.2.1
          have f3 := HBF.out.cells.1.2.2.2
          have fz := HBF.out.cells.2
          clear hnet hb
          go_wp2
          ((try simp only [Exit.inBlock, Exit.then]); refine bodyPost_ret (v := (.tuple #[.agg #[.int .i64 n.1, .slice B1 n.2.1.length e1, .slice B2 n.2.2.1.length e2, .slice B3 n.2.2.2.length e3], .int .i64 (-1)])) (by rw [results_cell_tmp rfl]; go_simp) rfl ?_)
          exact ⟨_, _, _, rows2, bs2, rfl, (HNN.out.at fun b h1 h2 h3 => far4 (by omega)).lower (by omega), bSet (bSet (bSet (bSet HB5.out (Nat.le_succ _) _) (Nat.le_succ _) _) (Nat.le_succ _) _) (Nat.le_succ _) _⟩
        · have hE := Prod.mk.inj ((orO_pos HA.out hx).symm.trans HX.out)
          obtain ⟨hE1, hE2⟩ := hE
          subst hE1 hE2
          have hxb : bits .xor .i64 x1 1 = notI x1 := by
            have h2 := HXS.out
            obtain ⟨z, rfl⟩ : ∃ z : Nat, x1 = (z : Int) := ⟨x1.toNat, by omega⟩
            exact not_bits z (by omega)
          have g0 := HC.out.box.cells.1.1
          have g1 := HC.out.box.cells.1.2.1
          have g2 := HC.out.box.cells.1.2.2.1
          have g3 := HC.out.box.cells.1.2.2.2
          have f0 := HC.out.res.cells.1.1
          have f1 := HC.out.res.cells.1.2.1
          have f2 := HC.out.res.cells.1.2.2.1
          have f3 := HC.out.res.cells.1.2.2.2
          have fz := HC.out.res.cells.2
          go_wp2
          ((try simp only [Exit.inBlock, Exit.then]); refine bodyPost_ret (v := (.tuple #[.agg #[.int .i64 m1.1, .slice A1 m1.2.1.length c1, .slice A2 m1.2.2.1.length c2, .slice A3 m1.2.2.2.length c3], .int .i64 (notI x1)])) (by rw [results_cell_tmp rfl]; go_simp) rfl ?_)
          first | exact ⟨_, _, _, rows, bs, rfl, (HC.out.done _ _ _ _).1, (HC.out.done _ _ _ _).2⟩ | exact ⟨_, _, _, rfl, rows, bs, (HC.out.done _ _ _ _).1, (HC.out.done _ _ _ _).2⟩ | exact ⟨_, _, _, rfl, ⟨rows, bs, (HC.out.done _ _ _ _).1⟩, (HC.out.done _ _ _ _).2⟩
    · have ho' := Option.some.inj ho
      subst ho'
      go_simp
      obtain ⟨wq2_9, hw2⟩ : ∃ x, x = (wq2.alloc (.cells #[.int .i64 0, .slice none 0 0, .slice none 0 0, .slice none 0 0] 28)) := ⟨_, rfl⟩
      rw [← hw2]
      have hbN : Below wq2.heap.size wq2 wq2_9 := by rw [hw2]; exact bAlloc (Below.refl _ _) (Nat.le_refl _) _
      have HGz0 := Lib.hid (show BoxN wq2_9 wq2.heap.size (.int .i64 0) vNil vNil vNil by rw [hw2]; exact heap_alloc_new _ _)
      have hltwq2_9 : wq2.heap.size + 1 ≤ wq2_9.heap.size := by rw [hw2]; simp
      obtain ⟨G, hG⟩ : ∃ G, G = wq2.heap.size := ⟨_, rfl⟩
      rw [← hG] at HGz0 ⊢
      have HGz := HGz0
      have hG1 := Nat.le_of_eq hG
      have hG2 := Nat.le_of_eq hG.symm
      clear HGz0 hw2 hG
      have hszwq2_9 : wq2.heap.size ≤ wq2_9.heap.size := hbN.size
      replace HR := Lib.hid (HR.out.at (hbN.block _ HR.out.lt))
      replace HB := Lib.hid (bThen HB.out hbN)
      refine hK.out _ _ (hS hK1 hbN) (fun hK2 => ?_)
      clear hK K hK1 hbN
      (try simp only [Act.put, List.setIfInBounds_toArray, List.set_cons_zero, List.set_cons_succ])
      refine Kept.one 4 (by kernel_rfl) rfl (fun K hK => ?_)
      go_simp
      go_at_call 118
      refine (specNot_at b _ fb rfl).mono ?_
      rintro e wq2_9_4 ⟨rfl, hbN⟩
      have hszwq2_9_4 : wq2_9.heap.size ≤ wq2_9_4.heap.size := hbN.size
      replace HR := Lib.hid (HR.out.at (hbN.block _ HR.out.lt))
      replace HB := Lib.hid (bThen HB.out hbN)
      replace HGz := Lib.hid (HGz.out.at (hbN.block _ HGz.out.lt))
      go_simp
      refine hK.out _ _ (hS hK2 hbN) (fun hK3 => ?_)
      clear hK K hK2 hbN
      (try simp only [Act.put, List.setIfInBounds_toArray, List.set_cons_zero, List.set_cons_succ])
      refine Kept.one 5 (by kernel_rfl) rfl (fun K hK => ?_)
      go_simp
      go_at_call 40
      refine (specAnd_at n (notI a) (notI b) _ _ (rdUp good_Net HD.out HB.out) hq12 HIN.out ha12 ho12 (notI_fit fa) (notI_fit fb) HA.out).mono ?_
      rintro e wq2_9_4_5 ⟨v1, vA, v3, rows, bs, rfl, hnet, hbN⟩
      have HNB := Lib.hid (show ∀ b ∈ blkL v1 ++ (bs ++ (blkL vA ++ blkL v3)), wq2_9_4.heap.size ≤ b ∧ b < wq2_9_4_5.heap.size from fun b hb => ⟨(hnet.lt hb).2, (hnet.lt hb).1⟩)
      have HN := Lib.hid (hnet.lower (B' := w.heap.size + 2) (by omega))
      obtain ⟨A1, c1, rfl⟩ := HN.out.s.cap fV3_len
      obtain ⟨A2, c2, rfl⟩ := HN.out.a.cap fAnd_len
      obtain ⟨A3, c3, rfl⟩ := HN.out.o.cap fInt_len
      clear hnet
      have hszwq2_9_4_5 : wq2_9_4.heap.size ≤ wq2_9_4_5.heap.size := hbN.size
      replace HR := Lib.hid (HR.out.at (hbN.block _ HR.out.lt))
      replace HB := Lib.hid (bThen HB.out hbN)
      replace HGz := Lib.hid (HGz.out.at (hbN.block _ HGz.out.lt))
      go_simp
      refine hK.out _ _ (hS hK3 hbN) (fun hK4 => ?_)
      clear hK K hK3 hbN
      (try simp only [Act.put, List.setIfInBounds_toArray, List.set_cons_zero, List.set_cons_succ])
      refine Kept.take (v := ?vt2_9_4_5n6) 6 (by kernel_rfl) rfl (by kernel_rfl) (fun _ _ _ h => h) (Or.inl ⟨by rfl, ?hyt2_9_4_5n6⟩) hK4 ?restt2_9_4_5n6
      case hyt2_9_4_5n6 =>
        intro w0 hSw
        (try dsimp only at hSw)
        go_simp
        all_goals (with_reducible rfl)
      (try simp only [Act.put, List.setIfInBounds_toArray, List.set_cons_zero, List.set_cons_succ])
      refine Kept.take (v := ?vt2_9_4_5n7) 7 (by kernel_rfl) rfl (by kernel_rfl) (fun _ _ _ h => h) (Or.inl ⟨by rfl, ?hyt2_9_4_5n7⟩) hK4 ?restt2_9_4_5n7
      case hyt2_9_4_5n7 =>
        intro w0 hSw
        (try dsimp only at hSw)
        go_simp
        all_goals (with_reducible rfl)
      (try simp only [Act.put, List.setIfInBounds_toArray, List.set_cons_zero, List.set_cons_succ])
      refine Kept.take (v := ?vt2_9_4_5n8) 8 (by kernel_rfl) rfl (by kernel_rfl) (fun _ _ _ h => h) (Or.inl ⟨by rfl, ?hyt2_9_4_5n8⟩) hK4 ?restt2_9_4_5n8
      case hyt2_9_4_5n8 =>
        intro w0 hSw
        (try dsimp only at hSw)
        go_simp
        all_goals (with_reducible rfl)
      (try simp only [Act.put, List.setIfInBounds_toArray, List.set_cons_zero, List.set_cons_succ])
      have HOFF := Lib.hid (show ∀ b ∈ blkL (.slice A1 m1.2.1.length c1) ++ (bs ++ (blkL (.slice A2 m1.2.2.1.length c2) ++ blkL (.slice A3 m1.2.2.2.length c3))), b ≠ G from fun b hb => by have h1 := HNB.out b hb; have := HGz.out.lt; omega)
      have HC := Lib.hid (CopyAt.stored HGz.out HR.out HN.out HOFF.out HB.out (Nat.le_succ _) (by omega) (by omega))
      have k0 := HGz.out.cells.1.1
      have k1 := HGz.out.cells.1.2.1
      have k2 := HGz.out.cells.1.2.2.1
      have k3 := HGz.out.cells.1.2.2.2
      have kz := HGz.out.cells.2
      have hEG : w.heap.size ≠ G := by omega
      refine Kept.one 10 (by kernel_rfl) rfl (fun K hK => ?_)
      go_simp
      refine hK.out _ _ (⟨(World.cell?_of_block (far4 hEG)).trans hK4.1, (World.cell?_of_block (far4 hEG)).trans hK4.2.1, (World.cell?_of_block (far4 hEG)).trans hK4.2.2.1, (World.cell?_of_block (far4 hEG)).trans hK4.2.2.2⟩) (fun hK5 => ?_)
      clear hK K hK4 k0 k1 k2 k3 kz
      (try simp only [Act.put, List.setIfInBounds_toArray, List.set_cons_zero, List.set_cons_succ])
      refine Kept.tail (by rfl) (by kernel_rfl) ?_
      simp only [List.drop_succ_cons, List.drop_zero]
      obtain ⟨W9, hW9⟩ : ∃ x, x = ((((wq2_9_4_5.setCell ⟨G, 0, none⟩ (.int .i64 m1.1)).setCell ⟨G, 1, none⟩ (.slice A1 m1.2.1.length c1)).setCell ⟨G, 2, none⟩ (.slice A2 m1.2.2.1.length c2)).setCell ⟨G, 3, none⟩ (.slice A3 m1.2.2.2.length c3)) := ⟨_, rfl⟩
      rw [← hW9] at HC hK5 ⊢
      have d0 := hK5.1
      have d1 := hK5.2.1
      have d2 := hK5.2.2.1
      have d3 := hK5.2.2.2
      clear hW9 hK5 HGz HN HR HB
      have HB := Lib.hid HC.out.chg
      go_wp2
      refine NoPanic.normal ?_
      by_cases hx : x1 < 0
      · have hE := Prod.mk.inj ((orO_neg HA.out hx).symm.trans HX.out)
        obtain ⟨hE1, hE2⟩ := hE
        subst hE1 hE2
        go_wp2_with fail
        refine (specCopy_at n _ _ (rdUp good_Net HD.out HB.out) hq12 HIN.out ha12 ho12).mono ?_
        rintro e w5 ⟨u1, uA, u3, rows2, bs2, rfl, hnet, hb⟩
        have HBF := Lib.hid (HC.out.res.at (hb.block _ HC.out.res.lt))
        have hws := HB.out.size
        have hcs := HC.out.hG
        have hcg := HC.out.box.lt
        have HB5 := Lib.hid (bThen HB.out hb)
        obtain ⟨B1, e1, rfl⟩ := hnet.s.cap fV3_len
        obtain ⟨B2, e2, rfl⟩ := hnet.a.cap fAnd_len
        obtain ⟨B3, e3, rfl⟩ := hnet.o.cap fInt_len
        have HNN := Lib.hid hnet
        have f0 := HBF.out.cells.1.1
        have f1 := HBF.out.cells.1.2.1
        have f2 := HBF.out.cells.1.2.2.1
        have f3 := HBF.out.cells.1.2.2.2
        have fz := HBF.out.cells.2
        clear hnet hb
        go_wp2
        ((try simp only [Exit.inBlock, Exit.then]); refine bodyPost_ret (v := (.tuple #[.agg #[.int .i64 n.1, .slice B1 n.2.1.length e1, .slice B2 n.2.2.1.length e2, .slice B3 n.2.2.2.length e3], .int .i64 (-1)])) (by rw [results_cell_tmp rfl]; go_simp) rfl ?_)
        exact ⟨_, _, _, rows2, bs2, rfl, (HNN.out.at fun b h1 h2 h3 => far4 (by omega)).lower (by omega), bSet (bSet (bSet (bSet HB5.out (Nat.le_succ _) _) (Nat.le_succ _) _) (Nat.le_succ _) _) (Nat.le_succ _) _⟩
      · have hE := Prod.mk.inj ((orO_pos HA.out hx).symm.trans HX.out)
        obtain ⟨hE1, hE2⟩ := hE
        subst hE1 hE2
        have hxb : bits .xor .i64 x1 1 = notI x1 := by
          have h2 := HXS.out
          obtain ⟨z, rfl⟩ : ∃ z : Nat, x1 = (z : Int) := ⟨x1.toNat, by omega⟩
          exact not_bits z (by omega)
        have g0 := HC.out.box.cells.1.1
        have g1 := HC.out.box.cells.1.2.1
        have g2 := HC.out.box.cells.1.2.2.1
        have g3 := HC.out.box.cells.1.2.2.2
        have f0 := HC.out.res.cells.1.1
        have f1 := HC.out.res.cells.1.2.1
        have f2 := HC.out.res.cells.1.2.2.1
        have f3 := HC.out.res.cells.1.2.2.2
        have fz := HC.out.res.cells.2
        go_wp2
        ((try simp only [Exit.inBlock, Exit.then]); refine bodyPost_ret (v := (.tuple #[.agg #[.int .i64 m1.1, .slice A1 m1.2.1.length c1, .slice A2 m1.2.2.1.length c2, .slice A3 m1.2.2.2.length c3], .int .i64 (notI x1)])) (by rw [results_cell_tmp rfl]; go_simp) rfl ?_)
        first | exact ⟨_, _, _, rows, bs, rfl, (HC.out.done _ _ _ _).1, (HC.out.done _ _ _ _).2⟩ | exact ⟨_, _, _, rfl, rows, bs, (HC.out.done _ _ _ _).1, (HC.out.done _ _ _ _).2⟩ | exact ⟨_, _, _, rfl, ⟨rows, bs, (HC.out.done _ _ _ _).1⟩, (HC.out.done _ _ _ _).2⟩
  · have ho' := Option.some.inj ho
    subst ho'
    go_simp
    obtain ⟨wq9, hw2⟩ : ∃ x, x = (Wd.alloc (.cells #[.int .i64 0, .slice none 0 0, .slice none 0 0, .slice none 0 0] 28)) := ⟨_, rfl⟩
    rw [← hw2]
    have hbN : Below Wd.heap.size Wd wq9 := by rw [hw2]; exact bAlloc (Below.refl _ _) (Nat.le_refl _) _
    have HGz0 := Lib.hid (show BoxN wq9 Wd.heap.size (.int .i64 0) vNil vNil vNil by rw [hw2]; exact heap_alloc_new _ _)
    have hltwq9 : Wd.heap.size + 1 ≤ wq9.heap.size := by rw [hw2]; simp
    obtain ⟨G, hG⟩ : ∃ G, G = Wd.heap.size := ⟨_, rfl⟩
    rw [← hG] at HGz0 ⊢
    have HGz := HGz0
    have hG1 := Nat.le_of_eq hG
    have hG2 := Nat.le_of_eq hG.symm
    clear HGz0 hw2 hG
    have hszwq9 : Wd.heap.size ≤ wq9.heap.size := hbN.size
    replace HR := Lib.hid (HR.out.at (hbN.block _ HR.out.lt))
    replace HB := Lib.hid (bThen HB.out hbN)
    refine hK.out _ _ (hS hK0 hbN) (fun hK1 => ?_)
    clear hK K hK0 hbN
    (try simp only [Act.put, List.setIfInBounds_toArray, List.set_cons_zero, List.set_cons_succ])
    refine Kept.one 2 (by kernel_rfl) rfl (fun K hK => ?_)
    go_simp
    go_at_call 118
    refine (specNot_at a _ fa rfl).mono ?_
    rintro e wq9_2 ⟨rfl, hbN⟩
    have hszwq9_2 : wq9.heap.size ≤ wq9_2.heap.size := hbN.size
    replace HR := Lib.hid (HR.out.at (hbN.block _ HR.out.lt))
    replace HB := Lib.hid (bThen HB.out hbN)
    replace HGz := Lib.hid (HGz.out.at (hbN.block _ HGz.out.lt))
    go_simp
    refine hK.out _ _ (hS hK1 hbN) (fun hK2 => ?_)
    clear hK K hK1 hbN
    (try simp only [Act.put, List.setIfInBounds_toArray, List.set_cons_zero, List.set_cons_succ])
    refine Kept.one 4 (by kernel_rfl) rfl (fun K hK => ?_)
    go_simp
    go_at_call 118
    refine (specNot_at b _ fb rfl).mono ?_
    rintro e wq9_2_4 ⟨rfl, hbN⟩
    have hszwq9_2_4 : wq9_2.heap.size ≤ wq9_2_4.heap.size := hbN.size
    replace HR := Lib.hid (HR.out.at (hbN.block _ HR.out.lt))
    replace HB := Lib.hid (bThen HB.out hbN)
    replace HGz := Lib.hid (HGz.out.at (hbN.block _ HGz.out.lt))
    go_simp
    refine hK.out _ _ (hS hK2 hbN) (fun hK3 => ?_)
    clear hK K hK2 hbN
    (try simp only [Act.put, List.setIfInBounds_toArray, List.set_cons_zero, List.set_cons_succ])
    refine Kept.one 5 (by kernel_rfl) rfl (fun K hK => ?_)
    go_simp
    go_at_call 40
    refine (specAnd_at n (notI a) (notI b) _ _ (rdUp good_Net HD.out HB.out) hq12 HIN.out ha12 ho12 (notI_fit fa) (notI_fit fb) HA.out).mono ?_
    rintro e wq9_2_4_5 ⟨v1, vA, v3, rows, bs, rfl, hnet, hbN⟩
    have HNB := Lib.hid (show ∀ b ∈ blkL v1 ++ (bs ++ (blkL vA ++ blkL v3)), wq9_2_4.heap.size ≤ b ∧ b < wq9_2_4_5.heap.size from fun b hb => ⟨(hnet.lt hb).2, (hnet.lt hb).1⟩)
    have HN := Lib.hid (hnet.lower (B' := w.heap.size + 2) (by omega))
    obtain ⟨A1, c1, rfl⟩ := HN.out.s.cap fV3_len
    obtain ⟨A2, c2, rfl⟩ := HN.out.a.cap fAnd_len
    obtain ⟨A3, c3, rfl⟩ := HN.out.o.cap fInt_len
    clear hnet
    have hszwq9_2_4_5 : wq9_2_4.heap.size ≤ wq9_2_4_5.heap.size := hbN.size
    replace HR := Lib.hid (HR.out.at (hbN.block _ HR.out.lt))
    replace HB := Lib.hid (bThen HB.out hbN)
    replace HGz := Lib.hid (HGz.out.at (hbN.block _ HGz.out.lt))
    go_simp
    refine hK.out _ _ (hS hK3 hbN) (fun hK4 => ?_)
    clear hK K hK3 hbN
    (try simp only [Act.put, List.setIfInBounds_toArray, List.set_cons_zero, List.set_cons_succ])
    refine Kept.take (v := ?vt9_2_4_5n6) 6 (by kernel_rfl) rfl (by kernel_rfl) (fun _ _ _ h => h) (Or.inl ⟨by rfl, ?hyt9_2_4_5n6⟩) hK4 ?restt9_2_4_5n6
    case hyt9_2_4_5n6 =>
      intro w0 hSw
      (try dsimp only at hSw)
      go_simp
      all_goals (with_reducible rfl)
    (try simp only [Act.put, List.setIfInBounds_toArray, List.set_cons_zero, List.set_cons_succ])
    refine Kept.take (v := ?vt9_2_4_5n7) 7 (by kernel_rfl) rfl (by kernel_rfl) (fun _ _ _ h => h) (Or.inl ⟨by rfl, ?hyt9_2_4_5n7⟩) hK4 ?restt9_2_4_5n7
    case hyt9_2_4_5n7 =>
      intro w0 hSw
      (try dsimp only at hSw)
      go_simp
      all_goals (with_reducible rfl)
    (try simp only [Act.put, List.setIfInBounds_toArray, List.set_cons_zero, List.set_cons_succ])
    refine Kept.take (v := ?vt9_2_4_5n8) 8 (by kernel_rfl) rfl (by kernel_rfl) (fun _ _ _ h => h) (Or.inl ⟨by rfl, ?hyt9_2_4_5n8⟩) hK4 ?restt9_2_4_5n8
    case hyt9_2_4_5n8 =>
      intro w0 hSw
      (try dsimp only at hSw)
      go_simp
      all_goals (with_reducible rfl)
    (try simp only [Act.put, List.setIfInBounds_toArray, List.set_cons_zero, List.set_cons_succ])
    have HOFF := Lib.hid (show ∀ b ∈ blkL (.slice A1 m1.2.1.length c1) ++ (bs ++ (blkL (.slice A2 m1.2.2.1.length c2) ++ blkL (.slice A3 m1.2.2.2.length c3))), b ≠ G from fun b hb => by have h1 := HNB.out b hb; have := HGz.out.lt; omega)
    have HC := Lib.hid (CopyAt.stored HGz.out HR.out HN.out HOFF.out HB.out (Nat.le_succ _) (by omega) (by omega))
    have k0 := HGz.out.cells.1.1
    have k1 := HGz.out.cells.1.2.1
    have k2 := HGz.out.cells.1.2.2.1
    have k3 := HGz.out.cells.1.2.2.2
    have kz := HGz.out.cells.2
    have hEG : w.heap.size ≠ G := by omega
    refine Kept.one 10 (by kernel_rfl) rfl (fun K hK => ?_)
    go_simp
    refine hK.out _ _ (⟨(World.cell?_of_block (far4 hEG)).trans hK4.1, (World.cell?_of_block (far4 hEG)).trans hK4.2.1, (World.cell?_of_block (far4 hEG)).trans hK4.2.2.1, (World.cell?_of_block (far4 hEG)).trans hK4.2.2.2⟩) (fun hK5 => ?_)
    clear hK K hK4 k0 k1 k2 k3 kz
    (try simp only [Act.put, List.setIfInBounds_toArray, List.set_cons_zero, List.set_cons_succ])
    refine Kept.tail (by rfl) (by kernel_rfl) ?_
    simp only [List.drop_succ_cons, List.drop_zero]
    obtain ⟨W9, hW9⟩ : ∃ x, x = ((((wq9_2_4_5.setCell ⟨G, 0, none⟩ (.int .i64 m1.1)).setCell ⟨G, 1, none⟩ (.slice A1 m1.2.1.length c1)).setCell ⟨G, 2, none⟩ (.slice A2 m1.2.2.1.length c2)).setCell ⟨G, 3, none⟩ (.slice A3 m1.2.2.2.length c3)) := ⟨_, rfl⟩
    rw [← hW9] at HC hK5 ⊢
    have d0 := hK5.1
    have d1 := hK5.2.1
    have d2 := hK5.2.2.1
    have d3 := hK5.2.2.2
    clear hW9 hK5 HGz HN HR HB
    have HB := Lib.hid HC.out.chg
    go_wp2
    refine NoPanic.normal ?_
    by_cases hx : x1 < 0
    · have hE := Prod.mk.inj ((orO_neg HA.out hx).symm.trans HX.out)
      obtain ⟨hE1, hE2⟩ := hE
      subst hE1 hE2
      go_wp2_with fail
      refine (specCopy_at n _ _ (rdUp good_Net HD.out HB.out) hq12 HIN.out ha12 ho12).mono ?_
      rintro e w5 ⟨u1, uA, u3, rows2, bs2, rfl, hnet, hb⟩
      have HBF := Lib.hid (HC.out.res.at (hb.block _ HC.out.res.lt))
      have hws := HB.out.size
      have hcs := HC.out.hG
      have hcg := HC.out.box.lt
      have HB5 := Lib.hid (bThen HB.out hb)
      obtain ⟨B1, e1, rfl⟩ := hnet.s.cap fV3_len
      obtain ⟨B2, e2, rfl⟩ := hnet.a.cap fAnd_len
      obtain ⟨B3, e3, rfl⟩ := hnet.o.cap fInt_len
      have HNN := Lib.hid hnet
      have f0 := HBF.out.cells.1.1
      have f1 := HBF.out.cells.1.2.1
      have f2 := HBF.out.cells.1.2.2.1
      have f3 := HBF.out.cells.1.2.2.2
      have fz := HBF.out.cells.2
      clear hnet hb
      go_wp2
      ((try simp only [Exit.inBlock, Exit.then]); refine bodyPost_ret (v := (.tuple #[.agg #[.int .i64 n.1, .slice B1 n.2.1.length e1, .slice B2 n.2.2.1.length e2, .slice B3 n.2.2.2.length e3], .int .i64 (-1)])) (by rw [results_cell_tmp rfl]; go_simp) rfl ?_)
      exact ⟨_, _, _, rows2, bs2, rfl, (HNN.out.at fun b h1 h2 h3 => far4 (by omega)).lower (by omega), bSet (bSet (bSet (bSet HB5.out (Nat.le_succ _) _) (Nat.le_succ _) _) (Nat.le_succ _) _) (Nat.le_succ _) _⟩
    · have hE := Prod.mk.inj ((orO_pos HA.out hx).symm.trans HX.out)
      obtain ⟨hE1, hE2⟩ := hE
      subst hE1 hE2
      have hxb : bits .xor .i64 x1 1 = notI x1 := by
        have h2 := HXS.out
        obtain ⟨z, rfl⟩ : ∃ z : Nat, x1 = (z : Int) := ⟨x1.toNat, by omega⟩
        exact not_bits z (by omega)
      have g0 := HC.out.box.cells.1.1
      have g1 := HC.out.box.cells.1.2.1
      have g2 := HC.out.box.cells.1.2.2.1
      have g3 := HC.out.box.cells.1.2.2.2
      have f0 := HC.out.res.cells.1.1
      have f1 := HC.out.res.cells.1.2.1
      have f2 := HC.out.res.cells.1.2.2.1
      have f3 := HC.out.res.cells.1.2.2.2
      have fz := HC.out.res.cells.2
      go_wp2
      ((try simp only [Exit.inBlock, Exit.then]); refine bodyPost_ret (v := (.tuple #[.agg #[.int .i64 m1.1, .slice A1 m1.2.1.length c1, .slice A2 m1.2.2.1.length c2, .slice A3 m1.2.2.2.length c3], .int .i64 (notI x1)])) (by rw [results_cell_tmp rfl]; go_simp) rfl ?_)
      first | exact ⟨_, _, _, rows, bs, rfl, (HC.out.done _ _ _ _).1, (HC.out.done _ _ _ _).2⟩ | exact ⟨_, _, _, rfl, rows, bs, (HC.out.done _ _ _ _).1, (HC.out.done _ _ _ _).2⟩ | exact ⟨_, _, _, rfl, ⟨rows, bs, (HC.out.done _ _ _ _).1⟩, (HC.out.done _ _ _ _).2⟩
end Go.Proofs.Ytfncjgmmiihibaa
/- Hc5: l10Join: the specification. -/
namespace Go.Proofs.Ytfncjgmmiihibaa
open Go.RowKit
set_option linter.unusedVariables false
set_option linter.unusedSimpArgs false

theorem join_neg {n r m : DNet} {p q x : Int} (h : orO r p q = (m, x)) (hx : x < 0) : joinO n r p q = (n, -1) := by unfold joinO; rw [h]; exact if_pos hx
theorem join_pos {n r m : DNet} {p q x : Int} (h : orO r p q = (m, x)) (hx : ¬ x < 0) : joinO n r p q = (m, x) := by unfold joinO; rw [h]; exact if_neg hx
set_option maxRecDepth 100000 in
set_option maxHeartbeats 12800000 in
theorem specJoin_at (n r : DNet) (p q : Int) (us ur : List Value) (w : World) (h : rdNet 0 w.heap.size w us n) (hr : rdNet 0 w.heap.size w ur r) (hq12 : n.2.1.length ≤ 3000000) (hin : ∀ s ∈ n.2.1, s.2.2.length ≤ 3000000) (ha12 : n.2.2.1.length ≤ 3000000) (ho12 : n.2.2.2.length ≤ 3000000) (hq13 : r.2.1.length ≤ 3000000) (hin3 : ∀ s ∈ r.2.1, s.2.2.length ≤ 3000000) (ha13 : r.2.2.1.length ≤ 3000000) (ho13 : r.2.2.2.length ≤ 3000000) (fp : Fit p) (fq : Fit q) {m : DNet} {x : Int} (hm : joinO n r p q = (m, x)) :
    Calls Try.prog 119 #[.agg us.toArray, .agg ur.toArray, .int .i64 p, .int .i64 q] w fun e w' => ∃ v1 vA v3 rows bs, e = .returned (.tuple #[.agg #[.int .i64 m.1, v1, vA, v3], .int .i64 x]) ∧ NetG w.heap.size w' v1 vA v3 rows bs m ∧ Below w.heap.size w w' := by
  have HD := Lib.hid h
  have HDR := Lib.hid hr
  have HX := Lib.hid hm
  have HIN := Lib.hid hin
  have HIN3 := Lib.hid hin3
  obtain ⟨⟨m1, x1⟩, hA⟩ : ∃ z, orO r p q = z := ⟨_, rfl⟩
  have HA := Lib.hid hA
  clear hm hin hin3 hA
  obtain ⟨mu0, mu1, mu2, mu3, rfl, mh0, mh1, mh2, mh3⟩ := h
  obtain ⟨me0, -⟩ := mh0
  injection me0 with me0
  subst me0
  obtain ⟨mA1, mc1, me1, mm1, -⟩ := slice_of mh1
  subst me1
  have mR1 := Lib.hid mh1
  clear mh1
  obtain ⟨mA2, mc2, me2, mm2, -⟩ := slice_of mh2
  subst me2
  have mR2 := Lib.hid mh2
  clear mh2
  obtain ⟨mA3, mc3, me3, mm3, -⟩ := slice_of mh3
  subst me3
  have mR3 := Lib.hid mh3
  clear mh3
  obtain ⟨ru0, ru1, ru2, ru3, rfl, rh0, rh1, rh2, rh3⟩ := hr
  obtain ⟨re0, -⟩ := rh0
  injection re0 with re0
  subst re0
  obtain ⟨rA1, rc1, re1, rm1, -⟩ := slice_of rh1
  subst re1
  have rR1 := Lib.hid rh1
  clear rh1
  obtain ⟨rA2, rc2, re2, rm2, -⟩ := slice_of rh2
  subst re2
  have rR2 := Lib.hid rh2
  clear rh2
  obtain ⟨rA3, rc3, re3, rm3, -⟩ := slice_of rh3
  subst re3
  have rR3 := Lib.hid rh3
  clear rh3
  go_enter Try.func119, Try.ntmps119
  go_wp2_with fail
  obtain ⟨W0, hV⟩ : ∃ W0, W0 = (((w.alloc (.cells #[.int .i64 n.1, .slice mA1 (n.2.1).length mc1, .slice mA2 (n.2.2.1).length mc2, .slice mA3 (n.2.2.2).length mc3] 28)).alloc (.cells #[.int .i64 r.1, .slice rA1 (r.2.1).length rc1, .slice rA2 (r.2.2.1).length rc2, .slice rA3 (r.2.2.2).length rc3] 28)).alloc (.cells #[.int .i64 0, .slice none 0 0, .slice none 0 0, .slice none 0 0] 28)) := ⟨_, rfl⟩
  rw [← hV]
  have gN := eqbox3 hV
  have d0 : W0.cell? ⟨w.heap.size, 0, none⟩ = some (.int .i64 n.1) := box_cell gN.1 0 _ rfl
  have d1 : W0.cell? ⟨w.heap.size, 1, none⟩ = some (.slice mA1 (n.2.1).length mc1) := box_cell gN.1 1 _ rfl
  have d2 : W0.cell? ⟨w.heap.size, 2, none⟩ = some (.slice mA2 (n.2.2.1).length mc2) := box_cell gN.1 2 _ rfl
  have d3 : W0.cell? ⟨w.heap.size, 3, none⟩ = some (.slice mA3 (n.2.2.2).length mc3) := box_cell gN.1 3 _ rfl
  have c0 : W0.cell? ⟨w.heap.size + 1, 0, none⟩ = some (.int .i64 r.1) := box_cell gN.2.1 0 _ rfl
  have c1 : W0.cell? ⟨w.heap.size + 1, 1, none⟩ = some (.slice rA1 (r.2.1).length rc1) := box_cell gN.2.1 1 _ rfl
  have c2 : W0.cell? ⟨w.heap.size + 1, 2, none⟩ = some (.slice rA2 (r.2.2.1).length rc2) := box_cell gN.2.1 2 _ rfl
  have c3 : W0.cell? ⟨w.heap.size + 1, 3, none⟩ = some (.slice rA3 (r.2.2.2).length rc3) := box_cell gN.2.1 3 _ rfl
  have z0 : W0.cell? ⟨w.heap.size + 1 + 1, 0, none⟩ = some (.int .i64 0) := box_cell gN.2.2.1 0 _ rfl
  have z1 : W0.cell? ⟨w.heap.size + 1 + 1, 1, none⟩ = some (.slice none 0 0) := box_cell gN.2.2.1 1 _ rfl
  have z2 : W0.cell? ⟨w.heap.size + 1 + 1, 2, none⟩ = some (.slice none 0 0) := box_cell gN.2.2.1 2 _ rfl
  have z3 : W0.cell? ⟨w.heap.size + 1 + 1, 3, none⟩ = some (.slice none 0 0) := box_cell gN.2.2.1 3 _ rfl
  have sW0 : W0.heap.size = w.heap.size + 3 := by rw [hV]; simp
  have HW0 := Lib.hid gN.2.2.2
  have HR := Lib.hid (show BoxN W0 (w.heap.size + 1 + 1) (.int .i64 0) vNil vNil vNil from gN.2.2.1)
  obtain ⟨Wn, hWn⟩ : ∃ Wn, Wn = w.alloc (.cells #[.int .i64 n.1, .slice mA1 (n.2.1).length mc1, .slice mA2 (n.2.2.1).length mc2, .slice mA3 (n.2.2.2).length mc3] 28) := ⟨_, rfl⟩
  have HBn := Lib.hid (show Below Wn.heap.size Wn W0 by rw [hV, ← hWn]; exact bAlloc (bAlloc (Below.refl _ _) (Nat.le_refl _) _) (by simp) _)
  have sn : Wn.heap.size = w.heap.size + 1 := by rw [hWn]; simp
  have sn1 := Nat.le_of_eq sn
  have sn2 := Nat.le_of_eq sn.symm
  clear hWn sn
  clear hV gN z0 z1 z2 z3
  have HB := Lib.hid HW0.out
  refine (specOr_at r p q _ _ (rdUp good_Net HDR.out HB.out) hq13 HIN3.out ha13 ho13 fp fq HA.out).mono ?_
  rintro e w1 ⟨v1, vA, v3, rows, bs, rfl, hnet, hb⟩
  have HN := Lib.hid (hnet.lower (B' := Wn.heap.size + 2) (by omega))
  obtain ⟨A1, b1, rfl⟩ := hnet.s.cap fV3_len
  obtain ⟨A2, b2, rfl⟩ := hnet.a.cap fAnd_len
  obtain ⟨A3, b3, rfl⟩ := hnet.o.cap fInt_len
  replace d0 := keep hb d0
  replace d1 := keep hb d1
  replace d2 := keep hb d2
  replace d3 := keep hb d3
  replace HR := Lib.hid (HR.out.at (hb.block _ HR.out.lt))
  replace HB := Lib.hid (bThen HB.out hb)
  replace HBn := Lib.hid (bThen HBn.out hb)
  have s1 := hb.size
  obtain ⟨W2, hW2⟩ : ∃ W2, W2 = w1.alloc (.cells #[.int .i64 m1.1, .slice A1 m1.2.1.length b1, .slice A2 m1.2.2.1.length b2, .slice A3 m1.2.2.2.length b3] 28) := ⟨_, rfl⟩
  have HC := Lib.hid (CopyAt.init (w0 := Wn) (F := w.heap.size + 1 + 1) hW2 HR.out HN.out HBn.out (by omega) (by omega) (by omega))
  have hbb : Below w1.heap.size w1 W2 := by rw [hW2]; exact bAlloc (Below.refl _ _) (Nat.le_refl _) _
  replace d0 := keep hbb d0
  replace d1 := keep hbb d1
  replace d2 := keep hbb d2
  replace d3 := keep hbb d3
  replace HB := Lib.hid (bThen HB.out hbb)
  have y0 : (w1.alloc (.cells #[.int .i64 0, .slice none 0 0, .slice none 0 0, .slice none 0 0] 28)).cell? ⟨w1.heap.size, 0, none⟩ = some (.int .i64 0) := box_cell (heap_alloc_new w1 (.cells #[.int .i64 0, .slice none 0 0, .slice none 0 0, .slice none 0 0] 28)) 0 _ rfl
  have z0 : (w1.alloc (.cells #[.int .i64 0, .slice none 0 0, .slice none 0 0, .slice none 0 0] 28)).frozen? ⟨w1.heap.size, 0, none⟩ = false := frozen_of_row _ _ 0 _ _ (heap_alloc_new w1 (.cells #[.int .i64 0, .slice none 0 0, .slice none 0 0, .slice none 0 0] 28))
  have y1 : (w1.alloc (.cells #[.int .i64 m1.1, .slice none 0 0, .slice none 0 0, .slice none 0 0] 28)).cell? ⟨w1.heap.size, 1, none⟩ = some (.slice none 0 0) := box_cell (heap_alloc_new w1 (.cells #[.int .i64 m1.1, .slice none 0 0, .slice none 0 0, .slice none 0 0] 28)) 1 _ rfl
  have z1 : (w1.alloc (.cells #[.int .i64 m1.1, .slice none 0 0, .slice none 0 0, .slice none 0 0] 28)).frozen? ⟨w1.heap.size, 1, none⟩ = false := frozen_of_row _ _ 1 _ _ (heap_alloc_new w1 (.cells #[.int .i64 m1.1, .slice none 0 0, .slice none 0 0, .slice none 0 0] 28))
  have y2 : (w1.alloc (.cells #[.int .i64 m1.1, .slice A1 m1.2.1.length b1, .slice none 0 0, .slice none 0 0] 28)).cell? ⟨w1.heap.size, 2, none⟩ = some (.slice none 0 0) := box_cell (heap_alloc_new w1 (.cells #[.int .i64 m1.1, .slice A1 m1.2.1.length b1, .slice none 0 0, .slice none 0 0] 28)) 2 _ rfl
  have z2 : (w1.alloc (.cells #[.int .i64 m1.1, .slice A1 m1.2.1.length b1, .slice none 0 0, .slice none 0 0] 28)).frozen? ⟨w1.heap.size, 2, none⟩ = false := frozen_of_row _ _ 2 _ _ (heap_alloc_new w1 (.cells #[.int .i64 m1.1, .slice A1 m1.2.1.length b1, .slice none 0 0, .slice none 0 0] 28))
  have y3 : (w1.alloc (.cells #[.int .i64 m1.1, .slice A1 m1.2.1.length b1, .slice A2 m1.2.2.1.length b2, .slice none 0 0] 28)).cell? ⟨w1.heap.size, 3, none⟩ = some (.slice none 0 0) := box_cell (heap_alloc_new w1 (.cells #[.int .i64 m1.1, .slice A1 m1.2.1.length b1, .slice A2 m1.2.2.1.length b2, .slice none 0 0] 28)) 3 _ rfl
  have z3 : (w1.alloc (.cells #[.int .i64 m1.1, .slice A1 m1.2.1.length b1, .slice A2 m1.2.2.1.length b2, .slice none 0 0] 28)).frozen? ⟨w1.heap.size, 3, none⟩ = false := frozen_of_row _ _ 3 _ _ (heap_alloc_new w1 (.cells #[.int .i64 m1.1, .slice A1 m1.2.1.length b1, .slice A2 m1.2.2.1.length b2, .slice none 0 0] 28))
  have e0 := d0
  have e1 := d1
  have e2 := d2
  have e3 := d3
  rw [hW2] at e0 e1 e2 e3
  have HCW := Lib.hid (show CopyAt Wn (w1.alloc (.cells #[.int .i64 m1.1, .slice A1 m1.2.1.length b1, .slice A2 m1.2.2.1.length b2, .slice A3 m1.2.2.2.length b3] 28)) (w.heap.size + 1 + 1) w1.heap.size _ _ _ rows bs m1 by rw [← hW2]; exact HC.out)
  have hbw : Below w.heap.size w (w1.alloc (.cells #[.int .i64 m1.1, .slice A1 m1.2.1.length b1, .slice A2 m1.2.2.1.length b2, .slice A3 m1.2.2.2.length b3] 28)) := by rw [← hW2]; exact HB.out
  have HBW := Lib.hid hbw
  clear hb hbb hnet HR HBn HN hW2 hbw
  have hle2 : w.heap.size ≤ w.heap.size + 1 + 1 := by omega
  by_cases hx : x1 < 0
  · have hE := Prod.mk.inj ((join_neg HA.out hx).symm.trans HX.out)
    obtain ⟨hE1, hE2⟩ := hE
    subst hE1 hE2
    go_wp2_with fail
    refine (specCopy_at n _ _ (rdUp good_Net HD.out HBW.out) hq12 HIN.out ha12 ho12).mono ?_
    rintro e w5 ⟨u1, uA, u3, rows2, bs2, rfl, hnet, hb⟩
    have HBF := Lib.hid (HCW.out.res.at (hb.block _ HCW.out.res.lt))
    have hws := HBW.out.size
    have hcs := HCW.out.hG
    have hcg := HCW.out.box.lt
    have HB5 := Lib.hid (bThen HBW.out hb)
    obtain ⟨B1, e1, rfl⟩ := hnet.s.cap fV3_len
    obtain ⟨B2, e2, rfl⟩ := hnet.a.cap fAnd_len
    obtain ⟨B3, e3, rfl⟩ := hnet.o.cap fInt_len
    have HNN := Lib.hid hnet
    have f0 := HBF.out.cells.1.1
    have f1 := HBF.out.cells.1.2.1
    have f2 := HBF.out.cells.1.2.2.1
    have f3 := HBF.out.cells.1.2.2.2
    have fz := HBF.out.cells.2
    clear hnet hb
    go_wp2
    ((try simp only [Exit.inBlock, Exit.then]); refine bodyPost_ret (v := (.tuple #[.agg #[.int .i64 n.1, .slice B1 n.2.1.length e1, .slice B2 n.2.2.1.length e2, .slice B3 n.2.2.2.length e3], .int .i64 (-1)])) (by rw [results_cell_tmp rfl]; go_simp) rfl ?_)
    exact ⟨_, _, _, rows2, bs2, rfl, (HNN.out.at fun b h1 h2 h3 => far4 (by omega)).lower (by omega), bSet (bSet (bSet (bSet HB5.out hle2 _) hle2 _) hle2 _) hle2 _⟩
  · have hE := Prod.mk.inj ((join_pos HA.out hx).symm.trans HX.out)
    obtain ⟨hE1, hE2⟩ := hE
    subst hE1 hE2
    have g0 := HCW.out.box.cells.1.1
    have g1 := HCW.out.box.cells.1.2.1
    have g2 := HCW.out.box.cells.1.2.2.1
    have g3 := HCW.out.box.cells.1.2.2.2
    have f0 := HCW.out.res.cells.1.1
    have f1 := HCW.out.res.cells.1.2.1
    have f2 := HCW.out.res.cells.1.2.2.1
    have f3 := HCW.out.res.cells.1.2.2.2
    have fz := HCW.out.res.cells.2
    go_wp2
    ((try simp only [Exit.inBlock, Exit.then]); refine bodyPost_ret (v := (.tuple #[.agg #[.int .i64 m1.1, .slice A1 m1.2.1.length b1, .slice A2 m1.2.2.1.length b2, .slice A3 m1.2.2.2.length b3], .int .i64 x1])) (by rw [results_cell_tmp rfl]; go_simp) rfl ?_)
    exact ⟨_, _, _, rows, bs, rfl, (HCW.out.done _ _ _ _).1.lower (by omega), bSet (bSet (bSet (bSet HBW.out hle2 _) hle2 _) hle2 _) hle2 _⟩
end Go.Proofs.Ytfncjgmmiihibaa
/- Hc6: AddXor: the specification. -/
namespace Go.Proofs.Ytfncjgmmiihibaa
open Go.RowKit
set_option linter.unusedVariables false
set_option linter.unusedSimpArgs false

theorem xorO_eq {n r m : DNet} {a b x y : Int} (h : andO n a (notI b) = (r, x)) (h2 : andO r (notI a) b = (m, y)) : xorO n a b = joinO n m x y := by unfold xorO; rw [h]; dsimp only; rw [h2]
set_option maxRecDepth 100000 in
set_option maxHeartbeats 25600000 in
theorem specXor_at (n : DNet) (a b : Int) (us : List Value) (w : World) (h : rdNet 0 w.heap.size w us n) (hq12 : n.2.1.length ≤ 3000000) (hin : ∀ s ∈ n.2.1, s.2.2.length ≤ 3000000) (ha12 : n.2.2.1.length ≤ 2000000) (ho12 : n.2.2.2.length ≤ 3000000) (fa : Fit a) (fb : Fit b) {m : DNet} {x : Int} (hm : xorO n a b = (m, x)) :
    Calls Try.prog 46 #[.agg us.toArray, .int .i64 a, .int .i64 b] w fun e w' => ∃ v1 vA v3 rows bs, e = .returned (.tuple #[.agg #[.int .i64 m.1, v1, vA, v3], .int .i64 x]) ∧ NetG w.heap.size w' v1 vA v3 rows bs m ∧ Below w.heap.size w w' := by
  have HD := Lib.hid h
  have HX := Lib.hid hm
  have HIN := Lib.hid hin
  obtain ⟨⟨m1, x1⟩, hA⟩ : ∃ r, andO n a (notI b) = r := ⟨_, rfl⟩
  obtain ⟨⟨m2, x2⟩, hA2⟩ : ∃ r, andO m1 (notI a) b = r := ⟨_, rfl⟩
  have HA := Lib.hid hA
  have HA2 := Lib.hid hA2
  have HXS := Lib.hid (show Fit x1 by have := andO_small (n := n) (a := a) (b := notI b); rw [hA] at this; dsimp only at this; unfold Fit; omega)
  have HXS2 := Lib.hid (show Fit x2 by have := andO_small (n := m1) (a := notI a) (b := b); rw [hA2] at this; dsimp only at this; unfold Fit; omega)
  have HP1 := andO_parts (n := n) (a := a) (b := notI b)
  have HP2 := andO_parts (n := m1) (a := notI a) (b := b)
  rw [hA] at HP1
  rw [hA2] at HP2
  dsimp only at HP1 HP2
  have HJ := Lib.hid ((xorO_eq hA hA2).symm.trans hm)
  have l1 : m1.2.1.length ≤ 3000000 := by rw [HP1.2.1]; exact hq12
  have l2 : m1.2.2.1.length ≤ 2000001 := by have := HP1.2.2.2; omega
  have l3 : m1.2.2.2.length ≤ 3000000 := by rw [HP1.2.2.1]; exact ho12
  have l4 : m2.2.1.length ≤ 3000000 := by rw [HP2.2.1]; exact l1
  have l5 : m2.2.2.1.length ≤ 2000002 := by have := HP2.2.2.2; omega
  have l6 : m2.2.2.2.length ≤ 3000000 := by rw [HP2.2.2.1]; exact l3
  have HIN1 := Lib.hid (show ∀ s ∈ m1.2.1, s.2.2.length ≤ 3000000 by rw [HP1.2.1]; exact hin)
  have HIN2 := Lib.hid (show ∀ s ∈ m2.2.1, s.2.2.length ≤ 3000000 by rw [HP2.2.1, HP1.2.1]; exact hin)
  clear hm hin hA hA2 HP1 HP2
  obtain ⟨mu0, mu1, mu2, mu3, rfl, mh0, mh1, mh2, mh3⟩ := h
  obtain ⟨me0, -⟩ := mh0
  injection me0 with me0
  subst me0
  obtain ⟨mA1, mc1, me1, mm1, -⟩ := slice_of mh1
  subst me1
  have mR1 := Lib.hid mh1
  clear mh1
  obtain ⟨mA2, mc2, me2, mm2, -⟩ := slice_of mh2
  subst me2
  have mR2 := Lib.hid mh2
  clear mh2
  obtain ⟨mA3, mc3, me3, mm3, -⟩ := slice_of mh3
  subst me3
  have mR3 := Lib.hid mh3
  clear mh3
  go_enter Try.func46, Try.ntmps46
  go_wp2_with fail
  obtain ⟨W0, hV⟩ : ∃ W0, W0 = ((w.alloc (.cells #[.int .i64 n.1, .slice mA1 (n.2.1).length mc1, .slice mA2 (n.2.2.1).length mc2, .slice mA3 (n.2.2.2).length mc3] 28)).alloc (.cells #[.int .i64 0, .slice none 0 0, .slice none 0 0, .slice none 0 0] 28)) := ⟨_, rfl⟩
  rw [← hV]
  have gN := eqbox2 hV
  have d0 : W0.cell? ⟨w.heap.size, 0, none⟩ = some (.int .i64 n.1) := box_cell gN.1 0 _ rfl
  have d1 : W0.cell? ⟨w.heap.size, 1, none⟩ = some (.slice mA1 (n.2.1).length mc1) := box_cell gN.1 1 _ rfl
  have d2 : W0.cell? ⟨w.heap.size, 2, none⟩ = some (.slice mA2 (n.2.2.1).length mc2) := box_cell gN.1 2 _ rfl
  have d3 : W0.cell? ⟨w.heap.size, 3, none⟩ = some (.slice mA3 (n.2.2.2).length mc3) := box_cell gN.1 3 _ rfl
  have r0 : W0.cell? ⟨w.heap.size + 1, 0, none⟩ = some (.int .i64 0) := box_cell gN.2.1 0 _ rfl
  have r1 : W0.cell? ⟨w.heap.size + 1, 1, none⟩ = some (.slice none 0 0) := box_cell gN.2.1 1 _ rfl
  have r2 : W0.cell? ⟨w.heap.size + 1, 2, none⟩ = some (.slice none 0 0) := box_cell gN.2.1 2 _ rfl
  have r3 : W0.cell? ⟨w.heap.size + 1, 3, none⟩ = some (.slice none 0 0) := box_cell gN.2.1 3 _ rfl
  have sW0 : W0.heap.size = w.heap.size + 2 := by rw [hV]; simp
  have HW0 := Lib.hid gN.2.2
  have HR0 := Lib.hid (show BoxN W0 (w.heap.size + 1) (.int .i64 0) vNil vNil vNil from gN.2.1)
  clear hV gN r0 r1 r2 r3
  have hS0 : (fun w' => w'.cell? ⟨w.heap.size, 0, none⟩ = some (.int .i64 n.1) ∧ w'.cell? ⟨w.heap.size, 1, none⟩ = some (.slice mA1 (n.2.1).length mc1) ∧ w'.cell? ⟨w.heap.size, 2, none⟩ = some (.slice mA2 (n.2.2.1).length mc2) ∧ w'.cell? ⟨w.heap.size, 3, none⟩ = some (.slice mA3 (n.2.2.2).length mc3)) W0 := ⟨d0, d1, d2, d3⟩
  have hS : ∀ {w0 w' : World}, (fun w' => w'.cell? ⟨w.heap.size, 0, none⟩ = some (.int .i64 n.1) ∧ w'.cell? ⟨w.heap.size, 1, none⟩ = some (.slice mA1 (n.2.1).length mc1) ∧ w'.cell? ⟨w.heap.size, 2, none⟩ = some (.slice mA2 (n.2.2.1).length mc2) ∧ w'.cell? ⟨w.heap.size, 3, none⟩ = some (.slice mA3 (n.2.2.2).length mc3)) w0 → Below w0.heap.size w0 w' → (fun w' => w'.cell? ⟨w.heap.size, 0, none⟩ = some (.int .i64 n.1) ∧ w'.cell? ⟨w.heap.size, 1, none⟩ = some (.slice mA1 (n.2.1).length mc1) ∧ w'.cell? ⟨w.heap.size, 2, none⟩ = some (.slice mA2 (n.2.2.1).length mc2) ∧ w'.cell? ⟨w.heap.size, 3, none⟩ = some (.slice mA3 (n.2.2.2).length mc3)) w' := fun h hb => ⟨keep hb h.1, keep hb h.2.1, keep hb h.2.2.1, keep hb h.2.2.2⟩
  dsimp only at hS0 hS
  obtain ⟨Wd, hWd⟩ : ∃ x, x = W0.drew := ⟨_, rfl⟩
  have hbd : Below W0.heap.size W0 Wd := by rw [hWd]; exact Below.drew (Below.refl _ _)
  have HR := Lib.hid (HR0.out.at (hbd.block _ HR0.out.lt))
  have HB := Lib.hid (bThen HW0.out hbd)
  have sA : w.heap.size + 2 ≤ Wd.heap.size := by have := hbd.size; omega
  clear hbd HR0 HW0 d0 d1 d2 d3 sW0
  refine wp_region_noPanic ?_
  refine wp_region_kept 10 11 (fun w' => w'.cell? ⟨w.heap.size, 0, none⟩ = some (.int .i64 n.1) ∧ w'.cell? ⟨w.heap.size, 1, none⟩ = some (.slice mA1 (n.2.1).length mc1) ∧ w'.cell? ⟨w.heap.size, 2, none⟩ = some (.slice mA2 (n.2.2.1).length mc2) ∧ w'.cell? ⟨w.heap.size, 3, none⟩ = some (.slice mA3 (n.2.2.2).length mc3)) (by kernel_rfl) rfl (hS hS0 (Below.drew (Below.refl _ _))) (fun hK0 => ?_)
  rw [← hWd] at hK0 ⊢
  clear hWd
  refine Kept.take (v := ?vr0) 0 (by kernel_rfl) rfl (by kernel_rfl) (fun _ _ _ h => h) (Or.inl ⟨by rfl, ?hyr0⟩) hK0 ?restr0
  case hyr0 =>
    intro w0 hSw
    (try dsimp only at hSw)
    go_simp
    all_goals (with_reducible rfl)
  (try simp only [Act.put, List.setIfInBounds_toArray, List.set_cons_zero, List.set_cons_succ])
  refine Kept.take (v := ?vr1) 1 (by kernel_rfl) rfl (by kernel_rfl) (fun _ _ _ h => h) (Or.inl ⟨by rfl, ?hyr1⟩) hK0 ?restr1
  case hyr1 =>
    intro w0 hSw
    (try dsimp only at hSw)
    go_simp
    all_goals (with_reducible rfl)
  (try simp only [Act.put, List.setIfInBounds_toArray, List.set_cons_zero, List.set_cons_succ])
  refine Kept.take (v := ?vr2) 2 (by kernel_rfl) rfl (by kernel_rfl) (fun _ _ _ h => h) (Or.inl ⟨by rfl, ?hyr2⟩) hK0 ?restr2
  case hyr2 =>
    intro w0 hSw
    (try dsimp only at hSw)
    go_simp
    all_goals (with_reducible rfl)
  (try simp only [Act.put, List.setIfInBounds_toArray, List.set_cons_zero, List.set_cons_succ])
  refine Kept.fork [3, 8] (by kernel_rfl) (by decide) (fun iF hi o ho K hK => ?_)
  simp only [List.mem_cons, List.not_mem_nil, or_false] at hi
  rcases hi with rfl | rfl
  · have ho' := Option.some.inj ho
    subst ho'
    go_simp
    go_at_call 118
    refine (specNot_at b _ fb rfl).mono ?_
    rintro e wq3 ⟨rfl, hbN⟩
    have hszwq3 : Wd.heap.size ≤ wq3.heap.size := hbN.size
    replace HR := Lib.hid (HR.out.at (hbN.block _ HR.out.lt))
    replace HB := Lib.hid (bThen HB.out hbN)
    go_simp
    refine hK.out _ _ (hS hK0 hbN) (fun hK1 => ?_)
    clear hK K hK0 hbN
    (try simp only [Act.put, List.setIfInBounds_toArray, List.set_cons_zero, List.set_cons_succ])
    refine Kept.fork [4, 8] (by kernel_rfl) (by decide) (fun iF hi o ho K hK => ?_)
    simp only [List.mem_cons, List.not_mem_nil, or_false] at hi
    rcases hi with rfl | rfl
    · have ho' := Option.some.inj ho
      subst ho'
      go_simp
      go_at_call 40
      refine (specAnd_at n a (notI b) _ _ (rdUp good_Net HD.out HB.out) hq12 HIN.out (by omega) ho12 fa (notI_fit fb) HA.out).mono ?_
      rintro e wq3_4 ⟨v1, vA, v3, rows, bs, rfl, hnet, hbN⟩
      have HNB := Lib.hid (show ∀ b ∈ blkL v1 ++ (bs ++ (blkL vA ++ blkL v3)), wq3.heap.size ≤ b ∧ b < wq3_4.heap.size from fun b hb => ⟨(hnet.lt hb).2, (hnet.lt hb).1⟩)
      have HN := Lib.hid (hnet.lower (B' := w.heap.size + 2) (by omega))
      obtain ⟨A1, c1, rfl⟩ := HN.out.s.cap fV3_len
      obtain ⟨A2, c2, rfl⟩ := HN.out.a.cap fAnd_len
      obtain ⟨A3, c3, rfl⟩ := HN.out.o.cap fInt_len
      clear hnet
      have hszwq3_4 : wq3.heap.size ≤ wq3_4.heap.size := hbN.size
      replace HR := Lib.hid (HR.out.at (hbN.block _ HR.out.lt))
      replace HB := Lib.hid (bThen HB.out hbN)
      go_simp
      refine hK.out _ _ (hS hK1 hbN) (fun hK2 => ?_)
      clear hK K hK1 hbN
      (try simp only [Act.put, List.setIfInBounds_toArray, List.set_cons_zero, List.set_cons_succ])
      refine Kept.take (v := ?vt3_4n5) 5 (by kernel_rfl) rfl (by kernel_rfl) (fun _ _ _ h => h) (Or.inl ⟨by rfl, ?hyt3_4n5⟩) hK2 ?restt3_4n5
      case hyt3_4n5 =>
        intro w0 hSw
        (try dsimp only at hSw)
        go_simp
        all_goals (with_reducible rfl)
      (try simp only [Act.put, List.setIfInBounds_toArray, List.set_cons_zero, List.set_cons_succ])
      refine Kept.take (v := ?vt3_4n6) 6 (by kernel_rfl) rfl (by kernel_rfl) (fun _ _ _ h => h) (Or.inl ⟨by rfl, ?hyt3_4n6⟩) hK2 ?restt3_4n6
      case hyt3_4n6 =>
        intro w0 hSw
        (try dsimp only at hSw)
        go_simp
        all_goals (with_reducible rfl)
      (try simp only [Act.put, List.setIfInBounds_toArray, List.set_cons_zero, List.set_cons_succ])
      refine Kept.take (v := ?vt3_4n7) 7 (by kernel_rfl) rfl (by kernel_rfl) (fun _ _ _ h => h) (Or.inl ⟨by rfl, ?hyt3_4n7⟩) hK2 ?restt3_4n7
      case hyt3_4n7 =>
        intro w0 hSw
        (try dsimp only at hSw)
        go_simp
        all_goals (with_reducible rfl)
      (try simp only [Act.put, List.setIfInBounds_toArray, List.set_cons_zero, List.set_cons_succ])
      refine Kept.one 8 (by kernel_rfl) rfl (fun K hK => ?_)
      go_simp
      obtain ⟨wq3_4_8, hw2⟩ : ∃ x, x = (wq3_4.alloc (.cells #[.int .i64 0, .slice none 0 0, .slice none 0 0, .slice none 0 0] 28)) := ⟨_, rfl⟩
      rw [← hw2]
      have hbN : Below wq3_4.heap.size wq3_4 wq3_4_8 := by rw [hw2]; exact bAlloc (Below.refl _ _) (Nat.le_refl _) _
      have HGz0 := Lib.hid (show BoxN wq3_4_8 wq3_4.heap.size (.int .i64 0) vNil vNil vNil by rw [hw2]; exact heap_alloc_new _ _)
      have hltwq3_4_8 : wq3_4.heap.size + 1 ≤ wq3_4_8.heap.size := by rw [hw2]; simp
      obtain ⟨G, hG⟩ : ∃ G, G = wq3_4.heap.size := ⟨_, rfl⟩
      rw [← hG] at HGz0 ⊢
      have HGz := HGz0
      have hG1 := Nat.le_of_eq hG
      have hG2 := Nat.le_of_eq hG.symm
      clear HGz0 hw2 hG
      have hszwq3_4_8 : wq3_4.heap.size ≤ wq3_4_8.heap.size := hbN.size
      replace HR := Lib.hid (HR.out.at (hbN.block _ HR.out.lt))
      replace HB := Lib.hid (bThen HB.out hbN)
      replace HN := Lib.hid (HN.out.below hbN)
      refine hK.out _ _ (hS hK2 hbN) (fun hK3 => ?_)
      clear hK K hK2 hbN
      (try simp only [Act.put, List.setIfInBounds_toArray, List.set_cons_zero, List.set_cons_succ])
      have HOFF := Lib.hid (show ∀ b ∈ blkL (.slice A1 m1.2.1.length c1) ++ (bs ++ (blkL (.slice A2 m1.2.2.1.length c2) ++ blkL (.slice A3 m1.2.2.2.length c3))), b ≠ G from fun b hb => by have h1 := HNB.out b hb; have := HGz.out.lt; omega)
      have HC := Lib.hid (CopyAt.stored HGz.out HR.out HN.out HOFF.out HB.out (Nat.le_succ _) (by omega) (by omega))
      have k0 := HGz.out.cells.1.1
      have k1 := HGz.out.cells.1.2.1
      have k2 := HGz.out.cells.1.2.2.1
      have k3 := HGz.out.cells.1.2.2.2
      have kz := HGz.out.cells.2
      have hEG : w.heap.size ≠ G := by omega
      refine Kept.one 9 (by kernel_rfl) rfl (fun K hK => ?_)
      go_simp
      refine hK.out _ _ (⟨(World.cell?_of_block (far4 hEG)).trans hK3.1, (World.cell?_of_block (far4 hEG)).trans hK3.2.1, (World.cell?_of_block (far4 hEG)).trans hK3.2.2.1, (World.cell?_of_block (far4 hEG)).trans hK3.2.2.2⟩) (fun hK4 => ?_)
      clear hK K hK3 k0 k1 k2 k3 kz
      (try simp only [Act.put, List.setIfInBounds_toArray, List.set_cons_zero, List.set_cons_succ])
      refine Kept.tail (by rfl) (by kernel_rfl) ?_
      simp only [List.drop_succ_cons, List.drop_zero]
      obtain ⟨W9, hW9⟩ : ∃ x, x = ((((wq3_4_8.setCell ⟨G, 0, none⟩ (.int .i64 m1.1)).setCell ⟨G, 1, none⟩ (.slice A1 m1.2.1.length c1)).setCell ⟨G, 2, none⟩ (.slice A2 m1.2.2.1.length c2)).setCell ⟨G, 3, none⟩ (.slice A3 m1.2.2.2.length c3)) := ⟨_, rfl⟩
      rw [← hW9] at HC hK4 ⊢
      have d0 := hK4.1
      have d1 := hK4.2.1
      have d2 := hK4.2.2.1
      have d3 := hK4.2.2.2
      clear hW9 hK4 HGz HN HR HB
      have hb9 := HC.out.chg
      have HB := Lib.hid hb9
      go_wp2_with fail
      refine NoPanic.normal ?_
      have HB0 := Lib.hid hb9
      have g0 := HC.out.box.cells.1.1
      have g1 := HC.out.box.cells.1.2.1
      have g2 := HC.out.box.cells.1.2.2.1
      have g3 := HC.out.box.cells.1.2.2.2
      go_wp2_with fail
      refine wp_region_noPanic ?_
      refine wp_region_kept 9 10 (fun w' => w'.cell? ⟨w.heap.size, 0, none⟩ = some (.int .i64 n.1) ∧ w'.cell? ⟨w.heap.size, 1, none⟩ = some (.slice mA1 (n.2.1).length mc1) ∧ w'.cell? ⟨w.heap.size, 2, none⟩ = some (.slice mA2 (n.2.2.1).length mc2) ∧ w'.cell? ⟨w.heap.size, 3, none⟩ = some (.slice mA3 (n.2.2.2).length mc3)) (by kernel_rfl) rfl (hS ⟨d0, d1, d2, d3⟩ (Below.drew (Below.refl _ _))) (fun hL0 => ?_)
      obtain ⟨V0, hV0⟩ : ∃ x, x = W9.drew := ⟨_, rfl⟩
      have hbN : Below W9.heap.size W9 V0 := by rw [hV0]; exact Below.drew (Below.refl _ _)
      replace HC := Lib.hid (HC.out.below hbN)
      replace HB := Lib.hid (bThen HB.out hbN)
      rw [← hV0] at hL0 ⊢
      clear hV0 hbN d0 d1 d2 d3 g0 g1 g2 g3
      refine Kept.take (v := ?vt3_4_8nr1) 1 (by kernel_rfl) rfl (by kernel_rfl) (fun _ _ _ h => h) (Or.inl ⟨by rfl, ?hyt3_4_8nr1⟩) hL0 ?restt3_4_8nr1
      case hyt3_4_8nr1 =>
        intro w0 hSw
        (try dsimp only at hSw)
        go_simp
        all_goals (with_reducible rfl)
      (try simp only [Act.put, List.setIfInBounds_toArray, List.set_cons_zero, List.set_cons_succ])
      refine Kept.take (v := ?vt3_4_8nr3) 3 (by kernel_rfl) rfl (by kernel_rfl) (fun _ _ _ h => h) (Or.inl ⟨by rfl, ?hyt3_4_8nr3⟩) hL0 ?restt3_4_8nr3
      case hyt3_4_8nr3 =>
        intro w0 hSw
        (try dsimp only at hSw)
        go_simp
        all_goals (with_reducible rfl)
      (try simp only [Act.put, List.setIfInBounds_toArray, List.set_cons_zero, List.set_cons_succ])
      refine Kept.fork [0, 2] (by kernel_rfl) (by decide) (fun iF hi o ho K hK => ?_)
      simp only [List.mem_cons, List.not_mem_nil, or_false] at hi
      rcases hi with rfl | rfl
      · have ho' := Option.some.inj ho
        subst ho'
        have g0 := HC.out.box.cells.1.1
        have g1 := HC.out.box.cells.1.2.1
        have g2 := HC.out.box.cells.1.2.2.1
        have g3 := HC.out.box.cells.1.2.2.2
        go_simp
        clear g0 g1 g2 g3
        refine hK.out _ _ hL0 (fun hL1 => ?_)
        clear hK K hL0
        (try simp only [Act.put, List.setIfInBounds_toArray, List.set_cons_zero, List.set_cons_succ])
        refine Kept.one 2 (by kernel_rfl) rfl (fun K hK => ?_)
        go_simp
        go_at_call 118
        refine (specNot_at a _ fa rfl).mono ?_
        rintro e vq0_2 ⟨rfl, hbN⟩
        replace HC := Lib.hid (HC.out.below hbN)
        replace HB := Lib.hid (bThen HB.out hbN)
        go_simp
        refine hK.out _ _ (hS hL1 hbN) (fun hL2 => ?_)
        clear hK K hL1 hbN
        (try simp only [Act.put, List.setIfInBounds_toArray, List.set_cons_zero, List.set_cons_succ])
        refine Kept.one 4 (by kernel_rfl) rfl (fun K hK => ?_)
        go_simp
        go_at_call 40
        refine (specAnd_at m1 (notI a) b _ _ HC.out.net.rd0 l1 HIN1.out (by omega) l3 (notI_fit fa) fb HA2.out).mono ?_
        rintro e vq0_2_4 ⟨u1, uA, u3, rows2, bs2, rfl, hnet, hbN⟩
        have HNB2 := Lib.hid (show ∀ b ∈ blkL u1 ++ (bs2 ++ (blkL uA ++ blkL u3)), vq0_2.heap.size ≤ b ∧ b < vq0_2_4.heap.size from fun b hb => ⟨(hnet.lt hb).2, (hnet.lt hb).1⟩)
        have hcw := HC.out.chg.size
        have hcb := HC.out.box.lt
        have hcg := HC.out.hG
        have HN2 := Lib.hid (hnet.lower (B' := w.heap.size + 2) (by omega))
        obtain ⟨B1, e1, rfl⟩ := HN2.out.s.cap fV3_len
        obtain ⟨B2, e2, rfl⟩ := HN2.out.a.cap fAnd_len
        obtain ⟨B3, e3, rfl⟩ := HN2.out.o.cap fInt_len
        clear hnet
        replace HC := Lib.hid (HC.out.below hbN)
        replace HB := Lib.hid (bThen HB.out hbN)
        go_simp
        refine hK.out _ _ (hS hL2 hbN) (fun hL3 => ?_)
        clear hK K hL2 hbN
        (try simp only [Act.put, List.setIfInBounds_toArray, List.set_cons_zero, List.set_cons_succ])
        refine Kept.take (v := ?vt3_4_8ns0_2_4n5) 5 (by kernel_rfl) rfl (by kernel_rfl) (fun _ _ _ h => h) (Or.inl ⟨by rfl, ?hyt3_4_8ns0_2_4n5⟩) hL3 ?restt3_4_8ns0_2_4n5
        case hyt3_4_8ns0_2_4n5 =>
          intro w0 hSw
          (try dsimp only at hSw)
          go_simp
          all_goals (with_reducible rfl)
        (try simp only [Act.put, List.setIfInBounds_toArray, List.set_cons_zero, List.set_cons_succ])
        refine Kept.take (v := ?vt3_4_8ns0_2_4n6) 6 (by kernel_rfl) rfl (by kernel_rfl) (fun _ _ _ h => h) (Or.inl ⟨by rfl, ?hyt3_4_8ns0_2_4n6⟩) hL3 ?restt3_4_8ns0_2_4n6
        case hyt3_4_8ns0_2_4n6 =>
          intro w0 hSw
          (try dsimp only at hSw)
          go_simp
          all_goals (with_reducible rfl)
        (try simp only [Act.put, List.setIfInBounds_toArray, List.set_cons_zero, List.set_cons_succ])
        refine Kept.take (v := ?vt3_4_8ns0_2_4n7) 7 (by kernel_rfl) rfl (by kernel_rfl) (fun _ _ _ h => h) (Or.inl ⟨by rfl, ?hyt3_4_8ns0_2_4n7⟩) hL3 ?restt3_4_8ns0_2_4n7
        case hyt3_4_8ns0_2_4n7 =>
          intro w0 hSw
          (try dsimp only at hSw)
          go_simp
          all_goals (with_reducible rfl)
        (try simp only [Act.put, List.setIfInBounds_toArray, List.set_cons_zero, List.set_cons_succ])
        have HOFF2 := Lib.hid (show ∀ b ∈ blkL (.slice B1 m2.2.1.length e1) ++ (bs2 ++ (blkL (.slice B2 m2.2.2.1.length e2) ++ blkL (.slice B3 m2.2.2.2.length e3))), b ≠ G from fun b hb => by have h1 := HNB2.out b hb; omega)
        have HC2 := Lib.hid (CopyAt.over HC.out.box HC.out.res HN2.out HOFF2.out HB.out (Nat.le_succ _) (by omega) (by omega))
        have k0 := HC.out.box.cells.1.1
        have k1 := HC.out.box.cells.1.2.1
        have k2 := HC.out.box.cells.1.2.2.1
        have k3 := HC.out.box.cells.1.2.2.2
        have kz := HC.out.box.cells.2
        refine Kept.one 8 (by kernel_rfl) rfl (fun K hK => ?_)
        go_simp
        refine hK.out _ _ (⟨(World.cell?_of_block (far4 hEG)).trans hL3.1, (World.cell?_of_block (far4 hEG)).trans hL3.2.1, (World.cell?_of_block (far4 hEG)).trans hL3.2.2.1, (World.cell?_of_block (far4 hEG)).trans hL3.2.2.2⟩) (fun hL4 => ?_)
        clear hK K hL3 k0 k1 k2 k3 kz
        (try simp only [Act.put, List.setIfInBounds_toArray, List.set_cons_zero, List.set_cons_succ])
        refine Kept.tail (by rfl) (by kernel_rfl) ?_
        simp only [List.drop_succ_cons, List.drop_zero]
        obtain ⟨WX, hWX⟩ : ∃ x, x = ((((vq0_2_4.setCell ⟨G, 0, none⟩ (.int .i64 m2.1)).setCell ⟨G, 1, none⟩ (.slice B1 m2.2.1.length e1)).setCell ⟨G, 2, none⟩ (.slice B2 m2.2.2.1.length e2)).setCell ⟨G, 3, none⟩ (.slice B3 m2.2.2.2.length e3)) := ⟨_, rfl⟩
        rw [← hWX] at HC2 hL4 ⊢
        have d0 := hL4.1
        have d1 := hL4.2.1
        have d2 := hL4.2.2.1
        have d3 := hL4.2.2.2
        clear hWX hL4 HB
        have HBX := Lib.hid HC2.out.chg
        have g0 := HC2.out.box.cells.1.1
        have g1 := HC2.out.box.cells.1.2.1
        have g2 := HC2.out.box.cells.1.2.2.1
        have g3 := HC2.out.box.cells.1.2.2.2
        go_wp2_with fail
        refine NoPanic.normal ?_
        go_wp2_with fail
        refine (specJoin_at n m2 x1 x2 _ _ _ (rdUp good_Net HD.out HBX.out) HC2.out.net.rd0 hq12 HIN.out (by omega) ho12 l4 HIN2.out (by omega) l6 HXS.out HXS2.out HJ.out).mono ?_
        rintro e wz ⟨t1, tA, t3, rows3, bs3, rfl, hnet, hb⟩
        have HBF := Lib.hid (HC2.out.res.at (hb.block _ HC2.out.res.lt))
        have hws := HC2.out.res.lt
        have HB5 := Lib.hid (bThen HBX.out hb)
        obtain ⟨E1, i1, rfl⟩ := hnet.s.cap fV3_len
        obtain ⟨E2, i2, rfl⟩ := hnet.a.cap fAnd_len
        obtain ⟨E3, i3, rfl⟩ := hnet.o.cap fInt_len
        have HNN := Lib.hid hnet
        have f0 := HBF.out.cells.1.1
        have f1 := HBF.out.cells.1.2.1
        have f2 := HBF.out.cells.1.2.2.1
        have f3 := HBF.out.cells.1.2.2.2
        have fz := HBF.out.cells.2
        clear hnet hb
        go_wp2
        ((try simp only [Exit.inBlock, Exit.then]); refine bodyPost_ret (v := (.tuple #[.agg #[.int .i64 m.1, .slice E1 m.2.1.length i1, .slice E2 m.2.2.1.length i2, .slice E3 m.2.2.2.length i3], .int .i64 x])) (by rw [results_cell_tmp rfl]; go_simp) rfl ?_)
        have P1 := (HNN.out.at (w' := ((((wz.setCell ⟨w.heap.size + 1, 0, none⟩ (.int .i64 m.1)).setCell ⟨w.heap.size + 1, 1, none⟩ (.slice E1 m.2.1.length i1)).setCell ⟨w.heap.size + 1, 2, none⟩ (.slice E2 m.2.2.1.length i2)).setCell ⟨w.heap.size + 1, 3, none⟩ (.slice E3 m.2.2.2.length i3))) fun b h1 h2 h3 => far4 (by omega)).lower (B' := w.heap.size) (by omega)
        have P2 : Below w.heap.size w ((((wz.setCell ⟨w.heap.size + 1, 0, none⟩ (.int .i64 m.1)).setCell ⟨w.heap.size + 1, 1, none⟩ (.slice E1 m.2.1.length i1)).setCell ⟨w.heap.size + 1, 2, none⟩ (.slice E2 m.2.2.1.length i2)).setCell ⟨w.heap.size + 1, 3, none⟩ (.slice E3 m.2.2.2.length i3)) := bSet (bSet (bSet (bSet HB5.out (Nat.le_succ _) _) (Nat.le_succ _) _) (Nat.le_succ _) _) (Nat.le_succ _) _
        first | exact ⟨_, _, _, rows3, bs3, rfl, P1, P2⟩ | exact ⟨_, _, _, rfl, rows3, bs3, P1, P2⟩ | exact ⟨_, _, _, rfl, ⟨rows3, bs3, P1⟩, P2⟩
      · have ho' := Option.some.inj ho
        subst ho'
        go_simp
        go_at_call 118
        refine (specNot_at a _ fa rfl).mono ?_
        rintro e vq2 ⟨rfl, hbN⟩
        replace HC := Lib.hid (HC.out.below hbN)
        replace HB := Lib.hid (bThen HB.out hbN)
        go_simp
        refine hK.out _ _ (hS hL0 hbN) (fun hL1 => ?_)
        clear hK K hL0 hbN
        (try simp only [Act.put, List.setIfInBounds_toArray, List.set_cons_zero, List.set_cons_succ])
        refine Kept.one 0 (by kernel_rfl) rfl (fun K hK => ?_)
        have g0 := HC.out.box.cells.1.1
        have g1 := HC.out.box.cells.1.2.1
        have g2 := HC.out.box.cells.1.2.2.1
        have g3 := HC.out.box.cells.1.2.2.2
        go_simp
        clear g0 g1 g2 g3
        refine hK.out _ _ hL1 (fun hL2 => ?_)
        clear hK K hL1
        (try simp only [Act.put, List.setIfInBounds_toArray, List.set_cons_zero, List.set_cons_succ])
        refine Kept.one 4 (by kernel_rfl) rfl (fun K hK => ?_)
        go_simp
        go_at_call 40
        refine (specAnd_at m1 (notI a) b _ _ HC.out.net.rd0 l1 HIN1.out (by omega) l3 (notI_fit fa) fb HA2.out).mono ?_
        rintro e vq2_0_4 ⟨u1, uA, u3, rows2, bs2, rfl, hnet, hbN⟩
        have HNB2 := Lib.hid (show ∀ b ∈ blkL u1 ++ (bs2 ++ (blkL uA ++ blkL u3)), vq2.heap.size ≤ b ∧ b < vq2_0_4.heap.size from fun b hb => ⟨(hnet.lt hb).2, (hnet.lt hb).1⟩)
        have hcw := HC.out.chg.size
        have hcb := HC.out.box.lt
        have hcg := HC.out.hG
        have HN2 := Lib.hid (hnet.lower (B' := w.heap.size + 2) (by omega))
        obtain ⟨B1, e1, rfl⟩ := HN2.out.s.cap fV3_len
        obtain ⟨B2, e2, rfl⟩ := HN2.out.a.cap fAnd_len
        obtain ⟨B3, e3, rfl⟩ := HN2.out.o.cap fInt_len
        clear hnet
        replace HC := Lib.hid (HC.out.below hbN)
        replace HB := Lib.hid (bThen HB.out hbN)
        go_simp
        refine hK.out _ _ (hS hL2 hbN) (fun hL3 => ?_)
        clear hK K hL2 hbN
        (try simp only [Act.put, List.setIfInBounds_toArray, List.set_cons_zero, List.set_cons_succ])
        refine Kept.take (v := ?vt3_4_8ns2_0_4n5) 5 (by kernel_rfl) rfl (by kernel_rfl) (fun _ _ _ h => h) (Or.inl ⟨by rfl, ?hyt3_4_8ns2_0_4n5⟩) hL3 ?restt3_4_8ns2_0_4n5
        case hyt3_4_8ns2_0_4n5 =>
          intro w0 hSw
          (try dsimp only at hSw)
          go_simp
          all_goals (with_reducible rfl)
        (try simp only [Act.put, List.setIfInBounds_toArray, List.set_cons_zero, List.set_cons_succ])
        refine Kept.take (v := ?vt3_4_8ns2_0_4n6) 6 (by kernel_rfl) rfl (by kernel_rfl) (fun _ _ _ h => h) (Or.inl ⟨by rfl, ?hyt3_4_8ns2_0_4n6⟩) hL3 ?restt3_4_8ns2_0_4n6
        case hyt3_4_8ns2_0_4n6 =>
          intro w0 hSw
          (try dsimp only at hSw)
          go_simp
          all_goals (with_reducible rfl)
        (try simp only [Act.put, List.setIfInBounds_toArray, List.set_cons_zero, List.set_cons_succ])
        refine Kept.take (v := ?vt3_4_8ns2_0_4n7) 7 (by kernel_rfl) rfl (by kernel_rfl) (fun _ _ _ h => h) (Or.inl ⟨by rfl, ?hyt3_4_8ns2_0_4n7⟩) hL3 ?restt3_4_8ns2_0_4n7
        case hyt3_4_8ns2_0_4n7 =>
          intro w0 hSw
          (try dsimp only at hSw)
          go_simp
          all_goals (with_reducible rfl)
        (try simp only [Act.put, List.setIfInBounds_toArray, List.set_cons_zero, List.set_cons_succ])
        have HOFF2 := Lib.hid (show ∀ b ∈ blkL (.slice B1 m2.2.1.length e1) ++ (bs2 ++ (blkL (.slice B2 m2.2.2.1.length e2) ++ blkL (.slice B3 m2.2.2.2.length e3))), b ≠ G from fun b hb => by have h1 := HNB2.out b hb; omega)
        have HC2 := Lib.hid (CopyAt.over HC.out.box HC.out.res HN2.out HOFF2.out HB.out (Nat.le_succ _) (by omega) (by omega))
        have k0 := HC.out.box.cells.1.1
        have k1 := HC.out.box.cells.1.2.1
        have k2 := HC.out.box.cells.1.2.2.1
        have k3 := HC.out.box.cells.1.2.2.2
        have kz := HC.out.box.cells.2
        refine Kept.one 8 (by kernel_rfl) rfl (fun K hK => ?_)
        go_simp
        refine hK.out _ _ (⟨(World.cell?_of_block (far4 hEG)).trans hL3.1, (World.cell?_of_block (far4 hEG)).trans hL3.2.1, (World.cell?_of_block (far4 hEG)).trans hL3.2.2.1, (World.cell?_of_block (far4 hEG)).trans hL3.2.2.2⟩) (fun hL4 => ?_)
        clear hK K hL3 k0 k1 k2 k3 kz
        (try simp only [Act.put, List.setIfInBounds_toArray, List.set_cons_zero, List.set_cons_succ])
        refine Kept.tail (by rfl) (by kernel_rfl) ?_
        simp only [List.drop_succ_cons, List.drop_zero]
        obtain ⟨WX, hWX⟩ : ∃ x, x = ((((vq2_0_4.setCell ⟨G, 0, none⟩ (.int .i64 m2.1)).setCell ⟨G, 1, none⟩ (.slice B1 m2.2.1.length e1)).setCell ⟨G, 2, none⟩ (.slice B2 m2.2.2.1.length e2)).setCell ⟨G, 3, none⟩ (.slice B3 m2.2.2.2.length e3)) := ⟨_, rfl⟩
        rw [← hWX] at HC2 hL4 ⊢
        have d0 := hL4.1
        have d1 := hL4.2.1
        have d2 := hL4.2.2.1
        have d3 := hL4.2.2.2
        clear hWX hL4 HB
        have HBX := Lib.hid HC2.out.chg
        have g0 := HC2.out.box.cells.1.1
        have g1 := HC2.out.box.cells.1.2.1
        have g2 := HC2.out.box.cells.1.2.2.1
        have g3 := HC2.out.box.cells.1.2.2.2
        go_wp2_with fail
        refine NoPanic.normal ?_
        go_wp2_with fail
        refine (specJoin_at n m2 x1 x2 _ _ _ (rdUp good_Net HD.out HBX.out) HC2.out.net.rd0 hq12 HIN.out (by omega) ho12 l4 HIN2.out (by omega) l6 HXS.out HXS2.out HJ.out).mono ?_
        rintro e wz ⟨t1, tA, t3, rows3, bs3, rfl, hnet, hb⟩
        have HBF := Lib.hid (HC2.out.res.at (hb.block _ HC2.out.res.lt))
        have hws := HC2.out.res.lt
        have HB5 := Lib.hid (bThen HBX.out hb)
        obtain ⟨E1, i1, rfl⟩ := hnet.s.cap fV3_len
        obtain ⟨E2, i2, rfl⟩ := hnet.a.cap fAnd_len
        obtain ⟨E3, i3, rfl⟩ := hnet.o.cap fInt_len
        have HNN := Lib.hid hnet
        have f0 := HBF.out.cells.1.1
        have f1 := HBF.out.cells.1.2.1
        have f2 := HBF.out.cells.1.2.2.1
        have f3 := HBF.out.cells.1.2.2.2
        have fz := HBF.out.cells.2
        clear hnet hb
        go_wp2
        ((try simp only [Exit.inBlock, Exit.then]); refine bodyPost_ret (v := (.tuple #[.agg #[.int .i64 m.1, .slice E1 m.2.1.length i1, .slice E2 m.2.2.1.length i2, .slice E3 m.2.2.2.length i3], .int .i64 x])) (by rw [results_cell_tmp rfl]; go_simp) rfl ?_)
        have P1 := (HNN.out.at (w' := ((((wz.setCell ⟨w.heap.size + 1, 0, none⟩ (.int .i64 m.1)).setCell ⟨w.heap.size + 1, 1, none⟩ (.slice E1 m.2.1.length i1)).setCell ⟨w.heap.size + 1, 2, none⟩ (.slice E2 m.2.2.1.length i2)).setCell ⟨w.heap.size + 1, 3, none⟩ (.slice E3 m.2.2.2.length i3))) fun b h1 h2 h3 => far4 (by omega)).lower (B' := w.heap.size) (by omega)
        have P2 : Below w.heap.size w ((((wz.setCell ⟨w.heap.size + 1, 0, none⟩ (.int .i64 m.1)).setCell ⟨w.heap.size + 1, 1, none⟩ (.slice E1 m.2.1.length i1)).setCell ⟨w.heap.size + 1, 2, none⟩ (.slice E2 m.2.2.1.length i2)).setCell ⟨w.heap.size + 1, 3, none⟩ (.slice E3 m.2.2.2.length i3)) := bSet (bSet (bSet (bSet HB5.out (Nat.le_succ _) _) (Nat.le_succ _) _) (Nat.le_succ _) _) (Nat.le_succ _) _
        first | exact ⟨_, _, _, rows3, bs3, rfl, P1, P2⟩ | exact ⟨_, _, _, rfl, rows3, bs3, P1, P2⟩ | exact ⟨_, _, _, rfl, ⟨rows3, bs3, P1⟩, P2⟩
    · have ho' := Option.some.inj ho
      subst ho'
      go_simp
      obtain ⟨wq3_8, hw2⟩ : ∃ x, x = (wq3.alloc (.cells #[.int .i64 0, .slice none 0 0, .slice none 0 0, .slice none 0 0] 28)) := ⟨_, rfl⟩
      rw [← hw2]
      have hbN : Below wq3.heap.size wq3 wq3_8 := by rw [hw2]; exact bAlloc (Below.refl _ _) (Nat.le_refl _) _
      have HGz0 := Lib.hid (show BoxN wq3_8 wq3.heap.size (.int .i64 0) vNil vNil vNil by rw [hw2]; exact heap_alloc_new _ _)
      have hltwq3_8 : wq3.heap.size + 1 ≤ wq3_8.heap.size := by rw [hw2]; simp
      obtain ⟨G, hG⟩ : ∃ G, G = wq3.heap.size := ⟨_, rfl⟩
      rw [← hG] at HGz0 ⊢
      have HGz := HGz0
      have hG1 := Nat.le_of_eq hG
      have hG2 := Nat.le_of_eq hG.symm
      clear HGz0 hw2 hG
      have hszwq3_8 : wq3.heap.size ≤ wq3_8.heap.size := hbN.size
      replace HR := Lib.hid (HR.out.at (hbN.block _ HR.out.lt))
      replace HB := Lib.hid (bThen HB.out hbN)
      refine hK.out _ _ (hS hK1 hbN) (fun hK2 => ?_)
      clear hK K hK1 hbN
      (try simp only [Act.put, List.setIfInBounds_toArray, List.set_cons_zero, List.set_cons_succ])
      refine Kept.one 4 (by kernel_rfl) rfl (fun K hK => ?_)
      go_simp
      go_at_call 40
      refine (specAnd_at n a (notI b) _ _ (rdUp good_Net HD.out HB.out) hq12 HIN.out (by omega) ho12 fa (notI_fit fb) HA.out).mono ?_
      rintro e wq3_8_4 ⟨v1, vA, v3, rows, bs, rfl, hnet, hbN⟩
      have HNB := Lib.hid (show ∀ b ∈ blkL v1 ++ (bs ++ (blkL vA ++ blkL v3)), wq3_8.heap.size ≤ b ∧ b < wq3_8_4.heap.size from fun b hb => ⟨(hnet.lt hb).2, (hnet.lt hb).1⟩)
      have HN := Lib.hid (hnet.lower (B' := w.heap.size + 2) (by omega))
      obtain ⟨A1, c1, rfl⟩ := HN.out.s.cap fV3_len
      obtain ⟨A2, c2, rfl⟩ := HN.out.a.cap fAnd_len
      obtain ⟨A3, c3, rfl⟩ := HN.out.o.cap fInt_len
      clear hnet
      have hszwq3_8_4 : wq3_8.heap.size ≤ wq3_8_4.heap.size := hbN.size
      replace HR := Lib.hid (HR.out.at (hbN.block _ HR.out.lt))
      replace HB := Lib.hid (bThen HB.out hbN)
      replace HGz := Lib.hid (HGz.out.at (hbN.block _ HGz.out.lt))
      go_simp
      refine hK.out _ _ (hS hK2 hbN) (fun hK3 => ?_)
      clear hK K hK2 hbN
      (try simp only [Act.put, List.setIfInBounds_toArray, List.set_cons_zero, List.set_cons_succ])
      refine Kept.take (v := ?vt3_8_4n5) 5 (by kernel_rfl) rfl (by kernel_rfl) (fun _ _ _ h => h) (Or.inl ⟨by rfl, ?hyt3_8_4n5⟩) hK3 ?restt3_8_4n5
      case hyt3_8_4n5 =>
        intro w0 hSw
        (try dsimp only at hSw)
        go_simp
        all_goals (with_reducible rfl)
      (try simp only [Act.put, List.setIfInBounds_toArray, List.set_cons_zero, List.set_cons_succ])
      refine Kept.take (v := ?vt3_8_4n6) 6 (by kernel_rfl) rfl (by kernel_rfl) (fun _ _ _ h => h) (Or.inl ⟨by rfl, ?hyt3_8_4n6⟩) hK3 ?restt3_8_4n6
      case hyt3_8_4n6 =>
        intro w0 hSw
        (try dsimp only at hSw)
        go_simp
        all_goals (with_reducible rfl)
      (try simp only [Act.put, List.setIfInBounds_toArray, List.set_cons_zero, List.set_cons_succ])
      refine Kept.take (v := ?vt3_8_4n7) 7 (by kernel_rfl) rfl (by kernel_rfl) (fun _ _ _ h => h) (Or.inl ⟨by rfl, ?hyt3_8_4n7⟩) hK3 ?restt3_8_4n7
      case hyt3_8_4n7 =>
        intro w0 hSw
        (try dsimp only at hSw)
        go_simp
        all_goals (with_reducible rfl)
      (try simp only [Act.put, List.setIfInBounds_toArray, List.set_cons_zero, List.set_cons_succ])
      have HOFF := Lib.hid (show ∀ b ∈ blkL (.slice A1 m1.2.1.length c1) ++ (bs ++ (blkL (.slice A2 m1.2.2.1.length c2) ++ blkL (.slice A3 m1.2.2.2.length c3))), b ≠ G from fun b hb => by have h1 := HNB.out b hb; have := HGz.out.lt; omega)
      have HC := Lib.hid (CopyAt.stored HGz.out HR.out HN.out HOFF.out HB.out (Nat.le_succ _) (by omega) (by omega))
      have k0 := HGz.out.cells.1.1
      have k1 := HGz.out.cells.1.2.1
      have k2 := HGz.out.cells.1.2.2.1
      have k3 := HGz.out.cells.1.2.2.2
      have kz := HGz.out.cells.2
      have hEG : w.heap.size ≠ G := by omega
      refine Kept.one 9 (by kernel_rfl) rfl (fun K hK => ?_)
      go_simp
      refine hK.out _ _ (⟨(World.cell?_of_block (far4 hEG)).trans hK3.1, (World.cell?_of_block (far4 hEG)).trans hK3.2.1, (World.cell?_of_block (far4 hEG)).trans hK3.2.2.1, (World.cell?_of_block (far4 hEG)).trans hK3.2.2.2⟩) (fun hK4 => ?_)
      clear hK K hK3 k0 k1 k2 k3 kz
      (try simp only [Act.put, List.setIfInBounds_toArray, List.set_cons_zero, List.set_cons_succ])
      refine Kept.tail (by rfl) (by kernel_rfl) ?_
      simp only [List.drop_succ_cons, List.drop_zero]
      obtain ⟨W9, hW9⟩ : ∃ x, x = ((((wq3_8_4.setCell ⟨G, 0, none⟩ (.int .i64 m1.1)).setCell ⟨G, 1, none⟩ (.slice A1 m1.2.1.length c1)).setCell ⟨G, 2, none⟩ (.slice A2 m1.2.2.1.length c2)).setCell ⟨G, 3, none⟩ (.slice A3 m1.2.2.2.length c3)) := ⟨_, rfl⟩
      rw [← hW9] at HC hK4 ⊢
      have d0 := hK4.1
      have d1 := hK4.2.1
      have d2 := hK4.2.2.1
      have d3 := hK4.2.2.2
      clear hW9 hK4 HGz HN HR HB
      have hb9 := HC.out.chg
      have HB := Lib.hid hb9
      go_wp2_with fail
      refine NoPanic.normal ?_
      have HB0 := Lib.hid hb9
      have g0 := HC.out.box.cells.1.1
      have g1 := HC.out.box.cells.1.2.1
      have g2 := HC.out.box.cells.1.2.2.1
      have g3 := HC.out.box.cells.1.2.2.2
      go_wp2_with fail
      refine wp_region_noPanic ?_
      refine wp_region_kept 9 10 (fun w' => w'.cell? ⟨w.heap.size, 0, none⟩ = some (.int .i64 n.1) ∧ w'.cell? ⟨w.heap.size, 1, none⟩ = some (.slice mA1 (n.2.1).length mc1) ∧ w'.cell? ⟨w.heap.size, 2, none⟩ = some (.slice mA2 (n.2.2.1).length mc2) ∧ w'.cell? ⟨w.heap.size, 3, none⟩ = some (.slice mA3 (n.2.2.2).length mc3)) (by kernel_rfl) rfl (hS ⟨d0, d1, d2, d3⟩ (Below.drew (Below.refl _ _))) (fun hL0 => ?_)
      obtain ⟨V0, hV0⟩ : ∃ x, x = W9.drew := ⟨_, rfl⟩
      have hbN : Below W9.heap.size W9 V0 := by rw [hV0]; exact Below.drew (Below.refl _ _)
      replace HC := Lib.hid (HC.out.below hbN)
      replace HB := Lib.hid (bThen HB.out hbN)
      rw [← hV0] at hL0 ⊢
      clear hV0 hbN d0 d1 d2 d3 g0 g1 g2 g3
      refine Kept.take (v := ?vt3_8_4nr1) 1 (by kernel_rfl) rfl (by kernel_rfl) (fun _ _ _ h => h) (Or.inl ⟨by rfl, ?hyt3_8_4nr1⟩) hL0 ?restt3_8_4nr1
      case hyt3_8_4nr1 =>
        intro w0 hSw
        (try dsimp only at hSw)
        go_simp
        all_goals (with_reducible rfl)
      (try simp only [Act.put, List.setIfInBounds_toArray, List.set_cons_zero, List.set_cons_succ])
      refine Kept.take (v := ?vt3_8_4nr3) 3 (by kernel_rfl) rfl (by kernel_rfl) (fun _ _ _ h => h) (Or.inl ⟨by rfl, ?hyt3_8_4nr3⟩) hL0 ?restt3_8_4nr3
      case hyt3_8_4nr3 =>
        intro w0 hSw
        (try dsimp only at hSw)
        go_simp
        all_goals (with_reducible rfl)
      (try simp only [Act.put, List.setIfInBounds_toArray, List.set_cons_zero, List.set_cons_succ])
      refine Kept.fork [0, 2] (by kernel_rfl) (by decide) (fun iF hi o ho K hK => ?_)
      simp only [List.mem_cons, List.not_mem_nil, or_false] at hi
      rcases hi with rfl | rfl
      · have ho' := Option.some.inj ho
        subst ho'
        have g0 := HC.out.box.cells.1.1
        have g1 := HC.out.box.cells.1.2.1
        have g2 := HC.out.box.cells.1.2.2.1
        have g3 := HC.out.box.cells.1.2.2.2
        go_simp
        clear g0 g1 g2 g3
        refine hK.out _ _ hL0 (fun hL1 => ?_)
        clear hK K hL0
        (try simp only [Act.put, List.setIfInBounds_toArray, List.set_cons_zero, List.set_cons_succ])
        refine Kept.one 2 (by kernel_rfl) rfl (fun K hK => ?_)
        go_simp
        go_at_call 118
        refine (specNot_at a _ fa rfl).mono ?_
        rintro e vq0_2 ⟨rfl, hbN⟩
        replace HC := Lib.hid (HC.out.below hbN)
        replace HB := Lib.hid (bThen HB.out hbN)
        go_simp
        refine hK.out _ _ (hS hL1 hbN) (fun hL2 => ?_)
        clear hK K hL1 hbN
        (try simp only [Act.put, List.setIfInBounds_toArray, List.set_cons_zero, List.set_cons_succ])
        refine Kept.one 4 (by kernel_rfl) rfl (fun K hK => ?_)
        go_simp
        go_at_call 40
        refine (specAnd_at m1 (notI a) b _ _ HC.out.net.rd0 l1 HIN1.out (by omega) l3 (notI_fit fa) fb HA2.out).mono ?_
        rintro e vq0_2_4 ⟨u1, uA, u3, rows2, bs2, rfl, hnet, hbN⟩
        have HNB2 := Lib.hid (show ∀ b ∈ blkL u1 ++ (bs2 ++ (blkL uA ++ blkL u3)), vq0_2.heap.size ≤ b ∧ b < vq0_2_4.heap.size from fun b hb => ⟨(hnet.lt hb).2, (hnet.lt hb).1⟩)
        have hcw := HC.out.chg.size
        have hcb := HC.out.box.lt
        have hcg := HC.out.hG
        have HN2 := Lib.hid (hnet.lower (B' := w.heap.size + 2) (by omega))
        obtain ⟨B1, e1, rfl⟩ := HN2.out.s.cap fV3_len
        obtain ⟨B2, e2, rfl⟩ := HN2.out.a.cap fAnd_len
        obtain ⟨B3, e3, rfl⟩ := HN2.out.o.cap fInt_len
        clear hnet
        replace HC := Lib.hid (HC.out.below hbN)
        replace HB := Lib.hid (bThen HB.out hbN)
        go_simp
        refine hK.out _ _ (hS hL2 hbN) (fun hL3 => ?_)
        clear hK K hL2 hbN
        (try simp only [Act.put, List.setIfInBounds_toArray, List.set_cons_zero, List.set_cons_succ])
        refine Kept.take (v := ?vt3_8_4ns0_2_4n5) 5 (by kernel_rfl) rfl (by kernel_rfl) (fun _ _ _ h => h) (Or.inl ⟨by rfl, ?hyt3_8_4ns0_2_4n5⟩) hL3 ?restt3_8_4ns0_2_4n5
        case hyt3_8_4ns0_2_4n5 =>
          intro w0 hSw
          (try dsimp only at hSw)
          go_simp
          all_goals (with_reducible rfl)
        (try simp only [Act.put, List.setIfInBounds_toArray, List.set_cons_zero, List.set_cons_succ])
        refine Kept.take (v := ?vt3_8_4ns0_2_4n6) 6 (by kernel_rfl) rfl (by kernel_rfl) (fun _ _ _ h => h) (Or.inl ⟨by rfl, ?hyt3_8_4ns0_2_4n6⟩) hL3 ?restt3_8_4ns0_2_4n6
        case hyt3_8_4ns0_2_4n6 =>
          intro w0 hSw
          (try dsimp only at hSw)
          go_simp
          all_goals (with_reducible rfl)
        (try simp only [Act.put, List.setIfInBounds_toArray, List.set_cons_zero, List.set_cons_succ])
        refine Kept.take (v := ?vt3_8_4ns0_2_4n7) 7 (by kernel_rfl) rfl (by kernel_rfl) (fun _ _ _ h => h) (Or.inl ⟨by rfl, ?hyt3_8_4ns0_2_4n7⟩) hL3 ?restt3_8_4ns0_2_4n7
        case hyt3_8_4ns0_2_4n7 =>
          intro w0 hSw
          (try dsimp only at hSw)
          go_simp
          all_goals (with_reducible rfl)
        (try simp only [Act.put, List.setIfInBounds_toArray, List.set_cons_zero, List.set_cons_succ])
        have HOFF2 := Lib.hid (show ∀ b ∈ blkL (.slice B1 m2.2.1.length e1) ++ (bs2 ++ (blkL (.slice B2 m2.2.2.1.length e2) ++ blkL (.slice B3 m2.2.2.2.length e3))), b ≠ G from fun b hb => by have h1 := HNB2.out b hb; omega)
        have HC2 := Lib.hid (CopyAt.over HC.out.box HC.out.res HN2.out HOFF2.out HB.out (Nat.le_succ _) (by omega) (by omega))
        have k0 := HC.out.box.cells.1.1
        have k1 := HC.out.box.cells.1.2.1
        have k2 := HC.out.box.cells.1.2.2.1
        have k3 := HC.out.box.cells.1.2.2.2
        have kz := HC.out.box.cells.2
        refine Kept.one 8 (by kernel_rfl) rfl (fun K hK => ?_)
        go_simp
        refine hK.out _ _ (⟨(World.cell?_of_block (far4 hEG)).trans hL3.1, (World.cell?_of_block (far4 hEG)).trans hL3.2.1, (World.cell?_of_block (far4 hEG)).trans hL3.2.2.1, (World.cell?_of_block (far4 hEG)).trans hL3.2.2.2⟩) (fun hL4 => ?_)
        clear hK K hL3 k0 k1 k2 k3 kz
        (try simp only [Act.put, List.setIfInBounds_toArray, List.set_cons_zero, List.set_cons_succ])
        refine Kept.tail (by rfl) (by kernel_rfl) ?_
        simp only [List.drop_succ_cons, List.drop_zero]
        obtain ⟨WX, hWX⟩ : ∃ x, x = ((((vq0_2_4.setCell ⟨G, 0, none⟩ (.int .i64 m2.1)).setCell ⟨G, 1, none⟩ (.slice B1 m2.2.1.length e1)).setCell ⟨G, 2, none⟩ (.slice B2 m2.2.2.1.length e2)).setCell ⟨G, 3, none⟩ (.slice B3 m2.2.2.2.length e3)) := ⟨_, rfl⟩
        rw [← hWX] at HC2 hL4 ⊢
        have d0 := hL4.1
        have d1 := hL4.2.1
        have d2 := hL4.2.2.1
        have d3 := hL4.2.2.2
        clear hWX hL4 HB
        have HBX := Lib.hid HC2.out.chg
        have g0 := HC2.out.box.cells.1.1
        have g1 := HC2.out.box.cells.1.2.1
        have g2 := HC2.out.box.cells.1.2.2.1
        have g3 := HC2.out.box.cells.1.2.2.2
        go_wp2_with fail
        refine NoPanic.normal ?_
        go_wp2_with fail
        refine (specJoin_at n m2 x1 x2 _ _ _ (rdUp good_Net HD.out HBX.out) HC2.out.net.rd0 hq12 HIN.out (by omega) ho12 l4 HIN2.out (by omega) l6 HXS.out HXS2.out HJ.out).mono ?_
        rintro e wz ⟨t1, tA, t3, rows3, bs3, rfl, hnet, hb⟩
        have HBF := Lib.hid (HC2.out.res.at (hb.block _ HC2.out.res.lt))
        have hws := HC2.out.res.lt
        have HB5 := Lib.hid (bThen HBX.out hb)
        obtain ⟨E1, i1, rfl⟩ := hnet.s.cap fV3_len
        obtain ⟨E2, i2, rfl⟩ := hnet.a.cap fAnd_len
        obtain ⟨E3, i3, rfl⟩ := hnet.o.cap fInt_len
        have HNN := Lib.hid hnet
        have f0 := HBF.out.cells.1.1
        have f1 := HBF.out.cells.1.2.1
        have f2 := HBF.out.cells.1.2.2.1
        have f3 := HBF.out.cells.1.2.2.2
        have fz := HBF.out.cells.2
        clear hnet hb
        go_wp2
        ((try simp only [Exit.inBlock, Exit.then]); refine bodyPost_ret (v := (.tuple #[.agg #[.int .i64 m.1, .slice E1 m.2.1.length i1, .slice E2 m.2.2.1.length i2, .slice E3 m.2.2.2.length i3], .int .i64 x])) (by rw [results_cell_tmp rfl]; go_simp) rfl ?_)
        have P1 := (HNN.out.at (w' := ((((wz.setCell ⟨w.heap.size + 1, 0, none⟩ (.int .i64 m.1)).setCell ⟨w.heap.size + 1, 1, none⟩ (.slice E1 m.2.1.length i1)).setCell ⟨w.heap.size + 1, 2, none⟩ (.slice E2 m.2.2.1.length i2)).setCell ⟨w.heap.size + 1, 3, none⟩ (.slice E3 m.2.2.2.length i3))) fun b h1 h2 h3 => far4 (by omega)).lower (B' := w.heap.size) (by omega)
        have P2 : Below w.heap.size w ((((wz.setCell ⟨w.heap.size + 1, 0, none⟩ (.int .i64 m.1)).setCell ⟨w.heap.size + 1, 1, none⟩ (.slice E1 m.2.1.length i1)).setCell ⟨w.heap.size + 1, 2, none⟩ (.slice E2 m.2.2.1.length i2)).setCell ⟨w.heap.size + 1, 3, none⟩ (.slice E3 m.2.2.2.length i3)) := bSet (bSet (bSet (bSet HB5.out (Nat.le_succ _) _) (Nat.le_succ _) _) (Nat.le_succ _) _) (Nat.le_succ _) _
        first | exact ⟨_, _, _, rows3, bs3, rfl, P1, P2⟩ | exact ⟨_, _, _, rfl, rows3, bs3, P1, P2⟩ | exact ⟨_, _, _, rfl, ⟨rows3, bs3, P1⟩, P2⟩
      · have ho' := Option.some.inj ho
        subst ho'
        go_simp
        go_at_call 118
        refine (specNot_at a _ fa rfl).mono ?_
        rintro e vq2 ⟨rfl, hbN⟩
        replace HC := Lib.hid (HC.out.below hbN)
        replace HB := Lib.hid (bThen HB.out hbN)
        go_simp
        refine hK.out _ _ (hS hL0 hbN) (fun hL1 => ?_)
        clear hK K hL0 hbN
        (try simp only [Act.put, List.setIfInBounds_toArray, List.set_cons_zero, List.set_cons_succ])
        refine Kept.one 0 (by kernel_rfl) rfl (fun K hK => ?_)
        have g0 := HC.out.box.cells.1.1
        have g1 := HC.out.box.cells.1.2.1
        have g2 := HC.out.box.cells.1.2.2.1
        have g3 := HC.out.box.cells.1.2.2.2
        go_simp
        clear g0 g1 g2 g3
        refine hK.out _ _ hL1 (fun hL2 => ?_)
        clear hK K hL1
        (try simp only [Act.put, List.setIfInBounds_toArray, List.set_cons_zero, List.set_cons_succ])
        refine Kept.one 4 (by kernel_rfl) rfl (fun K hK => ?_)
        go_simp
        go_at_call 40
        refine (specAnd_at m1 (notI a) b _ _ HC.out.net.rd0 l1 HIN1.out (by omega) l3 (notI_fit fa) fb HA2.out).mono ?_
        rintro e vq2_0_4 ⟨u1, uA, u3, rows2, bs2, rfl, hnet, hbN⟩
        have HNB2 := Lib.hid (show ∀ b ∈ blkL u1 ++ (bs2 ++ (blkL uA ++ blkL u3)), vq2.heap.size ≤ b ∧ b < vq2_0_4.heap.size from fun b hb => ⟨(hnet.lt hb).2, (hnet.lt hb).1⟩)
        have hcw := HC.out.chg.size
        have hcb := HC.out.box.lt
        have hcg := HC.out.hG
        have HN2 := Lib.hid (hnet.lower (B' := w.heap.size + 2) (by omega))
        obtain ⟨B1, e1, rfl⟩ := HN2.out.s.cap fV3_len
        obtain ⟨B2, e2, rfl⟩ := HN2.out.a.cap fAnd_len
        obtain ⟨B3, e3, rfl⟩ := HN2.out.o.cap fInt_len
        clear hnet
        replace HC := Lib.hid (HC.out.below hbN)
        replace HB := Lib.hid (bThen HB.out hbN)
        go_simp
        refine hK.out _ _ (hS hL2 hbN) (fun hL3 => ?_)
        clear hK K hL2 hbN
        (try simp only [Act.put, List.setIfInBounds_toArray, List.set_cons_zero, List.set_cons_succ])
        refine Kept.take (v := ?vt3_8_4ns2_0_4n5) 5 (by kernel_rfl) rfl (by kernel_rfl) (fun _ _ _ h => h) (Or.inl ⟨by rfl, ?hyt3_8_4ns2_0_4n5⟩) hL3 ?restt3_8_4ns2_0_4n5
        case hyt3_8_4ns2_0_4n5 =>
          intro w0 hSw
          (try dsimp only at hSw)
          go_simp
          all_goals (with_reducible rfl)
        (try simp only [Act.put, List.setIfInBounds_toArray, List.set_cons_zero, List.set_cons_succ])
        refine Kept.take (v := ?vt3_8_4ns2_0_4n6) 6 (by kernel_rfl) rfl (by kernel_rfl) (fun _ _ _ h => h) (Or.inl ⟨by rfl, ?hyt3_8_4ns2_0_4n6⟩) hL3 ?restt3_8_4ns2_0_4n6
        case hyt3_8_4ns2_0_4n6 =>
          intro w0 hSw
          (try dsimp only at hSw)
          go_simp
          all_goals (with_reducible rfl)
        (try simp only [Act.put, List.setIfInBounds_toArray, List.set_cons_zero, List.set_cons_succ])
        refine Kept.take (v := ?vt3_8_4ns2_0_4n7) 7 (by kernel_rfl) rfl (by kernel_rfl) (fun _ _ _ h => h) (Or.inl ⟨by rfl, ?hyt3_8_4ns2_0_4n7⟩) hL3 ?restt3_8_4ns2_0_4n7
        case hyt3_8_4ns2_0_4n7 =>
          intro w0 hSw
          (try dsimp only at hSw)
          go_simp
          all_goals (with_reducible rfl)
        (try simp only [Act.put, List.setIfInBounds_toArray, List.set_cons_zero, List.set_cons_succ])
        have HOFF2 := Lib.hid (show ∀ b ∈ blkL (.slice B1 m2.2.1.length e1) ++ (bs2 ++ (blkL (.slice B2 m2.2.2.1.length e2) ++ blkL (.slice B3 m2.2.2.2.length e3))), b ≠ G from fun b hb => by have h1 := HNB2.out b hb; omega)
        have HC2 := Lib.hid (CopyAt.over HC.out.box HC.out.res HN2.out HOFF2.out HB.out (Nat.le_succ _) (by omega) (by omega))
        have k0 := HC.out.box.cells.1.1
        have k1 := HC.out.box.cells.1.2.1
        have k2 := HC.out.box.cells.1.2.2.1
        have k3 := HC.out.box.cells.1.2.2.2
        have kz := HC.out.box.cells.2
        refine Kept.one 8 (by kernel_rfl) rfl (fun K hK => ?_)
        go_simp
        refine hK.out _ _ (⟨(World.cell?_of_block (far4 hEG)).trans hL3.1, (World.cell?_of_block (far4 hEG)).trans hL3.2.1, (World.cell?_of_block (far4 hEG)).trans hL3.2.2.1, (World.cell?_of_block (far4 hEG)).trans hL3.2.2.2⟩) (fun hL4 => ?_)
        clear hK K hL3 k0 k1 k2 k3 kz
        (try simp only [Act.put, List.setIfInBounds_toArray, List.set_cons_zero, List.set_cons_succ])
        refine Kept.tail (by rfl) (by kernel_rfl) ?_
        simp only [List.drop_succ_cons, List.drop_zero]
        obtain ⟨WX, hWX⟩ : ∃ x, x = ((((vq2_0_4.setCell ⟨G, 0, none⟩ (.int .i64 m2.1)).setCell ⟨G, 1, none⟩ (.slice B1 m2.2.1.length e1)).setCell ⟨G, 2, none⟩ (.slice B2 m2.2.2.1.length e2)).setCell ⟨G, 3, none⟩ (.slice B3 m2.2.2.2.length e3)) := ⟨_, rfl⟩
        rw [← hWX] at HC2 hL4 ⊢
        have d0 := hL4.1
        have d1 := hL4.2.1
        have d2 := hL4.2.2.1
        have d3 := hL4.2.2.2
        clear hWX hL4 HB
        have HBX := Lib.hid HC2.out.chg
        have g0 := HC2.out.box.cells.1.1
        have g1 := HC2.out.box.cells.1.2.1
        have g2 := HC2.out.box.cells.1.2.2.1
        have g3 := HC2.out.box.cells.1.2.2.2
        go_wp2_with fail
        refine NoPanic.normal ?_
        go_wp2_with fail
        refine (specJoin_at n m2 x1 x2 _ _ _ (rdUp good_Net HD.out HBX.out) HC2.out.net.rd0 hq12 HIN.out (by omega) ho12 l4 HIN2.out (by omega) l6 HXS.out HXS2.out HJ.out).mono ?_
        rintro e wz ⟨t1, tA, t3, rows3, bs3, rfl, hnet, hb⟩
        have HBF := Lib.hid (HC2.out.res.at (hb.block _ HC2.out.res.lt))
        have hws := HC2.out.res.lt
        have HB5 := Lib.hid (bThen HBX.out hb)
        obtain ⟨E1, i1, rfl⟩ := hnet.s.cap fV3_len
        obtain ⟨E2, i2, rfl⟩ := hnet.a.cap fAnd_len
        obtain ⟨E3, i3, rfl⟩ := hnet.o.cap fInt_len
        have HNN := Lib.hid hnet
        have f0 := HBF.out.cells.1.1
        have f1 := HBF.out.cells.1.2.1
        have f2 := HBF.out.cells.1.2.2.1
        have f3 := HBF.out.cells.1.2.2.2
        have fz := HBF.out.cells.2
        clear hnet hb
        go_wp2
        ((try simp only [Exit.inBlock, Exit.then]); refine bodyPost_ret (v := (.tuple #[.agg #[.int .i64 m.1, .slice E1 m.2.1.length i1, .slice E2 m.2.2.1.length i2, .slice E3 m.2.2.2.length i3], .int .i64 x])) (by rw [results_cell_tmp rfl]; go_simp) rfl ?_)
        have P1 := (HNN.out.at (w' := ((((wz.setCell ⟨w.heap.size + 1, 0, none⟩ (.int .i64 m.1)).setCell ⟨w.heap.size + 1, 1, none⟩ (.slice E1 m.2.1.length i1)).setCell ⟨w.heap.size + 1, 2, none⟩ (.slice E2 m.2.2.1.length i2)).setCell ⟨w.heap.size + 1, 3, none⟩ (.slice E3 m.2.2.2.length i3))) fun b h1 h2 h3 => far4 (by omega)).lower (B' := w.heap.size) (by omega)
        have P2 : Below w.heap.size w ((((wz.setCell ⟨w.heap.size + 1, 0, none⟩ (.int .i64 m.1)).setCell ⟨w.heap.size + 1, 1, none⟩ (.slice E1 m.2.1.length i1)).setCell ⟨w.heap.size + 1, 2, none⟩ (.slice E2 m.2.2.1.length i2)).setCell ⟨w.heap.size + 1, 3, none⟩ (.slice E3 m.2.2.2.length i3)) := bSet (bSet (bSet (bSet HB5.out (Nat.le_succ _) _) (Nat.le_succ _) _) (Nat.le_succ _) _) (Nat.le_succ _) _
        first | exact ⟨_, _, _, rows3, bs3, rfl, P1, P2⟩ | exact ⟨_, _, _, rfl, rows3, bs3, P1, P2⟩ | exact ⟨_, _, _, rfl, ⟨rows3, bs3, P1⟩, P2⟩
  · have ho' := Option.some.inj ho
    subst ho'
    go_simp
    obtain ⟨wq8, hw2⟩ : ∃ x, x = (Wd.alloc (.cells #[.int .i64 0, .slice none 0 0, .slice none 0 0, .slice none 0 0] 28)) := ⟨_, rfl⟩
    rw [← hw2]
    have hbN : Below Wd.heap.size Wd wq8 := by rw [hw2]; exact bAlloc (Below.refl _ _) (Nat.le_refl _) _
    have HGz0 := Lib.hid (show BoxN wq8 Wd.heap.size (.int .i64 0) vNil vNil vNil by rw [hw2]; exact heap_alloc_new _ _)
    have hltwq8 : Wd.heap.size + 1 ≤ wq8.heap.size := by rw [hw2]; simp
    obtain ⟨G, hG⟩ : ∃ G, G = Wd.heap.size := ⟨_, rfl⟩
    rw [← hG] at HGz0 ⊢
    have HGz := HGz0
    have hG1 := Nat.le_of_eq hG
    have hG2 := Nat.le_of_eq hG.symm
    clear HGz0 hw2 hG
    have hszwq8 : Wd.heap.size ≤ wq8.heap.size := hbN.size
    replace HR := Lib.hid (HR.out.at (hbN.block _ HR.out.lt))
    replace HB := Lib.hid (bThen HB.out hbN)
    refine hK.out _ _ (hS hK0 hbN) (fun hK1 => ?_)
    clear hK K hK0 hbN
    (try simp only [Act.put, List.setIfInBounds_toArray, List.set_cons_zero, List.set_cons_succ])
    refine Kept.one 3 (by kernel_rfl) rfl (fun K hK => ?_)
    go_simp
    go_at_call 118
    refine (specNot_at b _ fb rfl).mono ?_
    rintro e wq8_3 ⟨rfl, hbN⟩
    have hszwq8_3 : wq8.heap.size ≤ wq8_3.heap.size := hbN.size
    replace HR := Lib.hid (HR.out.at (hbN.block _ HR.out.lt))
    replace HB := Lib.hid (bThen HB.out hbN)
    replace HGz := Lib.hid (HGz.out.at (hbN.block _ HGz.out.lt))
    go_simp
    refine hK.out _ _ (hS hK1 hbN) (fun hK2 => ?_)
    clear hK K hK1 hbN
    (try simp only [Act.put, List.setIfInBounds_toArray, List.set_cons_zero, List.set_cons_succ])
    refine Kept.one 4 (by kernel_rfl) rfl (fun K hK => ?_)
    go_simp
    go_at_call 40
    refine (specAnd_at n a (notI b) _ _ (rdUp good_Net HD.out HB.out) hq12 HIN.out (by omega) ho12 fa (notI_fit fb) HA.out).mono ?_
    rintro e wq8_3_4 ⟨v1, vA, v3, rows, bs, rfl, hnet, hbN⟩
    have HNB := Lib.hid (show ∀ b ∈ blkL v1 ++ (bs ++ (blkL vA ++ blkL v3)), wq8_3.heap.size ≤ b ∧ b < wq8_3_4.heap.size from fun b hb => ⟨(hnet.lt hb).2, (hnet.lt hb).1⟩)
    have HN := Lib.hid (hnet.lower (B' := w.heap.size + 2) (by omega))
    obtain ⟨A1, c1, rfl⟩ := HN.out.s.cap fV3_len
    obtain ⟨A2, c2, rfl⟩ := HN.out.a.cap fAnd_len
    obtain ⟨A3, c3, rfl⟩ := HN.out.o.cap fInt_len
    clear hnet
    have hszwq8_3_4 : wq8_3.heap.size ≤ wq8_3_4.heap.size := hbN.size
    replace HR := Lib.hid (HR.out.at (hbN.block _ HR.out.lt))
    replace HB := Lib.hid (bThen HB.out hbN)
    replace HGz := Lib.hid (HGz.out.at (hbN.block _ HGz.out.lt))
    go_simp
    refine hK.out _ _ (hS hK2 hbN) (fun hK3 => ?_)
    clear hK K hK2 hbN
    (try simp only [Act.put, List.setIfInBounds_toArray, List.set_cons_zero, List.set_cons_succ])
    refine Kept.take (v := ?vt8_3_4n5) 5 (by kernel_rfl) rfl (by kernel_rfl) (fun _ _ _ h => h) (Or.inl ⟨by rfl, ?hyt8_3_4n5⟩) hK3 ?restt8_3_4n5
    case hyt8_3_4n5 =>
      intro w0 hSw
      (try dsimp only at hSw)
      go_simp
      all_goals (with_reducible rfl)
    (try simp only [Act.put, List.setIfInBounds_toArray, List.set_cons_zero, List.set_cons_succ])
    refine Kept.take (v := ?vt8_3_4n6) 6 (by kernel_rfl) rfl (by kernel_rfl) (fun _ _ _ h => h) (Or.inl ⟨by rfl, ?hyt8_3_4n6⟩) hK3 ?restt8_3_4n6
    case hyt8_3_4n6 =>
      intro w0 hSw
      (try dsimp only at hSw)
      go_simp
      all_goals (with_reducible rfl)
    (try simp only [Act.put, List.setIfInBounds_toArray, List.set_cons_zero, List.set_cons_succ])
    refine Kept.take (v := ?vt8_3_4n7) 7 (by kernel_rfl) rfl (by kernel_rfl) (fun _ _ _ h => h) (Or.inl ⟨by rfl, ?hyt8_3_4n7⟩) hK3 ?restt8_3_4n7
    case hyt8_3_4n7 =>
      intro w0 hSw
      (try dsimp only at hSw)
      go_simp
      all_goals (with_reducible rfl)
    (try simp only [Act.put, List.setIfInBounds_toArray, List.set_cons_zero, List.set_cons_succ])
    have HOFF := Lib.hid (show ∀ b ∈ blkL (.slice A1 m1.2.1.length c1) ++ (bs ++ (blkL (.slice A2 m1.2.2.1.length c2) ++ blkL (.slice A3 m1.2.2.2.length c3))), b ≠ G from fun b hb => by have h1 := HNB.out b hb; have := HGz.out.lt; omega)
    have HC := Lib.hid (CopyAt.stored HGz.out HR.out HN.out HOFF.out HB.out (Nat.le_succ _) (by omega) (by omega))
    have k0 := HGz.out.cells.1.1
    have k1 := HGz.out.cells.1.2.1
    have k2 := HGz.out.cells.1.2.2.1
    have k3 := HGz.out.cells.1.2.2.2
    have kz := HGz.out.cells.2
    have hEG : w.heap.size ≠ G := by omega
    refine Kept.one 9 (by kernel_rfl) rfl (fun K hK => ?_)
    go_simp
    refine hK.out _ _ (⟨(World.cell?_of_block (far4 hEG)).trans hK3.1, (World.cell?_of_block (far4 hEG)).trans hK3.2.1, (World.cell?_of_block (far4 hEG)).trans hK3.2.2.1, (World.cell?_of_block (far4 hEG)).trans hK3.2.2.2⟩) (fun hK4 => ?_)
    clear hK K hK3 k0 k1 k2 k3 kz
    (try simp only [Act.put, List.setIfInBounds_toArray, List.set_cons_zero, List.set_cons_succ])
    refine Kept.tail (by rfl) (by kernel_rfl) ?_
    simp only [List.drop_succ_cons, List.drop_zero]
    obtain ⟨W9, hW9⟩ : ∃ x, x = ((((wq8_3_4.setCell ⟨G, 0, none⟩ (.int .i64 m1.1)).setCell ⟨G, 1, none⟩ (.slice A1 m1.2.1.length c1)).setCell ⟨G, 2, none⟩ (.slice A2 m1.2.2.1.length c2)).setCell ⟨G, 3, none⟩ (.slice A3 m1.2.2.2.length c3)) := ⟨_, rfl⟩
    rw [← hW9] at HC hK4 ⊢
    have d0 := hK4.1
    have d1 := hK4.2.1
    have d2 := hK4.2.2.1
    have d3 := hK4.2.2.2
    clear hW9 hK4 HGz HN HR HB
    have hb9 := HC.out.chg
    have HB := Lib.hid hb9
    go_wp2_with fail
    refine NoPanic.normal ?_
    have HB0 := Lib.hid hb9
    have g0 := HC.out.box.cells.1.1
    have g1 := HC.out.box.cells.1.2.1
    have g2 := HC.out.box.cells.1.2.2.1
    have g3 := HC.out.box.cells.1.2.2.2
    go_wp2_with fail
    refine wp_region_noPanic ?_
    refine wp_region_kept 9 10 (fun w' => w'.cell? ⟨w.heap.size, 0, none⟩ = some (.int .i64 n.1) ∧ w'.cell? ⟨w.heap.size, 1, none⟩ = some (.slice mA1 (n.2.1).length mc1) ∧ w'.cell? ⟨w.heap.size, 2, none⟩ = some (.slice mA2 (n.2.2.1).length mc2) ∧ w'.cell? ⟨w.heap.size, 3, none⟩ = some (.slice mA3 (n.2.2.2).length mc3)) (by kernel_rfl) rfl (hS ⟨d0, d1, d2, d3⟩ (Below.drew (Below.refl _ _))) (fun hL0 => ?_)
    obtain ⟨V0, hV0⟩ : ∃ x, x = W9.drew := ⟨_, rfl⟩
    have hbN : Below W9.heap.size W9 V0 := by rw [hV0]; exact Below.drew (Below.refl _ _)
    replace HC := Lib.hid (HC.out.below hbN)
    replace HB := Lib.hid (bThen HB.out hbN)
    rw [← hV0] at hL0 ⊢
    clear hV0 hbN d0 d1 d2 d3 g0 g1 g2 g3
    refine Kept.take (v := ?vt8_3_4nr1) 1 (by kernel_rfl) rfl (by kernel_rfl) (fun _ _ _ h => h) (Or.inl ⟨by rfl, ?hyt8_3_4nr1⟩) hL0 ?restt8_3_4nr1
    case hyt8_3_4nr1 =>
      intro w0 hSw
      (try dsimp only at hSw)
      go_simp
      all_goals (with_reducible rfl)
    (try simp only [Act.put, List.setIfInBounds_toArray, List.set_cons_zero, List.set_cons_succ])
    refine Kept.take (v := ?vt8_3_4nr3) 3 (by kernel_rfl) rfl (by kernel_rfl) (fun _ _ _ h => h) (Or.inl ⟨by rfl, ?hyt8_3_4nr3⟩) hL0 ?restt8_3_4nr3
    case hyt8_3_4nr3 =>
      intro w0 hSw
      (try dsimp only at hSw)
      go_simp
      all_goals (with_reducible rfl)
    (try simp only [Act.put, List.setIfInBounds_toArray, List.set_cons_zero, List.set_cons_succ])
    refine Kept.fork [0, 2] (by kernel_rfl) (by decide) (fun iF hi o ho K hK => ?_)
    simp only [List.mem_cons, List.not_mem_nil, or_false] at hi
    rcases hi with rfl | rfl
    · have ho' := Option.some.inj ho
      subst ho'
      have g0 := HC.out.box.cells.1.1
      have g1 := HC.out.box.cells.1.2.1
      have g2 := HC.out.box.cells.1.2.2.1
      have g3 := HC.out.box.cells.1.2.2.2
      go_simp
      clear g0 g1 g2 g3
      refine hK.out _ _ hL0 (fun hL1 => ?_)
      clear hK K hL0
      (try simp only [Act.put, List.setIfInBounds_toArray, List.set_cons_zero, List.set_cons_succ])
      refine Kept.one 2 (by kernel_rfl) rfl (fun K hK => ?_)
      go_simp
      go_at_call 118
      refine (specNot_at a _ fa rfl).mono ?_
      rintro e vq0_2 ⟨rfl, hbN⟩
      replace HC := Lib.hid (HC.out.below hbN)
      replace HB := Lib.hid (bThen HB.out hbN)
      go_simp
      refine hK.out _ _ (hS hL1 hbN) (fun hL2 => ?_)
      clear hK K hL1 hbN
      (try simp only [Act.put, List.setIfInBounds_toArray, List.set_cons_zero, List.set_cons_succ])
      refine Kept.one 4 (by kernel_rfl) rfl (fun K hK => ?_)
      go_simp
      go_at_call 40
      refine (specAnd_at m1 (notI a) b _ _ HC.out.net.rd0 l1 HIN1.out (by omega) l3 (notI_fit fa) fb HA2.out).mono ?_
      rintro e vq0_2_4 ⟨u1, uA, u3, rows2, bs2, rfl, hnet, hbN⟩
      have HNB2 := Lib.hid (show ∀ b ∈ blkL u1 ++ (bs2 ++ (blkL uA ++ blkL u3)), vq0_2.heap.size ≤ b ∧ b < vq0_2_4.heap.size from fun b hb => ⟨(hnet.lt hb).2, (hnet.lt hb).1⟩)
      have hcw := HC.out.chg.size
      have hcb := HC.out.box.lt
      have hcg := HC.out.hG
      have HN2 := Lib.hid (hnet.lower (B' := w.heap.size + 2) (by omega))
      obtain ⟨B1, e1, rfl⟩ := HN2.out.s.cap fV3_len
      obtain ⟨B2, e2, rfl⟩ := HN2.out.a.cap fAnd_len
      obtain ⟨B3, e3, rfl⟩ := HN2.out.o.cap fInt_len
      clear hnet
      replace HC := Lib.hid (HC.out.below hbN)
      replace HB := Lib.hid (bThen HB.out hbN)
      go_simp
      refine hK.out _ _ (hS hL2 hbN) (fun hL3 => ?_)
      clear hK K hL2 hbN
      (try simp only [Act.put, List.setIfInBounds_toArray, List.set_cons_zero, List.set_cons_succ])
      refine Kept.take (v := ?vt8_3_4ns0_2_4n5) 5 (by kernel_rfl) rfl (by kernel_rfl) (fun _ _ _ h => h) (Or.inl ⟨by rfl, ?hyt8_3_4ns0_2_4n5⟩) hL3 ?restt8_3_4ns0_2_4n5
      case hyt8_3_4ns0_2_4n5 =>
        intro w0 hSw
        (try dsimp only at hSw)
        go_simp
        all_goals (with_reducible rfl)
      (try simp only [Act.put, List.setIfInBounds_toArray, List.set_cons_zero, List.set_cons_succ])
      refine Kept.take (v := ?vt8_3_4ns0_2_4n6) 6 (by kernel_rfl) rfl (by kernel_rfl) (fun _ _ _ h => h) (Or.inl ⟨by rfl, ?hyt8_3_4ns0_2_4n6⟩) hL3 ?restt8_3_4ns0_2_4n6
      case hyt8_3_4ns0_2_4n6 =>
        intro w0 hSw
        (try dsimp only at hSw)
        go_simp
        all_goals (with_reducible rfl)
      (try simp only [Act.put, List.setIfInBounds_toArray, List.set_cons_zero, List.set_cons_succ])
      refine Kept.take (v := ?vt8_3_4ns0_2_4n7) 7 (by kernel_rfl) rfl (by kernel_rfl) (fun _ _ _ h => h) (Or.inl ⟨by rfl, ?hyt8_3_4ns0_2_4n7⟩) hL3 ?restt8_3_4ns0_2_4n7
      case hyt8_3_4ns0_2_4n7 =>
        intro w0 hSw
        (try dsimp only at hSw)
        go_simp
        all_goals (with_reducible rfl)
      (try simp only [Act.put, List.setIfInBounds_toArray, List.set_cons_zero, List.set_cons_succ])
      have HOFF2 := Lib.hid (show ∀ b ∈ blkL (.slice B1 m2.2.1.length e1) ++ (bs2 ++ (blkL (.slice B2 m2.2.2.1.length e2) ++ blkL (.slice B3 m2.2.2.2.length e3))), b ≠ G from fun b hb => by have h1 := HNB2.out b hb; omega)
      have HC2 := Lib.hid (CopyAt.over HC.out.box HC.out.res HN2.out HOFF2.out HB.out (Nat.le_succ _) (by omega) (by omega))
      have k0 := HC.out.box.cells.1.1
      have k1 := HC.out.box.cells.1.2.1
      have k2 := HC.out.box.cells.1.2.2.1
      have k3 := HC.out.box.cells.1.2.2.2
      have kz := HC.out.box.cells.2
      refine Kept.one 8 (by kernel_rfl) rfl (fun K hK => ?_)
      go_simp
      refine hK.out _ _ (⟨(World.cell?_of_block (far4 hEG)).trans hL3.1, (World.cell?_of_block (far4 hEG)).trans hL3.2.1, (World.cell?_of_block (far4 hEG)).trans hL3.2.2.1, (World.cell?_of_block (far4 hEG)).trans hL3.2.2.2⟩) (fun hL4 => ?_)
      clear hK K hL3 k0 k1 k2 k3 kz
      (try simp only [Act.put, List.setIfInBounds_toArray, List.set_cons_zero, List.set_cons_succ])
      refine Kept.tail (by rfl) (by kernel_rfl) ?_
      simp only [List.drop_succ_cons, List.drop_zero]
      obtain ⟨WX, hWX⟩ : ∃ x, x = ((((vq0_2_4.setCell ⟨G, 0, none⟩ (.int .i64 m2.1)).setCell ⟨G, 1, none⟩ (.slice B1 m2.2.1.length e1)).setCell ⟨G, 2, none⟩ (.slice B2 m2.2.2.1.length e2)).setCell ⟨G, 3, none⟩ (.slice B3 m2.2.2.2.length e3)) := ⟨_, rfl⟩
      rw [← hWX] at HC2 hL4 ⊢
      have d0 := hL4.1
      have d1 := hL4.2.1
      have d2 := hL4.2.2.1
      have d3 := hL4.2.2.2
      clear hWX hL4 HB
      have HBX := Lib.hid HC2.out.chg
      have g0 := HC2.out.box.cells.1.1
      have g1 := HC2.out.box.cells.1.2.1
      have g2 := HC2.out.box.cells.1.2.2.1
      have g3 := HC2.out.box.cells.1.2.2.2
      go_wp2_with fail
      refine NoPanic.normal ?_
      go_wp2_with fail
      refine (specJoin_at n m2 x1 x2 _ _ _ (rdUp good_Net HD.out HBX.out) HC2.out.net.rd0 hq12 HIN.out (by omega) ho12 l4 HIN2.out (by omega) l6 HXS.out HXS2.out HJ.out).mono ?_
      rintro e wz ⟨t1, tA, t3, rows3, bs3, rfl, hnet, hb⟩
      have HBF := Lib.hid (HC2.out.res.at (hb.block _ HC2.out.res.lt))
      have hws := HC2.out.res.lt
      have HB5 := Lib.hid (bThen HBX.out hb)
      obtain ⟨E1, i1, rfl⟩ := hnet.s.cap fV3_len
      obtain ⟨E2, i2, rfl⟩ := hnet.a.cap fAnd_len
      obtain ⟨E3, i3, rfl⟩ := hnet.o.cap fInt_len
      have HNN := Lib.hid hnet
      have f0 := HBF.out.cells.1.1
      have f1 := HBF.out.cells.1.2.1
      have f2 := HBF.out.cells.1.2.2.1
      have f3 := HBF.out.cells.1.2.2.2
      have fz := HBF.out.cells.2
      clear hnet hb
      go_wp2
      ((try simp only [Exit.inBlock, Exit.then]); refine bodyPost_ret (v := (.tuple #[.agg #[.int .i64 m.1, .slice E1 m.2.1.length i1, .slice E2 m.2.2.1.length i2, .slice E3 m.2.2.2.length i3], .int .i64 x])) (by rw [results_cell_tmp rfl]; go_simp) rfl ?_)
      have P1 := (HNN.out.at (w' := ((((wz.setCell ⟨w.heap.size + 1, 0, none⟩ (.int .i64 m.1)).setCell ⟨w.heap.size + 1, 1, none⟩ (.slice E1 m.2.1.length i1)).setCell ⟨w.heap.size + 1, 2, none⟩ (.slice E2 m.2.2.1.length i2)).setCell ⟨w.heap.size + 1, 3, none⟩ (.slice E3 m.2.2.2.length i3))) fun b h1 h2 h3 => far4 (by omega)).lower (B' := w.heap.size) (by omega)
      have P2 : Below w.heap.size w ((((wz.setCell ⟨w.heap.size + 1, 0, none⟩ (.int .i64 m.1)).setCell ⟨w.heap.size + 1, 1, none⟩ (.slice E1 m.2.1.length i1)).setCell ⟨w.heap.size + 1, 2, none⟩ (.slice E2 m.2.2.1.length i2)).setCell ⟨w.heap.size + 1, 3, none⟩ (.slice E3 m.2.2.2.length i3)) := bSet (bSet (bSet (bSet HB5.out (Nat.le_succ _) _) (Nat.le_succ _) _) (Nat.le_succ _) _) (Nat.le_succ _) _
      first | exact ⟨_, _, _, rows3, bs3, rfl, P1, P2⟩ | exact ⟨_, _, _, rfl, rows3, bs3, P1, P2⟩ | exact ⟨_, _, _, rfl, ⟨rows3, bs3, P1⟩, P2⟩
    · have ho' := Option.some.inj ho
      subst ho'
      go_simp
      go_at_call 118
      refine (specNot_at a _ fa rfl).mono ?_
      rintro e vq2 ⟨rfl, hbN⟩
      replace HC := Lib.hid (HC.out.below hbN)
      replace HB := Lib.hid (bThen HB.out hbN)
      go_simp
      refine hK.out _ _ (hS hL0 hbN) (fun hL1 => ?_)
      clear hK K hL0 hbN
      (try simp only [Act.put, List.setIfInBounds_toArray, List.set_cons_zero, List.set_cons_succ])
      refine Kept.one 0 (by kernel_rfl) rfl (fun K hK => ?_)
      have g0 := HC.out.box.cells.1.1
      have g1 := HC.out.box.cells.1.2.1
      have g2 := HC.out.box.cells.1.2.2.1
      have g3 := HC.out.box.cells.1.2.2.2
      go_simp
      clear g0 g1 g2 g3
      refine hK.out _ _ hL1 (fun hL2 => ?_)
      clear hK K hL1
      (try simp only [Act.put, List.setIfInBounds_toArray, List.set_cons_zero, List.set_cons_succ])
      refine Kept.one 4 (by kernel_rfl) rfl (fun K hK => ?_)
      go_simp
      go_at_call 40
      refine (specAnd_at m1 (notI a) b _ _ HC.out.net.rd0 l1 HIN1.out (by omega) l3 (notI_fit fa) fb HA2.out).mono ?_
      rintro e vq2_0_4 ⟨u1, uA, u3, rows2, bs2, rfl, hnet, hbN⟩
      have HNB2 := Lib.hid (show ∀ b ∈ blkL u1 ++ (bs2 ++ (blkL uA ++ blkL u3)), vq2.heap.size ≤ b ∧ b < vq2_0_4.heap.size from fun b hb => ⟨(hnet.lt hb).2, (hnet.lt hb).1⟩)
      have hcw := HC.out.chg.size
      have hcb := HC.out.box.lt
      have hcg := HC.out.hG
      have HN2 := Lib.hid (hnet.lower (B' := w.heap.size + 2) (by omega))
      obtain ⟨B1, e1, rfl⟩ := HN2.out.s.cap fV3_len
      obtain ⟨B2, e2, rfl⟩ := HN2.out.a.cap fAnd_len
      obtain ⟨B3, e3, rfl⟩ := HN2.out.o.cap fInt_len
      clear hnet
      replace HC := Lib.hid (HC.out.below hbN)
      replace HB := Lib.hid (bThen HB.out hbN)
      go_simp
      refine hK.out _ _ (hS hL2 hbN) (fun hL3 => ?_)
      clear hK K hL2 hbN
      (try simp only [Act.put, List.setIfInBounds_toArray, List.set_cons_zero, List.set_cons_succ])
      refine Kept.take (v := ?vt8_3_4ns2_0_4n5) 5 (by kernel_rfl) rfl (by kernel_rfl) (fun _ _ _ h => h) (Or.inl ⟨by rfl, ?hyt8_3_4ns2_0_4n5⟩) hL3 ?restt8_3_4ns2_0_4n5
      case hyt8_3_4ns2_0_4n5 =>
        intro w0 hSw
        (try dsimp only at hSw)
        go_simp
        all_goals (with_reducible rfl)
      (try simp only [Act.put, List.setIfInBounds_toArray, List.set_cons_zero, List.set_cons_succ])
      refine Kept.take (v := ?vt8_3_4ns2_0_4n6) 6 (by kernel_rfl) rfl (by kernel_rfl) (fun _ _ _ h => h) (Or.inl ⟨by rfl, ?hyt8_3_4ns2_0_4n6⟩) hL3 ?restt8_3_4ns2_0_4n6
      case hyt8_3_4ns2_0_4n6 =>
        intro w0 hSw
        (try dsimp only at hSw)
        go_simp
        all_goals (with_reducible rfl)
      (try simp only [Act.put, List.setIfInBounds_toArray, List.set_cons_zero, List.set_cons_succ])
      refine Kept.take (v := ?vt8_3_4ns2_0_4n7) 7 (by kernel_rfl) rfl (by kernel_rfl) (fun _ _ _ h => h) (Or.inl ⟨by rfl, ?hyt8_3_4ns2_0_4n7⟩) hL3 ?restt8_3_4ns2_0_4n7
      case hyt8_3_4ns2_0_4n7 =>
        intro w0 hSw
        (try dsimp only at hSw)
        go_simp
        all_goals (with_reducible rfl)
      (try simp only [Act.put, List.setIfInBounds_toArray, List.set_cons_zero, List.set_cons_succ])
      have HOFF2 := Lib.hid (show ∀ b ∈ blkL (.slice B1 m2.2.1.length e1) ++ (bs2 ++ (blkL (.slice B2 m2.2.2.1.length e2) ++ blkL (.slice B3 m2.2.2.2.length e3))), b ≠ G from fun b hb => by have h1 := HNB2.out b hb; omega)
      have HC2 := Lib.hid (CopyAt.over HC.out.box HC.out.res HN2.out HOFF2.out HB.out (Nat.le_succ _) (by omega) (by omega))
      have k0 := HC.out.box.cells.1.1
      have k1 := HC.out.box.cells.1.2.1
      have k2 := HC.out.box.cells.1.2.2.1
      have k3 := HC.out.box.cells.1.2.2.2
      have kz := HC.out.box.cells.2
      refine Kept.one 8 (by kernel_rfl) rfl (fun K hK => ?_)
      go_simp
      refine hK.out _ _ (⟨(World.cell?_of_block (far4 hEG)).trans hL3.1, (World.cell?_of_block (far4 hEG)).trans hL3.2.1, (World.cell?_of_block (far4 hEG)).trans hL3.2.2.1, (World.cell?_of_block (far4 hEG)).trans hL3.2.2.2⟩) (fun hL4 => ?_)
      clear hK K hL3 k0 k1 k2 k3 kz
      (try simp only [Act.put, List.setIfInBounds_toArray, List.set_cons_zero, List.set_cons_succ])
      refine Kept.tail (by rfl) (by kernel_rfl) ?_
      simp only [List.drop_succ_cons, List.drop_zero]
      obtain ⟨WX, hWX⟩ : ∃ x, x = ((((vq2_0_4.setCell ⟨G, 0, none⟩ (.int .i64 m2.1)).setCell ⟨G, 1, none⟩ (.slice B1 m2.2.1.length e1)).setCell ⟨G, 2, none⟩ (.slice B2 m2.2.2.1.length e2)).setCell ⟨G, 3, none⟩ (.slice B3 m2.2.2.2.length e3)) := ⟨_, rfl⟩
      rw [← hWX] at HC2 hL4 ⊢
      have d0 := hL4.1
      have d1 := hL4.2.1
      have d2 := hL4.2.2.1
      have d3 := hL4.2.2.2
      clear hWX hL4 HB
      have HBX := Lib.hid HC2.out.chg
      have g0 := HC2.out.box.cells.1.1
      have g1 := HC2.out.box.cells.1.2.1
      have g2 := HC2.out.box.cells.1.2.2.1
      have g3 := HC2.out.box.cells.1.2.2.2
      go_wp2_with fail
      refine NoPanic.normal ?_
      go_wp2_with fail
      refine (specJoin_at n m2 x1 x2 _ _ _ (rdUp good_Net HD.out HBX.out) HC2.out.net.rd0 hq12 HIN.out (by omega) ho12 l4 HIN2.out (by omega) l6 HXS.out HXS2.out HJ.out).mono ?_
      rintro e wz ⟨t1, tA, t3, rows3, bs3, rfl, hnet, hb⟩
      have HBF := Lib.hid (HC2.out.res.at (hb.block _ HC2.out.res.lt))
      have hws := HC2.out.res.lt
      have HB5 := Lib.hid (bThen HBX.out hb)
      obtain ⟨E1, i1, rfl⟩ := hnet.s.cap fV3_len
      obtain ⟨E2, i2, rfl⟩ := hnet.a.cap fAnd_len
      obtain ⟨E3, i3, rfl⟩ := hnet.o.cap fInt_len
      have HNN := Lib.hid hnet
      have f0 := HBF.out.cells.1.1
      have f1 := HBF.out.cells.1.2.1
      have f2 := HBF.out.cells.1.2.2.1
      have f3 := HBF.out.cells.1.2.2.2
      have fz := HBF.out.cells.2
      clear hnet hb
      go_wp2
      ((try simp only [Exit.inBlock, Exit.then]); refine bodyPost_ret (v := (.tuple #[.agg #[.int .i64 m.1, .slice E1 m.2.1.length i1, .slice E2 m.2.2.1.length i2, .slice E3 m.2.2.2.length i3], .int .i64 x])) (by rw [results_cell_tmp rfl]; go_simp) rfl ?_)
      have P1 := (HNN.out.at (w' := ((((wz.setCell ⟨w.heap.size + 1, 0, none⟩ (.int .i64 m.1)).setCell ⟨w.heap.size + 1, 1, none⟩ (.slice E1 m.2.1.length i1)).setCell ⟨w.heap.size + 1, 2, none⟩ (.slice E2 m.2.2.1.length i2)).setCell ⟨w.heap.size + 1, 3, none⟩ (.slice E3 m.2.2.2.length i3))) fun b h1 h2 h3 => far4 (by omega)).lower (B' := w.heap.size) (by omega)
      have P2 : Below w.heap.size w ((((wz.setCell ⟨w.heap.size + 1, 0, none⟩ (.int .i64 m.1)).setCell ⟨w.heap.size + 1, 1, none⟩ (.slice E1 m.2.1.length i1)).setCell ⟨w.heap.size + 1, 2, none⟩ (.slice E2 m.2.2.1.length i2)).setCell ⟨w.heap.size + 1, 3, none⟩ (.slice E3 m.2.2.2.length i3)) := bSet (bSet (bSet (bSet HB5.out (Nat.le_succ _) _) (Nat.le_succ _) _) (Nat.le_succ _) _) (Nat.le_succ _) _
      first | exact ⟨_, _, _, rows3, bs3, rfl, P1, P2⟩ | exact ⟨_, _, _, rfl, rows3, bs3, P1, P2⟩ | exact ⟨_, _, _, rfl, ⟨rows3, bs3, P1⟩, P2⟩
end Go.Proofs.Ytfncjgmmiihibaa
/- Hc7: AddMux: the specification. -/
namespace Go.Proofs.Ytfncjgmmiihibaa
open Go.RowKit
set_option linter.unusedVariables false
set_option linter.unusedSimpArgs false

theorem mux_bad {n : DNet} {s a b : Int} (h : ¬ (netB n = true ∧ litB (ncI n) s = true ∧ litB (ncI n) a = true ∧ litB (ncI n) b = true)) : muxO n s a b = (n, -1) := by unfold muxO; exact if_pos h
theorem mux_eq {n r m : DNet} {s a b x y : Int} (h : netB n = true ∧ litB (ncI n) s = true ∧ litB (ncI n) a = true ∧ litB (ncI n) b = true) (h1 : andO n s a = (r, x)) (h2 : andO r (notI s) b = (m, y)) : muxO n s a b = joinO n m x y := by unfold muxO; rw [if_neg (fun c => c h), h1]; dsimp only; rw [h2]
set_option maxRecDepth 100000 in
set_option maxHeartbeats 25600000 in
theorem specMux_at (n : DNet) (s a b : Int) (us : List Value) (w : World) (h : rdNet 0 w.heap.size w us n) (hq12 : n.2.1.length ≤ 3000000) (hin : ∀ s ∈ n.2.1, s.2.2.length ≤ 3000000) (ha12 : n.2.2.1.length ≤ 2000000) (ho12 : n.2.2.2.length ≤ 3000000) (fs : Fit s) (fa : Fit a) (fb : Fit b) {m : DNet} {x : Int} (hm : muxO n s a b = (m, x)) :
    Calls Try.prog 47 #[.agg us.toArray, .int .i64 s, .int .i64 a, .int .i64 b] w fun e w' => ∃ v1 vA v3 rows bs, e = .returned (.tuple #[.agg #[.int .i64 m.1, v1, vA, v3], .int .i64 x]) ∧ NetG w.heap.size w' v1 vA v3 rows bs m ∧ Below w.heap.size w w' := by
  have HD := Lib.hid h
  have HX := Lib.hid hm
  have HIN := Lib.hid hin
  obtain ⟨⟨m1, x1⟩, hA⟩ : ∃ r, andO n s a = r := ⟨_, rfl⟩
  obtain ⟨⟨m2, x2⟩, hA2⟩ : ∃ r, andO m1 (notI s) b = r := ⟨_, rfl⟩
  have HA := Lib.hid hA
  have HA2 := Lib.hid hA2
  have HXS := Lib.hid (show Fit x1 by have := andO_small (n := n) (a := s) (b := a); rw [hA] at this; dsimp only at this; unfold Fit; omega)
  have HXS2 := Lib.hid (show Fit x2 by have := andO_small (n := m1) (a := notI s) (b := b); rw [hA2] at this; dsimp only at this; unfold Fit; omega)
  have HP1 := andO_parts (n := n) (a := s) (b := a)
  have HP2 := andO_parts (n := m1) (a := notI s) (b := b)
  rw [hA] at HP1
  rw [hA2] at HP2
  dsimp only at HP1 HP2
  have l1 : m1.2.1.length ≤ 3000000 := by rw [HP1.2.1]; exact hq12
  have l2 : m1.2.2.1.length ≤ 2000001 := by have := HP1.2.2.2; omega
  have l3 : m1.2.2.2.length ≤ 3000000 := by rw [HP1.2.2.1]; exact ho12
  have l4 : m2.2.1.length ≤ 3000000 := by rw [HP2.2.1]; exact l1
  have l5 : m2.2.2.1.length ≤ 2000002 := by have := HP2.2.2.2; omega
  have l6 : m2.2.2.2.length ≤ 3000000 := by rw [HP2.2.2.1]; exact l3
  have HIN1 := Lib.hid (show ∀ s ∈ m1.2.1, s.2.2.length ≤ 3000000 by rw [HP1.2.1]; exact hin)
  have HIN2 := Lib.hid (show ∀ s ∈ m2.2.1, s.2.2.length ≤ 3000000 by rw [HP2.2.1, HP1.2.1]; exact hin)
  obtain ⟨f, hf⟩ : ∃ f, netB n = f := ⟨_, rfl⟩
  have HF := Lib.hid hf
  clear hm hin hA hA2 HP1 HP2 hf
  obtain ⟨mu0, mu1, mu2, mu3, rfl, mh0, mh1, mh2, mh3⟩ := h
  obtain ⟨me0, -⟩ := mh0
  injection me0 with me0
  subst me0
  obtain ⟨mA1, mc1, me1, mm1, -⟩ := slice_of mh1
  subst me1
  have mR1 := Lib.hid mh1
  clear mh1
  obtain ⟨mA2, mc2, me2, mm2, -⟩ := slice_of mh2
  subst me2
  have mR2 := Lib.hid mh2
  clear mh2
  obtain ⟨mA3, mc3, me3, mm3, -⟩ := slice_of mh3
  subst me3
  have mR3 := Lib.hid mh3
  clear mh3
  go_enter Try.func47, Try.ntmps47
  go_wp2_with fail
  obtain ⟨W0, hV⟩ : ∃ W0, W0 = ((w.alloc (.cells #[.int .i64 n.1, .slice mA1 (n.2.1).length mc1, .slice mA2 (n.2.2.1).length mc2, .slice mA3 (n.2.2.2).length mc3] 28)).alloc (.cells #[.int .i64 0, .slice none 0 0, .slice none 0 0, .slice none 0 0] 28)) := ⟨_, rfl⟩
  rw [← hV]
  have gN := eqbox2 hV
  have d0 : W0.cell? ⟨w.heap.size, 0, none⟩ = some (.int .i64 n.1) := box_cell gN.1 0 _ rfl
  have d1 : W0.cell? ⟨w.heap.size, 1, none⟩ = some (.slice mA1 (n.2.1).length mc1) := box_cell gN.1 1 _ rfl
  have d2 : W0.cell? ⟨w.heap.size, 2, none⟩ = some (.slice mA2 (n.2.2.1).length mc2) := box_cell gN.1 2 _ rfl
  have d3 : W0.cell? ⟨w.heap.size, 3, none⟩ = some (.slice mA3 (n.2.2.2).length mc3) := box_cell gN.1 3 _ rfl
  have r0 : W0.cell? ⟨w.heap.size + 1, 0, none⟩ = some (.int .i64 0) := box_cell gN.2.1 0 _ rfl
  have r1 : W0.cell? ⟨w.heap.size + 1, 1, none⟩ = some (.slice none 0 0) := box_cell gN.2.1 1 _ rfl
  have r2 : W0.cell? ⟨w.heap.size + 1, 2, none⟩ = some (.slice none 0 0) := box_cell gN.2.1 2 _ rfl
  have r3 : W0.cell? ⟨w.heap.size + 1, 3, none⟩ = some (.slice none 0 0) := box_cell gN.2.1 3 _ rfl
  have sW0 : W0.heap.size = w.heap.size + 2 := by rw [hV]; simp
  have HW0 := Lib.hid gN.2.2
  have HR := Lib.hid (show BoxN W0 (w.heap.size + 1) (.int .i64 0) vNil vNil vNil from gN.2.1)
  clear hV gN r0 r1 r2 r3
  have HB := Lib.hid HW0.out
  have hS : ∀ {w0 w' : World}, (fun w' => w'.cell? ⟨w.heap.size, 0, none⟩ = some (.int .i64 n.1) ∧ w'.cell? ⟨w.heap.size, 1, none⟩ = some (.slice mA1 (n.2.1).length mc1) ∧ w'.cell? ⟨w.heap.size, 2, none⟩ = some (.slice mA2 (n.2.2.1).length mc2) ∧ w'.cell? ⟨w.heap.size, 3, none⟩ = some (.slice mA3 (n.2.2.2).length mc3)) w0 → Below w0.heap.size w0 w' → (fun w' => w'.cell? ⟨w.heap.size, 0, none⟩ = some (.int .i64 n.1) ∧ w'.cell? ⟨w.heap.size, 1, none⟩ = some (.slice mA1 (n.2.1).length mc1) ∧ w'.cell? ⟨w.heap.size, 2, none⟩ = some (.slice mA2 (n.2.2.1).length mc2) ∧ w'.cell? ⟨w.heap.size, 3, none⟩ = some (.slice mA3 (n.2.2.2).length mc3)) w' := fun h hb => ⟨keep hb h.1, keep hb h.2.1, keep hb h.2.2.1, keep hb h.2.2.2⟩
  dsimp only at hS
  refine (specNc_at n _ _ (rdUp good_Net HD.out HB.out) (Nat.le_refl _) rfl).mono ?_
  rintro e w3 ⟨rfl, hb⟩
  replace HR := Lib.hid (HR.out.at (hb.block _ HR.out.lt))
  replace HB := Lib.hid (bThen HB.out hb)
  replace d0 := keep hb d0
  replace d1 := keep hb d1
  replace d2 := keep hb d2
  replace d3 := keep hb d3
  clear hb
  go_wp2_with fail
  refine (specNetOk_at n _ _ (rdUp good_Net HD.out HB.out) HF.out).mono ?_
  rintro e w4 ⟨rfl, hb⟩
  replace HR := Lib.hid (HR.out.at (hb.block _ HR.out.lt))
  replace HB := Lib.hid (bThen HB.out hb)
  replace d0 := keep hb d0
  replace d1 := keep hb d1
  replace d2 := keep hb d2
  replace d3 := keep hb d3
  clear hb
  cases f with
  | false =>
    have hE := Prod.mk.inj ((mux_bad (fun c => by rw [HF.out] at c; cases c.1)).symm.trans HX.out)
    obtain ⟨hE1, hE2⟩ := hE
    subst hE1 hE2
    go_wp2_with fail
    refine (specCopy_at n _ _ (rdUp good_Net HD.out HB.out) hq12 HIN.out (by omega) ho12).mono ?_
    rintro e wz ⟨t1, tA, t3, rows3, bs3, rfl, hnet, hb⟩
    have HBF := Lib.hid (HR.out.at (hb.block _ HR.out.lt))
    have hws := HR.out.lt
    have HB5 := Lib.hid (bThen HB.out hb)
    obtain ⟨E1, i1, rfl⟩ := hnet.s.cap fV3_len
    obtain ⟨E2, i2, rfl⟩ := hnet.a.cap fAnd_len
    obtain ⟨E3, i3, rfl⟩ := hnet.o.cap fInt_len
    have HNN := Lib.hid hnet
    have f0 := HBF.out.cells.1.1
    have f1 := HBF.out.cells.1.2.1
    have f2 := HBF.out.cells.1.2.2.1
    have f3 := HBF.out.cells.1.2.2.2
    have fz := HBF.out.cells.2
    clear hnet hb
    go_wp2
    ((try simp only [Exit.inBlock, Exit.then]); refine bodyPost_ret (v := (.tuple #[.agg #[.int .i64 n.1, .slice E1 n.2.1.length i1, .slice E2 n.2.2.1.length i2, .slice E3 n.2.2.2.length i3], .int .i64 (-1)])) (by rw [results_cell_tmp rfl]; go_simp) rfl ?_)
    have P1 := (HNN.out.at (w' := ((((wz.setCell ⟨w.heap.size + 1, 0, none⟩ (.int .i64 n.1)).setCell ⟨w.heap.size + 1, 1, none⟩ (.slice E1 n.2.1.length i1)).setCell ⟨w.heap.size + 1, 2, none⟩ (.slice E2 n.2.2.1.length i2)).setCell ⟨w.heap.size + 1, 3, none⟩ (.slice E3 n.2.2.2.length i3))) fun b h1 h2 h3 => far4 (by omega)).lower (B' := w.heap.size) (by omega)
    have P2 : Below w.heap.size w ((((wz.setCell ⟨w.heap.size + 1, 0, none⟩ (.int .i64 n.1)).setCell ⟨w.heap.size + 1, 1, none⟩ (.slice E1 n.2.1.length i1)).setCell ⟨w.heap.size + 1, 2, none⟩ (.slice E2 n.2.2.1.length i2)).setCell ⟨w.heap.size + 1, 3, none⟩ (.slice E3 n.2.2.2.length i3)) := bSet (bSet (bSet (bSet HB5.out (Nat.le_succ _) _) (Nat.le_succ _) _) (Nat.le_succ _) _) (Nat.le_succ _) _
    first | exact ⟨_, _, _, rows3, bs3, rfl, P1, P2⟩ | exact ⟨_, _, _, rfl, rows3, bs3, P1, P2⟩ | exact ⟨_, _, _, rfl, ⟨rows3, bs3, P1⟩, P2⟩
  | true =>
    obtain ⟨ls, hls⟩ : ∃ r, litB (ncI n) s = r := ⟨_, rfl⟩
    have HLS := Lib.hid hls
    clear hls
    go_wp2_with fail
    refine (specLit_at s (ncI n) _ fs HLS.out).mono ?_
    rintro e w5 ⟨rfl, hb⟩
    replace HR := Lib.hid (HR.out.at (hb.block _ HR.out.lt))
    replace HB := Lib.hid (bThen HB.out hb)
    replace d0 := keep hb d0
    replace d1 := keep hb d1
    replace d2 := keep hb d2
    replace d3 := keep hb d3
    clear hb
    cases ls with
    | false =>
      have hE := Prod.mk.inj ((mux_bad (fun c => by rw [HLS.out] at c; cases c.2.1)).symm.trans HX.out)
      obtain ⟨hE1, hE2⟩ := hE
      subst hE1 hE2
      go_wp2_with fail
      refine (specCopy_at n _ _ (rdUp good_Net HD.out HB.out) hq12 HIN.out (by omega) ho12).mono ?_
      rintro e wz ⟨t1, tA, t3, rows3, bs3, rfl, hnet, hb⟩
      have HBF := Lib.hid (HR.out.at (hb.block _ HR.out.lt))
      have hws := HR.out.lt
      have HB5 := Lib.hid (bThen HB.out hb)
      obtain ⟨E1, i1, rfl⟩ := hnet.s.cap fV3_len
      obtain ⟨E2, i2, rfl⟩ := hnet.a.cap fAnd_len
      obtain ⟨E3, i3, rfl⟩ := hnet.o.cap fInt_len
      have HNN := Lib.hid hnet
      have f0 := HBF.out.cells.1.1
      have f1 := HBF.out.cells.1.2.1
      have f2 := HBF.out.cells.1.2.2.1
      have f3 := HBF.out.cells.1.2.2.2
      have fz := HBF.out.cells.2
      clear hnet hb
      go_wp2
      ((try simp only [Exit.inBlock, Exit.then]); refine bodyPost_ret (v := (.tuple #[.agg #[.int .i64 n.1, .slice E1 n.2.1.length i1, .slice E2 n.2.2.1.length i2, .slice E3 n.2.2.2.length i3], .int .i64 (-1)])) (by rw [results_cell_tmp rfl]; go_simp) rfl ?_)
      have P1 := (HNN.out.at (w' := ((((wz.setCell ⟨w.heap.size + 1, 0, none⟩ (.int .i64 n.1)).setCell ⟨w.heap.size + 1, 1, none⟩ (.slice E1 n.2.1.length i1)).setCell ⟨w.heap.size + 1, 2, none⟩ (.slice E2 n.2.2.1.length i2)).setCell ⟨w.heap.size + 1, 3, none⟩ (.slice E3 n.2.2.2.length i3))) fun b h1 h2 h3 => far4 (by omega)).lower (B' := w.heap.size) (by omega)
      have P2 : Below w.heap.size w ((((wz.setCell ⟨w.heap.size + 1, 0, none⟩ (.int .i64 n.1)).setCell ⟨w.heap.size + 1, 1, none⟩ (.slice E1 n.2.1.length i1)).setCell ⟨w.heap.size + 1, 2, none⟩ (.slice E2 n.2.2.1.length i2)).setCell ⟨w.heap.size + 1, 3, none⟩ (.slice E3 n.2.2.2.length i3)) := bSet (bSet (bSet (bSet HB5.out (Nat.le_succ _) _) (Nat.le_succ _) _) (Nat.le_succ _) _) (Nat.le_succ _) _
      first | exact ⟨_, _, _, rows3, bs3, rfl, P1, P2⟩ | exact ⟨_, _, _, rfl, rows3, bs3, P1, P2⟩ | exact ⟨_, _, _, rfl, ⟨rows3, bs3, P1⟩, P2⟩
    | true =>
    obtain ⟨la, hla⟩ : ∃ r, litB (ncI n) a = r := ⟨_, rfl⟩
    have HLA := Lib.hid hla
    clear hla
    go_wp2_with fail
    refine (specLit_at a (ncI n) _ fa HLA.out).mono ?_
    rintro e w6 ⟨rfl, hb⟩
    replace HR := Lib.hid (HR.out.at (hb.block _ HR.out.lt))
    replace HB := Lib.hid (bThen HB.out hb)
    replace d0 := keep hb d0
    replace d1 := keep hb d1
    replace d2 := keep hb d2
    replace d3 := keep hb d3
    clear hb
    cases la with
    | false =>
      have hE := Prod.mk.inj ((mux_bad (fun c => by rw [HLA.out] at c; cases c.2.2.1)).symm.trans HX.out)
      obtain ⟨hE1, hE2⟩ := hE
      subst hE1 hE2
      go_wp2_with fail
      refine (specCopy_at n _ _ (rdUp good_Net HD.out HB.out) hq12 HIN.out (by omega) ho12).mono ?_
      rintro e wz ⟨t1, tA, t3, rows3, bs3, rfl, hnet, hb⟩
      have HBF := Lib.hid (HR.out.at (hb.block _ HR.out.lt))
      have hws := HR.out.lt
      have HB5 := Lib.hid (bThen HB.out hb)
      obtain ⟨E1, i1, rfl⟩ := hnet.s.cap fV3_len
      obtain ⟨E2, i2, rfl⟩ := hnet.a.cap fAnd_len
      obtain ⟨E3, i3, rfl⟩ := hnet.o.cap fInt_len
      have HNN := Lib.hid hnet
      have f0 := HBF.out.cells.1.1
      have f1 := HBF.out.cells.1.2.1
      have f2 := HBF.out.cells.1.2.2.1
      have f3 := HBF.out.cells.1.2.2.2
      have fz := HBF.out.cells.2
      clear hnet hb
      go_wp2
      ((try simp only [Exit.inBlock, Exit.then]); refine bodyPost_ret (v := (.tuple #[.agg #[.int .i64 n.1, .slice E1 n.2.1.length i1, .slice E2 n.2.2.1.length i2, .slice E3 n.2.2.2.length i3], .int .i64 (-1)])) (by rw [results_cell_tmp rfl]; go_simp) rfl ?_)
      have P1 := (HNN.out.at (w' := ((((wz.setCell ⟨w.heap.size + 1, 0, none⟩ (.int .i64 n.1)).setCell ⟨w.heap.size + 1, 1, none⟩ (.slice E1 n.2.1.length i1)).setCell ⟨w.heap.size + 1, 2, none⟩ (.slice E2 n.2.2.1.length i2)).setCell ⟨w.heap.size + 1, 3, none⟩ (.slice E3 n.2.2.2.length i3))) fun b h1 h2 h3 => far4 (by omega)).lower (B' := w.heap.size) (by omega)
      have P2 : Below w.heap.size w ((((wz.setCell ⟨w.heap.size + 1, 0, none⟩ (.int .i64 n.1)).setCell ⟨w.heap.size + 1, 1, none⟩ (.slice E1 n.2.1.length i1)).setCell ⟨w.heap.size + 1, 2, none⟩ (.slice E2 n.2.2.1.length i2)).setCell ⟨w.heap.size + 1, 3, none⟩ (.slice E3 n.2.2.2.length i3)) := bSet (bSet (bSet (bSet HB5.out (Nat.le_succ _) _) (Nat.le_succ _) _) (Nat.le_succ _) _) (Nat.le_succ _) _
      first | exact ⟨_, _, _, rows3, bs3, rfl, P1, P2⟩ | exact ⟨_, _, _, rfl, rows3, bs3, P1, P2⟩ | exact ⟨_, _, _, rfl, ⟨rows3, bs3, P1⟩, P2⟩
    | true =>
    obtain ⟨lb, hlb⟩ : ∃ r, litB (ncI n) b = r := ⟨_, rfl⟩
    have HLB := Lib.hid hlb
    clear hlb
    go_wp2_with fail
    refine (specLit_at b (ncI n) _ fb HLB.out).mono ?_
    rintro e w7 ⟨rfl, hb⟩
    replace HR := Lib.hid (HR.out.at (hb.block _ HR.out.lt))
    replace HB := Lib.hid (bThen HB.out hb)
    replace d0 := keep hb d0
    replace d1 := keep hb d1
    replace d2 := keep hb d2
    replace d3 := keep hb d3
    clear hb
    cases lb with
    | false =>
      have hE := Prod.mk.inj ((mux_bad (fun c => by rw [HLB.out] at c; cases c.2.2.2)).symm.trans HX.out)
      obtain ⟨hE1, hE2⟩ := hE
      subst hE1 hE2
      go_wp2_with fail
      refine (specCopy_at n _ _ (rdUp good_Net HD.out HB.out) hq12 HIN.out (by omega) ho12).mono ?_
      rintro e wz ⟨t1, tA, t3, rows3, bs3, rfl, hnet, hb⟩
      have HBF := Lib.hid (HR.out.at (hb.block _ HR.out.lt))
      have hws := HR.out.lt
      have HB5 := Lib.hid (bThen HB.out hb)
      obtain ⟨E1, i1, rfl⟩ := hnet.s.cap fV3_len
      obtain ⟨E2, i2, rfl⟩ := hnet.a.cap fAnd_len
      obtain ⟨E3, i3, rfl⟩ := hnet.o.cap fInt_len
      have HNN := Lib.hid hnet
      have f0 := HBF.out.cells.1.1
      have f1 := HBF.out.cells.1.2.1
      have f2 := HBF.out.cells.1.2.2.1
      have f3 := HBF.out.cells.1.2.2.2
      have fz := HBF.out.cells.2
      clear hnet hb
      go_wp2
      ((try simp only [Exit.inBlock, Exit.then]); refine bodyPost_ret (v := (.tuple #[.agg #[.int .i64 n.1, .slice E1 n.2.1.length i1, .slice E2 n.2.2.1.length i2, .slice E3 n.2.2.2.length i3], .int .i64 (-1)])) (by rw [results_cell_tmp rfl]; go_simp) rfl ?_)
      have P1 := (HNN.out.at (w' := ((((wz.setCell ⟨w.heap.size + 1, 0, none⟩ (.int .i64 n.1)).setCell ⟨w.heap.size + 1, 1, none⟩ (.slice E1 n.2.1.length i1)).setCell ⟨w.heap.size + 1, 2, none⟩ (.slice E2 n.2.2.1.length i2)).setCell ⟨w.heap.size + 1, 3, none⟩ (.slice E3 n.2.2.2.length i3))) fun b h1 h2 h3 => far4 (by omega)).lower (B' := w.heap.size) (by omega)
      have P2 : Below w.heap.size w ((((wz.setCell ⟨w.heap.size + 1, 0, none⟩ (.int .i64 n.1)).setCell ⟨w.heap.size + 1, 1, none⟩ (.slice E1 n.2.1.length i1)).setCell ⟨w.heap.size + 1, 2, none⟩ (.slice E2 n.2.2.1.length i2)).setCell ⟨w.heap.size + 1, 3, none⟩ (.slice E3 n.2.2.2.length i3)) := bSet (bSet (bSet (bSet HB5.out (Nat.le_succ _) _) (Nat.le_succ _) _) (Nat.le_succ _) _) (Nat.le_succ _) _
      first | exact ⟨_, _, _, rows3, bs3, rfl, P1, P2⟩ | exact ⟨_, _, _, rfl, rows3, bs3, P1, P2⟩ | exact ⟨_, _, _, rfl, ⟨rows3, bs3, P1⟩, P2⟩
    | true =>
    have HJ := Lib.hid ((mux_eq ⟨HF.out, HLS.out, HLA.out, HLB.out⟩ HA.out HA2.out).symm.trans HX.out)
    go_wp2_with fail
    refine (specAnd_at n s a _ _ (rdUp good_Net HD.out HB.out) hq12 HIN.out (by omega) ho12 fs fa HA.out).mono ?_
    rintro e w1 ⟨v1, vA, v3, rows, bs, rfl, hnet, hb⟩
    have hs7 := HB.out.size
    have hr7 := HR.out.lt
    have HN := Lib.hid (hnet.lower (B' := w.heap.size + 2) (by omega))
    obtain ⟨A1, c1, rfl⟩ := hnet.s.cap fV3_len
    obtain ⟨A2, c2, rfl⟩ := hnet.a.cap fAnd_len
    obtain ⟨A3, c3, rfl⟩ := hnet.o.cap fInt_len
    have hsz := hb.size
    replace HR := Lib.hid (HR.out.at (hb.block _ HR.out.lt))
    replace HB := Lib.hid (bThen HB.out hb)
    replace d0 := keep hb d0
    replace d1 := keep hb d1
    replace d2 := keep hb d2
    replace d3 := keep hb d3
    clear hb
    obtain ⟨W9, hW9⟩ : ∃ W9, W9 = w1.alloc (.cells #[.int .i64 m1.1, .slice A1 m1.2.1.length c1, .slice A2 m1.2.2.1.length c2, .slice A3 m1.2.2.2.length c3] 28) := ⟨_, rfl⟩
    have HC := Lib.hid (CopyAt.init (w0 := w) (F := w.heap.size + 1) hW9 HR.out HN.out HB.out (Nat.le_succ _) (by omega) (by omega))
    have hbb : Below w1.heap.size w1 W9 := by rw [hW9]; exact bAlloc (Below.refl _ _) (Nat.le_refl _) _
    replace d0 := keep hbb d0
    replace d1 := keep hbb d1
    replace d2 := keep hbb d2
    replace d3 := keep hbb d3
    replace HB := Lib.hid (bThen HB.out hbb)
    have y0 : (w1.alloc (.cells #[.int .i64 0, .slice none 0 0, .slice none 0 0, .slice none 0 0] 28)).cell? ⟨w1.heap.size, 0, none⟩ = some (.int .i64 0) := box_cell (heap_alloc_new w1 (.cells #[.int .i64 0, .slice none 0 0, .slice none 0 0, .slice none 0 0] 28)) 0 _ rfl
    have z0 : (w1.alloc (.cells #[.int .i64 0, .slice none 0 0, .slice none 0 0, .slice none 0 0] 28)).frozen? ⟨w1.heap.size, 0, none⟩ = false := frozen_of_row _ _ 0 _ _ (heap_alloc_new w1 (.cells #[.int .i64 0, .slice none 0 0, .slice none 0 0, .slice none 0 0] 28))
    have y1 : (w1.alloc (.cells #[.int .i64 m1.1, .slice none 0 0, .slice none 0 0, .slice none 0 0] 28)).cell? ⟨w1.heap.size, 1, none⟩ = some (.slice none 0 0) := box_cell (heap_alloc_new w1 (.cells #[.int .i64 m1.1, .slice none 0 0, .slice none 0 0, .slice none 0 0] 28)) 1 _ rfl
    have z1 : (w1.alloc (.cells #[.int .i64 m1.1, .slice none 0 0, .slice none 0 0, .slice none 0 0] 28)).frozen? ⟨w1.heap.size, 1, none⟩ = false := frozen_of_row _ _ 1 _ _ (heap_alloc_new w1 (.cells #[.int .i64 m1.1, .slice none 0 0, .slice none 0 0, .slice none 0 0] 28))
    have y2 : (w1.alloc (.cells #[.int .i64 m1.1, .slice A1 m1.2.1.length c1, .slice none 0 0, .slice none 0 0] 28)).cell? ⟨w1.heap.size, 2, none⟩ = some (.slice none 0 0) := box_cell (heap_alloc_new w1 (.cells #[.int .i64 m1.1, .slice A1 m1.2.1.length c1, .slice none 0 0, .slice none 0 0] 28)) 2 _ rfl
    have z2 : (w1.alloc (.cells #[.int .i64 m1.1, .slice A1 m1.2.1.length c1, .slice none 0 0, .slice none 0 0] 28)).frozen? ⟨w1.heap.size, 2, none⟩ = false := frozen_of_row _ _ 2 _ _ (heap_alloc_new w1 (.cells #[.int .i64 m1.1, .slice A1 m1.2.1.length c1, .slice none 0 0, .slice none 0 0] 28))
    have y3 : (w1.alloc (.cells #[.int .i64 m1.1, .slice A1 m1.2.1.length c1, .slice A2 m1.2.2.1.length c2, .slice none 0 0] 28)).cell? ⟨w1.heap.size, 3, none⟩ = some (.slice none 0 0) := box_cell (heap_alloc_new w1 (.cells #[.int .i64 m1.1, .slice A1 m1.2.1.length c1, .slice A2 m1.2.2.1.length c2, .slice none 0 0] 28)) 3 _ rfl
    have z3 : (w1.alloc (.cells #[.int .i64 m1.1, .slice A1 m1.2.1.length c1, .slice A2 m1.2.2.1.length c2, .slice none 0 0] 28)).frozen? ⟨w1.heap.size, 3, none⟩ = false := frozen_of_row _ _ 3 _ _ (heap_alloc_new w1 (.cells #[.int .i64 m1.1, .slice A1 m1.2.1.length c1, .slice A2 m1.2.2.1.length c2, .slice none 0 0] 28))
    have e0 := d0
    have e1 := d1
    have e2 := d2
    have e3 := d3
    rw [hW9] at e0 e1 e2 e3
    have HCW := Lib.hid (show CopyAt w (w1.alloc (.cells #[.int .i64 m1.1, .slice A1 m1.2.1.length c1, .slice A2 m1.2.2.1.length c2, .slice A3 m1.2.2.2.length c3] 28)) (w.heap.size + 1) w1.heap.size _ _ _ rows bs m1 by rw [← hW9]; exact HC.out)
    have g0 := HCW.out.box.cells.1.1
    have g1 := HCW.out.box.cells.1.2.1
    have g2 := HCW.out.box.cells.1.2.2.1
    have g3 := HCW.out.box.cells.1.2.2.2
    clear hbb hnet HR HN
    go_wp2_with fail
    rw [← hW9] at g0 g1 g2 g3 ⊢
    clear hW9 HCW e0 e1 e2 e3 y0 z0 y1 z1 y2 z2 y3 z3
    obtain ⟨G, hG⟩ : ∃ G, w1.heap.size = G := ⟨_, rfl⟩
    rw [hG] at HC g0 g1 g2 g3 ⊢
    have hEG : w.heap.size ≠ G := by have := HC.out.hG; omega
    have hrw := hr7
    clear hG hsz
    refine wp_region_noPanic ?_
    refine wp_region_kept 9 10 (fun w' => w'.cell? ⟨w.heap.size, 0, none⟩ = some (.int .i64 n.1) ∧ w'.cell? ⟨w.heap.size, 1, none⟩ = some (.slice mA1 (n.2.1).length mc1) ∧ w'.cell? ⟨w.heap.size, 2, none⟩ = some (.slice mA2 (n.2.2.1).length mc2) ∧ w'.cell? ⟨w.heap.size, 3, none⟩ = some (.slice mA3 (n.2.2.2).length mc3)) (by kernel_rfl) rfl (hS ⟨d0, d1, d2, d3⟩ (Below.drew (Below.refl _ _))) (fun hL0 => ?_)
    obtain ⟨V0, hV0⟩ : ∃ x, x = W9.drew := ⟨_, rfl⟩
    have hbN : Below W9.heap.size W9 V0 := by rw [hV0]; exact Below.drew (Below.refl _ _)
    replace HC := Lib.hid (HC.out.below hbN)
    replace HB := Lib.hid (bThen HB.out hbN)
    rw [← hV0] at hL0 ⊢
    clear hV0 hbN d0 d1 d2 d3 g0 g1 g2 g3
    refine Kept.take (v := ?vmxr1) 1 (by kernel_rfl) rfl (by kernel_rfl) (fun _ _ _ h => h) (Or.inl ⟨by rfl, ?hymxr1⟩) hL0 ?restmxr1
    case hymxr1 =>
      intro w0 hSw
      (try dsimp only at hSw)
      go_simp
      all_goals (with_reducible rfl)
    (try simp only [Act.put, List.setIfInBounds_toArray, List.set_cons_zero, List.set_cons_succ])
    refine Kept.take (v := ?vmxr3) 3 (by kernel_rfl) rfl (by kernel_rfl) (fun _ _ _ h => h) (Or.inl ⟨by rfl, ?hymxr3⟩) hL0 ?restmxr3
    case hymxr3 =>
      intro w0 hSw
      (try dsimp only at hSw)
      go_simp
      all_goals (with_reducible rfl)
    (try simp only [Act.put, List.setIfInBounds_toArray, List.set_cons_zero, List.set_cons_succ])
    refine Kept.fork [0, 2] (by kernel_rfl) (by decide) (fun iF hi o ho K hK => ?_)
    simp only [List.mem_cons, List.not_mem_nil, or_false] at hi
    rcases hi with rfl | rfl
    · have ho' := Option.some.inj ho
      subst ho'
      have g0 := HC.out.box.cells.1.1
      have g1 := HC.out.box.cells.1.2.1
      have g2 := HC.out.box.cells.1.2.2.1
      have g3 := HC.out.box.cells.1.2.2.2
      go_simp
      clear g0 g1 g2 g3
      refine hK.out _ _ hL0 (fun hL1 => ?_)
      clear hK K hL0
      (try simp only [Act.put, List.setIfInBounds_toArray, List.set_cons_zero, List.set_cons_succ])
      refine Kept.one 2 (by kernel_rfl) rfl (fun K hK => ?_)
      go_simp
      go_at_call 118
      refine (specNot_at s _ fs rfl).mono ?_
      rintro e vq0_2 ⟨rfl, hbN⟩
      replace HC := Lib.hid (HC.out.below hbN)
      replace HB := Lib.hid (bThen HB.out hbN)
      go_simp
      refine hK.out _ _ (hS hL1 hbN) (fun hL2 => ?_)
      clear hK K hL1 hbN
      (try simp only [Act.put, List.setIfInBounds_toArray, List.set_cons_zero, List.set_cons_succ])
      refine Kept.one 4 (by kernel_rfl) rfl (fun K hK => ?_)
      go_simp
      go_at_call 40
      refine (specAnd_at m1 (notI s) b _ _ HC.out.net.rd0 l1 HIN1.out (by omega) l3 (notI_fit fs) fb HA2.out).mono ?_
      rintro e vq0_2_4 ⟨u1, uA, u3, rows2, bs2, rfl, hnet, hbN⟩
      have HNB2 := Lib.hid (show ∀ b ∈ blkL u1 ++ (bs2 ++ (blkL uA ++ blkL u3)), vq0_2.heap.size ≤ b ∧ b < vq0_2_4.heap.size from fun b hb => ⟨(hnet.lt hb).2, (hnet.lt hb).1⟩)
      have hcw := HC.out.chg.size
      have hcb := HC.out.box.lt
      have hcg := HC.out.hG
      have HN2 := Lib.hid (hnet.lower (B' := w.heap.size + 2) (by omega))
      obtain ⟨B1, e1, rfl⟩ := HN2.out.s.cap fV3_len
      obtain ⟨B2, e2, rfl⟩ := HN2.out.a.cap fAnd_len
      obtain ⟨B3, e3, rfl⟩ := HN2.out.o.cap fInt_len
      clear hnet
      replace HC := Lib.hid (HC.out.below hbN)
      replace HB := Lib.hid (bThen HB.out hbN)
      go_simp
      refine hK.out _ _ (hS hL2 hbN) (fun hL3 => ?_)
      clear hK K hL2 hbN
      (try simp only [Act.put, List.setIfInBounds_toArray, List.set_cons_zero, List.set_cons_succ])
      refine Kept.take (v := ?vmxs0_2_4n5) 5 (by kernel_rfl) rfl (by kernel_rfl) (fun _ _ _ h => h) (Or.inl ⟨by rfl, ?hymxs0_2_4n5⟩) hL3 ?restmxs0_2_4n5
      case hymxs0_2_4n5 =>
        intro w0 hSw
        (try dsimp only at hSw)
        go_simp
        all_goals (with_reducible rfl)
      (try simp only [Act.put, List.setIfInBounds_toArray, List.set_cons_zero, List.set_cons_succ])
      refine Kept.take (v := ?vmxs0_2_4n6) 6 (by kernel_rfl) rfl (by kernel_rfl) (fun _ _ _ h => h) (Or.inl ⟨by rfl, ?hymxs0_2_4n6⟩) hL3 ?restmxs0_2_4n6
      case hymxs0_2_4n6 =>
        intro w0 hSw
        (try dsimp only at hSw)
        go_simp
        all_goals (with_reducible rfl)
      (try simp only [Act.put, List.setIfInBounds_toArray, List.set_cons_zero, List.set_cons_succ])
      refine Kept.take (v := ?vmxs0_2_4n7) 7 (by kernel_rfl) rfl (by kernel_rfl) (fun _ _ _ h => h) (Or.inl ⟨by rfl, ?hymxs0_2_4n7⟩) hL3 ?restmxs0_2_4n7
      case hymxs0_2_4n7 =>
        intro w0 hSw
        (try dsimp only at hSw)
        go_simp
        all_goals (with_reducible rfl)
      (try simp only [Act.put, List.setIfInBounds_toArray, List.set_cons_zero, List.set_cons_succ])
      have HOFF2 := Lib.hid (show ∀ b ∈ blkL (.slice B1 m2.2.1.length e1) ++ (bs2 ++ (blkL (.slice B2 m2.2.2.1.length e2) ++ blkL (.slice B3 m2.2.2.2.length e3))), b ≠ G from fun b hb => by have h1 := HNB2.out b hb; omega)
      have HC2 := Lib.hid (CopyAt.over HC.out.box HC.out.res HN2.out HOFF2.out HB.out (Nat.le_succ _) (by omega) (by omega))
      have k0 := HC.out.box.cells.1.1
      have k1 := HC.out.box.cells.1.2.1
      have k2 := HC.out.box.cells.1.2.2.1
      have k3 := HC.out.box.cells.1.2.2.2
      have kz := HC.out.box.cells.2
      refine Kept.one 8 (by kernel_rfl) rfl (fun K hK => ?_)
      go_simp
      refine hK.out _ _ (⟨(World.cell?_of_block (far4 hEG)).trans hL3.1, (World.cell?_of_block (far4 hEG)).trans hL3.2.1, (World.cell?_of_block (far4 hEG)).trans hL3.2.2.1, (World.cell?_of_block (far4 hEG)).trans hL3.2.2.2⟩) (fun hL4 => ?_)
      clear hK K hL3 k0 k1 k2 k3 kz
      (try simp only [Act.put, List.setIfInBounds_toArray, List.set_cons_zero, List.set_cons_succ])
      refine Kept.tail (by rfl) (by kernel_rfl) ?_
      simp only [List.drop_succ_cons, List.drop_zero]
      obtain ⟨WX, hWX⟩ : ∃ x, x = ((((vq0_2_4.setCell ⟨G, 0, none⟩ (.int .i64 m2.1)).setCell ⟨G, 1, none⟩ (.slice B1 m2.2.1.length e1)).setCell ⟨G, 2, none⟩ (.slice B2 m2.2.2.1.length e2)).setCell ⟨G, 3, none⟩ (.slice B3 m2.2.2.2.length e3)) := ⟨_, rfl⟩
      rw [← hWX] at HC2 hL4 ⊢
      have d0 := hL4.1
      have d1 := hL4.2.1
      have d2 := hL4.2.2.1
      have d3 := hL4.2.2.2
      clear hWX hL4 HB
      have HBX := Lib.hid HC2.out.chg
      have g0 := HC2.out.box.cells.1.1
      have g1 := HC2.out.box.cells.1.2.1
      have g2 := HC2.out.box.cells.1.2.2.1
      have g3 := HC2.out.box.cells.1.2.2.2
      go_wp2_with fail
      refine NoPanic.normal ?_
      go_wp2_with fail
      refine (specJoin_at n m2 x1 x2 _ _ _ (rdUp good_Net HD.out HBX.out) HC2.out.net.rd0 hq12 HIN.out (by omega) ho12 l4 HIN2.out (by omega) l6 HXS.out HXS2.out HJ.out).mono ?_
      rintro e wz ⟨t1, tA, t3, rows3, bs3, rfl, hnet, hb⟩
      have HBF := Lib.hid (HC2.out.res.at (hb.block _ HC2.out.res.lt))
      have hws := HC2.out.res.lt
      have HB5 := Lib.hid (bThen HBX.out hb)
      obtain ⟨E1, i1, rfl⟩ := hnet.s.cap fV3_len
      obtain ⟨E2, i2, rfl⟩ := hnet.a.cap fAnd_len
      obtain ⟨E3, i3, rfl⟩ := hnet.o.cap fInt_len
      have HNN := Lib.hid hnet
      have f0 := HBF.out.cells.1.1
      have f1 := HBF.out.cells.1.2.1
      have f2 := HBF.out.cells.1.2.2.1
      have f3 := HBF.out.cells.1.2.2.2
      have fz := HBF.out.cells.2
      clear hnet hb
      go_wp2
      ((try simp only [Exit.inBlock, Exit.then]); refine bodyPost_ret (v := (.tuple #[.agg #[.int .i64 m.1, .slice E1 m.2.1.length i1, .slice E2 m.2.2.1.length i2, .slice E3 m.2.2.2.length i3], .int .i64 x])) (by rw [results_cell_tmp rfl]; go_simp) rfl ?_)
      have P1 := (HNN.out.at (w' := ((((wz.setCell ⟨w.heap.size + 1, 0, none⟩ (.int .i64 m.1)).setCell ⟨w.heap.size + 1, 1, none⟩ (.slice E1 m.2.1.length i1)).setCell ⟨w.heap.size + 1, 2, none⟩ (.slice E2 m.2.2.1.length i2)).setCell ⟨w.heap.size + 1, 3, none⟩ (.slice E3 m.2.2.2.length i3))) fun b h1 h2 h3 => far4 (by omega)).lower (B' := w.heap.size) (by omega)
      have P2 : Below w.heap.size w ((((wz.setCell ⟨w.heap.size + 1, 0, none⟩ (.int .i64 m.1)).setCell ⟨w.heap.size + 1, 1, none⟩ (.slice E1 m.2.1.length i1)).setCell ⟨w.heap.size + 1, 2, none⟩ (.slice E2 m.2.2.1.length i2)).setCell ⟨w.heap.size + 1, 3, none⟩ (.slice E3 m.2.2.2.length i3)) := bSet (bSet (bSet (bSet HB5.out (Nat.le_succ _) _) (Nat.le_succ _) _) (Nat.le_succ _) _) (Nat.le_succ _) _
      first | exact ⟨_, _, _, rows3, bs3, rfl, P1, P2⟩ | exact ⟨_, _, _, rfl, rows3, bs3, P1, P2⟩ | exact ⟨_, _, _, rfl, ⟨rows3, bs3, P1⟩, P2⟩
    · have ho' := Option.some.inj ho
      subst ho'
      go_simp
      go_at_call 118
      refine (specNot_at s _ fs rfl).mono ?_
      rintro e vq2 ⟨rfl, hbN⟩
      replace HC := Lib.hid (HC.out.below hbN)
      replace HB := Lib.hid (bThen HB.out hbN)
      go_simp
      refine hK.out _ _ (hS hL0 hbN) (fun hL1 => ?_)
      clear hK K hL0 hbN
      (try simp only [Act.put, List.setIfInBounds_toArray, List.set_cons_zero, List.set_cons_succ])
      refine Kept.one 0 (by kernel_rfl) rfl (fun K hK => ?_)
      have g0 := HC.out.box.cells.1.1
      have g1 := HC.out.box.cells.1.2.1
      have g2 := HC.out.box.cells.1.2.2.1
      have g3 := HC.out.box.cells.1.2.2.2
      go_simp
      clear g0 g1 g2 g3
      refine hK.out _ _ hL1 (fun hL2 => ?_)
      clear hK K hL1
      (try simp only [Act.put, List.setIfInBounds_toArray, List.set_cons_zero, List.set_cons_succ])
      refine Kept.one 4 (by kernel_rfl) rfl (fun K hK => ?_)
      go_simp
      go_at_call 40
      refine (specAnd_at m1 (notI s) b _ _ HC.out.net.rd0 l1 HIN1.out (by omega) l3 (notI_fit fs) fb HA2.out).mono ?_
      rintro e vq2_0_4 ⟨u1, uA, u3, rows2, bs2, rfl, hnet, hbN⟩
      have HNB2 := Lib.hid (show ∀ b ∈ blkL u1 ++ (bs2 ++ (blkL uA ++ blkL u3)), vq2.heap.size ≤ b ∧ b < vq2_0_4.heap.size from fun b hb => ⟨(hnet.lt hb).2, (hnet.lt hb).1⟩)
      have hcw := HC.out.chg.size
      have hcb := HC.out.box.lt
      have hcg := HC.out.hG
      have HN2 := Lib.hid (hnet.lower (B' := w.heap.size + 2) (by omega))
      obtain ⟨B1, e1, rfl⟩ := HN2.out.s.cap fV3_len
      obtain ⟨B2, e2, rfl⟩ := HN2.out.a.cap fAnd_len
      obtain ⟨B3, e3, rfl⟩ := HN2.out.o.cap fInt_len
      clear hnet
      replace HC := Lib.hid (HC.out.below hbN)
      replace HB := Lib.hid (bThen HB.out hbN)
      go_simp
      refine hK.out _ _ (hS hL2 hbN) (fun hL3 => ?_)
      clear hK K hL2 hbN
      (try simp only [Act.put, List.setIfInBounds_toArray, List.set_cons_zero, List.set_cons_succ])
      refine Kept.take (v := ?vmxs2_0_4n5) 5 (by kernel_rfl) rfl (by kernel_rfl) (fun _ _ _ h => h) (Or.inl ⟨by rfl, ?hymxs2_0_4n5⟩) hL3 ?restmxs2_0_4n5
      case hymxs2_0_4n5 =>
        intro w0 hSw
        (try dsimp only at hSw)
        go_simp
        all_goals (with_reducible rfl)
      (try simp only [Act.put, List.setIfInBounds_toArray, List.set_cons_zero, List.set_cons_succ])
      refine Kept.take (v := ?vmxs2_0_4n6) 6 (by kernel_rfl) rfl (by kernel_rfl) (fun _ _ _ h => h) (Or.inl ⟨by rfl, ?hymxs2_0_4n6⟩) hL3 ?restmxs2_0_4n6
      case hymxs2_0_4n6 =>
        intro w0 hSw
        (try dsimp only at hSw)
        go_simp
        all_goals (with_reducible rfl)
      (try simp only [Act.put, List.setIfInBounds_toArray, List.set_cons_zero, List.set_cons_succ])
      refine Kept.take (v := ?vmxs2_0_4n7) 7 (by kernel_rfl) rfl (by kernel_rfl) (fun _ _ _ h => h) (Or.inl ⟨by rfl, ?hymxs2_0_4n7⟩) hL3 ?restmxs2_0_4n7
      case hymxs2_0_4n7 =>
        intro w0 hSw
        (try dsimp only at hSw)
        go_simp
        all_goals (with_reducible rfl)
      (try simp only [Act.put, List.setIfInBounds_toArray, List.set_cons_zero, List.set_cons_succ])
      have HOFF2 := Lib.hid (show ∀ b ∈ blkL (.slice B1 m2.2.1.length e1) ++ (bs2 ++ (blkL (.slice B2 m2.2.2.1.length e2) ++ blkL (.slice B3 m2.2.2.2.length e3))), b ≠ G from fun b hb => by have h1 := HNB2.out b hb; omega)
      have HC2 := Lib.hid (CopyAt.over HC.out.box HC.out.res HN2.out HOFF2.out HB.out (Nat.le_succ _) (by omega) (by omega))
      have k0 := HC.out.box.cells.1.1
      have k1 := HC.out.box.cells.1.2.1
      have k2 := HC.out.box.cells.1.2.2.1
      have k3 := HC.out.box.cells.1.2.2.2
      have kz := HC.out.box.cells.2
      refine Kept.one 8 (by kernel_rfl) rfl (fun K hK => ?_)
      go_simp
      refine hK.out _ _ (⟨(World.cell?_of_block (far4 hEG)).trans hL3.1, (World.cell?_of_block (far4 hEG)).trans hL3.2.1, (World.cell?_of_block (far4 hEG)).trans hL3.2.2.1, (World.cell?_of_block (far4 hEG)).trans hL3.2.2.2⟩) (fun hL4 => ?_)
      clear hK K hL3 k0 k1 k2 k3 kz
      (try simp only [Act.put, List.setIfInBounds_toArray, List.set_cons_zero, List.set_cons_succ])
      refine Kept.tail (by rfl) (by kernel_rfl) ?_
      simp only [List.drop_succ_cons, List.drop_zero]
      obtain ⟨WX, hWX⟩ : ∃ x, x = ((((vq2_0_4.setCell ⟨G, 0, none⟩ (.int .i64 m2.1)).setCell ⟨G, 1, none⟩ (.slice B1 m2.2.1.length e1)).setCell ⟨G, 2, none⟩ (.slice B2 m2.2.2.1.length e2)).setCell ⟨G, 3, none⟩ (.slice B3 m2.2.2.2.length e3)) := ⟨_, rfl⟩
      rw [← hWX] at HC2 hL4 ⊢
      have d0 := hL4.1
      have d1 := hL4.2.1
      have d2 := hL4.2.2.1
      have d3 := hL4.2.2.2
      clear hWX hL4 HB
      have HBX := Lib.hid HC2.out.chg
      have g0 := HC2.out.box.cells.1.1
      have g1 := HC2.out.box.cells.1.2.1
      have g2 := HC2.out.box.cells.1.2.2.1
      have g3 := HC2.out.box.cells.1.2.2.2
      go_wp2_with fail
      refine NoPanic.normal ?_
      go_wp2_with fail
      refine (specJoin_at n m2 x1 x2 _ _ _ (rdUp good_Net HD.out HBX.out) HC2.out.net.rd0 hq12 HIN.out (by omega) ho12 l4 HIN2.out (by omega) l6 HXS.out HXS2.out HJ.out).mono ?_
      rintro e wz ⟨t1, tA, t3, rows3, bs3, rfl, hnet, hb⟩
      have HBF := Lib.hid (HC2.out.res.at (hb.block _ HC2.out.res.lt))
      have hws := HC2.out.res.lt
      have HB5 := Lib.hid (bThen HBX.out hb)
      obtain ⟨E1, i1, rfl⟩ := hnet.s.cap fV3_len
      obtain ⟨E2, i2, rfl⟩ := hnet.a.cap fAnd_len
      obtain ⟨E3, i3, rfl⟩ := hnet.o.cap fInt_len
      have HNN := Lib.hid hnet
      have f0 := HBF.out.cells.1.1
      have f1 := HBF.out.cells.1.2.1
      have f2 := HBF.out.cells.1.2.2.1
      have f3 := HBF.out.cells.1.2.2.2
      have fz := HBF.out.cells.2
      clear hnet hb
      go_wp2
      ((try simp only [Exit.inBlock, Exit.then]); refine bodyPost_ret (v := (.tuple #[.agg #[.int .i64 m.1, .slice E1 m.2.1.length i1, .slice E2 m.2.2.1.length i2, .slice E3 m.2.2.2.length i3], .int .i64 x])) (by rw [results_cell_tmp rfl]; go_simp) rfl ?_)
      have P1 := (HNN.out.at (w' := ((((wz.setCell ⟨w.heap.size + 1, 0, none⟩ (.int .i64 m.1)).setCell ⟨w.heap.size + 1, 1, none⟩ (.slice E1 m.2.1.length i1)).setCell ⟨w.heap.size + 1, 2, none⟩ (.slice E2 m.2.2.1.length i2)).setCell ⟨w.heap.size + 1, 3, none⟩ (.slice E3 m.2.2.2.length i3))) fun b h1 h2 h3 => far4 (by omega)).lower (B' := w.heap.size) (by omega)
      have P2 : Below w.heap.size w ((((wz.setCell ⟨w.heap.size + 1, 0, none⟩ (.int .i64 m.1)).setCell ⟨w.heap.size + 1, 1, none⟩ (.slice E1 m.2.1.length i1)).setCell ⟨w.heap.size + 1, 2, none⟩ (.slice E2 m.2.2.1.length i2)).setCell ⟨w.heap.size + 1, 3, none⟩ (.slice E3 m.2.2.2.length i3)) := bSet (bSet (bSet (bSet HB5.out (Nat.le_succ _) _) (Nat.le_succ _) _) (Nat.le_succ _) _) (Nat.le_succ _) _
      first | exact ⟨_, _, _, rows3, bs3, rfl, P1, P2⟩ | exact ⟨_, _, _, rfl, rows3, bs3, P1, P2⟩ | exact ⟨_, _, _, rfl, ⟨rows3, bs3, P1⟩, P2⟩
end Go.Proofs.Ytfncjgmmiihibaa
