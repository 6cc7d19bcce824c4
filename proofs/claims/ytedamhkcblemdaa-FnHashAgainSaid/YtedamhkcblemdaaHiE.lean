/-
  A net rebuilt with copies of its literals: the program.
-/
import Derived.Test.YtedamhkcblemdaaHiP
import Derived.Deep.RegionHeld3
namespace Go.Proofs.Ytedamhkcblemdaa
open Go.RowKit
set_option linter.unusedVariables false
set_option linter.unusedSimpArgs false

set_option maxRecDepth 100000 in
set_option maxHeartbeats 25600000 in
theorem rebM_at (n : DNet) (al : List DAnd) (us : List Value) (v : Value) (w : World) (h : rdNet 0 w.heap.size w us n) (hv : rdAndS 0 w.heap.size w [v] al) (to : List Int) (tv : Value) (hto : rdIntS 0 w.heap.size w [tv] to) (hms : ∀ s ∈ n.2.1, MapsIn to s.2.2) (hmo : MapsIn to n.2.2.2) (hmf : ∀ x ∈ rootsL n, Fit (mapI to x)) (hq12 : n.2.1.length ≤ 1048576) (hin : ∀ s ∈ n.2.1, s.2.2.length ≤ 1048576) (ha12 : al.length ≤ 1048576) (ho12 : n.2.2.2.length ≤ 1048576) :
    Calls Try.prog 54 #[.agg us.toArray, v, .func (.func 55) #[tv] #[]] w fun e w' => ∃ v1 vA v3 rows bs, e = .returned (.agg #[.int .i64 n.1, v1, vA, v3]) ∧ NetG w.heap.size w' v1 vA v3 rows bs (n.1, (n.2.1.map fun s => (s.1, s.2.1, s.2.2.map (mapI to))), al, (n.2.2.2.map (mapI to))) ∧ Below w.heap.size w w' := by
  obtain ⟨iQ, hiQ, hzQ0, hzQ1, hzQ2⟩ := info_parts infoQ1
  have HD := Lib.hid h
  have HAL := Lib.hid hv
  have HIN := Lib.hid hin
  have HAF := Lib.hid (ands_fit hv)
  have HFN := Lib.hid (net_fit h).1
  have HOF := Lib.hid (fun x hx => hmf x (mem_rootsO hx))
  have HTO := Lib.hid hto
  have HMS := Lib.hid hms
  have HMO := Lib.hid hmo
  have HMF := Lib.hid hmf
  obtain ⟨tA, tc, rfl, tm, -⟩ := slice_of hto
  clear hto hms hmo hmf
  obtain ⟨vA, vc, rfl, vm, -⟩ := slice_of hv
  clear hv hin
  obtain ⟨mu0, mu1, mu2, mu3, rfl, mh0, mh1, mh2, mh3⟩ := h
  obtain ⟨me0, -⟩ := mh0
  injection me0 with me0
  subst me0
  obtain ⟨mA1, mc1, me1, mm1, -⟩ := slice_of mh1
  subst me1
  have mR1 := Lib.hid mh1
  clear mh1
  obtain ⟨mA2, mc2, me2, mm2, -⟩ := slice_of mh2
  subst me2
  have mR2 := Lib.hid mh2
  clear mh2
  obtain ⟨mA3, mc3, me3, mm3, -⟩ := slice_of mh3
  subst me3
  have mR3 := Lib.hid mh3
  clear mh3
  go_enter Try.func54, Try.ntmps54
  go_wp2_with fail
  obtain ⟨W0, hV⟩ : ∃ W0, W0 = ((w.alloc (.cells #[.int .i64 n.1, .slice mA1 (n.2.1).length mc1, .slice mA2 (n.2.2.1).length mc2, .slice mA3 (n.2.2.2).length mc3] 36)).alloc (.cells #[.int .i64 0, .slice none 0 0, .slice none 0 0, .slice none 0 0] 36)) := ⟨_, rfl⟩
  rw [← hV]
  have gN := eqbox2 hV
  have d0 : W0.cell? ⟨w.heap.size, 0, none⟩ = some (.int .i64 n.1) := box_cell gN.1 0 _ rfl
  have d1 : W0.cell? ⟨w.heap.size, 1, none⟩ = some (.slice mA1 (n.2.1).length mc1) := box_cell gN.1 1 _ rfl
  have d2 : W0.cell? ⟨w.heap.size, 2, none⟩ = some (.slice mA2 (n.2.2.1).length mc2) := box_cell gN.1 2 _ rfl
  have d3 : W0.cell? ⟨w.heap.size, 3, none⟩ = some (.slice mA3 (n.2.2.2).length mc3) := box_cell gN.1 3 _ rfl
  have HW0 := Lib.hid gN.2.2
  have HRES := Lib.hid (show BoxN W0 (w.heap.size + 1) (.int .i64 0) vNil vNil vNil from gN.2.1)
  have sW0 : W0.heap.size = w.heap.size + 2 := by rw [hV]; simp
  have sC := Nat.le_of_eq sW0
  have sD := Nat.le_of_eq sW0.symm
  clear hV gN sW0
  have hS0 : (fun w' => Below W0.heap.size W0 w' ∧ w'.cell? ⟨w.heap.size, 0, none⟩ = some (.int .i64 n.1) ∧ w'.cell? ⟨w.heap.size, 1, none⟩ = some (.slice mA1 (n.2.1).length mc1) ∧ w'.cell? ⟨w.heap.size, 2, none⟩ = some (.slice mA2 (n.2.2.1).length mc2) ∧ w'.cell? ⟨w.heap.size, 3, none⟩ = some (.slice mA3 (n.2.2.2).length mc3)) W0 := ⟨Below.refl _ _, d0, d1, d2, d3⟩
  have hS : ∀ {w0 w' : World}, (fun w' => Below W0.heap.size W0 w' ∧ w'.cell? ⟨w.heap.size, 0, none⟩ = some (.int .i64 n.1) ∧ w'.cell? ⟨w.heap.size, 1, none⟩ = some (.slice mA1 (n.2.1).length mc1) ∧ w'.cell? ⟨w.heap.size, 2, none⟩ = some (.slice mA2 (n.2.2.1).length mc2) ∧ w'.cell? ⟨w.heap.size, 3, none⟩ = some (.slice mA3 (n.2.2.2).length mc3)) w0 → Below w0.heap.size w0 w' → (fun w' => Below W0.heap.size W0 w' ∧ w'.cell? ⟨w.heap.size, 0, none⟩ = some (.int .i64 n.1) ∧ w'.cell? ⟨w.heap.size, 1, none⟩ = some (.slice mA1 (n.2.1).length mc1) ∧ w'.cell? ⟨w.heap.size, 2, none⟩ = some (.slice mA2 (n.2.2.1).length mc2) ∧ w'.cell? ⟨w.heap.size, 3, none⟩ = some (.slice mA3 (n.2.2.2).length mc3)) w' := fun h hb => ⟨bThen h.1 hb, keep hb h.2.1, keep hb h.2.2.1, keep hb h.2.2.2.1, keep hb h.2.2.2.2⟩
  dsimp only at hS0 hS
  refine wp_region_noPanic ?_
  refine wp_region_kept 10 11 (fun w' => Below W0.heap.size W0 w' ∧ w'.cell? ⟨w.heap.size, 0, none⟩ = some (.int .i64 n.1) ∧ w'.cell? ⟨w.heap.size, 1, none⟩ = some (.slice mA1 (n.2.1).length mc1) ∧ w'.cell? ⟨w.heap.size, 2, none⟩ = some (.slice mA2 (n.2.2.1).length mc2) ∧ w'.cell? ⟨w.heap.size, 3, none⟩ = some (.slice mA3 (n.2.2.2).length mc3)) (by kernel_rfl) rfl (hS hS0 (Below.drew (Below.refl _ _))) (fun hK0 => ?_)
  refine Kept.take (v := ?va0) 0 (by kernel_rfl) rfl (by kernel_rfl) (fun _ _ _ h => h) (Or.inl ⟨by rfl, ?hya0⟩) hK0 ?resta0
  case hya0 =>
    intro w0 hSw
    (try dsimp only at hSw)
    go_simp
    all_goals (with_reducible rfl)
  (try simp only [Act.put, List.setIfInBounds_toArray, List.set_cons_zero, List.set_cons_succ])
  refine Kept.take (v := ?va1) 1 (by kernel_rfl) rfl (by kernel_rfl) (fun _ _ _ h => h) (Or.inl ⟨by rfl, ?hya1⟩) hK0 ?resta1
  case hya1 =>
    intro w0 hSw
    (try dsimp only at hSw)
    go_simp
    all_goals (with_reducible rfl)
  (try simp only [Act.put, List.setIfInBounds_toArray, List.set_cons_zero, List.set_cons_succ])
  refine Kept.take (v := ?va2) 2 (by kernel_rfl) rfl (by kernel_rfl) (fun _ _ _ h => h) (Or.inl ⟨by rfl, ?hya2⟩) hK0 ?resta2
  case hya2 =>
    intro w0 hSw
    (try dsimp only at hSw)
    go_simp
    all_goals (with_reducible rfl)
  (try simp only [Act.put, List.setIfInBounds_toArray, List.set_cons_zero, List.set_cons_succ])
  refine Kept.take (v := ?va4) 4 (by kernel_rfl) rfl (by kernel_rfl) (fun _ _ _ h => h) (Or.inl ⟨by rfl, ?hya4⟩) hK0 ?resta4
  case hya4 =>
    intro w0 hSw
    (try dsimp only at hSw)
    go_simp
    all_goals (with_reducible rfl)
  (try simp only [Act.put, List.setIfInBounds_toArray, List.set_cons_zero, List.set_cons_succ])
  refine Kept.take (v := ?va5) 5 (by kernel_rfl) rfl (by kernel_rfl) (fun _ _ _ h => h) (Or.inl ⟨by rfl, ?hya5⟩) hK0 ?resta5
  case hya5 =>
    intro w0 hSw
    (try dsimp only at hSw)
    go_simp
    all_goals (with_reducible rfl)
  (try simp only [Act.put, List.setIfInBounds_toArray, List.set_cons_zero, List.set_cons_succ])
  refine Kept.take (v := ?va6) 6 (by kernel_rfl) rfl (by kernel_rfl) (fun _ _ _ h => h) (Or.inl ⟨by rfl, ?hya6⟩) hK0 ?resta6
  case hya6 =>
    intro w0 hSw
    (try dsimp only at hSw)
    go_simp
    all_goals (with_reducible rfl)
  (try simp only [Act.put, List.setIfInBounds_toArray, List.set_cons_zero, List.set_cons_succ])
  refine Kept.rg (sz := 39) (g := 1) [(3, 13), (7, 17), (8, 18), (9, 7)] [3, 7, 9] (fun kO vals w' => match kO with
    | 3 => ∃ A c, vals 3 = .slice A al.length c ∧ OwnsR fAnd 2 67 w' W0.heap.size (vals 3) al
    | 7 => ∃ A c, vals 7 = .slice A n.2.2.2.length c ∧ OwnsI w' W0.heap.size (vals 7) (n.2.2.2.map (mapI to))
    | 8 => vals 8 = .agg #[.int .i64 n.1, .slice none 0 0, vals 3, vals 7]
    | 9 => ∃ g, vals 9 = .pointer (some ⟨g, 0, none⟩) ∧ w'.heap[g]? = some (.cells #[.int .i64 0, .slice none 0 0, .slice none 0 0, .slice none 0 0] 36 (0, 0)) ∧ W0.heap.size ≤ g
    | _ => True) (by kernel_rfl) (by kernel_rfl) hK0 (fun _ _ _ h => h) ?hSR ?hloc ?hstep ?hend
  case hSR =>
    intro k hk vals wa wb h hb
    simp only [List.map_cons, List.map_nil, List.mem_cons, List.not_mem_nil, or_false] at hk
    rcases hk with rfl | rfl | rfl | rfl
    · obtain ⟨A, c, e, ho⟩ := h; exact ⟨A, c, e, OwnsR.below ho hb⟩
    · obtain ⟨A, c, e, ho⟩ := h; exact ⟨A, c, e, ho.below hb⟩
    · exact h
    · obtain ⟨g, e, ho, hB⟩ := h; exact ⟨g, e, rowB' hb ho, hB⟩
  case hloc =>
    intro k j hk hj hne hw vals v wa h
    simp only [List.map_cons, List.map_nil, List.mem_cons, List.not_mem_nil, or_false] at hk hj
    rcases hk with rfl | rfl | rfl | rfl <;> rcases hj with rfl | rfl | rfl | rfl <;> first | exact absurd rfl hne | exact h | exact absurd (hw.symm.trans (by kernel_rfl : _ = true)) (by decide)
  case hstep =>
    intro k t o hm ho vals wA hSA hpre
    simp only [List.mem_cons, List.not_mem_nil, or_false, Prod.mk.injEq] at hm
    rcases hm with ⟨rfl, rfl⟩ | ⟨rfl, rfl⟩ | ⟨rfl, rfl⟩ | ⟨rfl, rfl⟩
    · have ho' := Option.some.inj ho
      subst ho'
      unfold RgStep
      rw [if_pos (by rfl)]
      intro K hK
      have hSw := hSA
      (try dsimp only at hSw)
      clear hpre
      simp only [fillA, Act.put, List.setIfInBounds_toArray, List.set_cons_zero, List.set_cons_succ]
      go_simp
      go_at_call 107
      refine (cloneAnd_at al _ _ _ _ (rdUp good_AndS HAL.out (bThen HW0.out hSA.1)) (by omega)).mono ?_
      rintro e wB ⟨A, c, rfl, hg, hb⟩
      have hoB := hg.own
      have htb := topB_row hoB
      have hK' := hK (.slice A al.length c) wB (hS hSA hb) hb ⟨A, c, upd_self _ _ _, by rw [upd_self]; exact OwnsR.mono hoB hSA.1.size⟩ (fun _ b hb' => htb b hb')
      clear hK htb hoB hg
      simp only [fillA, Act.put, List.setIfInBounds_toArray, List.set_cons_zero, List.set_cons_succ] at hK'
      go_simp
      all_goals exact hK'
    · have ho' := Option.some.inj ho
      subst ho'
      unfold RgStep
      rw [if_pos (by rfl)]
      intro K hK
      have hSw := hSA
      (try dsimp only at hSw)
      clear hpre
      simp only [fillA, Act.put, List.setIfInBounds_toArray, List.set_cons_zero, List.set_cons_succ]
      go_simp
      go_at_call 55
      refine (all_at to n.2.2.2 _ _ _ (rdUp good_IntS HTO.out (bThen HW0.out hSA.1)) (rdUp good_IntS mR3.out (bThen HW0.out hSA.1)) (Nat.le_refl _) (HMO.out) (by omega)).mono ?_
      rintro e wB ⟨v, rfl, hoB, hb⟩
      obtain ⟨A, c, rfl, -⟩ := hoB.shape
      (try simp only [List.length_map] at hoB ⊢)
      have htb := topB_own hoB
      have hK' := hK (.slice A n.2.2.2.length c) wB (hS hSA hb) hb ⟨A, c, upd_self _ _ _, by rw [upd_self]; exact hoB.lower hSA.1.size⟩ (fun _ b hb' => htb b hb')
      clear hK htb hoB
      simp only [fillA, Act.put, List.setIfInBounds_toArray, List.set_cons_zero, List.set_cons_succ] at hK'
      go_simp
      all_goals exact hK'
    · have ho' := Option.some.inj ho
      subst ho'
      obtain ⟨A3, c3, e3, -⟩ := hpre 3 (by kernel_rfl) (by decide)
      obtain ⟨A7, c7, e7, -⟩ := hpre 7 (by kernel_rfl) (by decide)
      unfold RgStep
      rw [if_pos (by rfl)]
      intro K hK
      have hK' := hK (.agg #[.int .i64 n.1, .slice none 0 0, vals 3, vals 7]) wA hSA (Below.refl _ _) (by
        show upd vals 8 _ 8 = .agg #[.int .i64 n.1, .slice none 0 0, upd vals 8 _ 3, upd vals 8 _ 7]
        rw [upd_self, upd_ne _ _ (by decide), upd_ne _ _ (by decide)]) (fun h => absurd h (by decide))
      clear hK hpre
      simp only [fillA, Act.put, List.setIfInBounds_toArray, List.set_cons_zero, List.set_cons_succ] at hK' ⊢
      rw [e3, e7] at hK' ⊢
      go_simp
      all_goals exact hK'
    · have ho' := Option.some.inj ho
      subst ho'
      unfold RgStep
      rw [if_pos (by rfl)]
      intro K hK
      have hBA : W0.heap.size ≤ wA.heap.size := hSA.1.size
      have hK' := hK (.pointer (some ⟨wA.heap.size, 0, none⟩)) (wA.alloc (.cells #[.int .i64 0, .slice none 0 0, .slice none 0 0, .slice none 0 0] 36)) (hS hSA (bAlloc (Below.refl _ _) (Nat.le_refl _) _)) (bAlloc (Below.refl _ _) (Nat.le_refl _) _) ⟨_, rfl, heap_alloc_new _ _, hBA⟩ (fun _ b hb => by
        have hb' : b = wA.heap.size := by simpa [topB] using hb
        subst hb'
        simp)
      clear hK hpre
      simp only [fillA, Act.put, List.setIfInBounds_toArray, List.set_cons_zero, List.set_cons_succ] at hK' ⊢
      go_simp
      all_goals exact hK'
  intro vals wB hSB hR hap
  obtain ⟨A2, c2, e3, o3⟩ := hR 3 (by decide)
  obtain ⟨A3, c3, e7, o7⟩ := hR 7 (by decide)
  have e8 : vals 8 = .agg #[.int .i64 n.1, .slice none 0 0, vals 3, vals 7] := hR 8 (by decide)
  obtain ⟨G, e9, hF, hFB⟩ := hR 9 (by decide)
  have a37 := hap 3 7 (by decide) (by decide) (by decide)
  have a39 := hap 3 9 (by decide) (by decide) (by decide)
  have a79 := hap 7 9 (by decide) (by decide) (by decide)
  rw [e3, e7] at a37
  rw [e3, e9] at a39
  rw [e7, e9] at a79
  rw [e3] at o3
  rw [e7] at o7
  rw [e3, e7] at e8
  simp only [fillA, Act.put, List.setIfInBounds_toArray, List.set_cons_zero, List.set_cons_succ]
  rw [e8, e9]
  have hneA : ∀ b, (Value.slice A2 al.length c2).ownBlock = some b → b ≠ G := fun b e h => a39 b (row_topB o3 e) (by subst h; simp [topB])
  have hneO : ∀ b, (Value.slice A3 n.2.2.2.length c3).ownBlock = some b → b ≠ G := fun b e h => a79 b (own_topB o7 e) (by subst h; simp [topB])
  have hneAO : ∀ b ∈ blkL (Value.slice A2 al.length c2), b ∉ blkL (Value.slice A3 n.2.2.2.length c3) := fun b h1 h2 => a37 b (row_topB o3 (mem_blkL.1 h1)) (own_topB o7 (mem_blkL.1 h2))
  clear hap a37 a39 a79 hR e3 e7 e8 e9
  have f0 := box_cell hF 0 _ rfl
  have f1 := box_cell hF 1 _ rfl
  have f2 := box_cell hF 2 _ rfl
  have f3 := box_cell hF 3 _ rfl
  have z0 := frozen_of_row _ _ 0 _ _ hF
  have z1 := frozen_of_row _ _ 1 _ _ hF
  have z2 := frozen_of_row _ _ 2 _ _ hF
  have z3 := frozen_of_row _ _ 3 _ _ hF
  have HNET := Lib.hid (show NetG (w.heap.size + 2) wB (.slice none 0 0) (.slice A2 al.length c2) (.slice A3 n.2.2.2.length c3) [] [] (n.1, [], al, (n.2.2.2.map (mapI to))) from
    ⟨GrR.nil _ _ _ _ _ _, gr_lower (gr_flat o3 fun x hx => owAnd_of (HAF.out x hx).1 (HAF.out x hx).2 _) (by omega), gr_lower (gr_own o7 (map_fit HOF.out)) (by omega), (fun b hb => by simp [blkL_nil] at hb), (fun b hb => by simp [blkL_nil] at hb), hneAO, HFN.out⟩)
  have HOFF := Lib.hid (show ∀ b ∈ blkL (Value.slice none 0 0) ++ ([] ++ (blkL (.slice A2 al.length c2) ++ blkL (.slice A3 n.2.2.2.length c3))), b ≠ G from fun b hb => by
    simp only [blkL_nil, List.nil_append] at hb
    rcases List.mem_append.1 hb with hb | hb
    · exact hneA b (mem_blkL.1 hb)
    · exact hneO b (mem_blkL.1 hb))
  have HBB := Lib.hid (bThen HW0.out hSB.1)
  have HRB := Lib.hid (HRES.out.at (hSB.1.block _ HRES.out.lt))
  have HC := Lib.hid (CopyAt.stored (F := w.heap.size + 1) hF HRB.out HNET.out HOFF.out HBB.out (Nat.le_succ _) (by omega) (by omega))
  have HE' := Lib.hid hSB.2
  have sWB := hSB.1.size
  have hEG : w.heap.size ≠ G := by omega
  clear hneA hneO hneAO o3 o7 hF hSB HNET HOFF HRB
  refine Kept.tail (by rfl) (by kernel_rfl) ?_
  simp only [List.drop_succ_cons, List.drop_zero]
  clear hS hS0
  clear d0 d1 d2 d3
  go_wp2
  refine NoPanic.normal ?_
  obtain ⟨W5, hW5⟩ : ∃ W5, W5 = ((((wB.setCell ⟨G, 0, none⟩ (.int .i64 n.1)).setCell ⟨G, 1, none⟩ (.slice none 0 0)).setCell ⟨G, 2, none⟩ (.slice A2 al.length c2)).setCell ⟨G, 3, none⟩ (.slice A3 n.2.2.2.length c3)) := ⟨_, rfl⟩
  rw [← hW5] at HC ⊢
  have d0 : W5.cell? ⟨w.heap.size, 0, none⟩ = some (.int .i64 n.1) := by rw [hW5]; exact (World.cell?_of_block (far4 hEG)).trans HE'.out.1
  have d1 : W5.cell? ⟨w.heap.size, 1, none⟩ = some (.slice mA1 (n.2.1).length mc1) := by rw [hW5]; exact (World.cell?_of_block (far4 hEG)).trans HE'.out.2.1
  have hGlt := HC.out.box.lt
  have HB5 := Lib.hid HC.out.chg
  clear hW5 f0 f1 f2 f3 z0 z1 z2 z3 HE' HBB
  go_wp2
  go_loopw [22] (fun z wr => ∃ (k : Nat) (A : Option Addr) (c : Nat) (rows : List V3) (bs : List Nat), k ≤ n.2.1.length ∧ rows.length = k ∧ z = .int .i64 (k : Int) ∧ CopyAt w wr (w.heap.size + 1) G (.slice A k c) (.slice A2 al.length c2) (.slice A3 n.2.2.2.length c3) rows bs (n.1, ((n.2.1.map fun s => (s.1, s.2.1, s.2.2.map (mapI to)))).take k, al, (n.2.2.2.map (mapI to)))) (fun z _ => n.2.1.length - (intOf z).toNat)
  case atStart => exact ⟨0, none, 0, [], [], Nat.zero_le _, rfl, rfl, HC.out⟩
  case round =>
    obtain ⟨k, A1, c1, rows, bs, hk, hrk, rfl, hcp⟩ := hrel
    obtain ⟨w3, rfl⟩ : ∃ w3, w3 = wr := ⟨_, rfl⟩
    clear HC HB5
    have HC := Lib.hid hcp
    have HRK := Lib.hid hrk
    have hG3 := hcp.box.lt
    have hGg := hcp.hG
    clear hcp hrk d0 d1
    by_cases hlt : k < n.2.1.length
    · obtain ⟨s, hs⟩ : ∃ s, n.2.1[k]? = some s := ⟨_, List.getElem?_eq_getElem hlt⟩
      have HTK := Lib.hid (show ((n.2.1.map fun s => (s.1, s.2.1, s.2.2.map (mapI to)))).take (k + 1) = ((n.2.1.map fun s => (s.1, s.2.1, s.2.2.map (mapI to)))).take k ++ [(s.1, s.2.1, s.2.2.map (mapI to))] by rw [List.take_add_one, List.getElem?_map, hs]; rfl)
      have hsl := HIN.out s (List.mem_of_getElem? hs)
      have HLS := Lib.hid (HMS.out s (List.mem_of_getElem? hs))
      obtain ⟨sb, sq, sA, sc, rfl, sb1, x0, xf0, x1, xf1, x2, sR⟩ := at_Seq (good_SeqS.below mR1.out (Nat.le_refl _) HC.out.chg) hs
      have sb2 := Nat.lt_of_lt_of_le sb1 HC.out.chg.size
      have tk : (k : Int) < (n.2.1.length : Int) := by omega
      have HSR := Lib.hid sR
      have HFT := Lib.hid (show ∀ x ∈ s.2.2.map (mapI to), Fit x from fun y hy => by obtain ⟨x, hx, rfl⟩ := List.mem_map.1 hy; exact HMF.out x (mem_rootsS (List.mem_of_getElem? hs) hx))
      have HFX := Lib.hid (And.intro xf0 xf1)
      clear hs sb1 sR xf0 xf1
      go_wp2_with fail
      obtain ⟨V, hV⟩ : ∃ V, V = w3.alloc (.cells #[.int .i64 s.1, .int .i64 s.2.1, .slice sA s.2.2.length sc] 103) := ⟨_, rfl⟩
      rw [← hV]
      have gN := eqbox1 hV
      have HV := Lib.hid gN.2
      have HROW := Lib.hid gN.1
      have sV : V.heap.size = w3.heap.size + 1 := by rw [hV]; simp
      have sV1 := Nat.le_of_eq sV
      have sV2 := Nat.le_of_eq sV.symm
      have IN5 := good_IntS.wider (good_IntS.below HSR.out HC.out.chg.size gN.2) (Nat.zero_le _) (Nat.le_trans HC.out.chg.size gN.2.size)
      clear hV gN x0 x1 x2 sV
      refine (all_at to s.2.2 _ _ _ (rdUp good_IntS HTO.out (bThen HC.out.chg HV.out)) (IN5) (Nat.le_refl _) (HLS.out) (by omega)).mono ?_
      rintro e w4 ⟨v, rfl, hoB, hb⟩
      obtain ⟨A, c, rfl, -⟩ := hoB.shape
      (try simp only [List.length_map] at hoB ⊢)
      have HO4 := Lib.hid hoB
      have HB4 := Lib.hid hb
      have HR4 := Lib.hid (show w4.heap[w3.heap.size]? = some (.cells #[.int .i64 s.1, .int .i64 s.2.1, .slice sA s.2.2.length sc] 103 (0, 0)) from rowB' hb HROW.out)
      have y0 := box_cell HR4.out 0 _ rfl
      have y1 := box_cell HR4.out 1 _ rfl
      have y2 := box_cell HR4.out 2 _ rfl
      have yz := frozen_of_row _ _ 2 _ _ HR4.out
      have hw34 : V.heap.size ≤ w4.heap.size := hb.size
      clear hoB hb IN5
      have HC4 := Lib.hid (HC.out.below (bThen HV.out HB4.out))
      obtain ⟨W6, hW6⟩ : ∃ W6, W6 = w4.setCell ⟨w3.heap.size, 2, none⟩ (.slice A s.2.2.length c) := ⟨_, rfl⟩
      have y0s : W6.cell? ⟨w3.heap.size, 0, none⟩ = some (.int .i64 s.1) := by rw [hW6]; exact set_far y0 (by decide)
      have y1s : W6.cell? ⟨w3.heap.size, 1, none⟩ = some (.int .i64 s.2.1) := by rw [hW6]; exact set_far y1 (by decide)
      have y2s : W6.cell? ⟨w3.heap.size, 2, none⟩ = some (.slice A s.2.2.length c) := by rw [hW6]; exact set_same y2
      have hB46 : Below w3.heap.size w3 W6 := by rw [hW6]; exact bSet (bThen HV.out HB4.out) (Nat.le_refl _) _
      have HC6 := Lib.hid (HC.out.below hB46)
      have s46 : W6.heap.size = w4.heap.size := by rw [hW6]; simp
      have HO6 := Lib.hid (show OwnsI W6 V.heap.size (.slice A s.2.2.length c) (s.2.2.map (mapI to)) by rw [hW6]; exact ownI_far HO4.out (fun e => by have := (HO4.out.lt _ e).1; omega))
      obtain ⟨WA, hWA⟩ : ∃ WA, WA = W6.alloc (.cells #[.int .i64 s.1, .int .i64 s.2.1, .slice A s.2.2.length c] 103) := ⟨_, rfl⟩
      have HBW := Lib.hid (show Below W6.heap.size W6 WA by rw [hWA]; exact bAlloc (Below.refl _ _) (Nat.le_refl _) _)
      have HNB := Lib.hid (show WA.heap[w4.heap.size]? = some (.cells #[.int .i64 s.1, .int .i64 s.2.1, .slice A s.2.2.length c] 103 (0, 0)) by rw [← s46, hWA]; exact heap_alloc_new _ _)
      have HCA := Lib.hid (HC6.out.below HBW.out)
      have HOA := Lib.hid (HO6.out.below HBW.out)
      have hrow : OwnsR fV3 3 TSeq WA (w.heap.size + 2) (.slice A1 k c1) rows := HCA.out.net.s.own
      have HROWA := Lib.hid (show WA.ownsRow (w.heap.size + 2) TSeq 3 (.slice A1 k c1) k (rows.flatMap fV3) by unfold OwnsR at hrow; rw [HRK.out] at hrow; exact hrow)
      have g1 := HC4.out.box.cells.1.2.1
      have hS1 := HC.out.chg.size
      have hS6 : w.heap.size + 2 ≤ W6.heap.size := by omega
      have hSZ := Lib.hid (show w.heap.size + 2 ≤ WA.heap.size from Nat.le_trans hS6 HBW.out.size)
      rw [hWA] at HROWA HNB hSZ
      have gz := HCA.out.box.cells.2
      have gA := HCA.out.box.cells.1.2.1
      rw [hWA] at gz gA
      have HNG := Lib.hid (show some G ≠ (Value.slice A1 k c1).ownBlock from fun e => HC.out.off G (by simp [mem_blkL.2 e.symm]) rfl)
      have HGZ := Lib.hid gz
      have HGA := Lib.hid gA
      have hGA : G < (W6.alloc (.cells #[.int .i64 s.1, .int .i64 s.2.1, .slice A s.2.2.length c] 103)).heap.size := by rw [← hWA]; exact HCA.out.box.lt
      rw [hW6] at HROWA HNB hSZ HGZ HGA hGA
      clear hrow hB46 gz gA
      go_wp2_with (at_builtin; refine wpList_append_all (by rfl) _ _ 33 (by rfl) (w.heap.size + 2) 103 iQ (.agg #[.int .i64 0, .int .i64 0, .slice none 0 0]) 3 40 Try.underlying33 hiQ hzQ0 hzQ1 hzQ2 rfl (by omega) (.slice A1 k c1) k (rows.flatMap fV3) (by rfl) HROWA.out (some ⟨w4.heap.size, 0, none⟩) 1 1 [.int .i64 s.1, .int .i64 s.2.1, .slice A s.2.2.length c] (by rfl) (by rfl) (.inr ⟨_, rfl, World.news_of_block HNB.out⟩) (by simp [Value.oneCell']) (by unfold maxLen; omega) (by omega) hSZ.out ?_; intro A9 c9 w6 hown6 hgrow6 hkeep6 hat6; have g6 := grown_keep hgrow6 HGA.out HNG.out; have gz6 := froz_grown hgrow6 hGA HNG.out HGZ.out)
      rw [← hW6, ← hWA] at hgrow6 hat6
      have HC9 := Lib.hid (HCA.out.addS (N := V.heap.size) (r := (.int .i64 s.1, .int .i64 s.2.1, .slice A s.2.2.length c)) (x := (s.1, s.2.1, s.2.2.map (mapI to))) (cs := blkL (.slice A s.2.2.length c)) hown6 (by rw [HRK.out]) hgrow6 hat6 (owSeq_own HFX.out.1 HFX.out.2 HOA.out HFT.out) (blkL_nodup _) (fun b hb => (HOA.out.lt b (mem_blkL.1 hb)).1) (by omega) (by omega) (fun b hb => by have := HC.out.lt b hb; omega) (by have := HBW.out.size; omega))
      clear hown6 hgrow6 hkeep6 hat6 g6 gz6
      go_roundw
      case rel => exact ⟨k + 1, A9, c9, rows ++ [(.int .i64 s.1, .int .i64 s.2.1, .slice A s.2.2.length c)], bs ++ blkL (.slice A s.2.2.length c), by omega, by have := HRK.out; rw [List.length_append, List.length_singleton]; omega, by go_num, by rw [HTK.out]; exact HC9.out⟩
      case measure => simp [intOf] <;> omega
    · obtain rfl : k = n.2.1.length := by omega
      have hc := HC.out
      rw [List.take_of_length_le (by simp)] at hc
      have HCF := Lib.hid hc
      have g0 := hc.box.cells.1.1
      have g1 := hc.box.cells.1.2.1
      have g2 := hc.box.cells.1.2.2.1
      have g3 := hc.box.cells.1.2.2.2
      have f0 := hc.res.cells.1.1
      have f1 := hc.res.cells.1.2.1
      have f2 := hc.res.cells.1.2.2.1
      have f3 := hc.res.cells.1.2.2.2
      have fz := hc.res.cells.2
      clear hc hlt
      go_wp2
      ((try simp only [Exit.inBlock, Exit.then]); refine bodyPost_ret (v := (.agg #[.int .i64 n.1, .slice A1 n.2.1.length c1, .slice A2 al.length c2, .slice A3 n.2.2.2.length c3])) (by rw [results_cell1 rfl]; go_simp) rfl ?_)
      first | exact ⟨_, _, _, rows, bs, rfl, (HCF.out.done _ _ _ _).1, (HCF.out.done _ _ _ _).2⟩ | exact ⟨_, _, _, rfl, rows, bs, (HCF.out.done _ _ _ _).1, (HCF.out.done _ _ _ _).2⟩ | exact ⟨_, _, _, rfl, ⟨rows, bs, (HCF.out.done _ _ _ _).1⟩, (HCF.out.done _ _ _ _).2⟩
end Go.Proofs.Ytedamhkcblemdaa
