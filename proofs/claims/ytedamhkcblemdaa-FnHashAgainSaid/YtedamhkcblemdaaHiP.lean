/-
  HiD, HiF, HiG, HiH as one text.
-/
import Derived.Test.YtedamhkcblemdaaHiN
import Derived.Test.YtedamhkcblemdaaHcC
import Derived.Test.YtedamhkcblemdaaHcD
import Derived.Deep.RegionHeld3
/- HiD: A net rebuilt with clones of its lists: the program. -/
namespace Go.Proofs.Ytedamhkcblemdaa
open Go.RowKit
set_option linter.unusedVariables false
set_option linter.unusedSimpArgs false

theorem own_of_gr {w : World} {B : Nat} {v : Value} {L : List Int} {bs : List Nat} (h : GrR fInt 1 3 owInt B bs w v L L) : OwnsI w B v L := by
  have := h.own
  unfold OwnsR at this
  unfold OwnsI
  rw [← flat_vI]
  exact this
theorem gr_own {w : World} {B : Nat} {v : Value} {L : List Int} (h : OwnsI w B v L) (hf : ∀ x ∈ L, Fit x) : GrR fInt 1 3 owInt B [] w v L L :=
  gr_flat (by unfold OwnsR; unfold OwnsI at h; rw [flat_vI]; exact h) fun x hx => ⟨rfl, rfl, hf x hx⟩
theorem topB_row {w : World} {B T k n : Nat} {v : Value} {xs : List Value} (h : w.ownsRow B T k v n xs) : ∀ b ∈ topB v, B ≤ b ∧ b < w.heap.size := by
  intro b hb
  rcases h.2 with ⟨rfl, h0⟩ | ⟨g, cap, cur, rfl, e2, e3, e4⟩
  · simp [topB] at hb
  · have : b = g := by simpa [topB] using hb
    subst this
    exact ⟨e2, (Array.getElem?_eq_some_iff.1 e3).1⟩
theorem topB_own {w : World} {B : Nat} {v : Value} {L : List Int} (h : OwnsI w B v L) : ∀ b ∈ topB v, B ≤ b ∧ b < w.heap.size := topB_row h
theorem row_topB {w : World} {B T k n b : Nat} {v : Value} {xs : List Value} (h : w.ownsRow B T k v n xs) (e : v.ownBlock = some b) : b ∈ topB v := by
  rcases h.2 with ⟨rfl, h0⟩ | ⟨g, cap, cur, rfl, e2, e3, e4⟩
  · cases e
  · injection e with e
    subst e
    simp [topB]
theorem own_topB {w : World} {B b : Nat} {v : Value} {L : List Int} (h : OwnsI w B v L) (e : v.ownBlock = some b) : b ∈ topB v := row_topB h e
theorem froz_grown {w w' : World} {row : Option Nat} {G : Nat} (h : w.grownBy w' row) (hl : G < w.heap.size) (hne : some G ≠ row) (hz : ∀ i, w.frozen? ⟨G, i, none⟩ = false) : ∀ i, w'.frozen? ⟨G, i, none⟩ = false := fun i => (World.frozen?_of_block (h.block G hl hne)).trans (hz i)
theorem mem_rootsO {n : DNet} {x : Int} (h : x ∈ n.2.2.2) : x ∈ rootsL n := List.mem_append.2 (.inl h)
theorem mem_rootsS {n : DNet} {s : DSeq} {x : Int} (hs : s ∈ n.2.1) (h : x ∈ s.2.2) : x ∈ rootsL n := List.mem_append.2 (.inr (List.mem_flatMap.2 ⟨s, hs, h⟩))
theorem map_fit {to L : List Int} (h : ∀ x ∈ L, Fit (mapI to x)) : ∀ y ∈ L.map (mapI to), Fit y := fun y hy => by
  obtain ⟨x, hx, rfl⟩ := List.mem_map.1 hy
  exact h x hx

set_option maxRecDepth 100000 in
set_option maxHeartbeats 25600000 in
theorem rebC_at (n : DNet) (al : List DAnd) (us : List Value) (v : Value) (w : World) (h : rdNet 0 w.heap.size w us n) (hv : rdAndS 0 w.heap.size w [v] al) (hq12 : n.2.1.length ≤ 1048576) (hin : ∀ s ∈ n.2.1, s.2.2.length ≤ 1048576) (ha12 : al.length ≤ 1048576) (ho12 : n.2.2.2.length ≤ 1048576) :
    Calls Try.prog 54 #[.agg us.toArray, v, .func (.func 118) #[] #[]] w fun e w' => ∃ v1 vA v3 rows bs, e = .returned (.agg #[.int .i64 n.1, v1, vA, v3]) ∧ NetG w.heap.size w' v1 vA v3 rows bs (n.1, n.2.1, al, n.2.2.2) ∧ Below w.heap.size w w' := by
  obtain ⟨iQ, hiQ, hzQ0, hzQ1, hzQ2⟩ := info_parts infoQ1
  have HD := Lib.hid h
  have HAL := Lib.hid hv
  have HIN := Lib.hid hin
  have HAF := Lib.hid (ands_fit hv)
  have HFN := Lib.hid (net_fit h).1
  have HOF := Lib.hid (net_fit h).2.2
  obtain ⟨vA, vc, rfl, vm, -⟩ := slice_of hv
  clear hv hin
  obtain ⟨mu0, mu1, mu2, mu3, rfl, mh0, mh1, mh2, mh3⟩ := h
  obtain ⟨me0, -⟩ := mh0
  injection me0 with me0
  subst me0
  obtain ⟨mA1, mc1, me1, mm1, -⟩ := slice_of mh1
  subst me1
  have mR1 := Lib.hid mh1
  clear mh1
  obtain ⟨mA2, mc2, me2, mm2, -⟩ := slice_of mh2
  subst me2
  have mR2 := Lib.hid mh2
  clear mh2
  obtain ⟨mA3, mc3, me3, mm3, -⟩ := slice_of mh3
  subst me3
  have mR3 := Lib.hid mh3
  clear mh3
  go_enter Try.func54, Try.ntmps54
  go_wp2_with fail
  obtain ⟨W0, hV⟩ : ∃ W0, W0 = ((w.alloc (.cells #[.int .i64 n.1, .slice mA1 (n.2.1).length mc1, .slice mA2 (n.2.2.1).length mc2, .slice mA3 (n.2.2.2).length mc3] 36)).alloc (.cells #[.int .i64 0, .slice none 0 0, .slice none 0 0, .slice none 0 0] 36)) := ⟨_, rfl⟩
  rw [← hV]
  have gN := eqbox2 hV
  have d0 : W0.cell? ⟨w.heap.size, 0, none⟩ = some (.int .i64 n.1) := box_cell gN.1 0 _ rfl
  have d1 : W0.cell? ⟨w.heap.size, 1, none⟩ = some (.slice mA1 (n.2.1).length mc1) := box_cell gN.1 1 _ rfl
  have d2 : W0.cell? ⟨w.heap.size, 2, none⟩ = some (.slice mA2 (n.2.2.1).length mc2) := box_cell gN.1 2 _ rfl
  have d3 : W0.cell? ⟨w.heap.size, 3, none⟩ = some (.slice mA3 (n.2.2.2).length mc3) := box_cell gN.1 3 _ rfl
  have HW0 := Lib.hid gN.2.2
  have HRES := Lib.hid (show BoxN W0 (w.heap.size + 1) (.int .i64 0) vNil vNil vNil from gN.2.1)
  have sW0 : W0.heap.size = w.heap.size + 2 := by rw [hV]; simp
  have sC := Nat.le_of_eq sW0
  have sD := Nat.le_of_eq sW0.symm
  clear hV gN sW0
  have hS0 : (fun w' => Below W0.heap.size W0 w' ∧ w'.cell? ⟨w.heap.size, 0, none⟩ = some (.int .i64 n.1) ∧ w'.cell? ⟨w.heap.size, 1, none⟩ = some (.slice mA1 (n.2.1).length mc1) ∧ w'.cell? ⟨w.heap.size, 2, none⟩ = some (.slice mA2 (n.2.2.1).length mc2) ∧ w'.cell? ⟨w.heap.size, 3, none⟩ = some (.slice mA3 (n.2.2.2).length mc3)) W0 := ⟨Below.refl _ _, d0, d1, d2, d3⟩
  have hS : ∀ {w0 w' : World}, (fun w' => Below W0.heap.size W0 w' ∧ w'.cell? ⟨w.heap.size, 0, none⟩ = some (.int .i64 n.1) ∧ w'.cell? ⟨w.heap.size, 1, none⟩ = some (.slice mA1 (n.2.1).length mc1) ∧ w'.cell? ⟨w.heap.size, 2, none⟩ = some (.slice mA2 (n.2.2.1).length mc2) ∧ w'.cell? ⟨w.heap.size, 3, none⟩ = some (.slice mA3 (n.2.2.2).length mc3)) w0 → Below w0.heap.size w0 w' → (fun w' => Below W0.heap.size W0 w' ∧ w'.cell? ⟨w.heap.size, 0, none⟩ = some (.int .i64 n.1) ∧ w'.cell? ⟨w.heap.size, 1, none⟩ = some (.slice mA1 (n.2.1).length mc1) ∧ w'.cell? ⟨w.heap.size, 2, none⟩ = some (.slice mA2 (n.2.2.1).length mc2) ∧ w'.cell? ⟨w.heap.size, 3, none⟩ = some (.slice mA3 (n.2.2.2).length mc3)) w' := fun h hb => ⟨bThen h.1 hb, keep hb h.2.1, keep hb h.2.2.1, keep hb h.2.2.2.1, keep hb h.2.2.2.2⟩
  dsimp only at hS0 hS
  refine wp_region_noPanic ?_
  refine wp_region_kept 10 11 (fun w' => Below W0.heap.size W0 w' ∧ w'.cell? ⟨w.heap.size, 0, none⟩ = some (.int .i64 n.1) ∧ w'.cell? ⟨w.heap.size, 1, none⟩ = some (.slice mA1 (n.2.1).length mc1) ∧ w'.cell? ⟨w.heap.size, 2, none⟩ = some (.slice mA2 (n.2.2.1).length mc2) ∧ w'.cell? ⟨w.heap.size, 3, none⟩ = some (.slice mA3 (n.2.2.2).length mc3)) (by kernel_rfl) rfl (hS hS0 (Below.drew (Below.refl _ _))) (fun hK0 => ?_)
  refine Kept.take (v := ?va0) 0 (by kernel_rfl) rfl (by kernel_rfl) (fun _ _ _ h => h) (Or.inl ⟨by rfl, ?hya0⟩) hK0 ?resta0
  case hya0 =>
    intro w0 hSw
    (try dsimp only at hSw)
    go_simp
    all_goals (with_reducible rfl)
  (try simp only [Act.put, List.setIfInBounds_toArray, List.set_cons_zero, List.set_cons_succ])
  refine Kept.take (v := ?va1) 1 (by kernel_rfl) rfl (by kernel_rfl) (fun _ _ _ h => h) (Or.inl ⟨by rfl, ?hya1⟩) hK0 ?resta1
  case hya1 =>
    intro w0 hSw
    (try dsimp only at hSw)
    go_simp
    all_goals (with_reducible rfl)
  (try simp only [Act.put, List.setIfInBounds_toArray, List.set_cons_zero, List.set_cons_succ])
  refine Kept.take (v := ?va2) 2 (by kernel_rfl) rfl (by kernel_rfl) (fun _ _ _ h => h) (Or.inl ⟨by rfl, ?hya2⟩) hK0 ?resta2
  case hya2 =>
    intro w0 hSw
    (try dsimp only at hSw)
    go_simp
    all_goals (with_reducible rfl)
  (try simp only [Act.put, List.setIfInBounds_toArray, List.set_cons_zero, List.set_cons_succ])
  refine Kept.take (v := ?va4) 4 (by kernel_rfl) rfl (by kernel_rfl) (fun _ _ _ h => h) (Or.inl ⟨by rfl, ?hya4⟩) hK0 ?resta4
  case hya4 =>
    intro w0 hSw
    (try dsimp only at hSw)
    go_simp
    all_goals (with_reducible rfl)
  (try simp only [Act.put, List.setIfInBounds_toArray, List.set_cons_zero, List.set_cons_succ])
  refine Kept.take (v := ?va5) 5 (by kernel_rfl) rfl (by kernel_rfl) (fun _ _ _ h => h) (Or.inl ⟨by rfl, ?hya5⟩) hK0 ?resta5
  case hya5 =>
    intro w0 hSw
    (try dsimp only at hSw)
    go_simp
    all_goals (with_reducible rfl)
  (try simp only [Act.put, List.setIfInBounds_toArray, List.set_cons_zero, List.set_cons_succ])
  refine Kept.take (v := ?va6) 6 (by kernel_rfl) rfl (by kernel_rfl) (fun _ _ _ h => h) (Or.inl ⟨by rfl, ?hya6⟩) hK0 ?resta6
  case hya6 =>
    intro w0 hSw
    (try dsimp only at hSw)
    go_simp
    all_goals (with_reducible rfl)
  (try simp only [Act.put, List.setIfInBounds_toArray, List.set_cons_zero, List.set_cons_succ])
  refine Kept.rg (sz := 39) (g := 1) [(3, 13), (7, 17), (8, 18), (9, 7)] [3, 7, 9] (fun kO vals w' => match kO with
    | 3 => ∃ A c, vals 3 = .slice A al.length c ∧ OwnsR fAnd 2 67 w' W0.heap.size (vals 3) al
    | 7 => ∃ A c, vals 7 = .slice A n.2.2.2.length c ∧ OwnsI w' W0.heap.size (vals 7) n.2.2.2
    | 8 => vals 8 = .agg #[.int .i64 n.1, .slice none 0 0, vals 3, vals 7]
    | 9 => ∃ g, vals 9 = .pointer (some ⟨g, 0, none⟩) ∧ w'.heap[g]? = some (.cells #[.int .i64 0, .slice none 0 0, .slice none 0 0, .slice none 0 0] 36 (0, 0)) ∧ W0.heap.size ≤ g
    | _ => True) (by kernel_rfl) (by kernel_rfl) hK0 (fun _ _ _ h => h) ?hSR ?hloc ?hstep ?hend
  case hSR =>
    intro k hk vals wa wb h hb
    simp only [List.map_cons, List.map_nil, List.mem_cons, List.not_mem_nil, or_false] at hk
    rcases hk with rfl | rfl | rfl | rfl
    · obtain ⟨A, c, e, ho⟩ := h; exact ⟨A, c, e, OwnsR.below ho hb⟩
    · obtain ⟨A, c, e, ho⟩ := h; exact ⟨A, c, e, ho.below hb⟩
    · exact h
    · obtain ⟨g, e, ho, hB⟩ := h; exact ⟨g, e, rowB' hb ho, hB⟩
  case hloc =>
    intro k j hk hj hne hw vals v wa h
    simp only [List.map_cons, List.map_nil, List.mem_cons, List.not_mem_nil, or_false] at hk hj
    rcases hk with rfl | rfl | rfl | rfl <;> rcases hj with rfl | rfl | rfl | rfl <;> first | exact absurd rfl hne | exact h | exact absurd (hw.symm.trans (by kernel_rfl : _ = true)) (by decide)
  case hstep =>
    intro k t o hm ho vals wA hSA hpre
    simp only [List.mem_cons, List.not_mem_nil, or_false, Prod.mk.injEq] at hm
    rcases hm with ⟨rfl, rfl⟩ | ⟨rfl, rfl⟩ | ⟨rfl, rfl⟩ | ⟨rfl, rfl⟩
    · have ho' := Option.some.inj ho
      subst ho'
      unfold RgStep
      rw [if_pos (by rfl)]
      intro K hK
      have hSw := hSA
      (try dsimp only at hSw)
      clear hpre
      simp only [fillA, Act.put, List.setIfInBounds_toArray, List.set_cons_zero, List.set_cons_succ]
      go_simp
      go_at_call 107
      refine (cloneAnd_at al _ _ _ _ (rdUp good_AndS HAL.out (bThen HW0.out hSA.1)) (by omega)).mono ?_
      rintro e wB ⟨A, c, rfl, hg, hb⟩
      have hoB := hg.own
      have htb := topB_row hoB
      have hK' := hK (.slice A al.length c) wB (hS hSA hb) hb ⟨A, c, upd_self _ _ _, by rw [upd_self]; exact OwnsR.mono hoB hSA.1.size⟩ (fun _ b hb' => htb b hb')
      clear hK htb hoB hg
      simp only [fillA, Act.put, List.setIfInBounds_toArray, List.set_cons_zero, List.set_cons_succ] at hK'
      go_simp
      all_goals exact hK'
    · have ho' := Option.some.inj ho
      subst ho'
      unfold RgStep
      rw [if_pos (by rfl)]
      intro K hK
      have hSw := hSA
      (try dsimp only at hSw)
      clear hpre
      simp only [fillA, Act.put, List.setIfInBounds_toArray, List.set_cons_zero, List.set_cons_succ]
      go_simp
      go_at_call 118
      refine (cloneInt_at n.2.2.2 _ _ _ _ (rdUp good_IntS mR3.out (bThen HW0.out hSA.1)) (by omega)).mono ?_
      rintro e wB ⟨A, c, rfl, hgB, hb⟩
      have hoB := own_of_gr hgB
      clear hgB
      have htb := topB_own hoB
      have hK' := hK (.slice A n.2.2.2.length c) wB (hS hSA hb) hb ⟨A, c, upd_self _ _ _, by rw [upd_self]; exact hoB.lower hSA.1.size⟩ (fun _ b hb' => htb b hb')
      clear hK htb hoB
      simp only [fillA, Act.put, List.setIfInBounds_toArray, List.set_cons_zero, List.set_cons_succ] at hK'
      go_simp
      all_goals exact hK'
    · have ho' := Option.some.inj ho
      subst ho'
      obtain ⟨A3, c3, e3, -⟩ := hpre 3 (by kernel_rfl) (by decide)
      obtain ⟨A7, c7, e7, -⟩ := hpre 7 (by kernel_rfl) (by decide)
      unfold RgStep
      rw [if_pos (by rfl)]
      intro K hK
      have hK' := hK (.agg #[.int .i64 n.1, .slice none 0 0, vals 3, vals 7]) wA hSA (Below.refl _ _) (by
        show upd vals 8 _ 8 = .agg #[.int .i64 n.1, .slice none 0 0, upd vals 8 _ 3, upd vals 8 _ 7]
        rw [upd_self, upd_ne _ _ (by decide), upd_ne _ _ (by decide)]) (fun h => absurd h (by decide))
      clear hK hpre
      simp only [fillA, Act.put, List.setIfInBounds_toArray, List.set_cons_zero, List.set_cons_succ] at hK' ⊢
      rw [e3, e7] at hK' ⊢
      go_simp
      all_goals exact hK'
    · have ho' := Option.some.inj ho
      subst ho'
      unfold RgStep
      rw [if_pos (by rfl)]
      intro K hK
      have hBA : W0.heap.size ≤ wA.heap.size := hSA.1.size
      have hK' := hK (.pointer (some ⟨wA.heap.size, 0, none⟩)) (wA.alloc (.cells #[.int .i64 0, .slice none 0 0, .slice none 0 0, .slice none 0 0] 36)) (hS hSA (bAlloc (Below.refl _ _) (Nat.le_refl _) _)) (bAlloc (Below.refl _ _) (Nat.le_refl _) _) ⟨_, rfl, heap_alloc_new _ _, hBA⟩ (fun _ b hb => by
        have hb' : b = wA.heap.size := by simpa [topB] using hb
        subst hb'
        simp)
      clear hK hpre
      simp only [fillA, Act.put, List.setIfInBounds_toArray, List.set_cons_zero, List.set_cons_succ] at hK' ⊢
      go_simp
      all_goals exact hK'
  intro vals wB hSB hR hap
  obtain ⟨A2, c2, e3, o3⟩ := hR 3 (by decide)
  obtain ⟨A3, c3, e7, o7⟩ := hR 7 (by decide)
  have e8 : vals 8 = .agg #[.int .i64 n.1, .slice none 0 0, vals 3, vals 7] := hR 8 (by decide)
  obtain ⟨G, e9, hF, hFB⟩ := hR 9 (by decide)
  have a37 := hap 3 7 (by decide) (by decide) (by decide)
  have a39 := hap 3 9 (by decide) (by decide) (by decide)
  have a79 := hap 7 9 (by decide) (by decide) (by decide)
  rw [e3, e7] at a37
  rw [e3, e9] at a39
  rw [e7, e9] at a79
  rw [e3] at o3
  rw [e7] at o7
  rw [e3, e7] at e8
  simp only [fillA, Act.put, List.setIfInBounds_toArray, List.set_cons_zero, List.set_cons_succ]
  rw [e8, e9]
  have hneA : ∀ b, (Value.slice A2 al.length c2).ownBlock = some b → b ≠ G := fun b e h => a39 b (row_topB o3 e) (by subst h; simp [topB])
  have hneO : ∀ b, (Value.slice A3 n.2.2.2.length c3).ownBlock = some b → b ≠ G := fun b e h => a79 b (own_topB o7 e) (by subst h; simp [topB])
  have hneAO : ∀ b ∈ blkL (Value.slice A2 al.length c2), b ∉ blkL (Value.slice A3 n.2.2.2.length c3) := fun b h1 h2 => a37 b (row_topB o3 (mem_blkL.1 h1)) (own_topB o7 (mem_blkL.1 h2))
  clear hap a37 a39 a79 hR e3 e7 e8 e9
  have f0 := box_cell hF 0 _ rfl
  have f1 := box_cell hF 1 _ rfl
  have f2 := box_cell hF 2 _ rfl
  have f3 := box_cell hF 3 _ rfl
  have z0 := frozen_of_row _ _ 0 _ _ hF
  have z1 := frozen_of_row _ _ 1 _ _ hF
  have z2 := frozen_of_row _ _ 2 _ _ hF
  have z3 := frozen_of_row _ _ 3 _ _ hF
  have HNET := Lib.hid (show NetG (w.heap.size + 2) wB (.slice none 0 0) (.slice A2 al.length c2) (.slice A3 n.2.2.2.length c3) [] [] (n.1, [], al, n.2.2.2) from
    ⟨GrR.nil _ _ _ _ _ _, gr_lower (gr_flat o3 fun x hx => owAnd_of (HAF.out x hx).1 (HAF.out x hx).2 _) (by omega), gr_lower (gr_own o7 HOF.out) (by omega), (fun b hb => by simp [blkL_nil] at hb), (fun b hb => by simp [blkL_nil] at hb), hneAO, HFN.out⟩)
  have HOFF := Lib.hid (show ∀ b ∈ blkL (Value.slice none 0 0) ++ ([] ++ (blkL (.slice A2 al.length c2) ++ blkL (.slice A3 n.2.2.2.length c3))), b ≠ G from fun b hb => by
    simp only [blkL_nil, List.nil_append] at hb
    rcases List.mem_append.1 hb with hb | hb
    · exact hneA b (mem_blkL.1 hb)
    · exact hneO b (mem_blkL.1 hb))
  have HBB := Lib.hid (bThen HW0.out hSB.1)
  have HRB := Lib.hid (HRES.out.at (hSB.1.block _ HRES.out.lt))
  have HC := Lib.hid (CopyAt.stored (F := w.heap.size + 1) hF HRB.out HNET.out HOFF.out HBB.out (Nat.le_succ _) (by omega) (by omega))
  have HE' := Lib.hid hSB.2
  have sWB := hSB.1.size
  have hEG : w.heap.size ≠ G := by omega
  clear hneA hneO hneAO o3 o7 hF hSB HNET HOFF HRB
  refine Kept.tail (by rfl) (by kernel_rfl) ?_
  simp only [List.drop_succ_cons, List.drop_zero]
  clear hS hS0
  clear d0 d1 d2 d3
  go_wp2
  refine NoPanic.normal ?_
  obtain ⟨W5, hW5⟩ : ∃ W5, W5 = ((((wB.setCell ⟨G, 0, none⟩ (.int .i64 n.1)).setCell ⟨G, 1, none⟩ (.slice none 0 0)).setCell ⟨G, 2, none⟩ (.slice A2 al.length c2)).setCell ⟨G, 3, none⟩ (.slice A3 n.2.2.2.length c3)) := ⟨_, rfl⟩
  rw [← hW5] at HC ⊢
  have d0 : W5.cell? ⟨w.heap.size, 0, none⟩ = some (.int .i64 n.1) := by rw [hW5]; exact (World.cell?_of_block (far4 hEG)).trans HE'.out.1
  have d1 : W5.cell? ⟨w.heap.size, 1, none⟩ = some (.slice mA1 (n.2.1).length mc1) := by rw [hW5]; exact (World.cell?_of_block (far4 hEG)).trans HE'.out.2.1
  have hGlt := HC.out.box.lt
  have HB5 := Lib.hid HC.out.chg
  clear hW5 f0 f1 f2 f3 z0 z1 z2 z3 HE' HBB
  go_wp2
  go_loopw [22] (fun z wr => ∃ (k : Nat) (A : Option Addr) (c : Nat) (rows : List V3) (bs : List Nat), k ≤ n.2.1.length ∧ rows.length = k ∧ z = .int .i64 (k : Int) ∧ CopyAt w wr (w.heap.size + 1) G (.slice A k c) (.slice A2 al.length c2) (.slice A3 n.2.2.2.length c3) rows bs (n.1, (n.2.1).take k, al, n.2.2.2)) (fun z _ => n.2.1.length - (intOf z).toNat)
  case atStart => exact ⟨0, none, 0, [], [], Nat.zero_le _, rfl, rfl, HC.out⟩
  case round =>
    obtain ⟨k, A1, c1, rows, bs, hk, hrk, rfl, hcp⟩ := hrel
    obtain ⟨w3, rfl⟩ : ∃ w3, w3 = wr := ⟨_, rfl⟩
    clear HC HB5
    have HC := Lib.hid hcp
    have HRK := Lib.hid hrk
    have hG3 := hcp.box.lt
    have hGg := hcp.hG
    clear hcp hrk d0 d1
    by_cases hlt : k < n.2.1.length
    · obtain ⟨s, hs⟩ : ∃ s, n.2.1[k]? = some s := ⟨_, List.getElem?_eq_getElem hlt⟩
      have HTK := Lib.hid (show (n.2.1).take (k + 1) = (n.2.1).take k ++ [s] by rw [List.take_add_one, hs]; rfl)
      have hsl := HIN.out s (List.mem_of_getElem? hs)
      obtain ⟨sb, sq, sA, sc, rfl, sb1, x0, xf0, x1, xf1, x2, sR⟩ := at_Seq (good_SeqS.below mR1.out (Nat.le_refl _) HC.out.chg) hs
      have sb2 := Nat.lt_of_lt_of_le sb1 HC.out.chg.size
      have tk : (k : Int) < (n.2.1.length : Int) := by omega
      have HSR := Lib.hid sR
      have HFT := Lib.hid (rd_fit sR)
      have HFX := Lib.hid (And.intro xf0 xf1)
      clear hs sb1 sR xf0 xf1
      go_wp2_with fail
      obtain ⟨V, hV⟩ : ∃ V, V = w3.alloc (.cells #[.int .i64 s.1, .int .i64 s.2.1, .slice sA s.2.2.length sc] 103) := ⟨_, rfl⟩
      rw [← hV]
      have gN := eqbox1 hV
      have HV := Lib.hid gN.2
      have HROW := Lib.hid gN.1
      have sV : V.heap.size = w3.heap.size + 1 := by rw [hV]; simp
      have sV1 := Nat.le_of_eq sV
      have sV2 := Nat.le_of_eq sV.symm
      have IN5 := good_IntS.wider (good_IntS.below HSR.out HC.out.chg.size gN.2) (Nat.zero_le _) (Nat.le_trans HC.out.chg.size gN.2.size)
      clear hV gN x0 x1 x2 sV
      refine (cloneInt_at s.2.2 _ _ _ _ (IN5) (by omega)).mono ?_
      rintro e w4 ⟨A, c, rfl, hgB, hb⟩
      have hoB := own_of_gr hgB
      clear hgB
      have HO4 := Lib.hid hoB
      have HB4 := Lib.hid hb
      have HR4 := Lib.hid (show w4.heap[w3.heap.size]? = some (.cells #[.int .i64 s.1, .int .i64 s.2.1, .slice sA s.2.2.length sc] 103 (0, 0)) from rowB' hb HROW.out)
      have y0 := box_cell HR4.out 0 _ rfl
      have y1 := box_cell HR4.out 1 _ rfl
      have y2 := box_cell HR4.out 2 _ rfl
      have yz := frozen_of_row _ _ 2 _ _ HR4.out
      have hw34 : V.heap.size ≤ w4.heap.size := hb.size
      clear hoB hb IN5
      have HC4 := Lib.hid (HC.out.below (bThen HV.out HB4.out))
      obtain ⟨W6, hW6⟩ : ∃ W6, W6 = w4.setCell ⟨w3.heap.size, 2, none⟩ (.slice A s.2.2.length c) := ⟨_, rfl⟩
      have y0s : W6.cell? ⟨w3.heap.size, 0, none⟩ = some (.int .i64 s.1) := by rw [hW6]; exact set_far y0 (by decide)
      have y1s : W6.cell? ⟨w3.heap.size, 1, none⟩ = some (.int .i64 s.2.1) := by rw [hW6]; exact set_far y1 (by decide)
      have y2s : W6.cell? ⟨w3.heap.size, 2, none⟩ = some (.slice A s.2.2.length c) := by rw [hW6]; exact set_same y2
      have hB46 : Below w3.heap.size w3 W6 := by rw [hW6]; exact bSet (bThen HV.out HB4.out) (Nat.le_refl _) _
      have HC6 := Lib.hid (HC.out.below hB46)
      have s46 : W6.heap.size = w4.heap.size := by rw [hW6]; simp
      have HO6 := Lib.hid (show OwnsI W6 V.heap.size (.slice A s.2.2.length c) s.2.2 by rw [hW6]; exact ownI_far HO4.out (fun e => by have := (HO4.out.lt _ e).1; omega))
      obtain ⟨WA, hWA⟩ : ∃ WA, WA = W6.alloc (.cells #[.int .i64 s.1, .int .i64 s.2.1, .slice A s.2.2.length c] 103) := ⟨_, rfl⟩
      have HBW := Lib.hid (show Below W6.heap.size W6 WA by rw [hWA]; exact bAlloc (Below.refl _ _) (Nat.le_refl _) _)
      have HNB := Lib.hid (show WA.heap[w4.heap.size]? = some (.cells #[.int .i64 s.1, .int .i64 s.2.1, .slice A s.2.2.length c] 103 (0, 0)) by rw [← s46, hWA]; exact heap_alloc_new _ _)
      have HCA := Lib.hid (HC6.out.below HBW.out)
      have HOA := Lib.hid (HO6.out.below HBW.out)
      have hrow : OwnsR fV3 3 TSeq WA (w.heap.size + 2) (.slice A1 k c1) rows := HCA.out.net.s.own
      have HROWA := Lib.hid (show WA.ownsRow (w.heap.size + 2) TSeq 3 (.slice A1 k c1) k (rows.flatMap fV3) by unfold OwnsR at hrow; rw [HRK.out] at hrow; exact hrow)
      have g1 := HC4.out.box.cells.1.2.1
      have hS1 := HC.out.chg.size
      have hS6 : w.heap.size + 2 ≤ W6.heap.size := by omega
      have hSZ := Lib.hid (show w.heap.size + 2 ≤ WA.heap.size from Nat.le_trans hS6 HBW.out.size)
      rw [hWA] at HROWA HNB hSZ
      have gz := HCA.out.box.cells.2
      have gA := HCA.out.box.cells.1.2.1
      rw [hWA] at gz gA
      have HNG := Lib.hid (show some G ≠ (Value.slice A1 k c1).ownBlock from fun e => HC.out.off G (by simp [mem_blkL.2 e.symm]) rfl)
      have HGZ := Lib.hid gz
      have HGA := Lib.hid gA
      have hGA : G < (W6.alloc (.cells #[.int .i64 s.1, .int .i64 s.2.1, .slice A s.2.2.length c] 103)).heap.size := by rw [← hWA]; exact HCA.out.box.lt
      rw [hW6] at HROWA HNB hSZ HGZ HGA hGA
      clear hrow hB46 gz gA
      go_wp2_with (at_builtin; refine wpList_append_all (by rfl) _ _ 33 (by rfl) (w.heap.size + 2) 103 iQ (.agg #[.int .i64 0, .int .i64 0, .slice none 0 0]) 3 40 Try.underlying33 hiQ hzQ0 hzQ1 hzQ2 rfl (by omega) (.slice A1 k c1) k (rows.flatMap fV3) (by rfl) HROWA.out (some ⟨w4.heap.size, 0, none⟩) 1 1 [.int .i64 s.1, .int .i64 s.2.1, .slice A s.2.2.length c] (by rfl) (by rfl) (.inr ⟨_, rfl, World.news_of_block HNB.out⟩) (by simp [Value.oneCell']) (by unfold maxLen; omega) (by omega) hSZ.out ?_; intro A9 c9 w6 hown6 hgrow6 hkeep6 hat6; have g6 := grown_keep hgrow6 HGA.out HNG.out; have gz6 := froz_grown hgrow6 hGA HNG.out HGZ.out)
      rw [← hW6, ← hWA] at hgrow6 hat6
      have HC9 := Lib.hid (HCA.out.addS (N := V.heap.size) (r := (.int .i64 s.1, .int .i64 s.2.1, .slice A s.2.2.length c)) (x := s) (cs := blkL (.slice A s.2.2.length c)) hown6 (by rw [HRK.out]) hgrow6 hat6 (owSeq_own HFX.out.1 HFX.out.2 HOA.out HFT.out) (blkL_nodup _) (fun b hb => (HOA.out.lt b (mem_blkL.1 hb)).1) (by omega) (by omega) (fun b hb => by have := HC.out.lt b hb; omega) (by have := HBW.out.size; omega))
      clear hown6 hgrow6 hkeep6 hat6 g6 gz6
      go_roundw
      case rel => exact ⟨k + 1, A9, c9, rows ++ [(.int .i64 s.1, .int .i64 s.2.1, .slice A s.2.2.length c)], bs ++ blkL (.slice A s.2.2.length c), by omega, by have := HRK.out; rw [List.length_append, List.length_singleton]; omega, by go_num, by rw [HTK.out]; exact HC9.out⟩
      case measure => simp [intOf] <;> omega
    · obtain rfl : k = n.2.1.length := by omega
      have hc := HC.out
      rw [List.take_of_length_le (by simp)] at hc
      have HCF := Lib.hid hc
      have g0 := hc.box.cells.1.1
      have g1 := hc.box.cells.1.2.1
      have g2 := hc.box.cells.1.2.2.1
      have g3 := hc.box.cells.1.2.2.2
      have f0 := hc.res.cells.1.1
      have f1 := hc.res.cells.1.2.1
      have f2 := hc.res.cells.1.2.2.1
      have f3 := hc.res.cells.1.2.2.2
      have fz := hc.res.cells.2
      clear hc hlt
      go_wp2
      ((try simp only [Exit.inBlock, Exit.then]); refine bodyPost_ret (v := (.agg #[.int .i64 n.1, .slice A1 n.2.1.length c1, .slice A2 al.length c2, .slice A3 n.2.2.2.length c3])) (by rw [results_cell1 rfl]; go_simp) rfl ?_)
      first | exact ⟨_, _, _, rows, bs, rfl, (HCF.out.done _ _ _ _).1, (HCF.out.done _ _ _ _).2⟩ | exact ⟨_, _, _, rfl, rows, bs, (HCF.out.done _ _ _ _).1, (HCF.out.done _ _ _ _).2⟩ | exact ⟨_, _, _, rfl, ⟨rows, bs, (HCF.out.done _ _ _ _).1⟩, (HCF.out.done _ _ _ _).2⟩
end Go.Proofs.Ytedamhkcblemdaa
/- HiF: A net to which gates are added: the program. -/
namespace Go.Proofs.Ytedamhkcblemdaa
open Go.RowKit
set_option linter.unusedVariables false
set_option linter.unusedSimpArgs false

set_option maxRecDepth 100000 in
set_option maxHeartbeats 6400000 in
theorem copied_at (n : DNet) (us : List Value) (w : World) (h : rdNet 0 w.heap.size w us n) (hq12 : n.2.1.length ≤ 1048576) (hin : ∀ s ∈ n.2.1, s.2.2.length ≤ 1048576) (ha12 : n.2.2.1.length ≤ 1048576) (ho12 : n.2.2.2.length ≤ 1048576) :
    Calls Try.prog 104 #[.agg us.toArray] w fun e w' => ∃ v1 vA v3 rows bs, e = .returned (.agg #[.int .i64 n.1, v1, vA, v3]) ∧ NetG w.heap.size w' v1 vA v3 rows bs n ∧ Below w.heap.size w w' := by
  have HD := Lib.hid h
  have HIN := Lib.hid hin
  clear hin
  obtain ⟨mu0, mu1, mu2, mu3, rfl, mh0, mh1, mh2, mh3⟩ := h
  obtain ⟨me0, -⟩ := mh0
  injection me0 with me0
  subst me0
  obtain ⟨mA1, mc1, me1, mm1, -⟩ := slice_of mh1
  subst me1
  have mR1 := Lib.hid mh1
  clear mh1
  obtain ⟨mA2, mc2, me2, mm2, -⟩ := slice_of mh2
  subst me2
  have mR2 := Lib.hid mh2
  clear mh2
  obtain ⟨mA3, mc3, me3, mm3, -⟩ := slice_of mh3
  subst me3
  have mR3 := Lib.hid mh3
  clear mh3
  go_enter Try.func104, Try.ntmps104
  go_wp2_with fail
  obtain ⟨W0, hV⟩ : ∃ W0, W0 = ((w.alloc (.cells #[.int .i64 n.1, .slice mA1 (n.2.1).length mc1, .slice mA2 (n.2.2.1).length mc2, .slice mA3 (n.2.2.2).length mc3] 36)).alloc (.cells #[.int .i64 0, .slice none 0 0, .slice none 0 0, .slice none 0 0] 36)) := ⟨_, rfl⟩
  rw [← hV]
  have gN := eqbox2 hV
  have HW0 := Lib.hid gN.2.2
  have HRES := Lib.hid (show BoxN W0 (w.heap.size + 1) (.int .i64 0) vNil vNil vNil from gN.2.1)
  have sW0 : W0.heap.size = w.heap.size + 2 := by rw [hV]; simp
  have sC := Nat.le_of_eq sW0
  have sD := Nat.le_of_eq sW0.symm
  clear hV gN sW0
  refine (rebC_at n n.2.2.1 _ _ _ (rdUp good_Net HD.out HW0.out) (rdUp good_AndS mR2.out HW0.out) hq12 HIN.out ha12 ho12).mono ?_
  rintro e w1 ⟨v1, vA, v3, rows, bs, rfl, hnet, hb1⟩
  obtain ⟨A1, c1, rfl⟩ := hnet.s.cap fV3_len
  obtain ⟨A2, c2, rfl⟩ := hnet.a.cap fAnd_len
  obtain ⟨A3, c3, rfl⟩ := hnet.o.cap fInt_len
  have HN := Lib.hid hnet
  have HB := Lib.hid (bThen HW0.out hb1)
  have hres := HRES.out.at (hb1.block _ HRES.out.lt)
  have f0 := hres.cells.1.1
  have f1 := hres.cells.1.2.1
  have f2 := hres.cells.1.2.2.1
  have f3 := hres.cells.1.2.2.2
  have fz := hres.cells.2
  clear hnet hb1 hres
  go_wp2
  ((try simp only [Exit.inBlock, Exit.then]); refine bodyPost_ret (v := (.agg #[.int .i64 n.1, .slice A1 n.2.1.length c1, .slice A2 n.2.2.1.length c2, .slice A3 n.2.2.2.length c3])) (by rw [results_cell1 rfl]; go_simp) rfl ?_)
  have P1 := (HN.out.at (w' := ((((w1.setCell ⟨w.heap.size + 1, 0, none⟩ (.int .i64 n.1)).setCell ⟨w.heap.size + 1, 1, none⟩ (.slice A1 n.2.1.length c1)).setCell ⟨w.heap.size + 1, 2, none⟩ (.slice A2 n.2.2.1.length c2)).setCell ⟨w.heap.size + 1, 3, none⟩ (.slice A3 n.2.2.2.length c3))) fun b h1 h2 h3 => far4 (by omega)).lower (B' := w.heap.size) (by omega)
  have P2 := bSet (bSet (bSet (bSet HB.out (p := ⟨w.heap.size + 1, 0, none⟩) (Nat.le_succ _) (.int .i64 n.1)) (p := ⟨w.heap.size + 1, 1, none⟩) (Nat.le_succ _) (.slice A1 n.2.1.length c1)) (p := ⟨w.heap.size + 1, 2, none⟩) (Nat.le_succ _) (.slice A2 n.2.2.1.length c2)) (p := ⟨w.heap.size + 1, 3, none⟩) (Nat.le_succ _) (.slice A3 n.2.2.2.length c3)
  first | exact ⟨_, _, _, rows, bs, rfl, P1, P2⟩ | exact ⟨_, _, _, rfl, rows, bs, P1, P2⟩ | exact ⟨_, _, _, rfl, ⟨rows, bs, P1⟩, P2⟩
/-- The cells of a net under construction. -/
def BoxG (w : World) (g : Nat) (v0 v1 v2 v3 v4 : Value) : Prop := w.heap[g]? = some (.cells #[v0, v1, v2, v3, v4] 72 (0, 0))
section
variable {w w' : World} {g : Nat} {v0 v1 v2 v3 v4 : Value}
theorem BoxG.lt (h : BoxG w g v0 v1 v2 v3 v4) : g < w.heap.size := (Array.getElem?_eq_some_iff.1 h).1
theorem BoxG.at (h : BoxG w g v0 v1 v2 v3 v4) (e : w'.heap[g]? = w.heap[g]?) : BoxG w' g v0 v1 v2 v3 v4 := e.trans h
theorem BoxG.cells (h : BoxG w g v0 v1 v2 v3 v4) : (w.cell? ⟨g, 0, none⟩ = some v0 ∧ w.cell? ⟨g, 1, none⟩ = some v1 ∧ w.cell? ⟨g, 2, none⟩ = some v2 ∧ w.cell? ⟨g, 3, none⟩ = some v3 ∧ w.cell? ⟨g, 4, none⟩ = some v4) ∧ ∀ i, w.frozen? ⟨g, i, none⟩ = false :=
  ⟨⟨box_cell h 0 _ rfl, box_cell h 1 _ rfl, box_cell h 2 _ rfl, box_cell h 3 _ rfl, box_cell h 4 _ rfl⟩, fun i => frozen_of_row _ _ i _ _ h⟩
theorem BoxG.set2 (h : BoxG w g v0 v1 v2 v3 v4) (u : Value) : BoxG (w.setCell ⟨g, 2, none⟩ u) g v0 v1 u v3 v4 := by
  have hlt := h.lt
  have e : w.heap[g]'hlt = .cells #[v0, v1, v2, v3, v4] 72 (0, 0) := by
    have h0 : w.heap[g]? = some (.cells #[v0, v1, v2, v3, v4] 72 (0, 0)) := h
    rw [Array.getElem?_eq_getElem hlt] at h0; injection h0
  unfold BoxG
  simp [World.setCell, hlt, Array.getElem_modify_self, e]
end
/-- Block g is a net of one's own to which gates are added; block M the map of its AND nodes. -/
structure GrowAt (B : Nat) (w : World) (g Mb : Nat) (v1 vA v3 : Value) (rows : List V3) (bs : List Nat) (n : DNet) : Prop where
  box : BoxG w g (.int .i64 n.1) v1 vA v3 (.map (some Mb))
  net : NetG B w v1 vA v3 rows bs n
  map : ∃ Dm, MapD w Mb (firN n) n.2.2.1 Dm
  off : ∀ b ∈ blkL v1 ++ (bs ++ (blkL vA ++ blkL v3)), b ≠ g ∧ b ≠ Mb
  gM : g ≠ Mb
  hg : B ≤ g
  hM : B ≤ Mb
  fitA : ∀ x ∈ n.2.2.1, FitA x
section
variable {B : Nat} {w w' : World} {g Mb : Nat} {v1 vA v3 : Value} {rows : List V3} {bs : List Nat} {n : DNet}
theorem GrowAt.at (h : GrowAt B w g Mb v1 vA v3 rows bs n) (hk : ∀ b, b = g ∨ b = Mb ∨ b ∈ blkL v1 ++ (bs ++ (blkL vA ++ blkL v3)) → w'.heap[b]? = w.heap[b]?) : GrowAt B w' g Mb v1 vA v3 rows bs n := by
  obtain ⟨Dm, hD⟩ := h.map
  exact ⟨h.box.at (hk g (.inl rfl)), h.net.at fun b _ _ hb => hk b (.inr (.inr hb)), ⟨Dm, hD.at (hk Mb (.inr (.inl rfl)))⟩, h.off, h.gM, h.hg, h.hM, h.fitA⟩
theorem GrowAt.lt (h : GrowAt B w g Mb v1 vA v3 rows bs n) {b : Nat} (hb : b = g ∨ b = Mb ∨ b ∈ blkL v1 ++ (bs ++ (blkL vA ++ blkL v3))) : b < w.heap.size ∧ B ≤ b := by
  obtain ⟨Dm, hD⟩ := h.map
  rcases hb with rfl | rfl | hb
  · exact ⟨h.box.lt, h.hg⟩
  · exact ⟨hD.lt, h.hM⟩
  · exact h.net.lt hb
theorem GrowAt.below (h : GrowAt B w g Mb v1 vA v3 rows bs n) (hb : Below w.heap.size w w') : GrowAt B w' g Mb v1 vA v3 rows bs n := h.at fun b hm => hb.block b (h.lt hm).1
/-- What stays when a gate is added. -/
theorem GrowAt.chg (h : GrowAt B w g Mb v1 vA v3 rows bs n) {c : World} {N : Nat} (hc : Below N c w) (hN : N ≤ B) (hw : ChgL (g :: Mb :: blkL vA) w w') (hNw : N ≤ w.heap.size) : Below N c w' :=
  below_chgL hc hw (fun b hb => by
    have : b = g ∨ b = Mb ∨ b ∈ blkL v1 ++ (bs ++ (blkL vA ++ blkL v3)) := by
      rcases List.mem_cons.1 hb with hb | hb
      · exact .inl hb
      rcases List.mem_cons.1 hb with hb | hb
      · exact .inr (.inl hb)
      · exact .inr (.inr (by simp [hb]))
    have := (h.lt this).2
    omega) hNw
theorem chgL_of_grown {row : Option Nat} {L : List Nat} (h : w.grownBy w' row) (hr : ∀ b, row = some b → b ∈ L) : ChgL L w w' :=
  ⟨h.os, h.tape, h.output, h.size, fun k hk hn => h.block k hk (fun e => hn (hr k e.symm))⟩
/-- An AND node more: behind the append, the store of the slice and the store into the map. -/
theorem GrowAt.add {w6 w9 : World} {k : Nat} {vA' : Value} {x : DAnd} {Dn : DataW Unit} (h : GrowAt B w g Mb v1 vA v3 rows bs n) (hown : w6.ownsRow B TAnd 2 vA' k (n.2.2.1.flatMap fAnd ++ fAnd x)) (hn : k = n.2.2.1.length + 1) (hgrow : w.grownBy w6 vA.ownBlock) (hat : vA'.ownBlock = vA.ownBlock ∨ vA'.ownBlock = some w.heap.size) (hx : FitA x)
    (hmap : MapD w9 Mb (firN n) (n.2.2.1 ++ [x]) Dn) (h9 : (w6.setCell ⟨g, 2, none⟩ vA').grownBy w9 (some Mb)) :
    GrowAt B w9 g Mb v1 vA' v3 rows bs (withA n (n.2.2.1 ++ [x])) ∧ ChgL (g :: Mb :: blkL vA) w w9 ∧ ∀ c ∈ blkL vA', c ∈ blkL vA ∨ w.heap.size ≤ c := by
  have hglt := h.box.lt
  obtain ⟨D0, hD0⟩ := h.map
  have hMlt := hD0.lt
  have hmem : ∀ c, vA.ownBlock = some c → c ∈ blkL v1 ++ (bs ++ (blkL vA ++ blkL v3)) := fun c e => by simp [mem_blkL.2 e]
  have hgn : some g ≠ vA.ownBlock := fun e => (h.off g (hmem g e.symm)).1 rfl
  have hMn : some Mb ≠ vA.ownBlock := fun e => (h.off Mb (hmem Mb e.symm)).2 rfl
  have hnew : ∀ c, c ∈ blkL vA' → c ∈ blkL vA ∨ c = w.heap.size := fun c hc => by
    have e := mem_blkL.1 hc
    rcases hat with h1 | h1
    · exact .inl (mem_blkL.2 (h1 ▸ e))
    · rw [h1] at e; injection e with e; exact .inr e.symm
  have hoff' : ∀ c ∈ blkL vA', c ≠ g ∧ c ≠ Mb := fun c hc => by
    rcases hnew c hc with h1 | h1
    · exact h.off c (by simp [h1])
    · omega
  have h97 : ∀ c, c ≠ Mb → c < w.heap.size → w9.heap[c]? = (w6.setCell ⟨g, 2, none⟩ vA').heap[c]? := fun c hc hl => h9.block c (by rw [World.size_setCell]; exact Nat.lt_of_lt_of_le hl hgrow.size) (fun e => by injection e with e; exact hc e)
  have h76 : ∀ c, c ≠ g → (w6.setCell ⟨g, 2, none⟩ vA').heap[c]? = w6.heap[c]? := fun c hc => Below.heap_setCell w6 _ _ c (by intro e; exact hc e)
  have a1 := h.net.a.addV (n := k) (r := x) (x := x) (cs := []) gow_And (Below.refl _ _) hgrow hown hn hat (owAnd_of hx.1 hx.2 _) (by simpa using h.net.a.nd) (fun b hb => by cases hb)
  have a2 := GrR.at (w' := w9) gow_And a1 (fun b hb => by
    have hb : b ∈ blkL vA' := by simpa using hb
    have ho := hoff' b hb
    have hlt := (a1.lt gow_And (List.mem_append.2 (.inl hb))).1
    exact (h9.block b (by rw [World.size_setCell]; exact hlt) (fun e => by injection e with e; exact ho.2 e)).trans (h76 b ho.1))
  have keepB : ∀ b, b ∈ blkL v1 ++ (bs ++ blkL v3) → w9.heap[b]? = w.heap[b]? := fun b hb => by
    have hm : b ∈ blkL v1 ++ (bs ++ (blkL vA ++ blkL v3)) := by simp only [List.mem_append] at hb ⊢; rcases hb with hb | hb | hb <;> simp [hb]
    have ho := h.off b hm
    have hlt := (h.net.lt hm).1
    have hrow : some b ≠ vA.ownBlock := fun e => by
      have hA := mem_blkL.2 e.symm
      simp only [List.mem_append] at hb
      rcases hb with hb | hb | hb
      · exact h.net.sa b (List.mem_append.2 (.inl hb)) hA
      · exact h.net.sa b (List.mem_append.2 (.inr hb)) hA
      · exact h.net.ao b hA hb
    exact (h97 b ho.2 hlt).trans ((h76 b ho.1).trans (hgrow.block b hlt hrow))
  refine ⟨⟨?_, ⟨h.net.s.at gow_Seq fun b hb => keepB b (by rcases List.mem_append.1 hb with hb | hb <;> simp [hb]), (show GrR fAnd 2 TAnd owAnd B [] w9 vA' (n.2.2.1 ++ [x]) (n.2.2.1 ++ [x]) by simpa using a2), h.net.o.at owInt_good fun b hb => keepB b (by simp only [List.append_nil] at hb; simp [hb]), fun b hb hm => ?_, h.net.so, fun b hb => ?_, h.net.fit⟩, ⟨Dn, hmap⟩, fun b hb => ?_, h.gM, h.hg, h.hM, fun y hy => ?_⟩, ?_, fun c hc => (hnew c hc).imp id (fun e => Nat.le_of_eq e.symm)⟩
  · have hb6 : BoxG w6 g (.int .i64 n.1) v1 vA v3 (.map (some Mb)) := h.box.at (hgrow.block g hglt hgn)
    exact (hb6.set2 vA').at (h97 g h.gM hglt)
  · rcases hnew b hm with h1 | h1
    · exact h.net.sa b hb h1
    · have := (h.net.s.lt gow_Seq hb).1; omega
  · rcases hnew b hb with h1 | h1
    · exact h.net.ao b h1
    · intro hm; have := (h.net.o.lt owInt_good (by simpa using hm)).1; omega
  · simp only [List.mem_append] at hb
    rcases hb with hb | hb | hb | hb
    · exact h.off b (by simp [hb])
    · exact h.off b (by simp [hb])
    · exact hoff' b hb
    · exact h.off b (by simp [hb])
  · rcases List.mem_append.1 hy with hy | hy
    · exact h.fitA y hy
    · simp only [List.mem_cons, List.not_mem_nil, or_false] at hy; subst hy; exact hx
  · exact ((chgL_of_grown hgrow (fun b e => by simp [mem_blkL.2 e])).set (by simp) 2 vA').trans (chgL_of_grown h9 (fun b e => by injection e with e; subst e; simp))
end
set_option maxRecDepth 100000 in
set_option maxHeartbeats 6400000 in
theorem grow_at (n : DNet) (us : List Value) (w : World) (h : rdNet 0 w.heap.size w us n) (hS : SizeP n) (hin : ∀ s ∈ n.2.1, s.2.2.length ≤ 1048576) :
    Calls Try.prog 50 #[.agg us.toArray] w fun e w' => ∃ g Mb v1 vA v3 rows bs, e = .returned (.pointer (some ⟨g, 0, none⟩)) ∧ GrowAt w.heap.size w' g Mb v1 vA v3 rows bs n ∧ Below w.heap.size w w' := by
  have HD := Lib.hid h
  have HIN := Lib.hid hin
  have HP := Lib.hid hS
  have HFA := Lib.hid (net_fit h).2.1
  have hq12 : n.2.1.length ≤ 1048576 := by have := hS.s12; omega
  have ha12 : n.2.2.1.length ≤ 1048576 := by have := hS.a300; omega
  have ho12 : n.2.2.2.length ≤ 1048576 := by have := hS.o16; omega
  clear hin
  obtain ⟨mu0, mu1, mu2, mu3, rfl, mh0, mh1, mh2, mh3⟩ := h
  obtain ⟨me0, -⟩ := mh0
  injection me0 with me0
  subst me0
  obtain ⟨mA1, mc1, me1, mm1, -⟩ := slice_of mh1
  subst me1
  have mR1 := Lib.hid mh1
  clear mh1
  obtain ⟨mA2, mc2, me2, mm2, -⟩ := slice_of mh2
  subst me2
  have mR2 := Lib.hid mh2
  clear mh2
  obtain ⟨mA3, mc3, me3, mm3, -⟩ := slice_of mh3
  subst me3
  have mR3 := Lib.hid mh3
  clear mh3
  go_enter Try.func50, Try.ntmps50
  go_wp2_with fail
  obtain ⟨W0, hV⟩ : ∃ W0, W0 = w.alloc (.cells #[.int .i64 n.1, .slice mA1 (n.2.1).length mc1, .slice mA2 (n.2.2.1).length mc2, .slice mA3 (n.2.2.2).length mc3] 36) := ⟨_, rfl⟩
  rw [← hV]
  have gN := eqbox1 hV
  have d0 : W0.cell? ⟨w.heap.size, 0, none⟩ = some (.int .i64 n.1) := box_cell gN.1 0 _ rfl
  have d1 : W0.cell? ⟨w.heap.size, 1, none⟩ = some (.slice mA1 (n.2.1).length mc1) := box_cell gN.1 1 _ rfl
  have d2 : W0.cell? ⟨w.heap.size, 2, none⟩ = some (.slice mA2 (n.2.2.1).length mc2) := box_cell gN.1 2 _ rfl
  have d3 : W0.cell? ⟨w.heap.size, 3, none⟩ = some (.slice mA3 (n.2.2.2).length mc3) := box_cell gN.1 3 _ rfl
  have HW0 := Lib.hid gN.2
  clear hV gN
  have hS0 : (fun w' => Below W0.heap.size W0 w' ∧ w'.cell? ⟨w.heap.size, 0, none⟩ = some (.int .i64 n.1) ∧ w'.cell? ⟨w.heap.size, 1, none⟩ = some (.slice mA1 (n.2.1).length mc1) ∧ w'.cell? ⟨w.heap.size, 2, none⟩ = some (.slice mA2 (n.2.2.1).length mc2) ∧ w'.cell? ⟨w.heap.size, 3, none⟩ = some (.slice mA3 (n.2.2.2).length mc3)) W0 := ⟨Below.refl _ _, d0, d1, d2, d3⟩
  have hS : ∀ {w0 w' : World}, (fun w' => Below W0.heap.size W0 w' ∧ w'.cell? ⟨w.heap.size, 0, none⟩ = some (.int .i64 n.1) ∧ w'.cell? ⟨w.heap.size, 1, none⟩ = some (.slice mA1 (n.2.1).length mc1) ∧ w'.cell? ⟨w.heap.size, 2, none⟩ = some (.slice mA2 (n.2.2.1).length mc2) ∧ w'.cell? ⟨w.heap.size, 3, none⟩ = some (.slice mA3 (n.2.2.2).length mc3)) w0 → Below w0.heap.size w0 w' → (fun w' => Below W0.heap.size W0 w' ∧ w'.cell? ⟨w.heap.size, 0, none⟩ = some (.int .i64 n.1) ∧ w'.cell? ⟨w.heap.size, 1, none⟩ = some (.slice mA1 (n.2.1).length mc1) ∧ w'.cell? ⟨w.heap.size, 2, none⟩ = some (.slice mA2 (n.2.2.1).length mc2) ∧ w'.cell? ⟨w.heap.size, 3, none⟩ = some (.slice mA3 (n.2.2.2).length mc3)) w' := fun h hb => ⟨bThen h.1 hb, keep hb h.2.1, keep hb h.2.2.1, keep hb h.2.2.2.1, keep hb h.2.2.2.2⟩
  dsimp only at hS0 hS
  refine wp_region_noPanic ?_
  refine wp_region_kept 3 7 (fun w' => Below W0.heap.size W0 w' ∧ w'.cell? ⟨w.heap.size, 0, none⟩ = some (.int .i64 n.1) ∧ w'.cell? ⟨w.heap.size, 1, none⟩ = some (.slice mA1 (n.2.1).length mc1) ∧ w'.cell? ⟨w.heap.size, 2, none⟩ = some (.slice mA2 (n.2.2.1).length mc2) ∧ w'.cell? ⟨w.heap.size, 3, none⟩ = some (.slice mA3 (n.2.2.2).length mc3)) (by kernel_rfl) rfl (hS hS0 (Below.drew (Below.refl _ _))) (fun hK0 => ?_)
  refine Kept.take (v := ?va0) 0 (by kernel_rfl) rfl (by kernel_rfl) (fun _ _ _ h => h) (Or.inl ⟨by rfl, ?hya0⟩) hK0 ?resta0
  case hya0 =>
    intro w0 hSw
    (try dsimp only at hSw)
    go_simp
    all_goals (with_reducible rfl)
  (try simp only [Act.put, List.setIfInBounds_toArray, List.set_cons_zero, List.set_cons_succ])
  refine Kept.take (v := ?va2) 2 (by kernel_rfl) rfl (by kernel_rfl) (fun _ _ _ h => h) (Or.inl ⟨by rfl, ?hya2⟩) hK0 ?resta2
  case hya2 =>
    intro w0 hSw
    (try dsimp only at hSw)
    go_simp
    all_goals (with_reducible rfl)
  (try simp only [Act.put, List.setIfInBounds_toArray, List.set_cons_zero, List.set_cons_succ])
  refine Kept.one 1 (by kernel_rfl) rfl (fun K hK => ?_)
  go_simp
  go_at_call 104
  refine (copied_at n _ _ (rdUp good_Net HD.out (bThen HW0.out hK0.1)) hq12 HIN.out ha12 ho12).mono ?_
  rintro e w1 ⟨v1, vA, v3, rows, bs, rfl, hnet, hb1⟩
  obtain ⟨A1, c1, rfl⟩ := hnet.s.cap fV3_len
  obtain ⟨A2, c2, rfl⟩ := hnet.a.cap fAnd_len
  obtain ⟨A3, c3, rfl⟩ := hnet.o.cap fInt_len
  have HN1 := Lib.hid hnet
  have HB1 := Lib.hid (bThen (bThen HW0.out hK0.1) hb1)
  have hlo1 := hK0.1.size
  go_simp
  refine hK.out _ _ (hS hK0 hb1) (fun hK1 => ?_)
  clear hK K hK0
  (try simp only [Act.put, List.setIfInBounds_toArray, List.set_cons_zero, List.set_cons_succ])
  refine Kept.tail (by rfl) (by kernel_rfl) ?_
  simp only [List.drop_succ_cons, List.drop_zero]
  go_wp2_with fail
  refine (known_at n _ _ (rdUp good_Net HD.out HB1.out) HP.out).mono ?_
  rintro e w2 ⟨Mb, Dm, rfl, hMl, hmd, -, hb2⟩
  have HM2 := Lib.hid hmd
  have HN2 := Lib.hid (HN1.out.below hb2)
  have HN0 := Lib.hid (fun b hb => (HN1.out.lt (b := b) hb).1)
  have HB2 := Lib.hid (bThen HB1.out hb2)
  have hsz := hb2.size
  have hwl := HW0.out.size
  have hsz1 := HB1.out.size
  have hMt := hmd.lt
  clear hmd hb2 hK1 hS hS0 d0 d1 d2 d3
  go_wp2
  refine NoPanic.normal ?_
  obtain ⟨W5, hW5⟩ : ∃ x, x = w2.alloc (.cells #[.int .i64 n.1, .slice A1 n.2.1.length c1, .slice A2 n.2.2.1.length c2, .slice A3 n.2.2.2.length c3, .map (some Mb)] 72) := ⟨_, rfl⟩
  rw [← hW5]
  have HB5 := Lib.hid (show Below w2.heap.size w2 W5 by rw [hW5]; exact bAlloc (Below.refl _ _) (Nat.le_refl _) _)
  have HG5 := Lib.hid (show GrowAt w.heap.size W5 w2.heap.size Mb (.slice A1 n.2.1.length c1) (.slice A2 n.2.2.1.length c2) (.slice A3 n.2.2.2.length c3) rows bs n from by
    refine ⟨by rw [hW5]; exact heap_alloc_new _ _, (HN2.out.below HB5.out).lower (by omega), ⟨Dm, HM2.out.below HB5.out⟩, fun b hb => ?_, by omega, by omega, by omega, HFA.out⟩
    have := HN0.out b hb
    omega)
  clear hW5
  go_wp2
  go_ret
  have P2 := bThen HB2.out HB5.out
  first | exact ⟨_, _, _, _, _, rows, bs, rfl, HG5.out, P2⟩ | exact ⟨_, rfl, _, _, _, _, rows, bs, HG5.out, P2⟩ | exact ⟨_, rfl, ⟨_, _, _, _, rows, bs, HG5.out⟩, P2⟩
end Go.Proofs.Ytedamhkcblemdaa
/- HiG: The conjunction of two literals is added: the program. -/
namespace Go.Proofs.Ytedamhkcblemdaa
open Go.RowKit
set_option linter.unusedVariables false
set_option linter.unusedSimpArgs false

theorem andG_triv {F : Nat} {A : List DAnd} {a b p q : Int} (hp : min a b = p) (hq : max a b = q) : andG F A a b = if p < 0 then (A, -1) else if (trivO p q).2 = true then (A, (trivO p q).1) else
    match idxG (p, q) A 0 with
    | some i => (A, 2 * ((F + i : Nat) : Int))
    | none => if A.length = 300 then (A, -1) else (A ++ [(p, q)], 2 * ((F + A.length : Nat) : Int)) := by
  unfold andG trivO
  rw [hp, hq]
  by_cases h0 : p < 0
  · rw [if_pos h0, if_pos h0]
  rw [if_neg h0, if_neg h0]
  by_cases h1 : p = 0 ∨ p = cI q
  · rw [if_pos h1, if_pos h1]; rfl
  rw [if_neg h1, if_neg h1]
  by_cases h2 : p = 1 ∨ p = q
  · rw [if_pos h2, if_pos h2]; rfl
  · rw [if_neg h2, if_neg h2]; rfl
section
variable {B : Nat} {w w' : World} {g Mb : Nat} {v1 vA v3 : Value} {rows : List V3} {bs : List Nat} {n : DNet}
/-- What a gate leaves: the AND nodes are A. -/
def GrewTo (B : Nat) (w w' : World) (g Mb : Nat) (v1 vA v3 : Value) (rows : List V3) (bs : List Nat) (n : DNet) (A : List DAnd) : Prop :=
  ∃ vA', GrowAt B w' g Mb v1 vA' v3 rows bs (withA n A) ∧ ChgL (g :: Mb :: blkL vA) w w' ∧ ∀ c ∈ blkL vA', c ∈ blkL vA ∨ w.heap.size ≤ c
theorem GrowAt.same (h : GrowAt B w g Mb v1 vA v3 rows bs n) (hb : Below w.heap.size w w') : GrewTo B w w' g Mb v1 vA v3 rows bs n n.2.2.1 :=
  ⟨vA, h.below hb, (ChgL.refl _ w).below hb, fun c hc => .inl hc⟩
end
set_option maxRecDepth 100000 in
set_option maxHeartbeats 25600000 in
theorem gAnd_at (n : DNet) (a b : Int) (B g Mb : Nat) (v1 vA v3 : Value) (rows : List V3) (bs : List Nat) (w : World) (h : GrowAt B w g Mb v1 vA v3 rows bs n) (hB : B ≤ w.heap.size) (hS : SizeP n) (ha : Fit a) (hb : Fit b) {A' : List DAnd} {x : Int} (hr : andG (firN n) n.2.2.1 a b = (A', x)) :
    Calls Try.prog 52 #[.pointer (some ⟨g, 0, none⟩), .int .i64 a, .int .i64 b] w fun e w' => e = .returned (.int .i64 x) ∧ GrewTo B w w' g Mb v1 vA v3 rows bs n A' := by
  obtain ⟨iA, hiA, hzA0, hzA1, hzA2⟩ := info_parts infoA1
  have HIiA := Lib.hid (And.intro hiA (And.intro hzA0 (And.intro hzA1 hzA2)))
  clear hiA hzA0 hzA1 hzA2
  obtain ⟨A1, c1, rfl⟩ := h.net.s.cap fV3_len
  obtain ⟨A2, c2, rfl⟩ := h.net.a.cap fAnd_len
  obtain ⟨A3, c3, rfl⟩ := h.net.o.cap fInt_len
  have HG := Lib.hid h
  have HP := Lib.hid hS
  have a300 := hS.a300
  have i20 := hS.i20
  have s12 := hS.s12
  have hf33 : firN n ≤ 40 := by unfold firN; omega
  obtain ⟨p, hp⟩ : ∃ p, min a b = p := ⟨_, rfl⟩
  obtain ⟨q, hq⟩ : ∃ q, max a b = q := ⟨_, rfl⟩
  have HPp := Lib.hid hp
  have HQq := Lib.hid hq
  have HR := Lib.hid ((andG_triv hp hq).symm.trans hr)
  have HFX := Lib.hid (show FitA (p, q) from ⟨by unfold Fit at ha hb ⊢; omega, by unfold Fit at ha hb ⊢; omega⟩)
  have hqf : q < 9223372036854775808 := by unfold Fit at ha hb; omega
  have HPQ := Lib.hid (show 0 ≤ p → 0 ≤ q by omega)
  have hgl := h.box.lt
  clear h hS hr ha hb hp hq i20 s12
  go_enter Try.func52, Try.ntmps52
  go_wp2_with fail
  refine (ord_at a b p q HPp.out HQq.out _).mono ?_
  rintro e w1 ⟨rfl, hb1⟩
  have HB1 := Lib.hid hb1
  clear hb1
  by_cases h0 : p < 0
  · obtain ⟨rfl, rfl⟩ := Prod.mk.inj ((if_pos h0).symm.trans HR.out)
    go_wp2
    go_ret
    exact ⟨rfl, HG.out.same (bThen HB1.out (bAlloc (Below.refl _ _) (Nat.le_refl _) _))⟩
  obtain ⟨t, ht⟩ : ∃ t, trivO p q = t := ⟨_, rfl⟩
  obtain ⟨r, f⟩ := t
  have HT := Lib.hid ht
  have h0q := HPQ.out (by omega)
  have HR2 := Lib.hid ((if_neg h0).symm.trans HR.out)
  clear HR
  rw [ht] at HR2
  clear ht
  go_wp2_with fail
  obtain ⟨V0, hV⟩ : ∃ V, V = w1.alloc (.cells #[.int .i64 p, .int .i64 q] 67) := ⟨_, rfl⟩
  rw [← hV]
  have gN := eqbox1 hV
  obtain ⟨q0, hq0⟩ : ∃ q0, q0 = w1.heap.size := ⟨_, rfl⟩
  rw [← hq0] at gN ⊢
  have y0 : V0.cell? ⟨q0, 0, none⟩ = some (.int .i64 p) := box_cell gN.1 0 _ rfl
  have y1 : V0.cell? ⟨q0, 1, none⟩ = some (.int .i64 q) := box_cell gN.1 1 _ rfl
  have HBV0 := Lib.hid (show Below w.heap.size w V0 by rw [hV]; exact bThen HB1.out (bAlloc (Below.refl _ _) (Nat.le_refl _) _))
  have hq1 : w.heap.size ≤ q0 := by rw [hq0]; exact HB1.out.size
  clear hV gN hq0
  refine (triv_at p q h0q hqf _ HT.out).mono ?_
  rintro e V ⟨rfl, hb2⟩
  have HBV := Lib.hid (bThen HBV0.out hb2)
  replace y0 := keep hb2 y0
  replace y1 := keep hb2 y1
  have HGV := Lib.hid (HG.out.below HBV.out)
  have hgV : g < V.heap.size := Nat.lt_of_lt_of_le hgl HBV.out.size
  clear hb2
  cases f with
  | true =>
    obtain ⟨rfl, rfl⟩ := Prod.mk.inj (show ((n.2.2.1, r) : List DAnd × Int) = (A', x) from HR2.out)
    go_wp2
    go_ret
    exact ⟨rfl, HG.out.same HBV.out⟩
  | false =>
    have k0 := HGV.out.box.cells.1.1
    have k1 := HGV.out.box.cells.1.2.1
    have k2 := HGV.out.box.cells.1.2.2.1
    have k3 := HGV.out.box.cells.1.2.2.2.1
    have k4 := HGV.out.box.cells.1.2.2.2.2
    have HZ := Lib.hid HGV.out.box.cells.2
    obtain ⟨Dm, hmd⟩ := HGV.out.map
    have HMD := Lib.hid hmd
    clear hmd
    go_wp2_with fail
    have hS0 : (fun w' => Below V.heap.size V w' ∧ w'.cell? ⟨g, 4, none⟩ = some (.map (some Mb)) ∧ w'.cell? ⟨q0, 0, none⟩ = some (.int .i64 p) ∧ w'.cell? ⟨q0, 1, none⟩ = some (.int .i64 q)) V := ⟨Below.refl _ _, k4, y0, y1⟩
    have hS : ∀ {w0 w' : World}, (fun w' => Below V.heap.size V w' ∧ w'.cell? ⟨g, 4, none⟩ = some (.map (some Mb)) ∧ w'.cell? ⟨q0, 0, none⟩ = some (.int .i64 p) ∧ w'.cell? ⟨q0, 1, none⟩ = some (.int .i64 q)) w0 → Below w0.heap.size w0 w' → (fun w' => Below V.heap.size V w' ∧ w'.cell? ⟨g, 4, none⟩ = some (.map (some Mb)) ∧ w'.cell? ⟨q0, 0, none⟩ = some (.int .i64 p) ∧ w'.cell? ⟨q0, 1, none⟩ = some (.int .i64 q)) w' := fun h hb => ⟨bThen h.1 hb, keep hb h.2.1, keep hb h.2.2.1, keep hb h.2.2.2⟩
    dsimp only at hS0 hS
    cases hi : idxG (p, q) n.2.2.1 0 with
    | some i =>
      have hrun := (HMD.out.below (Below.drew (Below.refl V.heap.size V))).look_yes HFX.out hi
      have hR3 := HR2.out
      rw [hi] at hR3
      obtain ⟨rfl, rfl⟩ := Prod.mk.inj hR3
      clear hi hR3
      refine wp_region_noPanic ?_
      refine wp_region_kept 10 11 (fun w' => Below V.heap.size V w' ∧ w'.cell? ⟨g, 4, none⟩ = some (.map (some Mb)) ∧ w'.cell? ⟨q0, 0, none⟩ = some (.int .i64 p) ∧ w'.cell? ⟨q0, 1, none⟩ = some (.int .i64 q)) (by kernel_rfl) rfl (hS hS0 (Below.drew (Below.refl _ _))) (fun hK0 => ?_)
      refine Kept.take (v := ?va0) 0 (by kernel_rfl) rfl (by kernel_rfl) (fun _ _ _ h => h) (Or.inl ⟨by rfl, ?hya0⟩) hK0 ?resta0
      case hya0 =>
        intro w0 hSw
        (try dsimp only at hSw)
        go_simp
        all_goals (with_reducible rfl)
      (try simp only [Act.put, List.setIfInBounds_toArray, List.set_cons_zero, List.set_cons_succ])
      refine Kept.take (v := ?va1) 1 (by kernel_rfl) rfl (by kernel_rfl) (fun _ _ _ h => h) (Or.inl ⟨by rfl, ?hya1⟩) hK0 ?resta1
      case hya1 =>
        intro w0 hSw
        (try dsimp only at hSw)
        go_simp
        all_goals (with_reducible rfl)
      (try simp only [Act.put, List.setIfInBounds_toArray, List.set_cons_zero, List.set_cons_succ])
      refine Kept.take (v := ?va2) 2 (by kernel_rfl) rfl (by kernel_rfl) (fun _ _ _ h => h) (Or.inl ⟨by rfl, ?hya2⟩) hK0 ?resta2
      case hya2 =>
        intro w0 hSw
        (try dsimp only at hSw)
        go_simp
        all_goals (with_reducible rfl)
      (try simp only [Act.put, List.setIfInBounds_toArray, List.set_cons_zero, List.set_cons_succ])
      refine Kept.take (v := ?va3) 3 (by kernel_rfl) rfl (by kernel_rfl) (fun _ _ _ h => h) (Or.inl ⟨by rfl, ?hya3⟩) hK0 ?resta3
      case hya3 =>
        intro w0 hSw
        (try dsimp only at hSw)
        go_simp
        all_goals (with_reducible rfl)
      (try simp only [Act.put, List.setIfInBounds_toArray, List.set_cons_zero, List.set_cons_succ])
      refine Kept.take (v := ?va4) 4 (by kernel_rfl) rfl (by kernel_rfl) (fun _ _ _ h => h) (Or.inl ⟨by rfl, ?hya4⟩) hK0 ?resta4
      case hya4 =>
        intro w0 hSw
        (try dsimp only at hSw)
        go_simp
        all_goals (with_reducible rfl)
      (try simp only [Act.put, List.setIfInBounds_toArray, List.set_cons_zero, List.set_cons_succ])
      refine Kept.one 5 (by kernel_rfl) rfl (fun K hK => ?_)
      refine step_look (by rfl) (by rfl) (by rfl) (by rfl) hrun ?_
      refine hK.out _ _ (hK0) (fun hK1 => ?_)
      clear hK K hK0
      (try simp only [Act.put, List.setIfInBounds_toArray, List.set_cons_zero, List.set_cons_succ])
      refine Kept.take (v := ?va6) 6 (by kernel_rfl) rfl (by kernel_rfl) (fun _ _ _ h => h) (Or.inl ⟨by rfl, ?hya6⟩) hK1 ?resta6
      case hya6 =>
        intro w0 hSw
        (try dsimp only at hSw)
        go_simp
        all_goals (with_reducible rfl)
      (try simp only [Act.put, List.setIfInBounds_toArray, List.set_cons_zero, List.set_cons_succ])
      refine Kept.take (v := ?va7) 7 (by kernel_rfl) rfl (by kernel_rfl) (fun _ _ _ h => h) (Or.inl ⟨by rfl, ?hya7⟩) hK1 ?resta7
      case hya7 =>
        intro w0 hSw
        (try dsimp only at hSw)
        go_simp
        all_goals (with_reducible rfl)
      (try simp only [Act.put, List.setIfInBounds_toArray, List.set_cons_zero, List.set_cons_succ])
      refine Kept.take (v := ?va8) 8 (by kernel_rfl) rfl (by kernel_rfl) (fun _ _ _ h => h) (Or.inl ⟨by rfl, ?hya8⟩) hK1 ?resta8
      case hya8 =>
        intro w0 hSw
        (try dsimp only at hSw)
        go_simp
        all_goals (with_reducible rfl)
      (try simp only [Act.put, List.setIfInBounds_toArray, List.set_cons_zero, List.set_cons_succ])
      refine Kept.take (v := ?va9) 9 (by kernel_rfl) rfl (by kernel_rfl) (fun _ _ _ h => h) (Or.inl ⟨by rfl, ?hya9⟩) hK1 ?resta9
      case hya9 =>
        intro w0 hSw
        (try dsimp only at hSw)
        go_simp
        all_goals (with_reducible rfl)
      (try simp only [Act.put, List.setIfInBounds_toArray, List.set_cons_zero, List.set_cons_succ])
      refine Kept.tail (by rfl) (by kernel_rfl) ?_
      simp only [List.drop_succ_cons, List.drop_zero]
      clear hrun
      have HBW := Lib.hid (bThen HBV.out hK1.1)
      clear hK1 hS hS0
      go_wp2
      refine NoPanic.normal ?_
      go_wp2
      go_ret
      exact ⟨ret_i64 (by omega), HG.out.same HBW.out⟩
    | none =>
      have hrun := (HMD.out.below (Below.drew (Below.refl V.heap.size V))).look_no HFX.out hi
      have hR3 := HR2.out
      rw [hi] at hR3
      have HR3 := Lib.hid hR3
      have HI := Lib.hid hi
      clear hi hR3 HR2
      refine wp_region_noPanic ?_
      refine wp_region_kept 10 11 (fun w' => Below V.heap.size V w' ∧ w'.cell? ⟨g, 4, none⟩ = some (.map (some Mb)) ∧ w'.cell? ⟨q0, 0, none⟩ = some (.int .i64 p) ∧ w'.cell? ⟨q0, 1, none⟩ = some (.int .i64 q)) (by kernel_rfl) rfl (hS hS0 (Below.drew (Below.refl _ _))) (fun hK0 => ?_)
      refine Kept.take (v := ?vn0) 0 (by kernel_rfl) rfl (by kernel_rfl) (fun _ _ _ h => h) (Or.inl ⟨by rfl, ?hyn0⟩) hK0 ?restn0
      case hyn0 =>
        intro w0 hSw
        (try dsimp only at hSw)
        go_simp
        all_goals (with_reducible rfl)
      (try simp only [Act.put, List.setIfInBounds_toArray, List.set_cons_zero, List.set_cons_succ])
      refine Kept.take (v := ?vn1) 1 (by kernel_rfl) rfl (by kernel_rfl) (fun _ _ _ h => h) (Or.inl ⟨by rfl, ?hyn1⟩) hK0 ?restn1
      case hyn1 =>
        intro w0 hSw
        (try dsimp only at hSw)
        go_simp
        all_goals (with_reducible rfl)
      (try simp only [Act.put, List.setIfInBounds_toArray, List.set_cons_zero, List.set_cons_succ])
      refine Kept.take (v := ?vn2) 2 (by kernel_rfl) rfl (by kernel_rfl) (fun _ _ _ h => h) (Or.inl ⟨by rfl, ?hyn2⟩) hK0 ?restn2
      case hyn2 =>
        intro w0 hSw
        (try dsimp only at hSw)
        go_simp
        all_goals (with_reducible rfl)
      (try simp only [Act.put, List.setIfInBounds_toArray, List.set_cons_zero, List.set_cons_succ])
      refine Kept.take (v := ?vn3) 3 (by kernel_rfl) rfl (by kernel_rfl) (fun _ _ _ h => h) (Or.inl ⟨by rfl, ?hyn3⟩) hK0 ?restn3
      case hyn3 =>
        intro w0 hSw
        (try dsimp only at hSw)
        go_simp
        all_goals (with_reducible rfl)
      (try simp only [Act.put, List.setIfInBounds_toArray, List.set_cons_zero, List.set_cons_succ])
      refine Kept.take (v := ?vn4) 4 (by kernel_rfl) rfl (by kernel_rfl) (fun _ _ _ h => h) (Or.inl ⟨by rfl, ?hyn4⟩) hK0 ?restn4
      case hyn4 =>
        intro w0 hSw
        (try dsimp only at hSw)
        go_simp
        all_goals (with_reducible rfl)
      (try simp only [Act.put, List.setIfInBounds_toArray, List.set_cons_zero, List.set_cons_succ])
      refine Kept.one 5 (by kernel_rfl) rfl (fun K hK => ?_)
      refine step_look (by rfl) (by rfl) (by rfl) (by rfl) hrun ?_
      refine hK.out _ _ (hK0) (fun hK1 => ?_)
      clear hK K hK0
      (try simp only [Act.put, List.setIfInBounds_toArray, List.set_cons_zero, List.set_cons_succ])
      refine Kept.take (v := ?vn6) 6 (by kernel_rfl) rfl (by kernel_rfl) (fun _ _ _ h => h) (Or.inl ⟨by rfl, ?hyn6⟩) hK1 ?restn6
      case hyn6 =>
        intro w0 hSw
        (try dsimp only at hSw)
        go_simp
        all_goals (with_reducible rfl)
      (try simp only [Act.put, List.setIfInBounds_toArray, List.set_cons_zero, List.set_cons_succ])
      refine Kept.take (v := ?vn7) 7 (by kernel_rfl) rfl (by kernel_rfl) (fun _ _ _ h => h) (Or.inl ⟨by rfl, ?hyn7⟩) hK1 ?restn7
      case hyn7 =>
        intro w0 hSw
        (try dsimp only at hSw)
        go_simp
        all_goals (with_reducible rfl)
      (try simp only [Act.put, List.setIfInBounds_toArray, List.set_cons_zero, List.set_cons_succ])
      refine Kept.take (v := ?vn8) 8 (by kernel_rfl) rfl (by kernel_rfl) (fun _ _ _ h => h) (Or.inl ⟨by rfl, ?hyn8⟩) hK1 ?restn8
      case hyn8 =>
        intro w0 hSw
        (try dsimp only at hSw)
        go_simp
        all_goals (with_reducible rfl)
      (try simp only [Act.put, List.setIfInBounds_toArray, List.set_cons_zero, List.set_cons_succ])
      refine Kept.take (v := ?vn9) 9 (by kernel_rfl) rfl (by kernel_rfl) (fun _ _ _ h => h) (Or.inl ⟨by rfl, ?hyn9⟩) hK1 ?restn9
      case hyn9 =>
        intro w0 hSw
        (try dsimp only at hSw)
        go_simp
        all_goals (with_reducible rfl)
      (try simp only [Act.put, List.setIfInBounds_toArray, List.set_cons_zero, List.set_cons_succ])
      refine Kept.tail (by rfl) (by kernel_rfl) ?_
      simp only [List.drop_succ_cons, List.drop_zero]
      clear hrun hS hS0
      obtain ⟨Vd, hVd⟩ : ∃ x, x = V.drew := ⟨_, rfl⟩
      rw [← hVd] at hK1 ⊢
      have hbd := hK1.1
      replace k0 := keep hbd k0
      replace k1 := keep hbd k1
      replace k2 := keep hbd k2
      replace k3 := keep hbd k3
      replace k4 := keep hbd k4
      replace y0 := keep hbd y0
      replace y1 := keep hbd y1
      have HBD := Lib.hid (bThen HBV.out hbd)
      have HGD := Lib.hid (HG.out.below HBD.out)
      have HVD := Lib.hid hVd
      clear hK1 hbd hVd
      go_wp2_with fail
      refine NoPanic.normal ?_
      by_cases hfull : n.2.2.1.length = 300
      · have hR4 := HR3.out
        rw [if_pos hfull] at hR4
        obtain ⟨rfl, rfl⟩ := Prod.mk.inj hR4
        have t300 : ((n.2.2.1.length : Int) == 300) = true := by rw [hfull]; rfl
        clear hR4
        go_wp2
        go_ret
        exact ⟨rfl, HG.out.same HBD.out⟩
      · have hR4 := HR3.out
        rw [if_neg hfull] at hR4
        obtain ⟨rfl, rfl⟩ := Prod.mk.inj hR4
        have t300 : ((n.2.2.1.length : Int) == 300) = false := beq_false_of_ne (by omega)
        clear hR4 HR3
        go_wp2_with fail
        have hS0 : (fun w' => Below Vd.heap.size Vd w' ∧ w'.cell? ⟨g, 0, none⟩ = some (.int .i64 n.1) ∧ w'.cell? ⟨g, 1, none⟩ = some (.slice A1 n.2.1.length c1) ∧ w'.cell? ⟨g, 2, none⟩ = some (.slice A2 n.2.2.1.length c2) ∧ w'.cell? ⟨g, 3, none⟩ = some (.slice A3 n.2.2.2.length c3) ∧ w'.cell? ⟨g, 4, none⟩ = some (.map (some Mb))) Vd := ⟨Below.refl _ _, k0, k1, k2, k3, k4⟩
        have hS : ∀ {w0 w' : World}, (fun w' => Below Vd.heap.size Vd w' ∧ w'.cell? ⟨g, 0, none⟩ = some (.int .i64 n.1) ∧ w'.cell? ⟨g, 1, none⟩ = some (.slice A1 n.2.1.length c1) ∧ w'.cell? ⟨g, 2, none⟩ = some (.slice A2 n.2.2.1.length c2) ∧ w'.cell? ⟨g, 3, none⟩ = some (.slice A3 n.2.2.2.length c3) ∧ w'.cell? ⟨g, 4, none⟩ = some (.map (some Mb))) w0 → Below w0.heap.size w0 w' → (fun w' => Below Vd.heap.size Vd w' ∧ w'.cell? ⟨g, 0, none⟩ = some (.int .i64 n.1) ∧ w'.cell? ⟨g, 1, none⟩ = some (.slice A1 n.2.1.length c1) ∧ w'.cell? ⟨g, 2, none⟩ = some (.slice A2 n.2.2.1.length c2) ∧ w'.cell? ⟨g, 3, none⟩ = some (.slice A3 n.2.2.2.length c3) ∧ w'.cell? ⟨g, 4, none⟩ = some (.map (some Mb))) w' := fun h hb => ⟨bThen h.1 hb, keep hb h.2.1, keep hb h.2.2.1, keep hb h.2.2.2.1, keep hb h.2.2.2.2.1, keep hb h.2.2.2.2.2⟩
        dsimp only at hS0 hS
        refine wp_region_noPanic ?_
        refine wp_region_kept 10 13 (fun w' => Below Vd.heap.size Vd w' ∧ w'.cell? ⟨g, 0, none⟩ = some (.int .i64 n.1) ∧ w'.cell? ⟨g, 1, none⟩ = some (.slice A1 n.2.1.length c1) ∧ w'.cell? ⟨g, 2, none⟩ = some (.slice A2 n.2.2.1.length c2) ∧ w'.cell? ⟨g, 3, none⟩ = some (.slice A3 n.2.2.2.length c3) ∧ w'.cell? ⟨g, 4, none⟩ = some (.map (some Mb))) (by kernel_rfl) rfl (hS hS0 (Below.drew (Below.refl _ _))) (fun hK0 => ?_)
        refine Kept.take (v := ?vb0) 0 (by kernel_rfl) rfl (by kernel_rfl) (fun _ _ _ h => h) (Or.inl ⟨by rfl, ?hyb0⟩) hK0 ?restb0
        case hyb0 =>
          intro w0 hSw
          (try dsimp only at hSw)
          go_simp
          all_goals (with_reducible rfl)
        (try simp only [Act.put, List.setIfInBounds_toArray, List.set_cons_zero, List.set_cons_succ])
        refine Kept.take (v := ?vb1) 1 (by kernel_rfl) rfl (by kernel_rfl) (fun _ _ _ h => h) (Or.inl ⟨by rfl, ?hyb1⟩) hK0 ?restb1
        case hyb1 =>
          intro w0 hSw
          (try dsimp only at hSw)
          go_simp
          all_goals (with_reducible rfl)
        (try simp only [Act.put, List.setIfInBounds_toArray, List.set_cons_zero, List.set_cons_succ])
        refine Kept.take (v := ?vb2) 2 (by kernel_rfl) rfl (by kernel_rfl) (fun _ _ _ h => h) (Or.inl ⟨by rfl, ?hyb2⟩) hK0 ?restb2
        case hyb2 =>
          intro w0 hSw
          (try dsimp only at hSw)
          go_simp
          all_goals (with_reducible rfl)
        (try simp only [Act.put, List.setIfInBounds_toArray, List.set_cons_zero, List.set_cons_succ])
        refine Kept.take (v := ?vb3) 3 (by kernel_rfl) rfl (by kernel_rfl) (fun _ _ _ h => h) (Or.inl ⟨by rfl, ?hyb3⟩) hK0 ?restb3
        case hyb3 =>
          intro w0 hSw
          (try dsimp only at hSw)
          go_simp
          all_goals (with_reducible rfl)
        (try simp only [Act.put, List.setIfInBounds_toArray, List.set_cons_zero, List.set_cons_succ])
        refine Kept.take (v := ?vb4) 4 (by kernel_rfl) rfl (by kernel_rfl) (fun _ _ _ h => h) (Or.inl ⟨by rfl, ?hyb4⟩) hK0 ?restb4
        case hyb4 =>
          intro w0 hSw
          (try dsimp only at hSw)
          go_simp
          all_goals (with_reducible rfl)
        (try simp only [Act.put, List.setIfInBounds_toArray, List.set_cons_zero, List.set_cons_succ])
        refine Kept.take (v := ?vb5) 5 (by kernel_rfl) rfl (by kernel_rfl) (fun _ _ _ h => h) (Or.inl ⟨by rfl, ?hyb5⟩) hK0 ?restb5
        case hyb5 =>
          intro w0 hSw
          (try dsimp only at hSw)
          go_simp
          all_goals (with_reducible rfl)
        (try simp only [Act.put, List.setIfInBounds_toArray, List.set_cons_zero, List.set_cons_succ])
        refine Kept.take (v := ?vb6) 6 (by kernel_rfl) rfl (by kernel_rfl) (fun _ _ _ h => h) (Or.inl ⟨by rfl, ?hyb6⟩) hK0 ?restb6
        case hyb6 =>
          intro w0 hSw
          (try dsimp only at hSw)
          go_simp
          all_goals (with_reducible rfl)
        (try simp only [Act.put, List.setIfInBounds_toArray, List.set_cons_zero, List.set_cons_succ])
        refine Kept.take (v := ?vb7) 7 (by kernel_rfl) rfl (by kernel_rfl) (fun _ _ _ h => h) (Or.inl ⟨by rfl, ?hyb7⟩) hK0 ?restb7
        case hyb7 =>
          intro w0 hSw
          (try dsimp only at hSw)
          go_simp
          all_goals (with_reducible rfl)
        (try simp only [Act.put, List.setIfInBounds_toArray, List.set_cons_zero, List.set_cons_succ])
        refine Kept.take (v := ?vb8) 8 (by kernel_rfl) rfl (by kernel_rfl) (fun _ _ _ h => h) (Or.inl ⟨by rfl, ?hyb8⟩) hK0 ?restb8
        case hyb8 =>
          intro w0 hSw
          (try dsimp only at hSw)
          go_simp
          all_goals (with_reducible rfl)
        (try simp only [Act.put, List.setIfInBounds_toArray, List.set_cons_zero, List.set_cons_succ])
        refine Kept.take (v := ?vb9) 9 (by kernel_rfl) rfl (by kernel_rfl) (fun _ _ _ h => h) (Or.inl ⟨by rfl, ?hyb9⟩) hK0 ?restb9
        case hyb9 =>
          intro w0 hSw
          (try dsimp only at hSw)
          go_simp
          all_goals (with_reducible rfl)
        (try simp only [Act.put, List.setIfInBounds_toArray, List.set_cons_zero, List.set_cons_succ])
        refine Kept.tail (by rfl) (by kernel_rfl) ?_
        simp only [List.drop_succ_cons, List.drop_zero]
        go_wp2_with fail
        refine (andNode_at n n.2.2.1.length _ _ (HGD.out.below hK0.1).net.rd (Nat.le_refl _) HP.out a300).mono ?_
        rintro e V3 ⟨rfl, hb3⟩
        have hb4 := bThen hK0.1 hb3
        replace k0 := keep hb4 k0
        replace k1 := keep hb4 k1
        replace k2 := keep hb4 k2
        replace k3 := keep hb4 k3
        replace k4 := keep hb4 k4
        replace y0 := keep hb4 y0
        replace y1 := keep hb4 y1
        have HB3 := Lib.hid (bThen HBD.out hb4)
        have HMD3 := Lib.hid (HMD.out.below (show Below V.heap.size V V3 by rw [HVD.out] at hb4; exact bThen (Below.drew (Below.refl _ _)) hb4))
        clear hK0 hS hS0 hb3 hb4
        go_wp2_with fail
        refine (litOf_at (firN n + n.2.2.1.length) (by omega) _).mono ?_
        rintro e V3 ⟨rfl, rfl⟩
        go_wp2
        refine NoPanic.normal ?_
        have HRB := Lib.hid (show Below V3.heap.size V3 (V3.drew.alloc (.cells #[.int .i64 p, .int .i64 q] 67)) from bAlloc (Below.drew (Below.refl _ _)) (Nat.le_refl _) _)
        have HGR := Lib.hid (HG.out.below (bThen HB3.out HRB.out))
        have HRW := Lib.hid (show (V3.drew.alloc (.cells #[.int .i64 p, .int .i64 q] 67)).ownsRow B 67 2 (.slice A2 n.2.2.1.length c2) n.2.2.1.length (n.2.2.1.flatMap fAnd) from HGR.out.net.a.own)
        have HSZ := Lib.hid (show B ≤ (V3.drew.alloc (.cells #[.int .i64 p, .int .i64 q] 67)).heap.size from Nat.le_trans hB (bThen HB3.out HRB.out).size)
        have HNG := Lib.hid (show some g ≠ (Value.slice A2 n.2.2.1.length c2).ownBlock from fun e => (HG.out.off g (by simp [mem_blkL.2 e.symm])).1 rfl)
        have HNQ := Lib.hid (show some q0 ≠ (Value.slice A2 n.2.2.1.length c2).ownBlock from fun e => by have := (HG.out.net.a.lt gow_And (List.mem_append.2 (.inl (mem_blkL.2 e.symm)))).1; omega)
        have HNM := Lib.hid (show some Mb ≠ (Value.slice A2 n.2.2.1.length c2).ownBlock from fun e => (HG.out.off Mb (by simp [mem_blkL.2 e.symm])).2 rfl)
        go_wp2_with fail
        have hS0 : (fun w' => w'.cell? ⟨g, 0, none⟩ = some (.int .i64 n.1) ∧ w'.cell? ⟨g, 1, none⟩ = some (.slice A1 n.2.1.length c1) ∧ w'.cell? ⟨g, 2, none⟩ = some (.slice A2 n.2.2.1.length c2) ∧ w'.cell? ⟨g, 3, none⟩ = some (.slice A3 n.2.2.2.length c3) ∧ w'.cell? ⟨g, 4, none⟩ = some (.map (some Mb)) ∧ w'.cell? ⟨q0, 0, none⟩ = some (.int .i64 p) ∧ w'.cell? ⟨q0, 1, none⟩ = some (.int .i64 q)) V3 := ⟨k0, k1, k2, k3, k4, y0, y1⟩
        have hS : ∀ {w0 w' : World}, (fun w' => w'.cell? ⟨g, 0, none⟩ = some (.int .i64 n.1) ∧ w'.cell? ⟨g, 1, none⟩ = some (.slice A1 n.2.1.length c1) ∧ w'.cell? ⟨g, 2, none⟩ = some (.slice A2 n.2.2.1.length c2) ∧ w'.cell? ⟨g, 3, none⟩ = some (.slice A3 n.2.2.2.length c3) ∧ w'.cell? ⟨g, 4, none⟩ = some (.map (some Mb)) ∧ w'.cell? ⟨q0, 0, none⟩ = some (.int .i64 p) ∧ w'.cell? ⟨q0, 1, none⟩ = some (.int .i64 q)) w0 → Below w0.heap.size w0 w' → (fun w' => w'.cell? ⟨g, 0, none⟩ = some (.int .i64 n.1) ∧ w'.cell? ⟨g, 1, none⟩ = some (.slice A1 n.2.1.length c1) ∧ w'.cell? ⟨g, 2, none⟩ = some (.slice A2 n.2.2.1.length c2) ∧ w'.cell? ⟨g, 3, none⟩ = some (.slice A3 n.2.2.2.length c3) ∧ w'.cell? ⟨g, 4, none⟩ = some (.map (some Mb)) ∧ w'.cell? ⟨q0, 0, none⟩ = some (.int .i64 p) ∧ w'.cell? ⟨q0, 1, none⟩ = some (.int .i64 q)) w' := fun h hb => ⟨keep hb h.1, keep hb h.2.1, keep hb h.2.2.1, keep hb h.2.2.2.1, keep hb h.2.2.2.2.1, keep hb h.2.2.2.2.2.1, keep hb h.2.2.2.2.2.2⟩
        dsimp only at hS0 hS
        refine wp_region_noPanic ?_
        refine wp_region_kept 9 13 (fun w' => w'.cell? ⟨g, 0, none⟩ = some (.int .i64 n.1) ∧ w'.cell? ⟨g, 1, none⟩ = some (.slice A1 n.2.1.length c1) ∧ w'.cell? ⟨g, 2, none⟩ = some (.slice A2 n.2.2.1.length c2) ∧ w'.cell? ⟨g, 3, none⟩ = some (.slice A3 n.2.2.2.length c3) ∧ w'.cell? ⟨g, 4, none⟩ = some (.map (some Mb)) ∧ w'.cell? ⟨q0, 0, none⟩ = some (.int .i64 p) ∧ w'.cell? ⟨q0, 1, none⟩ = some (.int .i64 q)) (by kernel_rfl) rfl (hS hS0 (Below.drew (Below.refl _ _))) (fun hK0 => ?_)
        refine Kept.take (v := ?vc0) 0 (by kernel_rfl) rfl (by kernel_rfl) (fun _ _ _ h => h) (Or.inl ⟨by rfl, ?hyc0⟩) hK0 ?restc0
        case hyc0 =>
          intro w0 hSw
          (try dsimp only at hSw)
          go_simp
          all_goals (with_reducible rfl)
        (try simp only [Act.put, List.setIfInBounds_toArray, List.set_cons_zero, List.set_cons_succ])
        refine Kept.take (v := ?vc1) 1 (by kernel_rfl) rfl (by kernel_rfl) (fun _ _ _ h => h) (Or.inl ⟨by rfl, ?hyc1⟩) hK0 ?restc1
        case hyc1 =>
          intro w0 hSw
          (try dsimp only at hSw)
          go_simp
          all_goals (with_reducible rfl)
        (try simp only [Act.put, List.setIfInBounds_toArray, List.set_cons_zero, List.set_cons_succ])
        refine Kept.take (v := ?vc2) 2 (by kernel_rfl) rfl (by kernel_rfl) (fun _ _ _ h => h) (Or.inl ⟨by rfl, ?hyc2⟩) hK0 ?restc2
        case hyc2 =>
          intro w0 hSw
          (try dsimp only at hSw)
          go_simp
          all_goals (with_reducible rfl)
        (try simp only [Act.put, List.setIfInBounds_toArray, List.set_cons_zero, List.set_cons_succ])
        refine Kept.take (v := ?vc3) 3 (by kernel_rfl) rfl (by kernel_rfl) (fun _ _ _ h => h) (Or.inl ⟨by rfl, ?hyc3⟩) hK0 ?restc3
        case hyc3 =>
          intro w0 hSw
          (try dsimp only at hSw)
          go_simp
          all_goals (with_reducible rfl)
        (try simp only [Act.put, List.setIfInBounds_toArray, List.set_cons_zero, List.set_cons_succ])
        refine Kept.take (v := ?vc4) 4 (by kernel_rfl) rfl (by kernel_rfl) (fun _ _ _ h => h) (Or.inl ⟨by rfl, ?hyc4⟩) hK0 ?restc4
        case hyc4 =>
          intro w0 hSw
          (try dsimp only at hSw)
          go_simp
          all_goals (with_reducible rfl)
        (try simp only [Act.put, List.setIfInBounds_toArray, List.set_cons_zero, List.set_cons_succ])
        refine Kept.take (v := ?vc5) 5 (by kernel_rfl) rfl (by kernel_rfl) (fun _ _ _ h => h) (Or.inl ⟨by rfl, ?hyc5⟩) hK0 ?restc5
        case hyc5 =>
          intro w0 hSw
          (try dsimp only at hSw)
          go_simp
          all_goals (with_reducible rfl)
        (try simp only [Act.put, List.setIfInBounds_toArray, List.set_cons_zero, List.set_cons_succ])
        refine Kept.take (v := ?vc6) 6 (by kernel_rfl) rfl (by kernel_rfl) (fun _ _ _ h => h) (Or.inl ⟨by rfl, ?hyc6⟩) hK0 ?restc6
        case hyc6 =>
          intro w0 hSw
          (try dsimp only at hSw)
          go_simp
          all_goals (with_reducible rfl)
        (try simp only [Act.put, List.setIfInBounds_toArray, List.set_cons_zero, List.set_cons_succ])
        refine Kept.one 7 (by kernel_rfl) rfl (fun K hK => ?_)
        go_simp
        refine hK.out _ _ (hS hK0 (bAlloc (Below.refl _ _) (Nat.le_refl _) _)) (fun hK1 => ?_)
        clear hK K hK0
        (try simp only [Act.put, List.setIfInBounds_toArray, List.set_cons_zero, List.set_cons_succ])
        refine Kept.one 8 (by kernel_rfl) rfl (fun K hK => ?_)
        refine step_append_all (by rfl) _ _ 34 (by rfl) B 67 iA (.agg #[.int .i64 0, .int .i64 0]) 2 16 Try.underlying34 HIiA.out.1 HIiA.out.2.1 HIiA.out.2.2.1 HIiA.out.2.2.2 rfl (by omega) (.slice A2 n.2.2.1.length c2) n.2.2.1.length (n.2.2.1.flatMap fAnd) (by rfl) HRW.out (some ⟨V3.heap.size, 0, none⟩) 1 1 [.int .i64 p, .int .i64 q] (by rfl) (by rfl) (.inr ⟨_, rfl, World.news_of_block (heap_alloc_new V3.drew _)⟩) (by simp [Value.oneCell']) (by unfold maxLen; omega) (by omega) HSZ.out ?_
        intro A6 c6 w6 hown6 hgrow6 hkeep6 hat6
        have hS6 : w6.cell? ⟨g, 0, none⟩ = some (.int .i64 n.1) ∧ w6.cell? ⟨g, 1, none⟩ = some (.slice A1 n.2.1.length c1) ∧ w6.cell? ⟨g, 2, none⟩ = some (.slice A2 n.2.2.1.length c2) ∧ w6.cell? ⟨g, 3, none⟩ = some (.slice A3 n.2.2.2.length c3) ∧ w6.cell? ⟨g, 4, none⟩ = some (.map (some Mb)) ∧ w6.cell? ⟨q0, 0, none⟩ = some (.int .i64 p) ∧ w6.cell? ⟨q0, 1, none⟩ = some (.int .i64 q) := ⟨grown_keep hgrow6 hK1.1 HNG.out, grown_keep hgrow6 hK1.2.1 HNG.out, grown_keep hgrow6 hK1.2.2.1 HNG.out, grown_keep hgrow6 hK1.2.2.2.1 HNG.out, grown_keep hgrow6 hK1.2.2.2.2.1 HNG.out, grown_keep hgrow6 hK1.2.2.2.2.2.1 HNQ.out, grown_keep hgrow6 hK1.2.2.2.2.2.2 HNQ.out⟩
        go_simp
        refine hK.out _ _ (hS6) (fun hK2 => ?_)
        clear hK K hK1
        (try simp only [Act.put, List.setIfInBounds_toArray, List.set_cons_zero, List.set_cons_succ])
        refine Kept.tail (by rfl) (by kernel_rfl) ?_
        simp only [List.drop_succ_cons, List.drop_zero]
        have hg2 := hK2.2.2.1
        have hz6 := froz_grown hgrow6 HGR.out.box.lt HNG.out HGR.out.box.cells.2
        have HK2 := Lib.hid hK2
        have HOW := Lib.hid hown6
        have HGW := Lib.hid hgrow6
        have HAT := Lib.hid hat6
        have HM6 := Lib.hid ((HMD3.out.below HRB.out).at (hgrow6.block Mb (HMD3.out.below HRB.out).lt HNM.out))
        clear hK2 hS hS0 k0 k1 k2 k3 k4 y0 y1 hkeep6 hgrow6 hown6 hat6
        go_wp2
        refine NoPanic.normal ?_
        go_wp2_with fail
        obtain ⟨W7, hW7⟩ : ∃ x, x = w6.setCell ⟨g, 2, none⟩ (.slice A6 (n.2.2.1.length + 1) c6) := ⟨_, rfl⟩
        rw [← hW7]
        have e4 : W7.cell? ⟨g, 4, none⟩ = some (.map (some Mb)) := by rw [hW7]; exact set_far HK2.out.2.2.2.2.1 (by decide)
        have hgq : g ≠ q0 := by omega
        have z0 : W7.cell? ⟨q0, 0, none⟩ = some (.int .i64 p) := by rw [hW7]; exact (World.cell?_setCell_other w6 ⟨g, 2, none⟩ ⟨q0, 0, none⟩ _ (by intro e; injection e with e _; exact hgq e)).trans HK2.out.2.2.2.2.2.1
        have z1 : W7.cell? ⟨q0, 1, none⟩ = some (.int .i64 q) := by rw [hW7]; exact (World.cell?_setCell_other w6 ⟨g, 2, none⟩ ⟨q0, 1, none⟩ _ (by intro e; injection e with e _; exact hgq e)).trans HK2.out.2.2.2.2.2.2
        have HM7 := Lib.hid (HM6.out.at (w' := W7) (by rw [hW7]; exact Below.heap_setCell w6 _ _ Mb (by intro e; exact HG.out.gM e.symm)))
        have HW7 := Lib.hid hW7
        clear hg2 hz6 hW7
        have hS0 : (fun w' => Below W7.heap.size W7 w' ∧ w'.cell? ⟨g, 4, none⟩ = some (.map (some Mb)) ∧ w'.cell? ⟨q0, 0, none⟩ = some (.int .i64 p) ∧ w'.cell? ⟨q0, 1, none⟩ = some (.int .i64 q)) W7 := ⟨Below.refl _ _, e4, z0, z1⟩
        have hS : ∀ {w0 w' : World}, (fun w' => Below W7.heap.size W7 w' ∧ w'.cell? ⟨g, 4, none⟩ = some (.map (some Mb)) ∧ w'.cell? ⟨q0, 0, none⟩ = some (.int .i64 p) ∧ w'.cell? ⟨q0, 1, none⟩ = some (.int .i64 q)) w0 → Below w0.heap.size w0 w' → (fun w' => Below W7.heap.size W7 w' ∧ w'.cell? ⟨g, 4, none⟩ = some (.map (some Mb)) ∧ w'.cell? ⟨q0, 0, none⟩ = some (.int .i64 p) ∧ w'.cell? ⟨q0, 1, none⟩ = some (.int .i64 q)) w' := fun h hb => ⟨bThen h.1 hb, keep hb h.2.1, keep hb h.2.2.1, keep hb h.2.2.2⟩
        dsimp only at hS0 hS
        refine wp_region_noPanic ?_
        refine wp_region_kept 6 7 (fun w' => Below W7.heap.size W7 w' ∧ w'.cell? ⟨g, 4, none⟩ = some (.map (some Mb)) ∧ w'.cell? ⟨q0, 0, none⟩ = some (.int .i64 p) ∧ w'.cell? ⟨q0, 1, none⟩ = some (.int .i64 q)) (by kernel_rfl) rfl (hS hS0 (Below.drew (Below.refl _ _))) (fun hK0 => ?_)
        refine Kept.take (v := ?vd0) 0 (by kernel_rfl) rfl (by kernel_rfl) (fun _ _ _ h => h) (Or.inl ⟨by rfl, ?hyd0⟩) hK0 ?restd0
        case hyd0 =>
          intro w0 hSw
          (try dsimp only at hSw)
          go_simp
          all_goals (with_reducible rfl)
        (try simp only [Act.put, List.setIfInBounds_toArray, List.set_cons_zero, List.set_cons_succ])
        refine Kept.take (v := ?vd1) 1 (by kernel_rfl) rfl (by kernel_rfl) (fun _ _ _ h => h) (Or.inl ⟨by rfl, ?hyd1⟩) hK0 ?restd1
        case hyd1 =>
          intro w0 hSw
          (try dsimp only at hSw)
          go_simp
          all_goals (with_reducible rfl)
        (try simp only [Act.put, List.setIfInBounds_toArray, List.set_cons_zero, List.set_cons_succ])
        refine Kept.take (v := ?vd2) 2 (by kernel_rfl) rfl (by kernel_rfl) (fun _ _ _ h => h) (Or.inl ⟨by rfl, ?hyd2⟩) hK0 ?restd2
        case hyd2 =>
          intro w0 hSw
          (try dsimp only at hSw)
          go_simp
          all_goals (with_reducible rfl)
        (try simp only [Act.put, List.setIfInBounds_toArray, List.set_cons_zero, List.set_cons_succ])
        refine Kept.take (v := ?vd3) 3 (by kernel_rfl) rfl (by kernel_rfl) (fun _ _ _ h => h) (Or.inl ⟨by rfl, ?hyd3⟩) hK0 ?restd3
        case hyd3 =>
          intro w0 hSw
          (try dsimp only at hSw)
          go_simp
          all_goals (with_reducible rfl)
        (try simp only [Act.put, List.setIfInBounds_toArray, List.set_cons_zero, List.set_cons_succ])
        refine Kept.take (v := ?vd4) 4 (by kernel_rfl) rfl (by kernel_rfl) (fun _ _ _ h => h) (Or.inl ⟨by rfl, ?hyd4⟩) hK0 ?restd4
        case hyd4 =>
          intro w0 hSw
          (try dsimp only at hSw)
          go_simp
          all_goals (with_reducible rfl)
        (try simp only [Act.put, List.setIfInBounds_toArray, List.set_cons_zero, List.set_cons_succ])
        refine Kept.take (v := ?vd5) 5 (by kernel_rfl) rfl (by kernel_rfl) (fun _ _ _ h => h) (Or.inl ⟨by rfl, ?hyd5⟩) hK0 ?restd5
        case hyd5 =>
          intro w0 hSw
          (try dsimp only at hSw)
          go_simp
          all_goals (with_reducible rfl)
        (try simp only [Act.put, List.setIfInBounds_toArray, List.set_cons_zero, List.set_cons_succ])
        refine Kept.tail (by rfl) (by kernel_rfl) ?_
        simp only [List.drop_succ_cons, List.drop_zero]
        obtain ⟨w9, Dn, hst, hmn, -, hgn⟩ := (HM7.out.below hK0.1).store HFX.out HI.out (by omega) (v := ((2 * (firN n + n.2.2.1.length) : Nat) : Int)) rfl (by omega)
        have HMN := Lib.hid hmn
        have HG9 := Lib.hid (show (w6.setCell ⟨g, 2, none⟩ (.slice A6 (n.2.2.1.length + 1) c6)).grownBy w9 (some Mb) by rw [← HW7.out]; exact grown_trans (grown_belowR (grown_refl W7 _) hK0.1) hgn)
        clear hmn hgn hK0 hS hS0 e4 z0 z1
        go_wp2_with (at_mapUpdate; refine wpList_store (by rfl) (by rfl) (by rfl) (by rfl) (by rfl) hst ?_)
        refine NoPanic.normal ?_
        go_wp2
        go_ret
        obtain ⟨F1, F2, F3⟩ := HGR.out.add HOW.out rfl HGW.out HAT.out HFX.out HMN.out HG9.out
        have hbw := bThen HB3.out HRB.out
        exact ⟨ret_i64 (by omega), _, F1, ((ChgL.refl _ w).below hbw).trans F2, fun c hc => (F3 c hc).imp id (fun h => Nat.le_trans hbw.size h)⟩
end Go.Proofs.Ytedamhkcblemdaa
/- HiH: Gates of gates: the program. -/
namespace Go.Proofs.Ytedamhkcblemdaa
open Go.RowKit
set_option linter.unusedVariables false
set_option linter.unusedSimpArgs false

theorem andG_res {F : Nat} {A : List DAnd} {a b : Int} (hF : F ≤ 1000) (hA : A.length ≤ 300) (ha : Fit a) (hb : Fit b) : -1 ≤ (andG F A a b).2 ∧ (andG F A a b).2 < 9223372036854775808 ∧ (andG F A a b).1.length ≤ 300 := by
  unfold Fit at ha hb
  unfold andG
  split
  · dsimp only; omega
  split
  · dsimp only; omega
  split
  · dsimp only; omega
  split
  · rename_i i hi
    have h2 := (idxG_some hi).2.1
    have h3 := (List.getElem?_eq_some_iff.1 h2).1
    dsimp only; omega
  · split
    · dsimp only; omega
    · dsimp only; rw [List.length_append, List.length_singleton]; omega
theorem cI_bd {a : Int} (h1 : -2 ≤ a) (h2 : a < 9223372036854775807) : -2 ≤ cI a ∧ cI a ≤ 9223372036854775807 := by unfold cI; split <;> omega
theorem cI_fit {a : Int} (h1 : -2 ≤ a) (h2 : a < 9223372036854775808) : Fit (cI a) := by unfold Fit cI; split <;> omega
section
variable {B : Nat} {w w' w2 : World} {g Mb : Nat} {v1 vA v3 : Value} {rows : List V3} {bs : List Nat} {n : DNet}
theorem withA_size {A : List DAnd} (h : SizeP n) (hA : A.length ≤ 300) : SizeP (withA n A) := ⟨h.i0, h.i20, h.s12, hA, h.o16⟩
theorem GrewTo.trans {A A2 : List DAnd} {vB : Value} (hg : GrowAt B w' g Mb v1 vB v3 rows bs (withA n A)) (hc : ChgL (g :: Mb :: blkL vA) w w') (hn : ∀ c ∈ blkL vB, c ∈ blkL vA ∨ w.heap.size ≤ c) (h : GrewTo B w' w2 g Mb v1 vB v3 rows bs (withA n A) A2) : GrewTo B w w2 g Mb v1 vA v3 rows bs n A2 := by
  obtain ⟨vC, g2, c2, n2⟩ := h
  refine ⟨vC, g2, ?_, fun c hm => ?_⟩
  · refine ⟨c2.os.trans hc.os, c2.tape.trans hc.tape, c2.output.trans hc.output, Nat.le_trans hc.size c2.size, fun k hk hm => ?_⟩
    refine (c2.block k (Nat.lt_of_lt_of_le hk hc.size) (fun hm2 => ?_)).trans (hc.block k hk hm)
    rcases List.mem_cons.1 hm2 with e | hm2
    · exact hm (by simp [e])
    rcases List.mem_cons.1 hm2 with e | hm2
    · exact hm (by simp [e])
    · rcases hn k hm2 with h1 | h1
      · exact hm (by simp [h1])
      · omega
  · rcases n2 c hm with h1 | h1
    · exact hn c h1
    · exact .inr (Nat.le_trans hc.size h1)
end
end Go.Proofs.Ytedamhkcblemdaa
