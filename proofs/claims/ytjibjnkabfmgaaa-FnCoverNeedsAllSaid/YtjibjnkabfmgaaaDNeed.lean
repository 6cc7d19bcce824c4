/-
  The walk of the law FnCoverNeedsAll.
-/
import Derived.Test.YtjibjnkabfmgaaaDExa
import Derived.Test.YtjibjnkabfmgaaaAppK
import Derived.Deep.CutRange
namespace Go.Proofs.Ytjibjnkabfmgaaa
open Go.RowKit
set_option linter.unusedVariables false
set_option linter.unusedSimpArgs false

theorem coverB_snoc {N x y : Nat} {R : List (Int × Int)} (h : coverB N R = true) (hl : R.length ≤ 80) (hc : cubeB N x y = true) : coverB N (R ++ [((x : Int), (y : Int))]) = true := by
  unfold coverB at h ⊢
  rw [Bool.and_eq_true, Bool.and_eq_true] at h
  rw [h.1.1, decide_eq_true (by rw [List.length_append]; simp; omega : (R ++ [((x : Int), (y : Int))]).length ≤ 81), List.all_append, h.2]
  simpa using hc
theorem wide_snoc {x y : Int} {R : List (Int × Int)} (h : Wide R) (hx : Fit x) (hy : Fit y) : Wide (R ++ [(x, y)]) := fun z hz => by
  rcases List.mem_append.1 hz with hz | hz
  · exact h z hz
  · obtain rfl := List.mem_singleton.1 hz
    exact ⟨hx, hy⟩

set_option maxRecDepth 100000 in
set_option maxHeartbeats 6400000 in
theorem coverNeeds_walk (a : Option Addr) (len cap : Nat) (zs : List Int) (w : World) (hw : IsRow .u8 w a len cap zs) :
    Calls Try.prog 4 #[.slice a len cap] w fun e w' => e = .returned (.bool true) ∧ Below w.heap.size w w' := by
  obtain ⟨i0, hi, hz0, hz1, hz2⟩ := info_parts infoCube
  have hcode := hw.codeW
  clear hw
  by_cases hbig : 1048576 < (len : Int)
  · go_enter Try.func4, Try.ntmps4
    go_wp2_with fail
    refine (big_any a len cap _).mono ?_
    rw [decide_eq_true (by omega)]
    rintro e w1 ⟨rfl, rfl⟩
    go_wp2
    go_ret
    exact ⟨rfl, Below.refl _ _⟩
  · obtain ⟨x0, hx0, hat0⟩ := at_ex a len cap 0 w hcode (by omega)
    obtain ⟨x1, hx1, hat1⟩ := at_ex a len cap 1 w hcode (by omega)
    go_enter Try.func4, Try.ntmps4
    go_wp2_with fail
    refine (big_any a len cap _).mono ?_
    rw [decide_eq_false (by omega)]
    rintro e w1 ⟨rfl, rfl⟩
    go_wp2_with fail
    refine (draw_any a len cap _ hcode).mono ?_
    rintro e w1 ⟨N, B, I, rfl, hN, hB, hIN, hb⟩
    have HB := Lib.hid hb
    have h16 := pow16 N hN
    have hm := mask_le N (by omega) (by omega)
    have hB3 := ok_lt hB
    have hB5 : B ≤ 65535 := Nat.le_trans hB hm
    have hok := ok_of N B hN hB
    clear hcode hb
    clear hat0 hat1 hx0 hx1
    have hfew := primes_few N B hN
    have hsub := minL_sub N B
    have hmin := minL_spec N B hN hB3
    have hmtab := hmin.1
    have hmcov := sub_coverB hN hsub
    have hmw := sub_wide hN hsub
    have hmv := minV_nat hok
    have hpv := primesV_nat hok
    have hprime : ∀ c ∈ minL N B, ∃ X Y : Nat, c = ((X : Int), (Y : Int)) ∧ X < 2 ^ N ∧ Y < 2 ^ N ∧ primeB N B X Y = true := fun c hc => primes_mem.1 (minL_mem hc)
    have hlit := litL_sub N hsub
    obtain ⟨L, hL⟩ : ∃ L, minL N B = L := ⟨_, rfl⟩
    rw [hL] at hsub hmin hmtab hmcov hmw hmv hprime hlit
    have hLl : L.length ≤ 81 := Nat.le_trans hsub.length_le hfew
    have HS := Lib.hid (And.intro hmin.2 (And.intro hprime (And.intro hlit (And.intro hsub (And.intro hB3 hmtab)))))
    clear hmin hprime hlit hsub hL hB hB3 hm
    go_wp2_with fail
    refine (implMin_all N B _ hmv).mono ?_
    rintro e W1 ⟨v1, rfl, ho1, hb⟩
    have g := box1 hb
    have c0 : W1.cell? ⟨w1.heap.size, 0, none⟩ = some (.int .i64 N) := box_cell g.1 0 _ rfl
    have c1 : W1.cell? ⟨w1.heap.size, 1, none⟩ = some (.int .i64 B) := box_cell g.1 1 _ rfl
    obtain ⟨A1, p1, rfl, r1⟩ := OwnsR.rowP ho1 (by unfold maxLen; omega)
    have HO := Lib.hid (OwnsR.mono ho1 (by simp : w1.heap.size + 1 ≤ _))
    have R1 := Lib.hid r1
    replace HB := Lib.hid (bThen HB.out g.2)
    have k0 := cell_regrown c0
    have k1 := cell_regrown c1
    clear hb g ho1 r1 hmv
    go_wp2
    refine wp_region_quiet_below (by kernel_rfl) (by kernel_rfl) ?_
    repeat (go_big_quiet_step (first | (go_at_call 16; refine Calls.regrown_of (implCover_at N A1 p1 _ L _ rfl (R1.out.below (below_regrown _ _ _)) hmw hmcov hmtab))))
    refine wpQuiet_nil ?_
    intro _ hw'
    obtain ⟨⟨dq, osq⟩, hw''⟩ := hw'
    subst hw''
    obtain ⟨W2, hW2⟩ : ∃ W2, W2 = Sort.grow (redrawn W1 dq) osq := ⟨_, rfl⟩
    have hb2 : Below W1.heap.size W1 W2 := by rw [hW2]; exact below_regrown _ _ _
    rw [← hW2]
    replace c0 := keep hb2 c0
    replace c1 := keep hb2 c1
    replace HO := Lib.hid (OwnsR.below HO.out hb2)
    replace R1 := Lib.hid (R1.out.below hb2)
    replace HB := Lib.hid (bThen HB.out hb2)
    have HM := Lib.hid (And.intro hmw (And.intro hmcov hmtab))
    clear hb2 hW2 k0 k1 hmw hmcov hmtab
    go_wp2
    go_loopw [6] (fun v wr => ∃ m : Nat, m ≤ L.length ∧ v = .int .i64 m ∧ Below W2.heap.size W2 wr) (fun v _ => L.length - (intOf v).toNat)
    case atStart => exact ⟨0, Nat.zero_le _, rfl, Below.refl _ _⟩
    case round =>
      obtain ⟨m, hmk, rfl, hb⟩ := hrel
      obtain ⟨W, rfl⟩ : ∃ W, W = wr := ⟨_, rfl⟩
      have HBW := Lib.hid hb
      replace c0 := keep hb c0
      replace c1 := keep hb c1
      by_cases hmL : m < L.length
      · have hoW := OwnsR.below HO.out hb
        obtain ⟨g, c2, hv, hbg, hgW, hnc, hcm⟩ := ownedAt hoW (by omega)
        injection hv with hv1 hv2 hv3
        subst hv1 hv3
        have HOW := Lib.hid hoW
        have hcm2 := hcm
        unfold maxLen at hcm2
        clear hoW hb hcm hv2
        go_wp2
        go_cut [7] from 25 to 87 (fun v wx => OwnsCube wx W.heap.size v (L.eraseIdx m) ∧ Below W.heap.size W wx)
        case first =>
          have hq1 : m ≤ p1 := by omega
          have hq2 : m + 1 ≤ L.length := by omega
          have hq3 : m + 1 ≤ p1 := by omega
          obtain ⟨hn1, hn2⟩ := cells_cut HOW.out m hmL
          have hN1 : ((L.take m).flatMap fP).length = m * 2 := by rw [flat_len fP 2 fP_len, List.length_take]; congr 1; omega
          have hN2 : ((L.drop (m + 1)).flatMap fP).length = (L.length - (m + 1)) * 2 := by rw [flat_len fP 2 fP_len, List.length_drop]
          obtain ⟨p, hp⟩ : ∃ p, m + 1 = p := ⟨_, rfl⟩
          have hwr : IntKind.i64.wrap ((m : Int) + 1) = (p : Int) := by
            rw [IntKind.wrap_i64]; omega
          rw [hp] at hN2 hn2 hq2 hq3
          have HPP := Lib.hid hp
          clear hp
          by_cases hcc : p1 = p
          · have hD0 : (L.drop p).flatMap fP = [] := by rw [List.drop_eq_nil_of_le (by omega)]; rfl
            have HD0 := Lib.hid hD0
            replace hN2 : ((L.drop p).flatMap fP).length = 0 * 2 := by rw [hD0]; rfl
            replace hcc := hcc.symm
            subst hcc
            clear hD0
            go_region_law (first | (refine step_append_any (by rfl) _ _ _ (by rfl) W.heap.size 32 i0 _ 2 16 Try.underlying28 hi hz0 hz1 hz2 rfl (by omega) (.slice (some ⟨W.heap.size, 0, none⟩) 0 0) 0 [] (by rfl) (by repeat' (first | exact ownR_new fP 2 32 _ W.heap.size (Nat.le_refl _) | refine World.ownsRow.drew ?_)) ⟨g, 0, none⟩ m p ((L.take m).flatMap fP) (by rfl) hN1 (fun j u hu => keep (by repeat' (first | exact Below.refl _ _ | refine Below.drew ?_ | refine bAlloc ?_ (Nat.le_refl _) _)) (hn1 j u hu)) (fP_one _) (by unfold maxLen; omega) (by omega) (by simp) ?_; intro v1 w3 hown1 hgrow1; have hb1 : Below W.heap.size W w3 := Below.grown (by repeat' (first | exact Below.refl _ _ | refine Below.drew ?_ | refine bAlloc ?_ (Nat.le_refl _) _)) hgrow1 (by simp) (fun j hj => by simp [Value.ownBlock] at hj; omega); have hs1 := hb1.size; clear hgrow1) | (refine step_append_any (by rfl) _ _ _ (by rfl) W.heap.size 32 i0 _ 2 16 Try.underlying28 hi hz0 hz1 hz2 rfl (by omega) v1 (0 + m) ([] ++ (L.take m).flatMap fP) (by rfl) (by repeat' (first | exact hown1 | refine World.ownsRow.drew ?_)) ⟨g, 0, none⟩ 0 0 ((L.drop p).flatMap fP) (by rfl) hN2 (fun j u hu => keep (by repeat' (first | exact hb1 | refine Below.drew ?_)) (by have h0 := HD0.out; rw [h0] at hu; simp at hu)) (fP_one _) (by unfold maxLen; omega) (by omega) hs1 ?_; intro v2 w4 hown2 hgrow2; have hb2 : Below W.heap.size W w4 := Below.grown (by repeat' (first | exact hb1 | refine Below.drew ?_)) hgrow2 hs1 (fun j hj => (hown1.lt j hj).1); clear hgrow2))
            have hR : OwnsCube w4 W.heap.size v2 (L.eraseIdx m) := by
              have e1 : (L.eraseIdx m).length = 0 + m + 0 := by rw [List.length_eraseIdx_of_lt hmL]; have := HPP.out; omega
              have e2 : (L.eraseIdx m).flatMap fP = [] ++ (L.take m).flatMap fP ++ (L.drop p).flatMap fP := by rw [List.eraseIdx_eq_take_drop_succ, HPP.out, List.flatMap_append, List.nil_append]
              unfold OwnsCube OwnsR
              rw [e1, e2]
              exact hown2
            clear hown2 hown1 hb1 hs1 hn1 hn2
            go_wp2_with fail
            go_meet
            exact ⟨hR, hb2⟩

          · go_region_law (first | (refine step_append_any (by rfl) _ _ _ (by rfl) W.heap.size 32 i0 _ 2 16 Try.underlying28 hi hz0 hz1 hz2 rfl (by omega) (.slice (some ⟨W.heap.size, 0, none⟩) 0 0) 0 [] (by rfl) (by repeat' (first | exact ownR_new fP 2 32 _ W.heap.size (Nat.le_refl _) | refine World.ownsRow.drew ?_)) ⟨g, 0, none⟩ m p1 ((L.take m).flatMap fP) (by rfl) hN1 (fun j u hu => keep (by repeat' (first | exact Below.refl _ _ | refine Below.drew ?_ | refine bAlloc ?_ (Nat.le_refl _) _)) (hn1 j u hu)) (fP_one _) (by unfold maxLen; omega) (by omega) (by simp) ?_; intro v1 w3 hown1 hgrow1; have hb1 : Below W.heap.size W w3 := Below.grown (by repeat' (first | exact Below.refl _ _ | refine Below.drew ?_ | refine bAlloc ?_ (Nat.le_refl _) _)) hgrow1 (by simp) (fun j hj => by simp [Value.ownBlock] at hj; omega); have hs1 := hb1.size; clear hgrow1) | (refine step_append_any (by rfl) _ _ _ (by rfl) W.heap.size 32 i0 _ 2 16 Try.underlying28 hi hz0 hz1 hz2 rfl (by omega) v1 (0 + m) ([] ++ (L.take m).flatMap fP) (by rfl) (by repeat' (first | exact hown1 | refine World.ownsRow.drew ?_)) ⟨g, p * 2, none⟩ (L.length - p) (p1 - p) ((L.drop p).flatMap fP) (by rfl) hN2 (fun j u hu => keep (by repeat' (first | exact hb1 | refine Below.drew ?_)) (hn2 j u hu)) (fP_one _) (by unfold maxLen; omega) (by omega) hs1 ?_; intro v2 w4 hown2 hgrow2; have hb2 : Below W.heap.size W w4 := Below.grown (by repeat' (first | exact hb1 | refine Below.drew ?_)) hgrow2 hs1 (fun j hj => (hown1.lt j hj).1); clear hgrow2))
            have hR : OwnsCube w4 W.heap.size v2 (L.eraseIdx m) := by
              have e1 : (L.eraseIdx m).length = 0 + m + (L.length - p) := by rw [List.length_eraseIdx_of_lt hmL]; have := HPP.out; omega
              have e2 : (L.eraseIdx m).flatMap fP = [] ++ (L.take m).flatMap fP ++ (L.drop p).flatMap fP := by rw [List.eraseIdx_eq_take_drop_succ, HPP.out, List.flatMap_append, List.nil_append]
              unfold OwnsCube OwnsR
              rw [e1, e2]
              exact hown2
            clear hown2 hown1 hb1 hs1 hn1 hn2
            go_wp2_with fail
            go_meet
            exact ⟨hR, hb2⟩

        case rest =>
          obtain ⟨hR, hbR⟩ := hcut
          have hRl : (L.eraseIdx m).length = L.length - 1 := List.length_eraseIdx_of_lt hmL
          have hRs : (L.eraseIdx m).Sublist (primesL N B) := (List.eraseIdx_sublist L m).trans HS.out.2.2.2.1
          have hcov := sub_coverB hN hRs
          have hwide := sub_wide hN hRs
          have hneed := HS.out.1 m hmL
          obtain ⟨X, Y, hXY, hX, hY, hpr⟩ := HS.out.2.1 L[m] (List.getElem_mem hmL)
          have hrow := (OwnsCube.at HOW.out)
          obtain ⟨A9, c9, hv9, hat⟩ := hrow
          injection hv9 with hv1 hv2 hv3
          subst hv1 hv3
          obtain ⟨g9, hg9, y0, y1, _, _⟩ := hat m hmL
          injection hg9 with hg9
          injection hg9 with hg9
          subst hg9
          rw [hXY] at y0 y1
          dsimp only at y0 y1
          obtain ⟨R, hRR⟩ : ∃ R, L.eraseIdx m = R := ⟨_, rfl⟩
          rw [hRR] at hR hRl hRs hcov hwide hneed
          have hR80 : R.length ≤ 80 := by omega
          obtain ⟨d, hd⟩ : ∃ d, tabN N R = d := ⟨_, rfl⟩
          rw [hd] at hneed
          obtain ⟨A3, p3, rfl, hr3⟩ := OwnsR.rowP hR (by unfold maxLen; omega)
          have HWF := Lib.hid (And.intro c0 (And.intro c1 (And.intro y0 y1)))
          replace c0 := keep hbR c0
          replace c1 := keep hbR c1
          replace y0 := keep hbR y0
          replace y1 := keep hbR y1
          have HR3 := Lib.hid hr3
          have HOR := Lib.hid hR
          have HBR := Lib.hid hbR
          have HT := Lib.hid (And.intro hRl (And.intro hRs (And.intro hcov (And.intro hwide (And.intro hd hpr)))))
          have k0 := cell_regrown c0
          have k1 := cell_regrown c1
          clear hR hbR hRl hRs hcov hwide hd hpr hr3 hat hv2 hXY hRR
          go_wp2
          refine wp_region_quiet_below (by kernel_rfl) (by kernel_rfl) ?_
          repeat (go_big_quiet_step (first | (go_at_call 16; refine Calls.regrown_of (implCover_at N A3 p3 _ R _ rfl (HR3.out.below (below_regrown _ _ _)) HT.out.2.2.2.1 HT.out.2.2.1 HT.out.2.2.2.2.1))))
          refine wpQuiet_nil ?_
          intro _ hw'
          obtain ⟨⟨dq, osq⟩, hw''⟩ := hw'
          subst hw''
          obtain ⟨W4, hW4⟩ : ∃ W4, W4 = Sort.grow (redrawn wc dq) osq := ⟨_, rfl⟩
          have hb4 : Below wc.heap.size wc W4 := by rw [hW4]; exact below_regrown _ _ _
          rw [← hW4]
          replace HOR := Lib.hid (OwnsR.below HOR.out hb4)
          replace HBR := Lib.hid (bThen HBR.out hb4)
          replace c0 := keep hb4 c0
          replace c1 := keep hb4 c1
          replace y0 := keep hb4 y0
          replace y1 := keep hb4 y1
          clear hW4 hb4 k0 k1 HR3
          go_wp2
          have HI := Lib.hid (And.intro hi (And.intro hz0 (And.intro hz1 hz2)))
          clear hi hz0 hz1 hz2
          have HY := Lib.hid hpv
          go_loopw [8] (fun v wq => ∃ b : Nat, b ≤ N ∧ v = .int .i64 b ∧ OwnsCube wq W.heap.size (.slice A3 R.length p3) R ∧ Below W.heap.size W wq) (fun v _ => N - (intOf v).toNat)
          case atStart => exact ⟨0, Nat.zero_le _, rfl, HOR.out, HBR.out⟩
          case round =>
            obtain ⟨b, hbN, rfl, ho, hb⟩ := hrel
            have c0 := keep hb HWF.out.1
            have c1 := keep hb HWF.out.2.1
            have y0 := keep hb HWF.out.2.2.1
            have y1 := keep hb HWF.out.2.2.2
            have HO5 := Lib.hid ho
            have HB6 := Lib.hid hb
            by_cases hbl : b < N
            · have ev := bit_and1 X b (by omega) (by omega)
              cases hbit : X.testBit b
              · rw [hbit] at ev
                simp only [Bool.toNat_false] at ev
                clear hbit ho hb
                go_wp2
                go_roundw
                case rel => exact ⟨b + 1, by omega, by go_num, HO5.out, HB6.out⟩
                case measure => simp [intOf]; omega
              · rw [hbit] at ev
                simp only [Bool.toNat_true] at ev
                have hv0 := prime_val HT.out.2.2.2.2.2
                have hval := lit_val X Y b (by omega) (by omega) (by omega) hv0
                have hmore := wide_more hN HT.out.2.2.2.2.2 hbl hbit R
                have p16 : 2 ^ b ≤ 16 := pow16 b (by omega)
                have es : IntKind.i64.wrap ((2 : Int) ^ b) = (2 : Int) ^ b := by rw [pow_cast, wrap64_small _ (by omega)]
                have ax := i64_andNot X (2 ^ b) (by omega) (by omega)
                have ay := i64_andNot Y (2 ^ b) (by omega) (by omega)
                have lx : andNot X (2 ^ b) ≤ X := andNot_le X (2 ^ b)
                have ly : andNot Y (2 ^ b) ≤ Y := andNot_le Y (2 ^ b)
                rw [← pow_cast] at ax ay
                obtain ⟨x', hx'⟩ : ∃ x', andNot X (2 ^ b) = x' := ⟨_, rfl⟩
                obtain ⟨y', hy'⟩ : ∃ y', andNot Y (2 ^ b) = y' := ⟨_, rfl⟩
                rw [hx', hy'] at hval hmore
                rw [hx'] at ax lx
                rw [hy'] at ay ly
                have hcub : cubeB N x' y' = true := by rw [cubeB_nat hN (by omega) (by omega), decide_eq_true hval.2]
                have hcov2 := coverB_snoc HT.out.2.2.1 hR80 hcub
                have hw2 := wide_snoc HT.out.2.2.2.1 (fit_nat x' (by omega)) (fit_nat y' (by omega))
                have hl2 : (R ++ [((x' : Int), (y' : Int))]).length = R.length + 1 := by simp
                obtain ⟨d2, hd2⟩ : ∃ d2, tabN N (R ++ [((x' : Int), (y' : Int))]) = d2 := ⟨_, rfl⟩
                rw [hd2] at hmore
                have H2 := Lib.hid (And.intro hcov2 (And.intro hw2 (And.intro hl2 hd2)))
                have l0 : w1.heap.size < wr.heap.size := World.block_lt_of_cell? _ _ c0
                have l1 : g < wr.heap.size := World.block_lt_of_cell? _ _ y0
                clear hbit ho hb hv0 hval hx' hy' hcub hcov2 hw2 hl2 hd2
                go_wp2
                go_cut [9] from 47 to 87 (fun v wx => v = .pointer (some ⟨wr.heap.size, 0, none⟩) ∧ wx = (wr.alloc (.cells #[.int .i64 x', .int .i64 y'] 32)).drew)
                case first =>
                  go_region_law (fail)
                  all_goals (go_wp2_with fail; go_meet; exact ⟨rfl, rfl⟩)
                case rest =>
                  obtain ⟨rfl, rfl⟩ := hcut
                  obtain ⟨V, hV⟩ : ∃ V, V = (wr.alloc (.cells #[.int .i64 x', .int .i64 y'] 32)).drew := ⟨_, rfl⟩
                  rw [← hV]
                  have hbV : Below wr.heap.size wr V := by rw [hV]; exact (bAlloc (Below.refl _ _) (Nat.le_refl _) _).drew
                  have d0 : V.cell? ⟨wr.heap.size, 0, none⟩ = some (.int .i64 x') := by rw [hV]; exact box_cell (heap_alloc_new wr _) 0 _ rfl
                  have d1 : V.cell? ⟨wr.heap.size, 1, none⟩ = some (.int .i64 y') := by rw [hV]; exact box_cell (heap_alloc_new wr _) 1 _ rfl
                  replace c0 := keep hbV c0
                  replace c1 := keep hbV c1
                  replace HO5 := Lib.hid (OwnsR.below HO5.out hbV)
                  replace HB6 := Lib.hid (HB6.out.trans (hbV.mono HB6.out.size))
                  have l2 : w1.heap.size < V.heap.size := World.block_lt_of_cell? _ _ c0
                  have l3 : wr.heap.size < V.heap.size := World.block_lt_of_cell? _ _ d0
                  have hWV : W.heap.size ≤ V.heap.size := HB6.out.size
                  have hgw : w1.heap.size < W.heap.size := by omega
                  clear hV hbV y0 y1 ax ay es ev
                  go_wp2
                  have hdi : ¬ ((d2 : Int) = (B : Int)) := by omega
                  go_cut [87] from 47 to 87 (fun v wx => v = .bool false ∧ OwnsCube wx W.heap.size (.slice A3 R.length p3) R ∧ Below W.heap.size W wx)
                  case first =>
                    go_region_law (first | (refine step_append_keep (by rfl) _ _ _ (by rfl) W.heap.size 32 i0 _ 2 16 Try.underlying28 HI.out.1 HI.out.2.1 HI.out.2.2.1 HI.out.2.2.2 rfl (by omega) (.slice A3 R.length p3) R.length (R.flatMap fP) (by rfl) (by repeat' (first | exact HO5.out | refine World.ownsRow.drew ?_ | refine World.ownsRow.alloc ?_ _)) ⟨V.heap.size, 0, none⟩ 1 1 [.int .i64 x', .int .i64 y'] (by rfl) (by rfl) (by exact World.news_of_block (heap_alloc_new V _)) (by simp [Value.oneCell']) (by unfold maxLen; omega) (by omega) (by simp <;> omega) ?_; intro v5 w5 hown5 hgrow5 hkeep5; have a0 : w5.cell? ⟨w1.heap.size, 0, none⟩ = some (.int .i64 N) := grown_far hgrow5 (keep (by repeat' (first | exact Below.refl _ _ | refine Below.drew ?_ | refine bAlloc ?_ (Nat.le_refl _) _)) c0) (fun e => by have := (HO5.out.lt _ e).1; dsimp only at this; omega); have a1 : w5.cell? ⟨w1.heap.size, 1, none⟩ = some (.int .i64 B) := grown_far hgrow5 (keep (by repeat' (first | exact Below.refl _ _ | refine Below.drew ?_ | refine bAlloc ?_ (Nat.le_refl _) _)) c1) (fun e => by have := (HO5.out.lt _ e).1; dsimp only at this; omega); have hb5 : Below W.heap.size W w5 := Below.grown (by repeat' (first | exact HB6.out | refine Below.drew ?_ | refine bAlloc ?_ (Nat.le_refl _) _)) hgrow5 (by simp <;> omega) (fun j hj => (HO5.out.lt j hj).1); have ho5 : OwnsCube w5 W.heap.size v5 (R ++ [((x' : Int), (y' : Int))]) := (by unfold OwnsCube OwnsR; rw [List.length_append, List.flatMap_append]; exact hown5); clear hown5 hgrow5; obtain ⟨A5, p5, rfl, hr5⟩ := OwnsR.rowP ho5 (by rw [H2.out.2.2.1]; unfold maxLen; omega); clear ho5; have HK5 := Lib.hid (And.intro hkeep5 hb5); clear hkeep5 hb5) | (go_simp; go_at_call 16; refine (implCover_at N A5 p5 _ _ _ (by first | rfl | exact H2.out.2.2.1) hr5 H2.out.2.1 H2.out.1 H2.out.2.2.2).mono ?_; rintro e w6 ⟨rfl, hb⟩; have b0 := keep hb a0; have b1 := keep hb a1))
                    all_goals (go_wp2_with fail; go_meet; exact ⟨rfl, OwnsR.below HK5.out.1 hb, HK5.out.2.trans (hb.mono HK5.out.2.size)⟩)
                  case rest =>
                    obtain ⟨rfl, hr6, hb6⟩ := hcut
                    have HF := Lib.hid (And.intro hr6 hb6)
                    clear hr6 hb6
                    go_wp2
                    go_roundw
                    case rel => exact ⟨b + 1, by omega, by go_num, HF.out.1, HF.out.2⟩
                    case measure => simp [intOf]; omega
            · have t9 : ¬ b < N := by omega
              clear ho hb hbN hbl hX hY hneed hmk h16 hB5 hok hfew hpv y0 y1
              go_wp2
              go_roundw
              case rel => exact ⟨m + 1, by omega, by go_num, bThen HBW.out HB6.out⟩
              case measure => simp [intOf]; omega
      · obtain rfl : m = L.length := by omega
        have hlit := HS.out.2.2.1
        have hr := R1.out.below hb
        have hpc := sub_coverB hN (List.Sublist.refl (primesL N B))
        have hpw := sub_wide hN (List.Sublist.refl (primesL N B))
        obtain ⟨PL, hPL⟩ : ∃ PL, primesL N B = PL := ⟨_, rfl⟩
        rw [hPL] at hlit hpc hpw hpv hfew
        have hv1 : litV N L = (litL N L : Nat) := by unfold litV; rw [if_pos HM.out.2.1]; rfl
        have hv2 : litV N PL = (litL N PL : Nat) := by unfold litV; rw [if_pos hpc]; rfl
        obtain ⟨p, hp⟩ : ∃ p, litL N L = p := ⟨_, rfl⟩
        obtain ⟨q, hq⟩ : ∃ q, litL N PL = q := ⟨_, rfl⟩
        rw [hp, hq] at hlit
        rw [hp] at hv1
        rw [hq] at hv2
        have hpq : (p : Int) ≤ (q : Int) := by omega
        have hcall : ∀ (A : Option Addr) (n c : Nat) (V : Int) (wq : World), ((A = A1 ∧ n = L.length ∧ V = (p : Int) ∧ RowP wq A n L) ∨ (n = PL.length ∧ V = (q : Int) ∧ RowP wq A n PL)) →
            Calls Try.prog 19 #[.int .i64 N, .slice A n c] wq fun e w' => e = .returned (.int .i64 V) ∧ Below wq.heap.size wq w' := by
          rintro A n c V wq (⟨rfl, rfl, rfl, h⟩ | ⟨rfl, rfl, h⟩)
          · rw [← hv1]; exact implLit_any N A c L wq h HM.out.1
          · rw [← hv2]; exact implLit_any N A c PL wq h hpw
        have HC := Lib.hid hcall
        have HPV := Lib.hid hpv
        have HR9 := Lib.hid hr
        have hXc : Below W.heap.size W W.drew := (Below.refl _ _).drew
        have HEND := Lib.hid (bThen HB.out hb)
        clear hcall hpv hr hb hv1 hv2 hp hq hPL hpc hpw hlit HS HM HO
        go_wp2
        go_region_law (first | (go_simp; go_at_call 19; refine (HC.out _ _ _ _ _ (by first | exact Or.inl ⟨rfl, rfl, rfl, HR9.out.below hXc⟩ | exact Or.inr ⟨rfl, rfl, hrP⟩)).mono ?_; rintro e w8 ⟨rfl, hb⟩; (try (replace hrP := hrP.below hb)); replace hXc := bThen hXc hb; have c0' := keep hXc c0; have c1' := keep hXc c1; clear hb) | (go_simp; go_at_call 15; refine (implPri_all N B _ HPV.out).mono ?_; rintro e w7 ⟨v, rfl, ho, hb⟩; obtain ⟨AP, pP, rfl, hrP⟩ := OwnsR.rowP ho (by unfold maxLen; omega); replace hXc := bThen hXc hb; have c0' := keep hXc c0; have c1' := keep hXc c1; clear hb ho))
        all_goals
          go_wp2
          go_ret
          exact ⟨rfl, bThen HEND.out hXc⟩
end Go.Proofs.Ytjibjnkabfmgaaa
