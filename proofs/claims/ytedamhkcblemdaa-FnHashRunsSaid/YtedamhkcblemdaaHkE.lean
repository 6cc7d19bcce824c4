/-
  The walk of FnHashRuns.
-/
import Derived.Test.YtedamhkcblemdaaHkC
import Derived.Test.YtedamhkcblemdaaHkD
import Derived.Test.YtedamhkcblemdaaHjA
import Derived.Test.YtedamhkcblemdaaNr10
import Derived.Test.YtedamhkcblemdaaNr11
import Derived.Test.YtedamhkcblemdaaNr12m
import Derived.Test.YtedamhkcblemdaaNeB
import Derived.Deep.RegionHeld3
namespace Go.Proofs.Ytedamhkcblemdaa
open Go.RowKit
set_option linter.unusedVariables false
set_option linter.unusedSimpArgs false
set_option maxRecDepth 100000 in
set_option maxHeartbeats 25600000 in
theorem hashRuns_walk (a : Option Addr) (len cap : Nat) (zs : List Int) (w : World) (hw : IsRow .u8 w a len cap zs) :
    Calls Try.prog 6 #[.slice a len cap] w fun e w' => e = .returned (.bool true) ∧ Below w.heap.size w w' := by
  have HCD := Lib.hid hw.codeW
  clear hw
  by_cases hbig : 1048576 < (len : Int)
  · go_enter Try.func6, Try.ntmps6
    go_wp2_with fail
    refine (big_any a len cap _).mono ?_
    rw [decide_eq_true (by omega)]
    rintro e w1 ⟨rfl, rfl⟩
    go_wp2
    go_ret
    exact ⟨rfl, Below.refl _ _⟩
  go_enter Try.func6, Try.ntmps6
  go_wp2_with fail
  refine (big_any a len cap _).mono ?_
  rw [decide_eq_false (by omega)]
  rintro e w1 ⟨rfl, rfl⟩
  go_wp2_with fail
  refine (drawDeep_any a len cap _ HCD.out).mono ?_
  rintro e w1 ⟨us, n, rfl, ⟨hrd, hok⟩, hb⟩
  have HBW := Lib.hid hb
  have HOK := Lib.hid hok
  have HP := Lib.hid (netP_of hok)
  replace hrd := good_Net.wider hrd (Nat.zero_le _) (Nat.le_refl _)
  have HD := Lib.hid hrd
  clear hb hok
  obtain ⟨mu0, mu1, mu2, mu3, rfl, mh0, mh1, mh2, mh3⟩ := hrd
  obtain ⟨me0, -⟩ := mh0
  injection me0 with me0
  subst me0
  obtain ⟨mA1, mc1, me1, mm1, -⟩ := slice_of mh1
  subst me1
  have mR1 := Lib.hid mh1
  clear mh1
  obtain ⟨mA2, mc2, me2, mm2, -⟩ := slice_of mh2
  subst me2
  have mR2 := Lib.hid mh2
  clear mh2
  obtain ⟨mA3, mc3, me3, mm3, -⟩ := slice_of mh3
  subst me3
  have mR3 := Lib.hid mh3
  clear mh3
  go_wp2_with fail
  obtain ⟨W0, hV⟩ : ∃ W0, W0 = (w1.alloc (.cells #[.int .i64 n.1, .slice mA1 (n.2.1).length mc1, .slice mA2 (n.2.2.1).length mc2, .slice mA3 (n.2.2.2).length mc3] 36)) := ⟨_, rfl⟩
  rw [← hV]
  have gN := eqbox1 hV
  have d0 : W0.cell? ⟨w1.heap.size, 0, none⟩ = some (.int .i64 n.1) := box_cell gN.1 0 _ rfl
  have d1 : W0.cell? ⟨w1.heap.size, 1, none⟩ = some (.slice mA1 (n.2.1).length mc1) := box_cell gN.1 1 _ rfl
  have d2 : W0.cell? ⟨w1.heap.size, 2, none⟩ = some (.slice mA2 (n.2.2.1).length mc2) := box_cell gN.1 2 _ rfl
  have d3 : W0.cell? ⟨w1.heap.size, 3, none⟩ = some (.slice mA3 (n.2.2.2).length mc3) := box_cell gN.1 3 _ rfl
  have sW0 : W0.heap.size = w1.heap.size + 1 := by rw [hV]; simp
  have HW0 := Lib.hid gN.2
  clear hV gN
  have HB := Lib.hid HW0.out
  clear HW0
  refine (drawMasks_any a len cap _ (codeW_keepN (codeW_keepN HCD.out HBW.out) HB.out)).mono ?_
  rintro e w2 ⟨v4, xs, rfl, ho, hx1, hx12, hxf, hb⟩
  replace d0 := keep hb d0
  replace d1 := keep hb d1
  replace d2 := keep hb d2
  replace d3 := keep hb d3
  replace HB := Lib.hid (bThen HB.out hb)
  have HI4 := Lib.hid ho
  have HXF := Lib.hid hxf
  obtain ⟨xA, xc, rfl, -⟩ := ho.shape
  clear ho hxf
  clear hb
  obtain ⟨hn, hhn⟩ : ∃ h, hashO n = h := ⟨_, rfl⟩
  have HH := Lib.hid hhn
  go_wp2_with fail
  refine (implHash_at n _ _ (rdUp good_Net HD.out HB.out) hhn).mono ?_
  rintro e w3 ⟨u1, uA, u3, rows, bs, rfl, hnet, hb⟩
  replace d0 := keep hb d0
  replace d1 := keep hb d1
  replace d2 := keep hb d2
  replace d3 := keep hb d3
  replace HB := Lib.hid (bThen HB.out hb)
  replace HI4 := Lib.hid (HI4.out.below hb)
  clear hb
  obtain ⟨B1, q1, rfl⟩ := hnet.s.cap fV3_len
  obtain ⟨B2, q2, rfl⟩ := hnet.a.cap fAnd_len
  obtain ⟨B3, q3, rfl⟩ := hnet.o.cap fInt_len
  have HN := Lib.hid hnet
  clear hnet
  go_wp2_with fail
  obtain ⟨W, hV⟩ : ∃ W, W = w3.alloc (.cells #[.int .i64 hn.1, .slice B1 hn.2.1.length q1, .slice B2 hn.2.2.1.length q2, .slice B3 hn.2.2.2.length q3] 36) := ⟨_, rfl⟩
  rw [← hV]
  have gN := eqbox1 hV
  have hb : Below w3.heap.size w3 W := gN.2
  obtain ⟨hb0, hh⟩ : ∃ g, g = w3.heap.size := ⟨_, rfl⟩
  rw [← hh] at gN ⊢
  have c0 : W.cell? ⟨hb0, 0, none⟩ = some (.int .i64 hn.1) := box_cell gN.1 0 _ rfl
  have c1 : W.cell? ⟨hb0, 1, none⟩ = some (.slice B1 hn.2.1.length q1) := box_cell gN.1 1 _ rfl
  have c2 : W.cell? ⟨hb0, 2, none⟩ = some (.slice B2 hn.2.2.1.length q2) := box_cell gN.1 2 _ rfl
  have c3 : W.cell? ⟨hb0, 3, none⟩ = some (.slice B3 hn.2.2.2.length q3) := box_cell gN.1 3 _ rfl
  replace d0 := keep hb d0
  replace d1 := keep hb d1
  replace d2 := keep hb d2
  replace d3 := keep hb d3
  replace HB := Lib.hid (bThen HB.out hb)
  have HR := Lib.hid (show rdNet 0 W.heap.size W [.int .i64 hn.1, .slice B1 hn.2.1.length q1, .slice B2 hn.2.2.1.length q2, .slice B3 hn.2.2.2.length q3] hn from (HN.out.below hb).rd0)
  replace HI4 := Lib.hid (HI4.out.below hb)
  clear hV gN hh hb HN
  obtain ⟨R, hR⟩ : ∃ R, runO n xs = R := ⟨_, rfl⟩
  have HRR := Lib.hid hR
  have HRH := Lib.hid (show runO hn xs = R by rw [← hhn, hash_run HP.out xs, hR])
  have HRF := Lib.hid (show ∀ x ∈ R, Fit x by rw [← hR, run_yes HOK.out (by omega)]; exact outs_fit HOK.out _)
  have hle : (hn.2.2.1.length : Int) ≤ (n.2.2.1.length : Int) := by rw [← hhn]; have := hash_ands HP.out; omega
  obtain ⟨dn, hdn⟩ : ∃ d, depO n = d := ⟨_, rfl⟩
  obtain ⟨dh, hdh⟩ : ∃ d, depO hn = d := ⟨_, rfl⟩
  have HDN := Lib.hid hdn
  have HDH := Lib.hid hdh
  have hld : dh ≤ dn := by rw [← hdn, ← hdh, ← hhn]; exact hash_dep HP.out
  clear hhn hR hdn hdh
  have hS0 : (fun w' => Below W.heap.size W w' ∧ w'.cell? ⟨w1.heap.size, 0, none⟩ = some (.int .i64 n.1) ∧ w'.cell? ⟨w1.heap.size, 1, none⟩ = some (.slice mA1 (n.2.1).length mc1) ∧ w'.cell? ⟨w1.heap.size, 2, none⟩ = some (.slice mA2 (n.2.2.1).length mc2) ∧ w'.cell? ⟨w1.heap.size, 3, none⟩ = some (.slice mA3 (n.2.2.2).length mc3) ∧ w'.cell? ⟨hb0, 0, none⟩ = some (.int .i64 hn.1) ∧ w'.cell? ⟨hb0, 1, none⟩ = some (.slice B1 hn.2.1.length q1) ∧ w'.cell? ⟨hb0, 2, none⟩ = some (.slice B2 hn.2.2.1.length q2) ∧ w'.cell? ⟨hb0, 3, none⟩ = some (.slice B3 hn.2.2.2.length q3)) W := ⟨Below.refl _ _, d0, d1, d2, d3, c0, c1, c2, c3⟩
  have hS : ∀ {w0 w' : World}, (fun w' => Below W.heap.size W w' ∧ w'.cell? ⟨w1.heap.size, 0, none⟩ = some (.int .i64 n.1) ∧ w'.cell? ⟨w1.heap.size, 1, none⟩ = some (.slice mA1 (n.2.1).length mc1) ∧ w'.cell? ⟨w1.heap.size, 2, none⟩ = some (.slice mA2 (n.2.2.1).length mc2) ∧ w'.cell? ⟨w1.heap.size, 3, none⟩ = some (.slice mA3 (n.2.2.2).length mc3) ∧ w'.cell? ⟨hb0, 0, none⟩ = some (.int .i64 hn.1) ∧ w'.cell? ⟨hb0, 1, none⟩ = some (.slice B1 hn.2.1.length q1) ∧ w'.cell? ⟨hb0, 2, none⟩ = some (.slice B2 hn.2.2.1.length q2) ∧ w'.cell? ⟨hb0, 3, none⟩ = some (.slice B3 hn.2.2.2.length q3)) w0 → Below w0.heap.size w0 w' → (fun w' => Below W.heap.size W w' ∧ w'.cell? ⟨w1.heap.size, 0, none⟩ = some (.int .i64 n.1) ∧ w'.cell? ⟨w1.heap.size, 1, none⟩ = some (.slice mA1 (n.2.1).length mc1) ∧ w'.cell? ⟨w1.heap.size, 2, none⟩ = some (.slice mA2 (n.2.2.1).length mc2) ∧ w'.cell? ⟨w1.heap.size, 3, none⟩ = some (.slice mA3 (n.2.2.2).length mc3) ∧ w'.cell? ⟨hb0, 0, none⟩ = some (.int .i64 hn.1) ∧ w'.cell? ⟨hb0, 1, none⟩ = some (.slice B1 hn.2.1.length q1) ∧ w'.cell? ⟨hb0, 2, none⟩ = some (.slice B2 hn.2.2.1.length q2) ∧ w'.cell? ⟨hb0, 3, none⟩ = some (.slice B3 hn.2.2.2.length q3)) w' := fun h hb => ⟨bThen h.1 hb, keep hb h.2.1, keep hb h.2.2.1, keep hb h.2.2.2.1, keep hb h.2.2.2.2.1, keep hb h.2.2.2.2.2.1, keep hb h.2.2.2.2.2.2.1, keep hb h.2.2.2.2.2.2.2.1, keep hb h.2.2.2.2.2.2.2.2⟩
  dsimp only at hS0 hS
  refine wp_region_noPanic ?_
  refine wp_region_kept 20 24 (fun w' => Below W.heap.size W w' ∧ w'.cell? ⟨w1.heap.size, 0, none⟩ = some (.int .i64 n.1) ∧ w'.cell? ⟨w1.heap.size, 1, none⟩ = some (.slice mA1 (n.2.1).length mc1) ∧ w'.cell? ⟨w1.heap.size, 2, none⟩ = some (.slice mA2 (n.2.2.1).length mc2) ∧ w'.cell? ⟨w1.heap.size, 3, none⟩ = some (.slice mA3 (n.2.2.2).length mc3) ∧ w'.cell? ⟨hb0, 0, none⟩ = some (.int .i64 hn.1) ∧ w'.cell? ⟨hb0, 1, none⟩ = some (.slice B1 hn.2.1.length q1) ∧ w'.cell? ⟨hb0, 2, none⟩ = some (.slice B2 hn.2.2.1.length q2) ∧ w'.cell? ⟨hb0, 3, none⟩ = some (.slice B3 hn.2.2.2.length q3)) (by kernel_rfl) rfl (hS hS0 (Below.drew (Below.refl _ _))) (fun hK0 => ?_)
  refine Kept.take (v := ?vr0) 0 (by kernel_rfl) rfl (by kernel_rfl) (fun _ _ _ h => h) (Or.inl ⟨by rfl, ?hyr0⟩) hK0 ?restr0
  case hyr0 =>
    intro w0 hSw
    (try dsimp only at hSw)
    go_simp
    all_goals (with_reducible rfl)
  (try simp only [Act.put, List.setIfInBounds_toArray, List.set_cons_zero, List.set_cons_succ])
  refine Kept.take (v := ?vr1) 1 (by kernel_rfl) rfl (by kernel_rfl) (fun _ _ _ h => h) (Or.inl ⟨by rfl, ?hyr1⟩) hK0 ?restr1
  case hyr1 =>
    intro w0 hSw
    (try dsimp only at hSw)
    go_simp
    all_goals (with_reducible rfl)
  (try simp only [Act.put, List.setIfInBounds_toArray, List.set_cons_zero, List.set_cons_succ])
  refine Kept.take (v := ?vr3) 3 (by kernel_rfl) rfl (by kernel_rfl) (fun _ _ _ h => h) (Or.inl ⟨by rfl, ?hyr3⟩) hK0 ?restr3
  case hyr3 =>
    intro w0 hSw
    (try dsimp only at hSw)
    go_simp
    all_goals (with_reducible rfl)
  (try simp only [Act.put, List.setIfInBounds_toArray, List.set_cons_zero, List.set_cons_succ])
  refine Kept.take (v := ?vr4) 4 (by kernel_rfl) rfl (by kernel_rfl) (fun _ _ _ h => h) (Or.inl ⟨by rfl, ?hyr4⟩) hK0 ?restr4
  case hyr4 =>
    intro w0 hSw
    (try dsimp only at hSw)
    go_simp
    all_goals (with_reducible rfl)
  (try simp only [Act.put, List.setIfInBounds_toArray, List.set_cons_zero, List.set_cons_succ])
  refine Kept.one 2 (by kernel_rfl) rfl (fun K hK => ?_)
  go_simp
  go_at_call 24
  refine (implRun_at hn xs [.int .i64 hn.1, .slice B1 hn.2.1.length q1, .slice B2 hn.2.2.1.length q2, .slice B3 hn.2.2.2.length q3] _ _ (rdUp good_Net HR.out hK0.1) (ownI_rd (HI4.out.below hK0.1) HXF.out) HRH.out).mono ?_
  rintro e wr0 ⟨v5, rfl, ho5, hbr0⟩
  obtain ⟨rA, rc, rfl, -⟩ := ho5.shape
  have HO5 := Lib.hid ho5
  clear ho5
  go_simp
  refine hK.out _ _ (hS hK0 hbr0) (fun hK1 => ?_)
  clear hK K hK0
  (try simp only [Act.put, List.setIfInBounds_toArray, List.set_cons_zero, List.set_cons_succ])
  refine Kept.one 5 (by kernel_rfl) rfl (fun K hK => ?_)
  go_simp
  go_at_call 25
  refine (specRun_at n xs [.int .i64 n.1, .slice mA1 (n.2.1).length mc1, .slice mA2 (n.2.2.1).length mc2, .slice mA3 (n.2.2.2).length mc3] _ _ (rdUp good_Net HD.out (bThen HB.out hK1.1)) (ownI_rd (HI4.out.below hK1.1) HXF.out) HRR.out).mono ?_
  rintro e wr1 ⟨v6, rfl, ho6, hbr1⟩
  obtain ⟨sA, sc, rfl, -⟩ := ho6.shape
  have HO6 := Lib.hid ho6
  replace HO5 := Lib.hid (HO5.out.below hbr1)
  clear ho6
  go_simp
  refine hK.out _ _ (hS hK1 hbr1) (fun hK2 => ?_)
  clear hK K hK1
  (try simp only [Act.put, List.setIfInBounds_toArray, List.set_cons_zero, List.set_cons_succ])
  refine Kept.one 6 (by kernel_rfl) rfl (fun K hK => ?_)
  go_simp
  go_at_call 23
  refine (sameI_rd R _ _ _ (ownI_rd HO5.out HRF.out) (Nat.le_refl _) (ownI_rd HO6.out HRF.out) (Nat.le_refl _)).mono ?_
  rintro e wr2 ⟨rfl, hbr2⟩
  go_simp
  refine hK.out _ _ (hS hK2 hbr2) (fun hK3 => ?_)
  clear hK K hK2
  (try simp only [Act.put, List.setIfInBounds_toArray, List.set_cons_zero, List.set_cons_succ])
  refine Kept.take (v := ?vr7) 7 (by kernel_rfl) rfl (by kernel_rfl) (fun _ _ _ h => h) (Or.inl ⟨by rfl, ?hyr7⟩) hK3 ?restr7
  case hyr7 =>
    intro w0 hSw
    (try dsimp only at hSw)
    go_simp
    all_goals (with_reducible rfl)
  (try simp only [Act.put, List.setIfInBounds_toArray, List.set_cons_zero, List.set_cons_succ])
  refine Kept.take (v := ?vr8) 8 (by kernel_rfl) rfl (by kernel_rfl) (fun _ _ _ h => h) (Or.inl ⟨by rfl, ?hyr8⟩) hK3 ?restr8
  case hyr8 =>
    intro w0 hSw
    (try dsimp only at hSw)
    go_simp
    all_goals (with_reducible rfl)
  (try simp only [Act.put, List.setIfInBounds_toArray, List.set_cons_zero, List.set_cons_succ])
  refine Kept.take (v := ?vr9) 9 (by kernel_rfl) rfl (by kernel_rfl) (fun _ _ _ h => h) (Or.inl ⟨by rfl, ?hyr9⟩) hK3 ?restr9
  case hyr9 =>
    intro w0 hSw
    (try dsimp only at hSw)
    go_simp
    all_goals (with_reducible rfl)
  (try simp only [Act.put, List.setIfInBounds_toArray, List.set_cons_zero, List.set_cons_succ])
  refine Kept.take (v := ?vr10) 10 (by kernel_rfl) rfl (by kernel_rfl) (fun _ _ _ h => h) (Or.inl ⟨by rfl, ?hyr10⟩) hK3 ?restr10
  case hyr10 =>
    intro w0 hSw
    (try dsimp only at hSw)
    go_simp
    all_goals (with_reducible rfl)
  (try simp only [Act.put, List.setIfInBounds_toArray, List.set_cons_zero, List.set_cons_succ])
  refine Kept.take (v := ?vr11) 11 (by kernel_rfl) rfl (by kernel_rfl) (fun _ _ _ h => h) (Or.inl ⟨by rfl, ?hyr11⟩) hK3 ?restr11
  case hyr11 =>
    intro w0 hSw
    (try dsimp only at hSw)
    go_simp
    all_goals (with_reducible rfl)
  (try simp only [Act.put, List.setIfInBounds_toArray, List.set_cons_zero, List.set_cons_succ])
  refine Kept.take (v := ?vr12) 12 (by kernel_rfl) rfl (by kernel_rfl) (fun _ _ _ h => h) (Or.inl ⟨by rfl, ?hyr12⟩) hK3 ?restr12
  case hyr12 =>
    intro w0 hSw
    (try dsimp only at hSw)
    go_simp
    all_goals (with_reducible rfl)
  (try simp only [Act.put, List.setIfInBounds_toArray, List.set_cons_zero, List.set_cons_succ])
  refine Kept.take (v := ?vr13) 13 (by kernel_rfl) rfl (by kernel_rfl) (fun _ _ _ h => h) (Or.inl ⟨by rfl, ?hyr13⟩) hK3 ?restr13
  case hyr13 =>
    intro w0 hSw
    (try dsimp only at hSw)
    go_simp
    all_goals (with_reducible rfl)
  (try simp only [Act.put, List.setIfInBounds_toArray, List.set_cons_zero, List.set_cons_succ])
  refine Kept.take (v := ?vr14) 14 (by kernel_rfl) rfl (by kernel_rfl) (fun _ _ _ h => h) (Or.inl ⟨by rfl, ?hyr14⟩) hK3 ?restr14
  case hyr14 =>
    intro w0 hSw
    (try dsimp only at hSw)
    go_simp
    all_goals (with_reducible rfl)
  (try simp only [Act.put, List.setIfInBounds_toArray, List.set_cons_zero, List.set_cons_succ])
  refine Kept.take (v := ?vr15) 15 (by kernel_rfl) rfl (by kernel_rfl) (fun _ _ _ h => h) (Or.inl ⟨by rfl, ?hyr15⟩) hK3 ?restr15
  case hyr15 =>
    intro w0 hSw
    (try dsimp only at hSw)
    go_simp
    all_goals (with_reducible rfl)
  (try simp only [Act.put, List.setIfInBounds_toArray, List.set_cons_zero, List.set_cons_succ])
  refine Kept.take (v := ?vr16) 16 (by kernel_rfl) rfl (by kernel_rfl) (fun _ _ _ h => h) (Or.inl ⟨by rfl, ?hyr16⟩) hK3 ?restr16
  case hyr16 =>
    intro w0 hSw
    (try dsimp only at hSw)
    go_simp
    all_goals (with_reducible rfl)
  (try simp only [Act.put, List.setIfInBounds_toArray, List.set_cons_zero, List.set_cons_succ])
  refine Kept.take (v := ?vr17) 17 (by kernel_rfl) rfl (by kernel_rfl) (fun _ _ _ h => h) (Or.inl ⟨by rfl, ?hyr17⟩) hK3 ?restr17
  case hyr17 =>
    intro w0 hSw
    (try dsimp only at hSw)
    go_simp
    all_goals (with_reducible rfl)
  (try simp only [Act.put, List.setIfInBounds_toArray, List.set_cons_zero, List.set_cons_succ])
  refine Kept.take (v := ?vr19) 19 (by kernel_rfl) rfl (by kernel_rfl) (fun _ _ _ h => h) (Or.inl ⟨by rfl, ?hyr19⟩) hK3 ?restr19
  case hyr19 =>
    intro w0 hSw
    (try dsimp only at hSw)
    go_simp
    all_goals (with_reducible rfl)
  (try simp only [Act.put, List.setIfInBounds_toArray, List.set_cons_zero, List.set_cons_succ])
  refine Kept.one 18 (by kernel_rfl) rfl (fun K hK => ?_)
  go_simp
  go_at_call 26
  refine (implDep_at hn [.int .i64 hn.1, .slice B1 hn.2.1.length q1, .slice B2 hn.2.2.1.length q2, .slice B3 hn.2.2.2.length q3] _ (rdUp good_Net HR.out hK3.1) HDH.out).mono ?_
  rintro e wr3 ⟨rfl, hbr3⟩
  go_simp
  refine hK.out _ _ (hS hK3 hbr3) (fun hK4 => ?_)
  clear hK K hK3
  (try simp only [Act.put, List.setIfInBounds_toArray, List.set_cons_zero, List.set_cons_succ])
  refine Kept.tail (by rfl) (by kernel_rfl) ?_
  simp only [List.drop_succ_cons, List.drop_zero]
  go_wp2_with fail
  refine (specDep_at n [.int .i64 n.1, .slice mA1 (n.2.1).length mc1, .slice mA2 (n.2.2.1).length mc2, .slice mA3 (n.2.2.2).length mc3] _ (rdUp good_Net HD.out (bThen HB.out hK4.1)) HDN.out).mono ?_
  rintro e wr4 ⟨rfl, hb⟩
  have HBZ := Lib.hid (bThen (bThen HBW.out (bThen HB.out hK4.1)) hb)
  clear hb hK4 hS hS0
  go_wp2
  refine NoPanic.normal ?_
  go_wp2
  go_ret
  exact ⟨rfl, HBZ.out⟩
end Go.Proofs.Ytedamhkcblemdaa
