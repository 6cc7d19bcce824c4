/-
  The walk of FnHashAgain.
-/
import Derived.Test.YtedamhkcblemdaaHkC
import Derived.Test.YtedamhkcblemdaaHkD
import Derived.Test.YtedamhkcblemdaaHjA
import Derived.Test.YtedamhkcblemdaaHhC
import Derived.Deep.RegionHeld3
namespace Go.Proofs.Ytedamhkcblemdaa
open Go.RowKit
set_option linter.unusedVariables false
set_option linter.unusedSimpArgs false
set_option maxRecDepth 100000 in
set_option maxHeartbeats 25600000 in
theorem hashAgain_walk (a : Option Addr) (len cap : Nat) (zs : List Int) (w : World) (hw : IsRow .u8 w a len cap zs) :
    Calls Try.prog 7 #[.slice a len cap] w fun e w' => e = .returned (.bool true) ∧ Below w.heap.size w w' := by
  have HCD := Lib.hid hw.codeW
  clear hw
  by_cases hbig : 1048576 < (len : Int)
  · go_enter Try.func7, Try.ntmps7
    go_wp2_with fail
    refine (big_any a len cap _).mono ?_
    rw [decide_eq_true (by omega)]
    rintro e w1 ⟨rfl, rfl⟩
    go_wp2
    go_ret
    exact ⟨rfl, Below.refl _ _⟩
  go_enter Try.func7, Try.ntmps7
  go_wp2_with fail
  refine (big_any a len cap _).mono ?_
  rw [decide_eq_false (by omega)]
  rintro e w1 ⟨rfl, rfl⟩
  go_wp2_with fail
  refine (drawDeep_any a len cap _ HCD.out).mono ?_
  rintro e w1 ⟨us, n, rfl, ⟨hrd, hok⟩, hb⟩
  have HBW := Lib.hid hb
  have HOK := Lib.hid hok
  have HP := Lib.hid (netP_of hok)
  replace hrd := good_Net.wider hrd (Nat.zero_le _) (Nat.le_refl _)
  have HD := Lib.hid hrd
  clear hb hok
  obtain ⟨mu0, mu1, mu2, mu3, rfl, mh0, mh1, mh2, mh3⟩ := hrd
  obtain ⟨me0, -⟩ := mh0
  injection me0 with me0
  subst me0
  obtain ⟨mA1, mc1, me1, mm1, -⟩ := slice_of mh1
  subst me1
  have mR1 := Lib.hid mh1
  clear mh1
  obtain ⟨mA2, mc2, me2, mm2, -⟩ := slice_of mh2
  subst me2
  have mR2 := Lib.hid mh2
  clear mh2
  obtain ⟨mA3, mc3, me3, mm3, -⟩ := slice_of mh3
  subst me3
  have mR3 := Lib.hid mh3
  clear mh3
  go_wp2_with fail
  obtain ⟨W0, hV⟩ : ∃ W0, W0 = (w1.alloc (.cells #[.int .i64 n.1, .slice mA1 (n.2.1).length mc1, .slice mA2 (n.2.2.1).length mc2, .slice mA3 (n.2.2.2).length mc3] 36)) := ⟨_, rfl⟩
  rw [← hV]
  have gN := eqbox1 hV
  have d0 : W0.cell? ⟨w1.heap.size, 0, none⟩ = some (.int .i64 n.1) := box_cell gN.1 0 _ rfl
  have d1 : W0.cell? ⟨w1.heap.size, 1, none⟩ = some (.slice mA1 (n.2.1).length mc1) := box_cell gN.1 1 _ rfl
  have d2 : W0.cell? ⟨w1.heap.size, 2, none⟩ = some (.slice mA2 (n.2.2.1).length mc2) := box_cell gN.1 2 _ rfl
  have d3 : W0.cell? ⟨w1.heap.size, 3, none⟩ = some (.slice mA3 (n.2.2.2).length mc3) := box_cell gN.1 3 _ rfl
  have sW0 : W0.heap.size = w1.heap.size + 1 := by rw [hV]; simp
  have HW0 := Lib.hid gN.2
  clear hV gN
  have HB := Lib.hid HW0.out
  clear HW0
  obtain ⟨hn, hhn⟩ : ∃ h, hashO n = h := ⟨_, rfl⟩
  refine (implHash_at n _ _ (rdUp good_Net HD.out HB.out) hhn).mono ?_
  rintro e w3 ⟨u1, uA, u3, rows, bs, rfl, hnet, hb⟩
  replace d0 := keep hb d0
  replace d1 := keep hb d1
  replace d2 := keep hb d2
  replace d3 := keep hb d3
  replace HB := Lib.hid (bThen HB.out hb)
  clear hb
  obtain ⟨B1, q1, rfl⟩ := hnet.s.cap fV3_len
  obtain ⟨B2, q2, rfl⟩ := hnet.a.cap fAnd_len
  obtain ⟨B3, q3, rfl⟩ := hnet.o.cap fInt_len
  have HN := Lib.hid hnet
  clear hnet
  go_wp2_with fail
  obtain ⟨W, hV⟩ : ∃ W, W = w3.alloc (.cells #[.int .i64 hn.1, .slice B1 hn.2.1.length q1, .slice B2 hn.2.2.1.length q2, .slice B3 hn.2.2.2.length q3] 36) := ⟨_, rfl⟩
  rw [← hV]
  have gN := eqbox1 hV
  have hb : Below w3.heap.size w3 W := gN.2
  obtain ⟨hb0, hh⟩ : ∃ g, g = w3.heap.size := ⟨_, rfl⟩
  rw [← hh] at gN ⊢
  have c0 : W.cell? ⟨hb0, 0, none⟩ = some (.int .i64 hn.1) := box_cell gN.1 0 _ rfl
  have c1 : W.cell? ⟨hb0, 1, none⟩ = some (.slice B1 hn.2.1.length q1) := box_cell gN.1 1 _ rfl
  have c2 : W.cell? ⟨hb0, 2, none⟩ = some (.slice B2 hn.2.2.1.length q2) := box_cell gN.1 2 _ rfl
  have c3 : W.cell? ⟨hb0, 3, none⟩ = some (.slice B3 hn.2.2.2.length q3) := box_cell gN.1 3 _ rfl
  replace d0 := keep hb d0
  replace d1 := keep hb d1
  replace d2 := keep hb d2
  replace d3 := keep hb d3
  replace HB := Lib.hid (bThen HB.out hb)
  have HR := Lib.hid (show rdNet 0 W.heap.size W [.int .i64 hn.1, .slice B1 hn.2.1.length q1, .slice B2 hn.2.2.1.length q2, .slice B3 hn.2.2.2.length q3] hn from (HN.out.below hb).rd0)
  clear hV gN hh hb HN
  have HOH := Lib.hid (show netB hn = true by rw [← hhn]; exact netB_of (hash_net HP.out))
  have HHB := Lib.hid (show hashedB hn = true by rw [← hhn]; exact hash_hashed HP.out)
  have HAG := Lib.hid (show hashO hn = hn ∧ sweepO hn = hn by rw [← hhn]; exact hash_again HP.out)
  have hin : hn.1 = n.1 := by rw [← hhn]; exact (hash_ins HP.out).1
  have hou : hn.2.2.2.length = n.2.2.2.length := by rw [← hhn]; exact (hash_ins HP.out).2
  have t1 : (hn.1 == n.1) = true := by rw [hin]; simp
  have t2 : ((hn.2.2.2.length : Int) == (n.2.2.2.length : Int)) = true := by rw [hou]; simp
  clear hhn hin hou
  have hS0 : (fun w' => Below W.heap.size W w' ∧ w'.cell? ⟨w1.heap.size, 0, none⟩ = some (.int .i64 n.1) ∧ w'.cell? ⟨w1.heap.size, 1, none⟩ = some (.slice mA1 (n.2.1).length mc1) ∧ w'.cell? ⟨w1.heap.size, 2, none⟩ = some (.slice mA2 (n.2.2.1).length mc2) ∧ w'.cell? ⟨w1.heap.size, 3, none⟩ = some (.slice mA3 (n.2.2.2).length mc3) ∧ w'.cell? ⟨hb0, 0, none⟩ = some (.int .i64 hn.1) ∧ w'.cell? ⟨hb0, 1, none⟩ = some (.slice B1 hn.2.1.length q1) ∧ w'.cell? ⟨hb0, 2, none⟩ = some (.slice B2 hn.2.2.1.length q2) ∧ w'.cell? ⟨hb0, 3, none⟩ = some (.slice B3 hn.2.2.2.length q3)) W := ⟨Below.refl _ _, d0, d1, d2, d3, c0, c1, c2, c3⟩
  have hS : ∀ {w0 w' : World}, (fun w' => Below W.heap.size W w' ∧ w'.cell? ⟨w1.heap.size, 0, none⟩ = some (.int .i64 n.1) ∧ w'.cell? ⟨w1.heap.size, 1, none⟩ = some (.slice mA1 (n.2.1).length mc1) ∧ w'.cell? ⟨w1.heap.size, 2, none⟩ = some (.slice mA2 (n.2.2.1).length mc2) ∧ w'.cell? ⟨w1.heap.size, 3, none⟩ = some (.slice mA3 (n.2.2.2).length mc3) ∧ w'.cell? ⟨hb0, 0, none⟩ = some (.int .i64 hn.1) ∧ w'.cell? ⟨hb0, 1, none⟩ = some (.slice B1 hn.2.1.length q1) ∧ w'.cell? ⟨hb0, 2, none⟩ = some (.slice B2 hn.2.2.1.length q2) ∧ w'.cell? ⟨hb0, 3, none⟩ = some (.slice B3 hn.2.2.2.length q3)) w0 → Below w0.heap.size w0 w' → (fun w' => Below W.heap.size W w' ∧ w'.cell? ⟨w1.heap.size, 0, none⟩ = some (.int .i64 n.1) ∧ w'.cell? ⟨w1.heap.size, 1, none⟩ = some (.slice mA1 (n.2.1).length mc1) ∧ w'.cell? ⟨w1.heap.size, 2, none⟩ = some (.slice mA2 (n.2.2.1).length mc2) ∧ w'.cell? ⟨w1.heap.size, 3, none⟩ = some (.slice mA3 (n.2.2.2).length mc3) ∧ w'.cell? ⟨hb0, 0, none⟩ = some (.int .i64 hn.1) ∧ w'.cell? ⟨hb0, 1, none⟩ = some (.slice B1 hn.2.1.length q1) ∧ w'.cell? ⟨hb0, 2, none⟩ = some (.slice B2 hn.2.2.1.length q2) ∧ w'.cell? ⟨hb0, 3, none⟩ = some (.slice B3 hn.2.2.2.length q3)) w' := fun h hb => ⟨bThen h.1 hb, keep hb h.2.1, keep hb h.2.2.1, keep hb h.2.2.2.1, keep hb h.2.2.2.2.1, keep hb h.2.2.2.2.2.1, keep hb h.2.2.2.2.2.2.1, keep hb h.2.2.2.2.2.2.2.1, keep hb h.2.2.2.2.2.2.2.2⟩
  dsimp only at hS0 hS
  refine wp_region_noPanic ?_
  refine wp_region_kept 32 35 (fun w' => Below W.heap.size W w' ∧ w'.cell? ⟨w1.heap.size, 0, none⟩ = some (.int .i64 n.1) ∧ w'.cell? ⟨w1.heap.size, 1, none⟩ = some (.slice mA1 (n.2.1).length mc1) ∧ w'.cell? ⟨w1.heap.size, 2, none⟩ = some (.slice mA2 (n.2.2.1).length mc2) ∧ w'.cell? ⟨w1.heap.size, 3, none⟩ = some (.slice mA3 (n.2.2.2).length mc3) ∧ w'.cell? ⟨hb0, 0, none⟩ = some (.int .i64 hn.1) ∧ w'.cell? ⟨hb0, 1, none⟩ = some (.slice B1 hn.2.1.length q1) ∧ w'.cell? ⟨hb0, 2, none⟩ = some (.slice B2 hn.2.2.1.length q2) ∧ w'.cell? ⟨hb0, 3, none⟩ = some (.slice B3 hn.2.2.2.length q3)) (by kernel_rfl) rfl (hS hS0 (Below.drew (Below.refl _ _))) (fun hK0 => ?_)
  refine Kept.take (v := ?vr0) 0 (by kernel_rfl) rfl (by kernel_rfl) (fun _ _ _ h => h) (Or.inl ⟨by rfl, ?hyr0⟩) hK0 ?restr0
  case hyr0 =>
    intro w0 hSw
    (try dsimp only at hSw)
    go_simp
    all_goals (with_reducible rfl)
  (try simp only [Act.put, List.setIfInBounds_toArray, List.set_cons_zero, List.set_cons_succ])
  refine Kept.one 1 (by kernel_rfl) rfl (fun K hK => ?_)
  go_simp
  go_at_call 28
  refine (implNetOk_at hn [.int .i64 hn.1, .slice B1 hn.2.1.length q1, .slice B2 hn.2.2.1.length q2, .slice B3 hn.2.2.2.length q3] _ (rdUp good_Net HR.out hK0.1) HOH.out).mono ?_
  rintro e wr0 ⟨rfl, hbr0⟩
  go_simp
  refine hK.out _ _ (hS hK0 hbr0) (fun hK1 => ?_)
  clear hK K hK0
  (try simp only [Act.put, List.setIfInBounds_toArray, List.set_cons_zero, List.set_cons_succ])
  refine Kept.take (v := ?vr2) 2 (by kernel_rfl) rfl (by kernel_rfl) (fun _ _ _ h => h) (Or.inl ⟨by rfl, ?hyr2⟩) hK1 ?restr2
  case hyr2 =>
    intro w0 hSw
    (try dsimp only at hSw)
    go_simp
    all_goals (with_reducible rfl)
  (try simp only [Act.put, List.setIfInBounds_toArray, List.set_cons_zero, List.set_cons_succ])
  refine Kept.take (v := ?vr3) 3 (by kernel_rfl) rfl (by kernel_rfl) (fun _ _ _ h => h) (Or.inl ⟨by rfl, ?hyr3⟩) hK1 ?restr3
  case hyr3 =>
    intro w0 hSw
    (try dsimp only at hSw)
    go_simp
    all_goals (with_reducible rfl)
  (try simp only [Act.put, List.setIfInBounds_toArray, List.set_cons_zero, List.set_cons_succ])
  refine Kept.one 4 (by kernel_rfl) rfl (fun K hK => ?_)
  go_simp
  go_at_call 29
  refine (implHashed_at hn [.int .i64 hn.1, .slice B1 hn.2.1.length q1, .slice B2 hn.2.2.1.length q2, .slice B3 hn.2.2.2.length q3] _ (rdUp good_Net HR.out hK1.1) HHB.out).mono ?_
  rintro e wr1 ⟨rfl, hbr1⟩
  go_simp
  refine hK.out _ _ (hS hK1 hbr1) (fun hK2 => ?_)
  clear hK K hK1
  (try simp only [Act.put, List.setIfInBounds_toArray, List.set_cons_zero, List.set_cons_succ])
  refine Kept.take (v := ?vr5) 5 (by kernel_rfl) rfl (by kernel_rfl) (fun _ _ _ h => h) (Or.inl ⟨by rfl, ?hyr5⟩) hK2 ?restr5
  case hyr5 =>
    intro w0 hSw
    (try dsimp only at hSw)
    go_simp
    all_goals (with_reducible rfl)
  (try simp only [Act.put, List.setIfInBounds_toArray, List.set_cons_zero, List.set_cons_succ])
  refine Kept.take (v := ?vr6) 6 (by kernel_rfl) rfl (by kernel_rfl) (fun _ _ _ h => h) (Or.inl ⟨by rfl, ?hyr6⟩) hK2 ?restr6
  case hyr6 =>
    intro w0 hSw
    (try dsimp only at hSw)
    go_simp
    all_goals (with_reducible rfl)
  (try simp only [Act.put, List.setIfInBounds_toArray, List.set_cons_zero, List.set_cons_succ])
  refine Kept.take (v := ?vr7) 7 (by kernel_rfl) rfl (by kernel_rfl) (fun _ _ _ h => h) (Or.inl ⟨by rfl, ?hyr7⟩) hK2 ?restr7
  case hyr7 =>
    intro w0 hSw
    (try dsimp only at hSw)
    go_simp
    all_goals (with_reducible rfl)
  (try simp only [Act.put, List.setIfInBounds_toArray, List.set_cons_zero, List.set_cons_succ])
  refine Kept.take (v := ?vr9) 9 (by kernel_rfl) rfl (by kernel_rfl) (fun _ _ _ h => h) (Or.inl ⟨by rfl, ?hyr9⟩) hK2 ?restr9
  case hyr9 =>
    intro w0 hSw
    (try dsimp only at hSw)
    go_simp
    all_goals (with_reducible rfl)
  (try simp only [Act.put, List.setIfInBounds_toArray, List.set_cons_zero, List.set_cons_succ])
  refine Kept.one 8 (by kernel_rfl) rfl (fun K hK => ?_)
  go_simp
  go_at_call 22
  refine (implHash_at hn [.int .i64 hn.1, .slice B1 hn.2.1.length q1, .slice B2 hn.2.2.1.length q2, .slice B3 hn.2.2.2.length q3] _ (rdUp good_Net HR.out hK2.1) HAG.out.1).mono ?_
  rintro e wr2 ⟨x1v, xAv, x3v, xrows, xbs, rfl, hnetx, hbr2⟩
  obtain ⟨x1, xc1, rfl⟩ := hnetx.s.cap fV3_len
  obtain ⟨x2, xc2, rfl⟩ := hnetx.a.cap fAnd_len
  obtain ⟨x3, xc3, rfl⟩ := hnetx.o.cap fInt_len
  have HNx := Lib.hid hnetx
  clear hnetx
  go_simp
  refine hK.out _ _ (hS hK2 hbr2) (fun hK3 => ?_)
  clear hK K hK2
  (try simp only [Act.put, List.setIfInBounds_toArray, List.set_cons_zero, List.set_cons_succ])
  refine Kept.one 10 (by kernel_rfl) rfl (fun K hK => ?_)
  go_simp
  go_at_call 30
  refine (sameNet_rd hn [.int .i64 hn.1, .slice x1 hn.2.1.length xc1, .slice x2 hn.2.2.1.length xc2, .slice x3 hn.2.2.2.length xc3] [.int .i64 hn.1, .slice B1 hn.2.1.length q1, .slice B2 hn.2.2.1.length q2, .slice B3 hn.2.2.2.length q3] _ HNx.out.rd0 (rdUp good_Net HR.out hK3.1)).mono ?_
  rintro e wr3 ⟨rfl, hbr3⟩
  go_simp
  refine hK.out _ _ (hS hK3 hbr3) (fun hK4 => ?_)
  clear hK K hK3
  (try simp only [Act.put, List.setIfInBounds_toArray, List.set_cons_zero, List.set_cons_succ])
  refine Kept.take (v := ?vr11) 11 (by kernel_rfl) rfl (by kernel_rfl) (fun _ _ _ h => h) (Or.inl ⟨by rfl, ?hyr11⟩) hK4 ?restr11
  case hyr11 =>
    intro w0 hSw
    (try dsimp only at hSw)
    go_simp
    all_goals (with_reducible rfl)
  (try simp only [Act.put, List.setIfInBounds_toArray, List.set_cons_zero, List.set_cons_succ])
  refine Kept.take (v := ?vr12) 12 (by kernel_rfl) rfl (by kernel_rfl) (fun _ _ _ h => h) (Or.inl ⟨by rfl, ?hyr12⟩) hK4 ?restr12
  case hyr12 =>
    intro w0 hSw
    (try dsimp only at hSw)
    go_simp
    all_goals (with_reducible rfl)
  (try simp only [Act.put, List.setIfInBounds_toArray, List.set_cons_zero, List.set_cons_succ])
  refine Kept.take (v := ?vr13) 13 (by kernel_rfl) rfl (by kernel_rfl) (fun _ _ _ h => h) (Or.inl ⟨by rfl, ?hyr13⟩) hK4 ?restr13
  case hyr13 =>
    intro w0 hSw
    (try dsimp only at hSw)
    go_simp
    all_goals (with_reducible rfl)
  (try simp only [Act.put, List.setIfInBounds_toArray, List.set_cons_zero, List.set_cons_succ])
  refine Kept.take (v := ?vr15) 15 (by kernel_rfl) rfl (by kernel_rfl) (fun _ _ _ h => h) (Or.inl ⟨by rfl, ?hyr15⟩) hK4 ?restr15
  case hyr15 =>
    intro w0 hSw
    (try dsimp only at hSw)
    go_simp
    all_goals (with_reducible rfl)
  (try simp only [Act.put, List.setIfInBounds_toArray, List.set_cons_zero, List.set_cons_succ])
  refine Kept.one 14 (by kernel_rfl) rfl (fun K hK => ?_)
  go_simp
  go_at_call 31
  refine (implSweep_at hn [.int .i64 hn.1, .slice B1 hn.2.1.length q1, .slice B2 hn.2.2.1.length q2, .slice B3 hn.2.2.2.length q3] _ (rdUp good_Net HR.out hK4.1) HAG.out.2).mono ?_
  rintro e wr4 ⟨z1v, zAv, z3v, zrows, zbs, rfl, hnetz, hbr4⟩
  obtain ⟨z1, zc1, rfl⟩ := hnetz.s.cap fV3_len
  obtain ⟨z2, zc2, rfl⟩ := hnetz.a.cap fAnd_len
  obtain ⟨z3, zc3, rfl⟩ := hnetz.o.cap fInt_len
  have HNz := Lib.hid hnetz
  clear hnetz
  go_simp
  refine hK.out _ _ (hS hK4 hbr4) (fun hK5 => ?_)
  clear hK K hK4
  (try simp only [Act.put, List.setIfInBounds_toArray, List.set_cons_zero, List.set_cons_succ])
  refine Kept.one 16 (by kernel_rfl) rfl (fun K hK => ?_)
  go_simp
  go_at_call 30
  refine (sameNet_rd hn [.int .i64 hn.1, .slice z1 hn.2.1.length zc1, .slice z2 hn.2.2.1.length zc2, .slice z3 hn.2.2.2.length zc3] [.int .i64 hn.1, .slice B1 hn.2.1.length q1, .slice B2 hn.2.2.1.length q2, .slice B3 hn.2.2.2.length q3] _ HNz.out.rd0 (rdUp good_Net HR.out hK5.1)).mono ?_
  rintro e wr5 ⟨rfl, hbr5⟩
  go_simp
  refine hK.out _ _ (hS hK5 hbr5) (fun hK6 => ?_)
  clear hK K hK5
  (try simp only [Act.put, List.setIfInBounds_toArray, List.set_cons_zero, List.set_cons_succ])
  refine Kept.take (v := ?vr17) 17 (by kernel_rfl) rfl (by kernel_rfl) (fun _ _ _ h => h) (Or.inl ⟨by rfl, ?hyr17⟩) hK6 ?restr17
  case hyr17 =>
    intro w0 hSw
    (try dsimp only at hSw)
    go_simp
    all_goals (with_reducible rfl)
  (try simp only [Act.put, List.setIfInBounds_toArray, List.set_cons_zero, List.set_cons_succ])
  refine Kept.take (v := ?vr18) 18 (by kernel_rfl) rfl (by kernel_rfl) (fun _ _ _ h => h) (Or.inl ⟨by rfl, ?hyr18⟩) hK6 ?restr18
  case hyr18 =>
    intro w0 hSw
    (try dsimp only at hSw)
    go_simp
    all_goals (with_reducible rfl)
  (try simp only [Act.put, List.setIfInBounds_toArray, List.set_cons_zero, List.set_cons_succ])
  refine Kept.take (v := ?vr19) 19 (by kernel_rfl) rfl (by kernel_rfl) (fun _ _ _ h => h) (Or.inl ⟨by rfl, ?hyr19⟩) hK6 ?restr19
  case hyr19 =>
    intro w0 hSw
    (try dsimp only at hSw)
    go_simp
    all_goals (with_reducible rfl)
  (try simp only [Act.put, List.setIfInBounds_toArray, List.set_cons_zero, List.set_cons_succ])
  refine Kept.take (v := ?vr20) 20 (by kernel_rfl) rfl (by kernel_rfl) (fun _ _ _ h => h) (Or.inl ⟨by rfl, ?hyr20⟩) hK6 ?restr20
  case hyr20 =>
    intro w0 hSw
    (try dsimp only at hSw)
    go_simp
    all_goals (with_reducible rfl)
  (try simp only [Act.put, List.setIfInBounds_toArray, List.set_cons_zero, List.set_cons_succ])
  refine Kept.take (v := ?vr21) 21 (by kernel_rfl) rfl (by kernel_rfl) (fun _ _ _ h => h) (Or.inl ⟨by rfl, ?hyr21⟩) hK6 ?restr21
  case hyr21 =>
    intro w0 hSw
    (try dsimp only at hSw)
    go_simp
    all_goals (with_reducible rfl)
  (try simp only [Act.put, List.setIfInBounds_toArray, List.set_cons_zero, List.set_cons_succ])
  refine Kept.take (v := ?vr22) 22 (by kernel_rfl) rfl (by kernel_rfl) (fun _ _ _ h => h) (Or.inl ⟨by rfl, ?hyr22⟩) hK6 ?restr22
  case hyr22 =>
    intro w0 hSw
    (try dsimp only at hSw)
    go_simp
    all_goals (with_reducible rfl)
  (try simp only [Act.put, List.setIfInBounds_toArray, List.set_cons_zero, List.set_cons_succ])
  refine Kept.take (v := ?vr23) 23 (by kernel_rfl) rfl (by kernel_rfl) (fun _ _ _ h => h) (Or.inl ⟨by rfl, ?hyr23⟩) hK6 ?restr23
  case hyr23 =>
    intro w0 hSw
    (try dsimp only at hSw)
    go_simp
    all_goals (with_reducible rfl)
  (try simp only [Act.put, List.setIfInBounds_toArray, List.set_cons_zero, List.set_cons_succ])
  refine Kept.take (v := ?vr24) 24 (by kernel_rfl) rfl (by kernel_rfl) (fun _ _ _ h => h) (Or.inl ⟨by rfl, ?hyr24⟩) hK6 ?restr24
  case hyr24 =>
    intro w0 hSw
    (try dsimp only at hSw)
    go_simp
    all_goals (with_reducible rfl)
  (try simp only [Act.put, List.setIfInBounds_toArray, List.set_cons_zero, List.set_cons_succ])
  refine Kept.take (v := ?vr25) 25 (by kernel_rfl) rfl (by kernel_rfl) (fun _ _ _ h => h) (Or.inl ⟨by rfl, ?hyr25⟩) hK6 ?restr25
  case hyr25 =>
    intro w0 hSw
    (try dsimp only at hSw)
    go_simp
    all_goals (with_reducible rfl)
  (try simp only [Act.put, List.setIfInBounds_toArray, List.set_cons_zero, List.set_cons_succ])
  refine Kept.take (v := ?vr26) 26 (by kernel_rfl) rfl (by kernel_rfl) (fun _ _ _ h => h) (Or.inl ⟨by rfl, ?hyr26⟩) hK6 ?restr26
  case hyr26 =>
    intro w0 hSw
    (try dsimp only at hSw)
    go_simp
    all_goals (with_reducible rfl)
  (try simp only [Act.put, List.setIfInBounds_toArray, List.set_cons_zero, List.set_cons_succ])
  refine Kept.take (v := ?vr27) 27 (by kernel_rfl) rfl (by kernel_rfl) (fun _ _ _ h => h) (Or.inl ⟨by rfl, ?hyr27⟩) hK6 ?restr27
  case hyr27 =>
    intro w0 hSw
    (try dsimp only at hSw)
    go_simp
    all_goals (with_reducible rfl)
  (try simp only [Act.put, List.setIfInBounds_toArray, List.set_cons_zero, List.set_cons_succ])
  refine Kept.take (v := ?vr28) 28 (by kernel_rfl) rfl (by kernel_rfl) (fun _ _ _ h => h) (Or.inl ⟨by rfl, ?hyr28⟩) hK6 ?restr28
  case hyr28 =>
    intro w0 hSw
    (try dsimp only at hSw)
    go_simp
    all_goals (with_reducible rfl)
  (try simp only [Act.put, List.setIfInBounds_toArray, List.set_cons_zero, List.set_cons_succ])
  refine Kept.take (v := ?vr29) 29 (by kernel_rfl) rfl (by kernel_rfl) (fun _ _ _ h => h) (Or.inl ⟨by rfl, ?hyr29⟩) hK6 ?restr29
  case hyr29 =>
    intro w0 hSw
    (try dsimp only at hSw)
    go_simp
    all_goals (with_reducible rfl)
  (try simp only [Act.put, List.setIfInBounds_toArray, List.set_cons_zero, List.set_cons_succ])
  refine Kept.take (v := ?vr30) 30 (by kernel_rfl) rfl (by kernel_rfl) (fun _ _ _ h => h) (Or.inl ⟨by rfl, ?hyr30⟩) hK6 ?restr30
  case hyr30 =>
    intro w0 hSw
    (try dsimp only at hSw)
    go_simp
    all_goals (with_reducible rfl)
  (try simp only [Act.put, List.setIfInBounds_toArray, List.set_cons_zero, List.set_cons_succ])
  refine Kept.take (v := ?vr31) 31 (by kernel_rfl) rfl (by kernel_rfl) (fun _ _ _ h => h) (Or.inl ⟨by rfl, ?hyr31⟩) hK6 ?restr31
  case hyr31 =>
    intro w0 hSw
    (try dsimp only at hSw)
    go_simp
    all_goals (with_reducible rfl)
  (try simp only [Act.put, List.setIfInBounds_toArray, List.set_cons_zero, List.set_cons_succ])
  refine Kept.tail (by rfl) (by kernel_rfl) ?_
  simp only [List.drop_succ_cons, List.drop_zero]
  have HBZ := Lib.hid (bThen HBW.out (bThen HB.out hK6.1))
  clear hK6 hS hS0
  go_wp2
  refine NoPanic.normal ?_
  go_wp2
  go_ret
  exact ⟨rfl, HBZ.out⟩
end Go.Proofs.Ytedamhkcblemdaa
