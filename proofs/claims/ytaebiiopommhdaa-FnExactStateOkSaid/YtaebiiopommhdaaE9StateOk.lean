/-
  The walk of the exact law over StateOk.
-/
import Derived.Test.YtaebiiopommhdaaNr3
import Derived.Test.YtaebiiopommhdaaDmN
import Derived.Test.YtaebiiopommhdaaDzN
import Derived.Test.YtaebiiopommhdaaDoN
import Derived.Test.YtaebiiopommhdaaRgN
import Derived.Deep.RegionHeld3
namespace Go.Proofs.Ytaebiiopommhdaa
open Go.RowKit
set_option linter.unusedVariables false
set_option linter.unusedSimpArgs false

set_option maxRecDepth 100000 in
set_option maxHeartbeats 25600000 in
theorem exactState_walk (av0 av1 av2 av3 : Value) (za : DNet) (vA : Option Addr) (vl vc : Nat) (zv : List Int) (w : World) (ha : rdNet 0 w.heap.size w [av0, av1, av2, av3] za) (hv : rdIntS 0 w.heap.size w [.slice vA vl vc] zv) :
    Calls Try.prog 6 #[.agg #[av0, av1, av2, av3], .slice vA vl vc] w fun e w' => e = .returned (.bool true) ∧ Below w.heap.size w w' := by
  have HDa := Lib.hid ha
  obtain ⟨aw0, aw1, aw2, aw3, ade, ah0, ah1, ah2, ah3⟩ := ha
  injection ade with ad0 ade
  injection ade with ad1 ade
  injection ade with ad2 ade
  injection ade with ad3 ade
  subst ad0 ad1 ad2 ad3
  clear ade
  obtain ⟨ae0, -⟩ := ah0
  injection ae0 with ae0
  subst ae0
  obtain ⟨aA1, ac1, ae1, am1, -⟩ := ah1
  injection ae1 with ae1
  subst ae1
  unfold maxLen at am1
  obtain ⟨aA2, ac2, ae2, am2, -⟩ := ah2
  injection ae2 with ae2
  subst ae2
  unfold maxLen at am2
  obtain ⟨aA3, ac3, ae3, am3, -⟩ := ah3
  injection ae3 with ae3
  subst ae3
  unfold maxLen at am3
  have HDv := Lib.hid hv
  obtain ⟨vA', vc', ve, vm, -⟩ := slice_of hv
  injection ve with ve1 ve2 ve3
  subst ve1 ve2 ve3
  clear hv
  obtain ⟨r0, hr0⟩ : ∃ r0, stateB za zv = r0 := ⟨_, rfl⟩
  have HR0 := Lib.hid hr0
  clear hr0
  by_cases hlv : zv.length ≤ 1048576
  case neg =>
    have tlv : (1048576 : Int) < (zv.length : Int) := by omega
    go_enter Try.func6, Try.ntmps6
    go_wp2
    go_ret
    exact ⟨rfl, by (repeat' (first | assumption | exact Below.refl _ _ | refine bDrewN ?_ _ | refine Below.drew ?_ | refine bAlloc ?_ (Nat.le_refl _) _ | refine bSet ?_ (by first | exact Nat.le_refl _ | omega | (simp <;> omega)) _))⟩
  have tlv : ¬ (1048576 : Int) < (zv.length : Int) := by omega
  have HSv := Lib.hid (show smIntS zv from hlv)
  have HW := Lib.hid (Below.refl w.heap.size w)
  go_enter Try.func6, Try.ntmps6
  go_wp2_with fail
  obtain ⟨V1, hV⟩ : ∃ V1, V1 = (w.alloc (.cells #[.int .i64 za.1, .slice aA1 (za.2.1).length ac1, .slice aA2 (za.2.2.1).length ac2, .slice aA3 (za.2.2.2).length ac3] 46)) := ⟨_, rfl⟩
  rw [← hV]
  have gN := eqbox1 hV
  have aa0 : V1.cell? ⟨w.heap.size, 0, none⟩ = some (.int .i64 za.1) := box_cell gN.1 0 _ rfl
  have aa1 : V1.cell? ⟨w.heap.size, 1, none⟩ = some (.slice aA1 (za.2.1).length ac1) := box_cell gN.1 1 _ rfl
  have aa2 : V1.cell? ⟨w.heap.size, 2, none⟩ = some (.slice aA2 (za.2.2.1).length ac2) := box_cell gN.1 2 _ rfl
  have aa3 : V1.cell? ⟨w.heap.size, 3, none⟩ = some (.slice aA3 (za.2.2.2).length ac3) := box_cell gN.1 3 _ rfl
  have t1 : V1.heap.size = w.heap.size + 1 := by rw [hV]; simp
  replace HW := Lib.hid (bThen HW.out gN.2)
  have s1 : w.heap.size ≤ V1.heap.size := (gN.2).size
  clear hV gN
  refine (szNet_post za [.int .i64 za.1, .slice aA1 (za.2.1).length ac1, .slice aA2 (za.2.2.1).length ac2, .slice aA3 (za.2.2.2).length ac3] 1048576 _ (good_Net.below HDa.out (Nat.le_refl _) HW.out) HW.out.size (by omega) (by omega)).mono ?_
  rintro e w2 ⟨lfa, rfl, hrN, hbN⟩
  replace aa0 := keep hbN aa0
  replace aa1 := keep hbN aa1
  replace aa2 := keep hbN aa2
  replace aa3 := keep hbN aa3
  replace HW := Lib.hid (bThen HW.out hbN)
  have s2 : V1.heap.size ≤ w2.heap.size := (hbN).size
  clear hbN
  rcases hrN with rfl | ⟨pa, qa, sN⟩
  · go_wp2
    go_ret
    exact ⟨rfl, HW.out⟩
  have ta : ¬ lfa < 0 := by omega
  have HSa := Lib.hid sN
  clear sN
  go_wp2_with fail
  refine (toNet_any za [.int .i64 za.1, .slice aA1 (za.2.1).length ac1, .slice aA2 (za.2.2.1).length ac2, .slice aA3 (za.2.2.2).length ac3] _ (good_Net.below HDa.out (Nat.le_refl _) HW.out) HW.out.size HSa.out).mono ?_
  rintro e w3 ⟨y0, rfl, hxN, hbN⟩
  replace aa0 := keep hbN aa0
  replace aa1 := keep hbN aa1
  replace aa2 := keep hbN aa2
  replace aa3 := keep hbN aa3
  replace HW := Lib.hid (bThen HW.out hbN)
  have s3 : w2.heap.size ≤ w3.heap.size := (hbN).size
  have Hy0 := Lib.hid hxN
  have By0 := Lib.hid (Below.refl w3.heap.size w3)
  obtain ⟨y0u0, y0u1, y0u2, y0u3, rfl, y0h0, y0h1, y0h2, y0h3⟩ := hxN
  obtain ⟨y0e0, -⟩ := y0h0
  injection y0e0 with y0e0
  subst y0e0
  obtain ⟨y0A1, y0c1, y0e1, y0m1, -⟩ := y0h1
  injection y0e1 with y0e1
  subst y0e1
  unfold maxLen at y0m1
  obtain ⟨y0A2, y0c2, y0e2, y0m2, -⟩ := y0h2
  injection y0e2 with y0e2
  subst y0e2
  unfold maxLen at y0m2
  obtain ⟨y0A3, y0c3, y0e3, y0m3, -⟩ := y0h3
  injection y0e3 with y0e3
  subst y0e3
  unfold maxLen at y0m3
  clear hbN
  go_wp2_with fail
  refine (toIntS_any zv vA zv.length vc _ (good_IntS.below HDv.out (Nat.le_refl _) HW.out) HW.out.size HSv.out).mono ?_
  rintro e w4 ⟨y1, rfl, hxN, hbN⟩
  replace aa0 := keep hbN aa0
  replace aa1 := keep hbN aa1
  replace aa2 := keep hbN aa2
  replace aa3 := keep hbN aa3
  replace By0 := Lib.hid (bThen By0.out hbN)
  replace HW := Lib.hid (bThen HW.out hbN)
  have s4 : w3.heap.size ≤ w4.heap.size := (hbN).size
  have Hy1 := Lib.hid hxN
  have By1 := Lib.hid (Below.refl w4.heap.size w4)
  obtain ⟨y1A, y1c, rfl, -⟩ := slice_of (hxN)
  clear hbN hxN
  go_wp2_with fail
  refine (specState_at za zv _ _ _ (good_Net.wider (good_Net.below Hy0.out (Nat.le_refl _) By0.out) (Nat.zero_le _) By0.out.size) (good_IntS.wider (good_IntS.below Hy1.out (Nat.le_refl _) By1.out) (Nat.zero_le _) By1.out.size) HR0.out).mono ?_
  rintro e w5 ⟨rfl, hbN⟩
  replace aa0 := keep hbN aa0
  replace aa1 := keep hbN aa1
  replace aa2 := keep hbN aa2
  replace aa3 := keep hbN aa3
  replace By0 := Lib.hid (bThen By0.out hbN)
  replace By1 := Lib.hid (bThen By1.out hbN)
  replace HW := Lib.hid (bThen HW.out hbN)
  have s5 : w4.heap.size ≤ w5.heap.size := (hbN).size
  clear hbN
  clear Hy0 By0
  clear Hy1 By1
  go_wp2_with fail
  refine (toNet_any za [.int .i64 za.1, .slice aA1 (za.2.1).length ac1, .slice aA2 (za.2.2.1).length ac2, .slice aA3 (za.2.2.2).length ac3] _ (good_Net.below HDa.out (Nat.le_refl _) HW.out) HW.out.size HSa.out).mono ?_
  rintro e w6 ⟨x0, rfl, hxN, hbN⟩
  replace aa0 := keep hbN aa0
  replace aa1 := keep hbN aa1
  replace aa2 := keep hbN aa2
  replace aa3 := keep hbN aa3
  replace HW := Lib.hid (bThen HW.out hbN)
  have s6 : w5.heap.size ≤ w6.heap.size := (hbN).size
  have Hx0 := Lib.hid hxN
  have Bx0 := Lib.hid (Below.refl w6.heap.size w6)
  obtain ⟨x0u0, x0u1, x0u2, x0u3, rfl, x0h0, x0h1, x0h2, x0h3⟩ := hxN
  obtain ⟨x0e0, -⟩ := x0h0
  injection x0e0 with x0e0
  subst x0e0
  obtain ⟨x0A1, x0c1, x0e1, x0m1, -⟩ := x0h1
  injection x0e1 with x0e1
  subst x0e1
  unfold maxLen at x0m1
  obtain ⟨x0A2, x0c2, x0e2, x0m2, -⟩ := x0h2
  injection x0e2 with x0e2
  subst x0e2
  unfold maxLen at x0m2
  obtain ⟨x0A3, x0c3, x0e3, x0m3, -⟩ := x0h3
  injection x0e3 with x0e3
  subst x0e3
  unfold maxLen at x0m3
  clear hbN
  have ltaa0 : w.heap.size < w6.heap.size := World.block_lt_of_cell? _ _ aa0
  go_wp2_with fail
  clear ltaa0
  obtain ⟨V7, hV⟩ : ∃ V7, V7 = (w6.alloc (.cells #[.int .i64 za.1, .slice x0A1 (za.2.1).length x0c1, .slice x0A2 (za.2.2.1).length x0c2, .slice x0A3 (za.2.2.2).length x0c3] 28)) := ⟨_, rfl⟩
  rw [← hV]
  have gN := eqbox1 hV
  have b00 : V7.cell? ⟨w6.heap.size, 0, none⟩ = some (.int .i64 za.1) := box_cell gN.1 0 _ rfl
  have b01 : V7.cell? ⟨w6.heap.size, 1, none⟩ = some (.slice x0A1 (za.2.1).length x0c1) := box_cell gN.1 1 _ rfl
  have b02 : V7.cell? ⟨w6.heap.size, 2, none⟩ = some (.slice x0A2 (za.2.2.1).length x0c2) := box_cell gN.1 2 _ rfl
  have b03 : V7.cell? ⟨w6.heap.size, 3, none⟩ = some (.slice x0A3 (za.2.2.2).length x0c3) := box_cell gN.1 3 _ rfl
  have t7 : V7.heap.size = w6.heap.size + 1 := by rw [hV]; simp
  replace aa0 := keep gN.2 aa0
  replace aa1 := keep gN.2 aa1
  replace aa2 := keep gN.2 aa2
  replace aa3 := keep gN.2 aa3
  replace Bx0 := Lib.hid (bThen Bx0.out gN.2)
  replace HW := Lib.hid (bThen HW.out gN.2)
  have s7 : w6.heap.size ≤ V7.heap.size := (gN.2).size
  clear hV gN
  refine (toIntS_any zv vA zv.length vc _ (good_IntS.below HDv.out (Nat.le_refl _) HW.out) HW.out.size HSv.out).mono ?_
  rintro e w8 ⟨x1, rfl, hxN, hbN⟩
  replace aa0 := keep hbN aa0
  replace aa1 := keep hbN aa1
  replace aa2 := keep hbN aa2
  replace aa3 := keep hbN aa3
  replace b00 := keep hbN b00
  replace b01 := keep hbN b01
  replace b02 := keep hbN b02
  replace b03 := keep hbN b03
  replace Bx0 := Lib.hid (bThen Bx0.out hbN)
  replace HW := Lib.hid (bThen HW.out hbN)
  have s8 : V7.heap.size ≤ w8.heap.size := (hbN).size
  have Hx1 := Lib.hid hxN
  have Bx1 := Lib.hid (Below.refl w8.heap.size w8)
  obtain ⟨x1A, x1c, rfl, -⟩ := slice_of (hxN)
  clear hbN hxN
  go_wp2_with fail
  refine (implState_at za zv _ _ _ (good_Net.wider (good_Net.below Hx0.out (Nat.le_refl _) Bx0.out) (Nat.zero_le _) Bx0.out.size) (good_IntS.wider (good_IntS.below Hx1.out (Nat.le_refl _) Bx1.out) (Nat.zero_le _) Bx1.out.size) HR0.out).mono ?_
  rintro e w9 ⟨rfl, hbN⟩
  replace aa0 := keep hbN aa0
  replace aa1 := keep hbN aa1
  replace aa2 := keep hbN aa2
  replace aa3 := keep hbN aa3
  replace b00 := keep hbN b00
  replace b01 := keep hbN b01
  replace b02 := keep hbN b02
  replace b03 := keep hbN b03
  replace Bx0 := Lib.hid (bThen Bx0.out hbN)
  replace Bx1 := Lib.hid (bThen Bx1.out hbN)
  replace HW := Lib.hid (bThen HW.out hbN)
  have s9 : w8.heap.size ≤ w9.heap.size := (hbN).size
  clear hbN
  go_wp2_with fail
  have hS0 : (fun w' => Below w9.heap.size w9 w' ∧ w'.cell? ⟨w.heap.size, 0, none⟩ = some (.int .i64 za.1) ∧ w'.cell? ⟨w.heap.size, 1, none⟩ = some (.slice aA1 (za.2.1).length ac1) ∧ w'.cell? ⟨w.heap.size, 2, none⟩ = some (.slice aA2 (za.2.2.1).length ac2) ∧ w'.cell? ⟨w.heap.size, 3, none⟩ = some (.slice aA3 (za.2.2.2).length ac3) ∧ w'.cell? ⟨w6.heap.size, 0, none⟩ = some (.int .i64 za.1) ∧ w'.cell? ⟨w6.heap.size, 1, none⟩ = some (.slice x0A1 (za.2.1).length x0c1) ∧ w'.cell? ⟨w6.heap.size, 2, none⟩ = some (.slice x0A2 (za.2.2.1).length x0c2) ∧ w'.cell? ⟨w6.heap.size, 3, none⟩ = some (.slice x0A3 (za.2.2.2).length x0c3)) w9 := ⟨Below.refl _ _, aa0, aa1, aa2, aa3, b00, b01, b02, b03⟩
  have hS : ∀ {w0 w' : World}, (fun w' => Below w9.heap.size w9 w' ∧ w'.cell? ⟨w.heap.size, 0, none⟩ = some (.int .i64 za.1) ∧ w'.cell? ⟨w.heap.size, 1, none⟩ = some (.slice aA1 (za.2.1).length ac1) ∧ w'.cell? ⟨w.heap.size, 2, none⟩ = some (.slice aA2 (za.2.2.1).length ac2) ∧ w'.cell? ⟨w.heap.size, 3, none⟩ = some (.slice aA3 (za.2.2.2).length ac3) ∧ w'.cell? ⟨w6.heap.size, 0, none⟩ = some (.int .i64 za.1) ∧ w'.cell? ⟨w6.heap.size, 1, none⟩ = some (.slice x0A1 (za.2.1).length x0c1) ∧ w'.cell? ⟨w6.heap.size, 2, none⟩ = some (.slice x0A2 (za.2.2.1).length x0c2) ∧ w'.cell? ⟨w6.heap.size, 3, none⟩ = some (.slice x0A3 (za.2.2.2).length x0c3)) w0 → Below w0.heap.size w0 w' → (fun w' => Below w9.heap.size w9 w' ∧ w'.cell? ⟨w.heap.size, 0, none⟩ = some (.int .i64 za.1) ∧ w'.cell? ⟨w.heap.size, 1, none⟩ = some (.slice aA1 (za.2.1).length ac1) ∧ w'.cell? ⟨w.heap.size, 2, none⟩ = some (.slice aA2 (za.2.2.1).length ac2) ∧ w'.cell? ⟨w.heap.size, 3, none⟩ = some (.slice aA3 (za.2.2.2).length ac3) ∧ w'.cell? ⟨w6.heap.size, 0, none⟩ = some (.int .i64 za.1) ∧ w'.cell? ⟨w6.heap.size, 1, none⟩ = some (.slice x0A1 (za.2.1).length x0c1) ∧ w'.cell? ⟨w6.heap.size, 2, none⟩ = some (.slice x0A2 (za.2.2.1).length x0c2) ∧ w'.cell? ⟨w6.heap.size, 3, none⟩ = some (.slice x0A3 (za.2.2.2).length x0c3)) w' := fun h hb => ⟨bThen h.1 hb, keep hb h.2.1, keep hb h.2.2.1, keep hb h.2.2.2.1, keep hb h.2.2.2.2.1, keep hb h.2.2.2.2.2.1, keep hb h.2.2.2.2.2.2.1, keep hb h.2.2.2.2.2.2.2.1, keep hb h.2.2.2.2.2.2.2.2⟩
  dsimp only at hS0 hS
  refine wp_region_noPanic ?_
  refine wp_region_kept 4 5 (fun w' => Below w9.heap.size w9 w' ∧ w'.cell? ⟨w.heap.size, 0, none⟩ = some (.int .i64 za.1) ∧ w'.cell? ⟨w.heap.size, 1, none⟩ = some (.slice aA1 (za.2.1).length ac1) ∧ w'.cell? ⟨w.heap.size, 2, none⟩ = some (.slice aA2 (za.2.2.1).length ac2) ∧ w'.cell? ⟨w.heap.size, 3, none⟩ = some (.slice aA3 (za.2.2.2).length ac3) ∧ w'.cell? ⟨w6.heap.size, 0, none⟩ = some (.int .i64 za.1) ∧ w'.cell? ⟨w6.heap.size, 1, none⟩ = some (.slice x0A1 (za.2.1).length x0c1) ∧ w'.cell? ⟨w6.heap.size, 2, none⟩ = some (.slice x0A2 (za.2.2.1).length x0c2) ∧ w'.cell? ⟨w6.heap.size, 3, none⟩ = some (.slice x0A3 (za.2.2.2).length x0c3)) (by kernel_rfl) rfl (hS hS0 (Below.drew (Below.refl _ _))) (fun hK0 => ?_)
  refine Kept.take (v := ?vt9n0) 0 (by kernel_rfl) rfl (by kernel_rfl) (fun _ _ _ h => h) (Or.inl ⟨by rfl, ?hyt9n0⟩) hK0 ?restt9n0
  case hyt9n0 =>
    intro w0 hSw
    (try dsimp only at hSw)
    go_simp
    all_goals (with_reducible rfl)
  (try simp only [Act.put, List.setIfInBounds_toArray, List.set_cons_zero, List.set_cons_succ])
  refine Kept.take (v := ?vt9n1) 1 (by kernel_rfl) rfl (by kernel_rfl) (fun _ _ _ h => h) (Or.inl ⟨by rfl, ?hyt9n1⟩) hK0 ?restt9n1
  case hyt9n1 =>
    intro w0 hSw
    (try dsimp only at hSw)
    go_simp
    all_goals (with_reducible rfl)
  (try simp only [Act.put, List.setIfInBounds_toArray, List.set_cons_zero, List.set_cons_succ])
  refine Kept.one 2 (by kernel_rfl) rfl (fun K hK => ?_)
  go_simp
  go_at_call 27
  refine (toNet_any za [.int .i64 za.1, .slice aA1 (za.2.1).length ac1, .slice aA2 (za.2.2.1).length ac2, .slice aA3 (za.2.2.2).length ac3] _ (good_Net.below HDa.out (Nat.le_refl _) (bThen HW.out hK0.1)) (bThen HW.out hK0.1).size HSa.out).mono ?_
  rintro e wr0 ⟨v0, rfl, hxN, hbr0⟩
  have Hv0 := Lib.hid hxN
  obtain ⟨v0u0, v0u1, v0u2, v0u3, rfl, v0h0, v0h1, v0h2, v0h3⟩ := hxN
  obtain ⟨v0e0, -⟩ := v0h0
  injection v0e0 with v0e0
  subst v0e0
  obtain ⟨v0A1, v0c1, v0e1, v0m1, -⟩ := v0h1
  injection v0e1 with v0e1
  subst v0e1
  unfold maxLen at v0m1
  obtain ⟨v0A2, v0c2, v0e2, v0m2, -⟩ := v0h2
  injection v0e2 with v0e2
  subst v0e2
  unfold maxLen at v0m2
  obtain ⟨v0A3, v0c3, v0e3, v0m3, -⟩ := v0h3
  injection v0e3 with v0e3
  subst v0e3
  unfold maxLen at v0m3
  go_simp
  refine hK.out _ _ (hS hK0 hbr0) (fun hK1 => ?_)
  clear hK K hK0
  (try simp only [Act.put, List.setIfInBounds_toArray, List.set_cons_zero, List.set_cons_succ])
  refine Kept.one 3 (by kernel_rfl) rfl (fun K hK => ?_)
  go_simp
  go_at_call 29
  refine (eqNet_any za [.int .i64 za.1, .slice x0A1 (za.2.1).length x0c1, .slice x0A2 (za.2.2.1).length x0c2, .slice x0A3 (za.2.2.2).length x0c3] [.int .i64 za.1, .slice v0A1 (za.2.1).length v0c1, .slice v0A2 (za.2.2.1).length v0c2, .slice v0A3 (za.2.2.2).length v0c3] _ (good_Net.below Hx0.out (Nat.le_refl _) (bThen Bx0.out hK1.1)) Hv0.out (bThen Bx0.out hK1.1).size (Nat.le_refl _)).mono ?_
  rintro e wr1 ⟨rfl, hbr1⟩
  go_simp
  refine hK.out _ _ (hS hK1 hbr1) (fun hK2 => ?_)
  clear hK K hK1
  (try simp only [Act.put, List.setIfInBounds_toArray, List.set_cons_zero, List.set_cons_succ])
  refine Kept.tail (by rfl) (by kernel_rfl) ?_
  simp only [List.drop_succ_cons, List.drop_zero]
  go_wp2
  refine NoPanic.normal ?_
  obtain ⟨W9r, hWr⟩ : ∃ W, W = wr1 := ⟨_, rfl⟩
  rw [← hWr] at hK2 ⊢
  clear hWr
  have hbN := hK2.1
  replace aa0 := keep hbN aa0
  replace aa1 := keep hbN aa1
  replace aa2 := keep hbN aa2
  replace aa3 := keep hbN aa3
  replace b00 := keep hbN b00
  replace b01 := keep hbN b01
  replace b02 := keep hbN b02
  replace b03 := keep hbN b03
  replace Bx0 := Lib.hid (bThen Bx0.out hbN)
  replace Bx1 := Lib.hid (bThen Bx1.out hbN)
  replace HW := Lib.hid (bThen HW.out hbN)
  have s10 : w9.heap.size ≤ W9r.heap.size := (hbN).size
  clear hbN hK2 hS0 hS
  clear Hv0
  go_wp2_with fail
  refine (toIntS_any zv vA zv.length vc _ (good_IntS.below HDv.out (Nat.le_refl _) HW.out) HW.out.size HSv.out).mono ?_
  rintro e w11 ⟨v1, rfl, hxN, hbN⟩
  replace aa0 := keep hbN aa0
  replace aa1 := keep hbN aa1
  replace aa2 := keep hbN aa2
  replace aa3 := keep hbN aa3
  replace b00 := keep hbN b00
  replace b01 := keep hbN b01
  replace b02 := keep hbN b02
  replace b03 := keep hbN b03
  replace Bx0 := Lib.hid (bThen Bx0.out hbN)
  replace Bx1 := Lib.hid (bThen Bx1.out hbN)
  replace HW := Lib.hid (bThen HW.out hbN)
  have s11 : W9r.heap.size ≤ w11.heap.size := (hbN).size
  have Hv1 := Lib.hid hxN
  have Bv1 := Lib.hid (Below.refl w11.heap.size w11)
  obtain ⟨v1A, v1c, rfl, -⟩ := slice_of (hxN)
  clear hbN hxN
  go_wp2_with fail
  refine (eqIntS_any zv (.slice x1A zv.length x1c) (.slice v1A zv.length v1c) _ (good_IntS.below Hx1.out (Nat.le_refl _) Bx1.out) (good_IntS.below Hv1.out (Nat.le_refl _) Bv1.out) Bx1.out.size Bv1.out.size).mono ?_
  rintro e w12 ⟨rfl, hbN⟩
  replace aa0 := keep hbN aa0
  replace aa1 := keep hbN aa1
  replace aa2 := keep hbN aa2
  replace aa3 := keep hbN aa3
  replace b00 := keep hbN b00
  replace b01 := keep hbN b01
  replace b02 := keep hbN b02
  replace b03 := keep hbN b03
  replace Bx0 := Lib.hid (bThen Bx0.out hbN)
  replace Bx1 := Lib.hid (bThen Bx1.out hbN)
  replace Bv1 := Lib.hid (bThen Bv1.out hbN)
  replace HW := Lib.hid (bThen HW.out hbN)
  have s12 : w11.heap.size ≤ w12.heap.size := (hbN).size
  clear hbN
  clear Hv1 Bv1
  go_wp2
  go_ret
  exact ⟨rfl, HW.out⟩
end Go.Proofs.Ytaebiiopommhdaa
