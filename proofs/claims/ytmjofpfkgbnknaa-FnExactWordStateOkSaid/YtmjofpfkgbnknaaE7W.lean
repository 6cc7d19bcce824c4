/-
  The walk of the exact law over WordStateOk.
-/
import Derived.Test.YtmjofpfkgbnknaaDmAll
import Derived.Test.YtmjofpfkgbnknaaDzAll
import Derived.Test.YtmjofpfkgbnknaaWsAll
import Derived.Test.YtmjofpfkgbnknaaSWs
import Derived.Test.YtmjofpfkgbnknaaIWs
import Derived.Test.YtmjofpfkgbnknaaKept
import Derived.Deep.RegionHeld3
namespace Go.Proofs.Ytmjofpfkgbnknaa
open Go.RowKit
set_option linter.unusedVariables false
set_option linter.unusedSimpArgs false

set_option maxRecDepth 100000 in
set_option maxHeartbeats 25600000 in
theorem exactWs_walk (av0 av1 av2 av3 : Value) (za : DModule) (bv0 bv1 : Value) (zb : DWordState) (w : World) (ha : rdModule 0 w.heap.size w [av0, av1, av2, av3] za) (hb : rdWordState 0 w.heap.size w [bv0, bv1] zb) :
    Calls Try.prog 8 #[.agg #[av0, av1, av2, av3], .agg #[bv0, bv1]] w fun e w' => e = .returned (.bool true) ∧ Below w.heap.size w w' := by
  have HDa := Lib.hid ha
  obtain ⟨aw0, aw1, aw2, aw3, ade, ah0, ah1, ah2, ah3⟩ := ha
  injection ade with ad0 ade
  injection ade with ad1 ade
  injection ade with ad2 ade
  injection ade with ad3 ade
  subst ad0 ad1 ad2 ad3
  clear ade
  obtain ⟨aA0, ac0, ae0, am0, -⟩ := ah0
  injection ae0 with ae0
  subst ae0
  unfold maxLen at am0
  obtain ⟨aA1, ac1, ae1, am1, -⟩ := ah1
  injection ae1 with ae1
  subst ae1
  unfold maxLen at am1
  obtain ⟨aA2, ac2, ae2, am2, -⟩ := ah2
  injection ae2 with ae2
  subst ae2
  unfold maxLen at am2
  obtain ⟨aA3, ac3, ae3, am3, -⟩ := ah3
  injection ae3 with ae3
  subst ae3
  unfold maxLen at am3
  have HDb := Lib.hid hb
  obtain ⟨bw0, bw1, bde, bh0, bh1⟩ := hb
  injection bde with bd0 bde
  injection bde with bd1 bde
  subst bd0 bd1
  clear bde
  obtain ⟨bA0, bc0, be0, bm0, -⟩ := bh0
  injection be0 with be0
  subst be0
  unfold maxLen at bm0
  obtain ⟨bA1, bc1, be1, bm1, -⟩ := bh1
  injection be1 with be1
  subst be1
  unfold maxLen at bm1
  obtain ⟨r0, hr0⟩ : ∃ r0, wsB za zb = r0 := ⟨_, rfl⟩
  have HR0 := Lib.hid hr0
  clear hr0
  have HW := Lib.hid (Below.refl w.heap.size w)
  go_enter Try.func8, Try.ntmps8
  go_wp2_with fail
  obtain ⟨V1, hV⟩ : ∃ V1, V1 = ((w.alloc (.cells #[.slice aA0 (za.1).length ac0, .slice aA1 (za.2.1).length ac1, .slice aA2 (za.2.2.1).length ac2, .slice aA3 (za.2.2.2).length ac3] 82)).alloc (.cells #[.slice bA0 (zb.1).length bc0, .slice bA1 (zb.2).length bc1] 83)) := ⟨_, rfl⟩
  rw [← hV]
  have gN := eqbox2 hV
  have aa0 : V1.cell? ⟨w.heap.size, 0, none⟩ = some (.slice aA0 (za.1).length ac0) := box_cell gN.1 0 _ rfl
  have aa1 : V1.cell? ⟨w.heap.size, 1, none⟩ = some (.slice aA1 (za.2.1).length ac1) := box_cell gN.1 1 _ rfl
  have aa2 : V1.cell? ⟨w.heap.size, 2, none⟩ = some (.slice aA2 (za.2.2.1).length ac2) := box_cell gN.1 2 _ rfl
  have aa3 : V1.cell? ⟨w.heap.size, 3, none⟩ = some (.slice aA3 (za.2.2.2).length ac3) := box_cell gN.1 3 _ rfl
  have ab0 : V1.cell? ⟨w.heap.size + 1, 0, none⟩ = some (.slice bA0 (zb.1).length bc0) := box_cell gN.2.1 0 _ rfl
  have ab1 : V1.cell? ⟨w.heap.size + 1, 1, none⟩ = some (.slice bA1 (zb.2).length bc1) := box_cell gN.2.1 1 _ rfl
  have t1 : V1.heap.size = w.heap.size + 2 := by rw [hV]; simp
  replace HW := Lib.hid (bThen HW.out gN.2.2)
  have s1 : w.heap.size ≤ V1.heap.size := (gN.2.2).size
  clear hV gN
  refine (szModule_post za [.slice aA0 (za.1).length ac0, .slice aA1 (za.2.1).length ac1, .slice aA2 (za.2.2.1).length ac2, .slice aA3 (za.2.2.2).length ac3] 1048576 _ (good_Module.below HDa.out (Nat.le_refl _) HW.out) HW.out.size (by omega) (by omega)).mono ?_
  rintro e w2 ⟨lfa, rfl, hrN, hbN⟩
  replace aa0 := keep hbN aa0
  replace aa1 := keep hbN aa1
  replace aa2 := keep hbN aa2
  replace aa3 := keep hbN aa3
  replace ab0 := keep hbN ab0
  replace ab1 := keep hbN ab1
  replace HW := Lib.hid (bThen HW.out hbN)
  have s2 : V1.heap.size ≤ w2.heap.size := (hbN).size
  clear hbN
  rcases hrN with rfl | ⟨pa, qa, sN⟩
  · go_wp2
    go_ret
    exact ⟨rfl, HW.out⟩
  have ta : ¬ lfa < 0 := by omega
  have HSa := Lib.hid sN
  clear sN
  go_wp2_with fail
  refine (szWordState_post zb [.slice bA0 (zb.1).length bc0, .slice bA1 (zb.2).length bc1] lfa _ (good_WordState.below HDb.out (Nat.le_refl _) HW.out) HW.out.size (by omega) (by omega)).mono ?_
  rintro e w3 ⟨lfb, rfl, hrN, hbN⟩
  replace aa0 := keep hbN aa0
  replace aa1 := keep hbN aa1
  replace aa2 := keep hbN aa2
  replace aa3 := keep hbN aa3
  replace ab0 := keep hbN ab0
  replace ab1 := keep hbN ab1
  replace HW := Lib.hid (bThen HW.out hbN)
  have s3 : w2.heap.size ≤ w3.heap.size := (hbN).size
  clear hbN
  rcases hrN with rfl | ⟨pb, qb, sN⟩
  · go_wp2
    go_ret
    exact ⟨rfl, HW.out⟩
  have tb : ¬ lfb < 0 := by omega
  have HSb := Lib.hid sN
  clear sN
  go_wp2_with fail
  have hS0 : (fun w' => Below w3.heap.size w3 w' ∧ w'.cell? ⟨w.heap.size, 0, none⟩ = some (.slice aA0 (za.1).length ac0) ∧ w'.cell? ⟨w.heap.size, 1, none⟩ = some (.slice aA1 (za.2.1).length ac1) ∧ w'.cell? ⟨w.heap.size, 2, none⟩ = some (.slice aA2 (za.2.2.1).length ac2) ∧ w'.cell? ⟨w.heap.size, 3, none⟩ = some (.slice aA3 (za.2.2.2).length ac3) ∧ w'.cell? ⟨w.heap.size + 1, 0, none⟩ = some (.slice bA0 (zb.1).length bc0) ∧ w'.cell? ⟨w.heap.size + 1, 1, none⟩ = some (.slice bA1 (zb.2).length bc1)) w3 := ⟨Below.refl _ _, aa0, aa1, aa2, aa3, ab0, ab1⟩
  have hS : ∀ {w0 w' : World}, (fun w' => Below w3.heap.size w3 w' ∧ w'.cell? ⟨w.heap.size, 0, none⟩ = some (.slice aA0 (za.1).length ac0) ∧ w'.cell? ⟨w.heap.size, 1, none⟩ = some (.slice aA1 (za.2.1).length ac1) ∧ w'.cell? ⟨w.heap.size, 2, none⟩ = some (.slice aA2 (za.2.2.1).length ac2) ∧ w'.cell? ⟨w.heap.size, 3, none⟩ = some (.slice aA3 (za.2.2.2).length ac3) ∧ w'.cell? ⟨w.heap.size + 1, 0, none⟩ = some (.slice bA0 (zb.1).length bc0) ∧ w'.cell? ⟨w.heap.size + 1, 1, none⟩ = some (.slice bA1 (zb.2).length bc1)) w0 → Below w0.heap.size w0 w' → (fun w' => Below w3.heap.size w3 w' ∧ w'.cell? ⟨w.heap.size, 0, none⟩ = some (.slice aA0 (za.1).length ac0) ∧ w'.cell? ⟨w.heap.size, 1, none⟩ = some (.slice aA1 (za.2.1).length ac1) ∧ w'.cell? ⟨w.heap.size, 2, none⟩ = some (.slice aA2 (za.2.2.1).length ac2) ∧ w'.cell? ⟨w.heap.size, 3, none⟩ = some (.slice aA3 (za.2.2.2).length ac3) ∧ w'.cell? ⟨w.heap.size + 1, 0, none⟩ = some (.slice bA0 (zb.1).length bc0) ∧ w'.cell? ⟨w.heap.size + 1, 1, none⟩ = some (.slice bA1 (zb.2).length bc1)) w' := fun h hb => ⟨bThen h.1 hb, keep hb h.2.1, keep hb h.2.2.1, keep hb h.2.2.2.1, keep hb h.2.2.2.2.1, keep hb h.2.2.2.2.2.1, keep hb h.2.2.2.2.2.2⟩
  dsimp only at hS0 hS
  refine wp_region_noPanic ?_
  refine wp_region_kept 5 6 (fun w' => Below w3.heap.size w3 w' ∧ w'.cell? ⟨w.heap.size, 0, none⟩ = some (.slice aA0 (za.1).length ac0) ∧ w'.cell? ⟨w.heap.size, 1, none⟩ = some (.slice aA1 (za.2.1).length ac1) ∧ w'.cell? ⟨w.heap.size, 2, none⟩ = some (.slice aA2 (za.2.2.1).length ac2) ∧ w'.cell? ⟨w.heap.size, 3, none⟩ = some (.slice aA3 (za.2.2.2).length ac3) ∧ w'.cell? ⟨w.heap.size + 1, 0, none⟩ = some (.slice bA0 (zb.1).length bc0) ∧ w'.cell? ⟨w.heap.size + 1, 1, none⟩ = some (.slice bA1 (zb.2).length bc1)) (by kernel_rfl) rfl (hS hS0 (Below.drew (Below.refl _ _))) (fun hK0 => ?_)
  refine Kept.take (v := ?vt3n0) 0 (by kernel_rfl) rfl (by kernel_rfl) (fun _ _ _ h => h) (Or.inl ⟨by rfl, ?hyt3n0⟩) hK0 ?restt3n0
  case hyt3n0 =>
    intro w0 hSw
    (try dsimp only at hSw)
    go_simp
    all_goals (with_reducible rfl)
  (try simp only [Act.put, List.setIfInBounds_toArray, List.set_cons_zero, List.set_cons_succ])
  refine Kept.take (v := ?vt3n2) 2 (by kernel_rfl) rfl (by kernel_rfl) (fun _ _ _ h => h) (Or.inl ⟨by rfl, ?hyt3n2⟩) hK0 ?restt3n2
  case hyt3n2 =>
    intro w0 hSw
    (try dsimp only at hSw)
    go_simp
    all_goals (with_reducible rfl)
  (try simp only [Act.put, List.setIfInBounds_toArray, List.set_cons_zero, List.set_cons_succ])
  refine Kept.one 1 (by kernel_rfl) rfl (fun K hK => ?_)
  go_simp
  go_at_call 44
  refine (toModule_any za [.slice aA0 (za.1).length ac0, .slice aA1 (za.2.1).length ac1, .slice aA2 (za.2.2.1).length ac2, .slice aA3 (za.2.2.2).length ac3] _ (good_Module.below HDa.out (Nat.le_refl _) (bThen HW.out hK0.1)) (bThen HW.out hK0.1).size HSa.out).mono ?_
  rintro e wr0 ⟨y0, rfl, hxN0, hbr0⟩
  have Hy0 := Lib.hid hxN0
  have Gy0 := Lib.hid (Below.refl wr0.heap.size wr0)
  obtain ⟨y0u0, y0u1, y0u2, y0u3, rfl, y0h0, y0h1, y0h2, y0h3⟩ := hxN0
  obtain ⟨y0A0, y0c0, y0e0, y0m0, -⟩ := y0h0
  injection y0e0 with y0e0
  subst y0e0
  unfold maxLen at y0m0
  obtain ⟨y0A1, y0c1, y0e1, y0m1, -⟩ := y0h1
  injection y0e1 with y0e1
  subst y0e1
  unfold maxLen at y0m1
  obtain ⟨y0A2, y0c2, y0e2, y0m2, -⟩ := y0h2
  injection y0e2 with y0e2
  subst y0e2
  unfold maxLen at y0m2
  obtain ⟨y0A3, y0c3, y0e3, y0m3, -⟩ := y0h3
  injection y0e3 with y0e3
  subst y0e3
  unfold maxLen at y0m3
  go_simp
  refine hK.out _ _ (hS hK0 hbr0) (fun hK1 => ?_)
  clear hK K hK0
  (try simp only [Act.put, List.setIfInBounds_toArray, List.set_cons_zero, List.set_cons_succ])
  refine Kept.one 3 (by kernel_rfl) rfl (fun K hK => ?_)
  go_simp
  go_at_call 45
  refine (toWordState_any zb [.slice bA0 (zb.1).length bc0, .slice bA1 (zb.2).length bc1] _ (good_WordState.below HDb.out (Nat.le_refl _) (bThen HW.out hK1.1)) (bThen HW.out hK1.1).size HSb.out).mono ?_
  rintro e wr1 ⟨y1, rfl, hxN1, hbr1⟩
  have Hy1 := Lib.hid hxN1
  have Gy1 := Lib.hid (Below.refl wr1.heap.size wr1)
  replace Gy0 := Lib.hid (bThen Gy0.out hbr1)
  obtain ⟨y1u0, y1u1, rfl, y1h0, y1h1⟩ := hxN1
  obtain ⟨y1A0, y1c0, y1e0, y1m0, -⟩ := y1h0
  injection y1e0 with y1e0
  subst y1e0
  unfold maxLen at y1m0
  obtain ⟨y1A1, y1c1, y1e1, y1m1, -⟩ := y1h1
  injection y1e1 with y1e1
  subst y1e1
  unfold maxLen at y1m1
  go_simp
  refine hK.out _ _ (hS hK1 hbr1) (fun hK2 => ?_)
  clear hK K hK1
  (try simp only [Act.put, List.setIfInBounds_toArray, List.set_cons_zero, List.set_cons_succ])
  refine Kept.one 4 (by kernel_rfl) rfl (fun K hK => ?_)
  go_simp
  go_at_call 43
  refine (specWs_at za zb _ _ _ (good_Module.wider (good_Module.below Hy0.out (Nat.le_refl _) Gy0.out) (Nat.zero_le _) Gy0.out.size) (good_WordState.wider (good_WordState.below Hy1.out (Nat.le_refl _) Gy1.out) (Nat.zero_le _) Gy1.out.size) HR0.out).mono ?_
  rintro e wr2 ⟨rfl, hbr2⟩
  go_simp
  refine hK.out _ _ (hS hK2 hbr2) (fun hK3 => ?_)
  clear hK K hK2
  (try simp only [Act.put, List.setIfInBounds_toArray, List.set_cons_zero, List.set_cons_succ])
  refine Kept.tail (by rfl) (by kernel_rfl) ?_
  simp only [List.drop_succ_cons, List.drop_zero]
  go_wp2
  refine NoPanic.normal ?_
  obtain ⟨W3r, hWr⟩ : ∃ W, W = wr2 := ⟨_, rfl⟩
  rw [← hWr] at hK3 ⊢
  clear hWr
  have hbN := hK3.1
  replace aa0 := keep hbN aa0
  replace aa1 := keep hbN aa1
  replace aa2 := keep hbN aa2
  replace aa3 := keep hbN aa3
  replace ab0 := keep hbN ab0
  replace ab1 := keep hbN ab1
  replace HW := Lib.hid (bThen HW.out hbN)
  have s4 : w3.heap.size ≤ W3r.heap.size := (hbN).size
  clear hbN hK3 hS0 hS
  clear Hy0 Gy0 Hy1 Gy1
  go_wp2_with fail
  refine (toModule_any za [.slice aA0 (za.1).length ac0, .slice aA1 (za.2.1).length ac1, .slice aA2 (za.2.2.1).length ac2, .slice aA3 (za.2.2.2).length ac3] _ (good_Module.below HDa.out (Nat.le_refl _) HW.out) HW.out.size HSa.out).mono ?_
  rintro e w5 ⟨x0, rfl, hxN, hbN⟩
  replace aa0 := keep hbN aa0
  replace aa1 := keep hbN aa1
  replace aa2 := keep hbN aa2
  replace aa3 := keep hbN aa3
  replace ab0 := keep hbN ab0
  replace ab1 := keep hbN ab1
  replace HW := Lib.hid (bThen HW.out hbN)
  have s5 : W3r.heap.size ≤ w5.heap.size := (hbN).size
  have Hx0 := Lib.hid hxN
  have Bx0 := Lib.hid (Below.refl w5.heap.size w5)
  obtain ⟨x0u0, x0u1, x0u2, x0u3, rfl, x0h0, x0h1, x0h2, x0h3⟩ := hxN
  obtain ⟨x0A0, x0c0, x0e0, x0m0, -⟩ := x0h0
  injection x0e0 with x0e0
  subst x0e0
  unfold maxLen at x0m0
  obtain ⟨x0A1, x0c1, x0e1, x0m1, -⟩ := x0h1
  injection x0e1 with x0e1
  subst x0e1
  unfold maxLen at x0m1
  obtain ⟨x0A2, x0c2, x0e2, x0m2, -⟩ := x0h2
  injection x0e2 with x0e2
  subst x0e2
  unfold maxLen at x0m2
  obtain ⟨x0A3, x0c3, x0e3, x0m3, -⟩ := x0h3
  injection x0e3 with x0e3
  subst x0e3
  unfold maxLen at x0m3
  clear hbN
  have ltaa0 : w.heap.size < w5.heap.size := World.block_lt_of_cell? _ _ aa0
  have ltab0 : w.heap.size + 1 < w5.heap.size := World.block_lt_of_cell? _ _ ab0
  go_wp2_with fail
  clear ltaa0 ltab0
  obtain ⟨V6, hV⟩ : ∃ V6, V6 = (w5.alloc (.cells #[.slice x0A0 (za.1).length x0c0, .slice x0A1 (za.2.1).length x0c1, .slice x0A2 (za.2.2.1).length x0c2, .slice x0A3 (za.2.2.2).length x0c3] 34)) := ⟨_, rfl⟩
  rw [← hV]
  have gN := eqbox1 hV
  have b00 : V6.cell? ⟨w5.heap.size, 0, none⟩ = some (.slice x0A0 (za.1).length x0c0) := box_cell gN.1 0 _ rfl
  have b01 : V6.cell? ⟨w5.heap.size, 1, none⟩ = some (.slice x0A1 (za.2.1).length x0c1) := box_cell gN.1 1 _ rfl
  have b02 : V6.cell? ⟨w5.heap.size, 2, none⟩ = some (.slice x0A2 (za.2.2.1).length x0c2) := box_cell gN.1 2 _ rfl
  have b03 : V6.cell? ⟨w5.heap.size, 3, none⟩ = some (.slice x0A3 (za.2.2.2).length x0c3) := box_cell gN.1 3 _ rfl
  have t6 : V6.heap.size = w5.heap.size + 1 := by rw [hV]; simp
  replace aa0 := keep gN.2 aa0
  replace aa1 := keep gN.2 aa1
  replace aa2 := keep gN.2 aa2
  replace aa3 := keep gN.2 aa3
  replace ab0 := keep gN.2 ab0
  replace ab1 := keep gN.2 ab1
  replace Bx0 := Lib.hid (bThen Bx0.out gN.2)
  replace HW := Lib.hid (bThen HW.out gN.2)
  have s6 : w5.heap.size ≤ V6.heap.size := (gN.2).size
  clear hV gN
  refine (toWordState_any zb [.slice bA0 (zb.1).length bc0, .slice bA1 (zb.2).length bc1] _ (good_WordState.below HDb.out (Nat.le_refl _) HW.out) HW.out.size HSb.out).mono ?_
  rintro e w7 ⟨x1, rfl, hxN, hbN⟩
  replace aa0 := keep hbN aa0
  replace aa1 := keep hbN aa1
  replace aa2 := keep hbN aa2
  replace aa3 := keep hbN aa3
  replace ab0 := keep hbN ab0
  replace ab1 := keep hbN ab1
  replace b00 := keep hbN b00
  replace b01 := keep hbN b01
  replace b02 := keep hbN b02
  replace b03 := keep hbN b03
  replace Bx0 := Lib.hid (bThen Bx0.out hbN)
  replace HW := Lib.hid (bThen HW.out hbN)
  have s7 : V6.heap.size ≤ w7.heap.size := (hbN).size
  have Hx1 := Lib.hid hxN
  have Bx1 := Lib.hid (Below.refl w7.heap.size w7)
  obtain ⟨x1u0, x1u1, rfl, x1h0, x1h1⟩ := hxN
  obtain ⟨x1A0, x1c0, x1e0, x1m0, -⟩ := x1h0
  injection x1e0 with x1e0
  subst x1e0
  unfold maxLen at x1m0
  obtain ⟨x1A1, x1c1, x1e1, x1m1, -⟩ := x1h1
  injection x1e1 with x1e1
  subst x1e1
  unfold maxLen at x1m1
  clear hbN
  have ltaa0 : w.heap.size < w7.heap.size := World.block_lt_of_cell? _ _ aa0
  have ltab0 : w.heap.size + 1 < w7.heap.size := World.block_lt_of_cell? _ _ ab0
  have ltb00 : w5.heap.size < w7.heap.size := World.block_lt_of_cell? _ _ b00
  go_wp2_with fail
  clear ltaa0 ltab0 ltb00
  obtain ⟨V8, hV⟩ : ∃ V8, V8 = (w7.alloc (.cells #[.slice x1A0 (zb.1).length x1c0, .slice x1A1 (zb.2).length x1c1] 48)) := ⟨_, rfl⟩
  rw [← hV]
  have gN := eqbox1 hV
  have b10 : V8.cell? ⟨w7.heap.size, 0, none⟩ = some (.slice x1A0 (zb.1).length x1c0) := box_cell gN.1 0 _ rfl
  have b11 : V8.cell? ⟨w7.heap.size, 1, none⟩ = some (.slice x1A1 (zb.2).length x1c1) := box_cell gN.1 1 _ rfl
  have t8 : V8.heap.size = w7.heap.size + 1 := by rw [hV]; simp
  replace aa0 := keep gN.2 aa0
  replace aa1 := keep gN.2 aa1
  replace aa2 := keep gN.2 aa2
  replace aa3 := keep gN.2 aa3
  replace ab0 := keep gN.2 ab0
  replace ab1 := keep gN.2 ab1
  replace b00 := keep gN.2 b00
  replace b01 := keep gN.2 b01
  replace b02 := keep gN.2 b02
  replace b03 := keep gN.2 b03
  replace Bx0 := Lib.hid (bThen Bx0.out gN.2)
  replace Bx1 := Lib.hid (bThen Bx1.out gN.2)
  replace HW := Lib.hid (bThen HW.out gN.2)
  have s8 : w7.heap.size ≤ V8.heap.size := (gN.2).size
  clear hV gN
  refine (implWs_at za zb _ _ _ (good_Module.wider (good_Module.below Hx0.out (Nat.le_refl _) Bx0.out) (Nat.zero_le _) Bx0.out.size) (good_WordState.wider (good_WordState.below Hx1.out (Nat.le_refl _) Bx1.out) (Nat.zero_le _) Bx1.out.size) HR0.out).mono ?_
  rintro e w9 ⟨rfl, hbN⟩
  replace aa0 := keep hbN aa0
  replace aa1 := keep hbN aa1
  replace aa2 := keep hbN aa2
  replace aa3 := keep hbN aa3
  replace ab0 := keep hbN ab0
  replace ab1 := keep hbN ab1
  replace b00 := keep hbN b00
  replace b01 := keep hbN b01
  replace b02 := keep hbN b02
  replace b03 := keep hbN b03
  replace b10 := keep hbN b10
  replace b11 := keep hbN b11
  replace Bx0 := Lib.hid (bThen Bx0.out hbN)
  replace Bx1 := Lib.hid (bThen Bx1.out hbN)
  replace HW := Lib.hid (bThen HW.out hbN)
  have s9 : V8.heap.size ≤ w9.heap.size := (hbN).size
  clear hbN
  go_wp2_with fail
  have hS0 : (fun w' => Below w9.heap.size w9 w' ∧ w'.cell? ⟨w.heap.size, 0, none⟩ = some (.slice aA0 (za.1).length ac0) ∧ w'.cell? ⟨w.heap.size, 1, none⟩ = some (.slice aA1 (za.2.1).length ac1) ∧ w'.cell? ⟨w.heap.size, 2, none⟩ = some (.slice aA2 (za.2.2.1).length ac2) ∧ w'.cell? ⟨w.heap.size, 3, none⟩ = some (.slice aA3 (za.2.2.2).length ac3) ∧ w'.cell? ⟨w.heap.size + 1, 0, none⟩ = some (.slice bA0 (zb.1).length bc0) ∧ w'.cell? ⟨w.heap.size + 1, 1, none⟩ = some (.slice bA1 (zb.2).length bc1) ∧ w'.cell? ⟨w5.heap.size, 0, none⟩ = some (.slice x0A0 (za.1).length x0c0) ∧ w'.cell? ⟨w5.heap.size, 1, none⟩ = some (.slice x0A1 (za.2.1).length x0c1) ∧ w'.cell? ⟨w5.heap.size, 2, none⟩ = some (.slice x0A2 (za.2.2.1).length x0c2) ∧ w'.cell? ⟨w5.heap.size, 3, none⟩ = some (.slice x0A3 (za.2.2.2).length x0c3) ∧ w'.cell? ⟨w7.heap.size, 0, none⟩ = some (.slice x1A0 (zb.1).length x1c0) ∧ w'.cell? ⟨w7.heap.size, 1, none⟩ = some (.slice x1A1 (zb.2).length x1c1)) w9 := ⟨Below.refl _ _, aa0, aa1, aa2, aa3, ab0, ab1, b00, b01, b02, b03, b10, b11⟩
  have hS : ∀ {w0 w' : World}, (fun w' => Below w9.heap.size w9 w' ∧ w'.cell? ⟨w.heap.size, 0, none⟩ = some (.slice aA0 (za.1).length ac0) ∧ w'.cell? ⟨w.heap.size, 1, none⟩ = some (.slice aA1 (za.2.1).length ac1) ∧ w'.cell? ⟨w.heap.size, 2, none⟩ = some (.slice aA2 (za.2.2.1).length ac2) ∧ w'.cell? ⟨w.heap.size, 3, none⟩ = some (.slice aA3 (za.2.2.2).length ac3) ∧ w'.cell? ⟨w.heap.size + 1, 0, none⟩ = some (.slice bA0 (zb.1).length bc0) ∧ w'.cell? ⟨w.heap.size + 1, 1, none⟩ = some (.slice bA1 (zb.2).length bc1) ∧ w'.cell? ⟨w5.heap.size, 0, none⟩ = some (.slice x0A0 (za.1).length x0c0) ∧ w'.cell? ⟨w5.heap.size, 1, none⟩ = some (.slice x0A1 (za.2.1).length x0c1) ∧ w'.cell? ⟨w5.heap.size, 2, none⟩ = some (.slice x0A2 (za.2.2.1).length x0c2) ∧ w'.cell? ⟨w5.heap.size, 3, none⟩ = some (.slice x0A3 (za.2.2.2).length x0c3) ∧ w'.cell? ⟨w7.heap.size, 0, none⟩ = some (.slice x1A0 (zb.1).length x1c0) ∧ w'.cell? ⟨w7.heap.size, 1, none⟩ = some (.slice x1A1 (zb.2).length x1c1)) w0 → Below w0.heap.size w0 w' → (fun w' => Below w9.heap.size w9 w' ∧ w'.cell? ⟨w.heap.size, 0, none⟩ = some (.slice aA0 (za.1).length ac0) ∧ w'.cell? ⟨w.heap.size, 1, none⟩ = some (.slice aA1 (za.2.1).length ac1) ∧ w'.cell? ⟨w.heap.size, 2, none⟩ = some (.slice aA2 (za.2.2.1).length ac2) ∧ w'.cell? ⟨w.heap.size, 3, none⟩ = some (.slice aA3 (za.2.2.2).length ac3) ∧ w'.cell? ⟨w.heap.size + 1, 0, none⟩ = some (.slice bA0 (zb.1).length bc0) ∧ w'.cell? ⟨w.heap.size + 1, 1, none⟩ = some (.slice bA1 (zb.2).length bc1) ∧ w'.cell? ⟨w5.heap.size, 0, none⟩ = some (.slice x0A0 (za.1).length x0c0) ∧ w'.cell? ⟨w5.heap.size, 1, none⟩ = some (.slice x0A1 (za.2.1).length x0c1) ∧ w'.cell? ⟨w5.heap.size, 2, none⟩ = some (.slice x0A2 (za.2.2.1).length x0c2) ∧ w'.cell? ⟨w5.heap.size, 3, none⟩ = some (.slice x0A3 (za.2.2.2).length x0c3) ∧ w'.cell? ⟨w7.heap.size, 0, none⟩ = some (.slice x1A0 (zb.1).length x1c0) ∧ w'.cell? ⟨w7.heap.size, 1, none⟩ = some (.slice x1A1 (zb.2).length x1c1)) w' := fun h hb => ⟨bThen h.1 hb, keep hb h.2.1, keep hb h.2.2.1, keep hb h.2.2.2.1, keep hb h.2.2.2.2.1, keep hb h.2.2.2.2.2.1, keep hb h.2.2.2.2.2.2.1, keep hb h.2.2.2.2.2.2.2.1, keep hb h.2.2.2.2.2.2.2.2.1, keep hb h.2.2.2.2.2.2.2.2.2.1, keep hb h.2.2.2.2.2.2.2.2.2.2.1, keep hb h.2.2.2.2.2.2.2.2.2.2.2.1, keep hb h.2.2.2.2.2.2.2.2.2.2.2.2⟩
  dsimp only at hS0 hS
  refine wp_region_noPanic ?_
  refine wp_region_kept 4 5 (fun w' => Below w9.heap.size w9 w' ∧ w'.cell? ⟨w.heap.size, 0, none⟩ = some (.slice aA0 (za.1).length ac0) ∧ w'.cell? ⟨w.heap.size, 1, none⟩ = some (.slice aA1 (za.2.1).length ac1) ∧ w'.cell? ⟨w.heap.size, 2, none⟩ = some (.slice aA2 (za.2.2.1).length ac2) ∧ w'.cell? ⟨w.heap.size, 3, none⟩ = some (.slice aA3 (za.2.2.2).length ac3) ∧ w'.cell? ⟨w.heap.size + 1, 0, none⟩ = some (.slice bA0 (zb.1).length bc0) ∧ w'.cell? ⟨w.heap.size + 1, 1, none⟩ = some (.slice bA1 (zb.2).length bc1) ∧ w'.cell? ⟨w5.heap.size, 0, none⟩ = some (.slice x0A0 (za.1).length x0c0) ∧ w'.cell? ⟨w5.heap.size, 1, none⟩ = some (.slice x0A1 (za.2.1).length x0c1) ∧ w'.cell? ⟨w5.heap.size, 2, none⟩ = some (.slice x0A2 (za.2.2.1).length x0c2) ∧ w'.cell? ⟨w5.heap.size, 3, none⟩ = some (.slice x0A3 (za.2.2.2).length x0c3) ∧ w'.cell? ⟨w7.heap.size, 0, none⟩ = some (.slice x1A0 (zb.1).length x1c0) ∧ w'.cell? ⟨w7.heap.size, 1, none⟩ = some (.slice x1A1 (zb.2).length x1c1)) (by kernel_rfl) rfl (hS hS0 (Below.drew (Below.refl _ _))) (fun hK0 => ?_)
  refine Kept.take (v := ?vt9n0) 0 (by kernel_rfl) rfl (by kernel_rfl) (fun _ _ _ h => h) (Or.inl ⟨by rfl, ?hyt9n0⟩) hK0 ?restt9n0
  case hyt9n0 =>
    intro w0 hSw
    (try dsimp only at hSw)
    go_simp
    all_goals (with_reducible rfl)
  (try simp only [Act.put, List.setIfInBounds_toArray, List.set_cons_zero, List.set_cons_succ])
  refine Kept.take (v := ?vt9n1) 1 (by kernel_rfl) rfl (by kernel_rfl) (fun _ _ _ h => h) (Or.inl ⟨by rfl, ?hyt9n1⟩) hK0 ?restt9n1
  case hyt9n1 =>
    intro w0 hSw
    (try dsimp only at hSw)
    go_simp
    all_goals (with_reducible rfl)
  (try simp only [Act.put, List.setIfInBounds_toArray, List.set_cons_zero, List.set_cons_succ])
  refine Kept.one 2 (by kernel_rfl) rfl (fun K hK => ?_)
  go_simp
  go_at_call 44
  refine (toModule_any za [.slice aA0 (za.1).length ac0, .slice aA1 (za.2.1).length ac1, .slice aA2 (za.2.2.1).length ac2, .slice aA3 (za.2.2.2).length ac3] _ (good_Module.below HDa.out (Nat.le_refl _) (bThen HW.out hK0.1)) (bThen HW.out hK0.1).size HSa.out).mono ?_
  rintro e wr0 ⟨v0, rfl, hxN, hbr0⟩
  have Hv0 := Lib.hid hxN
  obtain ⟨v0u0, v0u1, v0u2, v0u3, rfl, v0h0, v0h1, v0h2, v0h3⟩ := hxN
  obtain ⟨v0A0, v0c0, v0e0, v0m0, -⟩ := v0h0
  injection v0e0 with v0e0
  subst v0e0
  unfold maxLen at v0m0
  obtain ⟨v0A1, v0c1, v0e1, v0m1, -⟩ := v0h1
  injection v0e1 with v0e1
  subst v0e1
  unfold maxLen at v0m1
  obtain ⟨v0A2, v0c2, v0e2, v0m2, -⟩ := v0h2
  injection v0e2 with v0e2
  subst v0e2
  unfold maxLen at v0m2
  obtain ⟨v0A3, v0c3, v0e3, v0m3, -⟩ := v0h3
  injection v0e3 with v0e3
  subst v0e3
  unfold maxLen at v0m3
  go_simp
  refine hK.out _ _ (hS hK0 hbr0) (fun hK1 => ?_)
  clear hK K hK0
  (try simp only [Act.put, List.setIfInBounds_toArray, List.set_cons_zero, List.set_cons_succ])
  refine Kept.one 3 (by kernel_rfl) rfl (fun K hK => ?_)
  go_simp
  go_at_call 46
  refine (eqModule_any za [.slice x0A0 (za.1).length x0c0, .slice x0A1 (za.2.1).length x0c1, .slice x0A2 (za.2.2.1).length x0c2, .slice x0A3 (za.2.2.2).length x0c3] [.slice v0A0 (za.1).length v0c0, .slice v0A1 (za.2.1).length v0c1, .slice v0A2 (za.2.2.1).length v0c2, .slice v0A3 (za.2.2.2).length v0c3] _ (good_Module.below Hx0.out (Nat.le_refl _) (bThen Bx0.out hK1.1)) Hv0.out (bThen Bx0.out hK1.1).size (Nat.le_refl _)).mono ?_
  rintro e wr1 ⟨rfl, hbr1⟩
  go_simp
  refine hK.out _ _ (hS hK1 hbr1) (fun hK2 => ?_)
  clear hK K hK1
  (try simp only [Act.put, List.setIfInBounds_toArray, List.set_cons_zero, List.set_cons_succ])
  refine Kept.tail (by rfl) (by kernel_rfl) ?_
  simp only [List.drop_succ_cons, List.drop_zero]
  go_wp2
  refine NoPanic.normal ?_
  obtain ⟨W9r, hWr⟩ : ∃ W, W = wr1 := ⟨_, rfl⟩
  rw [← hWr] at hK2 ⊢
  clear hWr
  have hbN := hK2.1
  replace aa0 := keep hbN aa0
  replace aa1 := keep hbN aa1
  replace aa2 := keep hbN aa2
  replace aa3 := keep hbN aa3
  replace ab0 := keep hbN ab0
  replace ab1 := keep hbN ab1
  replace b00 := keep hbN b00
  replace b01 := keep hbN b01
  replace b02 := keep hbN b02
  replace b03 := keep hbN b03
  replace b10 := keep hbN b10
  replace b11 := keep hbN b11
  replace Bx0 := Lib.hid (bThen Bx0.out hbN)
  replace Bx1 := Lib.hid (bThen Bx1.out hbN)
  replace HW := Lib.hid (bThen HW.out hbN)
  have s10 : w9.heap.size ≤ W9r.heap.size := (hbN).size
  clear hbN hK2 hS0 hS
  clear Hv0
  go_wp2_with fail
  have hS0 : (fun w' => Below W9r.heap.size W9r w' ∧ w'.cell? ⟨w.heap.size, 0, none⟩ = some (.slice aA0 (za.1).length ac0) ∧ w'.cell? ⟨w.heap.size, 1, none⟩ = some (.slice aA1 (za.2.1).length ac1) ∧ w'.cell? ⟨w.heap.size, 2, none⟩ = some (.slice aA2 (za.2.2.1).length ac2) ∧ w'.cell? ⟨w.heap.size, 3, none⟩ = some (.slice aA3 (za.2.2.2).length ac3) ∧ w'.cell? ⟨w.heap.size + 1, 0, none⟩ = some (.slice bA0 (zb.1).length bc0) ∧ w'.cell? ⟨w.heap.size + 1, 1, none⟩ = some (.slice bA1 (zb.2).length bc1) ∧ w'.cell? ⟨w5.heap.size, 0, none⟩ = some (.slice x0A0 (za.1).length x0c0) ∧ w'.cell? ⟨w5.heap.size, 1, none⟩ = some (.slice x0A1 (za.2.1).length x0c1) ∧ w'.cell? ⟨w5.heap.size, 2, none⟩ = some (.slice x0A2 (za.2.2.1).length x0c2) ∧ w'.cell? ⟨w5.heap.size, 3, none⟩ = some (.slice x0A3 (za.2.2.2).length x0c3) ∧ w'.cell? ⟨w7.heap.size, 0, none⟩ = some (.slice x1A0 (zb.1).length x1c0) ∧ w'.cell? ⟨w7.heap.size, 1, none⟩ = some (.slice x1A1 (zb.2).length x1c1)) W9r := ⟨Below.refl _ _, aa0, aa1, aa2, aa3, ab0, ab1, b00, b01, b02, b03, b10, b11⟩
  have hS : ∀ {w0 w' : World}, (fun w' => Below W9r.heap.size W9r w' ∧ w'.cell? ⟨w.heap.size, 0, none⟩ = some (.slice aA0 (za.1).length ac0) ∧ w'.cell? ⟨w.heap.size, 1, none⟩ = some (.slice aA1 (za.2.1).length ac1) ∧ w'.cell? ⟨w.heap.size, 2, none⟩ = some (.slice aA2 (za.2.2.1).length ac2) ∧ w'.cell? ⟨w.heap.size, 3, none⟩ = some (.slice aA3 (za.2.2.2).length ac3) ∧ w'.cell? ⟨w.heap.size + 1, 0, none⟩ = some (.slice bA0 (zb.1).length bc0) ∧ w'.cell? ⟨w.heap.size + 1, 1, none⟩ = some (.slice bA1 (zb.2).length bc1) ∧ w'.cell? ⟨w5.heap.size, 0, none⟩ = some (.slice x0A0 (za.1).length x0c0) ∧ w'.cell? ⟨w5.heap.size, 1, none⟩ = some (.slice x0A1 (za.2.1).length x0c1) ∧ w'.cell? ⟨w5.heap.size, 2, none⟩ = some (.slice x0A2 (za.2.2.1).length x0c2) ∧ w'.cell? ⟨w5.heap.size, 3, none⟩ = some (.slice x0A3 (za.2.2.2).length x0c3) ∧ w'.cell? ⟨w7.heap.size, 0, none⟩ = some (.slice x1A0 (zb.1).length x1c0) ∧ w'.cell? ⟨w7.heap.size, 1, none⟩ = some (.slice x1A1 (zb.2).length x1c1)) w0 → Below w0.heap.size w0 w' → (fun w' => Below W9r.heap.size W9r w' ∧ w'.cell? ⟨w.heap.size, 0, none⟩ = some (.slice aA0 (za.1).length ac0) ∧ w'.cell? ⟨w.heap.size, 1, none⟩ = some (.slice aA1 (za.2.1).length ac1) ∧ w'.cell? ⟨w.heap.size, 2, none⟩ = some (.slice aA2 (za.2.2.1).length ac2) ∧ w'.cell? ⟨w.heap.size, 3, none⟩ = some (.slice aA3 (za.2.2.2).length ac3) ∧ w'.cell? ⟨w.heap.size + 1, 0, none⟩ = some (.slice bA0 (zb.1).length bc0) ∧ w'.cell? ⟨w.heap.size + 1, 1, none⟩ = some (.slice bA1 (zb.2).length bc1) ∧ w'.cell? ⟨w5.heap.size, 0, none⟩ = some (.slice x0A0 (za.1).length x0c0) ∧ w'.cell? ⟨w5.heap.size, 1, none⟩ = some (.slice x0A1 (za.2.1).length x0c1) ∧ w'.cell? ⟨w5.heap.size, 2, none⟩ = some (.slice x0A2 (za.2.2.1).length x0c2) ∧ w'.cell? ⟨w5.heap.size, 3, none⟩ = some (.slice x0A3 (za.2.2.2).length x0c3) ∧ w'.cell? ⟨w7.heap.size, 0, none⟩ = some (.slice x1A0 (zb.1).length x1c0) ∧ w'.cell? ⟨w7.heap.size, 1, none⟩ = some (.slice x1A1 (zb.2).length x1c1)) w' := fun h hb => ⟨bThen h.1 hb, keep hb h.2.1, keep hb h.2.2.1, keep hb h.2.2.2.1, keep hb h.2.2.2.2.1, keep hb h.2.2.2.2.2.1, keep hb h.2.2.2.2.2.2.1, keep hb h.2.2.2.2.2.2.2.1, keep hb h.2.2.2.2.2.2.2.2.1, keep hb h.2.2.2.2.2.2.2.2.2.1, keep hb h.2.2.2.2.2.2.2.2.2.2.1, keep hb h.2.2.2.2.2.2.2.2.2.2.2.1, keep hb h.2.2.2.2.2.2.2.2.2.2.2.2⟩
  dsimp only at hS0 hS
  refine wp_region_noPanic ?_
  refine wp_region_kept 4 5 (fun w' => Below W9r.heap.size W9r w' ∧ w'.cell? ⟨w.heap.size, 0, none⟩ = some (.slice aA0 (za.1).length ac0) ∧ w'.cell? ⟨w.heap.size, 1, none⟩ = some (.slice aA1 (za.2.1).length ac1) ∧ w'.cell? ⟨w.heap.size, 2, none⟩ = some (.slice aA2 (za.2.2.1).length ac2) ∧ w'.cell? ⟨w.heap.size, 3, none⟩ = some (.slice aA3 (za.2.2.2).length ac3) ∧ w'.cell? ⟨w.heap.size + 1, 0, none⟩ = some (.slice bA0 (zb.1).length bc0) ∧ w'.cell? ⟨w.heap.size + 1, 1, none⟩ = some (.slice bA1 (zb.2).length bc1) ∧ w'.cell? ⟨w5.heap.size, 0, none⟩ = some (.slice x0A0 (za.1).length x0c0) ∧ w'.cell? ⟨w5.heap.size, 1, none⟩ = some (.slice x0A1 (za.2.1).length x0c1) ∧ w'.cell? ⟨w5.heap.size, 2, none⟩ = some (.slice x0A2 (za.2.2.1).length x0c2) ∧ w'.cell? ⟨w5.heap.size, 3, none⟩ = some (.slice x0A3 (za.2.2.2).length x0c3) ∧ w'.cell? ⟨w7.heap.size, 0, none⟩ = some (.slice x1A0 (zb.1).length x1c0) ∧ w'.cell? ⟨w7.heap.size, 1, none⟩ = some (.slice x1A1 (zb.2).length x1c1)) (by kernel_rfl) rfl (hS hS0 (Below.drew (Below.refl _ _))) (fun hK0 => ?_)
  refine Kept.take (v := ?vt10n0) 0 (by kernel_rfl) rfl (by kernel_rfl) (fun _ _ _ h => h) (Or.inl ⟨by rfl, ?hyt10n0⟩) hK0 ?restt10n0
  case hyt10n0 =>
    intro w0 hSw
    (try dsimp only at hSw)
    go_simp
    all_goals (with_reducible rfl)
  (try simp only [Act.put, List.setIfInBounds_toArray, List.set_cons_zero, List.set_cons_succ])
  refine Kept.take (v := ?vt10n1) 1 (by kernel_rfl) rfl (by kernel_rfl) (fun _ _ _ h => h) (Or.inl ⟨by rfl, ?hyt10n1⟩) hK0 ?restt10n1
  case hyt10n1 =>
    intro w0 hSw
    (try dsimp only at hSw)
    go_simp
    all_goals (with_reducible rfl)
  (try simp only [Act.put, List.setIfInBounds_toArray, List.set_cons_zero, List.set_cons_succ])
  refine Kept.one 2 (by kernel_rfl) rfl (fun K hK => ?_)
  go_simp
  go_at_call 45
  refine (toWordState_any zb [.slice bA0 (zb.1).length bc0, .slice bA1 (zb.2).length bc1] _ (good_WordState.below HDb.out (Nat.le_refl _) (bThen HW.out hK0.1)) (bThen HW.out hK0.1).size HSb.out).mono ?_
  rintro e wr0 ⟨v1, rfl, hxN, hbr0⟩
  have Hv1 := Lib.hid hxN
  obtain ⟨v1u0, v1u1, rfl, v1h0, v1h1⟩ := hxN
  obtain ⟨v1A0, v1c0, v1e0, v1m0, -⟩ := v1h0
  injection v1e0 with v1e0
  subst v1e0
  unfold maxLen at v1m0
  obtain ⟨v1A1, v1c1, v1e1, v1m1, -⟩ := v1h1
  injection v1e1 with v1e1
  subst v1e1
  unfold maxLen at v1m1
  go_simp
  refine hK.out _ _ (hS hK0 hbr0) (fun hK1 => ?_)
  clear hK K hK0
  (try simp only [Act.put, List.setIfInBounds_toArray, List.set_cons_zero, List.set_cons_succ])
  refine Kept.one 3 (by kernel_rfl) rfl (fun K hK => ?_)
  go_simp
  go_at_call 47
  refine (eqWordState_any zb [.slice x1A0 (zb.1).length x1c0, .slice x1A1 (zb.2).length x1c1] [.slice v1A0 (zb.1).length v1c0, .slice v1A1 (zb.2).length v1c1] _ (good_WordState.below Hx1.out (Nat.le_refl _) (bThen Bx1.out hK1.1)) Hv1.out (bThen Bx1.out hK1.1).size (Nat.le_refl _)).mono ?_
  rintro e wr1 ⟨rfl, hbr1⟩
  go_simp
  refine hK.out _ _ (hS hK1 hbr1) (fun hK2 => ?_)
  clear hK K hK1
  (try simp only [Act.put, List.setIfInBounds_toArray, List.set_cons_zero, List.set_cons_succ])
  refine Kept.tail (by rfl) (by kernel_rfl) ?_
  simp only [List.drop_succ_cons, List.drop_zero]
  go_wp2
  refine NoPanic.normal ?_
  obtain ⟨W10r, hWr⟩ : ∃ W, W = wr1 := ⟨_, rfl⟩
  rw [← hWr] at hK2 ⊢
  clear hWr
  have hbN := hK2.1
  replace aa0 := keep hbN aa0
  replace aa1 := keep hbN aa1
  replace aa2 := keep hbN aa2
  replace aa3 := keep hbN aa3
  replace ab0 := keep hbN ab0
  replace ab1 := keep hbN ab1
  replace b00 := keep hbN b00
  replace b01 := keep hbN b01
  replace b02 := keep hbN b02
  replace b03 := keep hbN b03
  replace b10 := keep hbN b10
  replace b11 := keep hbN b11
  replace Bx0 := Lib.hid (bThen Bx0.out hbN)
  replace Bx1 := Lib.hid (bThen Bx1.out hbN)
  replace HW := Lib.hid (bThen HW.out hbN)
  have s11 : W9r.heap.size ≤ W10r.heap.size := (hbN).size
  clear hbN hK2 hS0 hS
  clear Hv1
  go_wp2
  go_ret
  exact ⟨rfl, HW.out⟩
end Go.Proofs.Ytmjofpfkgbnknaa
