/-
  The walk of the exact law over FlatStart.
-/
import Derived.Test.YtmjofpfkgbnknaaDmAll
import Derived.Test.YtmjofpfkgbnknaaDzAll
import Derived.Test.YtmjofpfkgbnknaaWsAll
import Derived.Test.YtmjofpfkgbnknaaStAll
import Derived.Test.YtmjofpfkgbnknaaKept
import Derived.Deep.RegionHeld3
namespace Go.Proofs.Ytmjofpfkgbnknaa
open Go.RowKit
set_option linter.unusedVariables false
set_option linter.unusedSimpArgs false
theorem below_sims {B T N : Nat} {a w1 w2 : World} (hb : Below N a w1) (h : Sims B T w1 w2) (hN : N ≤ B ∧ N ≤ w1.heap.size) : Below N a w2 :=
  ⟨h.os.trans hb.os, h.tape.trans hb.tape, h.output.trans hb.output, Nat.le_trans hb.size h.size, fun k hk => (h.block k (Nat.lt_of_lt_of_le hk hN.2) (.inl (Nat.lt_of_lt_of_le hk hN.1))).trans (hb.block k hk)⟩
theorem below_chg {bs : List Nat} {N : Nat} {a w1 w2 : World} (hb : Below N a w1) (h : ChgL bs w1 w2) (hN : ∀ b ∈ bs, N ≤ b) (hs : N ≤ w1.heap.size := by omega) : Below N a w2 :=
  ⟨h.os.trans hb.os, h.tape.trans hb.tape, h.output.trans hb.output, Nat.le_trans hb.size h.size, fun k hk => (h.block k (Nat.lt_of_lt_of_le hk hs) (fun hm => by have := hN k hm; omega)).trans (hb.block k hk)⟩

theorem startO_len (m : DModule) (h : flatB m = true) : (startO m).1.length ≤ 30 ∧ (startO m).2.length ≤ 8 := by
  have hP := flatP_of h
  have h0 := hP.mod.l0
  have h3 := hP.mod.l3
  rw [start_yes h]
  simp [startV]
  omega
theorem startO_bnd (m : DModule) : (startO m).1.length ≤ 30 ∧ (startO m).2.length ≤ 8 := by
  cases h : flatB m with
  | true => exact startO_len m h
  | false => rw [start_no h]; simp

set_option maxRecDepth 100000 in
set_option maxHeartbeats 25600000 in
theorem exactStart_walk (av0 av1 av2 av3 : Value) (za : DModule) (w : World) (ha : rdModule 0 w.heap.size w [av0, av1, av2, av3] za) :
    Calls Try.prog 9 #[.agg #[av0, av1, av2, av3]] w fun e w' => e = .returned (.bool true) ∧ Below w.heap.size w w' := by
  have HDa := Lib.hid ha
  obtain ⟨aw0, aw1, aw2, aw3, ade, ah0, ah1, ah2, ah3⟩ := ha
  injection ade with ad0 ade
  injection ade with ad1 ade
  injection ade with ad2 ade
  injection ade with ad3 ade
  subst ad0 ad1 ad2 ad3
  clear ade
  obtain ⟨aA0, ac0, ae0, am0, -⟩ := ah0
  injection ae0 with ae0
  subst ae0
  unfold maxLen at am0
  obtain ⟨aA1, ac1, ae1, am1, -⟩ := ah1
  injection ae1 with ae1
  subst ae1
  unfold maxLen at am1
  obtain ⟨aA2, ac2, ae2, am2, -⟩ := ah2
  injection ae2 with ae2
  subst ae2
  unfold maxLen at am2
  obtain ⟨aA3, ac3, ae3, am3, -⟩ := ah3
  injection ae3 with ae3
  subst ae3
  unfold maxLen at am3
  obtain ⟨r0, hr0⟩ : ∃ r0, startO za = r0 := ⟨_, rfl⟩
  have HR0 := Lib.hid hr0
  have HBD := Lib.hid (show r0.1.length ≤ 30 ∧ r0.2.length ≤ 8 by rw [← hr0]; exact startO_bnd za)
  clear hr0
  have HW := Lib.hid (Below.refl w.heap.size w)
  go_enter Try.func9, Try.ntmps9
  go_wp2_with fail
  obtain ⟨V1, hV⟩ : ∃ V1, V1 = (w.alloc (.cells #[.slice aA0 (za.1).length ac0, .slice aA1 (za.2.1).length ac1, .slice aA2 (za.2.2.1).length ac2, .slice aA3 (za.2.2.2).length ac3] 82)) := ⟨_, rfl⟩
  rw [← hV]
  have gN := eqbox1 hV
  have aa0 : V1.cell? ⟨w.heap.size, 0, none⟩ = some (.slice aA0 (za.1).length ac0) := box_cell gN.1 0 _ rfl
  have aa1 : V1.cell? ⟨w.heap.size, 1, none⟩ = some (.slice aA1 (za.2.1).length ac1) := box_cell gN.1 1 _ rfl
  have aa2 : V1.cell? ⟨w.heap.size, 2, none⟩ = some (.slice aA2 (za.2.2.1).length ac2) := box_cell gN.1 2 _ rfl
  have aa3 : V1.cell? ⟨w.heap.size, 3, none⟩ = some (.slice aA3 (za.2.2.2).length ac3) := box_cell gN.1 3 _ rfl
  have t1 : V1.heap.size = w.heap.size + 1 := by rw [hV]; simp
  replace HW := Lib.hid (bThen HW.out gN.2)
  have s1 : w.heap.size ≤ V1.heap.size := (gN.2).size
  clear hV gN
  refine (szModule_post za [.slice aA0 (za.1).length ac0, .slice aA1 (za.2.1).length ac1, .slice aA2 (za.2.2.1).length ac2, .slice aA3 (za.2.2.2).length ac3] 1048576 _ (good_Module.below HDa.out (Nat.le_refl _) HW.out) HW.out.size (by omega) (by omega)).mono ?_
  rintro e w2 ⟨lfa, rfl, hrN, hbN⟩
  replace aa0 := keep hbN aa0
  replace aa1 := keep hbN aa1
  replace aa2 := keep hbN aa2
  replace aa3 := keep hbN aa3
  replace HW := Lib.hid (bThen HW.out hbN)
  have s2 : V1.heap.size ≤ w2.heap.size := (hbN).size
  clear hbN
  rcases hrN with rfl | ⟨pa, qa, sN⟩
  · go_wp2
    go_ret
    exact ⟨rfl, HW.out⟩
  have ta : ¬ lfa < 0 := by omega
  have HSa := Lib.hid sN
  clear sN
  go_wp2_with fail
  refine (toModule_any za [.slice aA0 (za.1).length ac0, .slice aA1 (za.2.1).length ac1, .slice aA2 (za.2.2.1).length ac2, .slice aA3 (za.2.2.2).length ac3] _ (good_Module.below HDa.out (Nat.le_refl _) HW.out) HW.out.size HSa.out).mono ?_
  rintro e w3 ⟨y0, rfl, hxN, hbN⟩
  replace aa0 := keep hbN aa0
  replace aa1 := keep hbN aa1
  replace aa2 := keep hbN aa2
  replace aa3 := keep hbN aa3
  replace HW := Lib.hid (bThen HW.out hbN)
  have s3 : w2.heap.size ≤ w3.heap.size := (hbN).size
  have Hy0 := Lib.hid hxN
  have By0 := Lib.hid (Below.refl w3.heap.size w3)
  obtain ⟨y0u0, y0u1, y0u2, y0u3, rfl, y0h0, y0h1, y0h2, y0h3⟩ := hxN
  obtain ⟨y0A0, y0c0, y0e0, y0m0, -⟩ := y0h0
  injection y0e0 with y0e0
  subst y0e0
  unfold maxLen at y0m0
  obtain ⟨y0A1, y0c1, y0e1, y0m1, -⟩ := y0h1
  injection y0e1 with y0e1
  subst y0e1
  unfold maxLen at y0m1
  obtain ⟨y0A2, y0c2, y0e2, y0m2, -⟩ := y0h2
  injection y0e2 with y0e2
  subst y0e2
  unfold maxLen at y0m2
  obtain ⟨y0A3, y0c3, y0e3, y0m3, -⟩ := y0h3
  injection y0e3 with y0e3
  subst y0e3
  unfold maxLen at y0m3
  clear hbN
  go_wp2_with fail
  refine (specFlatStart_at za _ _ (good_Module.wider (good_Module.below Hy0.out (Nat.le_refl _) By0.out) (Nat.zero_le _) By0.out.size) HR0.out).mono ?_
  rintro e w4 ⟨s0v, s0bs, rfl, oN, ndN, bsN, hbN⟩
  replace aa0 := keep hbN aa0
  replace aa1 := keep hbN aa1
  replace aa2 := keep hbN aa2
  replace aa3 := keep hbN aa3
  replace By0 := Lib.hid (bThen By0.out hbN)
  replace HW := Lib.hid (bThen HW.out hbN)
  have s4 : w3.heap.size ≤ w4.heap.size := (hbN).size
  have rdN := rds_WordState _ _ _ _ _ _ oN bsN
  have Hs0 := Lib.hid rdN
  have Bs0 := Lib.hid (Below.refl w4.heap.size w4)
  clear oN ndN bsN hbN
  obtain ⟨s0u0, s0u1, rfl, s0h0, s0h1⟩ := rdN
  obtain ⟨s0A0, s0c0, s0e0, s0m0, -⟩ := s0h0
  injection s0e0 with s0e0
  subst s0e0
  unfold maxLen at s0m0
  obtain ⟨s0A1, s0c1, s0e1, s0m1, -⟩ := s0h1
  injection s0e1 with s0e1
  subst s0e1
  unfold maxLen at s0m1
  clear Hy0 By0
  have ltaa0 : w.heap.size < w4.heap.size := World.block_lt_of_cell? _ _ aa0
  go_wp2_with fail
  clear ltaa0
  obtain ⟨V5, hV⟩ : ∃ V5, V5 = (w4.alloc (.cells #[.slice s0A0 (r0.1).length s0c0, .slice s0A1 (r0.2).length s0c1] 48)) := ⟨_, rfl⟩
  rw [← hV]
  have gN := eqbox1 hV
  have e00 : V5.cell? ⟨w4.heap.size, 0, none⟩ = some (.slice s0A0 (r0.1).length s0c0) := box_cell gN.1 0 _ rfl
  have e01 : V5.cell? ⟨w4.heap.size, 1, none⟩ = some (.slice s0A1 (r0.2).length s0c1) := box_cell gN.1 1 _ rfl
  have t5 : V5.heap.size = w4.heap.size + 1 := by rw [hV]; simp
  replace aa0 := keep gN.2 aa0
  replace aa1 := keep gN.2 aa1
  replace aa2 := keep gN.2 aa2
  replace aa3 := keep gN.2 aa3
  replace Bs0 := Lib.hid (bThen Bs0.out gN.2)
  replace HW := Lib.hid (bThen HW.out gN.2)
  have s5 : w4.heap.size ≤ V5.heap.size := (gN.2).size
  clear hV gN
  refine (toModule_w za [.slice aA0 (za.1).length ac0, .slice aA1 (za.2.1).length ac1, .slice aA2 (za.2.2.1).length ac2, .slice aA3 (za.2.2.2).length ac3] _ (good_Module.below HDa.out (Nat.le_refl _) HW.out) HW.out.size HSa.out).mono ?_
  rintro e w6 ⟨x0, rfl, hxN, hbN⟩
  replace aa0 := keep hbN aa0
  replace aa1 := keep hbN aa1
  replace aa2 := keep hbN aa2
  replace aa3 := keep hbN aa3
  replace e00 := keep hbN e00
  replace e01 := keep hbN e01
  replace Bs0 := Lib.hid (bThen Bs0.out hbN)
  replace HW := Lib.hid (bThen HW.out hbN)
  have s6 : V5.heap.size ≤ w6.heap.size := (hbN).size
  have Hx0 := Lib.hid hxN
  have Bx0 := Lib.hid (Below.refl w6.heap.size w6)
  obtain ⟨x0u0, x0u1, x0u2, x0u3, rfl, x0h0, x0h1, x0h2, x0h3⟩ := hxN
  obtain ⟨x0A0, x0c0, x0e0, x0m0, -⟩ := x0h0
  injection x0e0 with x0e0
  subst x0e0
  unfold maxLen at x0m0
  obtain ⟨x0A1, x0c1, x0e1, x0m1, -⟩ := x0h1
  injection x0e1 with x0e1
  subst x0e1
  unfold maxLen at x0m1
  obtain ⟨x0A2, x0c2, x0e2, x0m2, -⟩ := x0h2
  injection x0e2 with x0e2
  subst x0e2
  unfold maxLen at x0m2
  obtain ⟨x0A3, x0c3, x0e3, x0m3, -⟩ := x0h3
  injection x0e3 with x0e3
  subst x0e3
  unfold maxLen at x0m3
  clear hbN
  have ltaa0 : w.heap.size < w6.heap.size := World.block_lt_of_cell? _ _ aa0
  have lte00 : w4.heap.size < w6.heap.size := World.block_lt_of_cell? _ _ e00
  go_wp2_with fail
  clear ltaa0 lte00
  obtain ⟨V7, hV⟩ : ∃ V7, V7 = (w6.alloc (.cells #[.slice x0A0 (za.1).length x0c0, .slice x0A1 (za.2.1).length x0c1, .slice x0A2 (za.2.2.1).length x0c2, .slice x0A3 (za.2.2.2).length x0c3] 34)) := ⟨_, rfl⟩
  rw [← hV]
  have gN := eqbox1 hV
  have b00 : V7.cell? ⟨w6.heap.size, 0, none⟩ = some (.slice x0A0 (za.1).length x0c0) := box_cell gN.1 0 _ rfl
  have b01 : V7.cell? ⟨w6.heap.size, 1, none⟩ = some (.slice x0A1 (za.2.1).length x0c1) := box_cell gN.1 1 _ rfl
  have b02 : V7.cell? ⟨w6.heap.size, 2, none⟩ = some (.slice x0A2 (za.2.2.1).length x0c2) := box_cell gN.1 2 _ rfl
  have b03 : V7.cell? ⟨w6.heap.size, 3, none⟩ = some (.slice x0A3 (za.2.2.2).length x0c3) := box_cell gN.1 3 _ rfl
  have t7 : V7.heap.size = w6.heap.size + 1 := by rw [hV]; simp
  replace aa0 := keep gN.2 aa0
  replace aa1 := keep gN.2 aa1
  replace aa2 := keep gN.2 aa2
  replace aa3 := keep gN.2 aa3
  replace e00 := keep gN.2 e00
  replace e01 := keep gN.2 e01
  replace Bs0 := Lib.hid (bThen Bs0.out gN.2)
  replace Bx0 := Lib.hid (bThen Bx0.out gN.2)
  replace HW := Lib.hid (bThen HW.out gN.2)
  have s7 : w6.heap.size ≤ V7.heap.size := (gN.2).size
  clear hV gN
  refine (implFlatStart_at za _ _ (good_Module.wider (good_Module.below (le_Module _ _ _ _ _ Hx0.out) (Nat.le_refl _) Bx0.out) (Nat.zero_le _) Bx0.out.size) HR0.out).mono ?_
  rintro e w8 ⟨g0v, g0bs, rfl, oN, ndN, bsN, hbN⟩
  replace aa0 := keep hbN aa0
  replace aa1 := keep hbN aa1
  replace aa2 := keep hbN aa2
  replace aa3 := keep hbN aa3
  replace e00 := keep hbN e00
  replace e01 := keep hbN e01
  replace b00 := keep hbN b00
  replace b01 := keep hbN b01
  replace b02 := keep hbN b02
  replace b03 := keep hbN b03
  replace Bs0 := Lib.hid (bThen Bs0.out hbN)
  replace Bx0 := Lib.hid (bThen Bx0.out hbN)
  replace HW := Lib.hid (bThen HW.out hbN)
  have s8 : V7.heap.size ≤ w8.heap.size := (hbN).size
  have rdN := rds_WordState _ _ _ _ _ _ oN bsN
  have Og0 := Lib.hid oN
  have Ng0 := Lib.hid ndN
  have Bg0 := Lib.hid bsN
  have LEg0 := Lib.hid (Nat.le_refl w8.heap.size)
  clear oN ndN bsN hbN
  obtain ⟨g0u0, g0u1, rfl, g0h0, g0h1⟩ := rdN
  obtain ⟨g0A0, g0c0, g0e0, g0m0, -⟩ := g0h0
  injection g0e0 with g0e0
  subst g0e0
  unfold maxLen at g0m0
  obtain ⟨g0A1, g0c1, g0e1, g0m1, -⟩ := g0h1
  injection g0e1 with g0e1
  subst g0e1
  unfold maxLen at g0m1
  have ltaa0 : w.heap.size < w8.heap.size := World.block_lt_of_cell? _ _ aa0
  have lte00 : w4.heap.size < w8.heap.size := World.block_lt_of_cell? _ _ e00
  have ltb00 : w6.heap.size < w8.heap.size := World.block_lt_of_cell? _ _ b00
  go_wp2_with fail
  clear ltaa0 lte00 ltb00
  obtain ⟨V9, hV⟩ : ∃ V9, V9 = (w8.alloc (.cells #[.slice g0A0 (r0.1).length g0c0, .slice g0A1 (r0.2).length g0c1] 48)) := ⟨_, rfl⟩
  rw [← hV]
  have gN := eqbox1 hV
  have f00 : V9.cell? ⟨w8.heap.size, 0, none⟩ = some (.slice g0A0 (r0.1).length g0c0) := box_cell gN.1 0 _ rfl
  have f01 : V9.cell? ⟨w8.heap.size, 1, none⟩ = some (.slice g0A1 (r0.2).length g0c1) := box_cell gN.1 1 _ rfl
  have t9 : V9.heap.size = w8.heap.size + 1 := by rw [hV]; simp
  replace aa0 := keep gN.2 aa0
  replace aa1 := keep gN.2 aa1
  replace aa2 := keep gN.2 aa2
  replace aa3 := keep gN.2 aa3
  replace e00 := keep gN.2 e00
  replace e01 := keep gN.2 e01
  replace b00 := keep gN.2 b00
  replace b01 := keep gN.2 b01
  replace b02 := keep gN.2 b02
  replace b03 := keep gN.2 b03
  replace Bs0 := Lib.hid (bThen Bs0.out gN.2)
  replace Bx0 := Lib.hid (bThen Bx0.out gN.2)
  replace Og0 := Lib.hid (gow_WordState.frame _ _ _ _ _ Og0.out fun b hb' => (gN.2).block b (Nat.lt_of_lt_of_le (Bg0.out b hb').2 LEg0.out))
  replace LEg0 := Lib.hid (Nat.le_trans LEg0.out (gN.2).size)
  replace HW := Lib.hid (bThen HW.out gN.2)
  have s9 : w8.heap.size ≤ V9.heap.size := (gN.2).size
  clear hV gN
  refine (eqWordState_any r0 [.slice g0A0 (r0.1).length g0c0, .slice g0A1 (r0.2).length g0c1] [.slice s0A0 (r0.1).length s0c0, .slice s0A1 (r0.2).length s0c1] _ (rds_WordState _ _ _ _ _ _ Og0.out (fun b hb => ⟨(Bg0.out b hb).1, Nat.lt_of_lt_of_le (Bg0.out b hb).2 LEg0.out⟩)) (good_WordState.below Hs0.out (Nat.le_refl _) Bs0.out) (Nat.le_refl _) Bs0.out.size).mono ?_
  rintro e w10 ⟨rfl, hbN⟩
  replace aa0 := keep hbN aa0
  replace aa1 := keep hbN aa1
  replace aa2 := keep hbN aa2
  replace aa3 := keep hbN aa3
  replace e00 := keep hbN e00
  replace e01 := keep hbN e01
  replace b00 := keep hbN b00
  replace b01 := keep hbN b01
  replace b02 := keep hbN b02
  replace b03 := keep hbN b03
  replace f00 := keep hbN f00
  replace f01 := keep hbN f01
  replace Bs0 := Lib.hid (bThen Bs0.out hbN)
  replace Bx0 := Lib.hid (bThen Bx0.out hbN)
  replace Og0 := Lib.hid (gow_WordState.frame _ _ _ _ _ Og0.out fun b hb' => (hbN).block b (Nat.lt_of_lt_of_le (Bg0.out b hb').2 LEg0.out))
  replace LEg0 := Lib.hid (Nat.le_trans LEg0.out (hbN).size)
  replace HW := Lib.hid (bThen HW.out hbN)
  have s10 : V9.heap.size ≤ w10.heap.size := (hbN).size
  clear hbN
  go_wp2_with fail
  have hS0 : (fun w' => Below w10.heap.size w10 w' ∧ w'.cell? ⟨w.heap.size, 0, none⟩ = some (.slice aA0 (za.1).length ac0) ∧ w'.cell? ⟨w.heap.size, 1, none⟩ = some (.slice aA1 (za.2.1).length ac1) ∧ w'.cell? ⟨w.heap.size, 2, none⟩ = some (.slice aA2 (za.2.2.1).length ac2) ∧ w'.cell? ⟨w.heap.size, 3, none⟩ = some (.slice aA3 (za.2.2.2).length ac3) ∧ w'.cell? ⟨w4.heap.size, 0, none⟩ = some (.slice s0A0 (r0.1).length s0c0) ∧ w'.cell? ⟨w4.heap.size, 1, none⟩ = some (.slice s0A1 (r0.2).length s0c1) ∧ w'.cell? ⟨w6.heap.size, 0, none⟩ = some (.slice x0A0 (za.1).length x0c0) ∧ w'.cell? ⟨w6.heap.size, 1, none⟩ = some (.slice x0A1 (za.2.1).length x0c1) ∧ w'.cell? ⟨w6.heap.size, 2, none⟩ = some (.slice x0A2 (za.2.2.1).length x0c2) ∧ w'.cell? ⟨w6.heap.size, 3, none⟩ = some (.slice x0A3 (za.2.2.2).length x0c3) ∧ w'.cell? ⟨w8.heap.size, 0, none⟩ = some (.slice g0A0 (r0.1).length g0c0) ∧ w'.cell? ⟨w8.heap.size, 1, none⟩ = some (.slice g0A1 (r0.2).length g0c1)) w10 := ⟨Below.refl _ _, aa0, aa1, aa2, aa3, e00, e01, b00, b01, b02, b03, f00, f01⟩
  have hS : ∀ {w0 w' : World}, (fun w' => Below w10.heap.size w10 w' ∧ w'.cell? ⟨w.heap.size, 0, none⟩ = some (.slice aA0 (za.1).length ac0) ∧ w'.cell? ⟨w.heap.size, 1, none⟩ = some (.slice aA1 (za.2.1).length ac1) ∧ w'.cell? ⟨w.heap.size, 2, none⟩ = some (.slice aA2 (za.2.2.1).length ac2) ∧ w'.cell? ⟨w.heap.size, 3, none⟩ = some (.slice aA3 (za.2.2.2).length ac3) ∧ w'.cell? ⟨w4.heap.size, 0, none⟩ = some (.slice s0A0 (r0.1).length s0c0) ∧ w'.cell? ⟨w4.heap.size, 1, none⟩ = some (.slice s0A1 (r0.2).length s0c1) ∧ w'.cell? ⟨w6.heap.size, 0, none⟩ = some (.slice x0A0 (za.1).length x0c0) ∧ w'.cell? ⟨w6.heap.size, 1, none⟩ = some (.slice x0A1 (za.2.1).length x0c1) ∧ w'.cell? ⟨w6.heap.size, 2, none⟩ = some (.slice x0A2 (za.2.2.1).length x0c2) ∧ w'.cell? ⟨w6.heap.size, 3, none⟩ = some (.slice x0A3 (za.2.2.2).length x0c3) ∧ w'.cell? ⟨w8.heap.size, 0, none⟩ = some (.slice g0A0 (r0.1).length g0c0) ∧ w'.cell? ⟨w8.heap.size, 1, none⟩ = some (.slice g0A1 (r0.2).length g0c1)) w0 → Below w0.heap.size w0 w' → (fun w' => Below w10.heap.size w10 w' ∧ w'.cell? ⟨w.heap.size, 0, none⟩ = some (.slice aA0 (za.1).length ac0) ∧ w'.cell? ⟨w.heap.size, 1, none⟩ = some (.slice aA1 (za.2.1).length ac1) ∧ w'.cell? ⟨w.heap.size, 2, none⟩ = some (.slice aA2 (za.2.2.1).length ac2) ∧ w'.cell? ⟨w.heap.size, 3, none⟩ = some (.slice aA3 (za.2.2.2).length ac3) ∧ w'.cell? ⟨w4.heap.size, 0, none⟩ = some (.slice s0A0 (r0.1).length s0c0) ∧ w'.cell? ⟨w4.heap.size, 1, none⟩ = some (.slice s0A1 (r0.2).length s0c1) ∧ w'.cell? ⟨w6.heap.size, 0, none⟩ = some (.slice x0A0 (za.1).length x0c0) ∧ w'.cell? ⟨w6.heap.size, 1, none⟩ = some (.slice x0A1 (za.2.1).length x0c1) ∧ w'.cell? ⟨w6.heap.size, 2, none⟩ = some (.slice x0A2 (za.2.2.1).length x0c2) ∧ w'.cell? ⟨w6.heap.size, 3, none⟩ = some (.slice x0A3 (za.2.2.2).length x0c3) ∧ w'.cell? ⟨w8.heap.size, 0, none⟩ = some (.slice g0A0 (r0.1).length g0c0) ∧ w'.cell? ⟨w8.heap.size, 1, none⟩ = some (.slice g0A1 (r0.2).length g0c1)) w' := fun h hb => ⟨bThen h.1 hb, keep hb h.2.1, keep hb h.2.2.1, keep hb h.2.2.2.1, keep hb h.2.2.2.2.1, keep hb h.2.2.2.2.2.1, keep hb h.2.2.2.2.2.2.1, keep hb h.2.2.2.2.2.2.2.1, keep hb h.2.2.2.2.2.2.2.2.1, keep hb h.2.2.2.2.2.2.2.2.2.1, keep hb h.2.2.2.2.2.2.2.2.2.2.1, keep hb h.2.2.2.2.2.2.2.2.2.2.2.1, keep hb h.2.2.2.2.2.2.2.2.2.2.2.2⟩
  dsimp only at hS0 hS
  refine wp_region_noPanic ?_
  refine wp_region_kept 4 5 (fun w' => Below w10.heap.size w10 w' ∧ w'.cell? ⟨w.heap.size, 0, none⟩ = some (.slice aA0 (za.1).length ac0) ∧ w'.cell? ⟨w.heap.size, 1, none⟩ = some (.slice aA1 (za.2.1).length ac1) ∧ w'.cell? ⟨w.heap.size, 2, none⟩ = some (.slice aA2 (za.2.2.1).length ac2) ∧ w'.cell? ⟨w.heap.size, 3, none⟩ = some (.slice aA3 (za.2.2.2).length ac3) ∧ w'.cell? ⟨w4.heap.size, 0, none⟩ = some (.slice s0A0 (r0.1).length s0c0) ∧ w'.cell? ⟨w4.heap.size, 1, none⟩ = some (.slice s0A1 (r0.2).length s0c1) ∧ w'.cell? ⟨w6.heap.size, 0, none⟩ = some (.slice x0A0 (za.1).length x0c0) ∧ w'.cell? ⟨w6.heap.size, 1, none⟩ = some (.slice x0A1 (za.2.1).length x0c1) ∧ w'.cell? ⟨w6.heap.size, 2, none⟩ = some (.slice x0A2 (za.2.2.1).length x0c2) ∧ w'.cell? ⟨w6.heap.size, 3, none⟩ = some (.slice x0A3 (za.2.2.2).length x0c3) ∧ w'.cell? ⟨w8.heap.size, 0, none⟩ = some (.slice g0A0 (r0.1).length g0c0) ∧ w'.cell? ⟨w8.heap.size, 1, none⟩ = some (.slice g0A1 (r0.2).length g0c1)) (by kernel_rfl) rfl (hS hS0 (Below.drew (Below.refl _ _))) (fun hK0 => ?_)
  refine Kept.take (v := ?vt10n0) 0 (by kernel_rfl) rfl (by kernel_rfl) (fun _ _ _ h => h) (Or.inl ⟨by rfl, ?hyt10n0⟩) hK0 ?restt10n0
  case hyt10n0 =>
    intro w0 hSw
    (try dsimp only at hSw)
    go_simp
    all_goals (with_reducible rfl)
  (try simp only [Act.put, List.setIfInBounds_toArray, List.set_cons_zero, List.set_cons_succ])
  refine Kept.take (v := ?vt10n1) 1 (by kernel_rfl) rfl (by kernel_rfl) (fun _ _ _ h => h) (Or.inl ⟨by rfl, ?hyt10n1⟩) hK0 ?restt10n1
  case hyt10n1 =>
    intro w0 hSw
    (try dsimp only at hSw)
    go_simp
    all_goals (with_reducible rfl)
  (try simp only [Act.put, List.setIfInBounds_toArray, List.set_cons_zero, List.set_cons_succ])
  refine Kept.one 2 (by kernel_rfl) rfl (fun K hK => ?_)
  go_simp
  go_at_call 44
  refine (toModule_any za [.slice aA0 (za.1).length ac0, .slice aA1 (za.2.1).length ac1, .slice aA2 (za.2.2.1).length ac2, .slice aA3 (za.2.2.2).length ac3] _ (good_Module.below HDa.out (Nat.le_refl _) (bThen HW.out hK0.1)) (bThen HW.out hK0.1).size HSa.out).mono ?_
  rintro e wr0 ⟨v0, rfl, hxN, hbr0⟩
  have Hv0 := Lib.hid hxN
  obtain ⟨v0u0, v0u1, v0u2, v0u3, rfl, v0h0, v0h1, v0h2, v0h3⟩ := hxN
  obtain ⟨v0A0, v0c0, v0e0, v0m0, -⟩ := v0h0
  injection v0e0 with v0e0
  subst v0e0
  unfold maxLen at v0m0
  obtain ⟨v0A1, v0c1, v0e1, v0m1, -⟩ := v0h1
  injection v0e1 with v0e1
  subst v0e1
  unfold maxLen at v0m1
  obtain ⟨v0A2, v0c2, v0e2, v0m2, -⟩ := v0h2
  injection v0e2 with v0e2
  subst v0e2
  unfold maxLen at v0m2
  obtain ⟨v0A3, v0c3, v0e3, v0m3, -⟩ := v0h3
  injection v0e3 with v0e3
  subst v0e3
  unfold maxLen at v0m3
  go_simp
  refine hK.out _ _ (hS hK0 hbr0) (fun hK1 => ?_)
  clear hK K hK0
  (try simp only [Act.put, List.setIfInBounds_toArray, List.set_cons_zero, List.set_cons_succ])
  refine Kept.one 3 (by kernel_rfl) rfl (fun K hK => ?_)
  go_simp
  go_at_call 46
  refine (eqModule_any za [.slice x0A0 (za.1).length x0c0, .slice x0A1 (za.2.1).length x0c1, .slice x0A2 (za.2.2.1).length x0c2, .slice x0A3 (za.2.2.2).length x0c3] [.slice v0A0 (za.1).length v0c0, .slice v0A1 (za.2.1).length v0c1, .slice v0A2 (za.2.2.1).length v0c2, .slice v0A3 (za.2.2.2).length v0c3] _ (good_Module.below (le_Module _ _ _ _ _ Hx0.out) (Nat.le_refl _) (bThen Bx0.out hK1.1)) Hv0.out (bThen Bx0.out hK1.1).size (Nat.le_refl _)).mono ?_
  rintro e wr1 ⟨rfl, hbr1⟩
  go_simp
  refine hK.out _ _ (hS hK1 hbr1) (fun hK2 => ?_)
  clear hK K hK1
  (try simp only [Act.put, List.setIfInBounds_toArray, List.set_cons_zero, List.set_cons_succ])
  refine Kept.tail (by rfl) (by kernel_rfl) ?_
  simp only [List.drop_succ_cons, List.drop_zero]
  go_wp2
  refine NoPanic.normal ?_
  obtain ⟨W10r, hWr⟩ : ∃ W, W = wr1 := ⟨_, rfl⟩
  rw [← hWr] at hK2 ⊢
  clear hWr
  have hbN := hK2.1
  replace aa0 := keep hbN aa0
  replace aa1 := keep hbN aa1
  replace aa2 := keep hbN aa2
  replace aa3 := keep hbN aa3
  replace e00 := keep hbN e00
  replace e01 := keep hbN e01
  replace b00 := keep hbN b00
  replace b01 := keep hbN b01
  replace b02 := keep hbN b02
  replace b03 := keep hbN b03
  replace f00 := keep hbN f00
  replace f01 := keep hbN f01
  replace Bs0 := Lib.hid (bThen Bs0.out hbN)
  replace Bx0 := Lib.hid (bThen Bx0.out hbN)
  replace Og0 := Lib.hid (gow_WordState.frame _ _ _ _ _ Og0.out fun b hb' => (hbN).block b (Nat.lt_of_lt_of_le (Bg0.out b hb').2 LEg0.out))
  replace LEg0 := Lib.hid (Nat.le_trans LEg0.out (hbN).size)
  replace HW := Lib.hid (bThen HW.out hbN)
  have s11 : w10.heap.size ≤ W10r.heap.size := (hbN).size
  clear hbN hK2 hS0 hS
  clear Hv0
  replace Hx0 := Lib.hid (goodw_Module.below Hx0.out (Nat.le_refl _) Bx0.out)
  go_wp2_with fail
  have bd0 := bndModule za HSa.out
  (try unfold cntModule at bd0)
  refine (markModule_arg za [.slice x0A0 (za.1).length x0c0, .slice x0A1 (za.2.1).length x0c1, .slice x0A2 (za.2.2.1).length x0c2, .slice x0A3 (za.2.2.2).length x0c3] 1 W10r W10r _ Hx0.out (by omega) (Sims.refl _ _ _) (Sims.refl _ _ _) (by omega) (by omega)).mono ?_
  rintro e w12 ⟨⟨k0, k0a, k0b, rfl⟩, hsN, -⟩
  have s12 : W10r.heap.size ≤ w12.heap.size := hsN.size
  replace aa0 := (World.cell?_of_block (w := W10r) (w' := w12) (a := ⟨w.heap.size, 0, none⟩) (hsN.block _ (World.block_lt_of_cell? _ _ aa0) (by first | (left; dsimp only; omega) | (right; dsimp only; omega)))).trans aa0
  replace aa1 := (World.cell?_of_block (w := W10r) (w' := w12) (a := ⟨w.heap.size, 1, none⟩) (hsN.block _ (World.block_lt_of_cell? _ _ aa1) (by first | (left; dsimp only; omega) | (right; dsimp only; omega)))).trans aa1
  replace aa2 := (World.cell?_of_block (w := W10r) (w' := w12) (a := ⟨w.heap.size, 2, none⟩) (hsN.block _ (World.block_lt_of_cell? _ _ aa2) (by first | (left; dsimp only; omega) | (right; dsimp only; omega)))).trans aa2
  replace aa3 := (World.cell?_of_block (w := W10r) (w' := w12) (a := ⟨w.heap.size, 3, none⟩) (hsN.block _ (World.block_lt_of_cell? _ _ aa3) (by first | (left; dsimp only; omega) | (right; dsimp only; omega)))).trans aa3
  replace e00 := (World.cell?_of_block (w := W10r) (w' := w12) (a := ⟨w4.heap.size, 0, none⟩) (hsN.block _ (World.block_lt_of_cell? _ _ e00) (by first | (left; dsimp only; omega) | (right; dsimp only; omega)))).trans e00
  replace e01 := (World.cell?_of_block (w := W10r) (w' := w12) (a := ⟨w4.heap.size, 1, none⟩) (hsN.block _ (World.block_lt_of_cell? _ _ e01) (by first | (left; dsimp only; omega) | (right; dsimp only; omega)))).trans e01
  replace f00 := (World.cell?_of_block (w := W10r) (w' := w12) (a := ⟨w8.heap.size, 0, none⟩) (hsN.block _ (World.block_lt_of_cell? _ _ f00) (by first | (left; dsimp only; omega) | (right; dsimp only; omega)))).trans f00
  replace f01 := (World.cell?_of_block (w := W10r) (w' := w12) (a := ⟨w8.heap.size, 1, none⟩) (hsN.block _ (World.block_lt_of_cell? _ _ f01) (by first | (left; dsimp only; omega) | (right; dsimp only; omega)))).trans f01
  replace Bs0 := Lib.hid (below_sims Bs0.out hsN (by omega))
  replace Og0 := Lib.hid (gow_WordState.frame _ _ _ _ _ Og0.out fun b hb => hsN.block b (Nat.lt_of_lt_of_le (Bg0.out b hb).2 LEg0.out) (.inr (by have := (Bg0.out b hb).1; omega)))
  replace LEg0 := Lib.hid (Nat.le_trans LEg0.out hsN.size)
  replace HW := Lib.hid (below_sims HW.out hsN (by omega))
  clear hsN Hx0 Bx0 bd0
  have tkN : ¬ k0 < 0 := by omega
  go_wp2_with fail
  refine (eqWordState_any r0 [.slice g0A0 (r0.1).length g0c0, .slice g0A1 (r0.2).length g0c1] [.slice s0A0 (r0.1).length s0c0, .slice s0A1 (r0.2).length s0c1] _ (rds_WordState _ _ _ _ _ _ Og0.out (fun b hb => ⟨(Bg0.out b hb).1, Nat.lt_of_lt_of_le (Bg0.out b hb).2 LEg0.out⟩)) (good_WordState.below Hs0.out (Nat.le_refl _) Bs0.out) (Nat.le_refl _) Bs0.out.size).mono ?_
  rintro e w13 ⟨rfl, hbN⟩
  replace aa0 := keep hbN aa0
  replace aa1 := keep hbN aa1
  replace aa2 := keep hbN aa2
  replace aa3 := keep hbN aa3
  replace e00 := keep hbN e00
  replace e01 := keep hbN e01
  replace f00 := keep hbN f00
  replace f01 := keep hbN f01
  replace Bs0 := Lib.hid (bThen Bs0.out hbN)
  replace Og0 := Lib.hid (gow_WordState.frame _ _ _ _ _ Og0.out fun b hb' => (hbN).block b (Nat.lt_of_lt_of_le (Bg0.out b hb').2 LEg0.out))
  replace LEg0 := Lib.hid (Nat.le_trans LEg0.out (hbN).size)
  replace HW := Lib.hid (bThen HW.out hbN)
  have s13 : w12.heap.size ≤ w13.heap.size := (hbN).size
  clear hbN
  go_wp2_with fail
  refine (markWordState_own r0 [.slice g0A0 (r0.1).length g0c0, .slice g0A1 (r0.2).length g0c1] g0bs 1 _ Og0.out Ng0.out (by omega) (by have := HBD.out; unfold cntVWordState cntIntS; omega)).mono ?_
  rintro e w14 ⟨rfl, oN, hchN⟩
  replace Og0 := Lib.hid oN
  replace LEg0 := Lib.hid (Nat.le_trans LEg0.out hchN.size)
  have s14 : w13.heap.size ≤ w14.heap.size := hchN.size
  replace aa0 := chg_cell hchN (fun h => by have h1 := (Bg0.out _ h).1; have h2 := (Bg0.out _ h).2; omega) aa0
  replace aa1 := chg_cell hchN (fun h => by have h1 := (Bg0.out _ h).1; have h2 := (Bg0.out _ h).2; omega) aa1
  replace aa2 := chg_cell hchN (fun h => by have h1 := (Bg0.out _ h).1; have h2 := (Bg0.out _ h).2; omega) aa2
  replace aa3 := chg_cell hchN (fun h => by have h1 := (Bg0.out _ h).1; have h2 := (Bg0.out _ h).2; omega) aa3
  replace e00 := chg_cell hchN (fun h => by have h1 := (Bg0.out _ h).1; have h2 := (Bg0.out _ h).2; omega) e00
  replace e01 := chg_cell hchN (fun h => by have h1 := (Bg0.out _ h).1; have h2 := (Bg0.out _ h).2; omega) e01
  replace f00 := chg_cell hchN (fun h => by have h1 := (Bg0.out _ h).1; have h2 := (Bg0.out _ h).2; omega) f00
  replace f01 := chg_cell hchN (fun h => by have h1 := (Bg0.out _ h).1; have h2 := (Bg0.out _ h).2; omega) f01
  replace Bs0 := Lib.hid (below_chg Bs0.out hchN (fun b h => by have h1 := (Bg0.out b h).1; omega))
  replace HW := Lib.hid (below_chg HW.out hchN (fun b h => by have h1 := (Bg0.out b h).1; omega))
  clear oN hchN
  obtain ⟨q0, hq0⟩ : ∃ q0 : Int, 1 + (cntVWordState r0 : Int) = q0 := ⟨_, rfl⟩
  have HQ0 := Lib.hid hq0
  have q0a : ¬ q0 < 0 := by omega
  rw [hq0]
  clear hq0
  go_wp2_with fail
  refine (heldWordState_num r0 [.slice g0A0 (r0.1).length g0c0, .slice g0A1 (r0.2).length g0c1] 1 _ (rds_WordState _ _ _ _ _ _ Og0.out (fun b hb => ⟨(Bg0.out b hb).1, Nat.lt_of_lt_of_le (Bg0.out b hb).2 LEg0.out⟩)) (Nat.le_refl _) (by omega) (by have := HBD.out; unfold cntVWordState cntIntS; omega)).mono ?_
  rintro e w15 ⟨rfl, hbN⟩
  rw [HQ0.out]
  replace aa0 := keep hbN aa0
  replace aa1 := keep hbN aa1
  replace aa2 := keep hbN aa2
  replace aa3 := keep hbN aa3
  replace e00 := keep hbN e00
  replace e01 := keep hbN e01
  replace f00 := keep hbN f00
  replace f01 := keep hbN f01
  replace Bs0 := Lib.hid (bThen Bs0.out hbN)
  replace Og0 := Lib.hid (gow_WordState.frame _ _ _ _ _ Og0.out fun b hb' => (hbN).block b (Nat.lt_of_lt_of_le (Bg0.out b hb').2 LEg0.out))
  replace LEg0 := Lib.hid (Nat.le_trans LEg0.out (hbN).size)
  replace HW := Lib.hid (bThen HW.out hbN)
  have s15 : w14.heap.size ≤ w15.heap.size := (hbN).size
  clear hbN
  go_wp2_with fail
  refine (toModule_any za [.slice aA0 (za.1).length ac0, .slice aA1 (za.2.1).length ac1, .slice aA2 (za.2.2.1).length ac2, .slice aA3 (za.2.2.2).length ac3] _ (good_Module.below HDa.out (Nat.le_refl _) HW.out) HW.out.size HSa.out).mono ?_
  rintro e w16 ⟨y0, rfl, hxN, hbN⟩
  replace aa0 := keep hbN aa0
  replace aa1 := keep hbN aa1
  replace aa2 := keep hbN aa2
  replace aa3 := keep hbN aa3
  replace e00 := keep hbN e00
  replace e01 := keep hbN e01
  replace f00 := keep hbN f00
  replace f01 := keep hbN f01
  replace Bs0 := Lib.hid (bThen Bs0.out hbN)
  replace Og0 := Lib.hid (gow_WordState.frame _ _ _ _ _ Og0.out fun b hb' => (hbN).block b (Nat.lt_of_lt_of_le (Bg0.out b hb').2 LEg0.out))
  replace LEg0 := Lib.hid (Nat.le_trans LEg0.out (hbN).size)
  replace HW := Lib.hid (bThen HW.out hbN)
  have s16 : w15.heap.size ≤ w16.heap.size := (hbN).size
  have Hy0 := Lib.hid hxN
  have By0 := Lib.hid (Below.refl w16.heap.size w16)
  obtain ⟨y0u0, y0u1, y0u2, y0u3, rfl, y0h0, y0h1, y0h2, y0h3⟩ := hxN
  obtain ⟨y0A0, y0c0, y0e0, y0m0, -⟩ := y0h0
  injection y0e0 with y0e0
  subst y0e0
  unfold maxLen at y0m0
  obtain ⟨y0A1, y0c1, y0e1, y0m1, -⟩ := y0h1
  injection y0e1 with y0e1
  subst y0e1
  unfold maxLen at y0m1
  obtain ⟨y0A2, y0c2, y0e2, y0m2, -⟩ := y0h2
  injection y0e2 with y0e2
  subst y0e2
  unfold maxLen at y0m2
  obtain ⟨y0A3, y0c3, y0e3, y0m3, -⟩ := y0h3
  injection y0e3 with y0e3
  subst y0e3
  unfold maxLen at y0m3
  clear hbN
  go_wp2_with fail
  refine (implFlatStart_at za _ _ (good_Module.wider (good_Module.below Hy0.out (Nat.le_refl _) By0.out) (Nat.zero_le _) By0.out.size) HR0.out).mono ?_
  rintro e w17 ⟨h0v, h0bs, rfl, oN, ndN, bsN, hbN⟩
  replace aa0 := keep hbN aa0
  replace aa1 := keep hbN aa1
  replace aa2 := keep hbN aa2
  replace aa3 := keep hbN aa3
  replace e00 := keep hbN e00
  replace e01 := keep hbN e01
  replace f00 := keep hbN f00
  replace f01 := keep hbN f01
  replace Bs0 := Lib.hid (bThen Bs0.out hbN)
  replace By0 := Lib.hid (bThen By0.out hbN)
  replace Og0 := Lib.hid (gow_WordState.frame _ _ _ _ _ Og0.out fun b hb' => (hbN).block b (Nat.lt_of_lt_of_le (Bg0.out b hb').2 LEg0.out))
  replace LEg0 := Lib.hid (Nat.le_trans LEg0.out (hbN).size)
  replace HW := Lib.hid (bThen HW.out hbN)
  have s17 : w16.heap.size ≤ w17.heap.size := (hbN).size
  have rdN := rds_WordState _ _ _ _ _ _ oN bsN
  have Hh0 := Lib.hid rdN
  have Bh0 := Lib.hid (Below.refl w17.heap.size w17)
  clear oN ndN bsN hbN
  obtain ⟨h0u0, h0u1, rfl, h0h0, h0h1⟩ := rdN
  obtain ⟨h0A0, h0c0, h0e0, h0m0, -⟩ := h0h0
  injection h0e0 with h0e0
  subst h0e0
  unfold maxLen at h0m0
  obtain ⟨h0A1, h0c1, h0e1, h0m1, -⟩ := h0h1
  injection h0e1 with h0e1
  subst h0e1
  unfold maxLen at h0m1
  have ltaa0 : w.heap.size < w17.heap.size := World.block_lt_of_cell? _ _ aa0
  have lte00 : w4.heap.size < w17.heap.size := World.block_lt_of_cell? _ _ e00
  have ltf00 : w8.heap.size < w17.heap.size := World.block_lt_of_cell? _ _ f00
  go_wp2_with fail
  clear ltaa0 lte00 ltf00
  obtain ⟨V18, hV⟩ : ∃ V18, V18 = (w17.alloc (.cells #[.slice h0A0 (r0.1).length h0c0, .slice h0A1 (r0.2).length h0c1] 48)) := ⟨_, rfl⟩
  rw [← hV]
  have gN := eqbox1 hV
  have i00 : V18.cell? ⟨w17.heap.size, 0, none⟩ = some (.slice h0A0 (r0.1).length h0c0) := box_cell gN.1 0 _ rfl
  have i01 : V18.cell? ⟨w17.heap.size, 1, none⟩ = some (.slice h0A1 (r0.2).length h0c1) := box_cell gN.1 1 _ rfl
  have t18 : V18.heap.size = w17.heap.size + 1 := by rw [hV]; simp
  replace aa0 := keep gN.2 aa0
  replace aa1 := keep gN.2 aa1
  replace aa2 := keep gN.2 aa2
  replace aa3 := keep gN.2 aa3
  replace e00 := keep gN.2 e00
  replace e01 := keep gN.2 e01
  replace f00 := keep gN.2 f00
  replace f01 := keep gN.2 f01
  replace Bs0 := Lib.hid (bThen Bs0.out gN.2)
  replace By0 := Lib.hid (bThen By0.out gN.2)
  replace Bh0 := Lib.hid (bThen Bh0.out gN.2)
  replace Og0 := Lib.hid (gow_WordState.frame _ _ _ _ _ Og0.out fun b hb' => (gN.2).block b (Nat.lt_of_lt_of_le (Bg0.out b hb').2 LEg0.out))
  replace LEg0 := Lib.hid (Nat.le_trans LEg0.out (gN.2).size)
  replace HW := Lib.hid (bThen HW.out gN.2)
  have s18 : w17.heap.size ≤ V18.heap.size := (gN.2).size
  clear hV gN
  refine (eqWordState_any r0 [.slice h0A0 (r0.1).length h0c0, .slice h0A1 (r0.2).length h0c1] [.slice s0A0 (r0.1).length s0c0, .slice s0A1 (r0.2).length s0c1] _ (good_WordState.below Hh0.out (Nat.le_refl _) Bh0.out) (good_WordState.below Hs0.out (Nat.le_refl _) Bs0.out) Bh0.out.size Bs0.out.size).mono ?_
  rintro e w19 ⟨rfl, hbN⟩
  replace aa0 := keep hbN aa0
  replace aa1 := keep hbN aa1
  replace aa2 := keep hbN aa2
  replace aa3 := keep hbN aa3
  replace e00 := keep hbN e00
  replace e01 := keep hbN e01
  replace f00 := keep hbN f00
  replace f01 := keep hbN f01
  replace i00 := keep hbN i00
  replace i01 := keep hbN i01
  replace Bs0 := Lib.hid (bThen Bs0.out hbN)
  replace By0 := Lib.hid (bThen By0.out hbN)
  replace Bh0 := Lib.hid (bThen Bh0.out hbN)
  replace Og0 := Lib.hid (gow_WordState.frame _ _ _ _ _ Og0.out fun b hb' => (hbN).block b (Nat.lt_of_lt_of_le (Bg0.out b hb').2 LEg0.out))
  replace LEg0 := Lib.hid (Nat.le_trans LEg0.out (hbN).size)
  replace HW := Lib.hid (bThen HW.out hbN)
  have s19 : V18.heap.size ≤ w19.heap.size := (hbN).size
  clear hbN
  go_wp2_with fail
  refine (heldWordState_num r0 [.slice g0A0 (r0.1).length g0c0, .slice g0A1 (r0.2).length g0c1] 1 _ (rds_WordState _ _ _ _ _ _ Og0.out (fun b hb => ⟨(Bg0.out b hb).1, Nat.lt_of_lt_of_le (Bg0.out b hb).2 LEg0.out⟩)) (Nat.le_refl _) (by omega) (by have := HBD.out; unfold cntVWordState cntIntS; omega)).mono ?_
  rintro e w20 ⟨rfl, hbN⟩
  rw [HQ0.out]
  replace aa0 := keep hbN aa0
  replace aa1 := keep hbN aa1
  replace aa2 := keep hbN aa2
  replace aa3 := keep hbN aa3
  replace e00 := keep hbN e00
  replace e01 := keep hbN e01
  replace f00 := keep hbN f00
  replace f01 := keep hbN f01
  replace i00 := keep hbN i00
  replace i01 := keep hbN i01
  replace Bs0 := Lib.hid (bThen Bs0.out hbN)
  replace By0 := Lib.hid (bThen By0.out hbN)
  replace Bh0 := Lib.hid (bThen Bh0.out hbN)
  replace Og0 := Lib.hid (gow_WordState.frame _ _ _ _ _ Og0.out fun b hb' => (hbN).block b (Nat.lt_of_lt_of_le (Bg0.out b hb').2 LEg0.out))
  replace LEg0 := Lib.hid (Nat.le_trans LEg0.out (hbN).size)
  replace HW := Lib.hid (bThen HW.out hbN)
  have s20 : w19.heap.size ≤ w20.heap.size := (hbN).size
  clear hbN
  go_wp2
  go_ret
  exact ⟨rfl, HW.out⟩
end Go.Proofs.Ytmjofpfkgbnknaa
