/-
  The walk of the exact law of the sample design.
-/
import Derived.Test.YtllddjkdjdohhaaSamp
namespace Go.Proofs.Ytllddjkdjdohhaa
open Go.RowKit
set_option linter.unusedVariables false
set_option linter.unusedSimpArgs false

theorem sample_form {v : Value} {bs : List Nat} {w : World} (h : owDesign bs w [v] sampleD) : ∃ A c, v = .slice A 2 c := by
  obtain ⟨u, e, A, c, e2, -⟩ := h
  injection e with e
  subst e
  injection e2 with e2
  exact ⟨A, c, e2⟩
set_option maxRecDepth 100000 in
set_option maxHeartbeats 6400000 in
theorem exactSample_walk (w : World) : Calls Try.prog 11 #[] w fun e w' => e = .returned (.bool true) ∧ Below w.heap.size w w' := by
  go_enter Try.func11, Try.ntmps11
  go_wp2_with fail
  refine (sSample_any _).mono ?_
  rintro e w1 ⟨v1, bs1, rfl, o1, -, hb1, hw1⟩
  have HW1 := Lib.hid hw1
  have R1 := Lib.hid (rds_Design _ _ _ _ _ _ o1 hb1)
  obtain ⟨A1, c1, rfl⟩ := sample_form o1
  clear o1 hb1 hw1
  go_wp2_with fail
  obtain ⟨V1, hV⟩ : ∃ V, V = w1.alloc (.cells #[.slice A1 2 c1] 26) := ⟨_, rfl⟩
  rw [← hV]
  have g := eqbox1 hV
  have d0 : V1.cell? ⟨w1.heap.size, 0, none⟩ = some (.slice A1 2 c1) := box_cell g.1 0 _ rfl
  have z1 : V1.heap.size = w1.heap.size + 1 := by rw [hV]; simp
  have HV1 := Lib.hid g.2
  clear hV g
  refine (iSample_any _).mono ?_
  rintro e w2 ⟨v2, bs2, rfl, o2, nd2, hb2, hw2⟩
  have HO2 := Lib.hid o2
  have ND2 := Lib.hid nd2
  have HB2 := Lib.hid hb2
  have HX2 := Lib.hid (bThen HV1.out hw2)
  have z2 := hw2.size
  obtain ⟨A2, c2, rfl⟩ := sample_form o2
  replace d0 := keep hw2 d0
  clear o2 nd2 hb2 hw2
  have dlt : w1.heap.size < w2.heap.size := by omega
  go_wp2_with fail
  obtain ⟨V2, hV⟩ : ∃ V, V = w2.alloc (.cells #[.slice A2 2 c2] 26) := ⟨_, rfl⟩
  rw [← hV]
  have g := eqbox1 hV
  replace d0 := keep g.2 d0
  have e0 : V2.cell? ⟨w2.heap.size, 0, none⟩ = some (.slice A2 2 c2) := box_cell g.1 0 _ rfl
  have z3 : V2.heap.size = w2.heap.size + 1 := by rw [hV]; simp
  have HX3 := Lib.hid (bThen HX2.out g.2)
  replace HO2 := Lib.hid (gow_Design.frame _ _ _ _ _ HO2.out fun b hb => g.2.block b (HB2.out b hb).2)
  clear hV g dlt
  refine (eqDesign_any sampleD _ _ _ (rds_Design _ _ _ _ _ _ HO2.out fun b hb => HB2.out b hb) (good_Design.below R1.out (Nat.le_refl _) HX3.out) (by omega) HX3.out.size).mono ?_
  rintro e w3 ⟨rfl, hb3⟩
  replace d0 := keep hb3 d0
  replace e0 := keep hb3 e0
  have z4 := hb3.size
  replace HO2 := Lib.hid (gow_Design.frame _ _ _ _ _ HO2.out fun b hb => hb3.block b (by have := (HB2.out b hb).2; omega))
  have HX4 := Lib.hid (bThen HX3.out hb3)
  clear hb3
  go_wp2_with fail
  refine (markDesign_own sampleD _ bs2 1 _ HO2.out ND2.out (by omega) (by decide)).mono ?_
  rintro e w4 ⟨rfl, ho, hch⟩
  replace HO2 := Lib.hid ho
  have hn1 : w1.heap.size ∉ bs2 := fun h => by have := (HB2.out _ h).1; omega
  have hn2 : w2.heap.size ∉ bs2 := fun h => by have := (HB2.out _ h).2; omega
  replace d0 := chg_cell hch hn1 d0
  replace e0 := chg_cell hch hn2 e0
  have z5 := hch.size
  have HX5 := Lib.hid (show Below w1.heap.size w1 w4 from ⟨hch.os.trans HX4.out.os, hch.tape.trans HX4.out.tape, hch.output.trans HX4.out.output, Nat.le_trans HX4.out.size hch.size, fun k hk => (hch.block k (by omega) (fun h => by have := (HB2.out _ h).1; omega)).trans (HX4.out.block k hk)⟩)
  obtain ⟨q, hq⟩ : ∃ q : Int, 1 + (cntVDesign sampleD : Int) = q := ⟨_, rfl⟩
  have hq0 : 0 ≤ q := by rw [← hq]; decide
  have HQ := Lib.hid hq
  rw [hq]
  clear ho hch hn1 hn2 hq
  have tq : ¬ q < 0 := by omega
  go_wp2_with fail
  refine (heldDesign_num sampleD _ 1 _ (rds_Design _ _ _ _ _ _ HO2.out fun b hb => HB2.out b hb) (by omega) (by omega) (by decide)).mono ?_
  rintro e w5 ⟨rfl, hb5⟩
  rw [HQ.out]
  replace d0 := keep hb5 d0
  replace e0 := keep hb5 e0
  have z6 := hb5.size
  replace HO2 := Lib.hid (gow_Design.frame _ _ _ _ _ HO2.out fun b hb => hb5.block b (by have := (HB2.out b hb).2; omega))
  have HX6 := Lib.hid (bThen HX5.out hb5)
  clear hb5
  go_wp2_with fail
  refine (iSample_any _).mono ?_
  rintro e w6 ⟨v6, bs6, rfl, o6, -, hb6, hw6⟩
  have R6 := Lib.hid (rds_Design _ _ _ _ _ _ o6 hb6)
  obtain ⟨A6, c6, rfl⟩ := sample_form o6
  replace d0 := keep hw6 d0
  replace e0 := keep hw6 e0
  have z7 := hw6.size
  replace HO2 := Lib.hid (gow_Design.frame _ _ _ _ _ HO2.out fun b hb => hw6.block b (by have := (HB2.out b hb).2; omega))
  have HX7 := Lib.hid (bThen HX6.out hw6)
  clear o6 hb6 hw6
  have dlt : w1.heap.size < w6.heap.size := World.block_lt_of_cell? _ _ d0
  go_wp2_with fail
  obtain ⟨V6, hV⟩ : ∃ V, V = w6.alloc (.cells #[.slice A6 2 c6] 26) := ⟨_, rfl⟩
  rw [← hV]
  have g := eqbox1 hV
  replace d0 := keep g.2 d0
  replace e0 := keep g.2 e0
  have x0 : V6.cell? ⟨w6.heap.size, 0, none⟩ = some (.slice A6 2 c6) := box_cell g.1 0 _ rfl
  have z8 : V6.heap.size = w6.heap.size + 1 := by rw [hV]; simp
  replace HO2 := Lib.hid (gow_Design.frame _ _ _ _ _ HO2.out fun b hb => g.2.block b (by have := (HB2.out b hb).2; omega))
  have HX8 := Lib.hid (bThen HX7.out g.2)
  have HG6 := Lib.hid g.2
  clear hV g dlt
  refine (eqDesign_any sampleD _ _ _ (good_Design.below R6.out (Nat.le_refl _) HG6.out) (good_Design.below R1.out (Nat.le_refl _) HX8.out) (by omega) (by omega)).mono ?_
  rintro e w7 ⟨rfl, hb7⟩
  replace e0 := keep hb7 e0
  have z9 := hb7.size
  replace HO2 := Lib.hid (gow_Design.frame _ _ _ _ _ HO2.out fun b hb => hb7.block b (by have := (HB2.out b hb).2; omega))
  have HX9 := Lib.hid (bThen HX8.out hb7)
  clear hb7 d0 x0
  go_wp2_with fail
  refine (heldDesign_num sampleD _ 1 _ (rds_Design _ _ _ _ _ _ HO2.out fun b hb => HB2.out b hb) (by omega) (by omega) (by decide)).mono ?_
  rintro e w8 ⟨rfl, hb8⟩
  rw [HQ.out]
  have HX10 := Lib.hid (bThen HW1.out (bThen HX9.out hb8))
  clear hb8
  go_wp2
  go_ret
  exact ⟨rfl, HX10.out⟩
end Go.Proofs.Ytllddjkdjdohhaa
