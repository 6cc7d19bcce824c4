/-
  The walk of the exact law over valid flat modules.
-/
import Derived.Test.YtdfcbccpdflbfaaDmAll
import Derived.Test.YtdfcbccpdflbfaaDzAll
import Derived.Test.YtdfcbccpdflbfaaSFlat
import Derived.Test.YtdfcbccpdflbfaaIFlat
import Derived.Deep.CutRange
import Derived.Deep.RegionLaw
namespace Go.Proofs.Ytdfcbccpdflbfaa
open Go.RowKit
set_option linter.unusedVariables false
set_option linter.unusedSimpArgs false


set_option maxRecDepth 100000 in
set_option maxHeartbeats 12800000 in
theorem exactFlat_walk (u0 u1 u2 u3 : Value) (z : DModule) (w : World) (hw : rdModule 0 w.heap.size w [u0, u1, u2, u3] z) :
    Calls Try.prog 7 #[.agg #[u0, u1, u2, u3]] w fun e w' => e = .returned (.bool true) ∧ Below w.heap.size w w' := by
  have HD := Lib.hid hw
  obtain ⟨a0, a1, a2, a3, de, h0, h1, h2, h3⟩ := hw
  injection de with d0 de
  injection de with d1 de
  injection de with d2 de
  injection de with d3 de
  subst d0 d1 d2 d3
  clear de
  obtain ⟨zA0, zc0, ue0, um0, -⟩ := h0
  injection ue0 with ue0
  subst ue0
  unfold maxLen at um0
  obtain ⟨zA1, zc1, ue1, um1, -⟩ := h1
  injection ue1 with ue1
  subst ue1
  unfold maxLen at um1
  obtain ⟨zA2, zc2, ue2, um2, -⟩ := h2
  injection ue2 with ue2
  subst ue2
  unfold maxLen at um2
  obtain ⟨zA3, zc3, ue3, um3, -⟩ := h3
  injection ue3 with ue3
  subst ue3
  unfold maxLen at um3
  obtain ⟨d, hd⟩ : ∃ d : Bool, flatB z = d := ⟨_, rfl⟩
  have HV := Lib.hid hd
  clear hd
  have hle : w.heap.size ≤ w.heap.size := Nat.le_refl _
  have HLE := Lib.hid hle
  clear hle
  go_enter Try.func7, Try.ntmps7
  go_wp2_with fail
  refine (szModule_post z [.slice zA0 (z.1).length zc0, .slice zA1 (z.2.1).length zc1, .slice zA2 (z.2.2.1).length zc2, .slice zA3 (z.2.2.2).length zc3] 1048576 _ (good_Module.below HD.out HLE.out (by (repeat' (first | assumption | exact Below.refl _ _ | refine bDrewN ?_ _ | refine Below.drew ?_ | refine bAlloc ?_ (Nat.le_refl _) _ | refine bSet ?_ (by first | exact Nat.le_refl _ | omega | (simp <;> omega)) _)))) (by simp <;> omega) (by omega) (by omega)).mono ?_
  rintro e w1 ⟨r, rfl, hr, hb⟩
  have g := box1 hb
  have c0 : w1.cell? ⟨w.heap.size, 0, none⟩ = some (.slice zA0 (z.1).length zc0) := box_cell g.1 0 _ rfl
  have c1 : w1.cell? ⟨w.heap.size, 1, none⟩ = some (.slice zA1 (z.2.1).length zc1) := box_cell g.1 1 _ rfl
  have c2 : w1.cell? ⟨w.heap.size, 2, none⟩ = some (.slice zA2 (z.2.2.1).length zc2) := box_cell g.1 2 _ rfl
  have c3 : w1.cell? ⟨w.heap.size, 3, none⟩ = some (.slice zA3 (z.2.2.2).length zc3) := box_cell g.1 3 _ rfl
  have HW1 := Lib.hid g.2
  have hB1 : w.heap.size < w1.heap.size := World.block_lt_of_cell? _ _ c0
  clear hb g
  rcases hr with rfl | ⟨p, q, s0⟩
  · go_wp2
    go_ret
    exact ⟨rfl, HW1.out⟩
  have t0 : ¬ r < 0 := by omega
  have HS := Lib.hid s0
  clear s0
  go_wp2_with fail
  refine (toModule_any z [.slice zA0 (z.1).length zc0, .slice zA1 (z.2.1).length zc1, .slice zA2 (z.2.2.1).length zc2, .slice zA3 (z.2.2.2).length zc3] _ (good_Module.below HD.out HLE.out HW1.out) HW1.out.size HS.out).mono ?_
  rintro e w2 ⟨us2, rfl, h2, hb2⟩
  have H2 := Lib.hid h2
  replace c0 := keep hb2 c0
  replace c1 := keep hb2 c1
  replace c2 := keep hb2 c2
  replace c3 := keep hb2 c3
  have HW2 := Lib.hid (bThen HW1.out hb2)
  have z12 := hb2.size
  obtain ⟨p0, p1, p2, p3, rfl, -⟩ := h2
  clear hb2
  go_wp2_with fail
  refine (specFlat_at z _ _ H2.out (Nat.le_refl _) HV.out).mono ?_
  rintro e w3 ⟨rfl, hb3⟩
  replace c0 := keep hb3 c0
  replace c1 := keep hb3 c1
  replace c2 := keep hb3 c2
  replace c3 := keep hb3 c3
  have HW3 := Lib.hid (bThen HW2.out hb3)
  have z23 := hb3.size
  clear hb3
  go_wp2_with fail
  refine (toModule_w z [.slice zA0 (z.1).length zc0, .slice zA1 (z.2.1).length zc1, .slice zA2 (z.2.2.1).length zc2, .slice zA3 (z.2.2.2).length zc3] _ (good_Module.below HD.out HLE.out HW3.out) HW3.out.size HS.out).mono ?_
  rintro e w4 ⟨us4, rfl, h4, hb4⟩
  have H4 := Lib.hid h4
  replace c0 := keep hb4 c0
  replace c1 := keep hb4 c1
  replace c2 := keep hb4 c2
  replace c3 := keep hb4 c3
  have HW4 := Lib.hid (bThen HW3.out hb4)
  have z34 := hb4.size
  obtain ⟨x0, x1, x2, x3, rfl, g0, g1, g2, g3⟩ := h4
  obtain ⟨xA0, xc0, xe0, -⟩ := g0
  injection xe0 with xe0
  subst xe0
  obtain ⟨xA1, xc1, xe1, -⟩ := g1
  injection xe1 with xe1
  subst xe1
  obtain ⟨xA2, xc2, xe2, -⟩ := g2
  injection xe2 with xe2
  subst xe2
  obtain ⟨xA3, xc3, xe3, -⟩ := g3
  injection xe3 with xe3
  subst xe3
  have clt : w.heap.size < w4.heap.size := World.block_lt_of_cell? _ _ c0
  clear hb4
  go_wp2_with fail
  obtain ⟨V, hV⟩ : ∃ V, V = w4.alloc (.cells #[.slice xA0 (z.1).length xc0, .slice xA1 (z.2.1).length xc1, .slice xA2 (z.2.2.1).length xc2, .slice xA3 (z.2.2.2).length xc3] 35) := ⟨_, rfl⟩
  rw [← hV]
  have g := eqbox1 hV
  have x0 : V.cell? ⟨w4.heap.size, 0, none⟩ = some (.slice xA0 (z.1).length xc0) := box_cell g.1 0 _ rfl
  have x1 : V.cell? ⟨w4.heap.size, 1, none⟩ = some (.slice xA1 (z.2.1).length xc1) := box_cell g.1 1 _ rfl
  have x2 : V.cell? ⟨w4.heap.size, 2, none⟩ = some (.slice xA2 (z.2.2.1).length xc2) := box_cell g.1 2 _ rfl
  have x3 : V.cell? ⟨w4.heap.size, 3, none⟩ = some (.slice xA3 (z.2.2.2).length xc3) := box_cell g.1 3 _ rfl
  replace c0 := keep g.2 c0
  replace c1 := keep g.2 c1
  replace c2 := keep g.2 c2
  replace c3 := keep g.2 c3
  have HVV := Lib.hid g.2
  have zV : V.heap.size = w4.heap.size + 1 := by rw [hV]; simp
  clear hV g clt
  refine (implFlat_at z _ _ (good_Module.below (le_Module _ _ _ _ _ H4.out) (Nat.le_refl _) HVV.out) HVV.out.size HV.out).mono ?_
  rintro e w5 ⟨rfl, hb5⟩
  replace c0 := keep hb5 c0
  replace c1 := keep hb5 c1
  replace c2 := keep hb5 c2
  replace c3 := keep hb5 c3
  replace x0 := keep hb5 x0
  replace x1 := keep hb5 x1
  replace x2 := keep hb5 x2
  replace x3 := keep hb5 x3
  have HX5 := Lib.hid (bThen HVV.out hb5)
  have HW5 := Lib.hid (bThen HW4.out (bThen HVV.out hb5))
  have z5 := hb5.size
  clear hb5
  go_wp2
  have clt : w.heap.size < w5.heap.size := World.block_lt_of_cell? _ _ c0
  have xlt : w4.heap.size < w5.heap.size := World.block_lt_of_cell? _ _ x0
  go_cut [26] from 22 to 26 (fun v wx => v = .bool false ∧ Below w5.heap.size w5 wx)
  case first =>
    go_region_law (first | (go_simp; go_at_call 23; refine (toModule_any z [.slice zA0 (z.1).length zc0, .slice zA1 (z.2.1).length zc1, .slice zA2 (z.2.2.1).length zc2, .slice zA3 (z.2.2.2).length zc3] _ (good_Module.below HD.out HLE.out (bThen HW5.out (by (repeat' (first | assumption | exact Below.refl _ _ | refine bDrewN ?_ _ | refine Below.drew ?_ | refine bAlloc ?_ (Nat.le_refl _) _ | refine bSet ?_ (by first | exact Nat.le_refl _ | omega | (simp <;> omega)) _))))) (bThen HW5.out (by (repeat' (first | assumption | exact Below.refl _ _ | refine bDrewN ?_ _ | refine Below.drew ?_ | refine bAlloc ?_ (Nat.le_refl _) _ | refine bSet ?_ (by first | exact Nat.le_refl _ | omega | (simp <;> omega)) _)))).size HS.out).mono ?_; rintro e w7 ⟨us7, rfl, h7, hb7⟩; have H7 := Lib.hid h7; obtain ⟨r0, r1, r2, r3, rfl, -⟩ := h7; have HW7 := Lib.hid (show Below w5.heap.size w5 w7 from bThen (by (repeat' (first | assumption | exact Below.refl _ _ | refine bDrewN ?_ _ | refine Below.drew ?_ | refine bAlloc ?_ (Nat.le_refl _) _ | refine bSet ?_ (by first | exact Nat.le_refl _ | omega | (simp <;> omega)) _))) hb7); have y0 := keep HW7.out x0; have y1 := keep HW7.out x1; have y2 := keep HW7.out x2; have y3 := keep HW7.out x3; clear hb7) | (go_simp; go_at_call 26; refine (eqModule_any z [.slice xA0 (z.1).length xc0, .slice xA1 (z.2.1).length xc1, .slice xA2 (z.2.2.1).length xc2, .slice xA3 (z.2.2.2).length xc3] _ _ (good_Module.below (le_Module _ _ _ _ _ H4.out) (Nat.le_refl _) (bThen HX5.out (bThen HW7.out (by (repeat' (first | assumption | exact Below.refl _ _ | refine bDrewN ?_ _ | refine Below.drew ?_ | refine bAlloc ?_ (Nat.le_refl _) _ | refine bSet ?_ (by first | exact Nat.le_refl _ | omega | (simp <;> omega)) _)))))) (good_Module.below H7.out (Nat.le_refl _) (by first | exact Below.refl _ _ | (repeat' (first | assumption | exact Below.refl _ _ | refine bDrewN ?_ _ | refine Below.drew ?_ | refine bAlloc ?_ (Nat.le_refl _) _ | refine bSet ?_ (by first | exact Nat.le_refl _ | omega | (simp <;> omega)) _)))) (bThen HX5.out (bThen HW7.out (by (repeat' (first | assumption | exact Below.refl _ _ | refine bDrewN ?_ _ | refine Below.drew ?_ | refine bAlloc ?_ (Nat.le_refl _) _ | refine bSet ?_ (by first | exact Nat.le_refl _ | omega | (simp <;> omega)) _))))).size (by first | exact Nat.le_refl _ | (simp <;> omega))).mono ?_; rintro e w8 ⟨rfl, hb8⟩; have HW8 := Lib.hid (show Below w5.heap.size w5 w8 from bThen HW7.out (bThen (by (repeat' (first | assumption | exact Below.refl _ _ | refine bDrewN ?_ _ | refine Below.drew ?_ | refine bAlloc ?_ (Nat.le_refl _) _ | refine bSet ?_ (by first | exact Nat.le_refl _ | omega | (simp <;> omega)) _))) hb8)); clear hb8))
    all_goals (go_wp2_with fail; go_meet; exact ⟨rfl, HW8.out⟩)
  case rest =>
    obtain ⟨rfl, hbr⟩ := hcut
    have HB := Lib.hid (bThen HW5.out hbr)
    clear hbr
    go_wp2
    go_ret
    exact ⟨rfl, HB.out⟩
end Go.Proofs.Ytdfcbccpdflbfaa
