/-
  The walks of exact laws over designs.
-/
import Derived.Test.YtllddjkdjdohhaaSDes
import Derived.Test.YtllddjkdjdohhaaDzDesign
import Derived.Deep.CutRange
import Derived.Deep.RegionLaw
namespace Go.Proofs.Ytllddjkdjdohhaa
open Go.RowKit
set_option linter.unusedVariables false
set_option linter.unusedSimpArgs false

set_option maxRecDepth 100000 in
set_option maxHeartbeats 12800000 in
theorem exactModuleOk_walk (u : Value) (z : DDesign) (k : Int) (w : World) (hw : rdDesign 0 w.heap.size w [u] z) :
    Calls Try.prog 9 #[.agg #[u], .int .i64 k] w fun e w' => e = .returned (.bool true) ∧ Below w.heap.size w w' := by
  have HD := Lib.hid hw
  obtain ⟨du, de, dh⟩ := hw
  injection de with de
  subst de
  obtain ⟨uA, uc, ue, um, -⟩ := dh
  injection ue with ue
  subst ue
  unfold maxLen at um
  obtain ⟨d, hd⟩ : ∃ d : Bool, moduleB z k = d := ⟨_, rfl⟩
  have HV := Lib.hid hd
  have hle : w.heap.size ≤ w.heap.size := Nat.le_refl _
  have HLE := Lib.hid hle
  clear hd hle
  go_enter Try.func9, Try.ntmps9
  go_wp2_with fail
  refine (szDesign_post z [.slice uA z.length uc] 1048576 _ (good_Design.below HD.out HLE.out (by (repeat' (first | assumption | exact Below.refl _ _ | refine bDrewN ?_ _ | refine Below.drew ?_ | refine bAlloc ?_ (Nat.le_refl _) _ | refine bSet ?_ (by first | exact Nat.le_refl _ | omega | (simp <;> omega)) _)))) (by simp <;> omega) (by omega) (by omega)).mono ?_
  rintro e w1 ⟨r, rfl, hr, hb⟩
  have g := box1 hb
  have c0 : w1.cell? ⟨w.heap.size, 0, none⟩ = some (.slice uA z.length uc) := box_cell g.1 0 _ rfl
  have HW1 := Lib.hid g.2
  clear hb g
  rcases hr with rfl | ⟨p, q, s0⟩
  · go_wp2
    go_ret
    exact ⟨rfl, HW1.out⟩
  have t0 : ¬ r < 0 := by omega
  go_wp2_with fail
  refine (toDesign_any z [.slice uA z.length uc] _ (good_Design.below HD.out HLE.out HW1.out) HW1.out.size s0).mono ?_
  rintro e w2 ⟨us2, rfl, h2, hb2⟩
  have H2 := Lib.hid h2
  obtain ⟨v2, rfl, -⟩ := h2
  replace c0 := keep hb2 c0
  have HW2 := Lib.hid (bThen HW1.out hb2)
  clear hb2
  go_wp2_with fail
  refine (specModule_at z k _ _ H2.out (Nat.le_refl _) HV.out).mono ?_
  rintro e w3 ⟨rfl, hb3⟩
  replace c0 := keep hb3 c0
  have HW3 := Lib.hid (bThen HW2.out hb3)
  clear hb3
  go_wp2_with fail
  refine (toDesign_any z [.slice uA z.length uc] _ (good_Design.below HD.out HLE.out HW3.out) HW3.out.size s0).mono ?_
  rintro e w4 ⟨us4, rfl, h4, hb4⟩
  have H4 := Lib.hid h4
  obtain ⟨v4, rfl, hv⟩ := h4
  obtain ⟨v4A, v4c, v4e, -⟩ := hv
  injection v4e with v4e
  subst v4e
  replace c0 := keep hb4 c0
  have HW4 := Lib.hid (bThen HW3.out hb4)
  have clt : w.heap.size < w4.heap.size := World.block_lt_of_cell? _ _ c0
  clear hb4
  go_wp2_with fail
  obtain ⟨V, hV⟩ : ∃ V, V = w4.alloc (.cells #[.slice v4A z.length v4c] 26) := ⟨_, rfl⟩
  rw [← hV]
  have g := eqbox1 hV
  have x0 : V.cell? ⟨w4.heap.size, 0, none⟩ = some (.slice v4A z.length v4c) := box_cell g.1 0 _ rfl
  replace c0 := keep g.2 c0
  have HV5 := Lib.hid g.2
  clear hV g clt
  refine (implModule_at z k _ _ (good_Design.below H4.out (Nat.le_refl _) HV5.out) HV5.out.size HV.out).mono ?_
  rintro e w6 ⟨rfl, hb6⟩
  replace c0 := keep hb6 c0
  replace x0 := keep hb6 x0
  have HX := Lib.hid (bThen HV5.out hb6)
  have HW6 := Lib.hid (bThen (bThen HW4.out HV5.out) hb6)
  clear hb6
  go_wp2
  have clt : w.heap.size < w6.heap.size := World.block_lt_of_cell? _ _ c0
  have xlt : w4.heap.size < w6.heap.size := World.block_lt_of_cell? _ _ x0
  have HS := Lib.hid s0
  clear s0
  go_cut [30] from 26 to 30 (fun v wx => v = .bool false ∧ Below w6.heap.size w6 wx)
  case first =>
    go_region_law (first | (go_simp; go_at_call 39; refine (toDesign_any z [.slice uA z.length uc] _ (good_Design.below HD.out HLE.out (bThen HW6.out (by (repeat' (first | assumption | exact Below.refl _ _ | refine bDrewN ?_ _ | refine Below.drew ?_ | refine bAlloc ?_ (Nat.le_refl _) _ | refine bSet ?_ (by first | exact Nat.le_refl _ | omega | (simp <;> omega)) _))))) (bThen HW6.out (by (repeat' (first | assumption | exact Below.refl _ _ | refine bDrewN ?_ _ | refine Below.drew ?_ | refine bAlloc ?_ (Nat.le_refl _) _ | refine bSet ?_ (by first | exact Nat.le_refl _ | omega | (simp <;> omega)) _)))).size HS.out).mono ?_; rintro e w7 ⟨us7, rfl, h7, hb7⟩; have H7 := Lib.hid h7; obtain ⟨v7, rfl, -⟩ := h7; have HW7 := Lib.hid (show Below w6.heap.size w6 w7 from bThen (by (repeat' (first | assumption | exact Below.refl _ _ | refine bDrewN ?_ _ | refine Below.drew ?_ | refine bAlloc ?_ (Nat.le_refl _) _ | refine bSet ?_ (by first | exact Nat.le_refl _ | omega | (simp <;> omega)) _))) hb7); have x7 := keep HW7.out x0; clear hb7) | (go_simp; go_at_call 40; refine (eqDesign_any z [.slice v4A z.length v4c] _ _ (good_Design.below H4.out (Nat.le_refl _) (bThen HX.out (bThen HW7.out (by (repeat' (first | assumption | exact Below.refl _ _ | refine bDrewN ?_ _ | refine Below.drew ?_ | refine bAlloc ?_ (Nat.le_refl _) _ | refine bSet ?_ (by first | exact Nat.le_refl _ | omega | (simp <;> omega)) _)))))) (good_Design.below H7.out (Nat.le_refl _) (by first | exact Below.refl _ _ | (repeat' (first | assumption | exact Below.refl _ _ | refine bDrewN ?_ _ | refine Below.drew ?_ | refine bAlloc ?_ (Nat.le_refl _) _ | refine bSet ?_ (by first | exact Nat.le_refl _ | omega | (simp <;> omega)) _)))) (bThen HX.out (bThen HW7.out (by (repeat' (first | assumption | exact Below.refl _ _ | refine bDrewN ?_ _ | refine Below.drew ?_ | refine bAlloc ?_ (Nat.le_refl _) _ | refine bSet ?_ (by first | exact Nat.le_refl _ | omega | (simp <;> omega)) _))))).size (by first | exact Nat.le_refl _ | (simp <;> omega))).mono ?_; rintro e w8 ⟨rfl, hb8⟩; have HW8 := Lib.hid (show Below w6.heap.size w6 w8 from bThen HW7.out (bThen (by (repeat' (first | assumption | exact Below.refl _ _ | refine bDrewN ?_ _ | refine Below.drew ?_ | refine bAlloc ?_ (Nat.le_refl _) _ | refine bSet ?_ (by first | exact Nat.le_refl _ | omega | (simp <;> omega)) _))) hb8)); clear hb8))
    all_goals (go_wp2_with fail; go_meet; exact ⟨rfl, HW8.out⟩)
  case rest =>
    obtain ⟨rfl, hbr⟩ := hcut
    have HB := Lib.hid (bThen HW6.out hbr)
    clear hbr
    go_wp2
    go_ret
    exact ⟨rfl, HB.out⟩

set_option maxRecDepth 100000 in
set_option maxHeartbeats 12800000 in
theorem exactDesignOk_walk (u : Value) (z : DDesign)  (w : World) (hw : rdDesign 0 w.heap.size w [u] z) :
    Calls Try.prog 10 #[.agg #[u]] w fun e w' => e = .returned (.bool true) ∧ Below w.heap.size w w' := by
  have HD := Lib.hid hw
  obtain ⟨du, de, dh⟩ := hw
  injection de with de
  subst de
  obtain ⟨uA, uc, ue, um, -⟩ := dh
  injection ue with ue
  subst ue
  unfold maxLen at um
  obtain ⟨d, hd⟩ : ∃ d : Bool, designB z = d := ⟨_, rfl⟩
  have HV := Lib.hid hd
  have hle : w.heap.size ≤ w.heap.size := Nat.le_refl _
  have HLE := Lib.hid hle
  clear hd hle
  go_enter Try.func10, Try.ntmps10
  go_wp2_with fail
  refine (szDesign_post z [.slice uA z.length uc] 1048576 _ (good_Design.below HD.out HLE.out (by (repeat' (first | assumption | exact Below.refl _ _ | refine bDrewN ?_ _ | refine Below.drew ?_ | refine bAlloc ?_ (Nat.le_refl _) _ | refine bSet ?_ (by first | exact Nat.le_refl _ | omega | (simp <;> omega)) _)))) (by simp <;> omega) (by omega) (by omega)).mono ?_
  rintro e w1 ⟨r, rfl, hr, hb⟩
  have g := box1 hb
  have c0 : w1.cell? ⟨w.heap.size, 0, none⟩ = some (.slice uA z.length uc) := box_cell g.1 0 _ rfl
  have HW1 := Lib.hid g.2
  clear hb g
  rcases hr with rfl | ⟨p, q, s0⟩
  · go_wp2
    go_ret
    exact ⟨rfl, HW1.out⟩
  have t0 : ¬ r < 0 := by omega
  go_wp2_with fail
  refine (toDesign_any z [.slice uA z.length uc] _ (good_Design.below HD.out HLE.out HW1.out) HW1.out.size s0).mono ?_
  rintro e w2 ⟨us2, rfl, h2, hb2⟩
  have H2 := Lib.hid h2
  obtain ⟨v2, rfl, -⟩ := h2
  replace c0 := keep hb2 c0
  have HW2 := Lib.hid (bThen HW1.out hb2)
  clear hb2
  go_wp2_with fail
  refine (specDesign_at z _ _ H2.out (Nat.le_refl _) HV.out).mono ?_
  rintro e w3 ⟨rfl, hb3⟩
  replace c0 := keep hb3 c0
  have HW3 := Lib.hid (bThen HW2.out hb3)
  clear hb3
  go_wp2_with fail
  refine (toDesign_any z [.slice uA z.length uc] _ (good_Design.below HD.out HLE.out HW3.out) HW3.out.size s0).mono ?_
  rintro e w4 ⟨us4, rfl, h4, hb4⟩
  have H4 := Lib.hid h4
  obtain ⟨v4, rfl, hv⟩ := h4
  obtain ⟨v4A, v4c, v4e, -⟩ := hv
  injection v4e with v4e
  subst v4e
  replace c0 := keep hb4 c0
  have HW4 := Lib.hid (bThen HW3.out hb4)
  have clt : w.heap.size < w4.heap.size := World.block_lt_of_cell? _ _ c0
  clear hb4
  go_wp2_with fail
  obtain ⟨V, hV⟩ : ∃ V, V = w4.alloc (.cells #[.slice v4A z.length v4c] 26) := ⟨_, rfl⟩
  rw [← hV]
  have g := eqbox1 hV
  have x0 : V.cell? ⟨w4.heap.size, 0, none⟩ = some (.slice v4A z.length v4c) := box_cell g.1 0 _ rfl
  replace c0 := keep g.2 c0
  have HV5 := Lib.hid g.2
  clear hV g clt
  refine (implDesign_at z _ _ (good_Design.below H4.out (Nat.le_refl _) HV5.out) HV5.out.size HV.out).mono ?_
  rintro e w6 ⟨rfl, hb6⟩
  replace c0 := keep hb6 c0
  replace x0 := keep hb6 x0
  have HX := Lib.hid (bThen HV5.out hb6)
  have HW6 := Lib.hid (bThen (bThen HW4.out HV5.out) hb6)
  clear hb6
  go_wp2
  have clt : w.heap.size < w6.heap.size := World.block_lt_of_cell? _ _ c0
  have xlt : w4.heap.size < w6.heap.size := World.block_lt_of_cell? _ _ x0
  have HS := Lib.hid s0
  clear s0
  go_cut [26] from 22 to 26 (fun v wx => v = .bool false ∧ Below w6.heap.size w6 wx)
  case first =>
    go_region_law (first | (go_simp; go_at_call 39; refine (toDesign_any z [.slice uA z.length uc] _ (good_Design.below HD.out HLE.out (bThen HW6.out (by (repeat' (first | assumption | exact Below.refl _ _ | refine bDrewN ?_ _ | refine Below.drew ?_ | refine bAlloc ?_ (Nat.le_refl _) _ | refine bSet ?_ (by first | exact Nat.le_refl _ | omega | (simp <;> omega)) _))))) (bThen HW6.out (by (repeat' (first | assumption | exact Below.refl _ _ | refine bDrewN ?_ _ | refine Below.drew ?_ | refine bAlloc ?_ (Nat.le_refl _) _ | refine bSet ?_ (by first | exact Nat.le_refl _ | omega | (simp <;> omega)) _)))).size HS.out).mono ?_; rintro e w7 ⟨us7, rfl, h7, hb7⟩; have H7 := Lib.hid h7; obtain ⟨v7, rfl, -⟩ := h7; have HW7 := Lib.hid (show Below w6.heap.size w6 w7 from bThen (by (repeat' (first | assumption | exact Below.refl _ _ | refine bDrewN ?_ _ | refine Below.drew ?_ | refine bAlloc ?_ (Nat.le_refl _) _ | refine bSet ?_ (by first | exact Nat.le_refl _ | omega | (simp <;> omega)) _))) hb7); have x7 := keep HW7.out x0; clear hb7) | (go_simp; go_at_call 40; refine (eqDesign_any z [.slice v4A z.length v4c] _ _ (good_Design.below H4.out (Nat.le_refl _) (bThen HX.out (bThen HW7.out (by (repeat' (first | assumption | exact Below.refl _ _ | refine bDrewN ?_ _ | refine Below.drew ?_ | refine bAlloc ?_ (Nat.le_refl _) _ | refine bSet ?_ (by first | exact Nat.le_refl _ | omega | (simp <;> omega)) _)))))) (good_Design.below H7.out (Nat.le_refl _) (by first | exact Below.refl _ _ | (repeat' (first | assumption | exact Below.refl _ _ | refine bDrewN ?_ _ | refine Below.drew ?_ | refine bAlloc ?_ (Nat.le_refl _) _ | refine bSet ?_ (by first | exact Nat.le_refl _ | omega | (simp <;> omega)) _)))) (bThen HX.out (bThen HW7.out (by (repeat' (first | assumption | exact Below.refl _ _ | refine bDrewN ?_ _ | refine Below.drew ?_ | refine bAlloc ?_ (Nat.le_refl _) _ | refine bSet ?_ (by first | exact Nat.le_refl _ | omega | (simp <;> omega)) _))))).size (by first | exact Nat.le_refl _ | (simp <;> omega))).mono ?_; rintro e w8 ⟨rfl, hb8⟩; have HW8 := Lib.hid (show Below w6.heap.size w6 w8 from bThen HW7.out (bThen (by (repeat' (first | assumption | exact Below.refl _ _ | refine bDrewN ?_ _ | refine Below.drew ?_ | refine bAlloc ?_ (Nat.le_refl _) _ | refine bSet ?_ (by first | exact Nat.le_refl _ | omega | (simp <;> omega)) _))) hb8)); clear hb8))
    all_goals (go_wp2_with fail; go_meet; exact ⟨rfl, HW8.out⟩)
  case rest =>
    obtain ⟨rfl, hbr⟩ := hcut
    have HB := Lib.hid (bThen HW6.out hbr)
    clear hbr
    go_wp2
    go_ret
    exact ⟨rfl, HB.out⟩
end Go.Proofs.Ytllddjkdjdohhaa
