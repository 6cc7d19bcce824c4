/-
  The walks of the exact laws over the widths of ports and the order of evaluation.
-/
import Derived.Test.YtdfcbccpdflbfaaDmAll
import Derived.Test.YtdfcbccpdflbfaaDzAll
import Derived.Test.YtdfcbccpdflbfaaIPw
import Derived.Test.YtdfcbccpdflbfaaSEv
import Derived.Test.YtdfcbccpdflbfaaIEv
import Derived.Deep.CutRange
import Derived.Deep.RegionLaw
namespace Go.Proofs.Ytdfcbccpdflbfaa
open Go.RowKit
set_option linter.unusedVariables false
set_option linter.unusedSimpArgs false

/-- An owned slice hangs on its own block alone. -/
theorem OwnsI.at {w w' : World} {B : Nat} {v : Value} {L : List Int} (h : OwnsI w B v L) (hk : ∀ j, v.ownBlock = some j → w'.heap[j]? = w.heap[j]?) : OwnsI w' B v L := by
  obtain ⟨h1, h2⟩ := h
  refine ⟨h1, ?_⟩
  rcases h2 with h2 | ⟨g, cap, cur, rfl, e2, e3, e4⟩
  · exact .inl h2
  · exact .inr ⟨g, cap, cur, rfl, e2, (hk g rfl).trans e3, e4⟩
theorem below_of_sims {B T S : Nat} {w w1 w2 : World} (hb : Below w.heap.size w w1) (h : Sims B T w1 w2) (hS : w.heap.size ≤ B) : Below w.heap.size w w2 :=
  ⟨h.os.trans hb.os, h.tape.trans hb.tape, h.output.trans hb.output, Nat.le_trans hb.size h.size, fun k hk => (h.block k (Nat.lt_of_lt_of_le hk hb.size) (.inl (Nat.lt_of_lt_of_le hk hS))).trans (hb.block k hk)⟩
theorem grown_at {w w' : World} {row : Option Nat} (h : w.grownBy w' row) {p : Addr} {v : Value} (hc : w.cell? p = some v) (hne : row ≠ some p.block) : w'.cell? p = some v := by
  rw [World.cell?_of_block (h.block p.block (World.block_lt_of_cell? _ _ hc) (fun e => hne e.symm))]; exact hc

theorem specWidths_at (x : DModule) (q : Int) (us : List Value) {B T : Nat} {L : List Int} (w : World) (h : rdModule B T w us x) (hT : T ≤ w.heap.size) (hL : widthsL x q = L) :
    Calls Try.prog 22 #[.agg us.toArray, .int .i64 q] w fun e w' => ∃ v, e = .returned v ∧ OwnsI w' w.heap.size v L ∧ Below w.heap.size w w' := by
  subst hL; exact specWidths_any x q us w h hT
theorem implWidths_at (x : DModule) (q : Int) (us : List Value) {B T : Nat} {L : List Int} (w : World) (h : rdModule B T w us x) (hT : T ≤ w.heap.size) (hL : widthsL x q = L) :
    Calls Try.prog 24 #[.agg us.toArray, .int .i64 q] w fun e w' => ∃ v, e = .returned v ∧ OwnsI w' w.heap.size v L ∧ Below w.heap.size w w' := by
  subst hL; exact implWidths_any x q us w h hT

set_option maxRecDepth 100000 in
set_option maxHeartbeats 12800000 in
theorem exactWidths_walk (u0 u1 u2 u3 : Value) (z : DModule) (kq : Int) (w : World) (hw : rdModule 0 w.heap.size w [u0, u1, u2, u3] z) :
    Calls Try.prog 5 #[.agg #[u0, u1, u2, u3], .int .i64 kq] w fun e w' => e = .returned (.bool true) ∧ Below w.heap.size w w' := by
  have HD := Lib.hid hw
  obtain ⟨a0, a1, a2, a3, de, h0, h1, h2, h3⟩ := hw
  injection de with d0 de
  injection de with d1 de
  injection de with d2 de
  injection de with d3 de
  subst d0 d1 d2 d3
  clear de
  obtain ⟨zA0, zc0, ue0, um0, -⟩ := h0
  injection ue0 with ue0
  subst ue0
  unfold maxLen at um0
  obtain ⟨zA1, zc1, ue1, um1, -⟩ := h1
  injection ue1 with ue1
  subst ue1
  unfold maxLen at um1
  obtain ⟨zA2, zc2, ue2, um2, -⟩ := h2
  injection ue2 with ue2
  subst ue2
  unfold maxLen at um2
  obtain ⟨zA3, zc3, ue3, um3, -⟩ := h3
  injection ue3 with ue3
  subst ue3
  unfold maxLen at um3
  obtain ⟨pl, hpl0⟩ : ∃ pl, widthsL z kq = pl := ⟨_, rfl⟩
  have HPL := Lib.hid hpl0
  have hpl : pl.length ≤ 30 := by rw [← hpl0]; exact widthsL_len z kq
  clear hpl0
  have hle : w.heap.size ≤ w.heap.size := Nat.le_refl _
  have HLE := Lib.hid hle
  clear hle
  go_enter Try.func5, Try.ntmps5
  go_wp2_with fail
  refine (szModule_post z [.slice zA0 (z.1).length zc0, .slice zA1 (z.2.1).length zc1, .slice zA2 (z.2.2.1).length zc2, .slice zA3 (z.2.2.2).length zc3] 1048576 _ (good_Module.below HD.out HLE.out (by (repeat' (first | assumption | exact Below.refl _ _ | refine bDrewN ?_ _ | refine Below.drew ?_ | refine bAlloc ?_ (Nat.le_refl _) _ | refine bSet ?_ (by first | exact Nat.le_refl _ | omega | (simp <;> omega)) _)))) (by simp <;> omega) (by omega) (by omega)).mono ?_
  rintro e w1 ⟨r, rfl, hr, hb⟩
  have g := box1 hb
  have c0 : w1.cell? ⟨w.heap.size, 0, none⟩ = some (.slice zA0 (z.1).length zc0) := box_cell g.1 0 _ rfl
  have c1 : w1.cell? ⟨w.heap.size, 1, none⟩ = some (.slice zA1 (z.2.1).length zc1) := box_cell g.1 1 _ rfl
  have c2 : w1.cell? ⟨w.heap.size, 2, none⟩ = some (.slice zA2 (z.2.2.1).length zc2) := box_cell g.1 2 _ rfl
  have c3 : w1.cell? ⟨w.heap.size, 3, none⟩ = some (.slice zA3 (z.2.2.2).length zc3) := box_cell g.1 3 _ rfl
  have HW1 := Lib.hid g.2
  have hB1 : w.heap.size < w1.heap.size := World.block_lt_of_cell? _ _ c0
  clear hb g
  rcases hr with rfl | ⟨p, q, s0⟩
  · go_wp2
    go_ret
    exact ⟨rfl, HW1.out⟩
  have t0 : ¬ r < 0 := by omega
  have HS := Lib.hid s0
  clear s0
  go_wp2_with fail
  refine (toModule_any z [.slice zA0 (z.1).length zc0, .slice zA1 (z.2.1).length zc1, .slice zA2 (z.2.2.1).length zc2, .slice zA3 (z.2.2.2).length zc3] _ (good_Module.below HD.out HLE.out HW1.out) HW1.out.size HS.out).mono ?_
  rintro e w2 ⟨us2, rfl, h2, hb2⟩
  have H2 := Lib.hid h2
  replace c0 := keep hb2 c0
  replace c1 := keep hb2 c1
  replace c2 := keep hb2 c2
  replace c3 := keep hb2 c3
  have HW2 := Lib.hid (bThen HW1.out hb2)
  have z12 := hb2.size
  obtain ⟨p0, p1, p2, p3, rfl, -⟩ := h2
  clear hb2
  go_wp2_with fail
  refine (specWidths_at z kq _ _ H2.out (Nat.le_refl _) HPL.out).mono ?_
  rintro e w3 ⟨v4, rfl, o4, hb3⟩
  have O4 := Lib.hid o4
  have L4 := Lib.hid o4.lt
  replace c0 := keep hb3 c0
  replace c1 := keep hb3 c1
  replace c2 := keep hb3 c2
  replace c3 := keep hb3 c3
  have HW3 := Lib.hid (bThen HW2.out hb3)
  have z23 := hb3.size
  clear hb3 o4
  go_wp2_with fail
  refine (toModule_w z [.slice zA0 (z.1).length zc0, .slice zA1 (z.2.1).length zc1, .slice zA2 (z.2.2.1).length zc2, .slice zA3 (z.2.2.2).length zc3] _ (good_Module.below HD.out HLE.out HW3.out) HW3.out.size HS.out).mono ?_
  rintro e w4 ⟨us4, rfl, h4, hb4⟩
  have H4 := Lib.hid h4
  replace c0 := keep hb4 c0
  replace c1 := keep hb4 c1
  replace c2 := keep hb4 c2
  replace c3 := keep hb4 c3
  have HW4 := Lib.hid (bThen HW3.out hb4)
  replace O4 := Lib.hid (O4.out.below hb4)
  have z34 := hb4.size
  obtain ⟨x0, x1, x2, x3, rfl, g0, g1, g2, g3⟩ := h4
  obtain ⟨xA0, xc0, xe0, -⟩ := g0
  injection xe0 with xe0
  subst xe0
  obtain ⟨xA1, xc1, xe1, -⟩ := g1
  injection xe1 with xe1
  subst xe1
  obtain ⟨xA2, xc2, xe2, -⟩ := g2
  injection xe2 with xe2
  subst xe2
  obtain ⟨xA3, xc3, xe3, -⟩ := g3
  injection xe3 with xe3
  subst xe3
  have clt : w.heap.size < w4.heap.size := World.block_lt_of_cell? _ _ c0
  clear hb4
  go_wp2_with fail
  obtain ⟨V, hV⟩ : ∃ V, V = w4.alloc (.cells #[.slice xA0 (z.1).length xc0, .slice xA1 (z.2.1).length xc1, .slice xA2 (z.2.2.1).length xc2, .slice xA3 (z.2.2.2).length xc3] 35) := ⟨_, rfl⟩
  rw [← hV]
  have g := eqbox1 hV
  have x0 : V.cell? ⟨w4.heap.size, 0, none⟩ = some (.slice xA0 (z.1).length xc0) := box_cell g.1 0 _ rfl
  have x1 : V.cell? ⟨w4.heap.size, 1, none⟩ = some (.slice xA1 (z.2.1).length xc1) := box_cell g.1 1 _ rfl
  have x2 : V.cell? ⟨w4.heap.size, 2, none⟩ = some (.slice xA2 (z.2.2.1).length xc2) := box_cell g.1 2 _ rfl
  have x3 : V.cell? ⟨w4.heap.size, 3, none⟩ = some (.slice xA3 (z.2.2.2).length xc3) := box_cell g.1 3 _ rfl
  replace c0 := keep g.2 c0
  replace c1 := keep g.2 c1
  replace c2 := keep g.2 c2
  replace c3 := keep g.2 c3
  replace O4 := Lib.hid (O4.out.below g.2)
  have HVV := Lib.hid g.2
  have zV : V.heap.size = w4.heap.size + 1 := by rw [hV]; simp
  clear hV g clt
  refine (implWidths_at z kq _ _ (good_Module.below (le_Module _ _ _ _ _ H4.out) (Nat.le_refl _) HVV.out) HVV.out.size HPL.out).mono ?_
  rintro e w5 ⟨v6, rfl, o6, hb5⟩
  have O6 := Lib.hid o6
  have L6 := Lib.hid o6.lt
  replace c0 := keep hb5 c0
  replace c1 := keep hb5 c1
  replace c2 := keep hb5 c2
  replace c3 := keep hb5 c3
  replace O4 := Lib.hid (O4.out.below hb5)
  replace x0 := keep hb5 x0
  replace x1 := keep hb5 x1
  replace x2 := keep hb5 x2
  replace x3 := keep hb5 x3
  have HX5 := Lib.hid (bThen HVV.out hb5)
  have HW5 := Lib.hid (bThen HW4.out (bThen HVV.out hb5))
  have z5 := hb5.size
  clear hb5 o6
  go_wp2_with fail
  refine (eqI_any _ _ v6 v4 pl _ O6.out O4.out (by omega)).mono ?_
  rintro e w6 ⟨rfl, hb6⟩
  replace c0 := keep hb6 c0
  replace c1 := keep hb6 c1
  replace c2 := keep hb6 c2
  replace c3 := keep hb6 c3
  replace O4 := Lib.hid (O4.out.below hb6)
  replace O6 := Lib.hid (O6.out.below hb6)
  replace x0 := keep hb6 x0
  replace x1 := keep hb6 x1
  replace x2 := keep hb6 x2
  replace x3 := keep hb6 x3
  have HX6 := Lib.hid (bThen HX5.out hb6)
  have HW6 := Lib.hid (bThen HW5.out hb6)
  have z6 := hb6.size
  clear hb6
  go_wp2
  have clt : w.heap.size < w6.heap.size := World.block_lt_of_cell? _ _ c0
  have xlt : w4.heap.size < w6.heap.size := World.block_lt_of_cell? _ _ x0
  go_cut [35] from 31 to 35 (fun v wx => v = .bool false ∧ Below w6.heap.size w6 wx)
  case first =>
    go_region_law (first | (go_simp; go_at_call 23; refine (toModule_any z [.slice zA0 (z.1).length zc0, .slice zA1 (z.2.1).length zc1, .slice zA2 (z.2.2.1).length zc2, .slice zA3 (z.2.2.2).length zc3] _ (good_Module.below HD.out HLE.out (bThen HW6.out (by (repeat' (first | assumption | exact Below.refl _ _ | refine bDrewN ?_ _ | refine Below.drew ?_ | refine bAlloc ?_ (Nat.le_refl _) _ | refine bSet ?_ (by first | exact Nat.le_refl _ | omega | (simp <;> omega)) _))))) (bThen HW6.out (by (repeat' (first | assumption | exact Below.refl _ _ | refine bDrewN ?_ _ | refine Below.drew ?_ | refine bAlloc ?_ (Nat.le_refl _) _ | refine bSet ?_ (by first | exact Nat.le_refl _ | omega | (simp <;> omega)) _)))).size HS.out).mono ?_; rintro e w7 ⟨us7, rfl, h7, hb7⟩; have H7 := Lib.hid h7; obtain ⟨r0, r1, r2, r3, rfl, -⟩ := h7; have HW7 := Lib.hid (show Below w6.heap.size w6 w7 from bThen (by (repeat' (first | assumption | exact Below.refl _ _ | refine bDrewN ?_ _ | refine Below.drew ?_ | refine bAlloc ?_ (Nat.le_refl _) _ | refine bSet ?_ (by first | exact Nat.le_refl _ | omega | (simp <;> omega)) _))) hb7); have y0 := keep HW7.out x0; have y1 := keep HW7.out x1; have y2 := keep HW7.out x2; have y3 := keep HW7.out x3; clear hb7) | (go_simp; go_at_call 26; refine (eqModule_any z [.slice xA0 (z.1).length xc0, .slice xA1 (z.2.1).length xc1, .slice xA2 (z.2.2.1).length xc2, .slice xA3 (z.2.2.2).length xc3] _ _ (good_Module.below (le_Module _ _ _ _ _ H4.out) (Nat.le_refl _) (bThen HX6.out (bThen HW7.out (by (repeat' (first | assumption | exact Below.refl _ _ | refine bDrewN ?_ _ | refine Below.drew ?_ | refine bAlloc ?_ (Nat.le_refl _) _ | refine bSet ?_ (by first | exact Nat.le_refl _ | omega | (simp <;> omega)) _)))))) (good_Module.below H7.out (Nat.le_refl _) (by first | exact Below.refl _ _ | (repeat' (first | assumption | exact Below.refl _ _ | refine bDrewN ?_ _ | refine Below.drew ?_ | refine bAlloc ?_ (Nat.le_refl _) _ | refine bSet ?_ (by first | exact Nat.le_refl _ | omega | (simp <;> omega)) _)))) (bThen HX6.out (bThen HW7.out (by (repeat' (first | assumption | exact Below.refl _ _ | refine bDrewN ?_ _ | refine Below.drew ?_ | refine bAlloc ?_ (Nat.le_refl _) _ | refine bSet ?_ (by first | exact Nat.le_refl _ | omega | (simp <;> omega)) _))))).size (by first | exact Nat.le_refl _ | (simp <;> omega))).mono ?_; rintro e w8 ⟨rfl, hb8⟩; have HW8 := Lib.hid (show Below w6.heap.size w6 w8 from bThen HW7.out (bThen (by (repeat' (first | assumption | exact Below.refl _ _ | refine bDrewN ?_ _ | refine Below.drew ?_ | refine bAlloc ?_ (Nat.le_refl _) _ | refine bSet ?_ (by first | exact Nat.le_refl _ | omega | (simp <;> omega)) _))) hb8)); clear hb8))
    all_goals (go_wp2_with fail; go_meet; exact ⟨rfl, HW8.out⟩)
  case rest =>
    obtain ⟨rfl, hbr⟩ := hcut
    obtain ⟨W7, hW7⟩ : ∃ W7, W7 = wc := ⟨_, rfl⟩
    rw [← hW7] at hbr ⊢
    clear hW7
    replace c0 := keep hbr c0
    replace c1 := keep hbr c1
    replace c2 := keep hbr c2
    replace c3 := keep hbr c3
    replace O4 := Lib.hid (O4.out.below hbr)
    replace O6 := Lib.hid (O6.out.below hbr)
    replace x0 := keep hbr x0
    replace x1 := keep hbr x1
    replace x2 := keep hbr x2
    replace x3 := keep hbr x3
    have HX7 := Lib.hid (bThen HX6.out hbr)
    have HW7 := Lib.hid (bThen HW6.out hbr)
    have z7 := hbr.size
    clear hbr clt xlt
    have hbig : (cntSignalS z.1 : Int) + (cntAssignS z.2.1 : Int) + (cntInstS z.2.2.1 : Int) + (cntMemS z.2.2.2 : Int) ≤ 4611686018427387000 := by
      have h := bndModule z HS.out
      unfold cntModule at h
      omega
    have HBG := Lib.hid hbig
    clear hbig
    go_wp2_with fail
    refine (markModule_arg z [.slice xA0 (z.1).length xc0, .slice xA1 (z.2.1).length xc1, .slice xA2 (z.2.2.1).length xc2, .slice xA3 (z.2.2.2).length xc3] 1 W7 W7 _ (goodw_Module.below H4.out (Nat.le_refl _) HX7.out) HX7.out.size (Sims.refl _ _ _) (Sims.refl _ _ _) (by omega) (by have := HBG.out; omega)).mono ?_
    rintro e w8 ⟨⟨km, hkm, rfl⟩, hs8, -⟩
    have tk : ¬ km < 0 := by omega
    have hB : w.heap.size < w3.heap.size := by omega
    replace O4 := Lib.hid (O4.out.at fun j hj => hs8.block j (by have := L4.out j hj; omega) (.inl (by have := L4.out j hj; omega)))
    replace O6 := Lib.hid (O6.out.at fun j hj => hs8.block j (by have := L6.out j hj; omega) (.inr (by have := L6.out j hj; omega)))
    have cc := fun (i : Nat) (v : Value) (h : W7.cell? ⟨w.heap.size, i, none⟩ = some v) => (World.cell?_of_block (w := W7) (w' := w8) (a := ⟨w.heap.size, i, none⟩) (hs8.block _ (World.block_lt_of_cell? _ _ h) (.inl (by simpa using hB)))).trans h
    replace c0 := cc 0 _ c0
    replace c1 := cc 1 _ c1
    replace c2 := cc 2 _ c2
    replace c3 := cc 3 _ c3
    have HW8 := Lib.hid (below_of_sims (S := 0) HW7.out hs8 (by omega))
    have z8 := hs8.size
    clear hs8 cc x0 x1 x2 x3 hkm
    go_wp2_with fail
    refine (eqI_any _ _ v6 v4 pl _ O6.out O4.out (by omega)).mono ?_
    rintro e w9 ⟨rfl, hb9⟩
    replace c0 := keep hb9 c0
    replace c1 := keep hb9 c1
    replace c2 := keep hb9 c2
    replace c3 := keep hb9 c3
    replace O4 := Lib.hid (O4.out.below hb9)
    replace O6 := Lib.hid (O6.out.below hb9)
    have HW9 := Lib.hid (bThen HW8.out hb9)
    have z9 := hb9.size
    clear hb9
    go_wp2_with fail
    refine (markI_any _ v6 pl _ O6.out (by omega) 1 (by omega) (by omega)).mono ?_
    rintro e w10 ⟨rfl, ho, hg⟩
    replace O6 := Lib.hid ho
    replace O4 := Lib.hid (O4.out.at fun j hj => hg.block j (by have := L4.out j hj; omega) (fun e => by have := L4.out j hj; have := L6.out j e.symm; omega))
    replace c0 := grown_at hg c0 (fun e => by have := L6.out w.heap.size e; omega)
    replace c1 := grown_at hg c1 (fun e => by have := L6.out w.heap.size e; omega)
    replace c2 := grown_at hg c2 (fun e => by have := L6.out w.heap.size e; omega)
    replace c3 := grown_at hg c3 (fun e => by have := L6.out w.heap.size e; omega)
    have HW10 := Lib.hid (HW9.out.grown hg HW9.out.size (fun j hj => by have := L6.out j hj; omega))
    have z10 := hg.size
    clear ho hg
    have HPK := Lib.hid hpl
    obtain ⟨n, hn⟩ : ∃ n, pl.length = n := ⟨_, rfl⟩
    rw [hn] at O6 hpl
    rw [hn]
    clear hn
    go_wp2_with fail
    refine (heldI_any _ v6 n _ 1 O6.out (by omega) (by omega) (by omega)).mono ?_
    rintro e w11 ⟨rfl, hb11⟩
    replace c0 := keep hb11 c0
    replace c1 := keep hb11 c1
    replace c2 := keep hb11 c2
    replace c3 := keep hb11 c3
    replace O4 := Lib.hid (O4.out.below hb11)
    replace O6 := Lib.hid (O6.out.below hb11)
    have HW11 := Lib.hid (bThen HW10.out hb11)
    clear hb11
    go_wp2_with fail
    refine (toModule_any z [.slice zA0 (z.1).length zc0, .slice zA1 (z.2.1).length zc1, .slice zA2 (z.2.2.1).length zc2, .slice zA3 (z.2.2.2).length zc3] _ (good_Module.below HD.out HLE.out HW11.out) HW11.out.size HS.out).mono ?_
    rintro e w12 ⟨us12, rfl, h12, hb12⟩
    have H12 := Lib.hid h12
    obtain ⟨p0, p1, p2, p3, rfl, -⟩ := h12
    replace O4 := Lib.hid (O4.out.below hb12)
    replace O6 := Lib.hid (O6.out.below hb12)
    have HW12 := Lib.hid (bThen HW11.out hb12)
    clear hb12 c0 c1 c2 c3
    go_wp2_with fail
    refine (implWidths_at z kq _ _ H12.out (Nat.le_refl _) HPL.out).mono ?_
    rintro e w13 ⟨v10, rfl, o10, hb13⟩
    have O10 := Lib.hid o10
    replace O4 := Lib.hid (O4.out.below hb13)
    replace O6 := Lib.hid (O6.out.below hb13)
    have HW13 := Lib.hid (bThen HW12.out hb13)
    clear o10 hb13
    go_wp2_with fail
    refine (eqI_any _ _ v10 v4 pl _ O10.out O4.out (by have := HPK.out; omega)).mono ?_
    rintro e w14 ⟨rfl, hb14⟩
    replace O6 := Lib.hid (O6.out.below hb14)
    have HW14 := Lib.hid (bThen HW13.out hb14)
    clear hb14
    go_wp2_with fail
    refine (heldI_any _ v6 n _ 1 O6.out (by omega) (by omega) (by omega)).mono ?_
    rintro e w15 ⟨rfl, hb15⟩
    have HW15 := Lib.hid (bThen HW14.out hb15)
    clear hb15
    go_wp2
    go_ret
    exact ⟨rfl, HW15.out⟩

set_option maxRecDepth 100000 in
set_option maxHeartbeats 12800000 in
theorem exactOrder_walk (u0 u1 u2 u3 : Value) (z : DModule) (w : World) (hw : rdModule 0 w.heap.size w [u0, u1, u2, u3] z) :
    Calls Try.prog 6 #[.agg #[u0, u1, u2, u3]] w fun e w' => e = .returned (.bool true) ∧ Below w.heap.size w w' := by
  have HD := Lib.hid hw
  obtain ⟨a0, a1, a2, a3, de, h0, h1, h2, h3⟩ := hw
  injection de with d0 de
  injection de with d1 de
  injection de with d2 de
  injection de with d3 de
  subst d0 d1 d2 d3
  clear de
  obtain ⟨zA0, zc0, ue0, um0, -⟩ := h0
  injection ue0 with ue0
  subst ue0
  unfold maxLen at um0
  obtain ⟨zA1, zc1, ue1, um1, -⟩ := h1
  injection ue1 with ue1
  subst ue1
  unfold maxLen at um1
  obtain ⟨zA2, zc2, ue2, um2, -⟩ := h2
  injection ue2 with ue2
  subst ue2
  unfold maxLen at um2
  obtain ⟨zA3, zc3, ue3, um3, -⟩ := h3
  injection ue3 with ue3
  subst ue3
  unfold maxLen at um3
  obtain ⟨pl, hpl0⟩ : ∃ pl, (orderO z).getD [] = pl := ⟨_, rfl⟩
  have HPL := Lib.hid hpl0
  have hpl : pl.length ≤ 30 := by rw [← hpl0]; exact order_len
  clear hpl0
  obtain ⟨rb, hrb⟩ : ∃ rb, (orderO z).isSome = rb := ⟨_, rfl⟩
  have HRB := Lib.hid hrb
  clear hrb
  have hle : w.heap.size ≤ w.heap.size := Nat.le_refl _
  have HLE := Lib.hid hle
  clear hle
  go_enter Try.func6, Try.ntmps6
  go_wp2_with fail
  refine (szModule_post z [.slice zA0 (z.1).length zc0, .slice zA1 (z.2.1).length zc1, .slice zA2 (z.2.2.1).length zc2, .slice zA3 (z.2.2.2).length zc3] 1048576 _ (good_Module.below HD.out HLE.out (by (repeat' (first | assumption | exact Below.refl _ _ | refine bDrewN ?_ _ | refine Below.drew ?_ | refine bAlloc ?_ (Nat.le_refl _) _ | refine bSet ?_ (by first | exact Nat.le_refl _ | omega | (simp <;> omega)) _)))) (by simp <;> omega) (by omega) (by omega)).mono ?_
  rintro e w1 ⟨r, rfl, hr, hb⟩
  have g := box1 hb
  have c0 : w1.cell? ⟨w.heap.size, 0, none⟩ = some (.slice zA0 (z.1).length zc0) := box_cell g.1 0 _ rfl
  have c1 : w1.cell? ⟨w.heap.size, 1, none⟩ = some (.slice zA1 (z.2.1).length zc1) := box_cell g.1 1 _ rfl
  have c2 : w1.cell? ⟨w.heap.size, 2, none⟩ = some (.slice zA2 (z.2.2.1).length zc2) := box_cell g.1 2 _ rfl
  have c3 : w1.cell? ⟨w.heap.size, 3, none⟩ = some (.slice zA3 (z.2.2.2).length zc3) := box_cell g.1 3 _ rfl
  have HW1 := Lib.hid g.2
  have hB1 : w.heap.size < w1.heap.size := World.block_lt_of_cell? _ _ c0
  clear hb g
  rcases hr with rfl | ⟨p, q, s0⟩
  · go_wp2
    go_ret
    exact ⟨rfl, HW1.out⟩
  have t0 : ¬ r < 0 := by omega
  have HS := Lib.hid s0
  clear s0
  go_wp2_with fail
  refine (toModule_any z [.slice zA0 (z.1).length zc0, .slice zA1 (z.2.1).length zc1, .slice zA2 (z.2.2.1).length zc2, .slice zA3 (z.2.2.2).length zc3] _ (good_Module.below HD.out HLE.out HW1.out) HW1.out.size HS.out).mono ?_
  rintro e w2 ⟨us2, rfl, h2, hb2⟩
  have H2 := Lib.hid h2
  replace c0 := keep hb2 c0
  replace c1 := keep hb2 c1
  replace c2 := keep hb2 c2
  replace c3 := keep hb2 c3
  have HW2 := Lib.hid (bThen HW1.out hb2)
  have z12 := hb2.size
  obtain ⟨p0, p1, p2, p3, rfl, -⟩ := h2
  clear hb2
  go_wp2_with fail
  refine (specOrder_at z _ _ H2.out (Nat.le_refl _) HRB.out HPL.out).mono ?_
  rintro e w3 ⟨v4, rfl, o4, hb3⟩
  have O4 := Lib.hid o4
  have L4 := Lib.hid o4.lt
  replace c0 := keep hb3 c0
  replace c1 := keep hb3 c1
  replace c2 := keep hb3 c2
  replace c3 := keep hb3 c3
  have HW3 := Lib.hid (bThen HW2.out hb3)
  have z23 := hb3.size
  clear hb3 o4
  go_wp2_with fail
  refine (toModule_w z [.slice zA0 (z.1).length zc0, .slice zA1 (z.2.1).length zc1, .slice zA2 (z.2.2.1).length zc2, .slice zA3 (z.2.2.2).length zc3] _ (good_Module.below HD.out HLE.out HW3.out) HW3.out.size HS.out).mono ?_
  rintro e w4 ⟨us4, rfl, h4, hb4⟩
  have H4 := Lib.hid h4
  replace c0 := keep hb4 c0
  replace c1 := keep hb4 c1
  replace c2 := keep hb4 c2
  replace c3 := keep hb4 c3
  have HW4 := Lib.hid (bThen HW3.out hb4)
  replace O4 := Lib.hid (O4.out.below hb4)
  have z34 := hb4.size
  obtain ⟨x0, x1, x2, x3, rfl, g0, g1, g2, g3⟩ := h4
  obtain ⟨xA0, xc0, xe0, -⟩ := g0
  injection xe0 with xe0
  subst xe0
  obtain ⟨xA1, xc1, xe1, -⟩ := g1
  injection xe1 with xe1
  subst xe1
  obtain ⟨xA2, xc2, xe2, -⟩ := g2
  injection xe2 with xe2
  subst xe2
  obtain ⟨xA3, xc3, xe3, -⟩ := g3
  injection xe3 with xe3
  subst xe3
  have clt : w.heap.size < w4.heap.size := World.block_lt_of_cell? _ _ c0
  clear hb4
  go_wp2_with fail
  obtain ⟨V, hV⟩ : ∃ V, V = w4.alloc (.cells #[.slice xA0 (z.1).length xc0, .slice xA1 (z.2.1).length xc1, .slice xA2 (z.2.2.1).length xc2, .slice xA3 (z.2.2.2).length xc3] 35) := ⟨_, rfl⟩
  rw [← hV]
  have g := eqbox1 hV
  have x0 : V.cell? ⟨w4.heap.size, 0, none⟩ = some (.slice xA0 (z.1).length xc0) := box_cell g.1 0 _ rfl
  have x1 : V.cell? ⟨w4.heap.size, 1, none⟩ = some (.slice xA1 (z.2.1).length xc1) := box_cell g.1 1 _ rfl
  have x2 : V.cell? ⟨w4.heap.size, 2, none⟩ = some (.slice xA2 (z.2.2.1).length xc2) := box_cell g.1 2 _ rfl
  have x3 : V.cell? ⟨w4.heap.size, 3, none⟩ = some (.slice xA3 (z.2.2.2).length xc3) := box_cell g.1 3 _ rfl
  replace c0 := keep g.2 c0
  replace c1 := keep g.2 c1
  replace c2 := keep g.2 c2
  replace c3 := keep g.2 c3
  replace O4 := Lib.hid (O4.out.below g.2)
  have HVV := Lib.hid g.2
  have zV : V.heap.size = w4.heap.size + 1 := by rw [hV]; simp
  clear hV g clt
  refine (implOrder_at z _ _ (good_Module.below (le_Module _ _ _ _ _ H4.out) (Nat.le_refl _) HVV.out) HVV.out.size HRB.out HPL.out).mono ?_
  rintro e w5 ⟨v6, rfl, o6, hb5⟩
  have O6 := Lib.hid o6
  have L6 := Lib.hid o6.lt
  replace c0 := keep hb5 c0
  replace c1 := keep hb5 c1
  replace c2 := keep hb5 c2
  replace c3 := keep hb5 c3
  replace O4 := Lib.hid (O4.out.below hb5)
  replace x0 := keep hb5 x0
  replace x1 := keep hb5 x1
  replace x2 := keep hb5 x2
  replace x3 := keep hb5 x3
  have HX5 := Lib.hid (bThen HVV.out hb5)
  have HW5 := Lib.hid (bThen HW4.out (bThen HVV.out hb5))
  have z5 := hb5.size
  clear hb5 o6
  go_wp2_with fail
  refine (eqI_any _ _ v6 v4 pl _ O6.out O4.out (by omega)).mono ?_
  rintro e w6 ⟨rfl, hb6⟩
  replace c0 := keep hb6 c0
  replace c1 := keep hb6 c1
  replace c2 := keep hb6 c2
  replace c3 := keep hb6 c3
  replace O4 := Lib.hid (O4.out.below hb6)
  replace O6 := Lib.hid (O6.out.below hb6)
  replace x0 := keep hb6 x0
  replace x1 := keep hb6 x1
  replace x2 := keep hb6 x2
  replace x3 := keep hb6 x3
  have HX6 := Lib.hid (bThen HX5.out hb6)
  have HW6 := Lib.hid (bThen HW5.out hb6)
  have z6 := hb6.size
  clear hb6
  go_wp2
  have clt : w.heap.size < w6.heap.size := World.block_lt_of_cell? _ _ c0
  have xlt : w4.heap.size < w6.heap.size := World.block_lt_of_cell? _ _ x0
  go_cut [45] from 41 to 45 (fun v wx => v = .bool false ∧ Below w6.heap.size w6 wx)
  case first =>
    go_region_law (first | (go_simp; go_at_call 23; refine (toModule_any z [.slice zA0 (z.1).length zc0, .slice zA1 (z.2.1).length zc1, .slice zA2 (z.2.2.1).length zc2, .slice zA3 (z.2.2.2).length zc3] _ (good_Module.below HD.out HLE.out (bThen HW6.out (by (repeat' (first | assumption | exact Below.refl _ _ | refine bDrewN ?_ _ | refine Below.drew ?_ | refine bAlloc ?_ (Nat.le_refl _) _ | refine bSet ?_ (by first | exact Nat.le_refl _ | omega | (simp <;> omega)) _))))) (bThen HW6.out (by (repeat' (first | assumption | exact Below.refl _ _ | refine bDrewN ?_ _ | refine Below.drew ?_ | refine bAlloc ?_ (Nat.le_refl _) _ | refine bSet ?_ (by first | exact Nat.le_refl _ | omega | (simp <;> omega)) _)))).size HS.out).mono ?_; rintro e w7 ⟨us7, rfl, h7, hb7⟩; have H7 := Lib.hid h7; obtain ⟨r0, r1, r2, r3, rfl, -⟩ := h7; have HW7 := Lib.hid (show Below w6.heap.size w6 w7 from bThen (by (repeat' (first | assumption | exact Below.refl _ _ | refine bDrewN ?_ _ | refine Below.drew ?_ | refine bAlloc ?_ (Nat.le_refl _) _ | refine bSet ?_ (by first | exact Nat.le_refl _ | omega | (simp <;> omega)) _))) hb7); have y0 := keep HW7.out x0; have y1 := keep HW7.out x1; have y2 := keep HW7.out x2; have y3 := keep HW7.out x3; clear hb7) | (go_simp; go_at_call 26; refine (eqModule_any z [.slice xA0 (z.1).length xc0, .slice xA1 (z.2.1).length xc1, .slice xA2 (z.2.2.1).length xc2, .slice xA3 (z.2.2.2).length xc3] _ _ (good_Module.below (le_Module _ _ _ _ _ H4.out) (Nat.le_refl _) (bThen HX6.out (bThen HW7.out (by (repeat' (first | assumption | exact Below.refl _ _ | refine bDrewN ?_ _ | refine Below.drew ?_ | refine bAlloc ?_ (Nat.le_refl _) _ | refine bSet ?_ (by first | exact Nat.le_refl _ | omega | (simp <;> omega)) _)))))) (good_Module.below H7.out (Nat.le_refl _) (by first | exact Below.refl _ _ | (repeat' (first | assumption | exact Below.refl _ _ | refine bDrewN ?_ _ | refine Below.drew ?_ | refine bAlloc ?_ (Nat.le_refl _) _ | refine bSet ?_ (by first | exact Nat.le_refl _ | omega | (simp <;> omega)) _)))) (bThen HX6.out (bThen HW7.out (by (repeat' (first | assumption | exact Below.refl _ _ | refine bDrewN ?_ _ | refine Below.drew ?_ | refine bAlloc ?_ (Nat.le_refl _) _ | refine bSet ?_ (by first | exact Nat.le_refl _ | omega | (simp <;> omega)) _))))).size (by first | exact Nat.le_refl _ | (simp <;> omega))).mono ?_; rintro e w8 ⟨rfl, hb8⟩; have HW8 := Lib.hid (show Below w6.heap.size w6 w8 from bThen HW7.out (bThen (by (repeat' (first | assumption | exact Below.refl _ _ | refine bDrewN ?_ _ | refine Below.drew ?_ | refine bAlloc ?_ (Nat.le_refl _) _ | refine bSet ?_ (by first | exact Nat.le_refl _ | omega | (simp <;> omega)) _))) hb8)); clear hb8))
    all_goals (go_wp2_with fail; go_meet; exact ⟨rfl, HW8.out⟩)
  case rest =>
    obtain ⟨rfl, hbr⟩ := hcut
    obtain ⟨W7, hW7⟩ : ∃ W7, W7 = wc := ⟨_, rfl⟩
    rw [← hW7] at hbr ⊢
    clear hW7
    replace c0 := keep hbr c0
    replace c1 := keep hbr c1
    replace c2 := keep hbr c2
    replace c3 := keep hbr c3
    replace O4 := Lib.hid (O4.out.below hbr)
    replace O6 := Lib.hid (O6.out.below hbr)
    replace x0 := keep hbr x0
    replace x1 := keep hbr x1
    replace x2 := keep hbr x2
    replace x3 := keep hbr x3
    have HX7 := Lib.hid (bThen HX6.out hbr)
    have HW7 := Lib.hid (bThen HW6.out hbr)
    have z7 := hbr.size
    clear hbr clt xlt
    have hbig : (cntSignalS z.1 : Int) + (cntAssignS z.2.1 : Int) + (cntInstS z.2.2.1 : Int) + (cntMemS z.2.2.2 : Int) ≤ 4611686018427387000 := by
      have h := bndModule z HS.out
      unfold cntModule at h
      omega
    have HBG := Lib.hid hbig
    clear hbig
    go_wp2_with fail
    refine (markModule_arg z [.slice xA0 (z.1).length xc0, .slice xA1 (z.2.1).length xc1, .slice xA2 (z.2.2.1).length xc2, .slice xA3 (z.2.2.2).length xc3] 1 W7 W7 _ (goodw_Module.below H4.out (Nat.le_refl _) HX7.out) HX7.out.size (Sims.refl _ _ _) (Sims.refl _ _ _) (by omega) (by have := HBG.out; omega)).mono ?_
    rintro e w8 ⟨⟨km, hkm, rfl⟩, hs8, -⟩
    have tk : ¬ km < 0 := by omega
    have hB : w.heap.size < w3.heap.size := by omega
    replace O4 := Lib.hid (O4.out.at fun j hj => hs8.block j (by have := L4.out j hj; omega) (.inl (by have := L4.out j hj; omega)))
    replace O6 := Lib.hid (O6.out.at fun j hj => hs8.block j (by have := L6.out j hj; omega) (.inr (by have := L6.out j hj; omega)))
    have cc := fun (i : Nat) (v : Value) (h : W7.cell? ⟨w.heap.size, i, none⟩ = some v) => (World.cell?_of_block (w := W7) (w' := w8) (a := ⟨w.heap.size, i, none⟩) (hs8.block _ (World.block_lt_of_cell? _ _ h) (.inl (by simpa using hB)))).trans h
    replace c0 := cc 0 _ c0
    replace c1 := cc 1 _ c1
    replace c2 := cc 2 _ c2
    replace c3 := cc 3 _ c3
    have HW8 := Lib.hid (below_of_sims (S := 0) HW7.out hs8 (by omega))
    have z8 := hs8.size
    clear hs8 cc x0 x1 x2 x3 hkm
    go_wp2_with fail
    refine (eqI_any _ _ v6 v4 pl _ O6.out O4.out (by omega)).mono ?_
    rintro e w9 ⟨rfl, hb9⟩
    replace c0 := keep hb9 c0
    replace c1 := keep hb9 c1
    replace c2 := keep hb9 c2
    replace c3 := keep hb9 c3
    replace O4 := Lib.hid (O4.out.below hb9)
    replace O6 := Lib.hid (O6.out.below hb9)
    have HW9 := Lib.hid (bThen HW8.out hb9)
    have z9 := hb9.size
    clear hb9
    go_wp2_with fail
    refine (markI_any _ v6 pl _ O6.out (by omega) 1 (by omega) (by omega)).mono ?_
    rintro e w10 ⟨rfl, ho, hg⟩
    replace O6 := Lib.hid ho
    replace O4 := Lib.hid (O4.out.at fun j hj => hg.block j (by have := L4.out j hj; omega) (fun e => by have := L4.out j hj; have := L6.out j e.symm; omega))
    replace c0 := grown_at hg c0 (fun e => by have := L6.out w.heap.size e; omega)
    replace c1 := grown_at hg c1 (fun e => by have := L6.out w.heap.size e; omega)
    replace c2 := grown_at hg c2 (fun e => by have := L6.out w.heap.size e; omega)
    replace c3 := grown_at hg c3 (fun e => by have := L6.out w.heap.size e; omega)
    have HW10 := Lib.hid (HW9.out.grown hg HW9.out.size (fun j hj => by have := L6.out j hj; omega))
    have z10 := hg.size
    clear ho hg
    have HPK := Lib.hid hpl
    obtain ⟨n, hn⟩ : ∃ n, pl.length = n := ⟨_, rfl⟩
    rw [hn] at O6 hpl
    rw [hn]
    clear hn
    go_wp2_with fail
    refine (heldI_any _ v6 n _ 1 O6.out (by omega) (by omega) (by omega)).mono ?_
    rintro e w11 ⟨rfl, hb11⟩
    replace c0 := keep hb11 c0
    replace c1 := keep hb11 c1
    replace c2 := keep hb11 c2
    replace c3 := keep hb11 c3
    replace O4 := Lib.hid (O4.out.below hb11)
    replace O6 := Lib.hid (O6.out.below hb11)
    have HW11 := Lib.hid (bThen HW10.out hb11)
    clear hb11
    go_wp2_with fail
    refine (toModule_any z [.slice zA0 (z.1).length zc0, .slice zA1 (z.2.1).length zc1, .slice zA2 (z.2.2.1).length zc2, .slice zA3 (z.2.2.2).length zc3] _ (good_Module.below HD.out HLE.out HW11.out) HW11.out.size HS.out).mono ?_
    rintro e w12 ⟨us12, rfl, h12, hb12⟩
    have H12 := Lib.hid h12
    obtain ⟨p0, p1, p2, p3, rfl, -⟩ := h12
    replace O4 := Lib.hid (O4.out.below hb12)
    replace O6 := Lib.hid (O6.out.below hb12)
    have HW12 := Lib.hid (bThen HW11.out hb12)
    clear hb12 c0 c1 c2 c3
    go_wp2_with fail
    refine (implOrder_at z _ _ H12.out (Nat.le_refl _) HRB.out HPL.out).mono ?_
    rintro e w13 ⟨v10, rfl, o10, hb13⟩
    have O10 := Lib.hid o10
    replace O4 := Lib.hid (O4.out.below hb13)
    replace O6 := Lib.hid (O6.out.below hb13)
    have HW13 := Lib.hid (bThen HW12.out hb13)
    clear o10 hb13
    go_wp2_with fail
    refine (eqI_any _ _ v10 v4 pl _ O10.out O4.out (by have := HPK.out; omega)).mono ?_
    rintro e w14 ⟨rfl, hb14⟩
    replace O6 := Lib.hid (O6.out.below hb14)
    have HW14 := Lib.hid (bThen HW13.out hb14)
    clear hb14
    go_wp2_with fail
    refine (heldI_any _ v6 n _ 1 O6.out (by omega) (by omega) (by omega)).mono ?_
    rintro e w15 ⟨rfl, hb15⟩
    have HW15 := Lib.hid (bThen HW14.out hb15)
    clear hb15
    go_wp2
    go_ret
    exact ⟨rfl, HW15.out⟩
end Go.Proofs.Ytdfcbccpdflbfaa
