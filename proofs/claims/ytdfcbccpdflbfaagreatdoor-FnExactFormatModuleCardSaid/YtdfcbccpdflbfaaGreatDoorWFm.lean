/-
  The walk of the law FnExactFormatModule.
-/
import Derived.Test.YtdfcbccpdflbfaaGreatDoorIFmAll
import Derived.Test.YtdfcbccpdflbfaaGreatDoorSFm
import Derived.Test.YtdfcbccpdflbfaaGreatDoorDmAll
import Derived.Test.YtdfcbccpdflbfaaGreatDoorDzAll
import Derived.Test.YtdfcbccpdflbfaaGreatDoorStrAll
import Derived.Deep.CutRange
import Derived.Deep.RegionLaw
namespace Go.Proofs.YtdfcbccpdflbfaaGreatDoor
open Go.RowKit
set_option linter.unusedVariables false
set_option linter.unusedSimpArgs false

theorem specFmtMod_at (z : DDesign) (k : Int) (us : List Value) {B T : Nat} {r : Bool} {L : List ByteArray} (w : World) (hd : rdDesign B T w us z) (hT : T ≤ w.heap.size) (hr : moduleB z k = r) (hL : fmtL z k = L) :
    Calls Tryz.prog 6 #[.agg us.toArray, .int .i64 k] w fun e w' => ∃ v, e = .returned (.tuple #[v, .bool r]) ∧ OwnsS w' w.heap.size v L ∧ Below w.heap.size w w' := by
  subst hr; subst hL; exact specFmtMod_any z k us w hd hT
theorem cntM_le {C : Nat} : ∀ (L : List DModule), (∀ x ∈ L, cntModule x ≤ C) → cntModuleS L ≤ L.length * C
  | [], _ => by simp [cntModuleS]
  | x :: L, h => by
    have h1 := h x (List.mem_cons_self ..)
    have h2 := cntM_le L fun y hy => h y (List.mem_cons_of_mem _ hy)
    have e : cntModuleS (x :: L) = cntModule x + cntModuleS L := by simp [cntModuleS]
    rw [e, List.length_cons, Nat.add_mul]
    omega
theorem bndDesign (z : DDesign) (h : smDesign z) : cntModuleS z ≤ 4700000000000000000 := by
  have h1 := cntM_le (C := 4398056996864) z fun x hx => bndModule x (h.2 x hx)
  have h2 : z.length * 4398056996864 ≤ 1048576 * 4398056996864 := Nat.mul_le_mul_right _ h.1
  omega
theorem OwnsS.at {w w' : World} {B : Nat} {v : Value} {L : List ByteArray} (h : OwnsS w B v L) (hk : ∀ j, v.ownBlock = some j → w'.heap[j]? = w.heap[j]?) : OwnsS w' B v L := by
  obtain ⟨h1, h2⟩ := h
  refine ⟨h1, ?_⟩
  rcases h2 with h2 | ⟨g, cap, cur, rfl, e2, e3, e4⟩
  · exact .inl h2
  · exact .inr ⟨g, cap, cur, rfl, e2, (hk g rfl).trans e3, e4⟩
theorem below_of_sims {B T S : Nat} {w w1 w2 : World} (hb : Below w.heap.size w w1) (h : Sims B T w1 w2) (hS : w.heap.size ≤ B) : Below w.heap.size w w2 :=
  ⟨h.os.trans hb.os, h.tape.trans hb.tape, h.output.trans hb.output, Nat.le_trans hb.size h.size, fun k hk => (h.block k (Nat.lt_of_lt_of_le hk hb.size) (.inl (Nat.lt_of_lt_of_le hk hS))).trans (hb.block k hk)⟩

set_option maxRecDepth 100000 in
set_option maxHeartbeats 12800000 in
theorem exactFmtMod_walk (u : Value) (z : DDesign) (k : Int) (w : World) (hw : rdDesign 0 w.heap.size w [u] z) (ht : PowTab w) (hww : Words w) :
    Calls Tryz.prog 3 #[.agg #[u], .int .i64 k] w fun e w' => e = .returned (.bool true) ∧ Below w.heap.size w w' := by
  have HD := Lib.hid hw
  have HT := Lib.hid (And.intro ht hww)
  obtain ⟨du, de, dh⟩ := hw
  injection de with de
  subst de
  obtain ⟨zA, zc, ue, um, -⟩ := dh
  injection ue with ue
  subst ue
  unfold maxLen at um
  obtain ⟨d, hd⟩ : ∃ d : Bool, moduleB z k = d := ⟨_, rfl⟩
  obtain ⟨L, hL⟩ : ∃ L, fmtL z k = L := ⟨_, rfl⟩
  have hll : L.length ≤ 67 := by rw [← hL]; exact fmtL_len z k
  have HV := Lib.hid hd
  have HL := Lib.hid hL
  have hle : w.heap.size ≤ w.heap.size := Nat.le_refl _
  have HLE := Lib.hid hle
  clear hd hL hle ht hww
  go_enter Tryz.func3, Tryz.ntmps3
  go_wp2_with fail
  refine (szDesign_post z [.slice zA z.length zc] 1048576 _ (good_Design.below HD.out HLE.out (by (repeat' (first | assumption | exact Below.refl _ _ | refine bDrewN ?_ _ | refine Below.drew ?_ | refine bAlloc ?_ (Nat.le_refl _) _ | refine bSet ?_ (by first | exact Nat.le_refl _ | omega | (simp <;> omega)) _)))) (by simp <;> omega) (by omega) (by omega)).mono ?_
  rintro e w1 ⟨r, rfl, hr, hb⟩
  have g := box1 hb
  have c0 : w1.cell? ⟨w.heap.size, 0, none⟩ = some (.slice zA z.length zc) := box_cell g.1 0 _ rfl
  have HW1 := Lib.hid g.2
  have hB1 : w.heap.size < w1.heap.size := World.block_lt_of_cell? _ _ c0
  clear hb g
  rcases hr with rfl | ⟨p, q, s0⟩
  · go_wp2
    go_ret
    exact ⟨rfl, HW1.out⟩
  have t0 : ¬ r < 0 := by omega
  have HS := Lib.hid s0
  clear s0
  go_wp2_with fail
  refine (toDesign_any z [.slice zA z.length zc] _ (good_Design.below HD.out HLE.out HW1.out) HW1.out.size HS.out).mono ?_
  rintro e w2 ⟨us2, rfl, h2, hb2⟩
  have H2 := Lib.hid h2
  replace c0 := keep hb2 c0
  have HW2 := Lib.hid (bThen HW1.out hb2)
  have z12 := hb2.size
  obtain ⟨p0, rfl, -⟩ := h2
  clear hb2
  go_wp2_with fail
  refine (specFmtMod_at z k _ _ H2.out (Nat.le_refl _) HV.out HL.out).mono ?_
  rintro e w3 ⟨v4, rfl, o4, hb3⟩
  have O4 := Lib.hid o4
  have L4 := Lib.hid o4.lt
  replace c0 := keep hb3 c0
  have HW3 := Lib.hid (bThen HW2.out hb3)
  have z23 := hb3.size
  clear hb3 o4
  go_wp2_with fail
  refine (toDesign_w z [.slice zA z.length zc] _ (good_Design.below HD.out HLE.out HW3.out) HW3.out.size HS.out).mono ?_
  rintro e w4 ⟨us4, rfl, h4, hb4⟩
  have H4 := Lib.hid h4
  replace c0 := keep hb4 c0
  have HW4 := Lib.hid (bThen HW3.out hb4)
  replace O4 := Lib.hid (O4.out.below hb4)
  have z34 := hb4.size
  obtain ⟨x0, rfl, g0⟩ := h4
  obtain ⟨xA, xc, xe, -⟩ := g0
  injection xe with xe
  subst xe
  have clt : w.heap.size < w4.heap.size := World.block_lt_of_cell? _ _ c0
  clear hb4
  go_wp2_with fail
  obtain ⟨V, hV⟩ : ∃ V, V = w4.alloc (.cells #[.slice xA z.length xc] 31) := ⟨_, rfl⟩
  rw [← hV]
  have g := eqbox1 hV
  have x0 : V.cell? ⟨w4.heap.size, 0, none⟩ = some (.slice xA z.length xc) := box_cell g.1 0 _ rfl
  replace c0 := keep g.2 c0
  replace O4 := Lib.hid (O4.out.below g.2)
  have HV5 := Lib.hid g.2
  have zV : V.heap.size = w4.heap.size + 1 := by rw [hV]; simp
  clear hV g clt
  refine (implFmtMod_at z k _ _ (good_Design.below (le_Design _ _ _ _ _ H4.out) (Nat.le_refl _) HV5.out) HV5.out.size HV.out HL.out (HT.out.1.keep (bThen HW4.out HV5.out)) (HT.out.2.keep (bThen HW4.out HV5.out))).mono ?_
  rintro e w5 ⟨v6, rfl, o6, hb5⟩
  have O6 := Lib.hid o6
  have L6 := Lib.hid o6.lt
  replace c0 := keep hb5 c0
  replace O4 := Lib.hid (O4.out.below hb5)
  replace x0 := keep hb5 x0
  have HX5 := Lib.hid (bThen HV5.out hb5)
  have HW5 := Lib.hid (bThen HW4.out (bThen HV5.out hb5))
  have z5 := hb5.size
  clear hb5 o6
  go_wp2_with fail
  refine (eqS_any _ _ v6 v4 L _ O6.out O4.out (by omega)).mono ?_
  rintro e w6 ⟨rfl, hb6⟩
  replace c0 := keep hb6 c0
  replace O4 := Lib.hid (O4.out.below hb6)
  replace O6 := Lib.hid (O6.out.below hb6)
  replace x0 := keep hb6 x0
  have HX6 := Lib.hid (bThen HX5.out hb6)
  have HW6 := Lib.hid (bThen HW5.out hb6)
  have z6 := hb6.size
  clear hb6
  go_wp2
  have clt : w.heap.size < w6.heap.size := World.block_lt_of_cell? _ _ c0
  have xlt : w4.heap.size < w6.heap.size := World.block_lt_of_cell? _ _ x0
  go_cut [49] from 45 to 49 (fun v wx => v = .bool false ∧ Below w6.heap.size w6 wx)
  case first =>
    go_region_law (first | (go_simp; go_at_call 7; refine (toDesign_any z [.slice zA z.length zc] _ (good_Design.below HD.out HLE.out (bThen HW6.out (by (repeat' (first | assumption | exact Below.refl _ _ | refine bDrewN ?_ _ | refine Below.drew ?_ | refine bAlloc ?_ (Nat.le_refl _) _ | refine bSet ?_ (by first | exact Nat.le_refl _ | omega | (simp <;> omega)) _))))) (bThen HW6.out (by (repeat' (first | assumption | exact Below.refl _ _ | refine bDrewN ?_ _ | refine Below.drew ?_ | refine bAlloc ?_ (Nat.le_refl _) _ | refine bSet ?_ (by first | exact Nat.le_refl _ | omega | (simp <;> omega)) _)))).size HS.out).mono ?_; rintro e w7 ⟨us7, rfl, h7, hb7⟩; have H7 := Lib.hid h7; obtain ⟨v7, rfl, -⟩ := h7; have HW7 := Lib.hid (show Below w6.heap.size w6 w7 from bThen (by (repeat' (first | assumption | exact Below.refl _ _ | refine bDrewN ?_ _ | refine Below.drew ?_ | refine bAlloc ?_ (Nat.le_refl _) _ | refine bSet ?_ (by first | exact Nat.le_refl _ | omega | (simp <;> omega)) _))) hb7); have x7 := keep HW7.out x0; clear hb7) | (go_simp; go_at_call 10; refine (eqDesign_any z [.slice xA z.length xc] _ _ (good_Design.below (le_Design _ _ _ _ _ H4.out) (Nat.le_refl _) (bThen HX6.out (bThen HW7.out (by (repeat' (first | assumption | exact Below.refl _ _ | refine bDrewN ?_ _ | refine Below.drew ?_ | refine bAlloc ?_ (Nat.le_refl _) _ | refine bSet ?_ (by first | exact Nat.le_refl _ | omega | (simp <;> omega)) _)))))) (good_Design.below H7.out (Nat.le_refl _) (by first | exact Below.refl _ _ | (repeat' (first | assumption | exact Below.refl _ _ | refine bDrewN ?_ _ | refine Below.drew ?_ | refine bAlloc ?_ (Nat.le_refl _) _ | refine bSet ?_ (by first | exact Nat.le_refl _ | omega | (simp <;> omega)) _)))) (bThen HX6.out (bThen HW7.out (by (repeat' (first | assumption | exact Below.refl _ _ | refine bDrewN ?_ _ | refine Below.drew ?_ | refine bAlloc ?_ (Nat.le_refl _) _ | refine bSet ?_ (by first | exact Nat.le_refl _ | omega | (simp <;> omega)) _))))).size (by first | exact Nat.le_refl _ | (simp <;> omega))).mono ?_; rintro e w8 ⟨rfl, hb8⟩; have HW8 := Lib.hid (show Below w6.heap.size w6 w8 from bThen (bThen HW7.out (by (repeat' (first | assumption | exact Below.refl _ _ | refine bDrewN ?_ _ | refine Below.drew ?_ | refine bAlloc ?_ (Nat.le_refl _) _ | refine bSet ?_ (by first | exact Nat.le_refl _ | omega | (simp <;> omega)) _)))) hb8); clear hb8))
    all_goals (go_wp2_with fail; go_meet; exact ⟨rfl, HW8.out⟩)
  case rest =>
    obtain ⟨rfl, hbr⟩ := hcut
    obtain ⟨W7, hW7⟩ : ∃ W7, W7 = wc := ⟨_, rfl⟩
    rw [← hW7] at hbr ⊢
    clear hW7
    replace c0 := keep hbr c0
    replace O4 := Lib.hid (O4.out.below hbr)
    replace O6 := Lib.hid (O6.out.below hbr)
    replace x0 := keep hbr x0
    have HX7 := Lib.hid (bThen HX6.out hbr)
    have HW7 := Lib.hid (bThen HW6.out hbr)
    have z7 := hbr.size
    clear hbr clt xlt
    have hbig : (cntModuleS z : Int) ≤ 4700000000000000000 := by
      have h := bndDesign z HS.out
      omega
    have HBG := Lib.hid hbig
    clear hbig
    go_wp2_with fail
    refine (markDesign_arg z [.slice xA z.length xc] 1 W7 W7 _ (goodw_Design.below H4.out (Nat.le_refl _) HX7.out) HX7.out.size (Sims.refl _ _ _) (Sims.refl _ _ _) (by omega) (by have := HBG.out; omega)).mono ?_
    rintro e w8 ⟨⟨km, hkm, rfl⟩, hs8, -⟩
    have tk : ¬ km < 0 := by omega
    have hB : w.heap.size < w3.heap.size := by omega
    replace O4 := Lib.hid (O4.out.at fun j hj => hs8.block j (by have := L4.out j hj; omega) (.inl (by have := L4.out j hj; omega)))
    replace O6 := Lib.hid (O6.out.at fun j hj => hs8.block j (by have := L6.out j hj; omega) (.inr (by have := L6.out j hj; omega)))
    have cc := fun (i : Nat) (v : Value) (h : W7.cell? ⟨w.heap.size, i, none⟩ = some v) => (World.cell?_of_block (w := W7) (w' := w8) (a := ⟨w.heap.size, i, none⟩) (hs8.block _ (World.block_lt_of_cell? _ _ h) (.inl (by simpa using hB)))).trans h
    replace c0 := cc 0 _ c0
    have HW8 := Lib.hid (below_of_sims (S := 0) HW7.out hs8 (by omega))
    have z8 := hs8.size
    clear hs8 cc x0 hkm
    go_wp2_with fail
    refine (eqS_any _ _ v6 v4 L _ O6.out O4.out (by omega)).mono ?_
    rintro e w9 ⟨rfl, hb9⟩
    replace c0 := keep hb9 c0
    replace O4 := Lib.hid (O4.out.below hb9)
    replace O6 := Lib.hid (O6.out.below hb9)
    have HW9 := Lib.hid (bThen HW8.out hb9)
    have z9 := hb9.size
    clear hb9
    go_wp2_with fail
    refine (markS_any _ v6 L _ O6.out (by omega) 1 (by omega) (by omega)).mono ?_
    rintro e w10 ⟨rfl, ho, hg⟩
    replace O6 := Lib.hid ho
    replace O4 := Lib.hid (O4.out.at fun j hj => hg.block j (by have := L4.out j hj; omega) (fun e => by have := L4.out j hj; have := L6.out j e.symm; omega))
    replace c0 := grown_at hg c0 (fun e => by have := L6.out w.heap.size e; omega)
    have HW10 := Lib.hid (HW9.out.grown hg HW9.out.size (fun j hj => by have := L6.out j hj; omega))
    have z10 := hg.size
    clear ho hg
    obtain ⟨n, hn⟩ : ∃ n, L.length = n := ⟨_, rfl⟩
    rw [hn] at O6
    rw [hn]
    have hnl : n ≤ 67 := by omega
    clear hn
    go_wp2_with fail
    refine (heldS_any _ v6 n _ 1 O6.out (by omega) (by omega) (by omega)).mono ?_
    rintro e w11 ⟨rfl, hb11⟩
    replace c0 := keep hb11 c0
    replace O4 := Lib.hid (O4.out.below hb11)
    replace O6 := Lib.hid (O6.out.below hb11)
    have HW11 := Lib.hid (bThen HW10.out hb11)
    clear hb11
    go_wp2_with fail
    refine (toDesign_any z [.slice zA z.length zc] _ (good_Design.below HD.out HLE.out HW11.out) HW11.out.size HS.out).mono ?_
    rintro e w12 ⟨us12, rfl, h12, hb12⟩
    have H12 := Lib.hid h12
    obtain ⟨p0, rfl, -⟩ := h12
    replace O4 := Lib.hid (O4.out.below hb12)
    replace O6 := Lib.hid (O6.out.below hb12)
    have HW12 := Lib.hid (bThen HW11.out hb12)
    clear hb12 c0
    go_wp2_with fail
    refine (implFmtMod_at z k _ _ H12.out (Nat.le_refl _) HV.out HL.out (HT.out.1.keep HW12.out) (HT.out.2.keep HW12.out)).mono ?_
    rintro e w13 ⟨v10, rfl, o10, hb13⟩
    have O10 := Lib.hid o10
    replace O4 := Lib.hid (O4.out.below hb13)
    replace O6 := Lib.hid (O6.out.below hb13)
    have HW13 := Lib.hid (bThen HW12.out hb13)
    clear o10 hb13
    go_wp2_with fail
    refine (eqS_any _ _ v10 v4 L _ O10.out O4.out (by omega)).mono ?_
    rintro e w14 ⟨rfl, hb14⟩
    replace O6 := Lib.hid (O6.out.below hb14)
    have HW14 := Lib.hid (bThen HW13.out hb14)
    clear hb14
    go_wp2_with fail
    refine (heldS_any _ v6 n _ 1 O6.out (by omega) (by omega) (by omega)).mono ?_
    rintro e w15 ⟨rfl, hb15⟩
    have HW15 := Lib.hid (bThen HW14.out hb15)
    clear hb15
    go_wp2
    go_ret
    exact ⟨rfl, HW15.out⟩
theorem exactFmtMod_law (u : Value) (z : DDesign) (k : Int) (w : World) (hw : rdDesign 0 w.heap.size w [u] z) (hL : laidMetH Tryz.prog Rows.fnExactFormatModuleRow.laid w) :
    Calls Tryz.prog 3 #[.agg #[u], .int .i64 k] w fun e w' => e = .returned (.bool true) ∧ Below w.heap.size w w' :=
  exactFmtMod_walk u z k w hw (powTab_of (laidMet.tail (laidMet.tail hL))) (words_of (laidMet.tail (laidMet.tail (laidMet.tail hL))))
end Go.Proofs.YtdfcbccpdflbfaaGreatDoor
