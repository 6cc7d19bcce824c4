/-
  The gate AddOr: the program.
-/
import Derived.Test.YtfncjgmmiihibaaHiQ
namespace Go.Proofs.Ytfncjgmmiihibaa
open Go.RowKit
set_option linter.unusedVariables false
set_option linter.unusedSimpArgs false

theorem orO_answer {n : DNet} {a b : Int} : orO n a b = if okL n [a, b] = true then gateO n (orG (firN n) n.2.2.1 a b) else (n, -1) := by
  by_cases h : okL n [a, b] = true
  · rw [if_pos h]
    exact orO_eqG (okL_net h) (.inr (okL_lit h (by simp))) (.inr (okL_lit h (by simp)))
  · rw [if_neg h]
    exact orO_no (by simpa using h)
set_option maxRecDepth 100000 in
set_option maxHeartbeats 3200000 in
theorem clOr_at (n : DNet) (a b : Int) (ada adb : Nat) (B g Mb : Nat) (v1 vA v3 : Value) (rows : List V3) (bs : List Nat) (w : World) (h : GrowAt B w g Mb v1 vA v3 rows bs n) (hB : B ≤ w.heap.size) (hS : SizeP n) (fa : 0 ≤ a ∧ a < 9223372036854775807) (fb : 0 ≤ b ∧ b < 9223372036854775807) (ca : w.cell? ⟨ada, 0, none⟩ = some (.int .i64 a)) (cb : w.cell? ⟨adb, 0, none⟩ = some (.int .i64 b)) {A' : List DAnd} {x : Int} (hr : orG (firN n) n.2.2.1 a b = (A', x)) :
    Calls Try.prog 61 #[.pointer (some ⟨g, 0, none⟩), .pointer (some ⟨ada, 0, none⟩), .pointer (some ⟨adb, 0, none⟩)] w fun e w' => e = .returned (.int .i64 x) ∧ GrewTo B w w' g Mb v1 vA v3 rows bs n A' := by
  have HC := Lib.hid (gOr_at n a b B g Mb v1 vA v3 rows bs w h hB hS ⟨by omega, by omega⟩ ⟨by omega, by omega⟩ hr)
  clear h hS hr
  go_enter Try.func61, Try.ntmps61
  go_wp2_with fail
  refine HC.out.mono ?_
  rintro e w2 ⟨rfl, hg⟩
  have HGT := Lib.hid hg
  clear hg
  go_wp2
  go_ret
  exact ⟨rfl, HGT.out⟩

set_option maxRecDepth 100000 in
set_option maxHeartbeats 12800000 in
theorem addedOr_at (n : DNet) (a b : Int) (ada adb : Nat) (us : List Value) (l : Value) (w : World) (h : rdNet 0 w.heap.size w us n) (hl : rdIntS 0 w.heap.size w [l] [a, b]) (hq12 : n.2.1.length ≤ 1048576) (hin : ∀ s ∈ n.2.1, s.2.2.length ≤ 1048576) (ha12 : n.2.2.1.length ≤ 1048576) (ho12 : n.2.2.2.length ≤ 1048576) (fa : Fit a) (fb : Fit b) (ca : w.cell? ⟨ada, 0, none⟩ = some (.int .i64 a)) (cb : w.cell? ⟨adb, 0, none⟩ = some (.int .i64 b)) {m : DNet} {y : Int} (hL : orO n a b = (m, y)) :
    Calls Try.prog 58 #[.agg us.toArray, .func (.func 61) #[] #[.pointer (some ⟨ada, 0, none⟩), .pointer (some ⟨adb, 0, none⟩)], l] w fun e w' => ∃ v1 vA v3 rows bs, e = .returned (.tuple #[.agg #[.int .i64 m.1, v1, vA, v3], .int .i64 y]) ∧ NetG w.heap.size w' v1 vA v3 rows bs m ∧ Below w.heap.size w w' := by
  have HX := Lib.hid (orO_answer.symm.trans hL)
  have HD := Lib.hid h
  have HLL := Lib.hid hl
  have HIN := Lib.hid hin
  have HFF := Lib.hid (show Fit a ∧ Fit b from ⟨fa, fb⟩)
  obtain ⟨lA, lc, rfl, lm, -⟩ := slice_of hl
  obtain ⟨f, hf⟩ : ∃ f, netB n = f := ⟨_, rfl⟩
  have HF := Lib.hid hf
  have HL0 := Lib.hid hL
  have ka := ca
  have kb := cb
  clear hin hl hf hL fa fb ca cb
  obtain ⟨mu0, mu1, mu2, mu3, rfl, mh0, mh1, mh2, mh3⟩ := h
  obtain ⟨me0, -⟩ := mh0
  injection me0 with me0
  subst me0
  obtain ⟨mA1, mc1, me1, mm1, -⟩ := slice_of mh1
  subst me1
  have mR1 := Lib.hid mh1
  clear mh1
  obtain ⟨mA2, mc2, me2, mm2, -⟩ := slice_of mh2
  subst me2
  have mR2 := Lib.hid mh2
  clear mh2
  obtain ⟨mA3, mc3, me3, mm3, -⟩ := slice_of mh3
  subst me3
  have mR3 := Lib.hid mh3
  clear mh3
  go_enter Try.func58, Try.ntmps58
  go_wp2_with fail
  obtain ⟨W0, hV⟩ : ∃ W0, W0 = ((w.alloc (.cells #[.int .i64 n.1, .slice mA1 (n.2.1).length mc1, .slice mA2 (n.2.2.1).length mc2, .slice mA3 (n.2.2.2).length mc3] 28)).alloc (.cells #[.int .i64 0, .slice none 0 0, .slice none 0 0, .slice none 0 0] 28)) := ⟨_, rfl⟩
  rw [← hV]
  have gN := eqbox2 hV
  have d0 : W0.cell? ⟨w.heap.size, 0, none⟩ = some (.int .i64 n.1) := box_cell gN.1 0 _ rfl
  have d1 : W0.cell? ⟨w.heap.size, 1, none⟩ = some (.slice mA1 (n.2.1).length mc1) := box_cell gN.1 1 _ rfl
  have d2 : W0.cell? ⟨w.heap.size, 2, none⟩ = some (.slice mA2 (n.2.2.1).length mc2) := box_cell gN.1 2 _ rfl
  have d3 : W0.cell? ⟨w.heap.size, 3, none⟩ = some (.slice mA3 (n.2.2.2).length mc3) := box_cell gN.1 3 _ rfl
  replace ka := keep gN.2.2 ka
  replace kb := keep gN.2.2 kb
  have HB := Lib.hid gN.2.2
  have HRES := Lib.hid (show BoxN W0 (w.heap.size + 1) (.int .i64 0) vNil vNil vNil from gN.2.1)
  clear hV gN
  refine (implNetOk_at n _ _ (rdUp good_Net HD.out HB.out) HF.out).mono ?_
  rintro e w1 ⟨rfl, hb1⟩
  replace d0 := keep hb1 d0
  replace d1 := keep hb1 d1
  replace d2 := keep hb1 d2
  replace d3 := keep hb1 d3
  replace ka := keep hb1 ka
  replace kb := keep hb1 kb
  replace HB := Lib.hid (bThen HB.out hb1)
  replace HRES := Lib.hid (HRES.out.at (hb1.block _ HRES.out.lt))
  clear hb1
  cases f with
  | false =>
    have hE := Prod.mk.inj (((if_neg (by rw [okL_false HF.out]; decide) : (if okL n [a, b] = true then gateO n (orG (firN n) n.2.2.1 a b) else (n, -1)) = (n, -1))).symm.trans HX.out)
    obtain ⟨hE1, hE2⟩ := hE
    subst hE1 hE2
    go_wp2_with fail
    refine (copied_at n _ _ (rdUp good_Net HD.out HB.out) hq12 HIN.out ha12 ho12).mono ?_
    rintro e w9 ⟨v1, vA, v3, rows, bs, rfl, hnet, hb9⟩
    obtain ⟨A1, c1, rfl⟩ := hnet.s.cap fV3_len
    obtain ⟨A2, c2, rfl⟩ := hnet.a.cap fAnd_len
    obtain ⟨A3, c3, rfl⟩ := hnet.o.cap fInt_len
    have HN := Lib.hid hnet
    have hres := HRES.out.at (hb9.block _ HRES.out.lt)
    have hsz := HB.out.size
    have HB9 := Lib.hid (bThen HB.out hb9)
    have hFl := HRES.out.lt
    have f0 := hres.cells.1.1
    have f1 := hres.cells.1.2.1
    have f2 := hres.cells.1.2.2.1
    have f3 := hres.cells.1.2.2.2
    have fz := hres.cells.2
    clear hnet hb9 hres
    go_wp2
    ((try simp only [Exit.inBlock, Exit.then]); refine bodyPost_ret (v := (.tuple #[.agg #[.int .i64 n.1, .slice A1 n.2.1.length c1, .slice A2 n.2.2.1.length c2, .slice A3 n.2.2.2.length c3], .int .i64 (-1)])) (by rw [results_cell_tmp rfl]; go_simp) rfl ?_)
    have P1 := (HN.out.at (w' := ((((w9.setCell ⟨w.heap.size + 1, 0, none⟩ (.int .i64 n.1)).setCell ⟨w.heap.size + 1, 1, none⟩ (.slice A1 n.2.1.length c1)).setCell ⟨w.heap.size + 1, 2, none⟩ (.slice A2 n.2.2.1.length c2)).setCell ⟨w.heap.size + 1, 3, none⟩ (.slice A3 n.2.2.2.length c3))) fun b h1 h2 h3 => far4 (by omega)).lower (B' := w.heap.size) hsz
    have P2 := bSet (bSet (bSet (bSet HB9.out (p := ⟨w.heap.size + 1, 0, none⟩) (Nat.le_succ _) (.int .i64 n.1)) (p := ⟨w.heap.size + 1, 1, none⟩) (Nat.le_succ _) (.slice A1 n.2.1.length c1)) (p := ⟨w.heap.size + 1, 2, none⟩) (Nat.le_succ _) (.slice A2 n.2.2.1.length c2)) (p := ⟨w.heap.size + 1, 3, none⟩) (Nat.le_succ _) (.slice A3 n.2.2.2.length c3)
    first | exact ⟨_, _, _, rows, bs, rfl, P1, P2⟩ | exact ⟨_, _, _, rfl, rows, bs, P1, P2⟩ | exact ⟨_, _, _, rfl, ⟨rows, bs, P1⟩, P2⟩
  | true =>
    obtain ⟨q, hq⟩ : ∃ q, ncI n = q := ⟨_, rfl⟩
    have HQ := Lib.hid hq
    obtain ⟨t, ht⟩ : ∃ t, ([a, b]).all (litB q) = t := ⟨_, rfl⟩
    have HT := Lib.hid ht
    have HOK := Lib.hid (okL_lits (L := [a, b]) (f := t) HF.out (by rw [hq]; exact ht))
    clear hq ht
    go_wp2_with fail
    refine (implNc_at n _ _ (rdUp good_Net HD.out HB.out) (Nat.le_refl _) HQ.out).mono ?_
    rintro e w2 ⟨rfl, hb2⟩
    replace d0 := keep hb2 d0
    replace d1 := keep hb2 d1
    replace d2 := keep hb2 d2
    replace d3 := keep hb2 d3
    replace ka := keep hb2 ka
    replace kb := keep hb2 kb
    replace HB := Lib.hid (bThen HB.out hb2)
    replace HRES := Lib.hid (HRES.out.at (hb2.block _ HRES.out.lt))
    clear hb2
    go_wp2_with fail
    refine (litsOk_at [a, b] q _ _ (rdUp good_IntS HLL.out HB.out) (Nat.le_refl _) HT.out).mono ?_
    rintro e w3 ⟨rfl, hb3⟩
    replace d0 := keep hb3 d0
    replace d1 := keep hb3 d1
    replace d2 := keep hb3 d2
    replace d3 := keep hb3 d3
    replace ka := keep hb3 ka
    replace kb := keep hb3 kb
    replace HB := Lib.hid (bThen HB.out hb3)
    replace HRES := Lib.hid (HRES.out.at (hb3.block _ HRES.out.lt))
    clear hb3
    cases t with
    | false =>
      have hE := Prod.mk.inj (((if_neg (by rw [HOK.out]; decide) : (if okL n [a, b] = true then gateO n (orG (firN n) n.2.2.1 a b) else (n, -1)) = (n, -1))).symm.trans HX.out)
      obtain ⟨hE1, hE2⟩ := hE
      subst hE1 hE2
      go_wp2_with fail
      refine (copied_at n _ _ (rdUp good_Net HD.out HB.out) hq12 HIN.out ha12 ho12).mono ?_
      rintro e w9 ⟨v1, vA, v3, rows, bs, rfl, hnet, hb9⟩
      obtain ⟨A1, c1, rfl⟩ := hnet.s.cap fV3_len
      obtain ⟨A2, c2, rfl⟩ := hnet.a.cap fAnd_len
      obtain ⟨A3, c3, rfl⟩ := hnet.o.cap fInt_len
      have HN := Lib.hid hnet
      have hres := HRES.out.at (hb9.block _ HRES.out.lt)
      have hsz := HB.out.size
      have HB9 := Lib.hid (bThen HB.out hb9)
      have hFl := HRES.out.lt
      have f0 := hres.cells.1.1
      have f1 := hres.cells.1.2.1
      have f2 := hres.cells.1.2.2.1
      have f3 := hres.cells.1.2.2.2
      have fz := hres.cells.2
      clear hnet hb9 hres
      go_wp2
      ((try simp only [Exit.inBlock, Exit.then]); refine bodyPost_ret (v := (.tuple #[.agg #[.int .i64 n.1, .slice A1 n.2.1.length c1, .slice A2 n.2.2.1.length c2, .slice A3 n.2.2.2.length c3], .int .i64 (-1)])) (by rw [results_cell_tmp rfl]; go_simp) rfl ?_)
      have P1 := (HN.out.at (w' := ((((w9.setCell ⟨w.heap.size + 1, 0, none⟩ (.int .i64 n.1)).setCell ⟨w.heap.size + 1, 1, none⟩ (.slice A1 n.2.1.length c1)).setCell ⟨w.heap.size + 1, 2, none⟩ (.slice A2 n.2.2.1.length c2)).setCell ⟨w.heap.size + 1, 3, none⟩ (.slice A3 n.2.2.2.length c3))) fun b h1 h2 h3 => far4 (by omega)).lower (B' := w.heap.size) hsz
      have P2 := bSet (bSet (bSet (bSet HB9.out (p := ⟨w.heap.size + 1, 0, none⟩) (Nat.le_succ _) (.int .i64 n.1)) (p := ⟨w.heap.size + 1, 1, none⟩) (Nat.le_succ _) (.slice A1 n.2.1.length c1)) (p := ⟨w.heap.size + 1, 2, none⟩) (Nat.le_succ _) (.slice A2 n.2.2.1.length c2)) (p := ⟨w.heap.size + 1, 3, none⟩) (Nat.le_succ _) (.slice A3 n.2.2.2.length c3)
      first | exact ⟨_, _, _, rows, bs, rfl, P1, P2⟩ | exact ⟨_, _, _, rfl, rows, bs, P1, P2⟩ | exact ⟨_, _, _, rfl, ⟨rows, bs, P1⟩, P2⟩
    | true =>
      have HP := Lib.hid (okL_net HOK.out)
      obtain ⟨r, hr⟩ : ∃ r, orG (firN n) n.2.2.1 a b = r := ⟨_, rfl⟩
      have HX2 := Lib.hid ((show (if okL n [a, b] = true then gateO n (orG (firN n) n.2.2.1 a b) else (n, -1)) = gateO n r by rw [if_pos HOK.out, hr]).symm.trans HX.out)
      obtain ⟨A', x⟩ := r
      have HR := Lib.hid hr
      clear hr
      go_wp2_with fail
      refine (grow_at n _ _ (rdUp good_Net HD.out HB.out) HP.out.sz HIN.out).mono ?_
      first | rintro e w4 ⟨g, Mb, v1, vA, v3, rows, bs, rfl, hg, hb4⟩ | rintro e w4 ⟨g, rfl, Mb, v1, vA, v3, rows, bs, hg, hb4⟩
      have HG := Lib.hid hg
      have hB3 := hb4.size
      have hw3 := HB.out.size
      have hF3 := HRES.out.lt
      have hgB := hg.hg
      clear hg
      replace d0 := keep hb4 d0
      replace d1 := keep hb4 d1
      replace d2 := keep hb4 d2
      replace d3 := keep hb4 d3
      replace ka := keep hb4 ka
      replace kb := keep hb4 kb
      replace HB := Lib.hid (bThen HB.out hb4)
      replace HRES := Lib.hid (HRES.out.at (hb4.block _ HRES.out.lt))
      clear hb4
      have HKK := Lib.hid (And.intro ka kb)
      go_wp2_with fail
      refine (clOr_at n a b ada adb w3.heap.size g Mb v1 vA v3 rows bs w4 HG.out hB3 HP.out.sz ⟨(okL_lit HOK.out (a := a) (by simp)).pos, litP_lt HP.out (okL_lit HOK.out (a := a) (by simp))⟩ ⟨(okL_lit HOK.out (a := b) (by simp)).pos, litP_lt HP.out (okL_lit HOK.out (a := b) (by simp))⟩ HKK.out.1 HKK.out.2 HR.out).mono ?_
      rintro e w5 ⟨rfl, vC, hg5, hc5, -⟩
      have hb5 := HG.out.chg (c := w) (N := w.heap.size) (HB.out) hw3 hc5 (by omega)
      have HRES5 := Lib.hid (HRES.out.at (hc5.block _ HRES.out.lt (fun hm => by
        have := HG.out.lt (b := w.heap.size + 1) (by rcases List.mem_cons.1 hm with e | hm; exact .inl e; rcases List.mem_cons.1 hm with e | hm; exact .inr (.inl e); exact .inr (.inr (by simp [hm])))
        omega)))
      obtain ⟨A1, c1, rfl⟩ : ∃ A c, v1 = .slice A n.2.1.length c := hg5.net.s.cap fV3_len
      obtain ⟨A2, c2, rfl⟩ : ∃ A c, vC = .slice A A'.length c := hg5.net.a.cap fAnd_len
      obtain ⟨A3, c3, rfl⟩ : ∃ A c, v3 = .slice A n.2.2.2.length c := hg5.net.o.cap fInt_len
      have HG5 := Lib.hid hg5
      have HDW := Lib.hid (good_Net.below HD.out (Nat.le_refl _) hb5)
      have e0 := hb5
      have d0z : w5.cell? ⟨w.heap.size, 0, none⟩ = some (.int .i64 n.1) := (World.cell?_of_block (hc5.block w.heap.size (World.block_lt_of_cell? _ _ d0) (fun hm => by have := HG.out.lt (b := w.heap.size) (by rcases List.mem_cons.1 hm with e | hm; exact .inl e; rcases List.mem_cons.1 hm with e | hm; exact .inr (.inl e); exact .inr (.inr (by simp [hm]))); omega))).trans d0
      have d1z : w5.cell? ⟨w.heap.size, 1, none⟩ = some (.slice mA1 (n.2.1).length mc1) := (World.cell?_of_block (hc5.block w.heap.size (World.block_lt_of_cell? _ _ d1) (fun hm => by have := HG.out.lt (b := w.heap.size) (by rcases List.mem_cons.1 hm with e | hm; exact .inl e; rcases List.mem_cons.1 hm with e | hm; exact .inr (.inl e); exact .inr (.inr (by simp [hm]))); omega))).trans d1
      have d2z : w5.cell? ⟨w.heap.size, 2, none⟩ = some (.slice mA2 (n.2.2.1).length mc2) := (World.cell?_of_block (hc5.block w.heap.size (World.block_lt_of_cell? _ _ d2) (fun hm => by have := HG.out.lt (b := w.heap.size) (by rcases List.mem_cons.1 hm with e | hm; exact .inl e; rcases List.mem_cons.1 hm with e | hm; exact .inr (.inl e); exact .inr (.inr (by simp [hm]))); omega))).trans d2
      have d3z : w5.cell? ⟨w.heap.size, 3, none⟩ = some (.slice mA3 (n.2.2.2).length mc3) := (World.cell?_of_block (hc5.block w.heap.size (World.block_lt_of_cell? _ _ d3) (fun hm => by have := HG.out.lt (b := w.heap.size) (by rcases List.mem_cons.1 hm with e | hm; exact .inl e; rcases List.mem_cons.1 hm with e | hm; exact .inr (.inl e); exact .inr (.inr (by simp [hm]))); omega))).trans d3
      clear HB HRES d0 d1 d2 d3 ka kb hc5 hg5 e0
      have HB := Lib.hid hb5
      have HRES := Lib.hid HRES5.out
      clear HRES5 hb5
      by_cases hx : x < 0
      · have tx : ¬ 0 ≤ x := by omega
        have hE := Prod.mk.inj (((if_pos hx : gateO n (A', x) = (n, -1))).symm.trans HX2.out)
        obtain ⟨hE1, hE2⟩ := hE
        subst hE1 hE2
        go_wp2_with fail
        refine (copied_at n _ _ (rdUp good_Net HD.out HB.out) hq12 HIN.out ha12 ho12).mono ?_
        rintro e w9 ⟨v1, vA, v3, rows, bs, rfl, hnet, hb9⟩
        obtain ⟨A1, c1, rfl⟩ := hnet.s.cap fV3_len
        obtain ⟨A2, c2, rfl⟩ := hnet.a.cap fAnd_len
        obtain ⟨A3, c3, rfl⟩ := hnet.o.cap fInt_len
        have HN := Lib.hid hnet
        have hres := HRES.out.at (hb9.block _ HRES.out.lt)
        have hsz := HB.out.size
        have HB9 := Lib.hid (bThen HB.out hb9)
        have hFl := HRES.out.lt
        have f0 := hres.cells.1.1
        have f1 := hres.cells.1.2.1
        have f2 := hres.cells.1.2.2.1
        have f3 := hres.cells.1.2.2.2
        have fz := hres.cells.2
        clear hnet hb9 hres
        go_wp2
        ((try simp only [Exit.inBlock, Exit.then]); refine bodyPost_ret (v := (.tuple #[.agg #[.int .i64 n.1, .slice A1 n.2.1.length c1, .slice A2 n.2.2.1.length c2, .slice A3 n.2.2.2.length c3], .int .i64 (-1)])) (by rw [results_cell_tmp rfl]; go_simp) rfl ?_)
        have P1 := (HN.out.at (w' := ((((w9.setCell ⟨w.heap.size + 1, 0, none⟩ (.int .i64 n.1)).setCell ⟨w.heap.size + 1, 1, none⟩ (.slice A1 n.2.1.length c1)).setCell ⟨w.heap.size + 1, 2, none⟩ (.slice A2 n.2.2.1.length c2)).setCell ⟨w.heap.size + 1, 3, none⟩ (.slice A3 n.2.2.2.length c3))) fun b h1 h2 h3 => far4 (by omega)).lower (B' := w.heap.size) hsz
        have P2 := bSet (bSet (bSet (bSet HB9.out (p := ⟨w.heap.size + 1, 0, none⟩) (Nat.le_succ _) (.int .i64 n.1)) (p := ⟨w.heap.size + 1, 1, none⟩) (Nat.le_succ _) (.slice A1 n.2.1.length c1)) (p := ⟨w.heap.size + 1, 2, none⟩) (Nat.le_succ _) (.slice A2 n.2.2.1.length c2)) (p := ⟨w.heap.size + 1, 3, none⟩) (Nat.le_succ _) (.slice A3 n.2.2.2.length c3)
        first | exact ⟨_, _, _, rows, bs, rfl, P1, P2⟩ | exact ⟨_, _, _, rfl, rows, bs, P1, P2⟩ | exact ⟨_, _, _, rfl, ⟨rows, bs, P1⟩, P2⟩
      · have tx : 0 ≤ x := by omega
        have hE := Prod.mk.inj ((show gateO n (A', x) = (withA n A', x) from if_neg hx).symm.trans HX2.out)
        obtain ⟨hE1, hE2⟩ := hE
        subst hE1 hE2
        have k0 : w5.cell? ⟨g, 0, none⟩ = some (.int .i64 n.1) := HG5.out.box.cells.1.1
        have k1 := HG5.out.box.cells.1.2.1
        have k2 := HG5.out.box.cells.1.2.2.1
        have k3 := HG5.out.box.cells.1.2.2.2.1
        have f0 := HRES.out.cells.1.1
        have f1 := HRES.out.cells.1.2.1
        have f2 := HRES.out.cells.1.2.2.1
        have f3 := HRES.out.cells.1.2.2.2
        have fz := HRES.out.cells.2
        have hne : g ≠ w.heap.size + 1 := by omega
        go_wp2
        ((try simp only [Exit.inBlock, Exit.then]); refine bodyPost_ret (v := (.tuple #[.agg #[.int .i64 n.1, .slice A1 n.2.1.length c1, .slice A2 A'.length c2, .slice A3 n.2.2.2.length c3], .int .i64 x])) (by rw [results_cell_tmp rfl]; go_simp) rfl ?_)
        have P1 := (HG5.out.net.at (w' := ((((w5.setCell ⟨w.heap.size + 1, 0, none⟩ (.int .i64 n.1)).setCell ⟨w.heap.size + 1, 1, none⟩ (.slice A1 n.2.1.length c1)).setCell ⟨w.heap.size + 1, 2, none⟩ (.slice A2 A'.length c2)).setCell ⟨w.heap.size + 1, 3, none⟩ (.slice A3 n.2.2.2.length c3))) fun b h1 h2 h3 => far4 (by omega)).lower (B' := w.heap.size) hw3
        have P2 := bSet (bSet (bSet (bSet HB.out (p := ⟨w.heap.size + 1, 0, none⟩) (Nat.le_succ _) (.int .i64 n.1)) (p := ⟨w.heap.size + 1, 1, none⟩) (Nat.le_succ _) (.slice A1 n.2.1.length c1)) (p := ⟨w.heap.size + 1, 2, none⟩) (Nat.le_succ _) (.slice A2 A'.length c2)) (p := ⟨w.heap.size + 1, 3, none⟩) (Nat.le_succ _) (.slice A3 n.2.2.2.length c3)
        first | exact ⟨_, _, _, rows, bs, rfl, P1, P2⟩ | exact ⟨_, _, _, rfl, rows, bs, P1, P2⟩ | exact ⟨_, _, _, rfl, ⟨rows, bs, P1⟩, P2⟩
end Go.Proofs.Ytfncjgmmiihibaa
