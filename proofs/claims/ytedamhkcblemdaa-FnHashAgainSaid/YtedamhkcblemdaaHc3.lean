/-
  AddAnd: the specification.
-/
import Derived.Test.YtedamhkcblemdaaHcP
import Derived.Deep.RegionHeld3
import Derived.Laws.StructEq
namespace Go.Proofs.Ytedamhkcblemdaa
open Go.RowKit
set_option linter.unusedVariables false
set_option linter.unusedSimpArgs false

set_option maxRecDepth 100000 in
set_option maxHeartbeats 25600000 in
theorem specAnd_at (n : DNet) (a b : Int) (us : List Value) (w : World) (h : rdNet 0 w.heap.size w us n) (hq12 : n.2.1.length ≤ 3000000) (hin : ∀ s ∈ n.2.1, s.2.2.length ≤ 3000000) (ha12 : n.2.2.1.length ≤ 3000000) (ho12 : n.2.2.2.length ≤ 3000000) (fa : Fit a) (fb : Fit b) {m : DNet} {x : Int} (hm : andO n a b = (m, x)) :
    Calls Try.prog 83 #[.agg us.toArray, .int .i64 a, .int .i64 b] w fun e w' => ∃ v1 vA v3 rows bs, e = .returned (.tuple #[.agg #[.int .i64 m.1, v1, vA, v3], .int .i64 x]) ∧ NetG w.heap.size w' v1 vA v3 rows bs m ∧ Below w.heap.size w w' := by
  obtain ⟨iA, hiA, hzA0, hzA1, hzA2⟩ := info_parts infoA1
  have HD := Lib.hid h
  have HX := Lib.hid hm
  have HIN := Lib.hid hin
  clear hm hin
  obtain ⟨mu0, mu1, mu2, mu3, rfl, mh0, mh1, mh2, mh3⟩ := h
  obtain ⟨me0, -⟩ := mh0
  injection me0 with me0
  subst me0
  obtain ⟨mA1, mc1, me1, mm1, -⟩ := slice_of mh1
  subst me1
  have mR1 := Lib.hid mh1
  clear mh1
  obtain ⟨mA2, mc2, me2, mm2, -⟩ := slice_of mh2
  subst me2
  have mR2 := Lib.hid mh2
  clear mh2
  obtain ⟨mA3, mc3, me3, mm3, -⟩ := slice_of mh3
  subst me3
  have mR3 := Lib.hid mh3
  clear mh3
  go_enter Try.func83, Try.ntmps83
  go_wp2_with fail
  obtain ⟨W0, hV⟩ : ∃ W0, W0 = ((w.alloc (.cells #[.int .i64 n.1, .slice mA1 (n.2.1).length mc1, .slice mA2 (n.2.2.1).length mc2, .slice mA3 (n.2.2.2).length mc3] 36)).alloc (.cells #[.int .i64 0, .slice none 0 0, .slice none 0 0, .slice none 0 0] 36)) := ⟨_, rfl⟩
  rw [← hV]
  have gN := eqbox2 hV
  have d0 : W0.cell? ⟨w.heap.size, 0, none⟩ = some (.int .i64 n.1) := box_cell gN.1 0 _ rfl
  have d1 : W0.cell? ⟨w.heap.size, 1, none⟩ = some (.slice mA1 (n.2.1).length mc1) := box_cell gN.1 1 _ rfl
  have d2 : W0.cell? ⟨w.heap.size, 2, none⟩ = some (.slice mA2 (n.2.2.1).length mc2) := box_cell gN.1 2 _ rfl
  have d3 : W0.cell? ⟨w.heap.size, 3, none⟩ = some (.slice mA3 (n.2.2.2).length mc3) := box_cell gN.1 3 _ rfl
  have r0 : W0.cell? ⟨w.heap.size + 1, 0, none⟩ = some (.int .i64 0) := box_cell gN.2.1 0 _ rfl
  have r1 : W0.cell? ⟨w.heap.size + 1, 1, none⟩ = some (.slice none 0 0) := box_cell gN.2.1 1 _ rfl
  have r2 : W0.cell? ⟨w.heap.size + 1, 2, none⟩ = some (.slice none 0 0) := box_cell gN.2.1 2 _ rfl
  have r3 : W0.cell? ⟨w.heap.size + 1, 3, none⟩ = some (.slice none 0 0) := box_cell gN.2.1 3 _ rfl
  have sW0 : W0.heap.size = w.heap.size + 2 := by rw [hV]; simp
  have HW0 := Lib.hid gN.2.2
  have HR0 := Lib.hid (show BoxN W0 (w.heap.size + 1) (.int .i64 0) vNil vNil vNil from gN.2.1)
  clear hV gN r0 r1 r2 r3
  refine (specCopy_at n _ _ (rdUp good_Net HD.out HW0.out) hq12 HIN.out ha12 ho12).mono ?_
  rintro e w1 ⟨v1, vA, v3, rows, bs, rfl, hnet, hb⟩
  replace d0 := keep hb d0
  replace d1 := keep hb d1
  replace d2 := keep hb d2
  replace d3 := keep hb d3
  obtain ⟨A1, c1, rfl⟩ := hnet.s.cap fV3_len
  obtain ⟨A2, c2, rfl⟩ := hnet.a.cap fAnd_len
  obtain ⟨A3, c3, rfl⟩ := hnet.o.cap fInt_len
  obtain ⟨W2, hW2⟩ : ∃ W2, W2 = w1.alloc (.cells #[.int .i64 n.1, .slice A1 n.2.1.length c1, .slice A2 n.2.2.1.length c2, .slice A3 n.2.2.2.length c3] 36) := ⟨_, rfl⟩
  have hsz := hb.size
  have HC := Lib.hid (CopyAt.init (w0 := w) (F := w.heap.size + 1) hW2 (HR0.out.at (hb.block _ HR0.out.lt)) (by rw [← sW0]; exact hnet) (bThen HW0.out hb) (Nat.le_succ _) (by omega) (by omega))
  have HB := Lib.hid HC.out.chg
  have hbb : Below w1.heap.size w1 W2 := by rw [hW2]; exact bAlloc (Below.refl _ _) (Nat.le_refl _) _
  replace d0 := keep hbb d0
  replace d1 := keep hbb d1
  replace d2 := keep hbb d2
  replace d3 := keep hbb d3
  have y0 : (w1.alloc (.cells #[.int .i64 0, .slice none 0 0, .slice none 0 0, .slice none 0 0] 36)).cell? ⟨w1.heap.size, 0, none⟩ = some (.int .i64 0) := box_cell (heap_alloc_new w1 (.cells #[.int .i64 0, .slice none 0 0, .slice none 0 0, .slice none 0 0] 36)) 0 _ rfl
  have z0 : (w1.alloc (.cells #[.int .i64 0, .slice none 0 0, .slice none 0 0, .slice none 0 0] 36)).frozen? ⟨w1.heap.size, 0, none⟩ = false := frozen_of_row _ _ 0 _ _ (heap_alloc_new w1 (.cells #[.int .i64 0, .slice none 0 0, .slice none 0 0, .slice none 0 0] 36))
  have y1 : (w1.alloc (.cells #[.int .i64 n.1, .slice none 0 0, .slice none 0 0, .slice none 0 0] 36)).cell? ⟨w1.heap.size, 1, none⟩ = some (.slice none 0 0) := box_cell (heap_alloc_new w1 (.cells #[.int .i64 n.1, .slice none 0 0, .slice none 0 0, .slice none 0 0] 36)) 1 _ rfl
  have z1 : (w1.alloc (.cells #[.int .i64 n.1, .slice none 0 0, .slice none 0 0, .slice none 0 0] 36)).frozen? ⟨w1.heap.size, 1, none⟩ = false := frozen_of_row _ _ 1 _ _ (heap_alloc_new w1 (.cells #[.int .i64 n.1, .slice none 0 0, .slice none 0 0, .slice none 0 0] 36))
  have y2 : (w1.alloc (.cells #[.int .i64 n.1, .slice A1 n.2.1.length c1, .slice none 0 0, .slice none 0 0] 36)).cell? ⟨w1.heap.size, 2, none⟩ = some (.slice none 0 0) := box_cell (heap_alloc_new w1 (.cells #[.int .i64 n.1, .slice A1 n.2.1.length c1, .slice none 0 0, .slice none 0 0] 36)) 2 _ rfl
  have z2 : (w1.alloc (.cells #[.int .i64 n.1, .slice A1 n.2.1.length c1, .slice none 0 0, .slice none 0 0] 36)).frozen? ⟨w1.heap.size, 2, none⟩ = false := frozen_of_row _ _ 2 _ _ (heap_alloc_new w1 (.cells #[.int .i64 n.1, .slice A1 n.2.1.length c1, .slice none 0 0, .slice none 0 0] 36))
  have y3 : (w1.alloc (.cells #[.int .i64 n.1, .slice A1 n.2.1.length c1, .slice A2 n.2.2.1.length c2, .slice none 0 0] 36)).cell? ⟨w1.heap.size, 3, none⟩ = some (.slice none 0 0) := box_cell (heap_alloc_new w1 (.cells #[.int .i64 n.1, .slice A1 n.2.1.length c1, .slice A2 n.2.2.1.length c2, .slice none 0 0] 36)) 3 _ rfl
  have z3 : (w1.alloc (.cells #[.int .i64 n.1, .slice A1 n.2.1.length c1, .slice A2 n.2.2.1.length c2, .slice none 0 0] 36)).frozen? ⟨w1.heap.size, 3, none⟩ = false := frozen_of_row _ _ 3 _ _ (heap_alloc_new w1 (.cells #[.int .i64 n.1, .slice A1 n.2.1.length c1, .slice A2 n.2.2.1.length c2, .slice none 0 0] 36))
  have e0 := d0
  have e1 := d1
  have e2 := d2
  have e3 := d3
  rw [hW2] at e0 e1 e2 e3
  clear hb hbb hnet hsz HR0
  go_wp2_with fail
  rw [← hW2]
  clear y0 z0 y1 z1 y2 z2 y3 z3 hW2 e0 e1 e2 e3
  obtain ⟨G, hG⟩ : ∃ G, w1.heap.size = G := ⟨_, rfl⟩
  rw [hG] at HC ⊢
  clear hG
  obtain ⟨f, hf⟩ : ∃ f, netB n = f := ⟨_, rfl⟩
  have HF := Lib.hid hf
  clear hf
  refine (specNc_at n _ _ (rdUp good_Net HD.out HB.out) (Nat.le_refl _) rfl).mono ?_
  rintro e w3 ⟨rfl, hb⟩
  replace HC := Lib.hid (HC.out.below hb)
  replace HB := Lib.hid (bThen HB.out hb)
  replace d0 := keep hb d0
  replace d1 := keep hb d1
  replace d2 := keep hb d2
  replace d3 := keep hb d3
  clear hb
  go_wp2_with fail
  refine (specNetOk_at n _ _ (rdUp good_Net HD.out HB.out) HF.out).mono ?_
  rintro e w4 ⟨rfl, hb⟩
  replace HC := Lib.hid (HC.out.below hb)
  replace HB := Lib.hid (bThen HB.out hb)
  replace d0 := keep hb d0
  replace d1 := keep hb d1
  replace d2 := keep hb d2
  replace d3 := keep hb d3
  clear hb
  cases f with
  | false =>
    have hE := Prod.mk.inj ((andA_bad (fun c => by rw [HF.out] at c; cases c.1)).symm.trans HX.out)
    obtain ⟨hE1, hE2⟩ := hE
    subst hE1 hE2
    have g0 := HC.out.box.cells.1.1
    have g1 := HC.out.box.cells.1.2.1
    have g2 := HC.out.box.cells.1.2.2.1
    have g3 := HC.out.box.cells.1.2.2.2
    have gz := HC.out.box.cells.2
    have f0 := HC.out.res.cells.1.1
    have f1 := HC.out.res.cells.1.2.1
    have f2 := HC.out.res.cells.1.2.2.1
    have f3 := HC.out.res.cells.1.2.2.2
    have fz := HC.out.res.cells.2
    go_wp2
    ((try simp only [Exit.inBlock, Exit.then]); refine bodyPost_ret (v := (.tuple #[.agg #[.int .i64 n.1, .slice A1 n.2.1.length c1, .slice A2 n.2.2.1.length c2, .slice A3 n.2.2.2.length c3], .int .i64 (-1)])) (by rw [results_cell_tmp rfl]; go_simp) rfl ?_)
    exact ⟨_, _, _, rows, bs, rfl, (HC.out.done _ _ _ _).1, (HC.out.done _ _ _ _).2⟩
  | true =>
    have hP := netP_of HF.out
    have HNC := Lib.hid hP.sz.nc
    have a300 := hP.sz.a300
    have hN3 := hP.sz.net_le
    have HP := Lib.hid hP
    clear hP
    obtain ⟨la, hla⟩ : ∃ r, litB (ncI n) a = r := ⟨_, rfl⟩
    have HLA := Lib.hid hla
    clear hla
    go_wp2_with fail
    refine (specLit_at a (ncI n) _ fa HLA.out).mono ?_
    rintro e w5 ⟨rfl, hb⟩
    replace HC := Lib.hid (HC.out.below hb)
    replace HB := Lib.hid (bThen HB.out hb)
    replace d0 := keep hb d0
    replace d1 := keep hb d1
    replace d2 := keep hb d2
    replace d3 := keep hb d3
    clear hb
    cases la with
    | false =>
      have hE := Prod.mk.inj ((andA_bad (fun c => by rw [HLA.out] at c; cases c.2.1)).symm.trans HX.out)
      obtain ⟨hE1, hE2⟩ := hE
      subst hE1 hE2
      have g0 := HC.out.box.cells.1.1
      have g1 := HC.out.box.cells.1.2.1
      have g2 := HC.out.box.cells.1.2.2.1
      have g3 := HC.out.box.cells.1.2.2.2
      have gz := HC.out.box.cells.2
      have f0 := HC.out.res.cells.1.1
      have f1 := HC.out.res.cells.1.2.1
      have f2 := HC.out.res.cells.1.2.2.1
      have f3 := HC.out.res.cells.1.2.2.2
      have fz := HC.out.res.cells.2
      go_wp2
      ((try simp only [Exit.inBlock, Exit.then]); refine bodyPost_ret (v := (.tuple #[.agg #[.int .i64 n.1, .slice A1 n.2.1.length c1, .slice A2 n.2.2.1.length c2, .slice A3 n.2.2.2.length c3], .int .i64 (-1)])) (by rw [results_cell_tmp rfl]; go_simp) rfl ?_)
      exact ⟨_, _, _, rows, bs, rfl, (HC.out.done _ _ _ _).1, (HC.out.done _ _ _ _).2⟩
    | true =>
    obtain ⟨lb, hlb⟩ : ∃ r, litB (ncI n) b = r := ⟨_, rfl⟩
    have HLB := Lib.hid hlb
    clear hlb
    go_wp2_with fail
    refine (specLit_at b (ncI n) _ fb HLB.out).mono ?_
    rintro e w6 ⟨rfl, hb⟩
    replace HC := Lib.hid (HC.out.below hb)
    replace HB := Lib.hid (bThen HB.out hb)
    replace d0 := keep hb d0
    replace d1 := keep hb d1
    replace d2 := keep hb d2
    replace d3 := keep hb d3
    clear hb
    cases lb with
    | false =>
      have hE := Prod.mk.inj ((andA_bad (fun c => by rw [HLB.out] at c; cases c.2.2)).symm.trans HX.out)
      obtain ⟨hE1, hE2⟩ := hE
      subst hE1 hE2
      have g0 := HC.out.box.cells.1.1
      have g1 := HC.out.box.cells.1.2.1
      have g2 := HC.out.box.cells.1.2.2.1
      have g3 := HC.out.box.cells.1.2.2.2
      have gz := HC.out.box.cells.2
      have f0 := HC.out.res.cells.1.1
      have f1 := HC.out.res.cells.1.2.1
      have f2 := HC.out.res.cells.1.2.2.1
      have f3 := HC.out.res.cells.1.2.2.2
      have fz := HC.out.res.cells.2
      go_wp2
      ((try simp only [Exit.inBlock, Exit.then]); refine bodyPost_ret (v := (.tuple #[.agg #[.int .i64 n.1, .slice A1 n.2.1.length c1, .slice A2 n.2.2.1.length c2, .slice A3 n.2.2.2.length c3], .int .i64 (-1)])) (by rw [results_cell_tmp rfl]; go_simp) rfl ?_)
      exact ⟨_, _, _, rows, bs, rfl, (HC.out.done _ _ _ _).1, (HC.out.done _ _ _ _).2⟩
    | true =>
    have HOK := Lib.hid (And.intro HF.out (And.intro HLA.out HLB.out))
    have HA2 := Lib.hid (lit_of (HNC.out ▸ HLA.out))
    have HB2 := Lib.hid (lit_of (HNC.out ▸ HLB.out))
    have hxb : bits .xor .i64 b 1 = notI b := by
      obtain ⟨q, rfl, hq, -⟩ := HB2.out
      exact not_bits q (by omega)
    obtain ⟨nb, hnb⟩ : ∃ c, notI b = c := ⟨_, rfl⟩
    rw [hnb] at hxb
    have HNB := Lib.hid hnb
    clear hnb
    by_cases a0 : a = 0
    · have HEQ := Lib.hid (andO_zero HOK.out (.inl a0))
      have hE := Prod.mk.inj ((HEQ.out).symm.trans HX.out)
      obtain ⟨hE1, hE2⟩ := hE
      subst hE1 hE2
      have g0 := HC.out.box.cells.1.1
      have g1 := HC.out.box.cells.1.2.1
      have g2 := HC.out.box.cells.1.2.2.1
      have g3 := HC.out.box.cells.1.2.2.2
      have gz := HC.out.box.cells.2
      have f0 := HC.out.res.cells.1.1
      have f1 := HC.out.res.cells.1.2.1
      have f2 := HC.out.res.cells.1.2.2.1
      have f3 := HC.out.res.cells.1.2.2.2
      have fz := HC.out.res.cells.2
      go_wp2
      ((try simp only [Exit.inBlock, Exit.then]); refine bodyPost_ret (v := (.tuple #[.agg #[.int .i64 n.1, .slice A1 n.2.1.length c1, .slice A2 n.2.2.1.length c2, .slice A3 n.2.2.2.length c3], .int .i64 (0)])) (by rw [results_cell_tmp rfl]; go_simp) rfl ?_)
      exact ⟨_, _, _, rows, bs, rfl, (HC.out.done _ _ _ _).1, (HC.out.done _ _ _ _).2⟩
    by_cases b0 : b = 0
    · have HEQ := Lib.hid (andO_zero (a := a) HOK.out (.inr (.inl b0)))
      have hE := Prod.mk.inj ((HEQ.out).symm.trans HX.out)
      obtain ⟨hE1, hE2⟩ := hE
      subst hE1 hE2
      have g0 := HC.out.box.cells.1.1
      have g1 := HC.out.box.cells.1.2.1
      have g2 := HC.out.box.cells.1.2.2.1
      have g3 := HC.out.box.cells.1.2.2.2
      have gz := HC.out.box.cells.2
      have f0 := HC.out.res.cells.1.1
      have f1 := HC.out.res.cells.1.2.1
      have f2 := HC.out.res.cells.1.2.2.1
      have f3 := HC.out.res.cells.1.2.2.2
      have fz := HC.out.res.cells.2
      go_wp2
      ((try simp only [Exit.inBlock, Exit.then]); refine bodyPost_ret (v := (.tuple #[.agg #[.int .i64 n.1, .slice A1 n.2.1.length c1, .slice A2 n.2.2.1.length c2, .slice A3 n.2.2.2.length c3], .int .i64 (0)])) (by rw [results_cell_tmp rfl]; go_simp) rfl ?_)
      exact ⟨_, _, _, rows, bs, rfl, (HC.out.done _ _ _ _).1, (HC.out.done _ _ _ _).2⟩
    by_cases ab : a = nb
    · have HEQ := Lib.hid (andO_zero HOK.out (.inr (.inr (ab.trans HNB.out.symm))))
      have hE := Prod.mk.inj ((HEQ.out).symm.trans HX.out)
      obtain ⟨hE1, hE2⟩ := hE
      subst hE1 hE2
      have g0 := HC.out.box.cells.1.1
      have g1 := HC.out.box.cells.1.2.1
      have g2 := HC.out.box.cells.1.2.2.1
      have g3 := HC.out.box.cells.1.2.2.2
      have gz := HC.out.box.cells.2
      have f0 := HC.out.res.cells.1.1
      have f1 := HC.out.res.cells.1.2.1
      have f2 := HC.out.res.cells.1.2.2.1
      have f3 := HC.out.res.cells.1.2.2.2
      have fz := HC.out.res.cells.2
      go_wp2
      ((try simp only [Exit.inBlock, Exit.then]); refine bodyPost_ret (v := (.tuple #[.agg #[.int .i64 n.1, .slice A1 n.2.1.length c1, .slice A2 n.2.2.1.length c2, .slice A3 n.2.2.2.length c3], .int .i64 (0)])) (by rw [results_cell_tmp rfl]; go_simp) rfl ?_)
      exact ⟨_, _, _, rows, bs, rfl, (HC.out.done _ _ _ _).1, (HC.out.done _ _ _ _).2⟩
    have q1 : (a == 0) = false := beq_false_of_ne a0
    have q2 : (b == 0) = false := beq_false_of_ne b0
    have q3 : (a == nb) = false := beq_false_of_ne ab
    have HZ := Lib.hid (show ¬ (a = 0 ∨ b = 0 ∨ a = notI b) from fun c => by rcases c with c | c | c; exact a0 c; exact b0 c; exact ab (c.trans HNB.out))
    by_cases a1 : a = 1
    · have HEQ := Lib.hid (andO_right HOK.out HZ.out (.inl a1))
      have q4 : ((1 : Int) == nb) = false := beq_false_of_ne (fun c => ab (a1.trans c))
      have hE := Prod.mk.inj ((HEQ.out).symm.trans HX.out)
      obtain ⟨hE1, hE2⟩ := hE
      subst hE1 hE2
      have g0 := HC.out.box.cells.1.1
      have g1 := HC.out.box.cells.1.2.1
      have g2 := HC.out.box.cells.1.2.2.1
      have g3 := HC.out.box.cells.1.2.2.2
      have gz := HC.out.box.cells.2
      have f0 := HC.out.res.cells.1.1
      have f1 := HC.out.res.cells.1.2.1
      have f2 := HC.out.res.cells.1.2.2.1
      have f3 := HC.out.res.cells.1.2.2.2
      have fz := HC.out.res.cells.2
      go_wp2
      ((try simp only [Exit.inBlock, Exit.then]); refine bodyPost_ret (v := (.tuple #[.agg #[.int .i64 n.1, .slice A1 n.2.1.length c1, .slice A2 n.2.2.1.length c2, .slice A3 n.2.2.2.length c3], .int .i64 (b)])) (by rw [results_cell_tmp rfl]; go_simp) rfl ?_)
      exact ⟨_, _, _, rows, bs, rfl, (HC.out.done _ _ _ _).1, (HC.out.done _ _ _ _).2⟩
    by_cases aeb : a = b
    · have HEQ := Lib.hid (andO_right HOK.out HZ.out (.inr aeb))
      have q4 : (b == nb) = false := beq_false_of_ne (fun c => ab (aeb.trans c))
      have q5 : (b == 1) = false := beq_false_of_ne (fun c => a1 (aeb.trans c))
      have hE := Prod.mk.inj ((HEQ.out).symm.trans HX.out)
      obtain ⟨hE1, hE2⟩ := hE
      subst hE1 hE2
      have g0 := HC.out.box.cells.1.1
      have g1 := HC.out.box.cells.1.2.1
      have g2 := HC.out.box.cells.1.2.2.1
      have g3 := HC.out.box.cells.1.2.2.2
      have gz := HC.out.box.cells.2
      have f0 := HC.out.res.cells.1.1
      have f1 := HC.out.res.cells.1.2.1
      have f2 := HC.out.res.cells.1.2.2.1
      have f3 := HC.out.res.cells.1.2.2.2
      have fz := HC.out.res.cells.2
      go_wp2
      ((try simp only [Exit.inBlock, Exit.then]); refine bodyPost_ret (v := (.tuple #[.agg #[.int .i64 n.1, .slice A1 n.2.1.length c1, .slice A2 n.2.2.1.length c2, .slice A3 n.2.2.2.length c3], .int .i64 (b)])) (by rw [results_cell_tmp rfl]; go_simp) rfl ?_)
      exact ⟨_, _, _, rows, bs, rfl, (HC.out.done _ _ _ _).1, (HC.out.done _ _ _ _).2⟩
    have q6 : (a == 1) = false := beq_false_of_ne a1
    have q7 : (a == b) = false := beq_false_of_ne aeb
    have HR := Lib.hid (show ¬ (a = 1 ∨ a = b) from fun c => by rcases c with c | c; exact a1 c; exact aeb c)
    by_cases b1 : b = 1
    · have HEQ := Lib.hid (andO_left HOK.out HZ.out HR.out b1)
      have hxb2 : bits .xor .i64 1 1 = nb := by rw [b1] at hxb; exact hxb
      have hE := Prod.mk.inj ((HEQ.out).symm.trans HX.out)
      obtain ⟨hE1, hE2⟩ := hE
      subst hE1 hE2
      have g0 := HC.out.box.cells.1.1
      have g1 := HC.out.box.cells.1.2.1
      have g2 := HC.out.box.cells.1.2.2.1
      have g3 := HC.out.box.cells.1.2.2.2
      have gz := HC.out.box.cells.2
      have f0 := HC.out.res.cells.1.1
      have f1 := HC.out.res.cells.1.2.1
      have f2 := HC.out.res.cells.1.2.2.1
      have f3 := HC.out.res.cells.1.2.2.2
      have fz := HC.out.res.cells.2
      go_wp2
      ((try simp only [Exit.inBlock, Exit.then]); refine bodyPost_ret (v := (.tuple #[.agg #[.int .i64 n.1, .slice A1 n.2.1.length c1, .slice A2 n.2.2.1.length c2, .slice A3 n.2.2.2.length c3], .int .i64 (a)])) (by rw [results_cell_tmp rfl]; go_simp) rfl ?_)
      exact ⟨_, _, _, rows, bs, rfl, (HC.out.done _ _ _ _).1, (HC.out.done _ _ _ _).2⟩
    have q8 : (b == 1) = false := beq_false_of_ne b1
    have HL1 := Lib.hid b1
    clear b1 aeb a1 ab b0 a0
    obtain ⟨lo, hlo⟩ : ∃ c, min a b = c := ⟨_, rfl⟩
    clear lo hlo
    by_cases hle : a ≤ b
    · have hge : ¬ b ≤ a := by have := ne_of_beq_false q7; omega
      have HMN := Lib.hid (show min a b = a ∧ max a b = b from ⟨by omega, by omega⟩)
      go_wp2_with fail
      obtain ⟨W7, hW7⟩ : ∃ x, x = w6.alloc (.cells #[.int .i64 a, .int .i64 b] 67) := ⟨_, rfl⟩
      rw [← hW7]
      have hb : Below w6.heap.size w6 W7 := by rw [hW7]; exact bAlloc (Below.refl _ _) (Nat.le_refl _) _
      have HXB := Lib.hid (show W7.heap[w6.heap.size]? = some (.cells #[.int .i64 a, .int .i64 b] 67 (0, 0)) by rw [hW7]; exact heap_alloc_new _ _)
      have h6 := HB.out.size
      have h9x : w.heap.size + 2 ≤ w6.heap.size := by have := HC.out.box.lt; have := HC.out.hG; omega
      obtain ⟨X, hX⟩ : ∃ X, w6.heap.size = X := ⟨_, rfl⟩
      have x0 := box_cell HXB.out 0 _ rfl
      have x1 := box_cell HXB.out 1 _ rfl
      replace HC := Lib.hid (HC.out.below hb)
      replace HB := Lib.hid (bThen HB.out hb)
      replace d0 := keep hb d0
      replace d1 := keep hb d1
      replace d2 := keep hb d2
      replace d3 := keep hb d3
      clear hb
      rw [hX] at x0 x1 ⊢
      clear hW7 hX HXB h6
      go_loopw [11] (fun z wr => ∃ k : Nat, k ≤ n.2.2.1.length ∧ z = .int .i64 (k : Int) ∧ (∀ j : Nat, j < k → n.2.2.1[j]? ≠ some (a, b)) ∧ Below W7.heap.size W7 wr) (fun z _ => n.2.2.1.length - (intOf z).toNat)
      case atStart => exact ⟨0, Nat.zero_le _, rfl, fun j hj => absurd hj (Nat.not_lt_zero j), Below.refl _ _⟩
      case round =>
        obtain ⟨k, hk, rfl, hne, hb⟩ := hrel
        obtain ⟨w3, rfl⟩ : ∃ w3, w3 = wr := ⟨_, rfl⟩
        have HNE := Lib.hid hne
        have HB7 := Lib.hid hb
        replace x0 := keep hb x0
        replace x1 := keep hb x1
        replace HC := Lib.hid (HC.out.below hb)
        replace HB := Lib.hid (bThen HB.out hb)
        replace d0 := keep hb d0
        replace d1 := keep hb d1
        replace d2 := keep hb d2
        replace d3 := keep hb d3
        clear hb
        clear hne
        by_cases hlt : k < n.2.2.1.length
        · obtain ⟨s, hs⟩ : ∃ s, n.2.2.1[k]? = some s := ⟨_, List.getElem?_eq_getElem hlt⟩
          obtain ⟨p, q⟩ := s
          obtain ⟨sb, sq, rfl, sb1, y0, yf0, y1, yf1⟩ := at_And (good_AndS.below mR2.out (Nat.le_refl _) HB.out) hs
          have HS := Lib.hid hs
          have tk : (k : Int) < (n.2.2.1.length : Int) := by omega
          clear hs yf0 yf1
          dsimp only at y0 y1
          by_cases c1 : p = a
          · by_cases c2 : q = b
            · have c1' := c1.symm
              have c2' := c2.symm
              clear c1 c2
              subst c1' c2'
              obtain ⟨N', hN'⟩ : ∃ N' : Nat, firN n + k = N' := ⟨_, rfl⟩
              have HEQ := Lib.hid (andO_find HOK.out HZ.out HR.out HL1.out (i := k) (by rw [HMN.out.1, HMN.out.2]; exact idxG_first HS.out HNE.out))
              rw [hN'] at HEQ
              have hfl := HP.out.sz.fir_le
              have e1 : IntKind.i64.wrap ((firN n : Int) + (k : Int)) = (N' : Int) := by rw [wrap64_int _ (by omega) (by omega)]; omega
              have e2 : IntKind.i64.wrap (2 * (N' : Int)) = 2 * (N' : Int) := wrap64_int _ (by omega) (by omega)
              clear hN' hfl
              have hE := Prod.mk.inj ((HEQ.out).symm.trans HX.out)
              obtain ⟨hE1, hE2⟩ := hE
              subst hE1 hE2
              go_wp2_with fail
              have hS0 : (fun w' => Below w3.heap.size w3 w' ∧ w'.cell? ⟨w.heap.size, 2, none⟩ = some (.slice (some ⟨sb, sq, none⟩) (n.2.2.1).length mc2) ∧ w'.cell? ⟨X, 0, none⟩ = some (.int .i64 a) ∧ w'.cell? ⟨X, 1, none⟩ = some (.int .i64 b) ∧ w'.cell? ⟨sb, sq + k * 2, none⟩ = some (.int .i64 a) ∧ w'.cell? ⟨sb, sq + k * 2 + 1, none⟩ = some (.int .i64 b)) w3 := ⟨Below.refl _ _, d2, x0, x1, y0, y1⟩
              have hS : ∀ {w0 w' : World}, (fun w' => Below w3.heap.size w3 w' ∧ w'.cell? ⟨w.heap.size, 2, none⟩ = some (.slice (some ⟨sb, sq, none⟩) (n.2.2.1).length mc2) ∧ w'.cell? ⟨X, 0, none⟩ = some (.int .i64 a) ∧ w'.cell? ⟨X, 1, none⟩ = some (.int .i64 b) ∧ w'.cell? ⟨sb, sq + k * 2, none⟩ = some (.int .i64 a) ∧ w'.cell? ⟨sb, sq + k * 2 + 1, none⟩ = some (.int .i64 b)) w0 → Below w0.heap.size w0 w' → (fun w' => Below w3.heap.size w3 w' ∧ w'.cell? ⟨w.heap.size, 2, none⟩ = some (.slice (some ⟨sb, sq, none⟩) (n.2.2.1).length mc2) ∧ w'.cell? ⟨X, 0, none⟩ = some (.int .i64 a) ∧ w'.cell? ⟨X, 1, none⟩ = some (.int .i64 b) ∧ w'.cell? ⟨sb, sq + k * 2, none⟩ = some (.int .i64 a) ∧ w'.cell? ⟨sb, sq + k * 2 + 1, none⟩ = some (.int .i64 b)) w' := fun h hb => ⟨bThen h.1 hb, keep hb h.2.1, keep hb h.2.2.1, keep hb h.2.2.2.1, keep hb h.2.2.2.2.1, keep hb h.2.2.2.2.2⟩
              dsimp only at hS0 hS
              refine wp_region_noPanic ?_
              refine wp_region_kept 6 7 (fun w' => Below w3.heap.size w3 w' ∧ w'.cell? ⟨w.heap.size, 2, none⟩ = some (.slice (some ⟨sb, sq, none⟩) (n.2.2.1).length mc2) ∧ w'.cell? ⟨X, 0, none⟩ = some (.int .i64 a) ∧ w'.cell? ⟨X, 1, none⟩ = some (.int .i64 b) ∧ w'.cell? ⟨sb, sq + k * 2, none⟩ = some (.int .i64 a) ∧ w'.cell? ⟨sb, sq + k * 2 + 1, none⟩ = some (.int .i64 b)) (by kernel_rfl) rfl (hS hS0 (Below.drew (Below.refl _ _))) (fun hK0 => ?_)
              refine Kept.take (v := ?ve1x0) 0 (by kernel_rfl) rfl (by kernel_rfl) (fun _ _ _ h => h) (Or.inl ⟨by rfl, ?hye1x0⟩) hK0 ?reste1x0
              case hye1x0 =>
                intro w0 hSw
                (try dsimp only at hSw)
                go_simp
                all_goals (with_reducible rfl)
              (try simp only [Act.put, List.setIfInBounds_toArray, List.set_cons_zero, List.set_cons_succ])
              refine Kept.take (v := ?ve1x1) 1 (by kernel_rfl) rfl (by kernel_rfl) (fun _ _ _ h => h) (Or.inl ⟨by rfl, ?hye1x1⟩) hK0 ?reste1x1
              case hye1x1 =>
                intro w0 hSw
                (try dsimp only at hSw)
                go_simp
                all_goals (with_reducible rfl)
              (try simp only [Act.put, List.setIfInBounds_toArray, List.set_cons_zero, List.set_cons_succ])
              refine Kept.take (v := ?ve1x2) 2 (by kernel_rfl) rfl (by kernel_rfl) (fun _ _ _ h => h) (Or.inl ⟨by rfl, ?hye1x2⟩) hK0 ?reste1x2
              case hye1x2 =>
                intro w0 hSw
                (try dsimp only at hSw)
                go_simp
                all_goals (with_reducible rfl)
              (try simp only [Act.put, List.setIfInBounds_toArray, List.set_cons_zero, List.set_cons_succ])
              refine Kept.take (v := ?ve1x3) 3 (by kernel_rfl) rfl (by kernel_rfl) (fun _ _ _ h => h) (Or.inl ⟨by rfl, ?hye1x3⟩) hK0 ?reste1x3
              case hye1x3 =>
                intro w0 hSw
                (try dsimp only at hSw)
                go_simp
                all_goals (with_reducible rfl)
              (try simp only [Act.put, List.setIfInBounds_toArray, List.set_cons_zero, List.set_cons_succ])
              refine Kept.take (v := ?ve1x4) 4 (by kernel_rfl) rfl (by kernel_rfl) (fun _ _ _ h => h) (Or.inl ⟨by rfl, ?hye1x4⟩) hK0 ?reste1x4
              case hye1x4 =>
                intro w0 hSw
                (try dsimp only at hSw)
                go_simp
                all_goals (with_reducible rfl)
              (try simp only [Act.put, List.setIfInBounds_toArray, List.set_cons_zero, List.set_cons_succ])
              refine Kept.take (v := ?ve1x5) 5 (by kernel_rfl) rfl (by kernel_rfl) (fun _ _ _ h => h) (Or.inl ⟨by rfl, ?hye1x5⟩) hK0 ?reste1x5
              case hye1x5 =>
                intro w0 hSw
                (try dsimp only at hSw)
                go_simp
                all_goals (with_reducible rfl)
              (try simp only [Act.put, List.setIfInBounds_toArray, List.set_cons_zero, List.set_cons_succ])
              refine Kept.tail (by rfl) (by kernel_rfl) ?_
              simp only [List.drop_succ_cons, List.drop_zero]
              clear hS0 hS hK0
              go_wp2_with fail
              refine NoPanic.normal ?_
              go_wp2_with fail
              have g0 := HC.out.box.cells.1.1
              have g1 := HC.out.box.cells.1.2.1
              have g2 := HC.out.box.cells.1.2.2.1
              have g3 := HC.out.box.cells.1.2.2.2
              have gz := HC.out.box.cells.2
              have hS0 : (fun w' => w'.cell? ⟨w.heap.size, 0, none⟩ = some (.int .i64 n.1) ∧ w'.cell? ⟨w.heap.size, 1, none⟩ = some (.slice mA1 (n.2.1).length mc1) ∧ w'.cell? ⟨w.heap.size, 2, none⟩ = some (.slice (some ⟨sb, sq, none⟩) (n.2.2.1).length mc2) ∧ w'.cell? ⟨w.heap.size, 3, none⟩ = some (.slice mA3 (n.2.2.2).length mc3) ∧ w'.cell? ⟨G, 0, none⟩ = some (.int .i64 n.1) ∧ w'.cell? ⟨G, 1, none⟩ = some (.slice A1 n.2.1.length c1) ∧ w'.cell? ⟨G, 2, none⟩ = some (.slice A2 n.2.2.1.length c2) ∧ w'.cell? ⟨G, 3, none⟩ = some (.slice A3 n.2.2.2.length c3)) w3.drew := ⟨keep (Below.drew (Below.refl _ _)) d0, keep (Below.drew (Below.refl _ _)) d1, keep (Below.drew (Below.refl _ _)) d2, keep (Below.drew (Below.refl _ _)) d3, keep (Below.drew (Below.refl _ _)) g0, keep (Below.drew (Below.refl _ _)) g1, keep (Below.drew (Below.refl _ _)) g2, keep (Below.drew (Below.refl _ _)) g3⟩
              have hS : ∀ {w0 w' : World}, (fun w' => w'.cell? ⟨w.heap.size, 0, none⟩ = some (.int .i64 n.1) ∧ w'.cell? ⟨w.heap.size, 1, none⟩ = some (.slice mA1 (n.2.1).length mc1) ∧ w'.cell? ⟨w.heap.size, 2, none⟩ = some (.slice (some ⟨sb, sq, none⟩) (n.2.2.1).length mc2) ∧ w'.cell? ⟨w.heap.size, 3, none⟩ = some (.slice mA3 (n.2.2.2).length mc3) ∧ w'.cell? ⟨G, 0, none⟩ = some (.int .i64 n.1) ∧ w'.cell? ⟨G, 1, none⟩ = some (.slice A1 n.2.1.length c1) ∧ w'.cell? ⟨G, 2, none⟩ = some (.slice A2 n.2.2.1.length c2) ∧ w'.cell? ⟨G, 3, none⟩ = some (.slice A3 n.2.2.2.length c3)) w0 → Below w0.heap.size w0 w' → (fun w' => w'.cell? ⟨w.heap.size, 0, none⟩ = some (.int .i64 n.1) ∧ w'.cell? ⟨w.heap.size, 1, none⟩ = some (.slice mA1 (n.2.1).length mc1) ∧ w'.cell? ⟨w.heap.size, 2, none⟩ = some (.slice (some ⟨sb, sq, none⟩) (n.2.2.1).length mc2) ∧ w'.cell? ⟨w.heap.size, 3, none⟩ = some (.slice mA3 (n.2.2.2).length mc3) ∧ w'.cell? ⟨G, 0, none⟩ = some (.int .i64 n.1) ∧ w'.cell? ⟨G, 1, none⟩ = some (.slice A1 n.2.1.length c1) ∧ w'.cell? ⟨G, 2, none⟩ = some (.slice A2 n.2.2.1.length c2) ∧ w'.cell? ⟨G, 3, none⟩ = some (.slice A3 n.2.2.2.length c3)) w' := fun h hb => ⟨keep hb h.1, keep hb h.2.1, keep hb h.2.2.1, keep hb h.2.2.2.1, keep hb h.2.2.2.2.1, keep hb h.2.2.2.2.2.1, keep hb h.2.2.2.2.2.2.1, keep hb h.2.2.2.2.2.2.2⟩
              have hG1 : G ≠ w.heap.size + 1 := by have := HC.out.hG; omega
              have hF : ∀ {w0 : World} {a b c d : Value}, (fun w' => w'.cell? ⟨w.heap.size, 0, none⟩ = some (.int .i64 n.1) ∧ w'.cell? ⟨w.heap.size, 1, none⟩ = some (.slice mA1 (n.2.1).length mc1) ∧ w'.cell? ⟨w.heap.size, 2, none⟩ = some (.slice (some ⟨sb, sq, none⟩) (n.2.2.1).length mc2) ∧ w'.cell? ⟨w.heap.size, 3, none⟩ = some (.slice mA3 (n.2.2.2).length mc3) ∧ w'.cell? ⟨G, 0, none⟩ = some (.int .i64 n.1) ∧ w'.cell? ⟨G, 1, none⟩ = some (.slice A1 n.2.1.length c1) ∧ w'.cell? ⟨G, 2, none⟩ = some (.slice A2 n.2.2.1.length c2) ∧ w'.cell? ⟨G, 3, none⟩ = some (.slice A3 n.2.2.2.length c3)) w0 → (fun w' => w'.cell? ⟨w.heap.size, 0, none⟩ = some (.int .i64 n.1) ∧ w'.cell? ⟨w.heap.size, 1, none⟩ = some (.slice mA1 (n.2.1).length mc1) ∧ w'.cell? ⟨w.heap.size, 2, none⟩ = some (.slice (some ⟨sb, sq, none⟩) (n.2.2.1).length mc2) ∧ w'.cell? ⟨w.heap.size, 3, none⟩ = some (.slice mA3 (n.2.2.2).length mc3) ∧ w'.cell? ⟨G, 0, none⟩ = some (.int .i64 n.1) ∧ w'.cell? ⟨G, 1, none⟩ = some (.slice A1 n.2.1.length c1) ∧ w'.cell? ⟨G, 2, none⟩ = some (.slice A2 n.2.2.1.length c2) ∧ w'.cell? ⟨G, 3, none⟩ = some (.slice A3 n.2.2.2.length c3)) ((((w0.setCell ⟨w.heap.size + 1, 0, none⟩ a).setCell ⟨w.heap.size + 1, 1, none⟩ b).setCell ⟨w.heap.size + 1, 2, none⟩ c).setCell ⟨w.heap.size + 1, 3, none⟩ d) := fun h => ⟨(World.cell?_of_block (far4 (Nat.ne_of_lt (Nat.lt_succ_self _)))).trans h.1, (World.cell?_of_block (far4 (Nat.ne_of_lt (Nat.lt_succ_self _)))).trans h.2.1, (World.cell?_of_block (far4 (Nat.ne_of_lt (Nat.lt_succ_self _)))).trans h.2.2.1, (World.cell?_of_block (far4 (Nat.ne_of_lt (Nat.lt_succ_self _)))).trans h.2.2.2.1, (World.cell?_of_block (far4 (show G ≠ w.heap.size + 1 from hG1))).trans h.2.2.2.2.1, (World.cell?_of_block (far4 (show G ≠ w.heap.size + 1 from hG1))).trans h.2.2.2.2.2.1, (World.cell?_of_block (far4 (show G ≠ w.heap.size + 1 from hG1))).trans h.2.2.2.2.2.2.1, (World.cell?_of_block (far4 (show G ≠ w.heap.size + 1 from hG1))).trans h.2.2.2.2.2.2.2⟩
              dsimp only at hS0 hS hF
              refine wp_region_noPanic ?_
              refine wp_region_kept 7 8 (fun w' => w'.cell? ⟨w.heap.size, 0, none⟩ = some (.int .i64 n.1) ∧ w'.cell? ⟨w.heap.size, 1, none⟩ = some (.slice mA1 (n.2.1).length mc1) ∧ w'.cell? ⟨w.heap.size, 2, none⟩ = some (.slice (some ⟨sb, sq, none⟩) (n.2.2.1).length mc2) ∧ w'.cell? ⟨w.heap.size, 3, none⟩ = some (.slice mA3 (n.2.2.2).length mc3) ∧ w'.cell? ⟨G, 0, none⟩ = some (.int .i64 n.1) ∧ w'.cell? ⟨G, 1, none⟩ = some (.slice A1 n.2.1.length c1) ∧ w'.cell? ⟨G, 2, none⟩ = some (.slice A2 n.2.2.1.length c2) ∧ w'.cell? ⟨G, 3, none⟩ = some (.slice A3 n.2.2.2.length c3)) (by kernel_rfl) rfl (hS hS0 (Below.drew (Below.refl _ _))) (fun hK0 => ?_)
              refine Kept.take (v := ?vf0x0) 0 (by kernel_rfl) rfl (by kernel_rfl) (fun _ _ _ h => h) (Or.inl ⟨by rfl, ?hyf0x0⟩) hK0 ?restf0x0
              case hyf0x0 =>
                intro w0 hSw
                (try dsimp only at hSw)
                go_simp
                all_goals (with_reducible rfl)
              (try simp only [Act.put, List.setIfInBounds_toArray, List.set_cons_zero, List.set_cons_succ])
              refine Kept.take (v := ?vf0x1) 1 (by kernel_rfl) rfl (by kernel_rfl) (fun _ _ _ h => h) (Or.inl ⟨by rfl, ?hyf0x1⟩) hK0 ?restf0x1
              case hyf0x1 =>
                intro w0 hSw
                (try dsimp only at hSw)
                go_simp
                all_goals (with_reducible rfl)
              (try simp only [Act.put, List.setIfInBounds_toArray, List.set_cons_zero, List.set_cons_succ])
              refine Kept.take (v := ?vf0x3) 3 (by kernel_rfl) rfl (by kernel_rfl) (fun _ _ _ h => h) (Or.inl ⟨by rfl, ?hyf0x3⟩) hK0 ?restf0x3
              case hyf0x3 =>
                intro w0 hSw
                (try dsimp only at hSw)
                go_simp
                all_goals (with_reducible rfl)
              (try simp only [Act.put, List.setIfInBounds_toArray, List.set_cons_zero, List.set_cons_succ])
              refine Kept.one 2 (by kernel_rfl) rfl (fun K hK => ?_)
              go_simp
              go_at_call 94
              refine (specFirst_at n _ _ (rdUp good_Net HD.out (bThen HB.out (Below.drew (Below.drew (Below.refl _ _))))) (Nat.le_refl _) HP.out.sz).mono ?_
              rintro e wr ⟨rfl, hbr⟩
              have HCR := Lib.hid (HC.out.below (bThen (Below.drew (Below.drew (Below.refl _ _))) hbr))
              have F8 := HCR.out.res.cells
              have r0 := F8.1.1
              have r1 := F8.1.2.1
              have r2 := F8.1.2.2.1
              have r3 := F8.1.2.2.2
              have rz := F8.2
              clear F8
              go_simp
              refine hK.out _ _ (hS hK0 hbr) (fun hK1 => ?_)
              clear hK K hK0
              (try simp only [Act.put, List.setIfInBounds_toArray, List.set_cons_zero, List.set_cons_succ])
              refine Kept.take (v := ?vf0x4) 4 (by kernel_rfl) rfl (by kernel_rfl) (fun _ _ _ h => h) (Or.inl ⟨by rfl, ?hyf0x4⟩) hK1 ?restf0x4
              case hyf0x4 =>
                intro w0 hSw
                (try dsimp only at hSw)
                go_simp
                all_goals (with_reducible rfl)
              (try simp only [Act.put, List.setIfInBounds_toArray, List.set_cons_zero, List.set_cons_succ])
              refine Kept.take (v := ?vf0x5) 5 (by kernel_rfl) rfl (by kernel_rfl) (fun _ _ _ h => h) (Or.inl ⟨by rfl, ?hyf0x5⟩) hK1 ?restf0x5
              case hyf0x5 =>
                intro w0 hSw
                (try dsimp only at hSw)
                go_simp
                all_goals (with_reducible rfl)
              (try simp only [Act.put, List.setIfInBounds_toArray, List.set_cons_zero, List.set_cons_succ])
              refine Kept.one 6 (by kernel_rfl) rfl (fun K hK => ?_)
              go_simp
              refine hK.out _ _ (hF hK1) (fun hK2 => ?_)
              clear hK K hK1
              (try simp only [Act.put, List.setIfInBounds_toArray, List.set_cons_zero, List.set_cons_succ])
              refine Kept.tail (by rfl) (by kernel_rfl) ?_
              simp only [List.drop_succ_cons, List.drop_zero]
              clear hS0 hS hF hK2
              go_wp2
              refine NoPanic.normal ?_
              go_wp2
              ((try simp only [Exit.inBlock, Exit.then]); refine bodyPost_ret (v := (.tuple #[.agg #[.int .i64 n.1, .slice A1 n.2.1.length c1, .slice A2 n.2.2.1.length c2, .slice A3 n.2.2.2.length c3], .int .i64 (2 * (N' : Int))])) (by rw [results_cell_tmp rfl]; go_simp) rfl ?_)
              exact ⟨_, _, _, rows, bs, rfl, (HCR.out.done _ _ _ _).1, (HCR.out.done _ _ _ _).2⟩
            · have c1' := c1.symm
              clear c1
              subst c1'
              go_wp2_with fail
              have HN2 := Lib.hid (show ∀ j : Nat, j < k + 1 → n.2.2.1[j]? ≠ some (a, b) from fun j hj => by
                by_cases hjk : j = k
                · subst hjk; rw [HS.out]; intro c; injection c with c; injection c with c3 c4; exact c2 c4
                · exact HNE.out j (by omega))
              have hS0 : (fun w' => Below w3.heap.size w3 w' ∧ w'.cell? ⟨w.heap.size, 2, none⟩ = some (.slice (some ⟨sb, sq, none⟩) (n.2.2.1).length mc2) ∧ w'.cell? ⟨X, 0, none⟩ = some (.int .i64 a) ∧ w'.cell? ⟨X, 1, none⟩ = some (.int .i64 b) ∧ w'.cell? ⟨sb, sq + k * 2, none⟩ = some (.int .i64 a) ∧ w'.cell? ⟨sb, sq + k * 2 + 1, none⟩ = some (.int .i64 q)) w3 := ⟨Below.refl _ _, d2, x0, x1, y0, y1⟩
              have hS : ∀ {w0 w' : World}, (fun w' => Below w3.heap.size w3 w' ∧ w'.cell? ⟨w.heap.size, 2, none⟩ = some (.slice (some ⟨sb, sq, none⟩) (n.2.2.1).length mc2) ∧ w'.cell? ⟨X, 0, none⟩ = some (.int .i64 a) ∧ w'.cell? ⟨X, 1, none⟩ = some (.int .i64 b) ∧ w'.cell? ⟨sb, sq + k * 2, none⟩ = some (.int .i64 a) ∧ w'.cell? ⟨sb, sq + k * 2 + 1, none⟩ = some (.int .i64 q)) w0 → Below w0.heap.size w0 w' → (fun w' => Below w3.heap.size w3 w' ∧ w'.cell? ⟨w.heap.size, 2, none⟩ = some (.slice (some ⟨sb, sq, none⟩) (n.2.2.1).length mc2) ∧ w'.cell? ⟨X, 0, none⟩ = some (.int .i64 a) ∧ w'.cell? ⟨X, 1, none⟩ = some (.int .i64 b) ∧ w'.cell? ⟨sb, sq + k * 2, none⟩ = some (.int .i64 a) ∧ w'.cell? ⟨sb, sq + k * 2 + 1, none⟩ = some (.int .i64 q)) w' := fun h hb => ⟨bThen h.1 hb, keep hb h.2.1, keep hb h.2.2.1, keep hb h.2.2.2.1, keep hb h.2.2.2.2.1, keep hb h.2.2.2.2.2⟩
              dsimp only at hS0 hS
              refine wp_region_noPanic ?_
              refine wp_region_kept 6 7 (fun w' => Below w3.heap.size w3 w' ∧ w'.cell? ⟨w.heap.size, 2, none⟩ = some (.slice (some ⟨sb, sq, none⟩) (n.2.2.1).length mc2) ∧ w'.cell? ⟨X, 0, none⟩ = some (.int .i64 a) ∧ w'.cell? ⟨X, 1, none⟩ = some (.int .i64 b) ∧ w'.cell? ⟨sb, sq + k * 2, none⟩ = some (.int .i64 a) ∧ w'.cell? ⟨sb, sq + k * 2 + 1, none⟩ = some (.int .i64 q)) (by kernel_rfl) rfl (hS hS0 (Below.drew (Below.refl _ _))) (fun hK0 => ?_)
              refine Kept.take (v := ?ve2x0) 0 (by kernel_rfl) rfl (by kernel_rfl) (fun _ _ _ h => h) (Or.inl ⟨by rfl, ?hye2x0⟩) hK0 ?reste2x0
              case hye2x0 =>
                intro w0 hSw
                (try dsimp only at hSw)
                go_simp
                all_goals (with_reducible rfl)
              (try simp only [Act.put, List.setIfInBounds_toArray, List.set_cons_zero, List.set_cons_succ])
              refine Kept.take (v := ?ve2x1) 1 (by kernel_rfl) rfl (by kernel_rfl) (fun _ _ _ h => h) (Or.inl ⟨by rfl, ?hye2x1⟩) hK0 ?reste2x1
              case hye2x1 =>
                intro w0 hSw
                (try dsimp only at hSw)
                go_simp
                all_goals (with_reducible rfl)
              (try simp only [Act.put, List.setIfInBounds_toArray, List.set_cons_zero, List.set_cons_succ])
              refine Kept.take (v := ?ve2x2) 2 (by kernel_rfl) rfl (by kernel_rfl) (fun _ _ _ h => h) (Or.inl ⟨by rfl, ?hye2x2⟩) hK0 ?reste2x2
              case hye2x2 =>
                intro w0 hSw
                (try dsimp only at hSw)
                go_simp
                all_goals (with_reducible rfl)
              (try simp only [Act.put, List.setIfInBounds_toArray, List.set_cons_zero, List.set_cons_succ])
              refine Kept.take (v := ?ve2x3) 3 (by kernel_rfl) rfl (by kernel_rfl) (fun _ _ _ h => h) (Or.inl ⟨by rfl, ?hye2x3⟩) hK0 ?reste2x3
              case hye2x3 =>
                intro w0 hSw
                (try dsimp only at hSw)
                go_simp
                all_goals (with_reducible rfl)
              (try simp only [Act.put, List.setIfInBounds_toArray, List.set_cons_zero, List.set_cons_succ])
              refine Kept.take (v := ?ve2x4) 4 (by kernel_rfl) rfl (by kernel_rfl) (fun _ _ _ h => h) (Or.inl ⟨by rfl, ?hye2x4⟩) hK0 ?reste2x4
              case hye2x4 =>
                intro w0 hSw
                (try dsimp only at hSw)
                go_simp
                all_goals (with_reducible rfl)
              (try simp only [Act.put, List.setIfInBounds_toArray, List.set_cons_zero, List.set_cons_succ])
              refine Kept.take (v := ?ve2x5) 5 (by kernel_rfl) rfl (by kernel_rfl) (fun _ _ _ h => h) (Or.inl ⟨by rfl, ?hye2x5⟩) hK0 ?reste2x5
              case hye2x5 =>
                intro w0 hSw
                (try dsimp only at hSw)
                go_simp
                all_goals (with_reducible rfl)
              (try simp only [Act.put, List.setIfInBounds_toArray, List.set_cons_zero, List.set_cons_succ])
              refine Kept.tail (by rfl) (by kernel_rfl) ?_
              simp only [List.drop_succ_cons, List.drop_zero]
              have HB8 := Lib.hid (bThen HB7.out hK0.1)
              clear hS0 hS hK0
              go_wp2
              refine NoPanic.normal ?_
              go_wp2
              go_roundw
              case rel => exact ⟨k + 1, by omega, by go_num, HN2.out, HB8.out⟩
              case measure => simp [intOf] <;> omega
          · go_wp2_with fail
            have HN2 := Lib.hid (show ∀ j : Nat, j < k + 1 → n.2.2.1[j]? ≠ some (a, b) from fun j hj => by
              by_cases hjk : j = k
              · subst hjk; rw [HS.out]; intro c; injection c with c; injection c with c3 c4; exact c1 c3
              · exact HNE.out j (by omega))
            have hS0 : (fun w' => Below w3.heap.size w3 w' ∧ w'.cell? ⟨w.heap.size, 2, none⟩ = some (.slice (some ⟨sb, sq, none⟩) (n.2.2.1).length mc2) ∧ w'.cell? ⟨X, 0, none⟩ = some (.int .i64 a) ∧ w'.cell? ⟨X, 1, none⟩ = some (.int .i64 b) ∧ w'.cell? ⟨sb, sq + k * 2, none⟩ = some (.int .i64 p) ∧ w'.cell? ⟨sb, sq + k * 2 + 1, none⟩ = some (.int .i64 q)) w3 := ⟨Below.refl _ _, d2, x0, x1, y0, y1⟩
            have hS : ∀ {w0 w' : World}, (fun w' => Below w3.heap.size w3 w' ∧ w'.cell? ⟨w.heap.size, 2, none⟩ = some (.slice (some ⟨sb, sq, none⟩) (n.2.2.1).length mc2) ∧ w'.cell? ⟨X, 0, none⟩ = some (.int .i64 a) ∧ w'.cell? ⟨X, 1, none⟩ = some (.int .i64 b) ∧ w'.cell? ⟨sb, sq + k * 2, none⟩ = some (.int .i64 p) ∧ w'.cell? ⟨sb, sq + k * 2 + 1, none⟩ = some (.int .i64 q)) w0 → Below w0.heap.size w0 w' → (fun w' => Below w3.heap.size w3 w' ∧ w'.cell? ⟨w.heap.size, 2, none⟩ = some (.slice (some ⟨sb, sq, none⟩) (n.2.2.1).length mc2) ∧ w'.cell? ⟨X, 0, none⟩ = some (.int .i64 a) ∧ w'.cell? ⟨X, 1, none⟩ = some (.int .i64 b) ∧ w'.cell? ⟨sb, sq + k * 2, none⟩ = some (.int .i64 p) ∧ w'.cell? ⟨sb, sq + k * 2 + 1, none⟩ = some (.int .i64 q)) w' := fun h hb => ⟨bThen h.1 hb, keep hb h.2.1, keep hb h.2.2.1, keep hb h.2.2.2.1, keep hb h.2.2.2.2.1, keep hb h.2.2.2.2.2⟩
            dsimp only at hS0 hS
            refine wp_region_noPanic ?_
            refine wp_region_kept 6 7 (fun w' => Below w3.heap.size w3 w' ∧ w'.cell? ⟨w.heap.size, 2, none⟩ = some (.slice (some ⟨sb, sq, none⟩) (n.2.2.1).length mc2) ∧ w'.cell? ⟨X, 0, none⟩ = some (.int .i64 a) ∧ w'.cell? ⟨X, 1, none⟩ = some (.int .i64 b) ∧ w'.cell? ⟨sb, sq + k * 2, none⟩ = some (.int .i64 p) ∧ w'.cell? ⟨sb, sq + k * 2 + 1, none⟩ = some (.int .i64 q)) (by kernel_rfl) rfl (hS hS0 (Below.drew (Below.refl _ _))) (fun hK0 => ?_)
            refine Kept.take (v := ?ve3x0) 0 (by kernel_rfl) rfl (by kernel_rfl) (fun _ _ _ h => h) (Or.inl ⟨by rfl, ?hye3x0⟩) hK0 ?reste3x0
            case hye3x0 =>
              intro w0 hSw
              (try dsimp only at hSw)
              go_simp
              all_goals (with_reducible rfl)
            (try simp only [Act.put, List.setIfInBounds_toArray, List.set_cons_zero, List.set_cons_succ])
            refine Kept.take (v := ?ve3x1) 1 (by kernel_rfl) rfl (by kernel_rfl) (fun _ _ _ h => h) (Or.inl ⟨by rfl, ?hye3x1⟩) hK0 ?reste3x1
            case hye3x1 =>
              intro w0 hSw
              (try dsimp only at hSw)
              go_simp
              all_goals (with_reducible rfl)
            (try simp only [Act.put, List.setIfInBounds_toArray, List.set_cons_zero, List.set_cons_succ])
            refine Kept.take (v := ?ve3x2) 2 (by kernel_rfl) rfl (by kernel_rfl) (fun _ _ _ h => h) (Or.inl ⟨by rfl, ?hye3x2⟩) hK0 ?reste3x2
            case hye3x2 =>
              intro w0 hSw
              (try dsimp only at hSw)
              go_simp
              all_goals (with_reducible rfl)
            (try simp only [Act.put, List.setIfInBounds_toArray, List.set_cons_zero, List.set_cons_succ])
            refine Kept.take (v := ?ve3x3) 3 (by kernel_rfl) rfl (by kernel_rfl) (fun _ _ _ h => h) (Or.inl ⟨by rfl, ?hye3x3⟩) hK0 ?reste3x3
            case hye3x3 =>
              intro w0 hSw
              (try dsimp only at hSw)
              go_simp
              all_goals (with_reducible rfl)
            (try simp only [Act.put, List.setIfInBounds_toArray, List.set_cons_zero, List.set_cons_succ])
            refine Kept.take (v := ?ve3x4) 4 (by kernel_rfl) rfl (by kernel_rfl) (fun _ _ _ h => h) (Or.inl ⟨by rfl, ?hye3x4⟩) hK0 ?reste3x4
            case hye3x4 =>
              intro w0 hSw
              (try dsimp only at hSw)
              go_simp
              all_goals (with_reducible rfl)
            (try simp only [Act.put, List.setIfInBounds_toArray, List.set_cons_zero, List.set_cons_succ])
            refine Kept.take (v := ?ve3x5) 5 (by kernel_rfl) rfl (by kernel_rfl) (fun _ _ _ h => h) (Or.inl ⟨by rfl, ?hye3x5⟩) hK0 ?reste3x5
            case hye3x5 =>
              intro w0 hSw
              (try dsimp only at hSw)
              go_simp
              all_goals (with_reducible rfl)
            (try simp only [Act.put, List.setIfInBounds_toArray, List.set_cons_zero, List.set_cons_succ])
            refine Kept.tail (by rfl) (by kernel_rfl) ?_
            simp only [List.drop_succ_cons, List.drop_zero]
            have HB8 := Lib.hid (bThen HB7.out hK0.1)
            clear hS0 hS hK0
            go_wp2
            refine NoPanic.normal ?_
            go_wp2
            go_roundw
            case rel => exact ⟨k + 1, by omega, by go_num, HN2.out, HB8.out⟩
            case measure => simp [intOf] <;> omega
        · obtain rfl : k = n.2.2.1.length := by omega
          have HID := Lib.hid (show idxG (min a b, max a b) n.2.2.1 0 = none by rw [HMN.out.1, HMN.out.2]; exact idxG_miss HNE.out)
          have h7 := HB.out.size
          have h8 := HB7.out.size
          have h9 := h9x
          clear hlt
          by_cases c300 : n.2.2.1.length = 300
          · have HEQ := Lib.hid (andO_full HOK.out HZ.out HR.out HL1.out HID.out c300)
            have q9 : ((n.2.2.1.length : Int) == 300) = true := by rw [c300]; rfl
            have c301 := Lib.hid c300
            clear c300
            have hE := Prod.mk.inj ((HEQ.out).symm.trans HX.out)
            obtain ⟨hE1, hE2⟩ := hE
            subst hE1 hE2
            have g0 := HC.out.box.cells.1.1
            have g1 := HC.out.box.cells.1.2.1
            have g2 := HC.out.box.cells.1.2.2.1
            have g3 := HC.out.box.cells.1.2.2.2
            have gz := HC.out.box.cells.2
            have f0 := HC.out.res.cells.1.1
            have f1 := HC.out.res.cells.1.2.1
            have f2 := HC.out.res.cells.1.2.2.1
            have f3 := HC.out.res.cells.1.2.2.2
            have fz := HC.out.res.cells.2
            go_wp2
            ((try simp only [Exit.inBlock, Exit.then]); refine bodyPost_ret (v := (.tuple #[.agg #[.int .i64 n.1, .slice A1 n.2.1.length c1, .slice A2 n.2.2.1.length c2, .slice A3 n.2.2.2.length c3], .int .i64 (-1)])) (by rw [results_cell_tmp rfl]; go_simp) rfl ?_)
            exact ⟨_, _, _, rows, bs, rfl, (HC.out.done _ _ _ _).1, (HC.out.done _ _ _ _).2⟩
          · have HEQ := Lib.hid (andO_add HOK.out HZ.out HR.out HL1.out HID.out c300)
            have q9 : ((n.2.2.1.length : Int) == 300) = false := beq_false_of_ne (by omega)
            rw [HMN.out.1, HMN.out.2] at HEQ
            have hE := Prod.mk.inj ((HEQ.out).symm.trans HX.out)
            obtain ⟨hE1, hE2⟩ := hE
            subst hE1 hE2
            have e1 : IntKind.i64.wrap (2 * ncI n) = 2 * (netN n : Int) := by rw [HNC.out]; exact wrap64_int _ (by omega) (by omega)
            have HCA := Lib.hid (HC.out.below (bAlloc (Below.refl _ _) (Nat.le_refl _) (.cells #[.int .i64 a, .int .i64 b] 67)))
            have HNB2 := Lib.hid (show (w3.alloc (.cells #[.int .i64 a, .int .i64 b] 67)).heap[w3.heap.size]? = some (.cells #[.int .i64 a, .int .i64 b] 67 (0, 0)) from heap_alloc_new _ _)
            have hrow : OwnsR fAnd 2 TAnd (w3.alloc (.cells #[.int .i64 a, .int .i64 b] 67)) (w.heap.size + 2) (.slice A2 n.2.2.1.length c2) n.2.2.1 := HCA.out.net.a.own
            unfold OwnsR at hrow
            have HROW := Lib.hid hrow
            have hneG : (Value.slice A2 n.2.2.1.length c2).ownBlock ≠ some G := fun e => HC.out.off G (by simp [mem_blkL.2 e]) rfl
            have hf2 := HCA.out.box.cells.1.2.2.1
            have hz2 := HCA.out.box.cells.2 2
            have HSZ := Lib.hid (show w.heap.size + 2 ≤ (w3.alloc (.cells #[.int .i64 a, .int .i64 b] 67)).heap.size by have := HC.out.box.lt; have := HC.out.hG; simp; omega)
            have g0 := HC.out.box.cells.1.1
            have g1 := HC.out.box.cells.1.2.1
            have g2 := HC.out.box.cells.1.2.2.1
            have g3 := HC.out.box.cells.1.2.2.2
            have gz := HC.out.box.cells.2
            clear hrow
            go_wp2_with (at_builtin; refine wpList_append_all (by rfl) _ _ 34 (by rfl) (w.heap.size + 2) 67 iA (.agg #[.int .i64 0, .int .i64 0]) 2 16 Try.underlying34 hiA hzA0 hzA1 hzA2 rfl (by omega) (.slice A2 n.2.2.1.length c2) n.2.2.1.length (n.2.2.1.flatMap fAnd) (by rfl) HROW.out (some ⟨w3.heap.size, 0, none⟩) 1 1 [.int .i64 a, .int .i64 b] (by rfl) (by rfl) (.inr ⟨_, rfl, World.news_of_block HNB2.out⟩) (by simp [Value.oneCell']) (by unfold maxLen; omega) (by omega) HSZ.out ?_; intro A' c' w9 hown6 hgrow6 hkeep6 hat6; have y2 := grownC hgrow6 hf2 hneG; have z2 := grownZ hgrow6 hf2 hz2 hneG; have HC9 := Lib.hid (HCA.out.add (x := (a, b)) hown6 rfl hgrow6 hat6 ⟨fa, fb⟩ HSZ.out); have k0 : World.cell? _ ⟨G, 0, none⟩ = some (.int .i64 n.1) := HC9.out.box.cells.1.1; have k1 := HC9.out.box.cells.1.2.1; have k2 := HC9.out.box.cells.1.2.2.1; have k3 := HC9.out.box.cells.1.2.2.2; have f0 := HC9.out.res.cells.1.1; have f1 := HC9.out.res.cells.1.2.1; have f2 := HC9.out.res.cells.1.2.2.1; have f3 := HC9.out.res.cells.1.2.2.2; have fz := HC9.out.res.cells.2)
            go_wp2
            ((try simp only [Exit.inBlock, Exit.then]); refine bodyPost_ret (v := (.tuple #[.agg #[.int .i64 n.1, .slice A1 n.2.1.length c1, .slice A' (n.2.2.1.length + 1) c', .slice A3 n.2.2.2.length c3], .int .i64 (2 * (netN n : Int))])) (by rw [results_cell_tmp rfl]; go_simp) rfl ?_)
            exact ⟨_, _, _, rows, bs, rfl, (HC9.out.done _ _ _ _).1, (HC9.out.done _ _ _ _).2⟩
    · have hge : b ≤ a := by omega
      have HMN := Lib.hid (show min a b = b ∧ max a b = a from ⟨by omega, by omega⟩)
      go_wp2_with fail
      obtain ⟨W7, hW7⟩ : ∃ x, x = w6.alloc (.cells #[.int .i64 b, .int .i64 a] 67) := ⟨_, rfl⟩
      rw [← hW7]
      have hb : Below w6.heap.size w6 W7 := by rw [hW7]; exact bAlloc (Below.refl _ _) (Nat.le_refl _) _
      have HXB := Lib.hid (show W7.heap[w6.heap.size]? = some (.cells #[.int .i64 b, .int .i64 a] 67 (0, 0)) by rw [hW7]; exact heap_alloc_new _ _)
      have h6 := HB.out.size
      have h9x : w.heap.size + 2 ≤ w6.heap.size := by have := HC.out.box.lt; have := HC.out.hG; omega
      obtain ⟨X, hX⟩ : ∃ X, w6.heap.size = X := ⟨_, rfl⟩
      have x0 := box_cell HXB.out 0 _ rfl
      have x1 := box_cell HXB.out 1 _ rfl
      replace HC := Lib.hid (HC.out.below hb)
      replace HB := Lib.hid (bThen HB.out hb)
      replace d0 := keep hb d0
      replace d1 := keep hb d1
      replace d2 := keep hb d2
      replace d3 := keep hb d3
      clear hb
      rw [hX] at x0 x1 ⊢
      clear hW7 hX HXB h6
      go_loopw [11] (fun z wr => ∃ k : Nat, k ≤ n.2.2.1.length ∧ z = .int .i64 (k : Int) ∧ (∀ j : Nat, j < k → n.2.2.1[j]? ≠ some (b, a)) ∧ Below W7.heap.size W7 wr) (fun z _ => n.2.2.1.length - (intOf z).toNat)
      case atStart => exact ⟨0, Nat.zero_le _, rfl, fun j hj => absurd hj (Nat.not_lt_zero j), Below.refl _ _⟩
      case round =>
        obtain ⟨k, hk, rfl, hne, hb⟩ := hrel
        obtain ⟨w3, rfl⟩ : ∃ w3, w3 = wr := ⟨_, rfl⟩
        have HNE := Lib.hid hne
        have HB7 := Lib.hid hb
        replace x0 := keep hb x0
        replace x1 := keep hb x1
        replace HC := Lib.hid (HC.out.below hb)
        replace HB := Lib.hid (bThen HB.out hb)
        replace d0 := keep hb d0
        replace d1 := keep hb d1
        replace d2 := keep hb d2
        replace d3 := keep hb d3
        clear hb
        clear hne
        by_cases hlt : k < n.2.2.1.length
        · obtain ⟨s, hs⟩ : ∃ s, n.2.2.1[k]? = some s := ⟨_, List.getElem?_eq_getElem hlt⟩
          obtain ⟨p, q⟩ := s
          obtain ⟨sb, sq, rfl, sb1, y0, yf0, y1, yf1⟩ := at_And (good_AndS.below mR2.out (Nat.le_refl _) HB.out) hs
          have HS := Lib.hid hs
          have tk : (k : Int) < (n.2.2.1.length : Int) := by omega
          clear hs yf0 yf1
          dsimp only at y0 y1
          by_cases c1 : p = b
          · by_cases c2 : q = a
            · have c1' := c1.symm
              have c2' := c2.symm
              clear c1 c2
              subst c1' c2'
              obtain ⟨N', hN'⟩ : ∃ N' : Nat, firN n + k = N' := ⟨_, rfl⟩
              have HEQ := Lib.hid (andO_find HOK.out HZ.out HR.out HL1.out (i := k) (by rw [HMN.out.1, HMN.out.2]; exact idxG_first HS.out HNE.out))
              rw [hN'] at HEQ
              have hfl := HP.out.sz.fir_le
              have e1 : IntKind.i64.wrap ((firN n : Int) + (k : Int)) = (N' : Int) := by rw [wrap64_int _ (by omega) (by omega)]; omega
              have e2 : IntKind.i64.wrap (2 * (N' : Int)) = 2 * (N' : Int) := wrap64_int _ (by omega) (by omega)
              clear hN' hfl
              have hE := Prod.mk.inj ((HEQ.out).symm.trans HX.out)
              obtain ⟨hE1, hE2⟩ := hE
              subst hE1 hE2
              go_wp2_with fail
              have hS0 : (fun w' => Below w3.heap.size w3 w' ∧ w'.cell? ⟨w.heap.size, 2, none⟩ = some (.slice (some ⟨sb, sq, none⟩) (n.2.2.1).length mc2) ∧ w'.cell? ⟨X, 0, none⟩ = some (.int .i64 b) ∧ w'.cell? ⟨X, 1, none⟩ = some (.int .i64 a) ∧ w'.cell? ⟨sb, sq + k * 2, none⟩ = some (.int .i64 b) ∧ w'.cell? ⟨sb, sq + k * 2 + 1, none⟩ = some (.int .i64 a)) w3 := ⟨Below.refl _ _, d2, x0, x1, y0, y1⟩
              have hS : ∀ {w0 w' : World}, (fun w' => Below w3.heap.size w3 w' ∧ w'.cell? ⟨w.heap.size, 2, none⟩ = some (.slice (some ⟨sb, sq, none⟩) (n.2.2.1).length mc2) ∧ w'.cell? ⟨X, 0, none⟩ = some (.int .i64 b) ∧ w'.cell? ⟨X, 1, none⟩ = some (.int .i64 a) ∧ w'.cell? ⟨sb, sq + k * 2, none⟩ = some (.int .i64 b) ∧ w'.cell? ⟨sb, sq + k * 2 + 1, none⟩ = some (.int .i64 a)) w0 → Below w0.heap.size w0 w' → (fun w' => Below w3.heap.size w3 w' ∧ w'.cell? ⟨w.heap.size, 2, none⟩ = some (.slice (some ⟨sb, sq, none⟩) (n.2.2.1).length mc2) ∧ w'.cell? ⟨X, 0, none⟩ = some (.int .i64 b) ∧ w'.cell? ⟨X, 1, none⟩ = some (.int .i64 a) ∧ w'.cell? ⟨sb, sq + k * 2, none⟩ = some (.int .i64 b) ∧ w'.cell? ⟨sb, sq + k * 2 + 1, none⟩ = some (.int .i64 a)) w' := fun h hb => ⟨bThen h.1 hb, keep hb h.2.1, keep hb h.2.2.1, keep hb h.2.2.2.1, keep hb h.2.2.2.2.1, keep hb h.2.2.2.2.2⟩
              dsimp only at hS0 hS
              refine wp_region_noPanic ?_
              refine wp_region_kept 6 7 (fun w' => Below w3.heap.size w3 w' ∧ w'.cell? ⟨w.heap.size, 2, none⟩ = some (.slice (some ⟨sb, sq, none⟩) (n.2.2.1).length mc2) ∧ w'.cell? ⟨X, 0, none⟩ = some (.int .i64 b) ∧ w'.cell? ⟨X, 1, none⟩ = some (.int .i64 a) ∧ w'.cell? ⟨sb, sq + k * 2, none⟩ = some (.int .i64 b) ∧ w'.cell? ⟨sb, sq + k * 2 + 1, none⟩ = some (.int .i64 a)) (by kernel_rfl) rfl (hS hS0 (Below.drew (Below.refl _ _))) (fun hK0 => ?_)
              refine Kept.take (v := ?ve4x0) 0 (by kernel_rfl) rfl (by kernel_rfl) (fun _ _ _ h => h) (Or.inl ⟨by rfl, ?hye4x0⟩) hK0 ?reste4x0
              case hye4x0 =>
                intro w0 hSw
                (try dsimp only at hSw)
                go_simp
                all_goals (with_reducible rfl)
              (try simp only [Act.put, List.setIfInBounds_toArray, List.set_cons_zero, List.set_cons_succ])
              refine Kept.take (v := ?ve4x1) 1 (by kernel_rfl) rfl (by kernel_rfl) (fun _ _ _ h => h) (Or.inl ⟨by rfl, ?hye4x1⟩) hK0 ?reste4x1
              case hye4x1 =>
                intro w0 hSw
                (try dsimp only at hSw)
                go_simp
                all_goals (with_reducible rfl)
              (try simp only [Act.put, List.setIfInBounds_toArray, List.set_cons_zero, List.set_cons_succ])
              refine Kept.take (v := ?ve4x2) 2 (by kernel_rfl) rfl (by kernel_rfl) (fun _ _ _ h => h) (Or.inl ⟨by rfl, ?hye4x2⟩) hK0 ?reste4x2
              case hye4x2 =>
                intro w0 hSw
                (try dsimp only at hSw)
                go_simp
                all_goals (with_reducible rfl)
              (try simp only [Act.put, List.setIfInBounds_toArray, List.set_cons_zero, List.set_cons_succ])
              refine Kept.take (v := ?ve4x3) 3 (by kernel_rfl) rfl (by kernel_rfl) (fun _ _ _ h => h) (Or.inl ⟨by rfl, ?hye4x3⟩) hK0 ?reste4x3
              case hye4x3 =>
                intro w0 hSw
                (try dsimp only at hSw)
                go_simp
                all_goals (with_reducible rfl)
              (try simp only [Act.put, List.setIfInBounds_toArray, List.set_cons_zero, List.set_cons_succ])
              refine Kept.take (v := ?ve4x4) 4 (by kernel_rfl) rfl (by kernel_rfl) (fun _ _ _ h => h) (Or.inl ⟨by rfl, ?hye4x4⟩) hK0 ?reste4x4
              case hye4x4 =>
                intro w0 hSw
                (try dsimp only at hSw)
                go_simp
                all_goals (with_reducible rfl)
              (try simp only [Act.put, List.setIfInBounds_toArray, List.set_cons_zero, List.set_cons_succ])
              refine Kept.take (v := ?ve4x5) 5 (by kernel_rfl) rfl (by kernel_rfl) (fun _ _ _ h => h) (Or.inl ⟨by rfl, ?hye4x5⟩) hK0 ?reste4x5
              case hye4x5 =>
                intro w0 hSw
                (try dsimp only at hSw)
                go_simp
                all_goals (with_reducible rfl)
              (try simp only [Act.put, List.setIfInBounds_toArray, List.set_cons_zero, List.set_cons_succ])
              refine Kept.tail (by rfl) (by kernel_rfl) ?_
              simp only [List.drop_succ_cons, List.drop_zero]
              clear hS0 hS hK0
              go_wp2_with fail
              refine NoPanic.normal ?_
              go_wp2_with fail
              have g0 := HC.out.box.cells.1.1
              have g1 := HC.out.box.cells.1.2.1
              have g2 := HC.out.box.cells.1.2.2.1
              have g3 := HC.out.box.cells.1.2.2.2
              have gz := HC.out.box.cells.2
              have hS0 : (fun w' => w'.cell? ⟨w.heap.size, 0, none⟩ = some (.int .i64 n.1) ∧ w'.cell? ⟨w.heap.size, 1, none⟩ = some (.slice mA1 (n.2.1).length mc1) ∧ w'.cell? ⟨w.heap.size, 2, none⟩ = some (.slice (some ⟨sb, sq, none⟩) (n.2.2.1).length mc2) ∧ w'.cell? ⟨w.heap.size, 3, none⟩ = some (.slice mA3 (n.2.2.2).length mc3) ∧ w'.cell? ⟨G, 0, none⟩ = some (.int .i64 n.1) ∧ w'.cell? ⟨G, 1, none⟩ = some (.slice A1 n.2.1.length c1) ∧ w'.cell? ⟨G, 2, none⟩ = some (.slice A2 n.2.2.1.length c2) ∧ w'.cell? ⟨G, 3, none⟩ = some (.slice A3 n.2.2.2.length c3)) w3.drew := ⟨keep (Below.drew (Below.refl _ _)) d0, keep (Below.drew (Below.refl _ _)) d1, keep (Below.drew (Below.refl _ _)) d2, keep (Below.drew (Below.refl _ _)) d3, keep (Below.drew (Below.refl _ _)) g0, keep (Below.drew (Below.refl _ _)) g1, keep (Below.drew (Below.refl _ _)) g2, keep (Below.drew (Below.refl _ _)) g3⟩
              have hS : ∀ {w0 w' : World}, (fun w' => w'.cell? ⟨w.heap.size, 0, none⟩ = some (.int .i64 n.1) ∧ w'.cell? ⟨w.heap.size, 1, none⟩ = some (.slice mA1 (n.2.1).length mc1) ∧ w'.cell? ⟨w.heap.size, 2, none⟩ = some (.slice (some ⟨sb, sq, none⟩) (n.2.2.1).length mc2) ∧ w'.cell? ⟨w.heap.size, 3, none⟩ = some (.slice mA3 (n.2.2.2).length mc3) ∧ w'.cell? ⟨G, 0, none⟩ = some (.int .i64 n.1) ∧ w'.cell? ⟨G, 1, none⟩ = some (.slice A1 n.2.1.length c1) ∧ w'.cell? ⟨G, 2, none⟩ = some (.slice A2 n.2.2.1.length c2) ∧ w'.cell? ⟨G, 3, none⟩ = some (.slice A3 n.2.2.2.length c3)) w0 → Below w0.heap.size w0 w' → (fun w' => w'.cell? ⟨w.heap.size, 0, none⟩ = some (.int .i64 n.1) ∧ w'.cell? ⟨w.heap.size, 1, none⟩ = some (.slice mA1 (n.2.1).length mc1) ∧ w'.cell? ⟨w.heap.size, 2, none⟩ = some (.slice (some ⟨sb, sq, none⟩) (n.2.2.1).length mc2) ∧ w'.cell? ⟨w.heap.size, 3, none⟩ = some (.slice mA3 (n.2.2.2).length mc3) ∧ w'.cell? ⟨G, 0, none⟩ = some (.int .i64 n.1) ∧ w'.cell? ⟨G, 1, none⟩ = some (.slice A1 n.2.1.length c1) ∧ w'.cell? ⟨G, 2, none⟩ = some (.slice A2 n.2.2.1.length c2) ∧ w'.cell? ⟨G, 3, none⟩ = some (.slice A3 n.2.2.2.length c3)) w' := fun h hb => ⟨keep hb h.1, keep hb h.2.1, keep hb h.2.2.1, keep hb h.2.2.2.1, keep hb h.2.2.2.2.1, keep hb h.2.2.2.2.2.1, keep hb h.2.2.2.2.2.2.1, keep hb h.2.2.2.2.2.2.2⟩
              have hG1 : G ≠ w.heap.size + 1 := by have := HC.out.hG; omega
              have hF : ∀ {w0 : World} {a b c d : Value}, (fun w' => w'.cell? ⟨w.heap.size, 0, none⟩ = some (.int .i64 n.1) ∧ w'.cell? ⟨w.heap.size, 1, none⟩ = some (.slice mA1 (n.2.1).length mc1) ∧ w'.cell? ⟨w.heap.size, 2, none⟩ = some (.slice (some ⟨sb, sq, none⟩) (n.2.2.1).length mc2) ∧ w'.cell? ⟨w.heap.size, 3, none⟩ = some (.slice mA3 (n.2.2.2).length mc3) ∧ w'.cell? ⟨G, 0, none⟩ = some (.int .i64 n.1) ∧ w'.cell? ⟨G, 1, none⟩ = some (.slice A1 n.2.1.length c1) ∧ w'.cell? ⟨G, 2, none⟩ = some (.slice A2 n.2.2.1.length c2) ∧ w'.cell? ⟨G, 3, none⟩ = some (.slice A3 n.2.2.2.length c3)) w0 → (fun w' => w'.cell? ⟨w.heap.size, 0, none⟩ = some (.int .i64 n.1) ∧ w'.cell? ⟨w.heap.size, 1, none⟩ = some (.slice mA1 (n.2.1).length mc1) ∧ w'.cell? ⟨w.heap.size, 2, none⟩ = some (.slice (some ⟨sb, sq, none⟩) (n.2.2.1).length mc2) ∧ w'.cell? ⟨w.heap.size, 3, none⟩ = some (.slice mA3 (n.2.2.2).length mc3) ∧ w'.cell? ⟨G, 0, none⟩ = some (.int .i64 n.1) ∧ w'.cell? ⟨G, 1, none⟩ = some (.slice A1 n.2.1.length c1) ∧ w'.cell? ⟨G, 2, none⟩ = some (.slice A2 n.2.2.1.length c2) ∧ w'.cell? ⟨G, 3, none⟩ = some (.slice A3 n.2.2.2.length c3)) ((((w0.setCell ⟨w.heap.size + 1, 0, none⟩ a).setCell ⟨w.heap.size + 1, 1, none⟩ b).setCell ⟨w.heap.size + 1, 2, none⟩ c).setCell ⟨w.heap.size + 1, 3, none⟩ d) := fun h => ⟨(World.cell?_of_block (far4 (Nat.ne_of_lt (Nat.lt_succ_self _)))).trans h.1, (World.cell?_of_block (far4 (Nat.ne_of_lt (Nat.lt_succ_self _)))).trans h.2.1, (World.cell?_of_block (far4 (Nat.ne_of_lt (Nat.lt_succ_self _)))).trans h.2.2.1, (World.cell?_of_block (far4 (Nat.ne_of_lt (Nat.lt_succ_self _)))).trans h.2.2.2.1, (World.cell?_of_block (far4 (show G ≠ w.heap.size + 1 from hG1))).trans h.2.2.2.2.1, (World.cell?_of_block (far4 (show G ≠ w.heap.size + 1 from hG1))).trans h.2.2.2.2.2.1, (World.cell?_of_block (far4 (show G ≠ w.heap.size + 1 from hG1))).trans h.2.2.2.2.2.2.1, (World.cell?_of_block (far4 (show G ≠ w.heap.size + 1 from hG1))).trans h.2.2.2.2.2.2.2⟩
              dsimp only at hS0 hS hF
              refine wp_region_noPanic ?_
              refine wp_region_kept 7 8 (fun w' => w'.cell? ⟨w.heap.size, 0, none⟩ = some (.int .i64 n.1) ∧ w'.cell? ⟨w.heap.size, 1, none⟩ = some (.slice mA1 (n.2.1).length mc1) ∧ w'.cell? ⟨w.heap.size, 2, none⟩ = some (.slice (some ⟨sb, sq, none⟩) (n.2.2.1).length mc2) ∧ w'.cell? ⟨w.heap.size, 3, none⟩ = some (.slice mA3 (n.2.2.2).length mc3) ∧ w'.cell? ⟨G, 0, none⟩ = some (.int .i64 n.1) ∧ w'.cell? ⟨G, 1, none⟩ = some (.slice A1 n.2.1.length c1) ∧ w'.cell? ⟨G, 2, none⟩ = some (.slice A2 n.2.2.1.length c2) ∧ w'.cell? ⟨G, 3, none⟩ = some (.slice A3 n.2.2.2.length c3)) (by kernel_rfl) rfl (hS hS0 (Below.drew (Below.refl _ _))) (fun hK0 => ?_)
              refine Kept.take (v := ?vf3x0) 0 (by kernel_rfl) rfl (by kernel_rfl) (fun _ _ _ h => h) (Or.inl ⟨by rfl, ?hyf3x0⟩) hK0 ?restf3x0
              case hyf3x0 =>
                intro w0 hSw
                (try dsimp only at hSw)
                go_simp
                all_goals (with_reducible rfl)
              (try simp only [Act.put, List.setIfInBounds_toArray, List.set_cons_zero, List.set_cons_succ])
              refine Kept.take (v := ?vf3x1) 1 (by kernel_rfl) rfl (by kernel_rfl) (fun _ _ _ h => h) (Or.inl ⟨by rfl, ?hyf3x1⟩) hK0 ?restf3x1
              case hyf3x1 =>
                intro w0 hSw
                (try dsimp only at hSw)
                go_simp
                all_goals (with_reducible rfl)
              (try simp only [Act.put, List.setIfInBounds_toArray, List.set_cons_zero, List.set_cons_succ])
              refine Kept.take (v := ?vf3x3) 3 (by kernel_rfl) rfl (by kernel_rfl) (fun _ _ _ h => h) (Or.inl ⟨by rfl, ?hyf3x3⟩) hK0 ?restf3x3
              case hyf3x3 =>
                intro w0 hSw
                (try dsimp only at hSw)
                go_simp
                all_goals (with_reducible rfl)
              (try simp only [Act.put, List.setIfInBounds_toArray, List.set_cons_zero, List.set_cons_succ])
              refine Kept.one 2 (by kernel_rfl) rfl (fun K hK => ?_)
              go_simp
              go_at_call 94
              refine (specFirst_at n _ _ (rdUp good_Net HD.out (bThen HB.out (Below.drew (Below.drew (Below.refl _ _))))) (Nat.le_refl _) HP.out.sz).mono ?_
              rintro e wr ⟨rfl, hbr⟩
              have HCR := Lib.hid (HC.out.below (bThen (Below.drew (Below.drew (Below.refl _ _))) hbr))
              have F8 := HCR.out.res.cells
              have r0 := F8.1.1
              have r1 := F8.1.2.1
              have r2 := F8.1.2.2.1
              have r3 := F8.1.2.2.2
              have rz := F8.2
              clear F8
              go_simp
              refine hK.out _ _ (hS hK0 hbr) (fun hK1 => ?_)
              clear hK K hK0
              (try simp only [Act.put, List.setIfInBounds_toArray, List.set_cons_zero, List.set_cons_succ])
              refine Kept.take (v := ?vf3x4) 4 (by kernel_rfl) rfl (by kernel_rfl) (fun _ _ _ h => h) (Or.inl ⟨by rfl, ?hyf3x4⟩) hK1 ?restf3x4
              case hyf3x4 =>
                intro w0 hSw
                (try dsimp only at hSw)
                go_simp
                all_goals (with_reducible rfl)
              (try simp only [Act.put, List.setIfInBounds_toArray, List.set_cons_zero, List.set_cons_succ])
              refine Kept.take (v := ?vf3x5) 5 (by kernel_rfl) rfl (by kernel_rfl) (fun _ _ _ h => h) (Or.inl ⟨by rfl, ?hyf3x5⟩) hK1 ?restf3x5
              case hyf3x5 =>
                intro w0 hSw
                (try dsimp only at hSw)
                go_simp
                all_goals (with_reducible rfl)
              (try simp only [Act.put, List.setIfInBounds_toArray, List.set_cons_zero, List.set_cons_succ])
              refine Kept.one 6 (by kernel_rfl) rfl (fun K hK => ?_)
              go_simp
              refine hK.out _ _ (hF hK1) (fun hK2 => ?_)
              clear hK K hK1
              (try simp only [Act.put, List.setIfInBounds_toArray, List.set_cons_zero, List.set_cons_succ])
              refine Kept.tail (by rfl) (by kernel_rfl) ?_
              simp only [List.drop_succ_cons, List.drop_zero]
              clear hS0 hS hF hK2
              go_wp2
              refine NoPanic.normal ?_
              go_wp2
              ((try simp only [Exit.inBlock, Exit.then]); refine bodyPost_ret (v := (.tuple #[.agg #[.int .i64 n.1, .slice A1 n.2.1.length c1, .slice A2 n.2.2.1.length c2, .slice A3 n.2.2.2.length c3], .int .i64 (2 * (N' : Int))])) (by rw [results_cell_tmp rfl]; go_simp) rfl ?_)
              exact ⟨_, _, _, rows, bs, rfl, (HCR.out.done _ _ _ _).1, (HCR.out.done _ _ _ _).2⟩
            · have c1' := c1.symm
              clear c1
              subst c1'
              go_wp2_with fail
              have HN2 := Lib.hid (show ∀ j : Nat, j < k + 1 → n.2.2.1[j]? ≠ some (b, a) from fun j hj => by
                by_cases hjk : j = k
                · subst hjk; rw [HS.out]; intro c; injection c with c; injection c with c3 c4; exact c2 c4
                · exact HNE.out j (by omega))
              have hS0 : (fun w' => Below w3.heap.size w3 w' ∧ w'.cell? ⟨w.heap.size, 2, none⟩ = some (.slice (some ⟨sb, sq, none⟩) (n.2.2.1).length mc2) ∧ w'.cell? ⟨X, 0, none⟩ = some (.int .i64 b) ∧ w'.cell? ⟨X, 1, none⟩ = some (.int .i64 a) ∧ w'.cell? ⟨sb, sq + k * 2, none⟩ = some (.int .i64 b) ∧ w'.cell? ⟨sb, sq + k * 2 + 1, none⟩ = some (.int .i64 q)) w3 := ⟨Below.refl _ _, d2, x0, x1, y0, y1⟩
              have hS : ∀ {w0 w' : World}, (fun w' => Below w3.heap.size w3 w' ∧ w'.cell? ⟨w.heap.size, 2, none⟩ = some (.slice (some ⟨sb, sq, none⟩) (n.2.2.1).length mc2) ∧ w'.cell? ⟨X, 0, none⟩ = some (.int .i64 b) ∧ w'.cell? ⟨X, 1, none⟩ = some (.int .i64 a) ∧ w'.cell? ⟨sb, sq + k * 2, none⟩ = some (.int .i64 b) ∧ w'.cell? ⟨sb, sq + k * 2 + 1, none⟩ = some (.int .i64 q)) w0 → Below w0.heap.size w0 w' → (fun w' => Below w3.heap.size w3 w' ∧ w'.cell? ⟨w.heap.size, 2, none⟩ = some (.slice (some ⟨sb, sq, none⟩) (n.2.2.1).length mc2) ∧ w'.cell? ⟨X, 0, none⟩ = some (.int .i64 b) ∧ w'.cell? ⟨X, 1, none⟩ = some (.int .i64 a) ∧ w'.cell? ⟨sb, sq + k * 2, none⟩ = some (.int .i64 b) ∧ w'.cell? ⟨sb, sq + k * 2 + 1, none⟩ = some (.int .i64 q)) w' := fun h hb => ⟨bThen h.1 hb, keep hb h.2.1, keep hb h.2.2.1, keep hb h.2.2.2.1, keep hb h.2.2.2.2.1, keep hb h.2.2.2.2.2⟩
              dsimp only at hS0 hS
              refine wp_region_noPanic ?_
              refine wp_region_kept 6 7 (fun w' => Below w3.heap.size w3 w' ∧ w'.cell? ⟨w.heap.size, 2, none⟩ = some (.slice (some ⟨sb, sq, none⟩) (n.2.2.1).length mc2) ∧ w'.cell? ⟨X, 0, none⟩ = some (.int .i64 b) ∧ w'.cell? ⟨X, 1, none⟩ = some (.int .i64 a) ∧ w'.cell? ⟨sb, sq + k * 2, none⟩ = some (.int .i64 b) ∧ w'.cell? ⟨sb, sq + k * 2 + 1, none⟩ = some (.int .i64 q)) (by kernel_rfl) rfl (hS hS0 (Below.drew (Below.refl _ _))) (fun hK0 => ?_)
              refine Kept.take (v := ?ve5x0) 0 (by kernel_rfl) rfl (by kernel_rfl) (fun _ _ _ h => h) (Or.inl ⟨by rfl, ?hye5x0⟩) hK0 ?reste5x0
              case hye5x0 =>
                intro w0 hSw
                (try dsimp only at hSw)
                go_simp
                all_goals (with_reducible rfl)
              (try simp only [Act.put, List.setIfInBounds_toArray, List.set_cons_zero, List.set_cons_succ])
              refine Kept.take (v := ?ve5x1) 1 (by kernel_rfl) rfl (by kernel_rfl) (fun _ _ _ h => h) (Or.inl ⟨by rfl, ?hye5x1⟩) hK0 ?reste5x1
              case hye5x1 =>
                intro w0 hSw
                (try dsimp only at hSw)
                go_simp
                all_goals (with_reducible rfl)
              (try simp only [Act.put, List.setIfInBounds_toArray, List.set_cons_zero, List.set_cons_succ])
              refine Kept.take (v := ?ve5x2) 2 (by kernel_rfl) rfl (by kernel_rfl) (fun _ _ _ h => h) (Or.inl ⟨by rfl, ?hye5x2⟩) hK0 ?reste5x2
              case hye5x2 =>
                intro w0 hSw
                (try dsimp only at hSw)
                go_simp
                all_goals (with_reducible rfl)
              (try simp only [Act.put, List.setIfInBounds_toArray, List.set_cons_zero, List.set_cons_succ])
              refine Kept.take (v := ?ve5x3) 3 (by kernel_rfl) rfl (by kernel_rfl) (fun _ _ _ h => h) (Or.inl ⟨by rfl, ?hye5x3⟩) hK0 ?reste5x3
              case hye5x3 =>
                intro w0 hSw
                (try dsimp only at hSw)
                go_simp
                all_goals (with_reducible rfl)
              (try simp only [Act.put, List.setIfInBounds_toArray, List.set_cons_zero, List.set_cons_succ])
              refine Kept.take (v := ?ve5x4) 4 (by kernel_rfl) rfl (by kernel_rfl) (fun _ _ _ h => h) (Or.inl ⟨by rfl, ?hye5x4⟩) hK0 ?reste5x4
              case hye5x4 =>
                intro w0 hSw
                (try dsimp only at hSw)
                go_simp
                all_goals (with_reducible rfl)
              (try simp only [Act.put, List.setIfInBounds_toArray, List.set_cons_zero, List.set_cons_succ])
              refine Kept.take (v := ?ve5x5) 5 (by kernel_rfl) rfl (by kernel_rfl) (fun _ _ _ h => h) (Or.inl ⟨by rfl, ?hye5x5⟩) hK0 ?reste5x5
              case hye5x5 =>
                intro w0 hSw
                (try dsimp only at hSw)
                go_simp
                all_goals (with_reducible rfl)
              (try simp only [Act.put, List.setIfInBounds_toArray, List.set_cons_zero, List.set_cons_succ])
              refine Kept.tail (by rfl) (by kernel_rfl) ?_
              simp only [List.drop_succ_cons, List.drop_zero]
              have HB8 := Lib.hid (bThen HB7.out hK0.1)
              clear hS0 hS hK0
              go_wp2
              refine NoPanic.normal ?_
              go_wp2
              go_roundw
              case rel => exact ⟨k + 1, by omega, by go_num, HN2.out, HB8.out⟩
              case measure => simp [intOf] <;> omega
          · go_wp2_with fail
            have HN2 := Lib.hid (show ∀ j : Nat, j < k + 1 → n.2.2.1[j]? ≠ some (b, a) from fun j hj => by
              by_cases hjk : j = k
              · subst hjk; rw [HS.out]; intro c; injection c with c; injection c with c3 c4; exact c1 c3
              · exact HNE.out j (by omega))
            have hS0 : (fun w' => Below w3.heap.size w3 w' ∧ w'.cell? ⟨w.heap.size, 2, none⟩ = some (.slice (some ⟨sb, sq, none⟩) (n.2.2.1).length mc2) ∧ w'.cell? ⟨X, 0, none⟩ = some (.int .i64 b) ∧ w'.cell? ⟨X, 1, none⟩ = some (.int .i64 a) ∧ w'.cell? ⟨sb, sq + k * 2, none⟩ = some (.int .i64 p) ∧ w'.cell? ⟨sb, sq + k * 2 + 1, none⟩ = some (.int .i64 q)) w3 := ⟨Below.refl _ _, d2, x0, x1, y0, y1⟩
            have hS : ∀ {w0 w' : World}, (fun w' => Below w3.heap.size w3 w' ∧ w'.cell? ⟨w.heap.size, 2, none⟩ = some (.slice (some ⟨sb, sq, none⟩) (n.2.2.1).length mc2) ∧ w'.cell? ⟨X, 0, none⟩ = some (.int .i64 b) ∧ w'.cell? ⟨X, 1, none⟩ = some (.int .i64 a) ∧ w'.cell? ⟨sb, sq + k * 2, none⟩ = some (.int .i64 p) ∧ w'.cell? ⟨sb, sq + k * 2 + 1, none⟩ = some (.int .i64 q)) w0 → Below w0.heap.size w0 w' → (fun w' => Below w3.heap.size w3 w' ∧ w'.cell? ⟨w.heap.size, 2, none⟩ = some (.slice (some ⟨sb, sq, none⟩) (n.2.2.1).length mc2) ∧ w'.cell? ⟨X, 0, none⟩ = some (.int .i64 b) ∧ w'.cell? ⟨X, 1, none⟩ = some (.int .i64 a) ∧ w'.cell? ⟨sb, sq + k * 2, none⟩ = some (.int .i64 p) ∧ w'.cell? ⟨sb, sq + k * 2 + 1, none⟩ = some (.int .i64 q)) w' := fun h hb => ⟨bThen h.1 hb, keep hb h.2.1, keep hb h.2.2.1, keep hb h.2.2.2.1, keep hb h.2.2.2.2.1, keep hb h.2.2.2.2.2⟩
            dsimp only at hS0 hS
            refine wp_region_noPanic ?_
            refine wp_region_kept 6 7 (fun w' => Below w3.heap.size w3 w' ∧ w'.cell? ⟨w.heap.size, 2, none⟩ = some (.slice (some ⟨sb, sq, none⟩) (n.2.2.1).length mc2) ∧ w'.cell? ⟨X, 0, none⟩ = some (.int .i64 b) ∧ w'.cell? ⟨X, 1, none⟩ = some (.int .i64 a) ∧ w'.cell? ⟨sb, sq + k * 2, none⟩ = some (.int .i64 p) ∧ w'.cell? ⟨sb, sq + k * 2 + 1, none⟩ = some (.int .i64 q)) (by kernel_rfl) rfl (hS hS0 (Below.drew (Below.refl _ _))) (fun hK0 => ?_)
            refine Kept.take (v := ?ve6x0) 0 (by kernel_rfl) rfl (by kernel_rfl) (fun _ _ _ h => h) (Or.inl ⟨by rfl, ?hye6x0⟩) hK0 ?reste6x0
            case hye6x0 =>
              intro w0 hSw
              (try dsimp only at hSw)
              go_simp
              all_goals (with_reducible rfl)
            (try simp only [Act.put, List.setIfInBounds_toArray, List.set_cons_zero, List.set_cons_succ])
            refine Kept.take (v := ?ve6x1) 1 (by kernel_rfl) rfl (by kernel_rfl) (fun _ _ _ h => h) (Or.inl ⟨by rfl, ?hye6x1⟩) hK0 ?reste6x1
            case hye6x1 =>
              intro w0 hSw
              (try dsimp only at hSw)
              go_simp
              all_goals (with_reducible rfl)
            (try simp only [Act.put, List.setIfInBounds_toArray, List.set_cons_zero, List.set_cons_succ])
            refine Kept.take (v := ?ve6x2) 2 (by kernel_rfl) rfl (by kernel_rfl) (fun _ _ _ h => h) (Or.inl ⟨by rfl, ?hye6x2⟩) hK0 ?reste6x2
            case hye6x2 =>
              intro w0 hSw
              (try dsimp only at hSw)
              go_simp
              all_goals (with_reducible rfl)
            (try simp only [Act.put, List.setIfInBounds_toArray, List.set_cons_zero, List.set_cons_succ])
            refine Kept.take (v := ?ve6x3) 3 (by kernel_rfl) rfl (by kernel_rfl) (fun _ _ _ h => h) (Or.inl ⟨by rfl, ?hye6x3⟩) hK0 ?reste6x3
            case hye6x3 =>
              intro w0 hSw
              (try dsimp only at hSw)
              go_simp
              all_goals (with_reducible rfl)
            (try simp only [Act.put, List.setIfInBounds_toArray, List.set_cons_zero, List.set_cons_succ])
            refine Kept.take (v := ?ve6x4) 4 (by kernel_rfl) rfl (by kernel_rfl) (fun _ _ _ h => h) (Or.inl ⟨by rfl, ?hye6x4⟩) hK0 ?reste6x4
            case hye6x4 =>
              intro w0 hSw
              (try dsimp only at hSw)
              go_simp
              all_goals (with_reducible rfl)
            (try simp only [Act.put, List.setIfInBounds_toArray, List.set_cons_zero, List.set_cons_succ])
            refine Kept.take (v := ?ve6x5) 5 (by kernel_rfl) rfl (by kernel_rfl) (fun _ _ _ h => h) (Or.inl ⟨by rfl, ?hye6x5⟩) hK0 ?reste6x5
            case hye6x5 =>
              intro w0 hSw
              (try dsimp only at hSw)
              go_simp
              all_goals (with_reducible rfl)
            (try simp only [Act.put, List.setIfInBounds_toArray, List.set_cons_zero, List.set_cons_succ])
            refine Kept.tail (by rfl) (by kernel_rfl) ?_
            simp only [List.drop_succ_cons, List.drop_zero]
            have HB8 := Lib.hid (bThen HB7.out hK0.1)
            clear hS0 hS hK0
            go_wp2
            refine NoPanic.normal ?_
            go_wp2
            go_roundw
            case rel => exact ⟨k + 1, by omega, by go_num, HN2.out, HB8.out⟩
            case measure => simp [intOf] <;> omega
        · obtain rfl : k = n.2.2.1.length := by omega
          have HID := Lib.hid (show idxG (min a b, max a b) n.2.2.1 0 = none by rw [HMN.out.1, HMN.out.2]; exact idxG_miss HNE.out)
          have h7 := HB.out.size
          have h8 := HB7.out.size
          have h9 := h9x
          clear hlt
          by_cases c300 : n.2.2.1.length = 300
          · have HEQ := Lib.hid (andO_full HOK.out HZ.out HR.out HL1.out HID.out c300)
            have q9 : ((n.2.2.1.length : Int) == 300) = true := by rw [c300]; rfl
            have c301 := Lib.hid c300
            clear c300
            have hE := Prod.mk.inj ((HEQ.out).symm.trans HX.out)
            obtain ⟨hE1, hE2⟩ := hE
            subst hE1 hE2
            have g0 := HC.out.box.cells.1.1
            have g1 := HC.out.box.cells.1.2.1
            have g2 := HC.out.box.cells.1.2.2.1
            have g3 := HC.out.box.cells.1.2.2.2
            have gz := HC.out.box.cells.2
            have f0 := HC.out.res.cells.1.1
            have f1 := HC.out.res.cells.1.2.1
            have f2 := HC.out.res.cells.1.2.2.1
            have f3 := HC.out.res.cells.1.2.2.2
            have fz := HC.out.res.cells.2
            go_wp2
            ((try simp only [Exit.inBlock, Exit.then]); refine bodyPost_ret (v := (.tuple #[.agg #[.int .i64 n.1, .slice A1 n.2.1.length c1, .slice A2 n.2.2.1.length c2, .slice A3 n.2.2.2.length c3], .int .i64 (-1)])) (by rw [results_cell_tmp rfl]; go_simp) rfl ?_)
            exact ⟨_, _, _, rows, bs, rfl, (HC.out.done _ _ _ _).1, (HC.out.done _ _ _ _).2⟩
          · have HEQ := Lib.hid (andO_add HOK.out HZ.out HR.out HL1.out HID.out c300)
            have q9 : ((n.2.2.1.length : Int) == 300) = false := beq_false_of_ne (by omega)
            rw [HMN.out.1, HMN.out.2] at HEQ
            have hE := Prod.mk.inj ((HEQ.out).symm.trans HX.out)
            obtain ⟨hE1, hE2⟩ := hE
            subst hE1 hE2
            have e1 : IntKind.i64.wrap (2 * ncI n) = 2 * (netN n : Int) := by rw [HNC.out]; exact wrap64_int _ (by omega) (by omega)
            have HCA := Lib.hid (HC.out.below (bAlloc (Below.refl _ _) (Nat.le_refl _) (.cells #[.int .i64 b, .int .i64 a] 67)))
            have HNB2 := Lib.hid (show (w3.alloc (.cells #[.int .i64 b, .int .i64 a] 67)).heap[w3.heap.size]? = some (.cells #[.int .i64 b, .int .i64 a] 67 (0, 0)) from heap_alloc_new _ _)
            have hrow : OwnsR fAnd 2 TAnd (w3.alloc (.cells #[.int .i64 b, .int .i64 a] 67)) (w.heap.size + 2) (.slice A2 n.2.2.1.length c2) n.2.2.1 := HCA.out.net.a.own
            unfold OwnsR at hrow
            have HROW := Lib.hid hrow
            have hneG : (Value.slice A2 n.2.2.1.length c2).ownBlock ≠ some G := fun e => HC.out.off G (by simp [mem_blkL.2 e]) rfl
            have hf2 := HCA.out.box.cells.1.2.2.1
            have hz2 := HCA.out.box.cells.2 2
            have HSZ := Lib.hid (show w.heap.size + 2 ≤ (w3.alloc (.cells #[.int .i64 b, .int .i64 a] 67)).heap.size by have := HC.out.box.lt; have := HC.out.hG; simp; omega)
            have g0 := HC.out.box.cells.1.1
            have g1 := HC.out.box.cells.1.2.1
            have g2 := HC.out.box.cells.1.2.2.1
            have g3 := HC.out.box.cells.1.2.2.2
            have gz := HC.out.box.cells.2
            clear hrow
            go_wp2_with (at_builtin; refine wpList_append_all (by rfl) _ _ 34 (by rfl) (w.heap.size + 2) 67 iA (.agg #[.int .i64 0, .int .i64 0]) 2 16 Try.underlying34 hiA hzA0 hzA1 hzA2 rfl (by omega) (.slice A2 n.2.2.1.length c2) n.2.2.1.length (n.2.2.1.flatMap fAnd) (by rfl) HROW.out (some ⟨w3.heap.size, 0, none⟩) 1 1 [.int .i64 b, .int .i64 a] (by rfl) (by rfl) (.inr ⟨_, rfl, World.news_of_block HNB2.out⟩) (by simp [Value.oneCell']) (by unfold maxLen; omega) (by omega) HSZ.out ?_; intro A' c' w9 hown6 hgrow6 hkeep6 hat6; have y2 := grownC hgrow6 hf2 hneG; have z2 := grownZ hgrow6 hf2 hz2 hneG; have HC9 := Lib.hid (HCA.out.add (x := (b, a)) hown6 rfl hgrow6 hat6 ⟨fb, fa⟩ HSZ.out); have k0 : World.cell? _ ⟨G, 0, none⟩ = some (.int .i64 n.1) := HC9.out.box.cells.1.1; have k1 := HC9.out.box.cells.1.2.1; have k2 := HC9.out.box.cells.1.2.2.1; have k3 := HC9.out.box.cells.1.2.2.2; have f0 := HC9.out.res.cells.1.1; have f1 := HC9.out.res.cells.1.2.1; have f2 := HC9.out.res.cells.1.2.2.1; have f3 := HC9.out.res.cells.1.2.2.2; have fz := HC9.out.res.cells.2)
            go_wp2
            ((try simp only [Exit.inBlock, Exit.then]); refine bodyPost_ret (v := (.tuple #[.agg #[.int .i64 n.1, .slice A1 n.2.1.length c1, .slice A' (n.2.2.1.length + 1) c', .slice A3 n.2.2.2.length c3], .int .i64 (2 * (netN n : Int))])) (by rw [results_cell_tmp rfl]; go_simp) rfl ?_)
            exact ⟨_, _, _, rows, bs, rfl, (HC9.out.done _ _ _ _).1, (HC9.out.done _ _ _ _).2⟩
end Go.Proofs.Ytedamhkcblemdaa
