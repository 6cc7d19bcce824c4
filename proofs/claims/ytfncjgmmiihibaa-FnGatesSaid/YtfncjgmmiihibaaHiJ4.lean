/-
  AddMux: the program.
-/
import Derived.Test.YtfncjgmmiihibaaHiI4
import Derived.Test.YtfncjgmmiihibaaHiQ
namespace Go.Proofs.Ytfncjgmmiihibaa
open Go.RowKit
set_option linter.unusedVariables false
set_option linter.unusedSimpArgs false
theorem eqbox6 {w W : World} {o1 o2 o3 o4 o5 o6 : Obj} (h : W = ((((((w.alloc o1).alloc o2).alloc o3).alloc o4).alloc o5).alloc o6)) : W.heap[w.heap.size]? = some o1 ∧ W.heap[w.heap.size + 1]? = some o2 ∧ W.heap[w.heap.size + 2]? = some o3 ∧ W.heap[w.heap.size + 3]? = some o4 ∧ W.heap[w.heap.size + 4]? = some o5 ∧ W.heap[w.heap.size + 5]? = some o6 ∧ Below w.heap.size w W := by
  subst h
  have b0 : Below w.heap.size w (w.alloc o1) := bAlloc (Below.refl _ _) (Nat.le_refl _) _
  have s0 : w.heap.size = w.heap.size := by simp
  have r0 := heap_alloc_new w o1
  rw [s0] at r0
  have b1 : Below (w.alloc o1).heap.size (w.alloc o1) ((w.alloc o1).alloc o2) := bAlloc (Below.refl _ _) (Nat.le_refl _) _
  have s1 : (w.alloc o1).heap.size = w.heap.size + 1 := by simp
  have r1 := heap_alloc_new (w.alloc o1) o2
  rw [s1] at r1
  replace r0 := rowB' b1 r0
  have b2 : Below ((w.alloc o1).alloc o2).heap.size ((w.alloc o1).alloc o2) (((w.alloc o1).alloc o2).alloc o3) := bAlloc (Below.refl _ _) (Nat.le_refl _) _
  have s2 : ((w.alloc o1).alloc o2).heap.size = w.heap.size + 2 := by simp
  have r2 := heap_alloc_new ((w.alloc o1).alloc o2) o3
  rw [s2] at r2
  replace r0 := rowB' b2 r0
  replace r1 := rowB' b2 r1
  have b3 : Below (((w.alloc o1).alloc o2).alloc o3).heap.size (((w.alloc o1).alloc o2).alloc o3) ((((w.alloc o1).alloc o2).alloc o3).alloc o4) := bAlloc (Below.refl _ _) (Nat.le_refl _) _
  have s3 : (((w.alloc o1).alloc o2).alloc o3).heap.size = w.heap.size + 3 := by simp
  have r3 := heap_alloc_new (((w.alloc o1).alloc o2).alloc o3) o4
  rw [s3] at r3
  replace r0 := rowB' b3 r0
  replace r1 := rowB' b3 r1
  replace r2 := rowB' b3 r2
  have b4 : Below ((((w.alloc o1).alloc o2).alloc o3).alloc o4).heap.size ((((w.alloc o1).alloc o2).alloc o3).alloc o4) (((((w.alloc o1).alloc o2).alloc o3).alloc o4).alloc o5) := bAlloc (Below.refl _ _) (Nat.le_refl _) _
  have s4 : ((((w.alloc o1).alloc o2).alloc o3).alloc o4).heap.size = w.heap.size + 4 := by simp
  have r4 := heap_alloc_new ((((w.alloc o1).alloc o2).alloc o3).alloc o4) o5
  rw [s4] at r4
  replace r0 := rowB' b4 r0
  replace r1 := rowB' b4 r1
  replace r2 := rowB' b4 r2
  replace r3 := rowB' b4 r3
  have b5 : Below (((((w.alloc o1).alloc o2).alloc o3).alloc o4).alloc o5).heap.size (((((w.alloc o1).alloc o2).alloc o3).alloc o4).alloc o5) ((((((w.alloc o1).alloc o2).alloc o3).alloc o4).alloc o5).alloc o6) := bAlloc (Below.refl _ _) (Nat.le_refl _) _
  have s5 : (((((w.alloc o1).alloc o2).alloc o3).alloc o4).alloc o5).heap.size = w.heap.size + 5 := by simp
  have r5 := heap_alloc_new (((((w.alloc o1).alloc o2).alloc o3).alloc o4).alloc o5) o6
  rw [s5] at r5
  replace r0 := rowB' b5 r0
  replace r1 := rowB' b5 r1
  replace r2 := rowB' b5 r2
  replace r3 := rowB' b5 r3
  replace r4 := rowB' b5 r4
  exact ⟨r0, r1, r2, r3, r4, r5, bThen (bThen (bThen (bThen (bThen (bThen (Below.refl _ _) b0) b1) b2) b3) b4) b5⟩

set_option maxRecDepth 100000 in
set_option maxHeartbeats 6400000 in
theorem implAddMux_at (n : DNet) (s a b : Int) (us : List Value) (w : World) (h : rdNet 0 w.heap.size w us n) (hq12 : n.2.1.length ≤ 1048576) (hin : ∀ s ∈ n.2.1, s.2.2.length ≤ 1048576) (ha12 : n.2.2.1.length ≤ 1048576) (ho12 : n.2.2.2.length ≤ 1048576) (fs : Fit s) (fa : Fit a) (fb : Fit b) {m : DNet} {y : Int} (hL : muxO n s a b = (m, y)) :
    Calls Try.prog 23 #[.agg us.toArray, .int .i64 s, .int .i64 a, .int .i64 b] w fun e w' => ∃ v1 vA v3 rows bs, e = .returned (.tuple #[.agg #[.int .i64 m.1, v1, vA, v3], .int .i64 y]) ∧ NetG w.heap.size w' v1 vA v3 rows bs m ∧ Below w.heap.size w w' := by
  have HX := Lib.hid hL
  have HD := Lib.hid h
  have HIN := Lib.hid hin
  have HFF := Lib.hid (show ∀ x ∈ [s, a, b], Fit x from fun x hx => by
    simp only [List.mem_cons, List.not_mem_nil, or_false] at hx
    rcases hx with rfl | rfl | rfl <;> assumption)
  clear hin hL fs fa fb
  obtain ⟨mu0, mu1, mu2, mu3, rfl, mh0, mh1, mh2, mh3⟩ := h
  obtain ⟨me0, -⟩ := mh0
  injection me0 with me0
  subst me0
  obtain ⟨mA1, mc1, me1, mm1, -⟩ := slice_of mh1
  subst me1
  have mR1 := Lib.hid mh1
  clear mh1
  obtain ⟨mA2, mc2, me2, mm2, -⟩ := slice_of mh2
  subst me2
  have mR2 := Lib.hid mh2
  clear mh2
  obtain ⟨mA3, mc3, me3, mm3, -⟩ := slice_of mh3
  subst me3
  have mR3 := Lib.hid mh3
  clear mh3
  go_enter Try.func23, Try.ntmps23
  go_wp2_with fail
  obtain ⟨W5, hV⟩ : ∃ W5, W5 = ((((((w.alloc (.cells #[.int .i64 n.1, .slice mA1 (n.2.1).length mc1, .slice mA2 (n.2.2.1).length mc2, .slice mA3 (n.2.2.2).length mc3] 28)).alloc (.cells #[.int .i64 s] 3)).alloc (.cells #[.int .i64 a] 3)).alloc (.cells #[.int .i64 b] 3)).alloc (.cells #[.int .i64 0, .slice none 0 0, .slice none 0 0, .slice none 0 0] 28)).alloc (.cells #[.int .i64 s, .int .i64 a, .int .i64 b] 3)) := ⟨_, rfl⟩
  rw [← hV]
  have gN := eqbox6 hV
  have HB := Lib.hid (gN.2.2.2.2.2.2)
  have HRES := Lib.hid (show BoxN W5 (w.heap.size + 4) (.int .i64 0) vNil vNil vNil from gN.2.2.2.2.1)
  have ks := cell_of_row (gN.2.1)
  have ka := cell_of_row (gN.2.2.1)
  have kb := cell_of_row (gN.2.2.2.1)
  have HLR := Lib.hid (lits_rd (L := [s, a, b]) (gN.2.2.2.2.2.1) HFF.out (by simp))
  have sW : W5.heap.size = w.heap.size + 6 := by rw [hV]; simp
  have sW1 := Nat.le_of_eq sW.symm
  clear hV gN sW
  refine (addedMux_at n s a b _ _ _ _ _ W5 (rdUp good_Net HD.out HB.out) HLR.out hq12 HIN.out ha12 ho12 (HFF.out s (by simp)) (HFF.out a (by simp)) (HFF.out b (by simp)) ks ka kb HX.out).mono ?_
  first | rintro e w9 ⟨v1, vA, v3, rows, bs, rfl, hnet, hb9⟩ | rintro e w9 ⟨v1, vA, v3, rfl, rows, bs, hnet, hb9⟩
  obtain ⟨A1, c1, rfl⟩ := hnet.s.cap fV3_len
  obtain ⟨A2, c2, rfl⟩ := hnet.a.cap fAnd_len
  obtain ⟨A3, c3, rfl⟩ := hnet.o.cap fInt_len
  have HN := Lib.hid hnet
  have hres := HRES.out.at (hb9.block _ HRES.out.lt)
  have HB9 := Lib.hid (bThen HB.out hb9)
  have f0 := hres.cells.1.1
  have f1 := hres.cells.1.2.1
  have f2 := hres.cells.1.2.2.1
  have f3 := hres.cells.1.2.2.2
  have fz := hres.cells.2
  clear hnet hb9 hres ks ka kb
  go_wp2
  ((try simp only [Exit.inBlock, Exit.then]); refine bodyPost_ret (v := (.tuple #[.agg #[.int .i64 m.1, .slice A1 m.2.1.length c1, .slice A2 m.2.2.1.length c2, .slice A3 m.2.2.2.length c3], .int .i64 y])) (by rw [results_cell_tmp rfl]; go_simp) rfl ?_)
  have P1 := (HN.out.at (w' := ((((w9.setCell ⟨w.heap.size + 4, 0, none⟩ (.int .i64 m.1)).setCell ⟨w.heap.size + 4, 1, none⟩ (.slice A1 m.2.1.length c1)).setCell ⟨w.heap.size + 4, 2, none⟩ (.slice A2 m.2.2.1.length c2)).setCell ⟨w.heap.size + 4, 3, none⟩ (.slice A3 m.2.2.2.length c3))) fun b h1 h2 h3 => far4 (by omega)).lower (B' := w.heap.size) (by omega)
  have hle : w.heap.size ≤ w.heap.size + 4 := by omega
  have P2 := bSet (bSet (bSet (bSet HB9.out (p := ⟨w.heap.size + 4, 0, none⟩) hle (.int .i64 m.1)) (p := ⟨w.heap.size + 4, 1, none⟩) hle (.slice A1 m.2.1.length c1)) (p := ⟨w.heap.size + 4, 2, none⟩) hle (.slice A2 m.2.2.1.length c2)) (p := ⟨w.heap.size + 4, 3, none⟩) hle (.slice A3 m.2.2.2.length c3)
  first | exact ⟨_, _, _, rows, bs, rfl, P1, P2⟩ | exact ⟨_, _, _, rfl, rows, bs, P1, P2⟩ | exact ⟨_, _, _, rfl, ⟨rows, bs, P1⟩, P2⟩
end Go.Proofs.Ytfncjgmmiihibaa
