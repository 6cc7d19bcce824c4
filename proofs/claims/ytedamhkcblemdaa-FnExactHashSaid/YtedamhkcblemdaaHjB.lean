/-
  The roots are copied: the specification.
-/
import Derived.Test.YtedamhkcblemdaaHeB
import Derived.Test.YtedamhkcblemdaaHjM
import Derived.Deep.RegionHeld3
namespace Go.Proofs.Ytedamhkcblemdaa
open Go.RowKit
set_option linter.unusedVariables false
set_option linter.unusedSimpArgs false

section
variable {B : Nat} {w : World} {vA v3 : Value} {rows : List V3} {bs : List Nat} {n : DNet}
theorem NetG.setIn {g c j N : Nat} {s : DSeq} {r : V3} {I : List Int} {v : Value} (h : NetG B w (.slice (some ⟨g, 0, none⟩) rows.length c) vA v3 rows bs n) (hj : j < rows.length) (hr : rows[j]? = some r) (hs : n.2.1[j]? = some s) (hv : OwnsI w N v I) (hf : ∀ x ∈ I, Fit x) (hN : B ≤ N) (hFN : ∀ b ∈ blkL (.slice (some ⟨g, 0, none⟩) rows.length c) ++ (bs ++ (blkL vA ++ blkL v3)), b < N) :
    ∃ bs' rows', NetG B (w.setCell ⟨g, j * 3 + 2, none⟩ v) (.slice (some ⟨g, 0, none⟩) rows.length c) vA v3 rows' bs' (n.1, n.2.1.set j (s.1, s.2.1, I), n.2.2.1, n.2.2.2) ∧ rows'.length = rows.length ∧ ∀ b ∈ bs', b ∈ bs ∨ N ≤ b := by
  have hvb : ∀ b ∈ blkL v, N ≤ b ∧ b < w.heap.size := fun b hb => hv.lt b (mem_blkL.1 hb)
  have hgl : g < N := hFN g (by simp [blkL_at])
  have hjl : j < n.2.1.length := by rw [← h.s.len]; exact hj
  have hrj : rows[j] = r := by rw [List.getElem?_eq_getElem hj] at hr; injection hr
  have hsj : n.2.1[j] = s := by rw [List.getElem?_eq_getElem hjl] at hs; injection hs
  obtain ⟨bf, -, hp⟩ := h.s.bf
  have hP := hp j hj hjl
  rw [hrj, hsj] at hP
  obtain ⟨b0, b1, b2, u0, u1, u2, eb, eu, h0, h1, h2⟩ := hP
  obtain ⟨r0, r1, r2⟩ := r
  simp only [fV3, List.cons.injEq, and_true] at eu
  obtain ⟨rfl, rfl, rfl⟩ := eu
  obtain ⟨_, e0, f0⟩ := h0
  obtain ⟨_, e1, f1⟩ := h1
  simp only [List.cons.injEq, and_true] at e0 e1
  subst e0 e1
  have hx : owSeq (blkL v) w (fV3 (.int .i64 s.1, .int .i64 s.2.1, v)) (s.1, s.2.1, I) := owSeq_own f0 f1 hv hf
  obtain ⟨bs', hg, hb'⟩ := gr_store (i := 2) gow_Seq fV3_len h.s hj (by omega) (u := v) (y := (.int .i64 s.1, .int .i64 s.2.1, v)) (by rw [hrj]; rfl) hx (blkL_nodup v) (fun b hb => ⟨by have := (hvb b hb).1; omega, fun hm => by have := (hvb b hb).1; have := hFN b (by simp [hm]); omega⟩) (fun b hb => by have := (hvb b hb).1; omega)
  have hin : ∀ b ∈ blkL (Value.slice (some ⟨g, 0, none⟩) rows.length c) ++ bs', b ∈ blkL (Value.slice (some ⟨g, 0, none⟩) rows.length c) ++ bs ∨ (N ≤ b ∧ b < w.heap.size) := fun b hb => by
    rcases List.mem_append.1 hb with hb | hb
    · exact .inl (List.mem_append.2 (.inl hb))
    · rcases hb' b hb with hb | hb
      · exact .inl (List.mem_append.2 (.inr hb))
      · exact .inr (hvb b hb)
  have hgA : ∀ b ∈ blkL vA ++ blkL v3, b ≠ g := fun b hb e => by
    subst e
    rcases List.mem_append.1 hb with hb | hb
    · exact h.sa b (by simp [blkL_at]) hb
    · exact h.so b (by simp [blkL_at]) hb
  have keepg : ∀ b, b ≠ g → (w.setCell ⟨g, j * 3 + 2, none⟩ v).heap[b]? = w.heap[b]? := fun b hb => Below.heap_setCell w _ _ b (by intro e; exact hb e)
  refine ⟨bs', rows.set j (.int .i64 s.1, .int .i64 s.2.1, v), ⟨hg, h.a.at gow_And fun b hb => keepg b (hgA b (by simp only [List.append_nil] at hb; simp [hb])), h.o.at owInt_good fun b hb => keepg b (hgA b (by simp only [List.append_nil] at hb; simp [hb])), fun b hb hm => ?_, fun b hb hm => ?_, h.ao, h.fit⟩, by simp, fun b hb => (hb' b hb).imp id (fun h => (hvb b h).1)⟩
  · rcases hin b hb with h1 | h1
    · exact h.sa b h1 hm
    · have := hFN b (by simp [hm]); omega
  · rcases hin b hb with h1 | h1
    · exact h.so b h1 hm
    · have := hFN b (by simp [hm]); omega
theorem NetG.rowAt {v1 : Value} {j : Nat} {s : DSeq} (h : NetG B w v1 vA v3 rows bs n) (hs : n.2.1[j]? = some s) :
    ∃ g c r xA xc, v1 = .slice (some ⟨g, 0, none⟩) rows.length c ∧ rows[j]? = some r ∧ w.cell? ⟨g, j * 3 + 2, none⟩ = some (.slice xA s.2.2.length xc) ∧ (∀ i, w.frozen? ⟨g, i, none⟩ = false) ∧ g < w.heap.size ∧ B ≤ g := by
  have hjl := (List.getElem?_eq_some_iff.1 hs).1
  have hj : j < rows.length := by rw [h.s.len]; exact hjl
  obtain ⟨A, c, e, hsh⟩ := OwnsR.shape fV3_len h.s.own
  obtain ⟨g, rfl, hc⟩ := hsh j hj
  have hsj : n.2.1[j] = s := by rw [List.getElem?_eq_getElem hjl] at hs; injection hs
  obtain ⟨bf, -, hp⟩ := h.s.bf
  have hP := hp j hj hjl
  rw [hsj] at hP
  obtain ⟨b0, b1, b2, u0, u1, u2, eb, eu, h0, h1, h2⟩ := hP
  obtain ⟨xA, xc, ex, -, -⟩ := h2
  have h22 := hc 2 u2 (by rw [eu]; rfl)
  injection ex with ex
  subst ex
  have hb := h.s.own.blk_lt (b := g) (by rw [e]; rfl)
  refine ⟨g, c, rows[j], xA, xc, e, List.getElem?_eq_getElem hj, h22.1, fun i => ?_, hb.1, hb.2⟩
  subst e
  exact World.ownsRow.frozenAt h.s.own i
theorem NetG.setO {N : Nat} {v1 v : Value} {I : List Int} (h : NetG B w v1 vA v3 rows bs n) (hv : OwnsI w N v I) (hf : ∀ x ∈ I, Fit x) (hN : B ≤ N) (hFN : ∀ b ∈ blkL v1 ++ (bs ++ blkL vA), b < N) : NetG B w v1 vA v rows bs (n.1, n.2.1, n.2.2.1, I) := by
  have hvb : ∀ b ∈ blkL v, N ≤ b ∧ b < w.heap.size := fun b hb => hv.lt b (mem_blkL.1 hb)
  have hrow : OwnsR fInt 1 TInt1 w B v I := by unfold OwnsR; rw [flat_vI]; exact hv.lower hN
  refine ⟨h.s, h.a, gr_flat hrow (fun x hx => ⟨rfl, rfl, hf x hx⟩), h.sa, fun b hb hm => ?_, fun b hb hm => ?_, h.fit⟩
  · have h1 := (hvb b hm).1
    have h2 := hFN b (by rcases List.mem_append.1 hb with hb | hb <;> simp [hb])
    omega
  · have h1 := (hvb b hm).1
    have h2 := hFN b (by simp [hb])
    omega
end
theorem rdLow {α : Type} {P : Rd α} (g : P.Good) {T : Nat} {w w' : World} {vs : List Value} {x : α} (h : P 0 T w vs x) (hb : Below T w w') : P 0 T w' vs x :=
  g 0 T 0 T w w' vs x h (Nat.le_refl _) (Nat.le_refl _) fun b _ hb' => hb.block b hb'
set_option maxRecDepth 100000 in
set_option maxHeartbeats 25600000 in
theorem specFin_at (n : DNet) (A : List DAnd) (to : List Int) (us : List Value) (v1 vA v3 tv : Value) (rows : List V3) (bs : List Nat) (B : Nat) (w : World) (hBw : B ≤ w.heap.size) (ho : NetG B w v1 vA v3 rows bs (n.1, (emptyN n).2.1, A, [])) (h : rdNet 0 B w us n) (ht : OwnsI w B tv to) (hdj : ∀ b, tv.ownBlock = some b → b ∉ blkL v1 ++ bs)
    (hP : NetP n) (hbd : ∀ x ∈ to, 0 ≤ x ∧ x ≤ 1000) (hroot : ∀ r ∈ rootsL n, ∃ p : Nat, r = (p : Int) ∧ p / 2 < to.length) {m : DNet} (hm : sweepO (rootsTo n A to) = m) :
    Calls Try.prog 84 #[.agg #[.int .i64 n.1, v1, vA, v3], .agg us.toArray, tv] w fun e w' => ∃ u1 uA u3 rows' bs', e = .returned (.agg #[.int .i64 m.1, u1, uA, u3]) ∧ NetG w.heap.size w' u1 uA u3 rows' bs' m ∧ Below B w w' := by
  have hEL : (emptyN n).2.1.length = n.2.1.length := by simp [emptyN]
  obtain ⟨A1, c1, rfl⟩ := ho.s.cap fV3_len
  obtain ⟨A2, c2, rfl⟩ := ho.a.cap fAnd_len
  obtain ⟨A3, c3, rfl⟩ := ho.o.cap fInt_len
  obtain ⟨tA, tc, rfl, -⟩ := ht.shape
  dsimp only at ho hdj ⊢
  rw [hEL] at ho hdj ⊢
  have HRL := Lib.hid (show rows.length = n.2.1.length from ho.s.len.trans hEL)
  have HD := Lib.hid h
  have HN := Lib.hid (show NetG B w (.slice A1 n.2.1.length c1) (.slice A2 A.length c2) (.slice A3 0 c3) rows bs (n.1, mapK n.2.1 to 0, A, []) by rw [mapK_zero]; exact ho)
  have HT := Lib.hid ht
  have HDJ := Lib.hid hdj
  have HP := Lib.hid hP
  have HXR := Lib.hid hm
  have HV1 := Lib.hid (show ∀ b ∈ blkL (.slice A1 n.2.1.length c1), b < w.heap.size ∧ B ≤ b from fun b hb => ho.lt (b := b) (by simp [hb]))
  have HVA := Lib.hid (show ∀ b ∈ blkL (.slice A2 A.length c2) ++ blkL (.slice A3 0 c3), b < w.heap.size from fun b hb => (ho.lt (b := b) (by rcases List.mem_append.1 hb with hb | hb <;> simp [hb])).1)
  have HBS := Lib.hid (show ∀ b ∈ bs, b < w.heap.size ∨ w.heap.size + 3 ≤ b from fun b hb => .inl (ho.lt (b := b) (by simp [hb])).1)
  have HKF := Lib.hid (show ∀ x ∈ to, Fit x from fun x hx => by have := hbd x hx; unfold Fit; omega)
  have HPOS := Lib.hid (show ∀ x ∈ to, 0 ≤ x from fun x hx => (hbd x hx).1)
  have HKB := Lib.hid (show ∀ x ∈ to, -1 ≤ x ∧ x ≤ 10000 from fun x hx => ⟨by have := (hbd x hx).1; omega, by have := (hbd x hx).2; omega⟩)
  have HMF := Lib.hid (show ∀ l : Int, Fit (mapI to l) from fun l => by have := mapI_bd (l := l) HKB.out; unfold Fit; omega)
  have HROOT := Lib.hid hroot
  have o16 := hP.sz.o16
  have s12 := hP.sz.s12
  clear ho ht hdj hP hm hbd hroot hEL
  obtain ⟨mu0, mu1, mu2, mu3, rfl, mh0, mh1, mh2, mh3⟩ := h
  obtain ⟨me0, -⟩ := mh0
  injection me0 with me0
  subst me0
  obtain ⟨mA1, mc1, me1, mm1, -⟩ := slice_of mh1
  subst me1
  have mR1 := Lib.hid mh1
  clear mh1
  obtain ⟨mA2, mc2, me2, mm2, -⟩ := slice_of mh2
  subst me2
  have mR2 := Lib.hid mh2
  clear mh2
  obtain ⟨mA3, mc3, me3, mm3, -⟩ := slice_of mh3
  subst me3
  have mR3 := Lib.hid mh3
  clear mh3
  go_enter Try.func84, Try.ntmps84
  go_wp2_with fail
  obtain ⟨W0, hV⟩ : ∃ W0, W0 = (((w.alloc (.cells #[.int .i64 n.1, .slice A1 n.2.1.length c1, .slice A2 A.length c2, .slice A3 0 c3] 36)).alloc (.cells #[.int .i64 n.1, .slice mA1 (n.2.1).length mc1, .slice mA2 (n.2.2.1).length mc2, .slice mA3 (n.2.2.2).length mc3] 36)).alloc (.cells #[.int .i64 0, .slice none 0 0, .slice none 0 0, .slice none 0 0] 36)) := ⟨_, rfl⟩
  rw [← hV]
  have gN := eqbox3 hV
  have HBX := Lib.hid (show BoxN W0 w.heap.size (.int .i64 n.1) (.slice A1 n.2.1.length c1) (.slice A2 A.length c2) (.slice A3 0 c3) from gN.1)
  have d0 : W0.cell? ⟨w.heap.size + 1, 0, none⟩ = some (.int .i64 n.1) := box_cell gN.2.1 0 _ rfl
  have d1 : W0.cell? ⟨w.heap.size + 1, 1, none⟩ = some (.slice mA1 (n.2.1).length mc1) := box_cell gN.2.1 1 _ rfl
  have d2 : W0.cell? ⟨w.heap.size + 1, 2, none⟩ = some (.slice mA2 (n.2.2.1).length mc2) := box_cell gN.2.1 2 _ rfl
  have d3 : W0.cell? ⟨w.heap.size + 1, 3, none⟩ = some (.slice mA3 (n.2.2.2).length mc3) := box_cell gN.2.1 3 _ rfl
  have HRES := Lib.hid (show BoxN W0 (w.heap.size + 1 + 1) (.int .i64 0) vNil vNil vNil from gN.2.2.1)
  have hb0 : Below w.heap.size w W0 := gN.2.2.2
  have HBL := Lib.hid (show Below B w W0 from hb0.mono hBw)
  have hs0 : w.heap.size + 3 ≤ W0.heap.size := by have := HRES.out.lt; omega
  replace HN := Lib.hid (HN.out.below hb0)
  replace HT := Lib.hid (HT.out.below hb0)
  have HD13 := Lib.hid (And.intro d1 d3)
  clear hV gN hb0 d0 d1 d2 d3
  go_loopw [7] (fun z wr => ∃ (j : Nat) (rows : List V3) (bs : List Nat), j ≤ n.2.1.length ∧ z = .int .i64 (j : Int) ∧ rows.length = n.2.1.length ∧ NetG B wr (.slice A1 n.2.1.length c1) (.slice A2 A.length c2) (.slice A3 0 c3) rows bs (n.1, mapK n.2.1 to j, A, []) ∧ (∀ b, (Value.slice tA to.length tc).ownBlock = some b → b ∉ blkL (.slice A1 n.2.1.length c1) ++ bs) ∧ (∀ b ∈ bs, b < w.heap.size ∨ w.heap.size + 3 ≤ b) ∧ OwnsI wr B (.slice tA to.length tc) to ∧ BoxN wr w.heap.size (.int .i64 n.1) (.slice A1 n.2.1.length c1) (.slice A2 A.length c2) (.slice A3 0 c3) ∧ BoxN wr (w.heap.size + 1 + 1) (.int .i64 0) vNil vNil vNil ∧ wr.cell? ⟨w.heap.size + 1, 1, none⟩ = some (.slice mA1 (n.2.1).length mc1) ∧ wr.cell? ⟨w.heap.size + 1, 3, none⟩ = some (.slice mA3 (n.2.2.2).length mc3) ∧ w.heap.size + 3 ≤ wr.heap.size ∧ Below B w wr) (fun z _ => n.2.1.length - (intOf z).toNat)
  case atStart => exact ⟨0, rows, bs, Nat.zero_le _, rfl, HRL.out, HN.out, HDJ.out, HBS.out, HT.out, HBX.out, HRES.out, HD13.out.1, HD13.out.2, hs0, HBL.out⟩
  case round =>
    obtain ⟨j, rows, bs, hj, rfl, hrl, hcp, hdj, hbs, hto, hbx, hrs, d1, d3, hs3, hb⟩ := hrel
    obtain ⟨w3, rfl⟩ : ∃ w3, w3 = wr := ⟨_, rfl⟩
    clear HN HDJ HBS HT HBX HRES HD13 HBL HRL
    have HN := Lib.hid hcp
    have HT := Lib.hid hto
    have HDJ := Lib.hid hdj
    have HBS := Lib.hid hbs
    have HRL := Lib.hid hrl
    have HBX := Lib.hid hbx
    have HRES := Lib.hid hrs
    have HBL := Lib.hid hb
    have g0 := hbx.cells.1.1
    have g1 := hbx.cells.1.2.1
    have g2 := hbx.cells.1.2.2.1
    have g3 := hbx.cells.1.2.2.2
    have gz := hbx.cells.2
    have hwB : B ≤ w3.heap.size := by omega
    clear hcp hdj hbs hto hbx hrs hb hrl
    by_cases hlt : j < n.2.1.length
    · obtain ⟨s, hs⟩ : ∃ s, n.2.1[j]? = some s := ⟨_, List.getElem?_eq_getElem hlt⟩
      have HSK := Lib.hid (mapK_at (to := to) hs)
      have HNX := Lib.hid (mapK_step (to := to) hs)
      have HS4 := Lib.hid (show s.2.2.length ≤ 16 by have := (seq_ins (HP.out.seq s (List.mem_of_getElem? hs))).1; omega)
      have HLIT := Lib.hid (show ∀ x ∈ s.2.2, ∃ p : Nat, x = (p : Int) ∧ p / 2 < to.length from fun x hx => HROOT.out x (mem_rootsS (List.mem_of_getElem? hs) hx))
      have hs16 := HS4.out
      obtain ⟨sb, sq, sA, sc, rfl, sb1, -, -, -, -, x2, sR⟩ := at_Seq (rdLow good_SeqS mR1.out HBL.out) hs
      have HSR := Lib.hid sR
      obtain ⟨gg, cc, r, xA, xc, hv1, hr, y2, hfz, hgl, hgw⟩ := HN.out.rowAt HSK.out
      rw [HRL.out] at hv1
      injection hv1 with hv1 hv2 hv3
      subst hv1 hv3
      have HRW := Lib.hid hr
      have HFZ := Lib.hid hfz
      have tj : (j : Int) < (n.2.1.length : Int) := by omega
      have hggw := (HV1.out gg (by simp [blkL_at])).1
      have HLT := Lib.hid (show ∀ b ∈ blkL (Value.slice (some ⟨gg, 0, none⟩) n.2.1.length c1) ++ (bs ++ (blkL (.slice A2 A.length c2) ++ blkL (.slice A3 0 c3))), b < w3.heap.size from fun b hb => (HN.out.lt hb).1)
      clear hs hr hfz hv2 sR sb1
      go_wp2_with fail
      have hS0 : (fun w' => Below w3.heap.size w3 w' ∧ w'.cell? ⟨w.heap.size, 1, none⟩ = some (.slice (some ⟨gg, 0, none⟩) n.2.1.length c1) ∧ w'.cell? ⟨w.heap.size + 1, 1, none⟩ = some (.slice (some ⟨sb, sq, none⟩) (n.2.1).length mc1) ∧ w'.cell? ⟨sb, sq + j * 3 + 2, none⟩ = some (.slice sA s.2.2.length sc)) w3 := ⟨Below.refl _ _, g1, d1, x2⟩
      have hS : ∀ {w0 w' : World}, (fun w' => Below w3.heap.size w3 w' ∧ w'.cell? ⟨w.heap.size, 1, none⟩ = some (.slice (some ⟨gg, 0, none⟩) n.2.1.length c1) ∧ w'.cell? ⟨w.heap.size + 1, 1, none⟩ = some (.slice (some ⟨sb, sq, none⟩) (n.2.1).length mc1) ∧ w'.cell? ⟨sb, sq + j * 3 + 2, none⟩ = some (.slice sA s.2.2.length sc)) w0 → Below w0.heap.size w0 w' → (fun w' => Below w3.heap.size w3 w' ∧ w'.cell? ⟨w.heap.size, 1, none⟩ = some (.slice (some ⟨gg, 0, none⟩) n.2.1.length c1) ∧ w'.cell? ⟨w.heap.size + 1, 1, none⟩ = some (.slice (some ⟨sb, sq, none⟩) (n.2.1).length mc1) ∧ w'.cell? ⟨sb, sq + j * 3 + 2, none⟩ = some (.slice sA s.2.2.length sc)) w' := fun h hb => ⟨bThen h.1 hb, keep hb h.2.1, keep hb h.2.2.1, keep hb h.2.2.2⟩
      dsimp only at hS0 hS
      refine wp_region_noPanic ?_
      refine wp_region_kept 11 14 (fun w' => Below w3.heap.size w3 w' ∧ w'.cell? ⟨w.heap.size, 1, none⟩ = some (.slice (some ⟨gg, 0, none⟩) n.2.1.length c1) ∧ w'.cell? ⟨w.heap.size + 1, 1, none⟩ = some (.slice (some ⟨sb, sq, none⟩) (n.2.1).length mc1) ∧ w'.cell? ⟨sb, sq + j * 3 + 2, none⟩ = some (.slice sA s.2.2.length sc)) (by kernel_rfl) rfl (hS hS0 (Below.drew (Below.refl _ _))) (fun hK0 => ?_)
      refine Kept.take (v := ?vv0) 0 (by kernel_rfl) rfl (by kernel_rfl) (fun _ _ _ h => h) (Or.inl ⟨by rfl, ?hyv0⟩) hK0 ?restv0
      case hyv0 =>
        intro w0 hSw
        (try dsimp only at hSw)
        go_simp
        all_goals (with_reducible rfl)
      (try simp only [Act.put, List.setIfInBounds_toArray, List.set_cons_zero, List.set_cons_succ])
      refine Kept.take (v := ?vv1) 1 (by kernel_rfl) rfl (by kernel_rfl) (fun _ _ _ h => h) (Or.inl ⟨by rfl, ?hyv1⟩) hK0 ?restv1
      case hyv1 =>
        intro w0 hSw
        (try dsimp only at hSw)
        go_simp
        all_goals (with_reducible rfl)
      (try simp only [Act.put, List.setIfInBounds_toArray, List.set_cons_zero, List.set_cons_succ])
      refine Kept.take (v := ?vv2) 2 (by kernel_rfl) rfl (by kernel_rfl) (fun _ _ _ h => h) (Or.inl ⟨by rfl, ?hyv2⟩) hK0 ?restv2
      case hyv2 =>
        intro w0 hSw
        (try dsimp only at hSw)
        go_simp
        all_goals (with_reducible rfl)
      (try simp only [Act.put, List.setIfInBounds_toArray, List.set_cons_zero, List.set_cons_succ])
      refine Kept.take (v := ?vv3) 3 (by kernel_rfl) rfl (by kernel_rfl) (fun _ _ _ h => h) (Or.inl ⟨by rfl, ?hyv3⟩) hK0 ?restv3
      case hyv3 =>
        intro w0 hSw
        (try dsimp only at hSw)
        go_simp
        all_goals (with_reducible rfl)
      (try simp only [Act.put, List.setIfInBounds_toArray, List.set_cons_zero, List.set_cons_succ])
      refine Kept.take (v := ?vv4) 4 (by kernel_rfl) rfl (by kernel_rfl) (fun _ _ _ h => h) (Or.inl ⟨by rfl, ?hyv4⟩) hK0 ?restv4
      case hyv4 =>
        intro w0 hSw
        (try dsimp only at hSw)
        go_simp
        all_goals (with_reducible rfl)
      (try simp only [Act.put, List.setIfInBounds_toArray, List.set_cons_zero, List.set_cons_succ])
      refine Kept.take (v := ?vv5) 5 (by kernel_rfl) rfl (by kernel_rfl) (fun _ _ _ h => h) (Or.inl ⟨by rfl, ?hyv5⟩) hK0 ?restv5
      case hyv5 =>
        intro w0 hSw
        (try dsimp only at hSw)
        go_simp
        all_goals (with_reducible rfl)
      (try simp only [Act.put, List.setIfInBounds_toArray, List.set_cons_zero, List.set_cons_succ])
      refine Kept.take (v := ?vv6) 6 (by kernel_rfl) rfl (by kernel_rfl) (fun _ _ _ h => h) (Or.inl ⟨by rfl, ?hyv6⟩) hK0 ?restv6
      case hyv6 =>
        intro w0 hSw
        (try dsimp only at hSw)
        go_simp
        all_goals (with_reducible rfl)
      (try simp only [Act.put, List.setIfInBounds_toArray, List.set_cons_zero, List.set_cons_succ])
      refine Kept.take (v := ?vv7) 7 (by kernel_rfl) rfl (by kernel_rfl) (fun _ _ _ h => h) (Or.inl ⟨by rfl, ?hyv7⟩) hK0 ?restv7
      case hyv7 =>
        intro w0 hSw
        (try dsimp only at hSw)
        go_simp
        all_goals (with_reducible rfl)
      (try simp only [Act.put, List.setIfInBounds_toArray, List.set_cons_zero, List.set_cons_succ])
      refine Kept.take (v := ?vv8) 8 (by kernel_rfl) rfl (by kernel_rfl) (fun _ _ _ h => h) (Or.inl ⟨by rfl, ?hyv8⟩) hK0 ?restv8
      case hyv8 =>
        intro w0 hSw
        (try dsimp only at hSw)
        go_simp
        all_goals (with_reducible rfl)
      (try simp only [Act.put, List.setIfInBounds_toArray, List.set_cons_zero, List.set_cons_succ])
      refine Kept.take (v := ?vv9) 9 (by kernel_rfl) rfl (by kernel_rfl) (fun _ _ _ h => h) (Or.inl ⟨by rfl, ?hyv9⟩) hK0 ?restv9
      case hyv9 =>
        intro w0 hSw
        (try dsimp only at hSw)
        go_simp
        all_goals (with_reducible rfl)
      (try simp only [Act.put, List.setIfInBounds_toArray, List.set_cons_zero, List.set_cons_succ])
      refine Kept.one 10 (by kernel_rfl) rfl (fun K hK => ?_)
      go_simp
      go_at_call 95
      refine (specMap_at to s.2.2 _ _ _ (ownI_rd (HT.out.below hK0.1) HKF.out) (good_IntS.wider (good_IntS.below HSR.out hwB hK0.1) (Nat.le_refl _) (Nat.le_trans hwB hK0.1.size)) HLIT.out HPOS.out (by omega)).mono ?_
      rintro e w8 ⟨vx, rfl, hox, hb8⟩
      obtain ⟨oA, oc, exx, -⟩ := hox.shape
      rw [List.length_map] at exx
      subst exx
      have HOX := Lib.hid (show OwnsI w8 w3.heap.size (.slice oA s.2.2.length oc) (s.2.2.map (mapI to)) from hox)
      clear hox
      go_simp
      refine hK.out _ _ (hS hK0 hb8) (fun hK1 => ?_)
      clear hK K hK0
      (try simp only [Act.put, List.setIfInBounds_toArray, List.set_cons_zero, List.set_cons_succ])
      refine Kept.tail (by rfl) (by kernel_rfl) ?_
      simp only [List.drop_succ_cons, List.drop_zero]
      have HB38 := Lib.hid hK1.1
      have y3 := keep HB38.out y2
      have yz : w8.frozen? ⟨gg, j * 3 + 2, none⟩ = false := (World.frozen?_of_block (HB38.out.block gg hgl)).trans (HFZ.out _)
      have HN5 := Lib.hid (HN.out.below HB38.out)
      have HT5 := Lib.hid (HT.out.below HB38.out)
      have HBX5 := Lib.hid (HBX.out.at (HB38.out.block _ HBX.out.lt))
      have HRES5 := Lib.hid (HRES.out.at (HB38.out.block _ HRES.out.lt))
      have e1 := keep HB38.out d1
      have e3 := keep HB38.out d3
      have hs38 := HB38.out.size
      clear hK1 hS hS0 g0 g1 g2 g3 gz d1 d3 x2 y2
      go_wp2
      refine NoPanic.normal ?_
      obtain ⟨bs', rows', hc6, hl6, hb6⟩ := NetG.setIn (N := w3.heap.size) (by rw [← HRL.out] at HN5; exact HN5.out) (by rw [HRL.out]; exact hlt) HRW.out HSK.out HOX.out (fun x hx => by obtain ⟨z, -, rfl⟩ := List.mem_map.1 hx; exact HMF.out z) hwB (fun b hb => HLT.out b (by rw [HRL.out] at hb; exact hb))
      rw [HRL.out] at hc6 hl6
      have HC6 := Lib.hid hc6
      have HL6 := Lib.hid hl6
      have keepg : ∀ b, b ≠ gg → (w8.setCell ⟨gg, j * 3 + 2, none⟩ (.slice oA s.2.2.length oc)).heap[b]? = w8.heap[b]? := fun b hb => Below.heap_setCell w8 _ _ b (by intro e; exact hb e)
      have HT6 := Lib.hid (ownI_far (g := gg) (k := j * 3 + 2) (u := .slice oA s.2.2.length oc) HT5.out (fun e => HDJ.out gg e (by simp [blkL_at])))
      have HD6 := Lib.hid (show ∀ b, (Value.slice tA to.length tc).ownBlock = some b → b ∉ blkL (Value.slice (some ⟨gg, 0, none⟩) n.2.1.length c1) ++ bs' from fun b e hm => by
        rcases List.mem_append.1 hm with hm | hm
        · exact HDJ.out b e (List.mem_append.2 (.inl hm))
        · rcases hb6 b hm with hm | hm
          · exact HDJ.out b e (List.mem_append.2 (.inr hm))
          · have := (HT.out.lt b e).2; omega)
      have HS6 := Lib.hid (show ∀ b ∈ bs', b < w.heap.size ∨ w.heap.size + 3 ≤ b from fun b hm => by
        rcases hb6 b hm with hm | hm
        · exact HBS.out b hm
        · exact .inr (by omega))
      have HX6 := Lib.hid (HBX5.out.at (keepg w.heap.size (by omega)))
      have HR6 := Lib.hid (HRES5.out.at (keepg (w.heap.size + 1 + 1) (by omega)))
      have HE6 := Lib.hid (And.intro ((World.cell?_of_block (a := ⟨w.heap.size + 1, 1, none⟩) (keepg (w.heap.size + 1) (by omega))).trans e1) ((World.cell?_of_block (a := ⟨w.heap.size + 1, 3, none⟩) (keepg (w.heap.size + 1) (by omega))).trans e3))
      have HB6 := Lib.hid (bSet (HBL.out.trans (HB38.out.mono hwB)) (p := ⟨gg, j * 3 + 2, none⟩) hgw (.slice oA s.2.2.length oc))
      have HZ6 := Lib.hid (show w.heap.size + 3 ≤ (w8.setCell ⟨gg, j * 3 + 2, none⟩ (.slice oA s.2.2.length oc)).heap.size by rw [World.size_setCell]; omega)
      clear hc6 hl6 hb6 y3 yz e1 e3 keepg
      go_wp2
      go_roundw
      case rel => exact ⟨j + 1, rows', bs', by omega, by go_num, HL6.out, by rw [HNX.out]; exact HC6.out, HD6.out, HS6.out, HT6.out, HX6.out, HR6.out, HE6.out.1, HE6.out.2, HZ6.out, HB6.out⟩
      case measure => simp [intOf] <;> omega
    · obtain rfl : n.2.1.length = j := by omega
      rw [mapK_all] at HN
      have HOL := Lib.hid (show ∀ x ∈ n.2.2.2, ∃ p : Nat, x = (p : Int) ∧ p / 2 < to.length from fun x hx => HROOT.out x (mem_rootsO hx))
      clear hlt
      go_wp2_with fail
      refine (specMap_at to n.2.2.2 _ _ _ (ownI_rd HT.out HKF.out) (good_IntS.wider (rdLow good_IntS mR3.out HBL.out) (Nat.le_refl _) hwB) HOL.out HPOS.out (by omega)).mono ?_
      rintro e w8 ⟨vo, rfl, hoo, hb8⟩
      obtain ⟨oA, oc, exx, -⟩ := hoo.shape
      rw [List.length_map] at exx
      subst exx
      have hN8 := HN.out.below hb8
      have hN9 := hN8.setO hoo (fun x hx => by obtain ⟨z, -, rfl⟩ := List.mem_map.1 hx; exact HMF.out z) hwB (fun b hb => (HN.out.lt (b := b) (by simp only [List.mem_append] at hb ⊢; rcases hb with h1 | h1 | h1 <;> simp [h1])).1)
      have hX8 := HBX.out.at (hb8.block _ HBX.out.lt)
      have y3 := hX8.cells.1.2.2.2
      have yz := hX8.cells.2
      have hX9 := hX8.set3 (.slice oA n.2.2.2.length oc)
      have HOFF := Lib.hid (show ∀ b ∈ blkL (.slice A1 n.2.1.length c1) ++ (bs ++ (blkL (.slice A2 A.length c2) ++ blkL (Value.slice oA n.2.2.2.length oc))), b ≠ w.heap.size from fun b hb e => by
        subst e
        rcases List.mem_append.1 hb with hb | hb
        · have := (HV1.out _ hb).1; omega
        rcases List.mem_append.1 hb with hb | hb
        · have := HBS.out _ hb; omega
        rcases List.mem_append.1 hb with hb | hb
        · have := HVA.out _ (List.mem_append.2 (.inl hb)); omega
        · have := (hoo.lt _ (mem_blkL.1 hb)).1; omega)
      have keep3 : ∀ b, b ≠ w.heap.size → (w8.setCell ⟨w.heap.size, 3, none⟩ (.slice oA n.2.2.2.length oc)).heap[b]? = w8.heap[b]? := fun b hb => Below.heap_setCell w8 _ _ b (by intro e; exact hb e)
      have HN9 := Lib.hid (show NetG B (w8.setCell ⟨w.heap.size, 3, none⟩ (.slice oA n.2.2.2.length oc)) (.slice A1 n.2.1.length c1) (.slice A2 A.length c2) (.slice oA n.2.2.2.length oc) rows bs (rootsTo n A to) from hN9.at fun b _ _ h3 => keep3 b (HOFF.out b h3))
      have HRES9 := Lib.hid ((HRES.out.at (hb8.block _ HRES.out.lt)).at (keep3 (w.heap.size + 1 + 1) (by omega)))
      have HB9 := Lib.hid (bSet (HBL.out.trans (hb8.mono hwB)) (p := ⟨w.heap.size, 3, none⟩) hBw (.slice oA n.2.2.2.length oc))
      have k0 := hX9.cells.1.1
      have k1 := hX9.cells.1.2.1
      have k2 := hX9.cells.1.2.2.1
      have k3 := hX9.cells.1.2.2.2
      have hs8 := hb8.size
      have hsz9 := World.size_setCell w8 ⟨w.heap.size, 3, none⟩ (.slice oA n.2.2.2.length oc)
      clear hb8 hoo hN8 hN9 hX8 hX9 keep3 d1 d3 g0 g1 g2 g3 gz
      go_wp2_with fail
      obtain ⟨w9, hw9⟩ : ∃ x, x = w8.setCell ⟨w.heap.size, 3, none⟩ (.slice oA n.2.2.2.length oc) := ⟨_, rfl⟩
      rw [← hw9] at HN9 HRES9 HB9 hsz9 ⊢
      clear hw9 k0 k1 k2 k3 y3 yz
      refine (specSweep_at (rootsTo n A to) [.int .i64 n.1, .slice A1 n.2.1.length c1, .slice A2 A.length c2, .slice oA n.2.2.2.length oc] _ HN9.out.rd0 HXR.out).mono ?_
      rintro e w6 ⟨u1, uA, u3, rows6, bs6, rfl, hnet, hb6⟩
      obtain ⟨B1, q1, rfl⟩ := hnet.s.cap fV3_len
      obtain ⟨B2, q2, rfl⟩ := hnet.a.cap fAnd_len
      obtain ⟨B3, q3, rfl⟩ := hnet.o.cap fInt_len
      have HNF := Lib.hid hnet
      have hs56 := hb6.size
      have HB6 := Lib.hid (HB9.out.trans (hb6.mono (by omega)))
      have hres := HRES9.out.at (hb6.block _ HRES9.out.lt)
      have f0 := hres.cells.1.1
      have f1 := hres.cells.1.2.1
      have f2 := hres.cells.1.2.2.1
      have f3 := hres.cells.1.2.2.2
      have fz := hres.cells.2
      clear hnet hb6 hres
      go_wp2
      ((try simp only [Exit.inBlock, Exit.then]); refine bodyPost_ret (v := (.agg #[.int .i64 m.1, .slice B1 m.2.1.length q1, .slice B2 m.2.2.1.length q2, .slice B3 m.2.2.2.length q3])) (by rw [results_cell1 rfl]; go_simp) rfl ?_)
      have hBF : B ≤ w.heap.size + 1 + 1 := by omega
      have P1 := (HNF.out.at (w' := ((((w6.setCell ⟨w.heap.size + 1 + 1, 0, none⟩ (.int .i64 m.1)).setCell ⟨w.heap.size + 1 + 1, 1, none⟩ (.slice B1 m.2.1.length q1)).setCell ⟨w.heap.size + 1 + 1, 2, none⟩ (.slice B2 m.2.2.1.length q2)).setCell ⟨w.heap.size + 1 + 1, 3, none⟩ (.slice B3 m.2.2.2.length q3))) fun b h1 h2 h3 => far4 (by omega)).lower (B' := w.heap.size) (by omega)
      have P2 := bSet (bSet (bSet (bSet HB6.out (p := ⟨w.heap.size + 1 + 1, 0, none⟩) hBF (.int .i64 m.1)) (p := ⟨w.heap.size + 1 + 1, 1, none⟩) hBF (.slice B1 m.2.1.length q1)) (p := ⟨w.heap.size + 1 + 1, 2, none⟩) hBF (.slice B2 m.2.2.1.length q2)) (p := ⟨w.heap.size + 1 + 1, 3, none⟩) hBF (.slice B3 m.2.2.2.length q3)
      first | exact ⟨_, _, _, rows6, bs6, rfl, P1, P2⟩ | exact ⟨_, _, _, rfl, rows6, bs6, P1, P2⟩ | exact ⟨_, _, _, rfl, ⟨rows6, bs6, P1⟩, P2⟩
end Go.Proofs.Ytedamhkcblemdaa
