/-
  Sweep: the program.
-/
import Derived.Test.YtedamhkcblemdaaHiK
import Derived.Test.YtedamhkcblemdaaNeC
import Derived.Deep.RegionHeld3
namespace Go.Proofs.Ytedamhkcblemdaa
open Go.RowKit
set_option linter.unusedVariables false
set_option linter.unusedSimpArgs false

theorem reach_len {n : DNet} (hP : NetP n) : (reachO n).length = netN n := by
  unfold reachO
  rw [if_pos (netB_of hP)]
  unfold markL
  rw [markK_len, seenL_len]
theorem zeroG (B : Nat) (w : World) : NetG B w (.slice none 0 0) (.slice none 0 0) (.slice none 0 0) [] [] zeroN :=
  ⟨GrR.nil _ _ _ _ _ _, GrR.nil _ _ _ _ _ _, GrR.nil _ _ _ _ _ _, (fun b hb hm => by simp [blkL_nil] at hm), (fun b hb hm => by simp [blkL_nil] at hm), (fun b hb hm => by simp [blkL_nil] at hm), by unfold zeroN Fit; omega⟩
theorem sweepI_len1 {n : DNet} {keep : List Bool} : ∀ k, (sweepI n keep k).1.length ≤ k
  | 0 => Nat.le_refl _
  | k + 1 => by
    have ih := sweepI_len1 (n := n) (keep := keep) k
    unfold sweepI
    split
    · omega
    · split
      · simp; omega
      · dsimp only; omega
theorem mapI_bd {to : List Int} {l : Int} (h : ∀ x ∈ to, -1 ≤ x ∧ x ≤ 10000) : -2 ≤ mapI to l ∧ mapI to l ≤ 10001 := by
  have h2 : -1 ≤ to.getD (l.toNat / 2) 0 ∧ to.getD (l.toNat / 2) 0 ≤ 10000 := by
    rw [List.getD_eq_getElem?_getD]
    cases hx : to[l.toNat / 2]? with
    | none => simp
    | some x => exact h x (List.mem_of_getElem? hx)
  unfold mapI notI
  split
  · omega
  · split
    · omega
    · split <;> omega
theorem sweepI_bd {n : DNet} {keep : List Bool} (hP : NetP n) : ∀ k, k ≤ n.2.2.1.length → ∀ x ∈ (sweepI n keep k).2, -1 ≤ x ∧ x ≤ 10000
  | 0, _ => fun x hx => by
    obtain ⟨j, hj, rfl⟩ := List.mem_map.1 (show x ∈ (List.range (firN n)).map fun k : Nat => 2 * (k : Int) from hx)
    have h1 := List.mem_range.1 hj
    have := hP.sz.fir_le
    have := hP.sz.i20
    have := hP.sz.s12
    unfold firN at h1
    omega
  | k + 1, hk => fun x hx => by
    have ih := sweepI_bd (keep := keep) hP k (by omega)
    have hl := sweepI_len1 (n := n) (keep := keep) k
    have h33 : firN n ≤ 33 := by have := hP.sz.i20; have := hP.sz.s12; unfold firN; omega
    have a300 := hP.sz.a300
    obtain ⟨a, ha⟩ : ∃ a, n.2.2.1[k]? = some a := ⟨_, List.getElem?_eq_getElem (by omega)⟩
    cases hkp : keep.getD (firN n + k) false with
    | true =>
      rw [sweepI_yes ha hkp] at hx
      rcases List.mem_append.1 hx with hx | hx
      · exact ih x hx
      · simp only [List.mem_cons, List.not_mem_nil, or_false] at hx; omega
    | false =>
      rw [sweepI_no ha hkp] at hx
      rcases List.mem_append.1 hx with hx | hx
      · exact ih x hx
      · simp only [List.mem_cons, List.not_mem_nil, or_false] at hx; omega
theorem sweepI_fitA {n : DNet} {keep : List Bool} (hP : NetP n) : ∀ k, k ≤ n.2.2.1.length → ∀ x ∈ (sweepI n keep k).1, FitA x
  | 0, _ => fun x hx => by cases hx
  | k + 1, hk => fun x hx => by
    have ih := sweepI_fitA (keep := keep) hP k (by omega)
    have hbd := sweepI_bd (keep := keep) hP (k + 1) hk
    obtain ⟨a, ha⟩ : ∃ a, n.2.2.1[k]? = some a := ⟨_, List.getElem?_eq_getElem (by omega)⟩
    cases hkp : keep.getD (firN n + k) false with
    | true =>
      rw [sweepI_yes ha hkp] at hx hbd
      rcases List.mem_append.1 hx with hx | hx
      · exact ih x hx
      · simp only [List.mem_cons, List.not_mem_nil, or_false] at hx
        subst hx
        dsimp only at hbd
        have h1 := mapI_bd (l := a.1) hbd
        have h2 := mapI_bd (l := a.2) hbd
        exact ⟨by unfold Fit; dsimp only; omega, by unfold Fit; dsimp only; omega⟩
    | false =>
      rw [sweepI_no ha hkp] at hx
      exact ih x hx
theorem sweepI_lit {n : DNet} {keep : List Bool} (hP : NetP n) (hC : Closed n keep) {k j : Nat} (hk : k ≤ n.2.2.1.length) (hj : j < firN n + k) (hl : Live n keep j) : ∃ z : Nat, (sweepI n keep k).2[j]? = some (z : Int) := by
  obtain ⟨_, i2, i3⟩ := sweepI_same hP hC k hk
  obtain ⟨z, hz, _⟩ := (sinv_all hP hC k hk).lit j hj hl
  have e := i3 j hj hl
  rw [List.getD_eq_getElem?_getD, List.getD_eq_getElem?_getD, hz, List.getElem?_eq_getElem (by omega)] at e
  refine ⟨2 * z, ?_⟩
  rw [List.getElem?_eq_getElem (by omega)]
  exact congrArg some e
theorem sweepI_maps {n : DNet} (hP : NetP n) : ∀ r ∈ rootsL n, ∃ p t : Nat, r = (p : Int) ∧ (sweepI n (reachO n) n.2.2.1.length).2[p / 2]? = some (t : Int) := fun r hr => by
  obtain ⟨l, rfl, hl⟩ := hP.root r hr
  obtain ⟨z, hz⟩ := sweepI_lit hP (reach_closed hP) (Nat.le_refl _) hl (.inr ((reach_closed hP).root l hr))
  exact ⟨l, z, rfl, hz⟩
set_option maxRecDepth 100000 in
set_option maxHeartbeats 12800000 in
theorem implSweep_at (n : DNet) (us : List Value) (w : World) (h : rdNet 0 w.heap.size w us n) {m : DNet} (hL : sweepO n = m) :
    Calls Try.prog 31 #[.agg us.toArray] w fun e w' => ∃ v1 vA v3 rows bs, e = .returned (.agg #[.int .i64 m.1, v1, vA, v3]) ∧ NetG w.heap.size w' v1 vA v3 rows bs m ∧ Below w.heap.size w w' := by
  obtain ⟨i0, hi, hz0, hz1, hz2⟩ := info_parts infoI
  obtain ⟨iA, hiA, hzA0, hzA1, hzA2⟩ := info_parts infoA1
  have HD := Lib.hid h
  have HX := Lib.hid hL
  obtain ⟨f, hf⟩ : ∃ f, netB n = f := ⟨_, rfl⟩
  have HF := Lib.hid hf
  clear hL hf
  obtain ⟨mu0, mu1, mu2, mu3, rfl, mh0, mh1, mh2, mh3⟩ := h
  obtain ⟨me0, -⟩ := mh0
  injection me0 with me0
  subst me0
  obtain ⟨mA1, mc1, me1, mm1, -⟩ := slice_of mh1
  subst me1
  have mR1 := Lib.hid mh1
  clear mh1
  obtain ⟨mA2, mc2, me2, mm2, -⟩ := slice_of mh2
  subst me2
  have mR2 := Lib.hid mh2
  clear mh2
  obtain ⟨mA3, mc3, me3, mm3, -⟩ := slice_of mh3
  subst me3
  have mR3 := Lib.hid mh3
  clear mh3
  go_enter Try.func31, Try.ntmps31
  go_wp2_with fail
  obtain ⟨W0, hV⟩ : ∃ W0, W0 = ((w.alloc (.cells #[.int .i64 n.1, .slice mA1 (n.2.1).length mc1, .slice mA2 (n.2.2.1).length mc2, .slice mA3 (n.2.2.2).length mc3] 36)).alloc (.cells #[.int .i64 0, .slice none 0 0, .slice none 0 0, .slice none 0 0] 36)) := ⟨_, rfl⟩
  rw [← hV]
  have gN := eqbox2 hV
  have d0 : W0.cell? ⟨w.heap.size, 0, none⟩ = some (.int .i64 n.1) := box_cell gN.1 0 _ rfl
  have d1 : W0.cell? ⟨w.heap.size, 1, none⟩ = some (.slice mA1 (n.2.1).length mc1) := box_cell gN.1 1 _ rfl
  have d2 : W0.cell? ⟨w.heap.size, 2, none⟩ = some (.slice mA2 (n.2.2.1).length mc2) := box_cell gN.1 2 _ rfl
  have d3 : W0.cell? ⟨w.heap.size, 3, none⟩ = some (.slice mA3 (n.2.2.2).length mc3) := box_cell gN.1 3 _ rfl
  have HB := Lib.hid gN.2.2
  have HRES := Lib.hid (show BoxN W0 (w.heap.size + 1) (.int .i64 0) vNil vNil vNil from gN.2.1)
  clear hV gN
  refine (implNetOk_at n _ _ (rdUp good_Net HD.out HB.out) HF.out).mono ?_
  rintro e w1 ⟨rfl, hb⟩
  replace d0 := keep hb d0
  replace d1 := keep hb d1
  replace d2 := keep hb d2
  replace d3 := keep hb d3
  replace HB := Lib.hid (bThen HB.out hb)
  replace HRES := Lib.hid (HRES.out.at (hb.block _ HRES.out.lt))
  clear hb
  cases f with
  | false =>
    obtain rfl : zeroN = m := (show sweepO n = zeroN by unfold sweepO; rw [if_neg (by rw [HF.out]; decide)]).symm.trans HX.out
    have f0 := HRES.out.cells.1.1
    have f1 := HRES.out.cells.1.2.1
    have f2 := HRES.out.cells.1.2.2.1
    have f3 := HRES.out.cells.1.2.2.2
    have fz := HRES.out.cells.2
    go_wp2
    ((try simp only [Exit.inBlock, Exit.then]); refine bodyPost_ret (v := (.agg #[.int .i64 0, .slice none 0 0, .slice none 0 0, .slice none 0 0])) (by rw [results_cell1 rfl]; go_simp) rfl ?_)
    have P2 := bSet (bSet (bSet (bSet HB.out (p := ⟨w.heap.size + 1, 0, none⟩) (Nat.le_succ _) (.int .i64 0)) (p := ⟨w.heap.size + 1, 1, none⟩) (Nat.le_succ _) (.slice none 0 0)) (p := ⟨w.heap.size + 1, 2, none⟩) (Nat.le_succ _) (.slice none 0 0)) (p := ⟨w.heap.size + 1, 3, none⟩) (Nat.le_succ _) (.slice none 0 0)
    exact ⟨_, _, _, [], [], rfl, zeroG _ _, P2⟩
  | true =>
    have hP := netP_of HF.out
    have HP := Lib.hid hP
    have a300 := hP.sz.a300
    have h33 : firN n ≤ 33 := by have := hP.sz.i20; have := hP.sz.s12; unfold firN; omega
    obtain ⟨R, hR⟩ : ∃ R, reachO n = R := ⟨_, rfl⟩
    have HR := Lib.hid hR
    have HRL := Lib.hid (show R.length = firN n + n.2.2.1.length by rw [← hR]; exact reach_len hP)
    have HCL := Lib.hid (show Closed n R by rw [← hR]; exact reach_closed hP)
    clear hP hR
    go_wp2_with fail
    refine (implReach_at n _ _ (rdUp good_Net HD.out HB.out) HR.out).mono ?_
    rintro e w2 ⟨vr, rfl, hor, hb⟩
    replace d0 := keep hb d0
    replace d1 := keep hb d1
    replace d2 := keep hb d2
    replace d3 := keep hb d3
    replace HB := Lib.hid (bThen HB.out hb)
    replace HRES := Lib.hid (HRES.out.at (hb.block _ HRES.out.lt))
    obtain ⟨rA, rc, rfl, hrs⟩ := OwnsR.shape fB_len hor
    have HRS := Lib.hid hrs
    clear hb hor hrs
    go_wp2_with fail
    refine (leaf_at n _ _ (rdUp good_Net HD.out HB.out) HP.out.sz).mono ?_
    rintro e w3 ⟨vc, rfl, hoc, hb⟩
    have HE := Lib.hid (And.intro d0 (And.intro d1 (And.intro d2 d3)))
    replace d0 := keep hb d0
    replace d1 := keep hb d1
    replace d2 := keep hb d2
    replace d3 := keep hb d3
    have HC := Lib.hid (show OwnsI w3 w2.heap.size vc (sweepI n R 0).2 from hoc)
    have HB0 := Lib.hid hb
    have HA := Lib.hid (show OwnsR fAnd 2 67 w3 w2.heap.size (.slice none 0 0) (sweepI n R 0).1 from ownR_nil _ _ _ _ _)
    obtain ⟨cA, cc, rfl, -⟩ := hoc.shape
    have hFw := HRES.out.lt
    have hw2 := HB.out.size
    clear hb hoc
    go_wp2
    clear d0 d1 d2 d3
    go_loopw [4, 5, 19] (fun s t z wr => ∃ (k : Nat) (A : Option Addr) (c : Nat) (B : Option Addr) (d : Nat), k ≤ n.2.2.1.length ∧ z = .int .i64 (k : Int) ∧ s = .slice A (sweepI n R k).1.length c ∧ t = .slice B (sweepI n R k).2.length d ∧ OwnsR fAnd 2 67 wr w2.heap.size (.slice A (sweepI n R k).1.length c) (sweepI n R k).1 ∧ OwnsI wr w2.heap.size (.slice B (sweepI n R k).2.length d) (sweepI n R k).2 ∧ (∀ b, (Value.slice A (sweepI n R k).1.length c).ownBlock = some b → (Value.slice B (sweepI n R k).2.length d).ownBlock ≠ some b) ∧ Below w2.heap.size w2 wr) (fun _ _ z _ => n.2.2.1.length - (intOf z).toNat)
    case atStart => exact ⟨0, none, 0, cA, cc, Nat.zero_le _, rfl, rfl, rfl, HA.out, HC.out, fun b e => (by cases e), HB0.out⟩
    case round =>
      obtain ⟨k, A, c, B, d, hk, rfl, rfl, rfl, hA, hC, hne, hb⟩ := hrel
      obtain ⟨w3, rfl⟩ : ∃ w3, w3 = wr := ⟨_, rfl⟩
      clear HA HC HB0
      have HA := Lib.hid hA
      have HC := Lib.hid hC
      have HNE := Lib.hid hne
      have HBL := Lib.hid hb
      have HBW := Lib.hid (bThen HB.out hb)
      have hwl := hb.size
      have hw0 : w.heap.size < w3.heap.size := by omega
      have c0 := keep hb HE.out.1
      have c1 := keep hb HE.out.2.1
      have c2 := keep hb HE.out.2.2.1
      have c3 := keep hb HE.out.2.2.2
      clear hA hC hne hb
      by_cases hlt : k < n.2.2.1.length
      · obtain ⟨a, ha⟩ : ∃ a, n.2.2.1[k]? = some a := ⟨_, List.getElem?_eq_getElem hlt⟩
        obtain ⟨p, q, rfl, hp, hq⟩ := HP.out.and_ k a ha
        obtain ⟨ab, aq, rfl, ab1, x0, xf0, x1, xf1⟩ := at_And (good_AndS.below mR2.out (Nat.le_refl _) HBW.out) ha
        have ab2 := Nat.lt_of_lt_of_le ab1 HBW.out.size
        have tk : (k : Int) < (n.2.2.1.length : Int) := by omega
        have hk3 : k ≤ 300 := by omega
        have HPQ := Lib.hid (And.intro hp hq)
        have HPF := Lib.hid (show Fit (p : Int) from xf0)
        have HQF := Lib.hid (show Fit (q : Int) from xf1)
        have HAK := Lib.hid ha
        obtain ⟨KA, hKA⟩ : ∃ KA, (sweepI n R k).1 = KA := ⟨_, rfl⟩
        obtain ⟨KL, hKL⟩ : ∃ KL, (sweepI n R k).2 = KL := ⟨_, rfl⟩
        have HKL := Lib.hid (show KL.length = firN n + k by rw [← hKL]; exact (sweepI_same HP.out HCL.out k (by omega)).2.1)
        have HKA := Lib.hid hKA
        have HKK := Lib.hid hKL
        have hla : KA.length ≤ 300 := by rw [← hKA]; exact Nat.le_trans (sweepI_len1 k) (by omega)
        have hll : KL.length ≤ 400 := by rw [HKL.out]; omega
        rw [hKA] at HA HNE
        rw [hKL] at HC HNE
        rw [hKA, hKL]
        obtain ⟨bq, hbq⟩ : ∃ bq, R.getD (firN n + k) false = bq := ⟨_, rfl⟩
        have HBQ := Lib.hid hbq
        have hrl : firN n + k < R.length := by rw [HRL.out]; omega
        obtain ⟨rb, hrb, hrc⟩ := HRS.out (firN n + k) hrl
        subst hrb
        have xr := hrc 0 _ rfl
        rw [List.getD_eq_getElem?_getD, List.getElem?_eq_getElem hrl] at hbq
        have xr1 := xr.1
        rw [Nat.mul_one, Nat.add_zero, show R[firN n + k] = bq from hbq] at xr1
        have XR := Lib.hid (keep HBL.out xr1)
        have trl : ((firN n + k : Nat) : Int) < (R.length : Int) := by omega
        clear ha hp hq xf0 xf1 ab1 hKA hKL hrc xr xr1 hbq
        go_wp2_with fail
        obtain ⟨V, hV⟩ : ∃ V, V = w3.alloc (.cells #[.int .i64 (p : Int), .int .i64 (q : Int)] 67) := ⟨_, rfl⟩
        rw [← hV]
        have gN := eqbox1 hV
        obtain ⟨q0, hq0⟩ : ∃ q0, q0 = w3.heap.size := ⟨_, rfl⟩
        rw [← hq0] at gN ⊢
        have y0 : V.cell? ⟨q0, 0, none⟩ = some (.int .i64 (p : Int)) := box_cell gN.1 0 _ rfl
        have y1 : V.cell? ⟨q0, 1, none⟩ = some (.int .i64 (q : Int)) := box_cell gN.1 1 _ rfl
        have HBV := Lib.hid (show Below w3.heap.size w3 V by rw [hV]; exact bAlloc (Below.refl _ _) (Nat.le_refl _) _)
        have hqq : w3.heap.size ≤ q0 := Nat.le_of_eq hq0.symm
        clear hV gN hq0 x0 x1
        refine (andNode_at n k _ _ (rdUp good_Net HD.out (bThen HBW.out HBV.out)) (Nat.le_refl _) HP.out.sz hk3).mono ?_
        rintro e w4 ⟨rfl, hb4⟩
        replace y0 := keep hb4 y0
        replace y1 := keep hb4 y1
        have HB4 := Lib.hid (bThen HBV.out hb4)
        have xr := keep HB4.out XR.out
        have c0' := keep HB4.out c0
        have c1' := keep HB4.out c1
        have c2' := keep HB4.out c2
        have c3' := keep HB4.out c3
        have HA4 := Lib.hid (OwnsR.below HA.out HB4.out)
        have HC4 := Lib.hid (HC.out.below HB4.out)
        have HBL4 := Lib.hid (bThen HBL.out HB4.out)
        clear hb4 c0 c1 c2 c3
        cases bq with
        | false =>
          have HST := Lib.hid (sweepI_no HAK.out HBQ.out)
          have HBA := Lib.hid (show Below w4.heap.size w4 (w4.alloc (.cells #[.int .i64 (-1)] 3)) from bAlloc (Below.refl _ _) (Nat.le_refl _) _)
          have HNBk := Lib.hid (show (w4.alloc (.cells #[.int .i64 (-1)] 3)).heap[w4.heap.size]? = some (.cells #[.int .i64 (-1)] 3 (0, 0)) from heap_alloc_new _ _)
          have hsz := Lib.hid (show w2.heap.size ≤ (w4.alloc (.cells #[.int .i64 (-1)] 3)).heap.size from Nat.le_trans HBL4.out.size HBA.out.size)
          have HOA := Lib.hid (HC4.out.below HBA.out)
          clear y0 y1
          go_wp2_with (at_builtin; refine wpList_append_all (by rfl) _ _ 64 (by rfl) w2.heap.size 3 i0 (.int .i64 0) 1 8 Try.underlying64 hi hz0 hz1 hz2 rfl (by omega) (.slice B KL.length d) KL.length (KL.map vI) (by rfl) HOA.out (some ⟨w4.heap.size, 0, none⟩) 1 1 [.int .i64 (-1)] (by rfl) (by rfl) (.inr ⟨_, rfl, World.news_of_block HNBk.out⟩) (by simp [Value.oneCell']) (by unfold maxLen; omega) (by omega) hsz.out ?_; intro A' c' w7 hown7 hgrow7 hkeep7 hat7)
          have HB7 := Lib.hid (((bThen HBL4.out HBA.out).grown hgrow7 hsz.out (fun g hg => (HC4.out.lt g hg).1)))
          have HO7 := Lib.hid (own_int hown7)
          have HA7 := Lib.hid (OwnsR.atB (OwnsR.below HA4.out HBA.out) fun b hbo => hgrow7.block b (by have := (OwnsR.blk_lt HA4.out hbo).1; exact Nat.lt_of_lt_of_le this HBA.out.size) (fun e => HNE.out b hbo e.symm))
          have HN7 := Lib.hid (show ∀ b, (Value.slice A KA.length c).ownBlock = some b → (Value.slice A' (KL.length + 1) c').ownBlock ≠ some b from fun b hbo e => by
            rcases hat7 with h | h
            · exact HNE.out b hbo (h.symm.trans e)
            · rw [e] at h; injection h with h; have := (OwnsR.blk_lt HA4.out hbo).1; have := HBA.out.size; omega)
          clear hown7 hgrow7 hkeep7 hat7 hsz xr c0' c1' c2' c3'
          go_roundw
          case rel =>
            refine ⟨k + 1, A, c, A', c', by omega, by go_num, ?_, ?_, ?_, ?_, ?_, HB7.out⟩
            · rw [HST.out, HKA.out]
            · rw [HST.out, HKK.out, List.length_append]; rfl
            · rw [HST.out, HKA.out]; exact HA7.out
            · rw [HST.out, HKK.out, List.length_append]; exact HO7.out
            · rw [HST.out, HKA.out, HKK.out, List.length_append]; exact HN7.out
          case measure => simp [intOf] <;> omega
        | true =>
          have HST := Lib.hid (sweepI_yes HAK.out HBQ.out)
          have HED := Lib.hid (HCL.out.edge k p q HAK.out HBQ.out)
          obtain ⟨tp, htp⟩ := sweepI_lit HP.out HCL.out (by omega) HPQ.out.1 (.inr HED.out.1)
          obtain ⟨tq, htq⟩ := sweepI_lit HP.out HCL.out (by omega) HPQ.out.2 (.inr HED.out.2)
          rw [HKK.out] at htp htq
          obtain ⟨y, hy⟩ : ∃ y : Int, ((2 * (firN n + KA.length) : Nat) : Int) = y := ⟨_, rfl⟩
          have HY := Lib.hid hy
          obtain ⟨KL2, hK2⟩ : ∃ KL2, KL ++ [y] = KL2 := ⟨_, rfl⟩
          have HK2 := Lib.hid hK2
          have e2 : (2 * ((firN n + KA.length : Nat) : Int)) = y := by rw [← hy]; omega
          have HST2 := Lib.hid (show (sweepI n R (k + 1)).1 = KA ++ [(mapI KL2 (p : Int), mapI KL2 (q : Int))] ∧ (sweepI n R (k + 1)).2 = KL2 by rw [HST.out, HKA.out, HKK.out, e2, hK2]; exact ⟨rfl, rfl⟩)
          have HKF := Lib.hid (show ∀ x ∈ KL2, Fit x from fun x hx => by have := sweepI_bd (keep := R) HP.out (k + 1) (by omega) x (by rw [HST2.out.2]; exact hx); unfold Fit; omega)
          have HTP := Lib.hid (show KL2[p / 2]? = some (tp : Int) by rw [← hK2]; exact app_low htp)
          have HTQ := Lib.hid (show KL2[q / 2]? = some (tq : Int) by rw [← hK2]; exact app_low htq)
          obtain ⟨yp, hyp⟩ : ∃ yp, mapI KL2 (p : Int) = yp := ⟨_, rfl⟩
          obtain ⟨yq, hyq⟩ : ∃ yq, mapI KL2 (q : Int) = yq := ⟨_, rfl⟩
          have HMP := Lib.hid hyp
          have HMQ := Lib.hid hyq
          clear hy hK2 htp htq hyp hyq e2
          go_wp2_with fail
          refine (andNode_at n KA.length _ _ (rdUp good_Net HD.out (bThen HBW.out HB4.out)) (Nat.le_refl _) HP.out.sz hla).mono ?_
          rintro e w5 ⟨rfl, hb5⟩
          replace y0 := keep hb5 y0
          replace y1 := keep hb5 y1
          have HA5 := Lib.hid (OwnsR.below HA4.out hb5)
          have HC5 := Lib.hid (HC4.out.below hb5)
          have HBL5 := Lib.hid (bThen HBL4.out hb5)
          have hs45 := hb5.size
          have hs34 := HB4.out.size
          clear hb5 c0' c1' c2' c3' xr
          go_wp2_with fail
          refine (litOf_at (firN n + KA.length) (by omega) _).mono ?_
          rintro e w5 ⟨rfl, rfl⟩
          rw [HY.out]
          have HBA := Lib.hid (show Below w5.heap.size w5 (w5.alloc (.cells #[.int .i64 y] 3)) from bAlloc (Below.refl _ _) (Nat.le_refl _) _)
          have HNBk := Lib.hid (show (w5.alloc (.cells #[.int .i64 y] 3)).heap[w5.heap.size]? = some (.cells #[.int .i64 y] 3 (0, 0)) from heap_alloc_new _ _)
          have hsz := Lib.hid (show w2.heap.size ≤ (w5.alloc (.cells #[.int .i64 y] 3)).heap.size from Nat.le_trans HBL5.out.size HBA.out.size)
          have HOA := Lib.hid (HC5.out.below HBA.out)
          have HY0 := Lib.hid (And.intro (keep HBA.out y0) (keep HBA.out y1))
          clear y0 y1
          go_wp2_with (at_builtin; refine wpList_append_all (by rfl) _ _ 64 (by rfl) w2.heap.size 3 i0 (.int .i64 0) 1 8 Try.underlying64 hi hz0 hz1 hz2 rfl (by omega) (.slice B KL.length d) KL.length (KL.map vI) (by rfl) HOA.out (some ⟨w5.heap.size, 0, none⟩) 1 1 [.int .i64 y] (by rfl) (by rfl) (.inr ⟨_, rfl, World.news_of_block HNBk.out⟩) (by simp [Value.oneCell']) (by unfold maxLen; omega) (by omega) hsz.out ?_; intro A' c' w6 hown7 hgrow7 hkeep7 hat7; have yy0 := grown_keep hgrow7 HY0.out.1 (fun e => by have := (HC.out.lt _ e.symm).2; dsimp only at this; omega); have yy1 := grown_keep hgrow7 HY0.out.2 (fun e => by have := (HC.out.lt _ e.symm).2; dsimp only at this; omega))
          have HB6 := Lib.hid (((bThen HBL5.out HBA.out).grown hgrow7 hsz.out (fun g hg => (HC5.out.lt g hg).1)))
          have HO6 := own_int hown7
          rw [HK2.out] at HO6
          have HC6 := Lib.hid HO6
          have HA6 := Lib.hid (OwnsR.atB (OwnsR.below HA5.out HBA.out) fun b hbo => hgrow7.block b (by have := (OwnsR.blk_lt HA5.out hbo).1; exact Nat.lt_of_lt_of_le this HBA.out.size) (fun e => HNE.out b hbo e.symm))
          have HN6 := Lib.hid (show ∀ b, (Value.slice A KA.length c).ownBlock = some b → (Value.slice A' (KL.length + 1) c').ownBlock ≠ some b from fun b hbo e => by
            rcases hat7 with h | h
            · exact HNE.out b hbo (h.symm.trans e)
            · rw [e] at h; injection h with h; have := (OwnsR.blk_lt HA5.out hbo).1; have := HBA.out.size; omega)
          obtain ⟨y0, hy0⟩ : ∃ y0 : w6.cell? ⟨q0, 0, none⟩ = some (.int .i64 (p : Int)), True := ⟨yy0, trivial⟩
          obtain ⟨y1, hy1⟩ : ∃ y1 : w6.cell? ⟨q0, 1, none⟩ = some (.int .i64 (q : Int)), True := ⟨yy1, trivial⟩
          clear hown7 hgrow7 hkeep7 hat7 hsz HO6 hy0 hy1 yy0 yy1
          have hS0 : (fun w' => Below w6.heap.size w6 w' ∧ w'.cell? ⟨q0, 0, none⟩ = some (.int .i64 (p : Int)) ∧ w'.cell? ⟨q0, 1, none⟩ = some (.int .i64 (q : Int))) w6 := ⟨Below.refl _ _, y0, y1⟩
          have hS : ∀ {w0 w' : World}, (fun w' => Below w6.heap.size w6 w' ∧ w'.cell? ⟨q0, 0, none⟩ = some (.int .i64 (p : Int)) ∧ w'.cell? ⟨q0, 1, none⟩ = some (.int .i64 (q : Int))) w0 → Below w0.heap.size w0 w' → (fun w' => Below w6.heap.size w6 w' ∧ w'.cell? ⟨q0, 0, none⟩ = some (.int .i64 (p : Int)) ∧ w'.cell? ⟨q0, 1, none⟩ = some (.int .i64 (q : Int))) w' := fun h hb => ⟨bThen h.1 hb, keep hb h.2.1, keep hb h.2.2⟩
          dsimp only at hS0 hS
          refine wp_region_noPanic ?_
          refine wp_region_kept 11 13 (fun w' => Below w6.heap.size w6 w' ∧ w'.cell? ⟨q0, 0, none⟩ = some (.int .i64 (p : Int)) ∧ w'.cell? ⟨q0, 1, none⟩ = some (.int .i64 (q : Int))) (by kernel_rfl) rfl (hS hS0 (Below.drew (Below.refl _ _))) (fun hK0 => ?_)
          refine Kept.take (v := ?vc0) 0 (by kernel_rfl) rfl (by kernel_rfl) (fun _ _ _ h => h) (Or.inl ⟨by rfl, ?hyc0⟩) hK0 ?restc0
          case hyc0 =>
            intro w0 hSw
            (try dsimp only at hSw)
            go_simp
            all_goals (with_reducible rfl)
          (try simp only [Act.put, List.setIfInBounds_toArray, List.set_cons_zero, List.set_cons_succ])
          refine Kept.take (v := ?vc1) 1 (by kernel_rfl) rfl (by kernel_rfl) (fun _ _ _ h => h) (Or.inl ⟨by rfl, ?hyc1⟩) hK0 ?restc1
          case hyc1 =>
            intro w0 hSw
            (try dsimp only at hSw)
            go_simp
            all_goals (with_reducible rfl)
          (try simp only [Act.put, List.setIfInBounds_toArray, List.set_cons_zero, List.set_cons_succ])
          refine Kept.take (v := ?vc2) 2 (by kernel_rfl) rfl (by kernel_rfl) (fun _ _ _ h => h) (Or.inl ⟨by rfl, ?hyc2⟩) hK0 ?restc2
          case hyc2 =>
            intro w0 hSw
            (try dsimp only at hSw)
            go_simp
            all_goals (with_reducible rfl)
          (try simp only [Act.put, List.setIfInBounds_toArray, List.set_cons_zero, List.set_cons_succ])
          refine Kept.take (v := ?vc3) 3 (by kernel_rfl) rfl (by kernel_rfl) (fun _ _ _ h => h) (Or.inl ⟨by rfl, ?hyc3⟩) hK0 ?restc3
          case hyc3 =>
            intro w0 hSw
            (try dsimp only at hSw)
            go_simp
            all_goals (with_reducible rfl)
          (try simp only [Act.put, List.setIfInBounds_toArray, List.set_cons_zero, List.set_cons_succ])
          refine Kept.take (v := ?vc5) 5 (by kernel_rfl) rfl (by kernel_rfl) (fun _ _ _ h => h) (Or.inl ⟨by rfl, ?hyc5⟩) hK0 ?restc5
          case hyc5 =>
            intro w0 hSw
            (try dsimp only at hSw)
            go_simp
            all_goals (with_reducible rfl)
          (try simp only [Act.put, List.setIfInBounds_toArray, List.set_cons_zero, List.set_cons_succ])
          refine Kept.take (v := ?vc6) 6 (by kernel_rfl) rfl (by kernel_rfl) (fun _ _ _ h => h) (Or.inl ⟨by rfl, ?hyc6⟩) hK0 ?restc6
          case hyc6 =>
            intro w0 hSw
            (try dsimp only at hSw)
            go_simp
            all_goals (with_reducible rfl)
          (try simp only [Act.put, List.setIfInBounds_toArray, List.set_cons_zero, List.set_cons_succ])
          refine Kept.take (v := ?vc7) 7 (by kernel_rfl) rfl (by kernel_rfl) (fun _ _ _ h => h) (Or.inl ⟨by rfl, ?hyc7⟩) hK0 ?restc7
          case hyc7 =>
            intro w0 hSw
            (try dsimp only at hSw)
            go_simp
            all_goals (with_reducible rfl)
          (try simp only [Act.put, List.setIfInBounds_toArray, List.set_cons_zero, List.set_cons_succ])
          refine Kept.one 4 (by kernel_rfl) rfl (fun K hK => ?_)
          go_simp
          go_at_call 53
          refine (of_at KL2 p tp HTP.out _ _ (ownI_rd (HC6.out.below hK0.1) HKF.out) HPF.out HMP.out).mono ?_
          rintro e wr0 ⟨rfl, hbr0⟩
          go_simp
          refine hK.out _ _ (hS hK0 hbr0) (fun hK1 => ?_)
          clear hK K hK0
          (try simp only [Act.put, List.setIfInBounds_toArray, List.set_cons_zero, List.set_cons_succ])
          refine Kept.one 8 (by kernel_rfl) rfl (fun K hK => ?_)
          go_simp
          go_at_call 53
          refine (of_at KL2 q tq HTQ.out _ _ (ownI_rd (HC6.out.below hK1.1) HKF.out) HQF.out HMQ.out).mono ?_
          rintro e wr1 ⟨rfl, hbr1⟩
          go_simp
          refine hK.out _ _ (hS hK1 hbr1) (fun hK2 => ?_)
          clear hK K hK1
          (try simp only [Act.put, List.setIfInBounds_toArray, List.set_cons_zero, List.set_cons_succ])
          refine Kept.take (v := ?vc9) 9 (by kernel_rfl) rfl (by kernel_rfl) (fun _ _ _ h => h) (Or.inl ⟨by rfl, ?hyc9⟩) hK2 ?restc9
          case hyc9 =>
            intro w0 hSw
            (try dsimp only at hSw)
            go_simp
            all_goals (with_reducible rfl)
          (try simp only [Act.put, List.setIfInBounds_toArray, List.set_cons_zero, List.set_cons_succ])
          refine Kept.one 10 (by kernel_rfl) rfl (fun K hK => ?_)
          go_simp
          refine hK.out _ _ (hS hK2 (bAlloc (Below.refl _ _) (Nat.le_refl _) _)) (fun hK3 => ?_)
          clear hK K hK2
          (try simp only [Act.put, List.setIfInBounds_toArray, List.set_cons_zero, List.set_cons_succ])
          refine Kept.tail (by rfl) (by kernel_rfl) ?_
          simp only [List.drop_succ_cons, List.drop_zero]
          have HBX := Lib.hid (show Below w6.heap.size w6 (wr1.alloc (.cells #[.int .i64 yp, .int .i64 yq] 67)) from hK3.1)
          have hs61 := HBX.out.size
          have HNBA := Lib.hid (show (wr1.alloc (.cells #[.int .i64 yp, .int .i64 yq] 67)).heap[wr1.heap.size]? = some (.cells #[.int .i64 yp, .int .i64 yq] 67 (0, 0)) from heap_alloc_new _ _)
          have HAX := Lib.hid (OwnsR.below HA6.out HBX.out)
          have HCX := Lib.hid (HC6.out.below HBX.out)
          have HBXW := Lib.hid (bThen HB6.out HBX.out)
          have HSZA := Lib.hid HBXW.out.size
          have HRWA := Lib.hid (show (wr1.alloc (.cells #[.int .i64 yp, .int .i64 yq] 67)).ownsRow w2.heap.size 67 2 (.slice A KA.length c) KA.length (KA.flatMap fAnd) from HAX.out)
          clear hK3 hS hS0 y0 y1
          go_wp2_with (at_builtin; refine wpList_append_all (by rfl) _ _ 34 (by rfl) w2.heap.size 67 iA (.agg #[.int .i64 0, .int .i64 0]) 2 16 Try.underlying34 hiA hzA0 hzA1 hzA2 rfl (by omega) (.slice A KA.length c) KA.length (KA.flatMap fAnd) (by rfl) HRWA.out (some ⟨wr1.heap.size, 0, none⟩) 1 1 [.int .i64 yp, .int .i64 yq] (by rfl) (by rfl) (.inr ⟨_, rfl, World.news_of_block HNBA.out⟩) (by simp [Value.oneCell']) (by unfold maxLen; omega) (by omega) HSZA.out ?_; intro A9 c9 w9 hown9 hgrow9 hkeep9 hat9)
          refine NoPanic.normal ?_
          have HB9 := Lib.hid (HBXW.out.grown hgrow9 HSZA.out (fun g hg => (OwnsR.blk_lt HAX.out hg).2))
          have HA9 := Lib.hid (show OwnsR fAnd 2 67 w9 w2.heap.size (.slice A9 (KA.length + 1) c9) (KA ++ [(yp, yq)]) by unfold OwnsR; rw [List.length_append, List.flatMap_append]; simpa [fAnd] using hown9)
          have HC9 := Lib.hid (HCX.out.atI (w' := w9) fun j hj => hgrow9.block j (HCX.out.lt j hj).2 (fun e => HN6.out j e.symm hj))
          have HN9 := Lib.hid (show ∀ b, (Value.slice A9 (KA.length + 1) c9).ownBlock = some b → (Value.slice A' (KL.length + 1) c').ownBlock ≠ some b from fun b hbo e => by
            rcases hat9 with h | h
            · exact HN6.out b (h.symm.trans hbo) e
            · rw [hbo] at h; injection h with h; have := (HCX.out.lt b e).2; omega)
          have HLE := Lib.hid (show KL2.length = KL.length + 1 by rw [← HK2.out, List.length_append]; rfl)
          clear hown9 hgrow9 hkeep9 hat9
          go_wp2
          go_roundw
          case rel =>
            refine ⟨k + 1, A9, c9, A', c', by omega, by go_num, ?_, ?_, ?_, ?_, ?_, HB9.out⟩
            · rw [HST2.out.1, List.length_append]; rfl
            · rw [HST2.out.2, HLE.out]
            · rw [HST2.out.1, HMP.out, HMQ.out, List.length_append]; exact HA9.out
            · rw [HST2.out.2, HLE.out]; exact HC9.out
            · rw [HST2.out.1, HST2.out.2, HLE.out, List.length_append]; exact HN9.out
          case measure => simp [intOf] <;> omega
      · obtain rfl : k = n.2.2.1.length := by omega
        have hmr := sweepI_maps HP.out
        rw [HR.out] at hmr
        have HM := Lib.hid hmr
        have hXr := (sweepO_I HP.out).symm.trans HX.out
        rw [HR.out] at hXr
        have hbd := sweepI_bd (keep := R) HP.out n.2.2.1.length (Nat.le_refl _)
        have hfa := sweepI_fitA (keep := R) HP.out n.2.2.1.length (Nat.le_refl _)
        have hla := sweepI_len1 (n := n) (keep := R) n.2.2.1.length
        obtain ⟨KA, hKA⟩ : ∃ KA, (sweepI n R n.2.2.1.length).1 = KA := ⟨_, rfl⟩
        obtain ⟨KL, hKL⟩ : ∃ KL, (sweepI n R n.2.2.1.length).2 = KL := ⟨_, rfl⟩
        rw [hKA] at HA HNE hXr hfa hla
        rw [hKL] at HC HNE HM hXr hbd
        rw [hKA, hKL]
        have HFA := Lib.hid hfa
        have HBD := Lib.hid hbd
        have HXR := Lib.hid hXr
        have HRD := Lib.hid (show rdAndS 0 w3.heap.size w3 [.slice A KA.length c] KA from good_AndS.wider ((gr_flat (P := owAnd) HA.out fun x hx => owAnd_of (HFA.out x hx).1 (HFA.out x hx).2 _).rd fAnd_len rds_And gow_And) (Nat.zero_le _) (Nat.le_refl _))
        have HRC := Lib.hid (ownI_rd HC.out (fun x hx => by have := HBD.out x hx; unfold Fit; omega))
        have HRES3 := Lib.hid (HRES.out.at (HBL.out.block _ HRES.out.lt))
        have s12 := HP.out.sz.s12
        have o16 := HP.out.sz.o16
        have HIN := Lib.hid (fun (s : DSeq) (hs : s ∈ n.2.1) => (show s.2.2.length ≤ 1048576 by have := (seq_ins (HP.out.seq s hs)).1; omega))
        have hw3 := HBL.out.size
        clear hlt hmr hXr hbd hfa hKA hKL
        go_wp2_with fail
        refine (rebM_at n KA _ _ w3 (rdUp good_Net HD.out HBW.out) HRD.out KL _ HRC.out (fun s hs x hx => HM.out x (mem_rootsS hs hx)) (fun x hx => HM.out x (mem_rootsO hx)) (fun x hx => by have := mapI_bd (l := x) HBD.out; unfold Fit; omega) (by omega) HIN.out (by omega) (by omega)).mono ?_
        first | rintro e w9 ⟨v1, vA, v3, rows, bs, rfl, hnet, hb9⟩ | rintro e w9 ⟨v1, vA, v3, rfl, rows, bs, hnet, hb9⟩
        obtain ⟨A1, c1, rfl⟩ := hnet.s.cap fV3_len
        obtain ⟨A2, c2, rfl⟩ := hnet.a.cap fAnd_len
        obtain ⟨A3, c3, rfl⟩ := hnet.o.cap fInt_len
        obtain ⟨q1, hq1⟩ : ∃ q, (n.2.1.map fun s => (s.1, s.2.1, s.2.2.map (mapI KL))).length = q := ⟨_, rfl⟩
        obtain ⟨q3, hq3⟩ : ∃ q, (n.2.2.2.map (mapI KL)).length = q := ⟨_, rfl⟩
        have HN := Lib.hid (show NetG w3.heap.size w9 (.slice A1 q1 c1) (.slice A2 KA.length c2) (.slice A3 q3 c3) rows bs m from by rw [← HXR.out, ← hq1, ← hq3]; exact hnet)
        have hm1 : m.1 = n.1 := by rw [← HXR.out]; rfl
        have HM1 := Lib.hid hm1
        rw [show (.slice A1 (n.1, (n.2.1.map fun s => (s.1, s.2.1, s.2.2.map (mapI KL))), KA, (n.2.2.2.map (mapI KL))).2.1.length c1 : Value) = .slice A1 q1 c1 from by rw [← hq1], show (.slice A3 (n.1, (n.2.1.map fun s => (s.1, s.2.1, s.2.2.map (mapI KL))), KA, (n.2.2.2.map (mapI KL))).2.2.2.length c3 : Value) = .slice A3 q3 c3 from by rw [← hq3]]
        have hres := HRES3.out.at (hb9.block _ HRES3.out.lt)
        have HB9 := Lib.hid (bThen HBW.out hb9)
        have f0 := hres.cells.1.1
        have f1 := hres.cells.1.2.1
        have f2 := hres.cells.1.2.2.1
        have f3 := hres.cells.1.2.2.2
        have fz := hres.cells.2
        clear hnet hb9 hres hm1 hq1 hq3
        go_wp2
        ((try simp only [Exit.inBlock, Exit.then]); refine bodyPost_ret (v := (.agg #[.int .i64 n.1, .slice A1 q1 c1, .slice A2 KA.length c2, .slice A3 q3 c3])) (by rw [results_cell1 rfl]; go_simp) rfl ?_)
        have P1 := (HN.out.at (w' := ((((w9.setCell ⟨w.heap.size + 1, 0, none⟩ (.int .i64 n.1)).setCell ⟨w.heap.size + 1, 1, none⟩ (.slice A1 q1 c1)).setCell ⟨w.heap.size + 1, 2, none⟩ (.slice A2 KA.length c2)).setCell ⟨w.heap.size + 1, 3, none⟩ (.slice A3 q3 c3))) fun b h1 h2 h3 => far4 (by omega)).lower (B' := w.heap.size) (by omega)
        have P2 := bSet (bSet (bSet (bSet HB9.out (p := ⟨w.heap.size + 1, 0, none⟩) (Nat.le_succ _) (.int .i64 n.1)) (p := ⟨w.heap.size + 1, 1, none⟩) (Nat.le_succ _) (.slice A1 q1 c1)) (p := ⟨w.heap.size + 1, 2, none⟩) (Nat.le_succ _) (.slice A2 KA.length c2)) (p := ⟨w.heap.size + 1, 3, none⟩) (Nat.le_succ _) (.slice A3 q3 c3)
        rw [HM1.out]
        first | exact ⟨_, _, _, rows, bs, rfl, P1, P2⟩ | exact ⟨_, _, _, rfl, rows, bs, P1, P2⟩ | exact ⟨_, _, _, rfl, ⟨rows, bs, P1⟩, P2⟩
end Go.Proofs.Ytedamhkcblemdaa
