/-
  literalsOk; the roots of a net, both sides.
-/
import Derived.Test.YtaebiiopommhdaaNet1
import Derived.Deep.RegionHeld3
namespace Go.Proofs.Ytaebiiopommhdaa
open Go.RowKit
set_option linter.unusedVariables false
set_option linter.unusedSimpArgs false

theorem rootsK_le {n : DNet} (h : n.2.1.all seqB = true) (k : Nat) : (rootsK n k).length ≤ n.2.2.2.length + 4 * n.2.1.length := by
  have h1 := flat_le (L := n.2.1.take k) fun s hs => (seq_ins (List.all_eq_true.1 h s (List.mem_of_mem_take hs))).1
  unfold rootsK
  rw [List.length_append]
  rw [List.length_take] at h1
  omega
/-- Each of the first i elements is such. -/
def AllK {α : Type} (f : α → Bool) (L : List α) (i : Nat) : Bool := (L.take i).all f
theorem allK_zero {α : Type} (f : α → Bool) (L : List α) : AllK f L 0 = true := by simp [AllK]
theorem allK_miss {α : Type} {f : α → Bool} {L : List α} {i : Nat} {x : α} (h : L[i]? = some x) (hx : f x = false) : L.all f = false := by
  rw [List.all_eq_false]; exact ⟨x, List.mem_of_getElem? h, by simp [hx]⟩
theorem allK_step {α : Type} {f : α → Bool} {L : List α} {i : Nat} {x : α} (h : L[i]? = some x) (hx : f x = true) (h0 : AllK f L i = true) : AllK f L (i + 1) = true := by
  unfold AllK at h0 ⊢; rw [List.take_add_one, h, List.all_append, h0]; simp [hx]
theorem allK_end {α : Type} {f : α → Bool} {L : List α} (h : AllK f L L.length = true) : L.all f = true := by
  unfold AllK at h; rwa [List.take_length] at h
theorem lit_no {e x : Int} (h : x < 0) : litB e x = false := decide_eq_false (by omega)
theorem lit_yes {e : Int} {l : Nat} (h : ((l / 2 : Nat) : Int) < e) : litB e (l : Int) = true := decide_eq_true (by rw [tdiv2]; omega)
theorem lit_out {e : Int} {l : Nat} (h : ¬ ((l / 2 : Nat) : Int) < e) : litB e (l : Int) = false := decide_eq_false (by rw [tdiv2]; omega)
set_option maxHeartbeats 3200000 in
theorem litsOk_at (L : List Int) (e : Int) (v : Value) {B T : Nat} (w : World) (hv : rdIntS B T w [v] L) (hT : T ≤ w.heap.size) {r : Bool} (hr : L.all (litB e) = r) :
    Calls Try.prog 63 #[.int .i64 e, v] w fun e' w' => e' = .returned (.bool r) ∧ Below w.heap.size w w' := by
  have HR := Lib.hid hr
  obtain ⟨vA, vc, rfl, vm, -⟩ := slice_of hv
  have HV := Lib.hid hv
  clear hv hr
  go_enter Try.func63, Try.ntmps63
  go_wp2
  go_loopw [9] (fun x wr => ∃ i : Nat, i ≤ L.length ∧ x = .int .i64 i ∧ AllK (litB e) L i = true ∧ Below w.heap.size w wr) (fun x _ => L.length - (intOf x).toNat)
  case atStart => exact ⟨0, Nat.zero_le _, rfl, allK_zero _ _, Below.refl _ _⟩
  case round =>
    obtain ⟨i, hi, rfl, hno, hb⟩ := hrel
    have HN := Lib.hid hno
    have HB := Lib.hid hb
    clear hno hb
    by_cases hlt : i < L.length
    · obtain ⟨x, hx⟩ : ∃ x, L[i]? = some x := ⟨_, List.getElem?_eq_getElem hlt⟩
      have HX := Lib.hid hx
      obtain ⟨xb, xq, rfl, xlt, xc, xf⟩ := at_Int (good_IntS.below HV.out hT HB.out) hx
      have xlt2 := Nat.lt_of_lt_of_le xlt (Nat.le_trans hT HB.out.size)
      clear hx xlt
      unfold Fit at xf
      by_cases h0 : x < 0
      · have HE := Lib.hid ((allK_miss HX.out (lit_no h0)).symm.trans HR.out)
        go_wp2
        go_ret
        exact ⟨ret_bool HE.out, HB.out⟩
      · obtain ⟨l, rfl⟩ : ∃ l : Nat, x = (l : Int) := ⟨x.toNat, by omega⟩
        have hl : l ≤ 9223372036854775807 := by omega
        clear xf
        go_wp2_with fail
        refine (nodeOf_at l _ hl).mono ?_
        rintro e' w1 ⟨rfl, hb1⟩
        have HB1 := Lib.hid (bThen HB.out hb1)
        clear hb1
        by_cases h1 : ((l / 2 : Nat) : Int) < e
        · have HS := Lib.hid (allK_step HX.out (lit_yes h1) HN.out)
          clear xc h0
          go_wp2
          go_roundw
          case rel => exact ⟨i + 1, by omega, by go_num, HS.out, HB1.out⟩
          case measure => simp [intOf]; omega
        · have HE := Lib.hid ((allK_miss HX.out (lit_out h1)).symm.trans HR.out)
          clear xc h0
          go_wp2
          go_ret
          exact ⟨ret_bool HE.out, HB1.out⟩
    · obtain rfl : i = L.length := by omega
      have HE := Lib.hid ((allK_end HN.out).symm.trans HR.out)
      go_wp2
      go_ret
      exact ⟨ret_bool HE.out, HB.out⟩

set_option maxRecDepth 100000 in
set_option maxHeartbeats 6400000 in
theorem specRoots_at (n : DNet) (us : List Value) (w : World) (h : rdNet 0 w.heap.size w us n) (hS : sizesB n = true) (hq : n.2.1.all seqB = true) :
    Calls Try.prog 78 #[.agg us.toArray] w fun e w' => ∃ v, e = .returned v ∧ OwnsI w' w.heap.size v (rootsL n) ∧ Below w.heap.size w w' := by
  obtain ⟨i0, hi, hz0, hz1, hz2⟩ := info_parts infoI
  have hP := sizeP_of hS
  have HP := Lib.hid hP
  have HQ := Lib.hid hq
  have o16 := hP.o16
  have s12 := hP.s12
  clear hP hS hq
  obtain ⟨mu0, mu1, mu2, mu3, rfl, mh0, mh1, mh2, mh3⟩ := h
  obtain ⟨me0, -⟩ := mh0
  injection me0 with me0
  subst me0
  obtain ⟨mA1, mc1, me1, mm1, -⟩ := slice_of mh1
  subst me1
  have mR1 := Lib.hid mh1
  clear mh1
  obtain ⟨mA2, mc2, me2, mm2, -⟩ := slice_of mh2
  subst me2
  have mR2 := Lib.hid mh2
  clear mh2
  obtain ⟨mA3, mc3, me3, mm3, -⟩ := slice_of mh3
  subst me3
  have mR3 := Lib.hid mh3
  clear mh3
  go_enter Try.func78, Try.ntmps78
  obtain ⟨W0, hV⟩ : ∃ W0, W0 = w.alloc (.cells #[.int .i64 n.1, .slice mA1 (n.2.1).length mc1, .slice mA2 (n.2.2.1).length mc2, .slice mA3 (n.2.2.2).length mc3] 28) := ⟨_, rfl⟩
  have gN := eqbox1 hV
  have HW0 := Lib.hid gN.2
  have HN := Lib.hid (show NewsAt (W0.alloc (.cells #[] 3)) mA3 n.2.2.2.length (n.2.2.2.flatMap fInt) from (newsAt_of fInt 1 fInt_len (by omega) usInt (good_IntS.below mR3.out (Nat.le_refl _) (bThen gN.2 (bAlloc (Below.refl _ _) (Nat.le_refl _) _)))).2)
  have sW0 : W0.heap.size = w.heap.size + 1 := by rw [hV]; simp
  have HEQ := Lib.hid hV
  have d0 : W0.cell? ⟨w.heap.size, 0, none⟩ = some (.int .i64 n.1) := box_cell gN.1 0 _ rfl
  have d1 : W0.cell? ⟨w.heap.size, 1, none⟩ = some (.slice mA1 (n.2.1).length mc1) := box_cell gN.1 1 _ rfl
  have d2 : W0.cell? ⟨w.heap.size, 2, none⟩ = some (.slice mA2 (n.2.2.1).length mc2) := box_cell gN.1 2 _ rfl
  have d3 : W0.cell? ⟨w.heap.size, 3, none⟩ = some (.slice mA3 (n.2.2.2).length mc3) := box_cell gN.1 3 _ rfl
  have HE1 := Lib.hid d1
  clear gN hV
  go_wp2_with ((try rw [← HEQ.out]); at_builtin; refine wpList_append_all (by rfl) _ _ 26 (by rfl) W0.heap.size 3 i0 (.int .i64 0) 1 8 Try.underlying26 hi hz0 hz1 hz2 rfl (by omega) (.slice (some ⟨W0.heap.size, 0, none⟩) 0 0) 0 [] (by (first | rfl | (rw [sW0]; rfl))) (ownR_new fInt 1 3 W0 W0.heap.size (Nat.le_refl _)) mA3 n.2.2.2.length mc3 (n.2.2.2.flatMap fInt) (by rfl) (flat_len fInt 1 fInt_len _) HN.out (fInt_one _) (by unfold maxLen; omega) (by omega) (by simp) ?_; intro A' c' w1 hown hgrow hkeep hat)
  have hr := hown
  rw [Nat.zero_add, List.nil_append, flat_vI] at hr
  have HB1 := Lib.hid (show Below W0.heap.size W0 w1 from (show Below W0.heap.size W0 (W0.alloc (.cells #[] 3)) from bAlloc (Below.refl _ _) (Nat.le_refl _) _).grown hgrow (by simp) (by intro g hg; injection hg with hg; dsimp only at hg; omega))
  have HO := Lib.hid (show OwnsI w1 W0.heap.size (.slice A' n.2.2.2.length c') n.2.2.2 from hr)
  replace d0 := keep HB1.out d0
  replace d1 := keep HB1.out d1
  replace d2 := keep HB1.out d2
  replace d3 := keep HB1.out d3
  clear hown hgrow hkeep hat hr HN
  have e1 : W0.cell? ⟨w.heap.size, 1, none⟩ = some (.slice mA1 (n.2.1).length mc1) := HE1.out
  go_wp2
  go_loopw [3, 4] (fun v i wr => ∃ (k : Nat) (A : Option Addr) (c : Nat), k ≤ n.2.1.length ∧ i = .int .i64 (k : Int) ∧ v = .slice A (rootsK n k).length c ∧ OwnsI wr W0.heap.size (.slice A (rootsK n k).length c) (rootsK n k) ∧ Below W0.heap.size W0 wr) (fun _ i _ => n.2.1.length - (intOf i).toNat)
  case atStart => exact ⟨0, A', c', Nat.zero_le _, rfl, by rw [rootsK_zero], by rw [rootsK_zero]; exact HO.out, HB1.out⟩
  case round =>
    obtain ⟨k, A, c, hk, rfl, rfl, hown, hb⟩ := hrel
    obtain ⟨w2, rfl⟩ : ∃ w2, w2 = wr := ⟨_, rfl⟩
    clear HO HB1 d0 d1 d2 d3
    have HO := Lib.hid hown
    have HB2 := Lib.hid hb
    have HBW := Lib.hid (bThen HW0.out hb)
    have c1 := keep hb e1
    have lt2 : w.heap.size < w2.heap.size := World.block_lt_of_cell? _ _ c1
    have hlen := rootsK_le HQ.out k
    clear hown hb
    by_cases hlt : k < n.2.1.length
    · obtain ⟨s, hs⟩ : ∃ s, n.2.1[k]? = some s := ⟨_, List.getElem?_eq_getElem hlt⟩
      obtain ⟨sb, sq, sA, sc, rfl, sb1, x0, -, x1, -, x2, sR⟩ := at_Seq (good_SeqS.below mR1.out (Nat.le_refl _) HBW.out) hs
      have sb2 := Nat.lt_of_lt_of_le sb1 HBW.out.size
      have HS := Lib.hid (rootsK_step hs)
      have s4 := (seq_ins (List.all_eq_true.1 HQ.out s (List.mem_of_getElem? hs))).1
      obtain ⟨L, hL⟩ : ∃ L, s.2.2 = L := ⟨_, rfl⟩
      have HL := Lib.hid hL
      rw [hL] at x2 sR s4
      obtain ⟨K, hK⟩ : ∃ K, rootsK n k = K := ⟨_, rfl⟩
      have HK := Lib.hid hK
      rw [hK] at HO hlen ⊢
      have hsum : K.length + L.length ≤ 1000 := by omega
      have tk : (k : Int) < (n.2.1.length : Int) := by omega
      have HN := Lib.hid (show NewsAt w2 sA L.length (L.flatMap fInt) from (newsAt_of fInt 1 fInt_len (by omega) usInt sR).2)
      clear hs hL hK x0 x1 sR sb1
      go_wp2_with (at_builtin; refine wpList_append_all (by rfl) _ _ 26 (by rfl) W0.heap.size 3 i0 (.int .i64 0) 1 8 Try.underlying26 hi hz0 hz1 hz2 rfl (by omega) (.slice A K.length c) K.length (K.map vI) (by rfl) HO.out sA L.length sc (L.flatMap fInt) (by rfl) (flat_len fInt 1 fInt_len _) HN.out (fInt_one _) (by unfold maxLen; omega) (by omega) HB2.out.size ?_; intro A' c' w3 hown hgrow hkeep hat)
      have hr := hown
      rw [flat_vI, ← List.map_append] at hr
      have HB3 := Lib.hid (HB2.out.grown hgrow HB2.out.size (fun g hg => (HO.out.lt g hg).1))
      have HO3 := Lib.hid (show OwnsI w3 W0.heap.size (.slice A' (K.length + L.length) c') (K ++ L) from (by unfold OwnsI; rw [List.length_append]; exact hr))
      clear hown hgrow hkeep hat hr HN
      go_roundw
      case rel =>
        have e := HS.out
        rw [HK.out, HL.out] at e
        exact ⟨k + 1, A', c', by omega, by go_num, by rw [e, List.length_append], by rw [e, List.length_append]; exact HO3.out, HB3.out⟩
      case measure => simp [intOf]; omega
    · obtain rfl : k = n.2.1.length := by omega
      rw [rootsK_end] at HO ⊢
      clear hlt
      go_wp2
      go_ret
      exact ⟨_, rfl, HO.out.lower (by omega), HBW.out⟩

set_option maxRecDepth 100000 in
set_option maxHeartbeats 6400000 in
theorem implRoots_at (n : DNet) (us : List Value) (w : World) (h : rdNet 0 w.heap.size w us n) (hS : sizesB n = true) (hq : n.2.1.all seqB = true) :
    Calls Try.prog 73 #[.agg us.toArray] w fun e w' => ∃ v, e = .returned v ∧ OwnsI w' w.heap.size v (rootsL n) ∧ Below w.heap.size w w' := by
  obtain ⟨i0, hi, hz0, hz1, hz2⟩ := info_parts infoI
  have hP := sizeP_of hS
  have HP := Lib.hid hP
  have HQ := Lib.hid hq
  have o16 := hP.o16
  have s12 := hP.s12
  clear hP hS hq
  obtain ⟨mu0, mu1, mu2, mu3, rfl, mh0, mh1, mh2, mh3⟩ := h
  obtain ⟨me0, -⟩ := mh0
  injection me0 with me0
  subst me0
  obtain ⟨mA1, mc1, me1, mm1, -⟩ := slice_of mh1
  subst me1
  have mR1 := Lib.hid mh1
  clear mh1
  obtain ⟨mA2, mc2, me2, mm2, -⟩ := slice_of mh2
  subst me2
  have mR2 := Lib.hid mh2
  clear mh2
  obtain ⟨mA3, mc3, me3, mm3, -⟩ := slice_of mh3
  subst me3
  have mR3 := Lib.hid mh3
  clear mh3
  go_enter Try.func73, Try.ntmps73
  go_wp2_with fail
  obtain ⟨W0, hV⟩ : ∃ W0, W0 = (w.alloc (.cells #[.int .i64 n.1, .slice mA1 (n.2.1).length mc1, .slice mA2 (n.2.2.1).length mc2, .slice mA3 (n.2.2.2).length mc3] 28)) := ⟨_, rfl⟩
  rw [← hV]
  have gN := eqbox1 hV
  have d0 : W0.cell? ⟨w.heap.size, 0, none⟩ = some (.int .i64 n.1) := box_cell gN.1 0 _ rfl
  have d1 : W0.cell? ⟨w.heap.size, 1, none⟩ = some (.slice mA1 (n.2.1).length mc1) := box_cell gN.1 1 _ rfl
  have d2 : W0.cell? ⟨w.heap.size, 2, none⟩ = some (.slice mA2 (n.2.2.1).length mc2) := box_cell gN.1 2 _ rfl
  have d3 : W0.cell? ⟨w.heap.size, 3, none⟩ = some (.slice mA3 (n.2.2.2).length mc3) := box_cell gN.1 3 _ rfl
  have sW0 : W0.heap.size = w.heap.size + 1 := by rw [hV]; simp
  have HW0 := Lib.hid gN.2
  clear hV gN
  have HE1 := Lib.hid d1
  refine (cloneInt_at n.2.2.2 _ _ _ _ (rdUp good_IntS mR3.out HW0.out) (by omega)).mono ?_
  rintro e w1 ⟨A', c', rfl, hg, hb⟩
  replace d0 := keep hb d0
  replace d1 := keep hb d1
  replace d2 := keep hb d2
  replace d3 := keep hb d3
  have HB1 := Lib.hid hb
  have hO := hg.own
  have HO := Lib.hid (show OwnsI w1 W0.heap.size (.slice A' n.2.2.2.length c') n.2.2.2 from (by unfold OwnsI OwnsR at *; rw [flat_vI] at hO; exact hO))
  clear hb hg hO
  go_wp2
  have e1 : W0.cell? ⟨w.heap.size, 1, none⟩ = some (.slice mA1 (n.2.1).length mc1) := HE1.out
  go_loopw [3, 12] (fun v i wr => ∃ (k : Nat) (A : Option Addr) (c : Nat), k ≤ n.2.1.length ∧ i = .int .i64 (k : Int) ∧ v = .slice A (rootsK n k).length c ∧ OwnsI wr W0.heap.size (.slice A (rootsK n k).length c) (rootsK n k) ∧ Below W0.heap.size W0 wr) (fun _ i _ => n.2.1.length - (intOf i).toNat)
  case atStart => exact ⟨0, A', c', Nat.zero_le _, rfl, by rw [rootsK_zero], by rw [rootsK_zero]; exact HO.out, HB1.out⟩
  case round =>
    obtain ⟨k, A, c, hk, rfl, rfl, hown, hb⟩ := hrel
    obtain ⟨w2, rfl⟩ : ∃ w2, w2 = wr := ⟨_, rfl⟩
    clear HO HB1 d0 d1 d2 d3
    have HO := Lib.hid hown
    have HB2 := Lib.hid hb
    have HBW := Lib.hid (bThen HW0.out hb)
    have c1 := keep hb e1
    have lt2 : w.heap.size < w2.heap.size := World.block_lt_of_cell? _ _ c1
    have hlen := rootsK_le HQ.out k
    clear hown hb
    by_cases hlt : k < n.2.1.length
    · obtain ⟨s, hs⟩ : ∃ s, n.2.1[k]? = some s := ⟨_, List.getElem?_eq_getElem hlt⟩
      obtain ⟨sb, sq, sA, sc, rfl, sb1, x0, -, x1, -, x2, sR⟩ := at_Seq (good_SeqS.below mR1.out (Nat.le_refl _) HBW.out) hs
      have sb2 := Nat.lt_of_lt_of_le sb1 HBW.out.size
      have HS := Lib.hid (rootsK_step hs)
      have s4 := (seq_ins (List.all_eq_true.1 HQ.out s (List.mem_of_getElem? hs))).1
      obtain ⟨L, hL⟩ : ∃ L, s.2.2 = L := ⟨_, rfl⟩
      have HL := Lib.hid hL
      rw [hL] at x2 sR s4
      obtain ⟨K, hK⟩ : ∃ K, rootsK n k = K := ⟨_, rfl⟩
      have HK := Lib.hid hK
      rw [hK] at HO hlen ⊢
      have hsum : K.length + L.length ≤ 1000 := by omega
      have tk : (k : Int) < (n.2.1.length : Int) := by omega
      have HN := Lib.hid (show NewsAt (w2.alloc (.cells #[.int .i64 s.1, .int .i64 s.2.1, .slice sA L.length sc] 67)) sA L.length (L.flatMap fInt) from (newsAt_of fInt 1 fInt_len (by omega) usInt (good_IntS.below sR HBW.out.size (bAlloc (Below.refl _ _) (Nat.le_refl _) _))).2)
      have HBA := Lib.hid (show Below w2.heap.size w2 (w2.alloc (.cells #[.int .i64 s.1, .int .i64 s.2.1, .slice sA L.length sc] 67)) from bAlloc (Below.refl _ _) (Nat.le_refl _) _)
      have HBB := Lib.hid (bThen HB2.out HBA.out)
      have hsz := HBB.out.size
      obtain ⟨s0, hs0⟩ : ∃ s0 : Int, s.1 = s0 := ⟨_, rfl⟩
      obtain ⟨s1, hs1⟩ : ∃ s1 : Int, s.2.1 = s1 := ⟨_, rfl⟩
      rw [hs0] at x0 HN HBA HBB hsz
      rw [hs1] at x1 HN HBA HBB hsz
      clear hs hL hK sR sb1 hs0 hs1
      go_wp2_with (at_builtin; refine wpList_append_all (by rfl) _ _ 26 (by rfl) W0.heap.size 3 i0 (.int .i64 0) 1 8 Try.underlying26 hi hz0 hz1 hz2 rfl (by omega) (.slice A K.length c) K.length (K.map vI) (by rfl) (HO.out.below HBA.out) sA L.length sc (L.flatMap fInt) (by rfl) (flat_len fInt 1 fInt_len _) HN.out (fInt_one _) (by unfold maxLen; omega) (by omega) hsz ?_; intro A' c' w3 hown hgrow hkeep hat)
      have hr := hown
      rw [flat_vI, ← List.map_append] at hr
      have HB3 := Lib.hid (HBB.out.grown hgrow HBB.out.size (fun g hg => (HO.out.lt g hg).1))
      have HO3 := Lib.hid (show OwnsI w3 W0.heap.size (.slice A' (K.length + L.length) c') (K ++ L) from (by unfold OwnsI; rw [List.length_append]; exact hr))
      clear hown hgrow hkeep hat hr HN
      go_roundw
      case rel =>
        have e := HS.out
        rw [HK.out, HL.out] at e
        exact ⟨k + 1, A', c', by omega, by go_num, by rw [e, List.length_append], by rw [e, List.length_append]; exact HO3.out, HB3.out⟩
      case measure => simp [intOf]; omega
    · obtain rfl : k = n.2.1.length := by omega
      rw [rootsK_end] at HO ⊢
      clear hlt
      go_wp2
      go_ret
      exact ⟨_, rfl, HO.out.lower (by omega), HBW.out⟩
end Go.Proofs.Ytaebiiopommhdaa
