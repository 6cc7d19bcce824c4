/-
  NetStart, both sides.
-/
import Derived.Test.YtaebiiopommhdaaNr6
import Derived.Deep.RegionHeld3
namespace Go.Proofs.Ytaebiiopommhdaa
open Go.RowKit
set_option linter.unusedVariables false
set_option linter.unusedSimpArgs false

theorem start_no {n : DNet} (h : netB n = false) : startO n = [] := by unfold startO; rw [h]; rfl
theorem start_yes {n : DNet} (h : netB n = true) : startO n = n.2.1.map (·.2.1) := by unfold startO; rw [if_pos h]
def stL (n : DNet) (k : Nat) : List Int := (n.2.1.take k).map (·.2.1)
theorem stL_step {n : DNet} {k : Nat} {s : DSeq} (h : n.2.1[k]? = some s) : stL n (k + 1) = stL n k ++ [s.2.1] := by
  unfold stL; rw [List.take_add_one, h]; simp
theorem stL_all (n : DNet) : stL n n.2.1.length = n.2.1.map (·.2.1) := by unfold stL; rw [List.take_length]
set_option maxRecDepth 100000 in
set_option maxHeartbeats 6400000 in
theorem implStart_at (n : DNet) (us : List Value) (w : World) (h : rdNet 0 w.heap.size w us n) {L : List Int} (hL : startO n = L) :
    Calls Try.prog 16 #[.agg us.toArray] w fun e w' => ∃ v', e = .returned v' ∧ OwnsI w' w.heap.size v' L ∧ Below w.heap.size w w' := by
  obtain ⟨i0, hi, hz0, hz1, hz2⟩ := info_parts infoI
  have HD := Lib.hid h
  obtain ⟨f, hf⟩ : ∃ f, netB n = f := ⟨_, rfl⟩
  have HF := Lib.hid hf
  have HX := Lib.hid hL
  clear hf hL
  obtain ⟨mu0, mu1, mu2, mu3, rfl, mh0, mh1, mh2, mh3⟩ := h
  obtain ⟨me0, -⟩ := mh0
  injection me0 with me0
  subst me0
  obtain ⟨mA1, mc1, me1, mm1, -⟩ := slice_of mh1
  subst me1
  have mR1 := Lib.hid mh1
  clear mh1
  obtain ⟨mA2, mc2, me2, mm2, -⟩ := slice_of mh2
  subst me2
  have mR2 := Lib.hid mh2
  clear mh2
  obtain ⟨mA3, mc3, me3, mm3, -⟩ := slice_of mh3
  subst me3
  have mR3 := Lib.hid mh3
  clear mh3
  go_enter Try.func16, Try.ntmps16
  go_wp2_with fail
  obtain ⟨W0, hV⟩ : ∃ W0, W0 = (w.alloc (.cells #[.int .i64 n.1, .slice mA1 (n.2.1).length mc1, .slice mA2 (n.2.2.1).length mc2, .slice mA3 (n.2.2.2).length mc3] 28)) := ⟨_, rfl⟩
  rw [← hV]
  have gN := eqbox1 hV
  have d0 : W0.cell? ⟨w.heap.size, 0, none⟩ = some (.int .i64 n.1) := box_cell gN.1 0 _ rfl
  have d1 : W0.cell? ⟨w.heap.size, 1, none⟩ = some (.slice mA1 (n.2.1).length mc1) := box_cell gN.1 1 _ rfl
  have d2 : W0.cell? ⟨w.heap.size, 2, none⟩ = some (.slice mA2 (n.2.2.1).length mc2) := box_cell gN.1 2 _ rfl
  have d3 : W0.cell? ⟨w.heap.size, 3, none⟩ = some (.slice mA3 (n.2.2.2).length mc3) := box_cell gN.1 3 _ rfl
  have sW0 : W0.heap.size = w.heap.size + 1 := by rw [hV]; simp
  have HW0 := Lib.hid gN.2
  clear hV gN
  have HE0 := Lib.hid d0
  have HE1 := Lib.hid d1
  have HE2 := Lib.hid d2
  have HE3 := Lib.hid d3
  refine (implNetOk_at n _ _ (rdUp good_Net HD.out HW0.out) HF.out).mono ?_
  rintro e w1 ⟨rfl, hb⟩
  replace d0 := keep hb d0
  replace d1 := keep hb d1
  replace d2 := keep hb d2
  replace d3 := keep hb d3
  have HB02 := Lib.hid hb
  clear hb
  cases f with
  | false =>
    have HE := Lib.hid ((start_no HF.out).symm.trans HX.out)
    go_wp2
    go_ret
    refine ⟨_, rfl, ?_, bThen HW0.out HB02.out⟩
    rw [← HE.out]
    exact own_nilI _ _
  | true =>
    have HE := Lib.hid ((start_yes HF.out).symm.trans HX.out)
    have hs12 := (netP_of HF.out).sz.s12
    have HO := Lib.hid (own_nilI w1 W0.heap.size)
    go_wp2
    clear d0 d1 d2 d3
    go_loopw [3, 12] (fun s z wr => ∃ (k : Nat) (A : Option Addr) (c : Nat), k ≤ n.2.1.length ∧ z = .int .i64 (k : Int) ∧ s = .slice A (stL n k).length c ∧ OwnsI wr W0.heap.size (.slice A (stL n k).length c) (stL n k) ∧ Below W0.heap.size W0 wr) (fun _ z _ => n.2.1.length - (intOf z).toNat)
    case atStart => exact ⟨0, none, 0, Nat.zero_le _, rfl, rfl, HO.out, HB02.out⟩
    case round =>
      obtain ⟨k, A, c, hk, rfl, rfl, hown, hb⟩ := hrel
      obtain ⟨w3, rfl⟩ : ∃ w3, w3 = wr := ⟨_, rfl⟩
      clear HO HB02
      have HO := Lib.hid hown
      have HB0 := Lib.hid hb
      have HB := Lib.hid (bThen HW0.out hb)
      have c0 := keep hb HE0.out
      have c1 := keep hb HE1.out
      have c2 := keep hb HE2.out
      have c3 := keep hb HE3.out
      clear hown hb
      by_cases hlt : k < n.2.1.length
      · obtain ⟨s, hs⟩ : ∃ s, n.2.1[k]? = some s := ⟨_, List.getElem?_eq_getElem hlt⟩
        obtain ⟨sb, sq, sA, sc, rfl, sb1, x0, -, x1, -, x2, sR⟩ := at_Seq (good_SeqS.below mR1.out (Nat.le_refl _) HB.out) hs
        have sb2 := Nat.lt_of_lt_of_le sb1 HB.out.size
        have tk : (k : Int) < (n.2.1.length : Int) := by omega
        obtain ⟨KL, hK⟩ : ∃ KL, stL n k = KL := ⟨_, rfl⟩
        have hlen : KL.length ≤ 12 := by rw [← hK]; unfold stL; rw [List.length_map, List.length_take]; omega
        obtain ⟨y, hy⟩ : ∃ y, s.2.1 = y := ⟨_, rfl⟩
        have HKS := Lib.hid (show stL n (k + 1) = KL ++ [y] by rw [stL_step hs, hK, hy])
        rw [hy] at x1
        rw [hK] at HO ⊢
        obtain ⟨it, hit⟩ : ∃ it : Int, s.1 = it := ⟨_, rfl⟩
        rw [hit] at x0
        clear hs hK hy sb1 sR hit
        have gN := eqbox2 (show (w3.alloc (.cells #[.int .i64 it, .int .i64 y, .slice sA s.2.2.length sc] 67)).alloc (.cells #[.int .i64 y] 3) = (w3.alloc (.cells #[.int .i64 it, .int .i64 y, .slice sA s.2.2.length sc] 67)).alloc (.cells #[.int .i64 y] 3) from rfl)
        have HBA := Lib.hid (show Below w3.heap.size w3 ((w3.alloc (.cells #[.int .i64 it, .int .i64 y, .slice sA s.2.2.length sc] 67)).alloc (.cells #[.int .i64 y] 3)) from bAlloc (bAlloc (Below.refl _ _) (Nat.le_refl _) _) (Nat.le_refl _) _)
        have HBX := Lib.hid (bThen HB0.out HBA.out)
        have hsz := HBX.out.size
        have HOA := Lib.hid (HO.out.below HBA.out)
        have hbx := gN.2.1
        have HNB := Lib.hid (show ((w3.alloc (.cells #[.int .i64 it, .int .i64 y, .slice sA s.2.2.length sc] 67)).alloc (.cells #[.int .i64 y] 3)).heap[w3.heap.size + 1]? = some (.cells #[.int .i64 y] 3 (0, 0)) from gN.2.1)
        clear c0 c2 c3 hbx gN
        go_wp2_with (at_builtin; refine wpList_append_all (by rfl) _ _ 26 (by rfl) W0.heap.size 3 i0 (.int .i64 0) 1 8 Try.underlying26 hi hz0 hz1 hz2 rfl (by omega) (.slice A KL.length c) KL.length (KL.map vI) (by rfl) HOA.out (some ⟨w3.heap.size + 1, 0, none⟩) 1 1 [.int .i64 y] (by rfl) (by rfl) (.inr ⟨_, rfl, World.news_of_block HNB.out⟩) (by simp [Value.oneCell']) (by unfold maxLen; omega) (by omega) hsz ?_; intro A' c' w7 hown7 hgrow7 hkeep7 hat7)
        have HB7 := Lib.hid ((HBX.out.grown hgrow7 HBX.out.size (fun g hg => (HO.out.lt g hg).1)))
        have HO7 := Lib.hid (show OwnsI w7 W0.heap.size (.slice A' (KL.length + 1) c') (KL ++ [y]) from (by unfold OwnsI; rw [List.length_append, List.map_append]; exact hown7))
        clear hown7 hgrow7 hkeep7 hat7 hsz
        go_roundw
        case rel => exact ⟨k + 1, A', c', by omega, by go_num, by rw [HKS.out, List.length_append]; rfl, by rw [HKS.out, List.length_append]; exact HO7.out, HB7.out⟩
        case measure => simp [intOf] <;> omega
      · obtain rfl : k = n.2.1.length := by omega
        clear hlt c0 c1 c2 c3
        rw [stL_all, HE.out] at HO ⊢
        go_wp2
        go_ret
        exact ⟨_, rfl, HO.out.lower HW0.out.size, HB.out⟩
set_option maxRecDepth 100000 in
set_option maxHeartbeats 6400000 in
theorem specStart_at (n : DNet) (us : List Value) (w : World) (h : rdNet 0 w.heap.size w us n) {L : List Int} (hL : startO n = L) :
    Calls Try.prog 37 #[.agg us.toArray] w fun e w' => ∃ v', e = .returned v' ∧ OwnsI w' w.heap.size v' L ∧ Below w.heap.size w w' := by
  obtain ⟨i0, hi, hz0, hz1, hz2⟩ := info_parts infoI
  have HD := Lib.hid h
  obtain ⟨f, hf⟩ : ∃ f, netB n = f := ⟨_, rfl⟩
  have HF := Lib.hid hf
  have HX := Lib.hid hL
  clear hf hL
  obtain ⟨mu0, mu1, mu2, mu3, rfl, mh0, mh1, mh2, mh3⟩ := h
  obtain ⟨me0, -⟩ := mh0
  injection me0 with me0
  subst me0
  obtain ⟨mA1, mc1, me1, mm1, -⟩ := slice_of mh1
  subst me1
  have mR1 := Lib.hid mh1
  clear mh1
  obtain ⟨mA2, mc2, me2, mm2, -⟩ := slice_of mh2
  subst me2
  have mR2 := Lib.hid mh2
  clear mh2
  obtain ⟨mA3, mc3, me3, mm3, -⟩ := slice_of mh3
  subst me3
  have mR3 := Lib.hid mh3
  clear mh3
  go_enter Try.func37, Try.ntmps37
  go_wp2_with fail
  obtain ⟨W0, hV⟩ : ∃ W0, W0 = ((w.alloc (.cells #[.int .i64 n.1, .slice mA1 (n.2.1).length mc1, .slice mA2 (n.2.2.1).length mc2, .slice mA3 (n.2.2.2).length mc3] 28)).alloc (.cells #[] 3)) := ⟨_, rfl⟩
  have hO0 : OwnsI ((w.alloc (.cells #[.int .i64 n.1, .slice mA1 (n.2.1).length mc1, .slice mA2 (n.2.2.1).length mc2, .slice mA3 (n.2.2.2).length mc3] 28)).alloc (.cells #[] 3)) (w.heap.size + 1) (.slice (some ⟨w.heap.size + 1, 0, none⟩) 0 0) [] := by have := own_newI (w.alloc (.cells #[.int .i64 n.1, .slice mA1 (n.2.1).length mc1, .slice mA2 (n.2.2.1).length mc2, .slice mA3 (n.2.2.2).length mc3] 28)) (w.heap.size + 1) (by simp); simpa using this
  rw [← hV] at hO0 ⊢
  have gN := eqbox2 hV
  have HO := Lib.hid hO0
  have d0 : W0.cell? ⟨w.heap.size, 0, none⟩ = some (.int .i64 n.1) := box_cell gN.1 0 _ rfl
  have d1 : W0.cell? ⟨w.heap.size, 1, none⟩ = some (.slice mA1 (n.2.1).length mc1) := box_cell gN.1 1 _ rfl
  have d2 : W0.cell? ⟨w.heap.size, 2, none⟩ = some (.slice mA2 (n.2.2.1).length mc2) := box_cell gN.1 2 _ rfl
  have d3 : W0.cell? ⟨w.heap.size, 3, none⟩ = some (.slice mA3 (n.2.2.2).length mc3) := box_cell gN.1 3 _ rfl
  have sW0 : W0.heap.size = w.heap.size + 2 := by rw [hV]; simp
  have HW0 := Lib.hid gN.2.2
  clear hV gN hO0
  have HE0 := Lib.hid d0
  have HE1 := Lib.hid d1
  have HE2 := Lib.hid d2
  have HE3 := Lib.hid d3
  refine (specNetOk_at n _ _ (rdUp good_Net HD.out HW0.out) HF.out).mono ?_
  rintro e w1 ⟨rfl, hb⟩
  replace d0 := keep hb d0
  replace d1 := keep hb d1
  replace d2 := keep hb d2
  replace d3 := keep hb d3
  have HB02 := Lib.hid hb
  replace HO := Lib.hid (HO.out.below hb)
  clear hb
  cases f with
  | false =>
    have HE := Lib.hid ((start_no HF.out).symm.trans HX.out)
    go_wp2
    go_ret
    refine ⟨_, rfl, ?_, bThen HW0.out HB02.out⟩
    rw [← HE.out]
    exact HO.out.lower (by omega)
  | true =>
    have HE := Lib.hid ((start_yes HF.out).symm.trans HX.out)
    have hs12 := (netP_of HF.out).sz.s12
    go_wp2
    clear d0 d1 d2 d3
    go_loopw [3, 4] (fun s z wr => ∃ (k : Nat) (A : Option Addr) (c : Nat), k ≤ n.2.1.length ∧ z = .int .i64 (k : Int) ∧ s = .slice A (stL n k).length c ∧ OwnsI wr (w.heap.size + 1) (.slice A (stL n k).length c) (stL n k) ∧ Below (w.heap.size + 1) W0 wr) (fun _ z _ => n.2.1.length - (intOf z).toNat)
    case atStart => exact ⟨0, some ⟨w.heap.size + 1, 0, none⟩, 0, Nat.zero_le _, rfl, rfl, HO.out, HB02.out.mono (by omega)⟩
    case round =>
      obtain ⟨k, A, c, hk, rfl, rfl, hown, hb⟩ := hrel
      obtain ⟨w3, rfl⟩ : ∃ w3, w3 = wr := ⟨_, rfl⟩
      clear HO HB02
      have HO := Lib.hid hown
      have HB0 := Lib.hid hb
      have HB := Lib.hid (show Below w.heap.size w w3 from HW0.out.trans (hb.mono (by omega)))
      have c1 : w3.cell? ⟨w.heap.size, 1, none⟩ = some (.slice mA1 (n.2.1).length mc1) := (hb.cell (p := ⟨w.heap.size, 1, none⟩) (by dsimp only; omega)).trans HE1.out
      have c0 := True.intro
      have c2 := True.intro
      have c3 := True.intro
      clear hown hb
      by_cases hlt : k < n.2.1.length
      · obtain ⟨s, hs⟩ : ∃ s, n.2.1[k]? = some s := ⟨_, List.getElem?_eq_getElem hlt⟩
        obtain ⟨sb, sq, sA, sc, rfl, sb1, x0, -, x1, -, x2, sR⟩ := at_Seq (good_SeqS.below mR1.out (Nat.le_refl _) HB.out) hs
        have sb2 := Nat.lt_of_lt_of_le sb1 HB.out.size
        have tk : (k : Int) < (n.2.1.length : Int) := by omega
        obtain ⟨KL, hK⟩ : ∃ KL, stL n k = KL := ⟨_, rfl⟩
        have hlen : KL.length ≤ 12 := by rw [← hK]; unfold stL; rw [List.length_map, List.length_take]; omega
        obtain ⟨y, hy⟩ : ∃ y, s.2.1 = y := ⟨_, rfl⟩
        have HKS := Lib.hid (show stL n (k + 1) = KL ++ [y] by rw [stL_step hs, hK, hy])
        rw [hy] at x1
        rw [hK] at HO ⊢
        obtain ⟨it, hit⟩ : ∃ it : Int, s.1 = it := ⟨_, rfl⟩
        rw [hit] at x0
        clear hs hK hy sb1 sR hit
        have HBA := Lib.hid (show Below w3.heap.size w3 (w3.alloc (.cells #[.int .i64 y] 3)) from bAlloc (Below.refl _ _) (Nat.le_refl _) _)
        have HBX := Lib.hid (show Below (w.heap.size + 1) W0 (w3.alloc (.cells #[.int .i64 y] 3)) from HB0.out.trans (HBA.out.mono (by have := HB0.out.size; omega)))
        have hsz := Lib.hid (show w.heap.size + 1 ≤ (w3.alloc (.cells #[.int .i64 y] 3)).heap.size by have := HBX.out.size; omega)
        have HOA := Lib.hid (HO.out.below HBA.out)
        clear c0 c2 c3
        go_wp2_with (at_builtin; refine wpList_append_all (by rfl) _ _ 26 (by rfl) (w.heap.size + 1) 3 i0 (.int .i64 0) 1 8 Try.underlying26 hi hz0 hz1 hz2 rfl (by omega) (.slice A KL.length c) KL.length (KL.map vI) (by rfl) HOA.out (some ⟨w3.heap.size, 0, none⟩) 1 1 [.int .i64 y] (by rfl) (by rfl) (.inr ⟨_, rfl, World.news_of_block (heap_alloc_new _ _)⟩) (by simp [Value.oneCell']) (by unfold maxLen; omega) (by omega) hsz.out ?_; intro A' c' w7 hown7 hgrow7 hkeep7 hat7)
        have HB7 := Lib.hid ((HBX.out.grown hgrow7 hsz.out (fun g hg => (HO.out.lt g hg).1)))
        have HO7 := Lib.hid (show OwnsI w7 (w.heap.size + 1) (.slice A' (KL.length + 1) c') (KL ++ [y]) from (by unfold OwnsI; rw [List.length_append, List.map_append]; exact hown7))
        clear hown7 hgrow7 hkeep7 hat7 hsz
        go_roundw
        case rel => exact ⟨k + 1, A', c', by omega, by go_num, by rw [HKS.out, List.length_append]; rfl, by rw [HKS.out, List.length_append]; exact HO7.out, HB7.out⟩
        case measure => simp [intOf] <;> omega
      · obtain rfl : k = n.2.1.length := by omega
        clear hlt c0 c2 c3
        rw [stL_all, HE.out] at HO ⊢
        go_wp2
        go_ret
        exact ⟨_, rfl, HO.out.lower (by omega), HB.out⟩
end Go.Proofs.Ytaebiiopommhdaa
