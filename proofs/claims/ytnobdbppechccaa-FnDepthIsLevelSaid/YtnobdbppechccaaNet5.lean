/-
  Roots, both sides; the nodes of the roots.
-/
import Derived.Test.YtnobdbppechccaaNet4
import Derived.Deep.RegionHeld3
namespace Go.Proofs.Ytnobdbppechccaa
open Go.RowKit
set_option linter.unusedVariables false
set_option linter.unusedSimpArgs false

def rootsO (n : DNet) : List Int := if netB n then rootsL n else []
theorem net_parts {n : DNet} (h : netB n = true) : sizesB n = true ∧ n.2.1.all seqB = true := by
  unfold netB at h
  simp only [Bool.and_eq_true] at h
  exact ⟨h.1, h.2.1⟩
theorem rootsO_in {n : DNet} {us : List Value} {B T : Nat} {w : World} (h : rdNet B T w us n) : ∀ x ∈ rootsO n, Fit x := by
  unfold rootsO
  split
  · exact roots_fit h
  · simp
theorem rootsO_len (n : DNet) : (rootsO n).length ≤ 64 := by
  unfold rootsO
  split
  · rename_i h; exact (netP_of h).roots_le
  · simp
/-- The nodes of literals. -/
def nodesL (R : List Int) : List Int := R.map fun r => ((r.toNat / 2 : Nat) : Int)
theorem nodes_step {R : List Int} {k x : Nat} (h : R[k]? = some (x : Int)) : nodesL (R.take (k + 1)) = nodesL (R.take k) ++ [((x / 2 : Nat) : Int)] := by
  unfold nodesL; rw [List.take_add_one, h, List.map_append]; simp
theorem nodes_len (R : List Int) : (nodesL R).length = R.length := by unfold nodesL; simp

set_option maxRecDepth 100000 in
set_option maxHeartbeats 3200000 in
theorem specRootsO_at (n : DNet) (us : List Value) (w : World) (h : rdNet 0 w.heap.size w us n) {L : List Int} (hL : rootsO n = L) :
    Calls Try.prog 21 #[.agg us.toArray] w fun e w' => ∃ v, e = .returned v ∧ OwnsI w' w.heap.size v L ∧ Below w.heap.size w w' := by
  have HD := Lib.hid h
  obtain ⟨f, hf⟩ : ∃ f, netB n = f := ⟨_, rfl⟩
  have HF := Lib.hid hf
  have HX := Lib.hid hL
  clear hf hL
  obtain ⟨mu0, mu1, mu2, mu3, rfl, mh0, mh1, mh2, mh3⟩ := h
  obtain ⟨me0, -⟩ := mh0
  injection me0 with me0
  subst me0
  obtain ⟨mA1, mc1, me1, mm1, -⟩ := slice_of mh1
  subst me1
  have mR1 := Lib.hid mh1
  clear mh1
  obtain ⟨mA2, mc2, me2, mm2, -⟩ := slice_of mh2
  subst me2
  have mR2 := Lib.hid mh2
  clear mh2
  obtain ⟨mA3, mc3, me3, mm3, -⟩ := slice_of mh3
  subst me3
  have mR3 := Lib.hid mh3
  clear mh3
  go_enter Try.func21, Try.ntmps21
  go_wp2_with fail
  obtain ⟨W0, hV⟩ : ∃ W0, W0 = (w.alloc (.cells #[.int .i64 n.1, .slice mA1 (n.2.1).length mc1, .slice mA2 (n.2.2.1).length mc2, .slice mA3 (n.2.2.2).length mc3] 28)) := ⟨_, rfl⟩
  rw [← hV]
  have gN := eqbox1 hV
  have d0 : W0.cell? ⟨w.heap.size, 0, none⟩ = some (.int .i64 n.1) := box_cell gN.1 0 _ rfl
  have d1 : W0.cell? ⟨w.heap.size, 1, none⟩ = some (.slice mA1 (n.2.1).length mc1) := box_cell gN.1 1 _ rfl
  have d2 : W0.cell? ⟨w.heap.size, 2, none⟩ = some (.slice mA2 (n.2.2.1).length mc2) := box_cell gN.1 2 _ rfl
  have d3 : W0.cell? ⟨w.heap.size, 3, none⟩ = some (.slice mA3 (n.2.2.2).length mc3) := box_cell gN.1 3 _ rfl
  have sW0 : W0.heap.size = w.heap.size + 1 := by rw [hV]; simp
  have HW0 := Lib.hid gN.2
  clear hV gN
  refine (specNetOk_at n _ _ (rdUp good_Net HD.out HW0.out) HF.out).mono ?_
  rintro e w1 ⟨rfl, hb⟩
  replace d0 := keep hb d0
  replace d1 := keep hb d1
  replace d2 := keep hb d2
  replace d3 := keep hb d3
  have HB := Lib.hid (bThen HW0.out hb)
  clear hb
  cases f with
  | false =>
    have HE := Lib.hid (show [] = L by rw [← HX.out]; unfold rootsO; rw [HF.out]; rfl)
    go_wp2
    go_ret
    refine ⟨_, rfl, ?_, bAlloc HB.out (Nat.le_refl _) _⟩
    rw [← HE.out]
    exact own_newI _ _ HB.out.size
  | true =>
    have HE := Lib.hid (show rootsL n = L by rw [← HX.out]; unfold rootsO; rw [HF.out]; rfl)
    have h2 := net_parts HF.out
    have H2 := Lib.hid h2
    clear h2
    go_wp2_with fail
    refine (specRoots_at n _ _ (rdUp good_Net HD.out HB.out) H2.out.1 H2.out.2).mono ?_
    rintro e w2 ⟨v, rfl, ho, hb⟩
    obtain ⟨A, c, rfl, -⟩ := ho.shape
    have HO := Lib.hid ho
    have HB2 := Lib.hid (bThen HB.out hb)
    clear hb ho
    go_wp2
    go_ret
    rw [← HE.out]
    exact ⟨_, rfl, HO.out.lower HB.out.size, HB2.out⟩

set_option maxRecDepth 100000 in
set_option maxHeartbeats 3200000 in
theorem implRootsO_at (n : DNet) (us : List Value) (w : World) (h : rdNet 0 w.heap.size w us n) {L : List Int} (hL : rootsO n = L) :
    Calls Try.prog 16 #[.agg us.toArray] w fun e w' => ∃ v, e = .returned v ∧ OwnsI w' w.heap.size v L ∧ Below w.heap.size w w' := by
  have HD := Lib.hid h
  obtain ⟨f, hf⟩ : ∃ f, netB n = f := ⟨_, rfl⟩
  have HF := Lib.hid hf
  have HX := Lib.hid hL
  clear hf hL
  obtain ⟨mu0, mu1, mu2, mu3, rfl, mh0, mh1, mh2, mh3⟩ := h
  obtain ⟨me0, -⟩ := mh0
  injection me0 with me0
  subst me0
  obtain ⟨mA1, mc1, me1, mm1, -⟩ := slice_of mh1
  subst me1
  have mR1 := Lib.hid mh1
  clear mh1
  obtain ⟨mA2, mc2, me2, mm2, -⟩ := slice_of mh2
  subst me2
  have mR2 := Lib.hid mh2
  clear mh2
  obtain ⟨mA3, mc3, me3, mm3, -⟩ := slice_of mh3
  subst me3
  have mR3 := Lib.hid mh3
  clear mh3
  go_enter Try.func16, Try.ntmps16
  go_wp2_with fail
  obtain ⟨W0, hV⟩ : ∃ W0, W0 = (w.alloc (.cells #[.int .i64 n.1, .slice mA1 (n.2.1).length mc1, .slice mA2 (n.2.2.1).length mc2, .slice mA3 (n.2.2.2).length mc3] 28)) := ⟨_, rfl⟩
  rw [← hV]
  have gN := eqbox1 hV
  have d0 : W0.cell? ⟨w.heap.size, 0, none⟩ = some (.int .i64 n.1) := box_cell gN.1 0 _ rfl
  have d1 : W0.cell? ⟨w.heap.size, 1, none⟩ = some (.slice mA1 (n.2.1).length mc1) := box_cell gN.1 1 _ rfl
  have d2 : W0.cell? ⟨w.heap.size, 2, none⟩ = some (.slice mA2 (n.2.2.1).length mc2) := box_cell gN.1 2 _ rfl
  have d3 : W0.cell? ⟨w.heap.size, 3, none⟩ = some (.slice mA3 (n.2.2.2).length mc3) := box_cell gN.1 3 _ rfl
  have sW0 : W0.heap.size = w.heap.size + 1 := by rw [hV]; simp
  have HW0 := Lib.hid gN.2
  clear hV gN
  refine (implNetOk_at n _ _ (rdUp good_Net HD.out HW0.out) HF.out).mono ?_
  rintro e w1 ⟨rfl, hb⟩
  replace d0 := keep hb d0
  replace d1 := keep hb d1
  replace d2 := keep hb d2
  replace d3 := keep hb d3
  have HB := Lib.hid (bThen HW0.out hb)
  clear hb
  cases f with
  | false =>
    have HE := Lib.hid (show [] = L by rw [← HX.out]; unfold rootsO; rw [HF.out]; rfl)
    go_wp2
    go_ret
    refine ⟨_, rfl, ?_, HB.out⟩
    rw [← HE.out]
    exact own_nilI _ _
  | true =>
    have HE := Lib.hid (show rootsL n = L by rw [← HX.out]; unfold rootsO; rw [HF.out]; rfl)
    have h2 := net_parts HF.out
    have H2 := Lib.hid h2
    clear h2
    go_wp2_with fail
    refine (implRoots_at n _ _ (rdUp good_Net HD.out HB.out) H2.out.1 H2.out.2).mono ?_
    rintro e w2 ⟨v, rfl, ho, hb⟩
    obtain ⟨A, c, rfl, -⟩ := ho.shape
    have HO := Lib.hid ho
    have HB2 := Lib.hid (bThen HB.out hb)
    clear hb ho
    go_wp2
    go_ret
    rw [← HE.out]
    exact ⟨_, rfl, HO.out.lower HB.out.size, HB2.out⟩

set_option maxRecDepth 100000 in
set_option maxHeartbeats 6400000 in
theorem rootNodes_at (n : DNet) (us : List Value) (w : World) (h : rdNet 0 w.heap.size w us n) (hP : NetP n) (hb : sizesB n = true ∧ n.2.1.all seqB = true) :
    Calls Try.prog 47 #[.agg us.toArray] w fun e w' => ∃ v, e = .returned v ∧ OwnsI w' w.heap.size v (nodesL (rootsL n)) ∧ Below w.heap.size w w' := by
  obtain ⟨i0, hi, hz0, hz1, hz2⟩ := info_parts infoI
  have HD := Lib.hid h
  have HP := Lib.hid hP
  have H2 := Lib.hid hb
  have hr64 := hP.roots_le
  clear hP hb
  obtain ⟨mu0, mu1, mu2, mu3, rfl, mh0, mh1, mh2, mh3⟩ := h
  obtain ⟨me0, -⟩ := mh0
  injection me0 with me0
  subst me0
  obtain ⟨mA1, mc1, me1, mm1, -⟩ := slice_of mh1
  subst me1
  have mR1 := Lib.hid mh1
  clear mh1
  obtain ⟨mA2, mc2, me2, mm2, -⟩ := slice_of mh2
  subst me2
  have mR2 := Lib.hid mh2
  clear mh2
  obtain ⟨mA3, mc3, me3, mm3, -⟩ := slice_of mh3
  subst me3
  have mR3 := Lib.hid mh3
  clear mh3
  go_enter Try.func47, Try.ntmps47
  go_wp2_with fail
  obtain ⟨W0, hV⟩ : ∃ W0, W0 = (w.alloc (.cells #[.int .i64 n.1, .slice mA1 (n.2.1).length mc1, .slice mA2 (n.2.2.1).length mc2, .slice mA3 (n.2.2.2).length mc3] 28)) := ⟨_, rfl⟩
  rw [← hV]
  have gN := eqbox1 hV
  have d0 : W0.cell? ⟨w.heap.size, 0, none⟩ = some (.int .i64 n.1) := box_cell gN.1 0 _ rfl
  have d1 : W0.cell? ⟨w.heap.size, 1, none⟩ = some (.slice mA1 (n.2.1).length mc1) := box_cell gN.1 1 _ rfl
  have d2 : W0.cell? ⟨w.heap.size, 2, none⟩ = some (.slice mA2 (n.2.2.1).length mc2) := box_cell gN.1 2 _ rfl
  have d3 : W0.cell? ⟨w.heap.size, 3, none⟩ = some (.slice mA3 (n.2.2.2).length mc3) := box_cell gN.1 3 _ rfl
  have sW0 : W0.heap.size = w.heap.size + 1 := by rw [hV]; simp
  have HW0 := Lib.hid gN.2
  clear hV gN
  refine (implRoots_at n _ _ (rdUp good_Net HD.out HW0.out) H2.out.1 H2.out.2).mono ?_
  rintro e w1 ⟨v, rfl, ho, hb⟩
  obtain ⟨rA, rc, rfl, -⟩ := ho.shape
  have HO := Lib.hid ho
  have HB1 := Lib.hid (bThen HW0.out hb)
  clear hb ho d0 d1 d2 d3
  obtain ⟨R, hR⟩ : ∃ R, rootsL n = R := ⟨_, rfl⟩
  have HRR := Lib.hid hR
  have HRP := Lib.hid (show ∀ k x, R[k]? = some x → ∃ l : Nat, x = (l : Int) ∧ l / 2 < netN n from fun k x h => HP.out.root x (by rw [hR]; exact List.mem_of_getElem? h))
  rw [hR] at HO hr64 ⊢
  have HRF := Lib.hid (show ∀ x ∈ R, Fit x by rw [← hR]; exact roots_fit HD.out)
  clear hR
  go_wp2
  go_loopw [3, 9] (fun v x wr => ∃ (k : Nat) (A : Option Addr) (c : Nat), k ≤ R.length ∧ x = .int .i64 (k : Int) ∧ v = .slice A k c ∧ OwnsI wr w1.heap.size (.slice A k c) (nodesL (R.take k)) ∧ Below w1.heap.size w1 wr) (fun _ x _ => R.length - (intOf x).toNat)
  case atStart => exact ⟨0, none, 0, Nat.zero_le _, rfl, rfl, own_nilI _ _, Below.refl _ _⟩
  case round =>
    obtain ⟨k, A, c, hk, rfl, rfl, hown, hb⟩ := hrel
    obtain ⟨w2, rfl⟩ : ∃ w2, w2 = wr := ⟨_, rfl⟩
    have HN := Lib.hid hown
    have HB0 := Lib.hid hb
    have HB := Lib.hid (bThen HB1.out hb)
    clear hown hb
    by_cases hlt : k < R.length
    · obtain ⟨x, hx⟩ : ∃ x, R[k]? = some x := ⟨_, List.getElem?_eq_getElem hlt⟩
      obtain ⟨l, rfl, hl⟩ := HRP.out k x hx
      have hr0 := ownI_rd (HO.out.below HB0.out) HRF.out
      obtain ⟨xb, xq, rfl, xlt, xc, xf⟩ := at_Int hr0 hx
      have HS := Lib.hid (nodes_step hx)
      have hlen : (nodesL (R.take k)).length = k := by rw [nodes_len, List.length_take]; omega
      have HLEN := Lib.hid hlen
      unfold Fit at xf
      have l63 : l ≤ 9223372036854775807 := by omega
      clear hx xf hr0 hl hlen
      go_wp2_with fail
      refine (nodeOf_at l _ l63).mono ?_
      rintro e w3 ⟨rfl, hb3⟩
      obtain ⟨q, hq⟩ : ∃ q : Int, ((l / 2 : Nat) : Int) = q := ⟨_, rfl⟩
      rw [hq] at HS ⊢
      have HQ := Lib.hid hq
      have HB3 := Lib.hid (bThen HB0.out hb3)
      have HBA := Lib.hid (show Below w3.heap.size w3 (w3.alloc (.cells #[.int .i64 q] 3)) from bAlloc (Below.refl _ _) (Nat.le_refl _) _)
      have HN3 := Lib.hid (HN.out.below (bThen hb3 HBA.out))
      have HBB := Lib.hid (bThen HB3.out HBA.out)
      have hsz := HBB.out.size
      have hrow := HN3.out
      unfold OwnsI at hrow
      rw [HLEN.out] at hrow
      have HROW := Lib.hid hrow
      clear hq hb3 xc hrow
      go_wp2_with (at_builtin; refine wpList_append_all (by rfl) _ _ 26 (by rfl) w1.heap.size 3 i0 (.int .i64 0) 1 8 Try.underlying26 hi hz0 hz1 hz2 rfl (by omega) (.slice A k c) k ((nodesL (R.take k)).map vI) (by rfl) HROW.out (some ⟨w3.heap.size, 0, none⟩) 1 1 [.int .i64 q] (by rfl) (by rfl) (.inr ⟨_, rfl, World.news_of_block (heap_alloc_new _ _)⟩) (by simp [Value.oneCell']) (by unfold maxLen; omega) (by omega) hsz ?_; intro A' c' w4 hown hgrow hkeep hat)
      have HB4 := Lib.hid (HBB.out.grown hgrow HBB.out.size (fun g hg => (HN.out.lt g hg).1))
      have HO4 := Lib.hid (show OwnsI w4 w1.heap.size (.slice A' (k + 1) c') (nodesL (R.take k) ++ [q]) from (by unfold OwnsI; rw [List.length_append, HLEN.out, List.map_append]; exact hown))
      clear hown hgrow hkeep hat hsz
      go_roundw
      case rel => exact ⟨k + 1, A', c', by omega, by go_num, by go_num, by rw [HS.out]; exact HO4.out, HB4.out⟩
      case measure => simp [intOf]; omega
    · obtain rfl : k = R.length := by omega
      have HE := HN
      rw [List.take_length] at HE
      clear hlt
      go_wp2
      go_ret
      exact ⟨_, rfl, by rw [HRR.out]; exact HE.out.lower HB1.out.size, HB.out⟩
end Go.Proofs.Ytnobdbppechccaa
