/-
  The literals of the leaves: the program.
-/
import Derived.Test.YtedamhkcblemdaaHiE
import Derived.Deep.RegionHeld3
namespace Go.Proofs.Ytedamhkcblemdaa
open Go.RowKit
set_option linter.unusedVariables false
set_option linter.unusedSimpArgs false

theorem andNode0_at (n : DNet) (us : List Value) {B T : Nat} (w : World) (h : rdNet B T w us n) (hT : T ≤ w.heap.size) (hS : SizeP n) :
    Calls Try.prog 72 #[.agg us.toArray, .int .i64 0] w fun e w' => e = .returned (.int .i64 ((firN n : Nat) : Int)) ∧ Below w.heap.size w w' := by
  have h := andNode_at n 0 us w h hT hS (by omega)
  rw [Nat.add_zero] at h
  exact h
set_option maxRecDepth 100000 in
set_option maxHeartbeats 6400000 in
theorem leaf_at (n : DNet) (us : List Value) (w : World) (h : rdNet 0 w.heap.size w us n) (hS : SizeP n) :
    Calls Try.prog 51 #[.agg us.toArray] w fun e w' => ∃ v', e = .returned v' ∧ OwnsI w' w.heap.size v' (toK0 n) ∧ Below w.heap.size w w' := by
  obtain ⟨i0, hi, hz0, hz1, hz2⟩ := info_parts infoI
  have HD := Lib.hid h
  have HP := Lib.hid hS
  have hf33 : firN n ≤ 40 := by have := hS.i20; have := hS.s12; unfold firN; omega
  obtain ⟨mu0, mu1, mu2, mu3, rfl, mh0, mh1, mh2, mh3⟩ := h
  obtain ⟨me0, -⟩ := mh0
  injection me0 with me0
  subst me0
  obtain ⟨mA1, mc1, me1, mm1, -⟩ := slice_of mh1
  subst me1
  have mR1 := Lib.hid mh1
  clear mh1
  obtain ⟨mA2, mc2, me2, mm2, -⟩ := slice_of mh2
  subst me2
  have mR2 := Lib.hid mh2
  clear mh2
  obtain ⟨mA3, mc3, me3, mm3, -⟩ := slice_of mh3
  subst me3
  have mR3 := Lib.hid mh3
  clear mh3
  go_enter Try.func51, Try.ntmps51
  go_wp2_with fail
  obtain ⟨W0, hV⟩ : ∃ W0, W0 = (w.alloc (.cells #[.int .i64 n.1, .slice mA1 (n.2.1).length mc1, .slice mA2 (n.2.2.1).length mc2, .slice mA3 (n.2.2.2).length mc3] 36)) := ⟨_, rfl⟩
  rw [← hV]
  have gN := eqbox1 hV
  have d0 : W0.cell? ⟨w.heap.size, 0, none⟩ = some (.int .i64 n.1) := box_cell gN.1 0 _ rfl
  have d1 : W0.cell? ⟨w.heap.size, 1, none⟩ = some (.slice mA1 (n.2.1).length mc1) := box_cell gN.1 1 _ rfl
  have d2 : W0.cell? ⟨w.heap.size, 2, none⟩ = some (.slice mA2 (n.2.2.1).length mc2) := box_cell gN.1 2 _ rfl
  have d3 : W0.cell? ⟨w.heap.size, 3, none⟩ = some (.slice mA3 (n.2.2.2).length mc3) := box_cell gN.1 3 _ rfl
  have sW0 : W0.heap.size = w.heap.size + 1 := by rw [hV]; simp
  have HW0 := Lib.hid gN.2
  clear hV gN
  refine (andNode0_at n _ _ (rdUp good_Net HD.out HW0.out) (Nat.le_refl _) HP.out).mono ?_
  rintro e w1 ⟨rfl, hb⟩
  have HB := Lib.hid (bThen HW0.out hb)
  have HO := Lib.hid ((own_nilI w1 w.heap.size))
  clear hb d0 d1 d2 d3
  go_wp2
  go_loopw [3, 7] (fun s z wr => ∃ (k : Nat) (A : Option Addr) (c : Nat), k ≤ firN n ∧ z = .int .i64 (k : Int) ∧ s = .slice A k c ∧ OwnsI wr w.heap.size (.slice A k c) ((toK0 n).take k) ∧ Below w.heap.size w wr) (fun _ z _ => firN n - (intOf z).toNat)
  case atStart => exact ⟨0, none, 0, Nat.zero_le _, rfl, rfl, HO.out, HB.out⟩
  case round =>
    obtain ⟨k, A, c, hk, rfl, rfl, hown, hb⟩ := hrel
    obtain ⟨w3, rfl⟩ : ∃ w3, w3 = wr := ⟨_, rfl⟩
    clear HO HB
    have HO := Lib.hid hown
    have HB := Lib.hid hb
    clear hown hb
    by_cases hlt : k < firN n
    · have tk : (k : Int) < ((firN n : Nat) : Int) := by omega
      obtain ⟨KL, hKL⟩ : ∃ KL, (toK0 n).take k = KL := ⟨_, rfl⟩
      obtain ⟨y, hy⟩ : ∃ y : Int, ((2 * k : Nat) : Int) = y := ⟨_, rfl⟩
      have HNX := Lib.hid (show (toK0 n).take (k + 1) = KL ++ [y] by rw [List.take_add_one, toK0_at hlt, hKL, ← hy]; rfl)
      have HLK := Lib.hid (show KL.length = k by rw [← hKL, List.length_take, toK0_len]; omega)
      have HY := Lib.hid hy
      rw [hKL] at HO
      have HBA := Lib.hid (show Below w3.heap.size w3 (w3.alloc (.cells #[.int .i64 y] 3)) from bAlloc (Below.refl _ _) (Nat.le_refl _) _)
      have HNBk := Lib.hid (show (w3.alloc (.cells #[.int .i64 y] 3)).heap[w3.heap.size]? = some (.cells #[.int .i64 y] 3 (0, 0)) from heap_alloc_new _ _)
      have HOA := Lib.hid (HO.out.below HBA.out)
      have hsz := Lib.hid (show w.heap.size ≤ (w3.alloc (.cells #[.int .i64 y] 3)).heap.size from Nat.le_trans HB.out.size HBA.out.size)
      have HOR := Lib.hid (show (w3.alloc (.cells #[.int .i64 y] 3)).ownsRow w.heap.size 3 1 (.slice A k c) k (KL.map vI) by have h := HOA.out; unfold OwnsI at h; rw [HLK.out] at h; exact h)
      clear hKL hy
      go_wp2_with fail
      refine (litOf_at k (by omega) _).mono ?_
      rintro e w4 ⟨rfl, rfl⟩
      rw [HY.out]
      go_wp2_with (at_builtin; refine wpList_append_all (by rfl) _ _ 64 (by rfl) w.heap.size 3 i0 (.int .i64 0) 1 8 Try.underlying64 hi hz0 hz1 hz2 rfl (by omega) (.slice A k c) k (KL.map vI) (by rfl) HOR.out (some ⟨w3.heap.size, 0, none⟩) 1 1 [.int .i64 y] (by rfl) (by rfl) (.inr ⟨_, rfl, World.news_of_block HNBk.out⟩) (by simp [Value.oneCell']) (by unfold maxLen; omega) (by omega) hsz.out ?_; intro A' c' w7 hown7 hgrow7 hkeep7 hat7)
      have HB7 := Lib.hid (((bThen HB.out HBA.out).grown hgrow7 hsz.out (fun g hg => (HO.out.lt g hg).1)))
      have HO7 := Lib.hid (show OwnsI w7 w.heap.size (.slice A' (k + 1) c') (KL ++ [y]) from (by unfold OwnsI; rw [List.length_append, List.map_append, HLK.out]; exact hown7))
      clear hown7 hgrow7 hkeep7 hat7 hsz
      go_roundw
      case rel => exact ⟨k + 1, A', c', by omega, by go_num, rfl, by rw [HNX.out]; exact HO7.out, HB7.out⟩
      case measure => simp [intOf] <;> omega
    · obtain rfl : k = firN n := by omega
      have HO2 := HO.out
      rw [List.take_of_length_le (by rw [toK0_len]; exact Nat.le_refl _)] at HO2
      have HO3 := Lib.hid HO2
      clear hlt HO2
      go_wp2
      go_ret
      exact ⟨_, rfl, HO3.out, HB.out⟩
end Go.Proofs.Ytedamhkcblemdaa
