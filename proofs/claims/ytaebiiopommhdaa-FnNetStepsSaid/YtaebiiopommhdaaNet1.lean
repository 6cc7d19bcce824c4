/-
  The small functions over a net, both sides.
-/
import Derived.Test.YtaebiiopommhdaaNetM
import Derived.Test.YtaebiiopommhdaaOwN
import Derived.Test.YtaebiiopommhdaaAtAll
import Derived.Test.YtaebiiopommhdaaBits64
import Derived.Deep.RegionHeld3
namespace Go.Proofs.Ytaebiiopommhdaa
open Go.RowKit
set_option linter.unusedVariables false
set_option linter.unusedSimpArgs false

theorem specIn_at (x a b : Int) (w : World) {r : Bool} (hr : decide (a ≤ x ∧ x ≤ b) = r) :
    Calls Try.prog 48 #[.int .i64 x, .int .i64 a, .int .i64 b] w fun e w' => e = .returned (.bool r) ∧ Below w.heap.size w w' := by
  subst hr
  by_cases h1 : a ≤ x
  · have h2 : ¬ x < a := by omega
    go_enter Try.func48, Try.ntmps48
    go_wp2
    go_ret
    refine ⟨ret_bool ?_, by (repeat' (first | assumption | exact Below.refl _ _ | refine bDrewN ?_ _ | refine Below.drew ?_ | refine bAlloc ?_ (Nat.le_refl _) _ | refine bSet ?_ (by first | exact Nat.le_refl _ | omega | (simp <;> omega)) _))⟩
    simp [h1]
  · have h2 : x < a := by omega
    go_enter Try.func48, Try.ntmps48
    go_wp2
    go_ret
    refine ⟨ret_bool ?_, by (repeat' (first | assumption | exact Below.refl _ _ | refine bDrewN ?_ _ | refine Below.drew ?_ | refine bAlloc ?_ (Nat.le_refl _) _ | refine bSet ?_ (by first | exact Nat.le_refl _ | omega | (simp <;> omega)) _))⟩
    simp [h1]
    omega
set_option maxHeartbeats 3200000 in
theorem specNc_at (n : DNet) (us : List Value) {B T : Nat} (w : World) (h : rdNet B T w us n) (hT : T ≤ w.heap.size) {r : Int} (hr : ncI n = r) :
    Calls Try.prog 20 #[.agg us.toArray] w fun e w' => e = .returned (.int .i64 r) ∧ Below w.heap.size w w' := by
  have HR := Lib.hid hr
  clear hr
  obtain ⟨mu0, mu1, mu2, mu3, rfl, mh0, mh1, mh2, mh3⟩ := h
  obtain ⟨me0, -⟩ := mh0
  injection me0 with me0
  subst me0
  obtain ⟨mA1, mc1, me1, mm1, -⟩ := slice_of mh1
  subst me1
  have mR1 := Lib.hid mh1
  clear mh1
  obtain ⟨mA2, mc2, me2, mm2, -⟩ := slice_of mh2
  subst me2
  have mR2 := Lib.hid mh2
  clear mh2
  obtain ⟨mA3, mc3, me3, mm3, -⟩ := slice_of mh3
  subst me3
  have mR3 := Lib.hid mh3
  clear mh3
  obtain ⟨b, hb⟩ : ∃ b, decide ((0 : Int) ≤ n.1 ∧ n.1 ≤ 20) = b := ⟨_, rfl⟩
  have HBB := Lib.hid hb
  clear hb
  cases b with
  | false =>
    go_enter Try.func20, Try.ntmps20
    go_wp2_with fail
    obtain ⟨W0, hV⟩ : ∃ W0, W0 = (w.alloc (.cells #[.int .i64 n.1, .slice mA1 (n.2.1).length mc1, .slice mA2 (n.2.2.1).length mc2, .slice mA3 (n.2.2.2).length mc3] 28)) := ⟨_, rfl⟩
    rw [← hV]
    have gN := eqbox1 hV
    have d0 : W0.cell? ⟨w.heap.size, 0, none⟩ = some (.int .i64 n.1) := box_cell gN.1 0 _ rfl
    have d1 : W0.cell? ⟨w.heap.size, 1, none⟩ = some (.slice mA1 (n.2.1).length mc1) := box_cell gN.1 1 _ rfl
    have d2 : W0.cell? ⟨w.heap.size, 2, none⟩ = some (.slice mA2 (n.2.2.1).length mc2) := box_cell gN.1 2 _ rfl
    have d3 : W0.cell? ⟨w.heap.size, 3, none⟩ = some (.slice mA3 (n.2.2.2).length mc3) := box_cell gN.1 3 _ rfl
    have sW0 : W0.heap.size = w.heap.size + 1 := by rw [hV]; simp
    have HW0 := Lib.hid gN.2
    clear hV gN
    refine (specIn_at _ _ _ _ HBB.out).mono ?_
    rintro e w1 ⟨rfl, hb⟩
    replace d0 := keep hb d0
    replace d1 := keep hb d1
    replace d2 := keep hb d2
    replace d3 := keep hb d3
    have HB := Lib.hid (bThen HW0.out hb)
    clear hb
    go_wp2
    go_ret
    refine ⟨ret_i64 ?_, HB.out⟩
    rw [← HR.out, nc_no]
    have := of_decide_eq_false HBB.out
    exact decide_eq_false (by omega)
  | true =>
    have hI := of_decide_eq_true HBB.out
    by_cases h1 : 12 < (n.2.1.length : Int)
    · go_enter Try.func20, Try.ntmps20
      go_wp2_with fail
      obtain ⟨W0, hV⟩ : ∃ W0, W0 = (w.alloc (.cells #[.int .i64 n.1, .slice mA1 (n.2.1).length mc1, .slice mA2 (n.2.2.1).length mc2, .slice mA3 (n.2.2.2).length mc3] 28)) := ⟨_, rfl⟩
      rw [← hV]
      have gN := eqbox1 hV
      have d0 : W0.cell? ⟨w.heap.size, 0, none⟩ = some (.int .i64 n.1) := box_cell gN.1 0 _ rfl
      have d1 : W0.cell? ⟨w.heap.size, 1, none⟩ = some (.slice mA1 (n.2.1).length mc1) := box_cell gN.1 1 _ rfl
      have d2 : W0.cell? ⟨w.heap.size, 2, none⟩ = some (.slice mA2 (n.2.2.1).length mc2) := box_cell gN.1 2 _ rfl
      have d3 : W0.cell? ⟨w.heap.size, 3, none⟩ = some (.slice mA3 (n.2.2.2).length mc3) := box_cell gN.1 3 _ rfl
      have sW0 : W0.heap.size = w.heap.size + 1 := by rw [hV]; simp
      have HW0 := Lib.hid gN.2
      clear hV gN
      refine (specIn_at _ _ _ _ HBB.out).mono ?_
      rintro e w1 ⟨rfl, hb⟩
      replace d0 := keep hb d0
      replace d1 := keep hb d1
      replace d2 := keep hb d2
      replace d3 := keep hb d3
      have HB := Lib.hid (bThen HW0.out hb)
      clear hb
      go_wp2
      go_ret
      refine ⟨ret_i64 ?_, HB.out⟩
      rw [← HR.out, nc_no]
      exact decide_eq_false (by omega)
    · by_cases h2 : 300 < (n.2.2.1.length : Int)
      · go_enter Try.func20, Try.ntmps20
        go_wp2_with fail
        obtain ⟨W0, hV⟩ : ∃ W0, W0 = (w.alloc (.cells #[.int .i64 n.1, .slice mA1 (n.2.1).length mc1, .slice mA2 (n.2.2.1).length mc2, .slice mA3 (n.2.2.2).length mc3] 28)) := ⟨_, rfl⟩
        rw [← hV]
        have gN := eqbox1 hV
        have d0 : W0.cell? ⟨w.heap.size, 0, none⟩ = some (.int .i64 n.1) := box_cell gN.1 0 _ rfl
        have d1 : W0.cell? ⟨w.heap.size, 1, none⟩ = some (.slice mA1 (n.2.1).length mc1) := box_cell gN.1 1 _ rfl
        have d2 : W0.cell? ⟨w.heap.size, 2, none⟩ = some (.slice mA2 (n.2.2.1).length mc2) := box_cell gN.1 2 _ rfl
        have d3 : W0.cell? ⟨w.heap.size, 3, none⟩ = some (.slice mA3 (n.2.2.2).length mc3) := box_cell gN.1 3 _ rfl
        have sW0 : W0.heap.size = w.heap.size + 1 := by rw [hV]; simp
        have HW0 := Lib.hid gN.2
        clear hV gN
        refine (specIn_at _ _ _ _ HBB.out).mono ?_
        rintro e w1 ⟨rfl, hb⟩
        replace d0 := keep hb d0
        replace d1 := keep hb d1
        replace d2 := keep hb d2
        replace d3 := keep hb d3
        have HB := Lib.hid (bThen HW0.out hb)
        clear hb
        go_wp2
        go_ret
        refine ⟨ret_i64 ?_, HB.out⟩
        rw [← HR.out, nc_no]
        exact decide_eq_false (by omega)
      · by_cases h3 : 16 < (n.2.2.2.length : Int)
        · go_enter Try.func20, Try.ntmps20
          go_wp2_with fail
          obtain ⟨W0, hV⟩ : ∃ W0, W0 = (w.alloc (.cells #[.int .i64 n.1, .slice mA1 (n.2.1).length mc1, .slice mA2 (n.2.2.1).length mc2, .slice mA3 (n.2.2.2).length mc3] 28)) := ⟨_, rfl⟩
          rw [← hV]
          have gN := eqbox1 hV
          have d0 : W0.cell? ⟨w.heap.size, 0, none⟩ = some (.int .i64 n.1) := box_cell gN.1 0 _ rfl
          have d1 : W0.cell? ⟨w.heap.size, 1, none⟩ = some (.slice mA1 (n.2.1).length mc1) := box_cell gN.1 1 _ rfl
          have d2 : W0.cell? ⟨w.heap.size, 2, none⟩ = some (.slice mA2 (n.2.2.1).length mc2) := box_cell gN.1 2 _ rfl
          have d3 : W0.cell? ⟨w.heap.size, 3, none⟩ = some (.slice mA3 (n.2.2.2).length mc3) := box_cell gN.1 3 _ rfl
          have sW0 : W0.heap.size = w.heap.size + 1 := by rw [hV]; simp
          have HW0 := Lib.hid gN.2
          clear hV gN
          refine (specIn_at _ _ _ _ HBB.out).mono ?_
          rintro e w1 ⟨rfl, hb⟩
          replace d0 := keep hb d0
          replace d1 := keep hb d1
          replace d2 := keep hb d2
          replace d3 := keep hb d3
          have HB := Lib.hid (bThen HW0.out hb)
          clear hb
          go_wp2
          go_ret
          refine ⟨ret_i64 ?_, HB.out⟩
          rw [← HR.out, nc_no]
          exact decide_eq_false (by omega)
        · have hy : sizesB n = true := decide_eq_true (by omega)
          have HE := Lib.hid (show firI n + n.2.2.1.length = r by rw [← HR.out]; unfold ncI; rw [if_pos hy])
          go_enter Try.func20, Try.ntmps20
          go_wp2_with fail
          obtain ⟨W0, hV⟩ : ∃ W0, W0 = (w.alloc (.cells #[.int .i64 n.1, .slice mA1 (n.2.1).length mc1, .slice mA2 (n.2.2.1).length mc2, .slice mA3 (n.2.2.2).length mc3] 28)) := ⟨_, rfl⟩
          rw [← hV]
          have gN := eqbox1 hV
          have d0 : W0.cell? ⟨w.heap.size, 0, none⟩ = some (.int .i64 n.1) := box_cell gN.1 0 _ rfl
          have d1 : W0.cell? ⟨w.heap.size, 1, none⟩ = some (.slice mA1 (n.2.1).length mc1) := box_cell gN.1 1 _ rfl
          have d2 : W0.cell? ⟨w.heap.size, 2, none⟩ = some (.slice mA2 (n.2.2.1).length mc2) := box_cell gN.1 2 _ rfl
          have d3 : W0.cell? ⟨w.heap.size, 3, none⟩ = some (.slice mA3 (n.2.2.2).length mc3) := box_cell gN.1 3 _ rfl
          have sW0 : W0.heap.size = w.heap.size + 1 := by rw [hV]; simp
          have HW0 := Lib.hid gN.2
          clear hV gN
          refine (specIn_at _ _ _ _ HBB.out).mono ?_
          rintro e w1 ⟨rfl, hb⟩
          replace d0 := keep hb d0
          replace d1 := keep hb d1
          replace d2 := keep hb d2
          replace d3 := keep hb d3
          have HB := Lib.hid (bThen HW0.out hb)
          clear hb hy
          go_wp2
          go_ret
          refine ⟨?_, HB.out⟩
          rw [← HE.out]
          unfold firI
          go_num
set_option maxHeartbeats 1600000 in
theorem andNode_at (n : DNet) (k : Nat) (us : List Value) {B T : Nat} (w : World) (h : rdNet B T w us n) (hT : T ≤ w.heap.size) (hS : SizeP n) (hk : k ≤ 300) :
    Calls Try.prog 84 #[.agg us.toArray, .int .i64 (k : Int)] w fun e w' => e = .returned (.int .i64 ((firN n + k : Nat) : Int)) ∧ Below w.heap.size w w' := by
  obtain ⟨mu0, mu1, mu2, mu3, rfl, mh0, mh1, mh2, mh3⟩ := h
  obtain ⟨me0, -⟩ := mh0
  injection me0 with me0
  subst me0
  obtain ⟨mA1, mc1, me1, mm1, -⟩ := slice_of mh1
  subst me1
  have mR1 := Lib.hid mh1
  clear mh1
  obtain ⟨mA2, mc2, me2, mm2, -⟩ := slice_of mh2
  subst me2
  have mR2 := Lib.hid mh2
  clear mh2
  obtain ⟨mA3, mc3, me3, mm3, -⟩ := slice_of mh3
  subst me3
  have mR3 := Lib.hid mh3
  clear mh3
  have h0 := hS.i0
  have h1 := hS.i20
  have h2 := hS.s12
  obtain ⟨I, hI⟩ : ∃ I : Nat, n.1.toNat = I := ⟨_, rfl⟩
  rw [hI] at h0 h1
  rw [h0]
  have HI := Lib.hid hI
  clear hI h0
  go_enter Try.func84, Try.ntmps84
  go_wp2
  go_ret
  refine ⟨ret_i64 ?_, by (repeat' (first | assumption | exact Below.refl _ _ | refine bDrewN ?_ _ | refine Below.drew ?_ | refine bAlloc ?_ (Nat.le_refl _) _ | refine bSet ?_ (by first | exact Nat.le_refl _ | omega | (simp <;> omega)) _))⟩
  unfold firN
  rw [HI.out]
  go_num
theorem specFirst_at (n : DNet) (us : List Value) {B T : Nat} (w : World) (h : rdNet B T w us n) (hT : T ≤ w.heap.size) (hS : SizeP n) :
    Calls Try.prog 60 #[.agg us.toArray] w fun e w' => e = .returned (.int .i64 (firN n : Int)) ∧ Below w.heap.size w w' := by
  obtain ⟨mu0, mu1, mu2, mu3, rfl, mh0, mh1, mh2, mh3⟩ := h
  obtain ⟨me0, -⟩ := mh0
  injection me0 with me0
  subst me0
  obtain ⟨mA1, mc1, me1, mm1, -⟩ := slice_of mh1
  subst me1
  have mR1 := Lib.hid mh1
  clear mh1
  obtain ⟨mA2, mc2, me2, mm2, -⟩ := slice_of mh2
  subst me2
  have mR2 := Lib.hid mh2
  clear mh2
  obtain ⟨mA3, mc3, me3, mm3, -⟩ := slice_of mh3
  subst me3
  have mR3 := Lib.hid mh3
  clear mh3
  have h0 := hS.i0
  have h1 := hS.i20
  have h2 := hS.s12
  obtain ⟨I, hI⟩ : ∃ I : Nat, n.1.toNat = I := ⟨_, rfl⟩
  rw [hI] at h0 h1
  rw [h0]
  have HI := Lib.hid hI
  clear hI h0
  go_enter Try.func60, Try.ntmps60
  go_wp2
  go_ret
  refine ⟨ret_i64 ?_, by (repeat' (first | assumption | exact Below.refl _ _ | refine bDrewN ?_ _ | refine Below.drew ?_ | refine bAlloc ?_ (Nat.le_refl _) _ | refine bSet ?_ (by first | exact Nat.le_refl _ | omega | (simp <;> omega)) _))⟩
  unfold firN
  rw [HI.out]
  go_num
set_option maxHeartbeats 3200000 in
theorem implNc_at (n : DNet) (us : List Value) {B T : Nat} (w : World) (h : rdNet B T w us n) (hT : T ≤ w.heap.size) {r : Int} (hr : ncI n = r) :
    Calls Try.prog 70 #[.agg us.toArray] w fun e w' => e = .returned (.int .i64 r) ∧ Below w.heap.size w w' := by
  have HR := Lib.hid hr
  have HM := Lib.hid h
  clear hr
  obtain ⟨mu0, mu1, mu2, mu3, rfl, mh0, mh1, mh2, mh3⟩ := h
  obtain ⟨me0, -⟩ := mh0
  injection me0 with me0
  subst me0
  obtain ⟨mA1, mc1, me1, mm1, -⟩ := slice_of mh1
  subst me1
  have mR1 := Lib.hid mh1
  clear mh1
  obtain ⟨mA2, mc2, me2, mm2, -⟩ := slice_of mh2
  subst me2
  have mR2 := Lib.hid mh2
  clear mh2
  obtain ⟨mA3, mc3, me3, mm3, -⟩ := slice_of mh3
  subst me3
  have mR3 := Lib.hid mh3
  clear mh3
  by_cases h0 : n.1 < 0
  · go_enter Try.func70, Try.ntmps70
    go_wp2
    go_ret
    refine ⟨ret_i64 ?_, by (repeat' (first | assumption | exact Below.refl _ _ | refine bDrewN ?_ _ | refine Below.drew ?_ | refine bAlloc ?_ (Nat.le_refl _) _ | refine bSet ?_ (by first | exact Nat.le_refl _ | omega | (simp <;> omega)) _))⟩
    rw [← HR.out, nc_no]
    exact decide_eq_false (by omega)
  by_cases h1 : 20 < n.1
  · go_enter Try.func70, Try.ntmps70
    go_wp2
    go_ret
    refine ⟨ret_i64 ?_, by (repeat' (first | assumption | exact Below.refl _ _ | refine bDrewN ?_ _ | refine Below.drew ?_ | refine bAlloc ?_ (Nat.le_refl _) _ | refine bSet ?_ (by first | exact Nat.le_refl _ | omega | (simp <;> omega)) _))⟩
    rw [← HR.out, nc_no]
    exact decide_eq_false (by omega)
  by_cases h2 : 12 < (n.2.1.length : Int)
  · go_enter Try.func70, Try.ntmps70
    go_wp2
    go_ret
    refine ⟨ret_i64 ?_, by (repeat' (first | assumption | exact Below.refl _ _ | refine bDrewN ?_ _ | refine Below.drew ?_ | refine bAlloc ?_ (Nat.le_refl _) _ | refine bSet ?_ (by first | exact Nat.le_refl _ | omega | (simp <;> omega)) _))⟩
    rw [← HR.out, nc_no]
    exact decide_eq_false (by omega)
  by_cases h3 : 300 < (n.2.2.1.length : Int)
  · go_enter Try.func70, Try.ntmps70
    go_wp2
    go_ret
    refine ⟨ret_i64 ?_, by (repeat' (first | assumption | exact Below.refl _ _ | refine bDrewN ?_ _ | refine Below.drew ?_ | refine bAlloc ?_ (Nat.le_refl _) _ | refine bSet ?_ (by first | exact Nat.le_refl _ | omega | (simp <;> omega)) _))⟩
    rw [← HR.out, nc_no]
    exact decide_eq_false (by omega)
  by_cases h4 : 16 < (n.2.2.2.length : Int)
  · go_enter Try.func70, Try.ntmps70
    go_wp2
    go_ret
    refine ⟨ret_i64 ?_, by (repeat' (first | assumption | exact Below.refl _ _ | refine bDrewN ?_ _ | refine Below.drew ?_ | refine bAlloc ?_ (Nat.le_refl _) _ | refine bSet ?_ (by first | exact Nat.le_refl _ | omega | (simp <;> omega)) _))⟩
    rw [← HR.out, nc_no]
    exact decide_eq_false (by omega)
  have hS := sizeP_of (n := n) (decide_eq_true (by omega))
  have HE := Lib.hid (show ((firN n + n.2.2.1.length : Nat) : Int) = r from hS.nc.symm.trans HR.out)
  go_enter Try.func70, Try.ntmps70
  go_wp2_with fail
  obtain ⟨W0, hV⟩ : ∃ W0, W0 = (w.alloc (.cells #[.int .i64 n.1, .slice mA1 (n.2.1).length mc1, .slice mA2 (n.2.2.1).length mc2, .slice mA3 (n.2.2.2).length mc3] 28)) := ⟨_, rfl⟩
  rw [← hV]
  have gN := eqbox1 hV
  have d0 : W0.cell? ⟨w.heap.size, 0, none⟩ = some (.int .i64 n.1) := box_cell gN.1 0 _ rfl
  have d1 : W0.cell? ⟨w.heap.size, 1, none⟩ = some (.slice mA1 (n.2.1).length mc1) := box_cell gN.1 1 _ rfl
  have d2 : W0.cell? ⟨w.heap.size, 2, none⟩ = some (.slice mA2 (n.2.2.1).length mc2) := box_cell gN.1 2 _ rfl
  have d3 : W0.cell? ⟨w.heap.size, 3, none⟩ = some (.slice mA3 (n.2.2.2).length mc3) := box_cell gN.1 3 _ rfl
  have sW0 : W0.heap.size = w.heap.size + 1 := by rw [hV]; simp
  have HW0 := Lib.hid gN.2
  clear hV gN
  refine (andNode_at n n.2.2.1.length _ _ (good_Net.below HM.out hT HW0.out) (Nat.le_trans hT HW0.out.size) hS hS.a300).mono ?_
  rintro e w1 ⟨rfl, hb⟩
  have HB := Lib.hid (bThen HW0.out hb)
  clear hb
  go_wp2
  go_ret
  exact ⟨ret_i64 HE.out, HB.out⟩
theorem specLit_at (x e : Int) (w : World) (hx : Fit x) {r : Bool} (hr : litB e x = r) :
    Calls Try.prog 79 #[.int .i64 x, .int .i64 e] w fun e w' => e = .returned (.bool r) ∧ Below w.heap.size w w' := by
  subst hr
  unfold Fit at hx
  by_cases h1 : x < 0
  · go_enter Try.func79, Try.ntmps79
    go_wp2
    go_ret
    refine ⟨ret_bool ?_, by (repeat' (first | assumption | exact Below.refl _ _ | refine bDrewN ?_ _ | refine Below.drew ?_ | refine bAlloc ?_ (Nat.le_refl _) _ | refine bSet ?_ (by first | exact Nat.le_refl _ | omega | (simp <;> omega)) _))⟩
    exact (decide_eq_false (by omega)).symm
  · obtain ⟨l, rfl⟩ : ∃ l : Nat, x = (l : Int) := ⟨x.toNat, by omega⟩
    have hq : IntKind.i64.wrap ((l : Int).tdiv 2) = ((l / 2 : Nat) : Int) := by rw [tdiv2]; exact wrap64_int _ (by omega) (by omega)
    go_enter Try.func79, Try.ntmps79
    go_wp2
    go_ret
    refine ⟨ret_bool ?_, by (repeat' (first | assumption | exact Below.refl _ _ | refine bDrewN ?_ _ | refine Below.drew ?_ | refine bAlloc ?_ (Nat.le_refl _) _ | refine bSet ?_ (by first | exact Nat.le_refl _ | omega | (simp <;> omega)) _))⟩
    unfold litB
    rw [tdiv2]
    simp
theorem nodeOf_at (l : Nat) (w : World) (hl : l ≤ 9223372036854775807) :
    Calls Try.prog 64 #[.int .i64 (l : Int)] w fun e w' => e = .returned (.int .i64 ((l / 2 : Nat) : Int)) ∧ Below w.heap.size w w' := by
  go_enter Try.func64, Try.ntmps64
  go_wp2
  go_ret
  refine ⟨ret_i64 ?_, by (repeat' (first | assumption | exact Below.refl _ _ | refine bDrewN ?_ _ | refine Below.drew ?_ | refine bAlloc ?_ (Nat.le_refl _) _ | refine bSet ?_ (by first | exact Nat.le_refl _ | omega | (simp <;> omega)) _))⟩
  omega
end Go.Proofs.Ytaebiiopommhdaa
