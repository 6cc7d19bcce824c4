/-
  Valid modules and designs, as the reference judges them.
-/
import Derived.Test.YtmjofpfkgbnknaaGreatSDC
import Derived.Test.YtmjofpfkgbnknaaGreatIModAll
namespace Go.Proofs.YtmjofpfkgbnknaaGreat
open Go.RowKit
set_option linter.unusedVariables false
set_option linter.unusedSimpArgs false

theorem parts_no1 (d : List DModule) (k : Int) (m : DModule) (h : m.1.all sigOk = false) : partsB d k m = false := by unfold partsB; rw [h]; simp
theorem parts_no2 (d : List DModule) (k : Int) (m : DModule) (h : m.2.1.all (asgOk m) = false) : partsB d k m = false := by unfold partsB; rw [h]; simp
theorem parts_no3 (d : List DModule) (k : Int) (m : DModule) (h : m.2.2.1.all (insOk d m) = false) : partsB d k m = false := by unfold partsB; rw [h]; simp
theorem parts_no4 (d : List DModule) (k : Int) (m : DModule) (h : m.2.2.2.all (memOk m) = false) : partsB d k m = false := by unfold partsB; rw [h]; simp
theorem parts_no5 (d : List DModule) (k : Int) (m : DModule) (h : onceAll d k m = false) : partsB d k m = false := by unfold partsB; rw [h]; simp

set_option maxHeartbeats 3200000 in
theorem specKind_any (m : DModule) (s : Int) (us : List Value) {B T : Nat} (w : World) (h : rdModule B T w us m) (hT : T ≤ w.heap.size) :
    Calls Tryz.prog 120 #[.agg us.toArray, .int .i64 s] w fun e w' => e = .returned (.int .i64 (kindI m s)) ∧ Below w.heap.size w w' := by
  obtain ⟨mu0, mu1, mu2, mu3, rfl, mh0, mh1, mh2, mh3⟩ := h
  obtain ⟨mA0, mq0, mf0, mm0, mk0⟩ := mh0
  injection mf0 with mf0
  subst mf0
  unfold maxLen at mm0
  have mE0 := Lib.hid mk0
  clear mk0
  obtain ⟨mA1, mq1, mf1, mm1, mk1⟩ := mh1
  injection mf1 with mf1
  subst mf1
  unfold maxLen at mm1
  have mE1 := Lib.hid mk1
  clear mk1
  obtain ⟨mA2, mq2, mf2, mm2, mk2⟩ := mh2
  injection mf2 with mf2
  subst mf2
  unfold maxLen at mm2
  have mE2 := Lib.hid mk2
  clear mk2
  obtain ⟨mA3, mq3, mf3, mm3, mk3⟩ := mh3
  injection mf3 with mf3
  subst mf3
  unfold maxLen at mm3
  have mE3 := Lib.hid mk3
  clear mk3
  by_cases h0 : 0 ≤ s
  · obtain ⟨S, rfl⟩ := Int.eq_ofNat_of_zero_le h0
    by_cases h1 : S < m.1.length
    · skip
      obtain ⟨xb, xo, xe, _, _, xus, _, xhc, xhr⟩ := mE0.out S h1
      obtain ⟨x, xx⟩ : ∃ x, m.1[S]'h1 = x := ⟨_, rfl⟩
      have xx? : m.1[S]? = some x := by rw [List.getElem?_eq_getElem h1, xx]
      rw [xx] at xhr
      subst xe
      obtain ⟨xu0, xu1, xu2, rfl, xh0, xh1, xh2⟩ := xhr
      obtain ⟨xf0, -⟩ := xh0
      injection xf0 with xf0
      subst xf0
      obtain ⟨xf1, -⟩ := xh1
      injection xf1 with xf1
      subst xf1
      obtain ⟨xf2, -⟩ := xh2
      injection xf2 with xf2
      subst xf2
      have xc0 : w.cell? ⟨xb, xo + S * 3, none⟩ = some (.int .i64 x.1) := (xhc 0 _ rfl)
      have xc1 : w.cell? ⟨xb, xo + S * 3 + 1, none⟩ = some (.int .i64 x.2.1) := (xhc 1 _ rfl)
      have xc2 : w.cell? ⟨xb, xo + S * 3 + 2, none⟩ = some (.int .i64 x.2.2) := (xhc 2 _ rfl)
      have xlt : xb < w.heap.size := World.block_lt_of_cell? _ _ xc0
      clear xhc xx
      rw [kindI_yes xx?]
      have t1 : ¬ (S : Int) < 0 := by omega
      have t2 : ¬ (m.1.length : Int) ≤ (S : Int) := by omega
      clear xx?
      go_enter Tryz.func120, Tryz.ntmps120
      go_wp2
      go_ret
      exact ⟨rfl, by (repeat' (first | assumption | exact Below.refl _ _ | refine bDrewN ?_ _ | refine Below.drew ?_ | refine bAlloc ?_ (Nat.le_refl _) _ | refine bSet ?_ (by first | exact Nat.le_refl _ | omega | (simp <;> omega)) _))⟩
    · rw [kindI_no (by omega)]
      have t1 : ¬ (S : Int) < 0 := by omega
      have t2 : (m.1.length : Int) ≤ (S : Int) := by omega
      go_enter Tryz.func120, Tryz.ntmps120
      go_wp2
      go_ret
      exact ⟨rfl, by (repeat' (first | assumption | exact Below.refl _ _ | refine bDrewN ?_ _ | refine Below.drew ?_ | refine bAlloc ?_ (Nat.le_refl _) _ | refine bSet ?_ (by first | exact Nat.le_refl _ | omega | (simp <;> omega)) _))⟩
  · rw [kindI_no (by omega)]
    have t1 : s < 0 := by omega
    go_enter Tryz.func120, Tryz.ntmps120
    go_wp2
    go_ret
    exact ⟨rfl, by (repeat' (first | assumption | exact Below.refl _ _ | refine bDrewN ?_ _ | refine Below.drew ?_ | refine bAlloc ?_ (Nat.le_refl _) _ | refine bSet ?_ (by first | exact Nat.le_refl _ | omega | (simp <;> omega)) _))⟩
theorem specKind_at (m : DModule) (s : Int) (us : List Value) {B T : Nat} {r : Int} (w : World) (h : rdModule B T w us m) (hT : T ≤ w.heap.size) (hr : kindI m s = r) :
    Calls Tryz.prog 120 #[.agg us.toArray, .int .i64 s] w fun e w' => e = .returned (.int .i64 r) ∧ Below w.heap.size w w' := by subst hr; exact specKind_any m s us w h hT
set_option maxHeartbeats 3200000 in
theorem specDriven_at (m : DModule) (s : Int) (us : List Value) {B T : Nat} {r : Bool} (w : World) (h : rdModule B T w us m) (hT : T ≤ w.heap.size) (hr : kindAt m [1, 2] s = r) :
    Calls Tryz.prog 119 #[.agg us.toArray, .int .i64 s] w fun e w' => e = .returned (.bool r) ∧ Below w.heap.size w w' := by
  have HM := Lib.hid h
  obtain ⟨mu0, mu1, mu2, mu3, rfl, mh0, mh1, mh2, mh3⟩ := h
  obtain ⟨mA0, mq0, mf0, mm0, mk0⟩ := mh0
  injection mf0 with mf0
  subst mf0
  unfold maxLen at mm0
  have mE0 := Lib.hid mk0
  clear mk0
  obtain ⟨mA1, mq1, mf1, mm1, mk1⟩ := mh1
  injection mf1 with mf1
  subst mf1
  unfold maxLen at mm1
  have mE1 := Lib.hid mk1
  clear mk1
  obtain ⟨mA2, mq2, mf2, mm2, mk2⟩ := mh2
  injection mf2 with mf2
  subst mf2
  unfold maxLen at mm2
  have mE2 := Lib.hid mk2
  clear mk2
  obtain ⟨mA3, mq3, mf3, mm3, mk3⟩ := mh3
  injection mf3 with mf3
  subst mf3
  unfold maxLen at mm3
  have mE3 := Lib.hid mk3
  clear mk3
  rw [kindAt_2] at hr
  obtain ⟨k, hk⟩ : ∃ k, kindI m s = k := ⟨_, rfl⟩
  rw [hk] at hr
  have HK := Lib.hid hk
  have HR := Lib.hid hr
  clear hk hr
  go_enter Tryz.func119, Tryz.ntmps119
  go_wp2_with fail
  refine (specKind_at m s _ _ (good_Module.below HM.out hT (by (repeat' (first | assumption | exact Below.refl _ _ | refine bDrewN ?_ _ | refine Below.drew ?_ | refine bAlloc ?_ (Nat.le_refl _) _ | refine bSet ?_ (by first | exact Nat.le_refl _ | omega | (simp <;> omega)) _)))) (Nat.le_trans hT (by simp <;> omega)) HK.out).mono ?_
  rintro e w1 ⟨rfl, hb⟩
  have g := box1 hb
  have HW := Lib.hid g.2
  clear hb g
  by_cases h1 : k = 1
  · have HF := Lib.hid (show r = true by rw [← HR.out, decide_eq_true h1]; rfl)
    subst h1
    go_wp2
    go_ret
    exact ⟨ret_bool (by rw [HF.out]), HW.out⟩
  · have b1 : (k == 1) = false := by simpa using h1
    by_cases h2 : k = 2
    · have HF := Lib.hid (show r = true by rw [← HR.out, decide_eq_true h2]; simp)
      subst h2
      go_wp2
      go_ret
      exact ⟨ret_bool (by rw [HF.out]), HW.out⟩
    · have b2 : (k == 2) = false := by simpa using h2
      have HF := Lib.hid (show r = false by rw [← HR.out, decide_eq_false h1, decide_eq_false h2]; rfl)
      go_wp2
      go_ret
      exact ⟨ret_bool (by rw [HF.out]), HW.out⟩
theorem specOps_at (n : Int) (L : List DOp) (v : Value) {B T : Nat} {d : Bool} (w : World) (h : rdOpS B T w [v] L) (hT : T ≤ w.heap.size) (hd : opsB n L = d) :
    Calls Tryz.prog 121 #[v, .int .i64 n] w fun e w' => e = .returned (.bool d) ∧ Below w.heap.size w w' := by subst hd; exact specOps_any n L v w h hT
end Go.Proofs.YtmjofpfkgbnknaaGreat
