/-
  NetOk, both sides.
-/
import Derived.Test.YtaebiiopommhdaaNet2
import Derived.Test.YtaebiiopommhdaaRgN
import Derived.Deep.RegionHeld3
import Derived.Lib.QuietBelow
namespace Go.Proofs.Ytaebiiopommhdaa
open Go.RowKit
set_option linter.unusedVariables false
set_option linter.unusedSimpArgs false

def stI (k : Int) : Int := if k = 0 then 2 else if k = 1 then 32 else 0
def inI (k : Int) : Int := if k = 1 then 4 else 1
theorem stI_in (k : Int) : 0 ≤ stI k ∧ stI k ≤ 32 := by unfold stI; split <;> (try split) <;> omega
theorem seqB_eq (s : DSeq) : seqB s = decide (0 ≤ s.2.1 ∧ s.2.1 < stI s.1 ∧ (s.2.2.length : Int) = inI s.1) := by
  unfold seqB stI inI
  apply decide_eq_decide.2
  by_cases h0 : s.1 = 0
  · simp [h0]; omega
  · by_cases h1 : s.1 = 1
    · simp [h1]; omega
    · simp [h0, h1]; omega
theorem seqStates_at (k : Int) (w : World) {r : Int} (hr : stI k = r) : Calls Try.prog 75 #[.int .i64 k] w fun e w' => e = .returned (.int .i64 r) ∧ Below w.heap.size w w' := by
  by_cases h0 : k = 0
  · subst h0
    have e : r = 2 := by rw [← hr]; rfl
    subst e
    go_enter Try.func75, Try.ntmps75
    go_wp2
    go_ret
    exact ⟨rfl, by (repeat' (first | assumption | exact Below.refl _ _ | refine bDrewN ?_ _ | refine Below.drew ?_ | refine bAlloc ?_ (Nat.le_refl _) _ | refine bSet ?_ (by first | exact Nat.le_refl _ | omega | (simp <;> omega)) _))⟩
  · have b0 : (k == 0) = false := by simp [h0]
    by_cases h1 : k = 1
    · subst h1
      have e : r = 32 := by rw [← hr]; rfl
      subst e
      go_enter Try.func75, Try.ntmps75
      go_wp2
      go_ret
      exact ⟨rfl, by (repeat' (first | assumption | exact Below.refl _ _ | refine bDrewN ?_ _ | refine Below.drew ?_ | refine bAlloc ?_ (Nat.le_refl _) _ | refine bSet ?_ (by first | exact Nat.le_refl _ | omega | (simp <;> omega)) _))⟩
    · have b1 : (k == 1) = false := by simp [h1]
      have e : r = 0 := by rw [← hr]; simp [stI, h0, h1]
      subst e
      clear hr
      go_enter Try.func75, Try.ntmps75
      go_wp2
      go_ret
      exact ⟨rfl, by (repeat' (first | assumption | exact Below.refl _ _ | refine bDrewN ?_ _ | refine Below.drew ?_ | refine bAlloc ?_ (Nat.le_refl _) _ | refine bSet ?_ (by first | exact Nat.le_refl _ | omega | (simp <;> omega)) _))⟩
theorem seqIns_at (k : Int) (w : World) {r : Int} (hr : inI k = r) : Calls Try.prog 85 #[.int .i64 k] w fun e w' => e = .returned (.int .i64 r) ∧ Below w.heap.size w w' := by
  by_cases h1 : k = 1
  · subst h1
    have e : r = 4 := by rw [← hr]; rfl
    subst e
    go_enter Try.func85, Try.ntmps85
    go_wp2
    go_ret
    exact ⟨rfl, by (repeat' (first | assumption | exact Below.refl _ _ | refine bDrewN ?_ _ | refine Below.drew ?_ | refine bAlloc ?_ (Nat.le_refl _) _ | refine bSet ?_ (by first | exact Nat.le_refl _ | omega | (simp <;> omega)) _))⟩
  · have b1 : (k == 1) = false := by simp [h1]
    have e : r = 1 := by rw [← hr]; simp [inI, h1]
    subst e
    clear hr
    go_enter Try.func85, Try.ntmps85
    go_wp2
    go_ret
    exact ⟨rfl, by (repeat' (first | assumption | exact Below.refl _ _ | refine bDrewN ?_ _ | refine Below.drew ?_ | refine bAlloc ?_ (Nat.le_refl _) _ | refine bSet ?_ (by first | exact Nat.le_refl _ | omega | (simp <;> omega)) _))⟩

set_option maxRecDepth 100000 in
set_option maxHeartbeats 6400000 in
theorem seqsOk_at (n : DNet) (us : List Value) (w : World) (h : rdNet 0 w.heap.size w us n) (hs12 : n.2.1.length ≤ 12) {r : Bool} (hr : n.2.1.all seqB = r) :
    Calls Try.prog 71 #[.agg us.toArray] w fun e w' => e = .returned (.bool r) ∧ Below w.heap.size w w' := by
  have HR := Lib.hid hr
  clear hr
  obtain ⟨mu0, mu1, mu2, mu3, rfl, mh0, mh1, mh2, mh3⟩ := h
  obtain ⟨me0, -⟩ := mh0
  injection me0 with me0
  subst me0
  obtain ⟨mA1, mc1, me1, mm1, -⟩ := slice_of mh1
  subst me1
  have mR1 := Lib.hid mh1
  clear mh1
  obtain ⟨mA2, mc2, me2, mm2, -⟩ := slice_of mh2
  subst me2
  have mR2 := Lib.hid mh2
  clear mh2
  obtain ⟨mA3, mc3, me3, mm3, -⟩ := slice_of mh3
  subst me3
  have mR3 := Lib.hid mh3
  clear mh3
  go_enter Try.func71, Try.ntmps71
  go_wp2
  go_loopw [8] (fun x wr => ∃ k : Nat, k ≤ n.2.1.length ∧ x = .int .i64 (k : Int) ∧ AllK seqB n.2.1 k = true ∧ Below w.heap.size w wr) (fun x _ => n.2.1.length - (intOf x).toNat)
  case atStart => exact ⟨0, Nat.zero_le _, rfl, allK_zero _ _, by (repeat' (first | assumption | exact Below.refl _ _ | refine bDrewN ?_ _ | refine Below.drew ?_ | refine bAlloc ?_ (Nat.le_refl _) _ | refine bSet ?_ (by first | exact Nat.le_refl _ | omega | (simp <;> omega)) _))⟩
  case round =>
    obtain ⟨k, hk, rfl, hall, hb⟩ := hrel
    obtain ⟨w2, rfl⟩ : ∃ w2, w2 = wr := ⟨_, rfl⟩
    have HB := Lib.hid hb
    have HA := Lib.hid hall
    clear hb hall
    by_cases hlt : k < n.2.1.length
    · obtain ⟨s, hs⟩ : ∃ s, n.2.1[k]? = some s := ⟨_, List.getElem?_eq_getElem hlt⟩
      have HS := Lib.hid hs
      obtain ⟨sb, sq, sA, sc, rfl, sb1, x0, -, x1, -, x2, sR⟩ := at_Seq (good_SeqS.below mR1.out (Nat.le_refl _) HB.out) hs
      have sb2 := Nat.lt_of_lt_of_le sb1 HB.out.size
      have hq := seqB_eq s
      obtain ⟨L, hL⟩ : ∃ L, s.2.2 = L := ⟨_, rfl⟩
      obtain ⟨kd, hkd⟩ : ∃ kd : Int, s.1 = kd := ⟨_, rfl⟩
      obtain ⟨it, hit⟩ : ∃ it : Int, s.2.1 = it := ⟨_, rfl⟩
      rw [hL, hkd, hit] at hq
      rw [hL] at x2
      rw [hkd] at x0
      rw [hit] at x1
      obtain ⟨st, hst⟩ : ∃ st, stI kd = st := ⟨_, rfl⟩
      obtain ⟨iq, hiq⟩ : ∃ iq, inI kd = iq := ⟨_, rfl⟩
      rw [hst, hiq] at hq
      have HQ := Lib.hid hq
      have HST := Lib.hid hst
      have HIN := Lib.hid hiq
      clear hs hL hkd hit hq hst hiq sR sb1
      go_wp2_with fail
      obtain ⟨V, hV⟩ : ∃ V, V = w2.alloc (.cells #[.int .i64 kd, .int .i64 it, .slice sA L.length sc] 67) := ⟨_, rfl⟩
      rw [← hV]
      have gN := eqbox1 hV
      have y0 : ∀ d os, (Sort.grow (redrawn V d) os).cell? ⟨w2.heap.size, 0, none⟩ = some (.int .i64 kd) := cell_regrown (box_cell gN.1 0 _ rfl)
      have y1 : ∀ d os, (Sort.grow (redrawn V d) os).cell? ⟨w2.heap.size, 1, none⟩ = some (.int .i64 it) := cell_regrown (box_cell gN.1 1 _ rfl)
      have y2 : ∀ d os, (Sort.grow (redrawn V d) os).cell? ⟨w2.heap.size, 2, none⟩ = some (.slice sA L.length sc) := cell_regrown (box_cell gN.1 2 _ rfl)
      have HBV := Lib.hid (bThen HB.out gN.2)
      have sV : V.heap.size = w2.heap.size + 1 := by rw [hV]; simp
      clear hV gN x0 x1 x2
      by_cases h0 : it < 0
      · have HE := Lib.hid ((allK_miss HS.out (HQ.out.trans (decide_eq_false (by omega)))).symm.trans HR.out)
        refine wp_region_quiet_below (by kernel_rfl) (by kernel_rfl) ?_
        repeat (go_big_quiet_step (first | (go_at_call 75; refine Calls.regrown_of (seqStates_at _ _ HST.out)) | (go_at_call 85; refine Calls.regrown_of (seqIns_at _ _ HIN.out))))
        refine wpQuiet_nil ?_
        intro _ hw'
        obtain ⟨⟨dq, osq⟩, hw''⟩ := hw'
        subst hw''
        have HBQ := Lib.hid (bThen HBV.out (below_regrown V dq osq))
        go_wp2
        go_ret
        exact ⟨ret_bool HE.out, HBQ.out⟩
      by_cases h1 : st ≤ it
      · have HE := Lib.hid ((allK_miss HS.out (HQ.out.trans (decide_eq_false (by omega)))).symm.trans HR.out)
        refine wp_region_quiet_below (by kernel_rfl) (by kernel_rfl) ?_
        repeat (go_big_quiet_step (first | (go_at_call 75; refine Calls.regrown_of (seqStates_at _ _ HST.out)) | (go_at_call 85; refine Calls.regrown_of (seqIns_at _ _ HIN.out))))
        refine wpQuiet_nil ?_
        intro _ hw'
        obtain ⟨⟨dq, osq⟩, hw''⟩ := hw'
        subst hw''
        have HBQ := Lib.hid (bThen HBV.out (below_regrown V dq osq))
        go_wp2
        go_ret
        exact ⟨ret_bool HE.out, HBQ.out⟩
      by_cases h2 : (L.length : Int) = iq
      · have HY := Lib.hid (allK_step HS.out (HQ.out.trans (decide_eq_true (by omega))) HA.out)
        have b2 : ((L.length : Int) != iq) = false := by simp [h2]
        subst h2
        refine wp_region_quiet_below (by kernel_rfl) (by kernel_rfl) ?_
        repeat (go_big_quiet_step (first | (go_at_call 75; refine Calls.regrown_of (seqStates_at _ _ HST.out)) | (go_at_call 85; refine Calls.regrown_of (seqIns_at _ _ HIN.out))))
        refine wpQuiet_nil ?_
        intro _ hw'
        obtain ⟨⟨dq, osq⟩, hw''⟩ := hw'
        subst hw''
        have HBQ := Lib.hid (bThen HBV.out (below_regrown V dq osq))
        go_wp2
        go_roundw
        case rel => exact ⟨k + 1, by omega, by go_num, HY.out, HBQ.out⟩
        case measure => simp [intOf]; omega
      · have HE := Lib.hid ((allK_miss HS.out (HQ.out.trans (decide_eq_false (by omega)))).symm.trans HR.out)
        have b2 : ((L.length : Int) != iq) = true := by simp [h2]
        refine wp_region_quiet_below (by kernel_rfl) (by kernel_rfl) ?_
        repeat (go_big_quiet_step (first | (go_at_call 75; refine Calls.regrown_of (seqStates_at _ _ HST.out)) | (go_at_call 85; refine Calls.regrown_of (seqIns_at _ _ HIN.out))))
        refine wpQuiet_nil ?_
        intro _ hw'
        obtain ⟨⟨dq, osq⟩, hw''⟩ := hw'
        subst hw''
        have HBQ := Lib.hid (bThen HBV.out (below_regrown V dq osq))
        go_wp2
        go_ret
        exact ⟨ret_bool HE.out, HBQ.out⟩
    · obtain rfl : k = n.2.1.length := by omega
      have HE := Lib.hid ((allK_end HA.out).symm.trans HR.out)
      go_wp2
      go_ret
      exact ⟨ret_bool HE.out, HB.out⟩

theorem rd_lit2 {w : World} {g : Nat} {x y : Int} (h : w.heap[g]? = some (.cells #[.int .i64 x, .int .i64 y] 3 (0, 0))) (hx : Fit x) (hy : Fit y) : rdIntS g (g + 1) w [.slice (some ⟨g, 0, none⟩) 2 2] [x, y] := by
  refine ⟨_, _, rfl, by simp [maxLen], fun j hj => ⟨g, 0, rfl, Nat.le_refl _, Nat.lt_succ_self _, ?_⟩⟩
  match j, hj with
  | 0, _ => exact ⟨[.int .i64 x], rfl, fun i u hu => (by match i, hu with | 0, hu => (injection hu with hu; subst hu; exact box_cell h 0 _ rfl)), rfl, hx⟩
  | 1, _ => exact ⟨[.int .i64 y], rfl, fun i u hu => (by match i, hu with | 0, hu => (injection hu with hu; subst hu; exact box_cell h 1 _ rfl)), rfl, hy⟩
theorem ands_zero (n : DNet) : andsK n 0 = true := by simp [andsK]
theorem ands_step {n : DNet} {k : Nat} {a : DAnd} (h : n.2.2.1[k]? = some a) (h0 : andsK n k = true) : andsK n (k + 1) = andAt n k a := by
  unfold andsK at h0 ⊢; rw [List.range_succ, List.all_append, h0]; simp [h]
theorem ands_miss {n : DNet} {k : Nat} {a : DAnd} (h : n.2.2.1[k]? = some a) (h0 : andAt n k a = false) : andsB n = false := by
  unfold andsB andsK
  rw [List.all_eq_false]
  exact ⟨k, List.mem_range.2 (List.getElem?_eq_some_iff.1 h).1, by simp [h, h0]⟩
set_option maxRecDepth 100000 in
set_option maxHeartbeats 6400000 in
theorem andsOk_at (n : DNet) (us : List Value) (w : World) (h : rdNet 0 w.heap.size w us n) (hS : SizeP n) {r : Bool} (hr : andsB n = r) :
    Calls Try.prog 72 #[.agg us.toArray] w fun e w' => e = .returned (.bool r) ∧ Below w.heap.size w w' := by
  have HR := Lib.hid hr
  have HD := Lib.hid h
  have HSP := Lib.hid hS
  have a300 := hS.a300
  clear hr hS
  obtain ⟨mu0, mu1, mu2, mu3, rfl, mh0, mh1, mh2, mh3⟩ := h
  obtain ⟨me0, -⟩ := mh0
  injection me0 with me0
  subst me0
  obtain ⟨mA1, mc1, me1, mm1, -⟩ := slice_of mh1
  subst me1
  have mR1 := Lib.hid mh1
  clear mh1
  obtain ⟨mA2, mc2, me2, mm2, -⟩ := slice_of mh2
  subst me2
  have mR2 := Lib.hid mh2
  clear mh2
  obtain ⟨mA3, mc3, me3, mm3, -⟩ := slice_of mh3
  subst me3
  have mR3 := Lib.hid mh3
  clear mh3
  go_enter Try.func72, Try.ntmps72
  go_wp2
  obtain ⟨W0, hV⟩ : ∃ W0, W0 = w.alloc (.cells #[.int .i64 n.1, .slice mA1 (n.2.1).length mc1, .slice mA2 (n.2.2.1).length mc2, .slice mA3 (n.2.2.2).length mc3] 28) := ⟨_, rfl⟩
  rw [← hV]
  have gN := eqbox1 hV
  have d0 : W0.cell? ⟨w.heap.size, 0, none⟩ = some (.int .i64 n.1) := box_cell gN.1 0 _ rfl
  have d1 : W0.cell? ⟨w.heap.size, 1, none⟩ = some (.slice mA1 (n.2.1).length mc1) := box_cell gN.1 1 _ rfl
  have d2 : W0.cell? ⟨w.heap.size, 2, none⟩ = some (.slice mA2 (n.2.2.1).length mc2) := box_cell gN.1 2 _ rfl
  have d3 : W0.cell? ⟨w.heap.size, 3, none⟩ = some (.slice mA3 (n.2.2.2).length mc3) := box_cell gN.1 3 _ rfl
  have HW0 := Lib.hid gN.2
  have sW0 : W0.heap.size = w.heap.size + 1 := by rw [hV]; simp
  clear hV gN
  go_loopw [8] (fun x wr => ∃ k : Nat, k ≤ n.2.2.1.length ∧ x = .int .i64 (k : Int) ∧ andsK n k = true ∧ Below W0.heap.size W0 wr) (fun x _ => n.2.2.1.length - (intOf x).toNat)
  case atStart => exact ⟨0, Nat.zero_le _, rfl, ands_zero n, Below.refl _ _⟩
  case round =>
    obtain ⟨k, hk, rfl, hall, hb⟩ := hrel
    obtain ⟨w2, rfl⟩ : ∃ w2, w2 = wr := ⟨_, rfl⟩
    have HB0 := Lib.hid hb
    have HB := Lib.hid (bThen HW0.out hb)
    have HA := Lib.hid hall
    have c0 := keep hb d0
    have c1 := keep hb d1
    have c2 := keep hb d2
    have c3 := keep hb d3
    clear hb hall d0 d1 d2 d3
    by_cases hlt : k < n.2.2.1.length
    · obtain ⟨a, ha⟩ : ∃ a, n.2.2.1[k]? = some a := ⟨_, List.getElem?_eq_getElem hlt⟩
      have hst := ands_step ha HA.out
      have HMI := Lib.hid (fun h => ands_miss (n := n) ha h)
      obtain ⟨ab, aq, rfl, ab1, x0, xf, x1, yf⟩ := at_And (good_AndS.below mR2.out (Nat.le_refl _) HB.out) ha
      have ab2 := Nat.lt_of_lt_of_le ab1 HB.out.size
      obtain ⟨x, y⟩ := a
      dsimp only at x0 x1 xf yf
      have HST := Lib.hid hst
      have hk3 : k ≤ 300 := by omega
      clear ha hst ab1
      go_wp2_with fail
      obtain ⟨V, hV⟩ : ∃ V, V = w2.alloc (.cells #[.int .i64 x, .int .i64 y] 78) := ⟨_, rfl⟩
      rw [← hV]
      have gN := eqbox1 hV
      have y0 : V.cell? ⟨w2.heap.size, 0, none⟩ = some (.int .i64 x) := box_cell gN.1 0 _ rfl
      have y1 : V.cell? ⟨w2.heap.size, 1, none⟩ = some (.int .i64 y) := box_cell gN.1 1 _ rfl
      replace c0 := keep gN.2 c0
      replace c1 := keep gN.2 c1
      replace c2 := keep gN.2 c2
      replace c3 := keep gN.2 c3
      have HV0 := Lib.hid (bThen HB0.out gN.2)
      have HBV := Lib.hid (bThen HB.out gN.2)
      clear hV gN x0 x1
      have hS0 : (fun w' => Below V.heap.size V w' ∧ w'.cell? ⟨w.heap.size, 0, none⟩ = some (.int .i64 n.1) ∧ w'.cell? ⟨w.heap.size, 1, none⟩ = some (.slice mA1 (n.2.1).length mc1) ∧ w'.cell? ⟨w.heap.size, 2, none⟩ = some (.slice (some ⟨ab, aq, none⟩) (n.2.2.1).length mc2) ∧ w'.cell? ⟨w.heap.size, 3, none⟩ = some (.slice mA3 (n.2.2.2).length mc3) ∧ w'.cell? ⟨w2.heap.size, 0, none⟩ = some (.int .i64 x) ∧ w'.cell? ⟨w2.heap.size, 1, none⟩ = some (.int .i64 y)) V := ⟨Below.refl _ _, c0, c1, c2, c3, y0, y1⟩
      have hS : ∀ {w0 w' : World}, (fun w' => Below V.heap.size V w' ∧ w'.cell? ⟨w.heap.size, 0, none⟩ = some (.int .i64 n.1) ∧ w'.cell? ⟨w.heap.size, 1, none⟩ = some (.slice mA1 (n.2.1).length mc1) ∧ w'.cell? ⟨w.heap.size, 2, none⟩ = some (.slice (some ⟨ab, aq, none⟩) (n.2.2.1).length mc2) ∧ w'.cell? ⟨w.heap.size, 3, none⟩ = some (.slice mA3 (n.2.2.2).length mc3) ∧ w'.cell? ⟨w2.heap.size, 0, none⟩ = some (.int .i64 x) ∧ w'.cell? ⟨w2.heap.size, 1, none⟩ = some (.int .i64 y)) w0 → Below w0.heap.size w0 w' → (fun w' => Below V.heap.size V w' ∧ w'.cell? ⟨w.heap.size, 0, none⟩ = some (.int .i64 n.1) ∧ w'.cell? ⟨w.heap.size, 1, none⟩ = some (.slice mA1 (n.2.1).length mc1) ∧ w'.cell? ⟨w.heap.size, 2, none⟩ = some (.slice (some ⟨ab, aq, none⟩) (n.2.2.1).length mc2) ∧ w'.cell? ⟨w.heap.size, 3, none⟩ = some (.slice mA3 (n.2.2.2).length mc3) ∧ w'.cell? ⟨w2.heap.size, 0, none⟩ = some (.int .i64 x) ∧ w'.cell? ⟨w2.heap.size, 1, none⟩ = some (.int .i64 y)) w' := fun h hb => ⟨bThen h.1 hb, keep hb h.2.1, keep hb h.2.2.1, keep hb h.2.2.2.1, keep hb h.2.2.2.2.1, keep hb h.2.2.2.2.2.1, keep hb h.2.2.2.2.2.2⟩
      dsimp only at hS0 hS
      refine wp_region_noPanic ?_
      refine wp_region_kept 8 10 (fun w' => Below V.heap.size V w' ∧ w'.cell? ⟨w.heap.size, 0, none⟩ = some (.int .i64 n.1) ∧ w'.cell? ⟨w.heap.size, 1, none⟩ = some (.slice mA1 (n.2.1).length mc1) ∧ w'.cell? ⟨w.heap.size, 2, none⟩ = some (.slice (some ⟨ab, aq, none⟩) (n.2.2.1).length mc2) ∧ w'.cell? ⟨w.heap.size, 3, none⟩ = some (.slice mA3 (n.2.2.2).length mc3) ∧ w'.cell? ⟨w2.heap.size, 0, none⟩ = some (.int .i64 x) ∧ w'.cell? ⟨w2.heap.size, 1, none⟩ = some (.int .i64 y)) (by kernel_rfl) rfl (hS hS0 (Below.drew (Below.refl _ _))) (fun hK0 => ?_)
      refine Kept.take (v := ?vr0) 0 (by kernel_rfl) rfl (by kernel_rfl) (fun _ _ _ h => h) (Or.inl ⟨by rfl, ?hyr0⟩) hK0 ?restr0
      case hyr0 =>
        intro w0 hSw
        (try dsimp only at hSw)
        go_simp
        all_goals (with_reducible rfl)
      (try simp only [Act.put, List.setIfInBounds_toArray, List.set_cons_zero, List.set_cons_succ])
      refine Kept.take (v := ?vr1) 1 (by kernel_rfl) rfl (by kernel_rfl) (fun _ _ _ h => h) (Or.inl ⟨by rfl, ?hyr1⟩) hK0 ?restr1
      case hyr1 =>
        intro w0 hSw
        (try dsimp only at hSw)
        go_simp
        all_goals (with_reducible rfl)
      (try simp only [Act.put, List.setIfInBounds_toArray, List.set_cons_zero, List.set_cons_succ])
      refine Kept.take (v := ?vr3) 3 (by kernel_rfl) rfl (by kernel_rfl) (fun _ _ _ h => h) (Or.inl ⟨by rfl, ?hyr3⟩) hK0 ?restr3
      case hyr3 =>
        intro w0 hSw
        (try dsimp only at hSw)
        go_simp
        all_goals (with_reducible rfl)
      (try simp only [Act.put, List.setIfInBounds_toArray, List.set_cons_zero, List.set_cons_succ])
      refine Kept.take (v := ?vr4) 4 (by kernel_rfl) rfl (by kernel_rfl) (fun _ _ _ h => h) (Or.inl ⟨by rfl, ?hyr4⟩) hK0 ?restr4
      case hyr4 =>
        intro w0 hSw
        (try dsimp only at hSw)
        go_simp
        all_goals (with_reducible rfl)
      (try simp only [Act.put, List.setIfInBounds_toArray, List.set_cons_zero, List.set_cons_succ])
      refine Kept.take (v := ?vr5) 5 (by kernel_rfl) rfl (by kernel_rfl) (fun _ _ _ h => h) (Or.inl ⟨by rfl, ?hyr5⟩) hK0 ?restr5
      case hyr5 =>
        intro w0 hSw
        (try dsimp only at hSw)
        go_simp
        all_goals (with_reducible rfl)
      (try simp only [Act.put, List.setIfInBounds_toArray, List.set_cons_zero, List.set_cons_succ])
      refine Kept.take (v := ?vr6) 6 (by kernel_rfl) rfl (by kernel_rfl) (fun _ _ _ h => h) (Or.inl ⟨by rfl, ?hyr6⟩) hK0 ?restr6
      case hyr6 =>
        intro w0 hSw
        (try dsimp only at hSw)
        go_simp
        all_goals (with_reducible rfl)
      (try simp only [Act.put, List.setIfInBounds_toArray, List.set_cons_zero, List.set_cons_succ])
      refine Kept.rg (sz := 24) (g := 2) [(2, 15), (7, 20)] [7] (fun kO vals w' => match kO with
        | 2 => vals 2 = .int .i64 ((firN n + k : Nat) : Int)
        | 7 => ∃ g, vals 7 = .slice (some ⟨g, 0, none⟩) 2 2 ∧ w'.heap[g]? = some (.cells #[.int .i64 x, .int .i64 y] 3 (0, 0)) ∧ V.heap.size ≤ g
        | _ => True) (by kernel_rfl) (by kernel_rfl) hK0 (fun _ _ _ h => h) ?hSR ?hloc ?hstep ?hend
      case hSR =>
        intro k hk vals w1 w2 h hb
        simp only [List.map_cons, List.map_nil, List.mem_cons, List.not_mem_nil, or_false] at hk
        rcases hk with rfl | rfl
        · exact h
        · obtain ⟨g, e, ho, hB⟩ := h; exact ⟨g, e, rowB' hb ho, hB⟩
      case hloc =>
        intro k j hk hj hne hw vals v w1 h
        simp only [List.map_cons, List.map_nil, List.mem_cons, List.not_mem_nil, or_false] at hk hj
        rcases hk with rfl | rfl <;> rcases hj with rfl | rfl <;> first | exact absurd rfl hne | exact h | exact absurd (hw.symm.trans (by kernel_rfl : _ = true)) (by decide)
      case hstep =>
        intro k t o hm ho vals wA hSA hpre
        simp only [List.mem_cons, List.not_mem_nil, or_false, Prod.mk.injEq] at hm
        rcases hm with ⟨rfl, rfl⟩ | ⟨rfl, rfl⟩
        · have ho' := Option.some.inj ho
          subst ho'
          unfold RgStep
          rw [if_pos (by rfl)]
          intro K hK
          have hSw := hSA
          (try dsimp only at hSw)
          clear hpre
          simp only [fillA, Act.put, List.setIfInBounds_toArray, List.set_cons_zero, List.set_cons_succ]
          go_simp
          go_at_call 84
          refine (andNode_at n k _ _ (rdUp good_Net HD.out (bThen HBV.out hSA.1)) (Nat.le_refl _) HSP.out hk3).mono ?_
          rintro e wB ⟨rfl, hb⟩
          have hK' := hK (.int .i64 ((firN n + k : Nat) : Int)) wB (hS hSA hb) hb (upd_self _ _ _) (fun h => absurd h (by decide))
          clear hK
          simp only [fillA, Act.put, List.setIfInBounds_toArray, List.set_cons_zero, List.set_cons_succ] at hK'
          go_simp
          all_goals exact hK'
        · have ho' := Option.some.inj ho
          subst ho'
          unfold RgStep
          rw [if_pos (by rfl)]
          intro K hK
          have hSw := hSA
          (try dsimp only at hSw)
          clear hpre
          have hBA : V.heap.size ≤ wA.heap.size := hSA.1.size
          have hK' := hK (.slice (some ⟨wA.heap.size, 0, none⟩) 2 2) (wA.alloc (.cells #[.int .i64 x, .int .i64 y] 3)) (hS hSA (bAlloc (Below.refl _ _) (Nat.le_refl _) _)) (bAlloc (Below.refl _ _) (Nat.le_refl _) _) ⟨_, upd_self _ _ _, heap_alloc_new _ _, hBA⟩ (fun _ b hb => by
            have hb' : b = wA.heap.size := by simpa [topB] using hb
            subst hb'
            simp)
          clear hK
          simp only [fillA, Act.put, List.setIfInBounds_toArray, List.set_cons_zero, List.set_cons_succ] at hK' ⊢
          go_simp
          all_goals exact hK'
      intro vals wB hSB hR hap
      have e2 : vals 2 = .int .i64 ((firN n + k : Nat) : Int) := hR 2 (by decide)
      obtain ⟨g7, e7, r7, b7⟩ := hR 7 (by decide)
      simp only [fillA, Act.put, List.setIfInBounds_toArray, List.set_cons_zero, List.set_cons_succ]
      simp only [e2, e7]
      clear hap hR e2 e7
      refine Kept.tail (by rfl) (by kernel_rfl) ?_
      simp only [List.drop_succ_cons, List.drop_zero]
      have HFX := Lib.hid (And.intro xf yf)
      obtain ⟨q, hq⟩ : ∃ q, andAt n k (x, y) = q := ⟨_, rfl⟩
      have hq2 : [x, y].all (litB ((firN n + k : Nat) : Int)) = q := by rw [← hq]; unfold andAt; rw [HSP.out.fir]; simp
      have HQ := Lib.hid hq2
      rw [hq] at HST HMI
      have HG := Lib.hid (good_IntS.wider (rd_lit2 r7 xf yf) (Nat.zero_le _) (show g7 + 1 ≤ wB.heap.size from (Array.getElem?_eq_some_iff.1 r7).1))
      have HBE := Lib.hid (bThen HV0.out hSB.1)
      have HBE2 := Lib.hid (bThen HBV.out hSB.1)
      clear hq hq2 r7 hSB hS0 hS y0 y1 c0 c1 c2 c3 xf yf
      go_wp2_with fail
      refine (litsOk_at [x, y] _ _ _ HG.out (Nat.le_refl _) HQ.out).mono ?_
      rintro e w3 ⟨rfl, hb3⟩
      have HB3 := Lib.hid (bThen HBE.out hb3)
      have HB4 := Lib.hid (bThen HBE2.out hb3)
      clear hb3
      cases q with
      | false =>
        have HE := Lib.hid ((HMI.out rfl).symm.trans HR.out)
        go_wp2
        refine NoPanic.normal ?_
        go_wp2
        go_ret
        exact ⟨ret_bool HE.out, HB4.out⟩
      | true =>
        go_wp2
        refine NoPanic.normal ?_
        go_wp2
        go_roundw
        case rel => exact ⟨k + 1, by omega, by go_num, HST.out, HB3.out⟩
        case measure => simp [intOf]; omega
    · obtain rfl : k = n.2.2.1.length := by omega
      have HE := Lib.hid (show true = r from HA.out.symm.trans HR.out)
      go_wp2
      go_ret
      exact ⟨ret_bool HE.out, HB.out⟩

theorem rd_fit {B T : Nat} {w : World} {v : Value} {L : List Int} (h : rdIntS B T w [v] L) : ∀ x ∈ L, Fit x := by
  obtain ⟨A, c, e, hm, hA⟩ := h
  intro x hx
  obtain ⟨j, hj, rfl⟩ := List.getElem_of_mem hx
  obtain ⟨b, o, _, _, _, us, _, _, hr⟩ := hA j hj
  exact hr.2
theorem roots_fit {n : DNet} {us : List Value} {B T : Nat} {w : World} (h : rdNet B T w us n) : ∀ x ∈ rootsL n, Fit x := by
  obtain ⟨u0, u1, u2, u3, rfl, h0, h1, h2, h3⟩ := h
  intro x hx
  unfold rootsL at hx
  rcases List.mem_append.1 hx with hx | hx
  · exact rd_fit h3 x hx
  · obtain ⟨s, hs, hx⟩ := List.mem_flatMap.1 hx
    obtain ⟨A, c, e, hm, hA⟩ := h1
    obtain ⟨j, hj, rfl⟩ := List.getElem_of_mem hs
    obtain ⟨b, o, _, _, _, us, _, _, hr⟩ := hA j hj
    obtain ⟨v0, v1, v2, rfl, g0, g1, g2⟩ := hr
    exact rd_fit g2 x hx
set_option maxRecDepth 100000 in
set_option maxHeartbeats 6400000 in
theorem implNetOk_at (n : DNet) (us : List Value) (w : World) (h : rdNet 0 w.heap.size w us n) {r : Bool} (hr : netB n = r) :
    Calls Try.prog 44 #[.agg us.toArray] w fun e w' => e = .returned (.bool r) ∧ Below w.heap.size w w' := by
  have HR := Lib.hid hr
  have HD := Lib.hid h
  clear hr
  obtain ⟨mu0, mu1, mu2, mu3, rfl, mh0, mh1, mh2, mh3⟩ := h
  obtain ⟨me0, -⟩ := mh0
  injection me0 with me0
  subst me0
  obtain ⟨mA1, mc1, me1, mm1, -⟩ := slice_of mh1
  subst me1
  have mR1 := Lib.hid mh1
  clear mh1
  obtain ⟨mA2, mc2, me2, mm2, -⟩ := slice_of mh2
  subst me2
  have mR2 := Lib.hid mh2
  clear mh2
  obtain ⟨mA3, mc3, me3, mm3, -⟩ := slice_of mh3
  subst me3
  have mR3 := Lib.hid mh3
  clear mh3
  obtain ⟨b1, hb1⟩ : ∃ b, sizesB n = b := ⟨_, rfl⟩
  obtain ⟨b2, hb2⟩ : ∃ b, n.2.1.all seqB = b := ⟨_, rfl⟩
  obtain ⟨b3, hb3⟩ : ∃ b, andsB n = b := ⟨_, rfl⟩
  obtain ⟨b4, hb4⟩ : ∃ b, (rootsL n).all (litB (ncI n)) = b := ⟨_, rfl⟩
  have HE := Lib.hid (show (b1 && (b2 && (b3 && b4))) = r by rw [← HR.out, ← hb1, ← hb2, ← hb3, ← hb4]; rfl)
  obtain ⟨N, hN⟩ : ∃ N, ncI n = N := ⟨_, rfl⟩
  have hp : (0 < N) = (b1 = true) := by rw [← hN, ← hb1]; exact nc_pos
  rw [hN] at hb4
  have H1 := Lib.hid hb1
  have H2 := Lib.hid hb2
  have H3 := Lib.hid hb3
  have H4 := Lib.hid hb4
  have HN := Lib.hid hN
  clear hb1 hb2 hb3 hb4 hN
  go_enter Try.func44, Try.ntmps44
  go_wp2_with fail
  obtain ⟨W0, hV⟩ : ∃ W0, W0 = (w.alloc (.cells #[.int .i64 n.1, .slice mA1 (n.2.1).length mc1, .slice mA2 (n.2.2.1).length mc2, .slice mA3 (n.2.2.2).length mc3] 28)) := ⟨_, rfl⟩
  rw [← hV]
  have gN := eqbox1 hV
  have d0 : W0.cell? ⟨w.heap.size, 0, none⟩ = some (.int .i64 n.1) := box_cell gN.1 0 _ rfl
  have d1 : W0.cell? ⟨w.heap.size, 1, none⟩ = some (.slice mA1 (n.2.1).length mc1) := box_cell gN.1 1 _ rfl
  have d2 : W0.cell? ⟨w.heap.size, 2, none⟩ = some (.slice mA2 (n.2.2.1).length mc2) := box_cell gN.1 2 _ rfl
  have d3 : W0.cell? ⟨w.heap.size, 3, none⟩ = some (.slice mA3 (n.2.2.2).length mc3) := box_cell gN.1 3 _ rfl
  have sW0 : W0.heap.size = w.heap.size + 1 := by rw [hV]; simp
  have HW0 := Lib.hid gN.2
  clear hV gN
  refine (implNc_at n _ _ (rdUp good_Net HD.out HW0.out) (Nat.le_refl _) HN.out).mono ?_
  rintro e w1 ⟨rfl, hb⟩
  replace d0 := keep hb d0
  replace d1 := keep hb d1
  replace d2 := keep hb d2
  replace d3 := keep hb d3
  have HB := Lib.hid (bThen HW0.out hb)
  clear hb
  cases b1 with
  | false =>
    have hp' : ¬ 0 < N := by rw [hp]; simp
    go_wp2
    go_ret
    exact ⟨ret_bool HE.out, HB.out⟩
  | true =>
  have hp' : 0 < N := by rw [hp]
  have HS := Lib.hid (sizeP_of H1.out)
  clear hp
  go_wp2_with fail
  refine (seqsOk_at n _ _ (rdUp good_Net HD.out HB.out) HS.out.s12 H2.out).mono ?_
  rintro e w2 ⟨rfl, hb⟩
  replace d0 := keep hb d0
  replace d1 := keep hb d1
  replace d2 := keep hb d2
  replace d3 := keep hb d3
  replace HB := Lib.hid (bThen HB.out hb)
  clear hb
  cases b2 with
  | false =>
    go_wp2
    go_ret
    exact ⟨ret_bool HE.out, HB.out⟩
  | true =>
  go_wp2_with fail
  refine (andsOk_at n _ _ (rdUp good_Net HD.out HB.out) HS.out H3.out).mono ?_
  rintro e w3 ⟨rfl, hb⟩
  replace d0 := keep hb d0
  replace d1 := keep hb d1
  replace d2 := keep hb d2
  replace d3 := keep hb d3
  replace HB := Lib.hid (bThen HB.out hb)
  clear hb
  cases b3 with
  | false =>
    go_wp2
    go_ret
    exact ⟨ret_bool HE.out, HB.out⟩
  | true =>
  go_wp2_with fail
  refine (implRoots_at n _ _ (rdUp good_Net HD.out HB.out) H1.out H2.out).mono ?_
  rintro e w4 ⟨v, rfl, ho, hb⟩
  replace d0 := keep hb d0
  replace d1 := keep hb d1
  replace d2 := keep hb d2
  replace d3 := keep hb d3
  replace HB := Lib.hid (bThen HB.out hb)
  have HO := Lib.hid ho
  clear hb ho
  go_wp2_with fail
  refine (litsOk_at (rootsL n) _ _ _ (ownI_rd HO.out (roots_fit HD.out)) (Nat.le_refl _) H4.out).mono ?_
  rintro e w5 ⟨rfl, hb⟩
  replace HB := Lib.hid (bThen HB.out hb)
  clear hb
  go_wp2
  go_ret
  exact ⟨ret_bool HE.out, HB.out⟩
end Go.Proofs.Ytaebiiopommhdaa
