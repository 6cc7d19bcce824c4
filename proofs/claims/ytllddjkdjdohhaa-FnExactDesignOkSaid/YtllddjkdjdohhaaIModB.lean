/-
  Valid modules and designs, as the program judges them.
-/
import Derived.Test.YtllddjkdjdohhaaIModA
namespace Go.Proofs.Ytllddjkdjdohhaa
open Go.RowKit
set_option linter.unusedVariables false
set_option linter.unusedSimpArgs false

theorem fit_lit {L : List Int} (h : ∀ x ∈ L, 0 ≤ x ∧ x ≤ 1000) : ∀ x ∈ L, Fit x := fun x hx => by have := h x hx; unfold Fit; omega
def AllT {α : Type} (f : α → Bool) (L : List α) : Prop := L.all f = true
theorem AllT.nil {α : Type} (f : α → Bool) (L : List α) : AllT f (L.take 0) := by simp [AllT]
theorem AllT.step {α : Type} {f : α → Bool} {L : List α} {i : Nat} {x : α} (h : L[i]? = some x) (hf : f x = true) (h0 : AllT f (L.take i)) : AllT f (L.take (i + 1)) := by
  unfold AllT at *; rw [all_take_step f L i x h, h0, hf]; rfl
theorem AllT.done {α : Type} {f : α → Bool} {L : List α} (h : AllT f (L.take L.length)) : L.all f = true := by unfold AllT at h; rwa [List.take_length] at h

set_option maxRecDepth 100000 in
set_option maxHeartbeats 6400000 in
theorem implSignals_at (m : DModule) (us : List Value) {B T : Nat} {r : Bool} (w : World) (h : rdModule B T w us m) (hT : T ≤ w.heap.size) (hr : m.1.all (sigOk) = r) :
    Calls Try.prog 52 #[.agg us.toArray] w fun e w' => e = .returned (.bool r) ∧ Below w.heap.size w w' := by
  have HR := Lib.hid hr
  have HM := Lib.hid h
  clear hr
  obtain ⟨mu0, mu1, mu2, mu3, rfl, mh0, mh1, mh2, mh3⟩ := h
  obtain ⟨mA0, mq0, mf0, mm0, mk0⟩ := mh0
  injection mf0 with mf0
  subst mf0
  unfold maxLen at mm0
  have mE0 := Lib.hid mk0
  clear mk0
  obtain ⟨mA1, mq1, mf1, mm1, mk1⟩ := mh1
  injection mf1 with mf1
  subst mf1
  unfold maxLen at mm1
  have mE1 := Lib.hid mk1
  clear mk1
  obtain ⟨mA2, mq2, mf2, mm2, mk2⟩ := mh2
  injection mf2 with mf2
  subst mf2
  unfold maxLen at mm2
  have mE2 := Lib.hid mk2
  clear mk2
  obtain ⟨mA3, mq3, mf3, mm3, mk3⟩ := mh3
  injection mf3 with mf3
  subst mf3
  unfold maxLen at mm3
  have mE3 := Lib.hid mk3
  clear mk3
  go_enter Try.func52, Try.ntmps52
  go_wp2
  obtain ⟨W, hW⟩ : ∃ W, W = w.alloc (.cells #[.slice mA0 (m.1).length mq0, .slice mA1 (m.2.1).length mq1, .slice mA2 (m.2.2.1).length mq2, .slice mA3 (m.2.2.2).length mq3] 35) := ⟨_, rfl⟩
  rw [← hW]
  have g := eqbox1 hW
  have b0 : W.cell? ⟨w.heap.size, 0, none⟩ = some (.slice mA0 (m.1).length mq0) := box_cell g.1 0 _ rfl
  have b1 : W.cell? ⟨w.heap.size, 1, none⟩ = some (.slice mA1 (m.2.1).length mq1) := box_cell g.1 1 _ rfl
  have b2 : W.cell? ⟨w.heap.size, 2, none⟩ = some (.slice mA2 (m.2.2.1).length mq2) := box_cell g.1 2 _ rfl
  have b3 : W.cell? ⟨w.heap.size, 3, none⟩ = some (.slice mA3 (m.2.2.2).length mq3) := box_cell g.1 3 _ rfl
  have HW := Lib.hid g.2
  clear hW g
  go_loopw [8] (fun v wr => ∃ i : Nat, i ≤ m.1.length ∧ v = .int .i64 i ∧ AllT (sigOk) (m.1.take i) ∧ Below W.heap.size W wr) (fun v _ => m.1.length - (intOf v).toNat)
  case atStart => exact ⟨0, Nat.zero_le _, rfl, AllT.nil _ _, Below.refl _ _⟩
  case round =>
    obtain ⟨i, hi, rfl, hall, hb⟩ := hrel
    obtain ⟨W2, rfl⟩ : ∃ W2, W2 = wr := ⟨_, rfl⟩
    have HL := Lib.hid hall
    have HB := Lib.hid hb
    have HW2 := Lib.hid (bThen HW.out hb)
    have e0 := keep hb b0
    have e1 := keep hb b1
    have e2 := keep hb b2
    have e3 := keep hb b3
    have elt : w.heap.size < W2.heap.size := World.block_lt_of_cell? _ _ e0
    clear hb hall
    by_cases hlt : i < m.1.length
    · skip
      obtain ⟨xb, xo, xe, _, _, xus, _, xhc, xhr⟩ := mE0.out i hlt
      obtain ⟨x, xx⟩ : ∃ x, m.1[i]'hlt = x := ⟨_, rfl⟩
      have xx? : m.1[i]? = some x := by rw [List.getElem?_eq_getElem hlt, xx]
      rw [xx] at xhr
      subst xe
      have XR := Lib.hid xhr
      obtain ⟨xu0, xu1, xu2, rfl, xh0, xh1, xh2⟩ := xhr
      obtain ⟨xf0, -⟩ := xh0
      injection xf0 with xf0
      subst xf0
      obtain ⟨xf1, -⟩ := xh1
      injection xf1 with xf1
      subst xf1
      obtain ⟨xf2, -⟩ := xh2
      injection xf2 with xf2
      subst xf2
      have xc0 : W2.cell? ⟨xb, xo + i * 3, none⟩ = some (.int .i64 x.1) := keep HW2.out (xhc 0 _ rfl)
      have xc1 : W2.cell? ⟨xb, xo + i * 3 + 1, none⟩ = some (.int .i64 x.2.1) := keep HW2.out (xhc 1 _ rfl)
      have xc2 : W2.cell? ⟨xb, xo + i * 3 + 2, none⟩ = some (.int .i64 x.2.2) := keep HW2.out (xhc 2 _ rfl)
      have xlt : xb < W2.heap.size := World.block_lt_of_cell? _ _ xc0
      clear xhc xx
      have HS := Lib.hid (And.intro (fun (h0 : AllT (sigOk) (m.1.take i)) (hf : (sigOk) x = true) => AllT.step xx? hf h0) (fun hf : (sigOk) x = false => all_false_at (sigOk) m.1 i _ xx? hf))
      clear xx?
      obtain ⟨k, hk⟩ : ∃ k, x.1 = k := ⟨_, rfl⟩
      obtain ⟨a, ha⟩ : ∃ a, x.2.1 = a := ⟨_, rfl⟩
      obtain ⟨n, hn⟩ : ∃ n, x.2.2 = n := ⟨_, rfl⟩
      have HX := Lib.hid (show sigOk x = (decide (0 ≤ k ∧ k ≤ 3) && decide (0 ≤ a ∧ a ≤ 4) && (decide (n = 0) || (decide (k = 3) && decide (0 ≤ n ∧ n ≤ 15)))) by unfold sigOk; rw [hk, ha, hn])
      rw [hk] at xc0
      rw [ha] at xc1
      rw [hn] at xc2
      clear hk ha hn XR HM
      by_cases h1 : 0 ≤ k
      · by_cases h2 : k ≤ 3
        · by_cases h3 : 0 ≤ a
          · by_cases h4 : a ≤ 4
            · by_cases h5 : n = 0
              · have hok : sigOk x = true := by rw [HX.out]; simp only [Bool.and_eq_true, Bool.or_eq_true, decide_eq_true_eq]; omega
                have HOK := Lib.hid hok
                clear hok HX
                subst h5
                go_wp2
                go_roundw
                case rel => exact ⟨i + 1, by omega, by go_num, HS.out.1 HL.out HOK.out, bThen HB.out (bAlloc (Below.refl _ _) (Nat.le_refl _) _)⟩
                case measure => simp [intOf]; omega
              · have h5' : (n == 0) = false := by simpa using h5
                have h5'' : (n != 0) = true := by simpa using h5
                by_cases h6 : k = 3
                · by_cases h7 : 0 ≤ n
                  · by_cases h8 : n ≤ 15
                    · have hok : sigOk x = true := by rw [HX.out]; simp only [Bool.and_eq_true, Bool.or_eq_true, decide_eq_true_eq]; omega
                      have HOK := Lib.hid hok
                      clear hok HX
                      subst h6
                      go_wp2
                      go_roundw
                      case rel => exact ⟨i + 1, by omega, by go_num, HS.out.1 HL.out HOK.out, bThen HB.out (bAlloc (Below.refl _ _) (Nat.le_refl _) _)⟩
                      case measure => simp [intOf]; omega
                    · have hno : sigOk x = false := by rw [← Bool.not_eq_true, HX.out]; simp only [Bool.and_eq_true, Bool.or_eq_true, decide_eq_true_eq]; omega
                      have HNO := Lib.hid (HS.out.2 hno)
                      clear hno HX
                      subst h6
                      go_wp2
                      go_ret
                      exact ⟨ret_bool (by rw [← HR.out]; exact HNO.out.symm), bThen HW2.out (bAlloc (Below.refl _ _) (Nat.le_refl _) _)⟩
                  · have hno : sigOk x = false := by rw [← Bool.not_eq_true, HX.out]; simp only [Bool.and_eq_true, Bool.or_eq_true, decide_eq_true_eq]; omega
                    have HNO := Lib.hid (HS.out.2 hno)
                    clear hno HX
                    subst h6
                    go_wp2
                    go_ret
                    exact ⟨ret_bool (by rw [← HR.out]; exact HNO.out.symm), bThen HW2.out (bAlloc (Below.refl _ _) (Nat.le_refl _) _)⟩
                · have h6' : (k == 3) = false := by simpa using h6
                  have h6'' : (k != 3) = true := by simpa using h6
                  have hno : sigOk x = false := by rw [← Bool.not_eq_true, HX.out]; simp only [Bool.and_eq_true, Bool.or_eq_true, decide_eq_true_eq]; omega
                  have HNO := Lib.hid (HS.out.2 hno)
                  clear hno HX
                  go_wp2
                  go_ret
                  exact ⟨ret_bool (by rw [← HR.out]; exact HNO.out.symm), bThen HW2.out (bAlloc (Below.refl _ _) (Nat.le_refl _) _)⟩
            · have hno : sigOk x = false := by rw [← Bool.not_eq_true, HX.out]; simp only [Bool.and_eq_true, Bool.or_eq_true, decide_eq_true_eq]; omega
              have HNO := Lib.hid (HS.out.2 hno)
              clear hno HX
              go_wp2
              go_ret
              exact ⟨ret_bool (by rw [← HR.out]; exact HNO.out.symm), bThen HW2.out (bAlloc (Below.refl _ _) (Nat.le_refl _) _)⟩
          · have hno : sigOk x = false := by rw [← Bool.not_eq_true, HX.out]; simp only [Bool.and_eq_true, Bool.or_eq_true, decide_eq_true_eq]; omega
            have HNO := Lib.hid (HS.out.2 hno)
            clear hno HX
            go_wp2
            go_ret
            exact ⟨ret_bool (by rw [← HR.out]; exact HNO.out.symm), bThen HW2.out (bAlloc (Below.refl _ _) (Nat.le_refl _) _)⟩
        · have hno : sigOk x = false := by rw [← Bool.not_eq_true, HX.out]; simp only [Bool.and_eq_true, Bool.or_eq_true, decide_eq_true_eq]; omega
          have HNO := Lib.hid (HS.out.2 hno)
          clear hno HX
          go_wp2
          go_ret
          exact ⟨ret_bool (by rw [← HR.out]; exact HNO.out.symm), bThen HW2.out (bAlloc (Below.refl _ _) (Nat.le_refl _) _)⟩
      · have hno : sigOk x = false := by rw [← Bool.not_eq_true, HX.out]; simp only [Bool.and_eq_true, Bool.or_eq_true, decide_eq_true_eq]; omega
        have HNO := Lib.hid (HS.out.2 hno)
        clear hno HX
        go_wp2
        go_ret
        exact ⟨ret_bool (by rw [← HR.out]; exact HNO.out.symm), bThen HW2.out (bAlloc (Below.refl _ _) (Nat.le_refl _) _)⟩
    · obtain rfl : i = m.1.length := by omega
      have HF := Lib.hid HL.out.done
      go_wp2
      go_ret
      exact ⟨ret_bool (by rw [← HR.out]; exact HF.out.symm), HW2.out⟩

theorem implOps_at (n : Int) (L : List DOp) (v : Value) {B T : Nat} {d : Bool} (w : World) (h : rdOpS B T w [v] L) (hT : T ≤ w.heap.size) (hd : opsB n L = d) :
    Calls Try.prog 22 #[v, .int .i64 n] w fun e w' => e = .returned (.bool d) ∧ Below w.heap.size w w' := by subst hd; exact implOps_any n L v w h hT

set_option maxRecDepth 100000 in
set_option maxHeartbeats 6400000 in
theorem implAssigns_at (m : DModule) (us : List Value) {B T : Nat} {r : Bool} (w : World) (h : rdModule B T w us m) (hT : T ≤ w.heap.size) (hr : m.2.1.all (asgOk m) = r) :
    Calls Try.prog 53 #[.agg us.toArray] w fun e w' => e = .returned (.bool r) ∧ Below w.heap.size w w' := by
  have HR := Lib.hid hr
  have HM := Lib.hid h
  clear hr
  obtain ⟨mu0, mu1, mu2, mu3, rfl, mh0, mh1, mh2, mh3⟩ := h
  obtain ⟨mA0, mq0, mf0, mm0, mk0⟩ := mh0
  injection mf0 with mf0
  subst mf0
  unfold maxLen at mm0
  have mE0 := Lib.hid mk0
  clear mk0
  obtain ⟨mA1, mq1, mf1, mm1, mk1⟩ := mh1
  injection mf1 with mf1
  subst mf1
  unfold maxLen at mm1
  have mE1 := Lib.hid mk1
  clear mk1
  obtain ⟨mA2, mq2, mf2, mm2, mk2⟩ := mh2
  injection mf2 with mf2
  subst mf2
  unfold maxLen at mm2
  have mE2 := Lib.hid mk2
  clear mk2
  obtain ⟨mA3, mq3, mf3, mm3, mk3⟩ := mh3
  injection mf3 with mf3
  subst mf3
  unfold maxLen at mm3
  have mE3 := Lib.hid mk3
  clear mk3
  go_enter Try.func53, Try.ntmps53
  go_wp2
  obtain ⟨W, hW⟩ : ∃ W, W = w.alloc (.cells #[.slice mA0 (m.1).length mq0, .slice mA1 (m.2.1).length mq1, .slice mA2 (m.2.2.1).length mq2, .slice mA3 (m.2.2.2).length mq3] 35) := ⟨_, rfl⟩
  rw [← hW]
  have g := eqbox1 hW
  have b0 : W.cell? ⟨w.heap.size, 0, none⟩ = some (.slice mA0 (m.1).length mq0) := box_cell g.1 0 _ rfl
  have b1 : W.cell? ⟨w.heap.size, 1, none⟩ = some (.slice mA1 (m.2.1).length mq1) := box_cell g.1 1 _ rfl
  have b2 : W.cell? ⟨w.heap.size, 2, none⟩ = some (.slice mA2 (m.2.2.1).length mq2) := box_cell g.1 2 _ rfl
  have b3 : W.cell? ⟨w.heap.size, 3, none⟩ = some (.slice mA3 (m.2.2.2).length mq3) := box_cell g.1 3 _ rfl
  have HW := Lib.hid g.2
  clear hW g
  go_loopw [8] (fun v wr => ∃ i : Nat, i ≤ m.2.1.length ∧ v = .int .i64 i ∧ AllT (asgOk m) (m.2.1.take i) ∧ Below W.heap.size W wr) (fun v _ => m.2.1.length - (intOf v).toNat)
  case atStart => exact ⟨0, Nat.zero_le _, rfl, AllT.nil _ _, Below.refl _ _⟩
  case round =>
    obtain ⟨i, hi, rfl, hall, hb⟩ := hrel
    obtain ⟨W2, rfl⟩ : ∃ W2, W2 = wr := ⟨_, rfl⟩
    have HL := Lib.hid hall
    have HB := Lib.hid hb
    have HW2 := Lib.hid (bThen HW.out hb)
    have e0 := keep hb b0
    have e1 := keep hb b1
    have e2 := keep hb b2
    have e3 := keep hb b3
    have elt : w.heap.size < W2.heap.size := World.block_lt_of_cell? _ _ e0
    clear hb hall
    by_cases hlt : i < m.2.1.length
    · skip
      obtain ⟨xb, xo, xe, _, _, xus, _, xhc, xhr⟩ := mE1.out i hlt
      obtain ⟨x, xx⟩ : ∃ x, m.2.1[i]'hlt = x := ⟨_, rfl⟩
      have xx? : m.2.1[i]? = some x := by rw [List.getElem?_eq_getElem hlt, xx]
      rw [xx] at xhr
      subst xe
      have XR := Lib.hid xhr
      obtain ⟨xu0, xu1, rfl, xh0, xh1⟩ := xhr
      obtain ⟨xf0, -⟩ := xh0
      injection xf0 with xf0
      subst xf0
      obtain ⟨xA1, xq1, xf1, xm1, xk1⟩ := xh1
      injection xf1 with xf1
      subst xf1
      unfold maxLen at xm1
      have xE1 := Lib.hid xk1
      clear xk1
      have xc0 : W2.cell? ⟨xb, xo + i * 2, none⟩ = some (.int .i64 x.1) := keep HW2.out (xhc 0 _ rfl)
      have xc1 : W2.cell? ⟨xb, xo + i * 2 + 1, none⟩ = some (.slice xA1 (x.2).length xq1) := keep HW2.out (xhc 1 _ rfl)
      have xlt : xb < W2.heap.size := World.block_lt_of_cell? _ _ xc0
      clear xhc xx
      have HS := Lib.hid (And.intro (fun (h0 : AllT (asgOk m) (m.2.1.take i)) (hf : (asgOk m) x = true) => AllT.step xx? hf h0) (fun hf : (asgOk m) x = false => all_false_at (asgOk m) m.2.1 i _ xx? hf))
      clear xx?
      have hA : asgOk m x = (kindAt m [1, 2, 3] x.1 && opsB m.1.length x.2) := rfl
      have HX := Lib.hid hA
      obtain ⟨q, hq⟩ : ∃ q, kindAt m [1, 2, 3] x.1 = q := ⟨_, rfl⟩
      obtain ⟨z, hz⟩ : ∃ z, opsB m.1.length x.2 = z := ⟨_, rfl⟩
      have HQ := Lib.hid (And.intro hq hz)
      have HOPS := Lib.hid (show rdOpS B T w [.slice xA1 x.2.length xq1] x.2 from ⟨_, _, rfl, by unfold maxLen; exact xm1, xE1.out⟩)
      clear hq hz hA
      go_wp2_with fail
      obtain ⟨V, hV⟩ : ∃ V, V = (W2.alloc (.cells #[.int .i64 x.1, .slice xA1 (x.2).length xq1] 88)).alloc (.cells #[.int .i64 1, .int .i64 2, .int .i64 3] 3) := ⟨_, rfl⟩
      rw [← hV]
      have g := eqbox2 hV
      have y1 : V.cell? ⟨W2.heap.size, 1, none⟩ = some (.slice xA1 x.2.length xq1) := box_cell g.1 1 _ rfl
      have HV := Lib.hid g.2.2
      have hlit : rdIntS 0 V.heap.size V [.slice (some ⟨W2.heap.size + 1, 0, none⟩) 3 3] [1, 2, 3] := rd_lit (L := [1, 2, 3]) g.2.1 (by decide) (fit_lit (by decide))
      clear hV g
      refine (implHasKind_at m x.1 [1, 2, 3] _ _ _ (good_Module.below HM.out hT (bThen HW2.out HV.out)) (Nat.le_trans hT (bThen HW2.out HV.out).size) hlit (Nat.le_refl _) HQ.out.1).mono ?_
      rintro e w3 ⟨rfl, hb3⟩
      replace y1 := keep hb3 y1
      replace e0 := keep hb3 (keep HV.out e0)
      have HW3 := Lib.hid (bThen (bThen HW2.out HV.out) hb3)
      have HB3 := Lib.hid (bThen (bThen HB.out HV.out) hb3)
      clear hb3 hlit
      cases q
      · have HNO := Lib.hid (HS.out.2 (by rw [HX.out, HQ.out.1]; rfl))
        go_wp2
        go_ret
        exact ⟨ret_bool (by rw [← HR.out]; exact HNO.out.symm), HW3.out⟩
      · go_wp2_with fail
        refine (implOps_at (m.1.length : Int) x.2 _ _ (good_OpS.below HOPS.out hT HW3.out) (Nat.le_trans hT HW3.out.size) HQ.out.2).mono ?_
        rintro e w4 ⟨rfl, hb4⟩
        have HW4 := Lib.hid (bThen HW3.out hb4)
        have HB4 := Lib.hid (bThen HB3.out hb4)
        clear hb4
        cases z
        · have HNO := Lib.hid (HS.out.2 (by rw [HX.out, HQ.out.1, HQ.out.2]; rfl))
          go_wp2
          go_ret
          exact ⟨ret_bool (by rw [← HR.out]; exact HNO.out.symm), HW4.out⟩
        · have HOK := Lib.hid (show asgOk m x = true by rw [HX.out, HQ.out.1, HQ.out.2]; rfl)
          go_wp2
          go_roundw
          case rel => exact ⟨i + 1, by omega, by go_num, HS.out.1 HL.out HOK.out, HB4.out⟩
          case measure => simp [intOf]; omega
    · obtain rfl : i = m.2.1.length := by omega
      have HF := Lib.hid HL.out.done
      go_wp2
      go_ret
      exact ⟨ret_bool (by rw [← HR.out]; exact HF.out.symm), HW2.out⟩

set_option maxRecDepth 100000 in
set_option maxHeartbeats 6400000 in
theorem implMems_at (m : DModule) (us : List Value) {B T : Nat} {r : Bool} (w : World) (h : rdModule B T w us m) (hT : T ≤ w.heap.size) (hr : m.2.2.2.all (memOk m) = r) :
    Calls Try.prog 55 #[.agg us.toArray] w fun e w' => e = .returned (.bool r) ∧ Below w.heap.size w w' := by
  have HR := Lib.hid hr
  have HM := Lib.hid h
  clear hr
  obtain ⟨mu0, mu1, mu2, mu3, rfl, mh0, mh1, mh2, mh3⟩ := h
  obtain ⟨mA0, mq0, mf0, mm0, mk0⟩ := mh0
  injection mf0 with mf0
  subst mf0
  unfold maxLen at mm0
  have mE0 := Lib.hid mk0
  clear mk0
  obtain ⟨mA1, mq1, mf1, mm1, mk1⟩ := mh1
  injection mf1 with mf1
  subst mf1
  unfold maxLen at mm1
  have mE1 := Lib.hid mk1
  clear mk1
  obtain ⟨mA2, mq2, mf2, mm2, mk2⟩ := mh2
  injection mf2 with mf2
  subst mf2
  unfold maxLen at mm2
  have mE2 := Lib.hid mk2
  clear mk2
  obtain ⟨mA3, mq3, mf3, mm3, mk3⟩ := mh3
  injection mf3 with mf3
  subst mf3
  unfold maxLen at mm3
  have mE3 := Lib.hid mk3
  clear mk3
  go_enter Try.func55, Try.ntmps55
  go_wp2
  obtain ⟨W, hW⟩ : ∃ W, W = w.alloc (.cells #[.slice mA0 (m.1).length mq0, .slice mA1 (m.2.1).length mq1, .slice mA2 (m.2.2.1).length mq2, .slice mA3 (m.2.2.2).length mq3] 35) := ⟨_, rfl⟩
  rw [← hW]
  have g := eqbox1 hW
  have b0 : W.cell? ⟨w.heap.size, 0, none⟩ = some (.slice mA0 (m.1).length mq0) := box_cell g.1 0 _ rfl
  have b1 : W.cell? ⟨w.heap.size, 1, none⟩ = some (.slice mA1 (m.2.1).length mq1) := box_cell g.1 1 _ rfl
  have b2 : W.cell? ⟨w.heap.size, 2, none⟩ = some (.slice mA2 (m.2.2.1).length mq2) := box_cell g.1 2 _ rfl
  have b3 : W.cell? ⟨w.heap.size, 3, none⟩ = some (.slice mA3 (m.2.2.2).length mq3) := box_cell g.1 3 _ rfl
  have HW := Lib.hid g.2
  clear hW g
  go_loopw [8] (fun v wr => ∃ i : Nat, i ≤ m.2.2.2.length ∧ v = .int .i64 i ∧ AllT (memOk m) (m.2.2.2.take i) ∧ Below W.heap.size W wr) (fun v _ => m.2.2.2.length - (intOf v).toNat)
  case atStart => exact ⟨0, Nat.zero_le _, rfl, AllT.nil _ _, Below.refl _ _⟩
  case round =>
    obtain ⟨i, hi, rfl, hall, hb⟩ := hrel
    obtain ⟨W2, rfl⟩ : ∃ W2, W2 = wr := ⟨_, rfl⟩
    have HL := Lib.hid hall
    have HB := Lib.hid hb
    have HW2 := Lib.hid (bThen HW.out hb)
    have e0 := keep hb b0
    have e1 := keep hb b1
    have e2 := keep hb b2
    have e3 := keep hb b3
    have elt : w.heap.size < W2.heap.size := World.block_lt_of_cell? _ _ e0
    clear hb hall
    by_cases hlt : i < m.2.2.2.length
    · skip
      obtain ⟨xb, xo, xe, _, _, xus, _, xhc, xhr⟩ := mE3.out i hlt
      obtain ⟨x, xx⟩ : ∃ x, m.2.2.2[i]'hlt = x := ⟨_, rfl⟩
      have xx? : m.2.2.2[i]? = some x := by rw [List.getElem?_eq_getElem hlt, xx]
      rw [xx] at xhr
      subst xe
      have XR := Lib.hid xhr
      obtain ⟨xu0, xu1, xu2, xu3, rfl, xh0, xh1, xh2, xh3⟩ := xhr
      obtain ⟨xf0, -⟩ := xh0
      injection xf0 with xf0
      subst xf0
      obtain ⟨xf1, -⟩ := xh1
      injection xf1 with xf1
      subst xf1
      obtain ⟨xf2, -⟩ := xh2
      injection xf2 with xf2
      subst xf2
      obtain ⟨xf3, -⟩ := xh3
      injection xf3 with xf3
      subst xf3
      have xc0 : W2.cell? ⟨xb, xo + i * 4, none⟩ = some (.int .i64 x.1) := keep HW2.out (xhc 0 _ rfl)
      have xc1 : W2.cell? ⟨xb, xo + i * 4 + 1, none⟩ = some (.int .i64 x.2.1) := keep HW2.out (xhc 1 _ rfl)
      have xc2 : W2.cell? ⟨xb, xo + i * 4 + 2, none⟩ = some (.int .i64 x.2.2.1) := keep HW2.out (xhc 2 _ rfl)
      have xc3 : W2.cell? ⟨xb, xo + i * 4 + 3, none⟩ = some (.int .i64 x.2.2.2) := keep HW2.out (xhc 3 _ rfl)
      have xlt : xb < W2.heap.size := World.block_lt_of_cell? _ _ xc0
      clear xhc xx
      have HS := Lib.hid (And.intro (fun (h0 : AllT (memOk m) (m.2.2.2.take i)) (hf : (memOk m) x = true) => AllT.step xx? hf h0) (fun hf : (memOk m) x = false => all_false_at (memOk m) m.2.2.2 i _ xx? hf))
      clear xx?
      have hA : memOk m x = (sigEx m [x.1, x.2.1, x.2.2.1] && kindAt m [1, 2] x.2.2.2) := rfl
      have HX := Lib.hid hA
      obtain ⟨q, hq⟩ : ∃ q, sigEx m [x.1, x.2.1, x.2.2.1] = q := ⟨_, rfl⟩
      obtain ⟨z, hz⟩ : ∃ z, kindAt m [1, 2] x.2.2.2 = z := ⟨_, rfl⟩
      have HQ := Lib.hid (And.intro hq hz)
      obtain ⟨v0, v1, v2, v3, vv, ⟨-, F0⟩, ⟨-, F1⟩, ⟨-, F2⟩, -⟩ := XR.out
      clear hq hz hA vv
      go_wp2_with fail
      obtain ⟨V, hV⟩ : ∃ V, V = (W2.alloc (.cells #[.int .i64 x.1, .int .i64 x.2.1, .int .i64 x.2.2.1, .int .i64 x.2.2.2] 90)).alloc (.cells #[.int .i64 x.1, .int .i64 x.2.1, .int .i64 x.2.2.1] 3) := ⟨_, rfl⟩
      rw [← hV]
      have g := eqbox2 hV
      have y3 : V.cell? ⟨W2.heap.size, 3, none⟩ = some (.int .i64 x.2.2.2) := box_cell g.1 3 _ rfl
      have HV := Lib.hid g.2.2
      have hlit : rdIntS 0 V.heap.size V [.slice (some ⟨W2.heap.size + 1, 0, none⟩) 3 3] [x.1, x.2.1, x.2.2.1] := rd_lit (L := [x.1, x.2.1, x.2.2.1]) g.2.1 (by simp) (by intro y hy; simp at hy; rcases hy with rfl | rfl | rfl <;> assumption)
      clear hV g
      refine (implExist_at m [x.1, x.2.1, x.2.2.1] _ _ _ (good_Module.below HM.out hT (bThen HW2.out HV.out)) (Nat.le_trans hT (bThen HW2.out HV.out).size) hlit (Nat.le_refl _) HQ.out.1).mono ?_
      rintro e w3 ⟨rfl, hb3⟩
      replace e0 := keep hb3 (keep HV.out e0)
      replace e1 := keep hb3 (keep HV.out e1)
      replace e2 := keep hb3 (keep HV.out e2)
      replace e3 := keep hb3 (keep HV.out e3)
      replace y3 := keep hb3 y3
      have HW3 := Lib.hid (bThen (bThen HW2.out HV.out) hb3)
      have HB3 := Lib.hid (bThen (bThen HB.out HV.out) hb3)
      clear hb3 hlit elt
      cases q
      · have HNO := Lib.hid (HS.out.2 (by rw [HX.out, HQ.out.1]; rfl))
        go_wp2
        go_ret
        exact ⟨ret_bool (by rw [← HR.out]; exact HNO.out.symm), HW3.out⟩
      · go_wp2_with fail
        obtain ⟨V2, hV2⟩ : ∃ V2, V2 = w3.alloc (.cells #[.int .i64 1, .int .i64 2] 3) := ⟨_, rfl⟩
        rw [← hV2]
        have g := eqbox1 hV2
        have HV2 := Lib.hid g.2
        have hlit : rdIntS 0 V2.heap.size V2 [.slice (some ⟨w3.heap.size, 0, none⟩) 2 2] [1, 2] := rd_lit (L := [1, 2]) g.1 (by decide) (fit_lit (by decide))
        clear hV2 g
        refine (implHasKind_at m x.2.2.2 [1, 2] _ _ _ (good_Module.below HM.out hT (bThen HW3.out HV2.out)) (Nat.le_trans hT (bThen HW3.out HV2.out).size) hlit (Nat.le_refl _) HQ.out.2).mono ?_
        rintro e w4 ⟨rfl, hb4⟩
        have HW4 := Lib.hid (bThen (bThen HW3.out HV2.out) hb4)
        have HB4 := Lib.hid (bThen (bThen HB3.out HV2.out) hb4)
        clear hb4 hlit
        cases z
        · have HNO := Lib.hid (HS.out.2 (by rw [HX.out, HQ.out.1, HQ.out.2]; rfl))
          go_wp2
          go_ret
          exact ⟨ret_bool (by rw [← HR.out]; exact HNO.out.symm), HW4.out⟩
        · have HOK := Lib.hid (show memOk m x = true by rw [HX.out, HQ.out.1, HQ.out.2]; rfl)
          go_wp2
          go_roundw
          case rel => exact ⟨i + 1, by omega, by go_num, HS.out.1 HL.out HOK.out, HB4.out⟩
          case measure => simp [intOf]; omega
    · obtain rfl : i = m.2.2.2.length := by omega
      have HF := Lib.hid HL.out.done
      go_wp2
      go_ret
      exact ⟨ret_bool (by rw [← HR.out]; exact HF.out.symm), HW2.out⟩
end Go.Proofs.Ytllddjkdjdohhaa
