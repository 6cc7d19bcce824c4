/-
  The counts of a design, as the program judges them.
-/
import Derived.Test.YtmjofpfkgbnknaaGreatSCnt
import Derived.Test.YtmjofpfkgbnknaaGreatIPorts
namespace Go.Proofs.YtmjofpfkgbnknaaGreat
open Go.RowKit
set_option linter.unusedVariables false
set_option linter.unusedSimpArgs false

set_option maxRecDepth 100000 in
set_option maxHeartbeats 6400000 in
theorem implCountsFit_any (d : DDesign) (us : List Value) {B T : Nat} (w : World) (h : rdDesign B T w us d) (hT : T ≤ w.heap.size) :
    Calls Tryz.prog 142 #[.agg us.toArray] w fun e w' => e = .returned (.bool (decide (d.length ≤ 4) && d.all sizeOk)) ∧ Below w.heap.size w w' := by
  obtain ⟨u0, rfl, h⟩ := h
  obtain ⟨A, c, ea, hm, hA⟩ := h
  injection ea with ea
  subst ea
  unfold maxLen at hm
  have HA := Lib.hid hA
  clear hA
  by_cases h4 : d.length ≤ 4
  · have t4 : ¬ (4 : Int) < (d.length : Int) := by omega
    rw [decide_eq_true h4]
    go_enter Tryz.func142, Tryz.ntmps142
    go_wp2
    obtain ⟨W, hW⟩ : ∃ W, W = w.alloc (.cells #[.slice A d.length c] 36) := ⟨_, rfl⟩
    rw [← hW]
    have g := eqbox1 hW
    have HW := Lib.hid g.2
    clear hW g
    go_loopw [12] (fun v wr => ∃ i : Nat, i ≤ d.length ∧ v = .int .i64 i ∧ (d.take i).all sizeOk = true ∧ Below W.heap.size W wr) (fun v _ => d.length - (intOf v).toNat)
    case atStart => exact ⟨0, Nat.zero_le _, rfl, by simp, Below.refl _ _⟩
    case round =>
      obtain ⟨i, hi, rfl, hall, hb⟩ := hrel
      have HB := Lib.hid hb
      have HL := Lib.hid hall
      clear hb hall
      by_cases hlt : i < d.length
      · obtain ⟨b, o, rfl, _, hbT, us, hul, hc, hr⟩ := HA.out i hlt
        obtain ⟨m, hmm⟩ : ∃ m, d[i] = m := ⟨_, rfl⟩
        have hm? : d[i]? = some m := by rw [List.getElem?_eq_getElem hlt, hmm]
        rw [hmm] at hr
        obtain ⟨v0, v1, v2, v3, rfl, vh0, vh1, vh2, vh3⟩ := hr
        obtain ⟨a0, q0, f0, m0, -⟩ := vh0
        obtain ⟨a1, q1, f1, m1, -⟩ := vh1
        obtain ⟨a2, q2, f2, m2, -⟩ := vh2
        obtain ⟨a3, q3, f3, m3, -⟩ := vh3
        injection f0 with f0
        injection f1 with f1
        injection f2 with f2
        injection f3 with f3
        subst f0 f1 f2 f3
        have x0 : wr.cell? ⟨b, o + i * 4, none⟩ = some (.slice a0 m.1.length q0) := keep HB.out (keep HW.out (hc 0 _ rfl))
        have x1 : wr.cell? ⟨b, o + i * 4 + 1, none⟩ = some (.slice a1 m.2.1.length q1) := keep HB.out (keep HW.out (hc 1 _ rfl))
        have x2 : wr.cell? ⟨b, o + i * 4 + 2, none⟩ = some (.slice a2 m.2.2.1.length q2) := keep HB.out (keep HW.out (hc 2 _ rfl))
        have x3 : wr.cell? ⟨b, o + i * 4 + 3, none⟩ = some (.slice a3 m.2.2.2.length q3) := keep HB.out (keep HW.out (hc 3 _ rfl))
        unfold maxLen at m0 m1 m2 m3
        have HS := Lib.hid (And.intro (all_take_step sizeOk d i m hm?) (fun hf : sizeOk m = false => all_false_at sizeOk d i m hm? hf))
        have HM := Lib.hid (show sizeOk m = (decide (m.1.length ≤ 30) && decide (m.2.1.length ≤ 30) && decide (m.2.2.1.length ≤ 3) && decide (m.2.2.2.length ≤ 2)) from rfl)
        clear hc hm? hmm hul hbT
        obtain ⟨n0, hn0⟩ : ∃ n, m.1.length = n := ⟨_, rfl⟩
        obtain ⟨n1, hn1⟩ : ∃ n, m.2.1.length = n := ⟨_, rfl⟩
        obtain ⟨n2, hn2⟩ : ∃ n, m.2.2.1.length = n := ⟨_, rfl⟩
        obtain ⟨n3, hn3⟩ : ∃ n, m.2.2.2.length = n := ⟨_, rfl⟩
        rw [hn0] at x0 m0 HM
        rw [hn1] at x1 m1 HM
        rw [hn2] at x2 m2 HM
        rw [hn3] at x3 m3 HM
        clear hn0 hn1 hn2 hn3
        by_cases g0 : n0 ≤ 30
        · by_cases g1 : n1 ≤ 30
          · by_cases g2 : n2 ≤ 3
            · by_cases g3 : n3 ≤ 2
              · have y0 : ¬ (30 : Int) < (n0 : Int) := by omega
                have y1 : ¬ (30 : Int) < (n1 : Int) := by omega
                have y2 : ¬ (3 : Int) < (n2 : Int) := by omega
                have y3 : ¬ (2 : Int) < (n3 : Int) := by omega
                go_wp2
                go_roundw
                case rel => exact ⟨i + 1, by omega, by go_num, by rw [HS.out.1, HL.out, HM.out]; simp [g0, g1, g2, g3], bThen HB.out (bAlloc (Below.refl _ _) (Nat.le_refl _) _)⟩
                case measure => simp [intOf]; omega
              · have y0 : ¬ (30 : Int) < (n0 : Int) := by omega
                have y1 : ¬ (30 : Int) < (n1 : Int) := by omega
                have y2 : ¬ (3 : Int) < (n2 : Int) := by omega
                have y3 : (2 : Int) < (n3 : Int) := by omega
                go_wp2
                go_ret
                exact ⟨ret_b (by rw [HS.out.2 (by rw [HM.out]; simp [g3])] <;> simp), bThen HW.out (bThen HB.out (bAlloc (Below.refl _ _) (Nat.le_refl _) _))⟩
            · have y0 : ¬ (30 : Int) < (n0 : Int) := by omega
              have y1 : ¬ (30 : Int) < (n1 : Int) := by omega
              have y2 : (3 : Int) < (n2 : Int) := by omega
              go_wp2
              go_ret
              exact ⟨ret_b (by rw [HS.out.2 (by rw [HM.out]; simp [g2])] <;> simp), bThen HW.out (bThen HB.out (bAlloc (Below.refl _ _) (Nat.le_refl _) _))⟩
          · have y0 : ¬ (30 : Int) < (n0 : Int) := by omega
            have y1 : (30 : Int) < (n1 : Int) := by omega
            go_wp2
            go_ret
            exact ⟨ret_b (by rw [HS.out.2 (by rw [HM.out]; simp [g1])] <;> simp), bThen HW.out (bThen HB.out (bAlloc (Below.refl _ _) (Nat.le_refl _) _))⟩
        · have y0 : (30 : Int) < (n0 : Int) := by omega
          go_wp2
          go_ret
          exact ⟨ret_b (by rw [HS.out.2 (by rw [HM.out]; simp [g0])] <;> simp), bThen HW.out (bThen HB.out (bAlloc (Below.refl _ _) (Nat.le_refl _) _))⟩
      · obtain rfl : i = d.length := by omega
        have hsz : d.all sizeOk = true := by have := HL.out; rwa [List.take_length] at this
        go_wp2
        go_ret
        exact ⟨ret_b (by rw [hsz]; rfl), bThen HW.out HB.out⟩
  · have t4 : (4 : Int) < (d.length : Int) := by omega
    rw [decide_eq_false h4]
    go_enter Tryz.func142, Tryz.ntmps142
    go_wp2
    go_ret
    exact ⟨ret_b (by simp), by (repeat' (first | assumption | exact Below.refl _ _ | refine bDrewN ?_ _ | refine Below.drew ?_ | refine bAlloc ?_ (Nat.le_refl _) _ | refine bSet ?_ (by first | exact Nat.le_refl _ | omega | (simp <;> omega)) _))⟩
theorem implCountsFit_at (d : DDesign) (us : List Value) {B T : Nat} {r : Bool} (w : World) (h : rdDesign B T w us d) (hT : T ≤ w.heap.size) (hr : (decide (d.length ≤ 4) && d.all sizeOk) = r) :
    Calls Tryz.prog 142 #[.agg us.toArray] w fun e w' => e = .returned (.bool r) ∧ Below w.heap.size w w' := by subst hr; exact implCountsFit_any d us w h hT

set_option maxRecDepth 100000 in
set_option maxHeartbeats 6400000 in
theorem implInstsFit_any (d : DDesign) (k : Int) (us : List Value) {B T : Nat} (w : World) (h : rdDesign B T w us d) (hT : T ≤ w.heap.size) :
    Calls Tryz.prog 123 #[.agg us.toArray, .int .i64 k] w fun e w' => e = .returned (.bool (countsB d k)) ∧ Below w.heap.size w w' := by
  have hall := h
  obtain ⟨u0, rfl, h⟩ := h
  obtain ⟨A, c, ea, hm, hA⟩ := h
  injection ea with ea
  subst ea
  unfold maxLen at hm
  have HA := Lib.hid hA
  have HD := Lib.hid hall
  clear hA hall
  have e0 : countsB d k = ((decide (d.length ≤ 4) && d.all sizeOk) && decide (0 ≤ k ∧ k < d.length) && ((d[k.toNat]?).any fun m => m.2.2.1.all (instOk d k))) := by
    unfold countsB
    cases decide (d.length ≤ 4) <;> cases d.all sizeOk <;> cases decide (0 ≤ k ∧ k < (d.length : Int)) <;> rfl
  rw [e0]
  clear e0
  obtain ⟨r, hr⟩ : ∃ r, (decide (d.length ≤ 4) && d.all sizeOk) = r := ⟨_, rfl⟩
  rw [hr]
  have HRR := Lib.hid hr
  clear hr
  have HW1 : ∀ w1 : World, Below (w.alloc (.cells #[.slice A d.length c] 36)).heap.size (w.alloc (.cells #[.slice A d.length c] 36)) w1 → w1.cell? ⟨w.heap.size, 0, none⟩ = some (.slice A d.length c) ∧ Below w.heap.size w w1 := fun w1 hb => by
    have g := box1 hb
    exact ⟨box_cell g.1 0 _ rfl, g.2⟩
  have HWH := Lib.hid HW1
  clear HW1
  cases r
  · go_enter Tryz.func123, Tryz.ntmps123
    go_wp2_with fail
    refine (implCountsFit_at d _ _ (good_Design.below HD.out hT (by (repeat' (first | assumption | exact Below.refl _ _ | refine bDrewN ?_ _ | refine Below.drew ?_ | refine bAlloc ?_ (Nat.le_refl _) _ | refine bSet ?_ (by first | exact Nat.le_refl _ | omega | (simp <;> omega)) _)))) (Nat.le_trans hT (by simp <;> omega)) HRR.out).mono ?_
    rintro e w1 ⟨rfl, hb⟩
    have g := HWH.out w1 hb
    have HB0 := Lib.hid g.2
    clear hb g
    go_wp2
    go_ret
    exact ⟨ret_b (by simp), HB0.out⟩
  · by_cases hk0 : 0 ≤ k
    · obtain ⟨K, rfl⟩ := Int.eq_ofNat_of_zero_le hk0
      have t5 : ¬ (K : Int) < 0 := by omega
      by_cases hkl : K < d.length
      · have t6 : ¬ (d.length : Int) ≤ (K : Int) := by omega
        rw [decide_eq_true (by omega : 0 ≤ (K : Int) ∧ (K : Int) < (d.length : Int)), Int.toNat_natCast]
        go_enter Tryz.func123, Tryz.ntmps123
        go_wp2_with fail
        refine (implCountsFit_at d _ _ (good_Design.below HD.out hT (by (repeat' (first | assumption | exact Below.refl _ _ | refine bDrewN ?_ _ | refine Below.drew ?_ | refine bAlloc ?_ (Nat.le_refl _) _ | refine bSet ?_ (by first | exact Nat.le_refl _ | omega | (simp <;> omega)) _)))) (Nat.le_trans hT (by simp <;> omega)) HRR.out).mono ?_
        rintro e W ⟨rfl, hb⟩
        have g := HWH.out W hb
        have e0 := g.1
        have HW := Lib.hid g.2
        clear hb g
        have HB := Lib.hid (Below.refl W.heap.size W)
        obtain ⟨W1, hW1⟩ : ∃ W1, W1 = W := ⟨_, rfl⟩
        obtain ⟨b, o, rfl, _, hbT, us, hul, hc, hr⟩ := HA.out K hkl
        obtain ⟨m, hmm⟩ : ∃ m, d[K] = m := ⟨_, rfl⟩
        have hm? : d[K]? = some m := by rw [List.getElem?_eq_getElem hkl, hmm]
        rw [hmm] at hr
        obtain ⟨v0, v1, v2, v3, rfl, vh0, vh1, vh2, vh3⟩ := hr
        obtain ⟨a2, q2, f2, m2, hI⟩ := vh2
        injection f2 with f2
        subst f2
        have x2 : W.cell? ⟨b, o + K * 4 + 2, none⟩ = some (.slice a2 m.2.2.1.length q2) := keep HW.out (hc 2 _ rfl)
        have HF := Lib.hid (show (true && true && Option.any (fun m => m.2.2.1.all (instOk d K)) d[K]?) = m.2.2.1.all (instOk d K) ∧ d[K].2.2.1.all (instOk d K) = m.2.2.1.all (instOk d K) by rw [hm?, hmm]; simp)
        unfold maxLen at m2
        have HI := Lib.hid hI
        clear hI hc hm? hmm hul hbT vh0 vh1 vh3
        subst hW1
        go_wp2
        go_loopw [28] (fun v ws => ∃ i : Nat, i ≤ m.2.2.1.length ∧ v = .int .i64 i ∧ (m.2.2.1.take i).all (instOk d K) = true ∧ Below W1.heap.size W1 ws) (fun v _ => m.2.2.1.length - (intOf v).toNat)
        case atStart => exact ⟨0, Nat.zero_le _, rfl, by simp, Below.refl _ _⟩
        case round =>
          obtain ⟨i, hi, rfl, hall, hb⟩ := hrel
          obtain ⟨W2, rfl⟩ : ∃ W2, W2 = wr := ⟨_, rfl⟩
          have g0 := keep hb e0
          have g2 := keep hb x2
          have HB2 := Lib.hid hb
          have HL := Lib.hid hall
          clear hb hall
          by_cases hlt : i < m.2.2.1.length
          · obtain ⟨bi, oi, rfl, _, _, us, _, hci, hri⟩ := HI.out i hlt
            obtain ⟨n, hnn⟩ : ∃ n, m.2.2.1[i] = n := ⟨_, rfl⟩
            have hn? : m.2.2.1[i]? = some n := by rw [List.getElem?_eq_getElem hlt, hnn]
            rw [hnn] at hri
            obtain ⟨p0, p1, p2, rfl, ⟨f0, -⟩, ⟨f1, -⟩, ph2⟩ := hri
            obtain ⟨ap, qp, f2, mp, -⟩ := ph2
            injection f0 with f0
            injection f1 with f1
            injection f2 with f2
            subst f0 f1 f2
            have y0 : W2.cell? ⟨bi, oi + i * 3, none⟩ = some (.int .i64 n.1) := keep HB2.out (keep HB.out (keep HW.out (hci 0 _ rfl)))
            have y1 : W2.cell? ⟨bi, oi + i * 3 + 1, none⟩ = some (.int .i64 n.2.1) := keep HB2.out (keep HB.out (keep HW.out (hci 1 _ rfl)))
            have y2 : W2.cell? ⟨bi, oi + i * 3 + 2, none⟩ = some (.slice ap n.2.2.length qp) := keep HB2.out (keep HB.out (keep HW.out (hci 2 _ rfl)))
            have HN := Lib.hid (And.intro (all_take_step (instOk d K) m.2.2.1 i n hn?) (fun hf : instOk d K n = false => all_false_at (instOk d K) m.2.2.1 i n hn? hf))
            have HO := Lib.hid (show instOk d K n = (decide (0 ≤ n.1 ∧ n.1 < (K : Int)) && (d[n.1.toNat]?).any fun m => decide (n.2.2.length = (portsL m).length)) from rfl)
            clear hci hn? hnn
            unfold maxLen at mp
            obtain ⟨x, hx⟩ : ∃ x, n.1 = x := ⟨_, rfl⟩
            obtain ⟨y, hy⟩ : ∃ y, n.2.1 = y := ⟨_, rfl⟩
            obtain ⟨l, hl⟩ : ∃ l, n.2.2.length = l := ⟨_, rfl⟩
            rw [hx] at y0 HO
            rw [hy] at y1
            rw [hl] at y2 mp HO
            clear hx hy hl
            go_wp2
            obtain ⟨V, hV⟩ : ∃ V, V = W2.alloc (.cells #[.int .i64 x, .int .i64 y, .slice ap l qp] 120) := ⟨_, rfl⟩
            rw [← hV]
            have g := eqbox1 hV
            have z0 : V.cell? ⟨W2.heap.size, 0, none⟩ = some (.int .i64 x) := box_cell g.1 0 _ rfl
            have z2 : V.cell? ⟨W2.heap.size, 2, none⟩ = some (.slice ap l qp) := box_cell g.1 2 _ rfl
            have s0 := keep g.2 g0
            have s2 := keep g.2 g2
            have HV := Lib.hid g.2
            clear hV g y0 y1 y2 g0 g2
            by_cases hx0 : x < 0
            · have hno : instOk d K n = false := by rw [HO.out, decide_eq_false (by omega), Bool.false_and]
              have r0 := cell_regrown z0
              refine wp_region_quiet_below (by kernel_rfl) (by kernel_rfl) ?_
              repeat (go_big_quiet_step (fail))
              refine wpQuiet_nil ?_
              intro _ hw'
              obtain ⟨⟨dq, osq⟩, hw''⟩ := hw'
              subst hw''
              obtain ⟨V2, hV2⟩ : ∃ V2, V2 = Sort.grow (redrawn V dq) osq := ⟨_, rfl⟩
              have hbV : Below V.heap.size V V2 := by rw [hV2]; exact below_regrown _ _ _
              rw [← hV2]
              have HBV := Lib.hid hbV
              clear hV2 hbV r0
              go_wp2
              go_ret
              exact ⟨ret_b (by first | rw [HF.out.1, HN.out.2 (hno)] | rw [HF.out.2, HN.out.2 (hno)]), bThen HW.out (bThen HB.out (bThen HB2.out (bThen HV.out HBV.out)))⟩
            · obtain ⟨N, rfl⟩ := Int.eq_ofNat_of_zero_le (by omega : 0 ≤ x)
              have t7 : ¬ (N : Int) < 0 := by omega
              by_cases hxK : N < K
              · have t8 : ¬ (K : Int) ≤ (N : Int) := by omega
                have hNl : N < d.length := by omega
                obtain ⟨b1, o1, he, _, _, us, _, hcN, hrN⟩ := HA.out N hNl
                injection he with he
                injection he with he1 he2
                subst he1 he2
                have hHWV : Below w.heap.size w V := bThen HW.out (bThen HB.out (bThen HB2.out HV.out))
                have HWV := Lib.hid hHWV
                have hrN2 := hrN
                obtain ⟨v0, v1, v2, v3, rfl, ⟨A0, P0, f0, -, -⟩, ⟨A1, P1, f1, -, -⟩, ⟨A2, P2, f2, -, -⟩, ⟨A3, P3, f3, -, -⟩⟩ := hrN2
                injection f0 with f0
                injection f1 with f1
                injection f2 with f2
                injection f3 with f3
                subst f0 f1 f2 f3
                have k0 := keep hHWV (hcN 0 _ rfl)
                have k1 := keep hHWV (hcN 1 _ rfl)
                have k2 := keep hHWV (hcN 2 _ rfl)
                have k3 := keep hHWV (hcN 3 _ rfl)
                rw [Nat.add_zero] at k0
                have HR := Lib.hid hrN
                have hd? : d[N]? = some d[N] := List.getElem?_eq_getElem hNl
                have HO2 := Lib.hid (show instOk d K n = decide (l = (portsL d[N]).length) by rw [HO.out, decide_eq_true (by omega : 0 ≤ (N : Int) ∧ (N : Int) < (K : Int)), Int.toNat_natCast, hd?]; rfl)
                clear hHWV hcN hrN hd? HO
                obtain ⟨q, hq⟩ : ∃ q, (portsL d[N]).length = q := ⟨_, rfl⟩
                rw [hq] at HO2
                have HQ := Lib.hid hq
                clear hq
                go_cut [54] from 32 to 54 (fun v wx => (∃ bb, v = .bool bb ∧ (bb = true ↔ ¬ ((l : Int) = (q : Int)))) ∧ Below V.heap.size V wx)
                case first =>
                  clear HO2 HN HF HL HI HA HW HB HB2 HV
                  go_region_law (go_simp; go_at_call 143; refine (implPorts_len d[N] _ _ (good_Module.below HR.out hT (bThen HWV.out (by repeat' (first | exact Below.refl _ _ | refine Below.drew ?_)))) (Nat.le_trans hT (bThen HWV.out (by repeat' (first | exact Below.refl _ _ | refine Below.drew ?_))).size) _ HQ.out).mono ?_; rintro e w7 ⟨⟨AP, pP, rfl⟩, hb7⟩; have hbC : Below V.heap.size V w7 := bThen (by repeat' (first | exact Below.refl _ _ | refine Below.drew ?_)) hb7; have z2' := keep hbC z2)
                  all_goals (go_wp2_with fail; go_meet; exact ⟨⟨_, rfl, by simp⟩, hbC⟩)
                case rest =>
                  obtain ⟨⟨bb, rfl, hbb⟩, hbV⟩ := hcut
                  have HBV := Lib.hid hbV
                  clear hbV
                  by_cases hlq : l = q
                  · have hb0 : bb = false := by
                      cases bb with
                      | false => rfl
                      | true => exact absurd (by rw [hlq]) (hbb.1 rfl)
                    have hyes : instOk d K n = true := by rw [HO2.out]; simp [hlq]
                    subst hb0
                    clear hbb
                    go_wp2
                    go_roundw
                    case rel => exact ⟨_, _, _, ⟨i + 1, by omega, by go_num, fun a1 a2 a3 h => List.all_eq_true.1 (by rw [HN.out.1, HL.out, hyes]; rfl) _ h, bThen HB2.out (bThen HV.out HBV.out)⟩, rfl, rfl, rfl⟩
                    case measure => simp [intOf]; omega
                  · have hb0 : bb = true := hbb.2 (by omega)
                    have hno : instOk d K n = false := by rw [HO2.out, decide_eq_false hlq]
                    subst hb0
                    clear hbb
                    go_wp2
                    go_ret
                    exact ⟨ret_b (by first | rw [HF.out.1, HN.out.2 hno] | rw [HF.out.2, HN.out.2 hno]), bThen HW.out (bThen HB.out (bThen HB2.out (bThen HV.out HBV.out)))⟩
              · have t8 : (K : Int) ≤ (N : Int) := by omega
                have hno : instOk d K n = false := by rw [HO.out, decide_eq_false (by omega), Bool.false_and]
                have r0 := cell_regrown z0
                refine wp_region_quiet_below (by kernel_rfl) (by kernel_rfl) ?_
                repeat (go_big_quiet_step (fail))
                refine wpQuiet_nil ?_
                intro _ hw'
                obtain ⟨⟨dq, osq⟩, hw''⟩ := hw'
                subst hw''
                obtain ⟨V2, hV2⟩ : ∃ V2, V2 = Sort.grow (redrawn V dq) osq := ⟨_, rfl⟩
                have hbV : Below V.heap.size V V2 := by rw [hV2]; exact below_regrown _ _ _
                rw [← hV2]
                have HBV := Lib.hid hbV
                clear hV2 hbV r0
                go_wp2
                go_ret
                exact ⟨ret_b (by first | rw [HF.out.1, HN.out.2 (hno)] | rw [HF.out.2, HN.out.2 (hno)]), bThen HW.out (bThen HB.out (bThen HB2.out (bThen HV.out HBV.out)))⟩
          · obtain rfl : i = m.2.2.1.length := by omega
            have hfin : m.2.2.1.all (instOk d K) = true := by have := HL.out; rwa [List.take_length] at this
            go_wp2
            go_ret
            exact ⟨ret_b (by first | rw [HF.out.1, hfin] | rw [HF.out.2, hfin]), bThen HW.out (bThen HB.out HB2.out)⟩
      · have t6 : (d.length : Int) ≤ (K : Int) := by omega
        rw [decide_eq_false (by omega : ¬ (0 ≤ (K : Int) ∧ (K : Int) < (d.length : Int)))]
        go_enter Tryz.func123, Tryz.ntmps123
        go_wp2_with fail
        refine (implCountsFit_at d _ _ (good_Design.below HD.out hT (by (repeat' (first | assumption | exact Below.refl _ _ | refine bDrewN ?_ _ | refine Below.drew ?_ | refine bAlloc ?_ (Nat.le_refl _) _ | refine bSet ?_ (by first | exact Nat.le_refl _ | omega | (simp <;> omega)) _)))) (Nat.le_trans hT (by simp <;> omega)) HRR.out).mono ?_
        rintro e w1 ⟨rfl, hb⟩
        have g := HWH.out w1 hb
        have e0 := g.1
        have HB0 := Lib.hid g.2
        clear hb g
        go_wp2
        go_ret
        exact ⟨ret_b (by simp), HB0.out⟩
    · have t5 : k < 0 := by omega
      rw [decide_eq_false (by omega : ¬ (0 ≤ k ∧ k < (d.length : Int)))]
      go_enter Tryz.func123, Tryz.ntmps123
      go_wp2_with fail
      refine (implCountsFit_at d _ _ (good_Design.below HD.out hT (by (repeat' (first | assumption | exact Below.refl _ _ | refine bDrewN ?_ _ | refine Below.drew ?_ | refine bAlloc ?_ (Nat.le_refl _) _ | refine bSet ?_ (by first | exact Nat.le_refl _ | omega | (simp <;> omega)) _)))) (Nat.le_trans hT (by simp <;> omega)) HRR.out).mono ?_
      rintro e w1 ⟨rfl, hb⟩
      have g := HWH.out w1 hb
      have e0 := g.1
      have HB0 := Lib.hid g.2
      clear hb g
      go_wp2
      go_ret
      exact ⟨ret_b (by simp), HB0.out⟩
theorem implInstsFit_at (d : DDesign) (k : Int) (us : List Value) {B T : Nat} {r : Bool} (w : World) (h : rdDesign B T w us d) (hT : T ≤ w.heap.size) (hr : countsB d k = r) :
    Calls Tryz.prog 123 #[.agg us.toArray, .int .i64 k] w fun e w' => e = .returned (.bool r) ∧ Below w.heap.size w w' := by subst hr; exact implInstsFit_any d k us w h hT
theorem specCounts_at (d : DDesign) (k : Int) (us : List Value) {B T : Nat} {r : Bool} (w : World) (h : rdDesign B T w us d) (hT : T ≤ w.heap.size) (hr : countsB d k = r) :
    Calls Tryz.prog 117 #[.agg us.toArray, .int .i64 k] w fun e w' => e = .returned (.bool r) ∧ Below w.heap.size w w' := by subst hr; exact specCounts_any d k us w h hT
end Go.Proofs.YtmjofpfkgbnknaaGreat
