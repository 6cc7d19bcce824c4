/-
  Valid modules and designs, as the reference judges them: the whole.
-/
import Derived.Test.YtmjofpfkgbnknaaGreatSKind
namespace Go.Proofs.YtmjofpfkgbnknaaGreat
open Go.RowKit
set_option linter.unusedVariables false
set_option linter.unusedSimpArgs false

set_option maxRecDepth 100000 in
set_option maxHeartbeats 25600000 in
theorem specModule_at (d : DDesign) (k : Int) (us : List Value) {B T : Nat} {r : Bool} (w : World) (hd : rdDesign B T w us d) (hT : T ≤ w.heap.size) (hr : moduleB d k = r) :
    Calls Tryz.prog 85 #[.agg us.toArray, .int .i64 k] w fun e w' => e = .returned (.bool r) ∧ Below w.heap.size w w' := by
  have HD := Lib.hid hd
  obtain ⟨du, rfl, dh⟩ := hd
  obtain ⟨dA, dq, de, dm, dk⟩ := dh
  injection de with de
  subst de
  unfold maxLen at dm
  have DE := Lib.hid dk
  clear dk
  obtain ⟨b, hb⟩ : ∃ b, countsB d k = b := ⟨_, rfl⟩
  have HC := Lib.hid hb
  cases b
  · rw [moduleB_no hb] at hr
    subst hr
    clear hb
    go_enter Tryz.func85, Tryz.ntmps85
    go_wp2_with fail
    refine (specCounts_at d k _ _ (good_Design.below HD.out hT (by (repeat' (first | assumption | exact Below.refl _ _ | refine bDrewN ?_ _ | refine Below.drew ?_ | refine bAlloc ?_ (Nat.le_refl _) _ | refine bSet ?_ (by first | exact Nat.le_refl _ | omega | (simp <;> omega)) _)))) (Nat.le_trans hT (by simp <;> omega)) HC.out).mono ?_
    rintro e w1 ⟨rfl, hb⟩
    have g := box1 hb
    have HW1 := Lib.hid g.2
    clear hb g
    go_wp2
    go_ret
    exact ⟨rfl, HW1.out⟩
  · obtain ⟨K, m0, rfl, hd4, hKl, hm?, q0, q1, q2, q3, hI⟩ := counts_facts hb
    rw [moduleB_eq hb hm?] at hr
    have HR := Lib.hid hr
    have HI := Lib.hid (show ∀ (i : Nat) (n : DInst), m0.2.2.1[i]? = some n → ∃ (N : Nat) (c : DModule), n.1 = N ∧ d[N]? = some c ∧ n.2.2.length = (portsL c).length from fun i n hn => by
      obtain ⟨N, c, h1, _, h2, h3⟩ := hI i n hn
      exact ⟨N, c, h1, h2, h3⟩)
    clear hb hr hI
    obtain ⟨mb, mo, me, _, _, mus, _, mhc, mhr⟩ := DE.out K hKl
    obtain ⟨m, mx⟩ : ∃ m, d[K]'hKl = m := ⟨_, rfl⟩
    have mx? : d[K]? = some m := by rw [List.getElem?_eq_getElem hKl, mx]
    rw [mx] at mhr
    subst me
    have MR := Lib.hid mhr
    obtain ⟨mu0, mu1, mu2, mu3, rfl, mh0, mh1, mh2, mh3⟩ := mhr
    obtain ⟨mA0, mq0, mf0, mm0, mk0⟩ := mh0
    injection mf0 with mf0
    subst mf0
    unfold maxLen at mm0
    have mE0 := Lib.hid mk0
    clear mk0
    obtain ⟨mA1, mq1, mf1, mm1, mk1⟩ := mh1
    injection mf1 with mf1
    subst mf1
    unfold maxLen at mm1
    have mE1 := Lib.hid mk1
    clear mk1
    obtain ⟨mA2, mq2, mf2, mm2, mk2⟩ := mh2
    injection mf2 with mf2
    subst mf2
    unfold maxLen at mm2
    have mE2 := Lib.hid mk2
    clear mk2
    obtain ⟨mA3, mq3, mf3, mm3, mk3⟩ := mh3
    injection mf3 with mf3
    subst mf3
    unfold maxLen at mm3
    have mE3 := Lib.hid mk3
    clear mk3
    have mc0 : w.cell? ⟨mb, mo + K * 4, none⟩ = some (.slice mA0 (m.1).length mq0) := (mhc 0 _ rfl)
    have mc1 : w.cell? ⟨mb, mo + K * 4 + 1, none⟩ = some (.slice mA1 (m.2.1).length mq1) := (mhc 1 _ rfl)
    have mc2 : w.cell? ⟨mb, mo + K * 4 + 2, none⟩ = some (.slice mA2 (m.2.2.1).length mq2) := (mhc 2 _ rfl)
    have mc3 : w.cell? ⟨mb, mo + K * 4 + 3, none⟩ = some (.slice mA3 (m.2.2.2).length mq3) := (mhc 3 _ rfl)
    have mlt : mb < w.heap.size := World.block_lt_of_cell? _ _ mc0
    clear mhc mx
    obtain rfl : m = m0 := by rw [mx?] at hm?; injection hm?
    clear hm? mx?
    go_enter Tryz.func85, Tryz.ntmps85
    go_wp2_with fail
    refine (specCounts_at d K _ _ (good_Design.below HD.out hT (by (repeat' (first | assumption | exact Below.refl _ _ | refine bDrewN ?_ _ | refine Below.drew ?_ | refine bAlloc ?_ (Nat.le_refl _) _ | refine bSet ?_ (by first | exact Nat.le_refl _ | omega | (simp <;> omega)) _)))) (Nat.le_trans hT (by simp <;> omega)) HC.out).mono ?_
    rintro e w1 ⟨rfl, hb⟩
    have g := box1 hb
    have e0 : w1.cell? ⟨w.heap.size, 0, none⟩ = some (.slice (some ⟨mb, mo, none⟩) d.length dq) := box_cell g.1 0 _ rfl
    have HW0 := Lib.hid g.2
    replace mc0 := keep g.2 mc0
    replace mc1 := keep g.2 mc1
    replace mc2 := keep g.2 mc2
    replace mc3 := keep g.2 mc3
    have mlt1 : mb < w1.heap.size := World.block_lt_of_cell? _ _ mc0
    clear hb g mlt
    go_wp2
    obtain ⟨W1, hW⟩ : ∃ W, W = w1.alloc (.cells #[.slice mA0 (m.1).length mq0, .slice mA1 (m.2.1).length mq1, .slice mA2 (m.2.2.1).length mq2, .slice mA3 (m.2.2.2).length mq3] 31) := ⟨_, rfl⟩
    rw [← hW]
    have g := eqbox1 hW
    have f0 : W1.cell? ⟨w1.heap.size, 0, none⟩ = some (.slice mA0 (m.1).length mq0) := box_cell g.1 0 _ rfl
    have f1 : W1.cell? ⟨w1.heap.size, 1, none⟩ = some (.slice mA1 (m.2.1).length mq1) := box_cell g.1 1 _ rfl
    have f2 : W1.cell? ⟨w1.heap.size, 2, none⟩ = some (.slice mA2 (m.2.2.1).length mq2) := box_cell g.1 2 _ rfl
    have f3 : W1.cell? ⟨w1.heap.size, 3, none⟩ = some (.slice mA3 (m.2.2.2).length mq3) := box_cell g.1 3 _ rfl
    replace e0 := keep g.2 e0
    have HW1 := Lib.hid (bThen HW0.out g.2)
    clear hW g mc0 mc1 mc2 mc3 mlt1
    go_loopw [6] (fun v wr => ∃ i : Nat, i ≤ m.1.length ∧ v = .int .i64 i ∧ AllT sigOk (m.1.take i) ∧ AllR (onceB d K m) i ∧ Below W1.heap.size W1 wr) (fun v _ => m.1.length - (intOf v).toNat)
    case atStart => exact ⟨0, Nat.zero_le _, rfl, AllT.nil _ _, AllR.nil _, Below.refl _ _⟩
    case round =>
      obtain ⟨i, hi, rfl, hl1, hl2, hb⟩ := hrel
      obtain ⟨W2, rfl⟩ : ∃ W2, W2 = wr := ⟨_, rfl⟩
      have HL1 := Lib.hid hl1
      have HL2 := Lib.hid hl2
      replace e0 := keep hb e0
      replace f0 := keep hb f0
      replace f1 := keep hb f1
      replace f2 := keep hb f2
      replace f3 := keep hb f3
      have HB := Lib.hid hb
      have HW2 := Lib.hid (bThen HW1.out hb)
      have elt : w.heap.size < W2.heap.size := World.block_lt_of_cell? _ _ e0
      have flt : w1.heap.size < W2.heap.size := World.block_lt_of_cell? _ _ f0
      clear hb hl1 hl2
      by_cases hlt : i < m.1.length
      · skip
        obtain ⟨xb, xo, xe, _, _, xus, _, xhc, xhr⟩ := mE0.out i hlt
        obtain ⟨x, xx⟩ : ∃ x, m.1[i]'hlt = x := ⟨_, rfl⟩
        have xx? : m.1[i]? = some x := by rw [List.getElem?_eq_getElem hlt, xx]
        rw [xx] at xhr
        subst xe
        obtain ⟨xu0, xu1, xu2, rfl, xh0, xh1, xh2⟩ := xhr
        obtain ⟨xf0, -⟩ := xh0
        injection xf0 with xf0
        subst xf0
        obtain ⟨xf1, -⟩ := xh1
        injection xf1 with xf1
        subst xf1
        obtain ⟨xf2, -⟩ := xh2
        injection xf2 with xf2
        subst xf2
        have xc0 : W2.cell? ⟨xb, xo + i * 3, none⟩ = some (.int .i64 x.1) := keep HW2.out (xhc 0 _ rfl)
        have xc1 : W2.cell? ⟨xb, xo + i * 3 + 1, none⟩ = some (.int .i64 x.2.1) := keep HW2.out (xhc 1 _ rfl)
        have xc2 : W2.cell? ⟨xb, xo + i * 3 + 2, none⟩ = some (.int .i64 x.2.2) := keep HW2.out (xhc 2 _ rfl)
        have xlt : xb < W2.heap.size := World.block_lt_of_cell? _ _ xc0
        clear xhc xx
        have hkk := kindI_yes xx?
        have HXX := Lib.hid xx?
        have HSN := Lib.hid (fun hf : sigOk x = false => parts_no1 d K m (all_false_at sigOk m.1 i _ xx? hf))
        obtain ⟨dq1, hdq⟩ : ∃ q, driversI d K i = q := ⟨_, rfl⟩
        have HDQ := Lib.hid hdq
        have HON0 := Lib.hid (show onceB d K m i = (decide (x.1 = 0) || decide (dq1 = 1)) by unfold onceB; rw [hkk, hdq])
        have HOF := Lib.hid (fun hf : onceB d K m i = false => parts_no5 d K m (range_all_false _ i _ hlt hf))
        clear xx? hkk hdq
        obtain ⟨k, hk⟩ : ∃ k, x.1 = k := ⟨_, rfl⟩
        obtain ⟨a, ha⟩ : ∃ a, x.2.1 = a := ⟨_, rfl⟩
        obtain ⟨n, hn⟩ : ∃ n, x.2.2 = n := ⟨_, rfl⟩
        have HX := Lib.hid (show sigOk x = (decide (0 ≤ k ∧ k ≤ 3) && decide (0 ≤ a ∧ a ≤ 4) && (decide (n = 0) || (decide (k = 3) && decide (0 ≤ n ∧ n ≤ 15)))) by unfold sigOk; rw [hk, ha, hn])
        rw [hk] at xc0 HON0
        rw [ha] at xc1
        rw [hn] at xc2
        clear hk ha hn
        obtain ⟨v1, hv1⟩ : ∃ v, decide (0 ≤ k ∧ k ≤ 3) = v := ⟨_, rfl⟩
        obtain ⟨v2, hv2⟩ : ∃ v, decide (0 ≤ a ∧ a ≤ 4) = v := ⟨_, rfl⟩
        obtain ⟨v3, hv3⟩ : ∃ v, decide (0 ≤ n ∧ n ≤ 15) = v := ⟨_, rfl⟩
        have H1 := Lib.hid hv1
        have H2 := Lib.hid hv2
        have H3 := Lib.hid hv3
        rw [hv1, hv2, hv3] at HX
        clear hv1 hv2 hv3
        go_wp2_with fail
        obtain ⟨V, hV⟩ : ∃ V, V = W2.alloc (.cells #[.int .i64 k, .int .i64 a, .int .i64 n] 97) := ⟨_, rfl⟩
        rw [← hV]
        have g := eqbox1 hV
        have y0 : V.cell? ⟨W2.heap.size, 0, none⟩ = some (.int .i64 k) := box_cell g.1 0 _ rfl
        have y1 : V.cell? ⟨W2.heap.size, 1, none⟩ = some (.int .i64 a) := box_cell g.1 1 _ rfl
        have y2 : V.cell? ⟨W2.heap.size, 2, none⟩ = some (.int .i64 n) := box_cell g.1 2 _ rfl
        replace e0 := keep g.2 e0
        replace f0 := keep g.2 f0
        replace f1 := keep g.2 f1
        replace f2 := keep g.2 f2
        replace f3 := keep g.2 f3
        have HV := Lib.hid g.2
        clear hV g
        have HWV := Lib.hid (bThen HW2.out HV.out)
        have HBV := Lib.hid (bThen HB.out HV.out)
        clear xc0 xc1 xc2 xlt elt flt
        refine (l01In_at k 0 3 _ H1.out).mono ?_
        rintro e w1' ⟨rfl, rfl⟩
        cases v1
        · have HNO := Lib.hid (HSN.out (by rw [HX.out]; simp))
          go_wp2
          go_ret
          exact ⟨ret_bool (by rw [← HR.out]; exact HNO.out.symm), HWV.out⟩
        · go_wp2_with fail
          refine (l01In_at a 0 4 _ H2.out).mono ?_
          rintro e w1' ⟨rfl, rfl⟩
          cases v2
          · have HNO := Lib.hid (HSN.out (by rw [HX.out]; simp))
            go_wp2
            go_ret
            exact ⟨ret_bool (by rw [← HR.out]; exact HNO.out.symm), HWV.out⟩
          · go_wp2_with fail
            refine (l01In_at n 0 15 _ H3.out).mono ?_
            rintro e w1' ⟨rfl, rfl⟩
            cases v3
            · have hn0 : ¬ n = 0 := fun e => by have := H3.out; rw [e] at this; revert this; decide
              have HNO := Lib.hid (HSN.out (by rw [HX.out, decide_eq_false hn0]; simp))
              go_wp2
              go_ret
              exact ⟨ret_bool (by rw [← HR.out]; exact HNO.out.symm), HWV.out⟩
            · by_cases hbad : ¬ n = 0 ∧ ¬ k = 3
              · have HNO := Lib.hid (HSN.out (by rw [HX.out, decide_eq_false hbad.1, decide_eq_false hbad.2]; simp))
                have b1 : (n == 0) = false := by simpa using hbad.1
                have b2 : (n != 0) = true := by simpa using hbad.1
                have b3 : (k == 3) = false := by simpa using hbad.2
                have b4 : (k != 3) = true := by simpa using hbad.2
                clear hbad
                go_wp2
                go_ret
                exact ⟨ret_bool (by rw [← HR.out]; exact HNO.out.symm), HWV.out⟩
              · have HOK := Lib.hid (show sigOk x = true by rw [HX.out]; by_cases h0 : n = 0 <;> by_cases h3 : k = 3 <;> simp_all)
                have HTST := Lib.hid hbad
                clear hbad
                by_cases h0 : k = 0
                · have hn0 : n = 0 := by have := HTST.out; omega
                  have HON := Lib.hid (show onceB d K m i = true by rw [HON0.out, decide_eq_true h0]; rfl)
                  subst h0
                  have b1 : (n != 0) = false := by simpa using hn0
                  subst hn0
                  go_wp2
                  go_roundw
                  case rel => exact ⟨i + 1, by omega, by go_num, AllT.step HXX.out HOK.out HL1.out, AllR.step HON.out HL2.out, HBV.out⟩
                  case measure => simp [intOf]; omega
                · have b0 : (k == 0) = false := by simpa using h0
                  have b0' : (k != 0) = true := by simpa using h0
                  by_cases hn0 : n = 0
                  · subst hn0
                    go_wp2_with fail
                    refine (specDrivers_at d K i _ _ (good_Design.below HD.out hT HWV.out) (Nat.le_trans hT HWV.out.size) HDQ.out).mono ?_
                    rintro e w3 ⟨rfl, hb3⟩
                    replace e0 := keep hb3 e0
                    replace f0 := keep hb3 f0
                    replace f1 := keep hb3 f1
                    replace f2 := keep hb3 f2
                    replace f3 := keep hb3 f3
                    have HW3 := Lib.hid (bThen HWV.out hb3)
                    have HB3 := Lib.hid (bThen HBV.out hb3)
                    clear hb3
                    by_cases h1 : dq1 = 1
                    · have HON := Lib.hid (show onceB d K m i = true by rw [HON0.out, decide_eq_true h1, Bool.or_true])
                      subst h1
                      go_wp2
                      go_roundw
                      case rel => exact ⟨i + 1, by omega, by go_num, AllT.step HXX.out HOK.out HL1.out, AllR.step HON.out HL2.out, HB3.out⟩
                      case measure => simp [intOf]; omega
                    · have HNO := Lib.hid (HOF.out (by rw [HON0.out, decide_eq_false h1]; simp <;> omega))
                      have h1' : (dq1 == 1) = false := by simpa using h1
                      have h1'' : (dq1 != 1) = true := by simpa using h1
                      go_wp2
                      go_ret
                      exact ⟨ret_bool (by rw [← HR.out]; exact HNO.out.symm), HW3.out⟩
                  · have hk3 : k = 3 := by have := HTST.out; omega
                    have b1 : (n == 0) = false := by simpa using hn0
                    have b2 : (n != 0) = true := by simpa using hn0
                    subst hk3
                    go_wp2_with fail
                    refine (specDrivers_at d K i _ _ (good_Design.below HD.out hT HWV.out) (Nat.le_trans hT HWV.out.size) HDQ.out).mono ?_
                    rintro e w3 ⟨rfl, hb3⟩
                    replace e0 := keep hb3 e0
                    replace f0 := keep hb3 f0
                    replace f1 := keep hb3 f1
                    replace f2 := keep hb3 f2
                    replace f3 := keep hb3 f3
                    have HW3 := Lib.hid (bThen HWV.out hb3)
                    have HB3 := Lib.hid (bThen HBV.out hb3)
                    clear hb3
                    by_cases h1 : dq1 = 1
                    · have HON := Lib.hid (show onceB d K m i = true by rw [HON0.out, decide_eq_true h1, Bool.or_true])
                      subst h1
                      go_wp2
                      go_roundw
                      case rel => exact ⟨i + 1, by omega, by go_num, AllT.step HXX.out HOK.out HL1.out, AllR.step HON.out HL2.out, HB3.out⟩
                      case measure => simp [intOf]; omega
                    · have HNO := Lib.hid (HOF.out (by rw [HON0.out, decide_eq_false h1]; simp <;> omega))
                      have h1' : (dq1 == 1) = false := by simpa using h1
                      have h1'' : (dq1 != 1) = true := by simpa using h1
                      go_wp2
                      go_ret
                      exact ⟨ret_bool (by rw [← HR.out]; exact HNO.out.symm), HW3.out⟩
      · obtain rfl : i = m.1.length := by omega
        clear HB elt flt
        have HS1 := Lib.hid HL1.out.done
        have HS5 := Lib.hid (show onceAll d K m = true from HL2.out)
        go_wp2
        go_loopw [8] (fun v wr => ∃ i : Nat, i ≤ m.2.1.length ∧ v = .int .i64 i ∧ AllT (asgOk m) (m.2.1.take i) ∧ Below W2.heap.size W2 wr) (fun v _ => m.2.1.length - (intOf v).toNat)
        case atStart => exact ⟨0, Nat.zero_le _, rfl, AllT.nil _ _, Below.refl _ _⟩
        case round =>
          obtain ⟨i, hi, rfl, hl3, hb⟩ := hrel
          obtain ⟨W4, rfl⟩ : ∃ W4, W4 = wr := ⟨_, rfl⟩
          have HL3 := Lib.hid hl3
          replace e0 := keep hb e0
          replace f0 := keep hb f0
          replace f1 := keep hb f1
          replace f2 := keep hb f2
          replace f3 := keep hb f3
          have HB := Lib.hid hb
          have HW4 := Lib.hid (bThen HW2.out hb)
          have elt : w.heap.size < W4.heap.size := World.block_lt_of_cell? _ _ e0
          have flt : w1.heap.size < W4.heap.size := World.block_lt_of_cell? _ _ f0
          clear hb hl3
          by_cases hlt : i < m.2.1.length
          · skip
            obtain ⟨ab, ao, ae, _, _, aus, _, ahc, ahr⟩ := mE1.out i hlt
            obtain ⟨a, ax⟩ : ∃ a, m.2.1[i]'hlt = a := ⟨_, rfl⟩
            have ax? : m.2.1[i]? = some a := by rw [List.getElem?_eq_getElem hlt, ax]
            rw [ax] at ahr
            subst ae
            obtain ⟨au0, au1, rfl, ah0, ah1⟩ := ahr
            obtain ⟨af0, -⟩ := ah0
            injection af0 with af0
            subst af0
            obtain ⟨aA1, aq1, af1, am1, ak1⟩ := ah1
            injection af1 with af1
            subst af1
            unfold maxLen at am1
            have aE1 := Lib.hid ak1
            clear ak1
            have ac0 : W4.cell? ⟨ab, ao + i * 2, none⟩ = some (.int .i64 a.1) := keep HW4.out (ahc 0 _ rfl)
            have ac1 : W4.cell? ⟨ab, ao + i * 2 + 1, none⟩ = some (.slice aA1 (a.2).length aq1) := keep HW4.out (ahc 1 _ rfl)
            have alt : ab < W4.heap.size := World.block_lt_of_cell? _ _ ac0
            clear ahc ax
            have HS := Lib.hid (And.intro (fun (h0 : AllT (asgOk m) (m.2.1.take i)) (hf : asgOk m a = true) => AllT.step ax? hf h0) (fun hf : asgOk m a = false => parts_no2 d K m (all_false_at (asgOk m) m.2.1 i _ ax? hf)))
            obtain ⟨q2, hq2⟩ : ∃ q, kindAt m [1, 2] a.1 = q := ⟨_, rfl⟩
            obtain ⟨kd, hkd⟩ : ∃ q, kindI m a.1 = q := ⟨_, rfl⟩
            obtain ⟨z, hz⟩ : ∃ z, opsB m.1.length a.2 = z := ⟨_, rfl⟩
            have HX := Lib.hid (show asgOk m a = ((q2 || decide (kd = 3)) && z) by unfold asgOk; rw [kindAt_3, hq2, hkd, hz])
            have HQ := Lib.hid (And.intro hq2 (And.intro hkd hz))
            have HOPS := Lib.hid (show rdOpS B T w [.slice aA1 a.2.length aq1] a.2 from ⟨_, _, rfl, by unfold maxLen; exact am1, aE1.out⟩)
            clear hq2 hkd hz ax?
            go_wp2_with fail
            obtain ⟨V, hV⟩ : ∃ V, V = W4.alloc (.cells #[.int .i64 a.1, .slice aA1 (a.2).length aq1] 102) := ⟨_, rfl⟩
            rw [← hV]
            have g := eqbox1 hV
            have y0 : V.cell? ⟨W4.heap.size, 0, none⟩ = some (.int .i64 a.1) := box_cell g.1 0 _ rfl
            have y1 : V.cell? ⟨W4.heap.size, 1, none⟩ = some (.slice aA1 (a.2).length aq1) := box_cell g.1 1 _ rfl
            replace e0 := keep g.2 e0
            replace f0 := keep g.2 f0
            replace f1 := keep g.2 f1
            replace f2 := keep g.2 f2
            replace f3 := keep g.2 f3
            have HV := Lib.hid g.2
            clear hV g
            have HWV := Lib.hid (bThen HW4.out HV.out)
            have HBV := Lib.hid (bThen HB.out HV.out)
            clear ac0 ac1 alt elt flt
            refine (specDriven_at m a.1 _ _ (good_Module.below MR.out hT HWV.out) (Nat.le_trans hT HWV.out.size) HQ.out.1).mono ?_
            rintro e w5 ⟨rfl, hb5⟩
            replace e0 := keep hb5 e0
            replace f0 := keep hb5 f0
            replace f1 := keep hb5 f1
            replace f2 := keep hb5 f2
            replace f3 := keep hb5 f3
            replace y0 := keep hb5 y0
            replace y1 := keep hb5 y1
            have HW5 := Lib.hid (bThen HWV.out hb5)
            have HB5 := Lib.hid (bThen HBV.out hb5)
            clear hb5
            cases q2
            · go_wp2_with fail
              refine (specKind_at m a.1 _ _ (good_Module.below MR.out hT HW5.out) (Nat.le_trans hT HW5.out.size) HQ.out.2.1).mono ?_
              rintro e w6 ⟨rfl, hb6⟩
              replace e0 := keep hb6 e0
              replace f0 := keep hb6 f0
              replace f1 := keep hb6 f1
              replace f2 := keep hb6 f2
              replace f3 := keep hb6 f3
              replace y0 := keep hb6 y0
              replace y1 := keep hb6 y1
              have HW6 := Lib.hid (bThen HW5.out hb6)
              have HB6 := Lib.hid (bThen HB5.out hb6)
              clear hb6
              by_cases h3 : kd = 3
              · have HX3 := Lib.hid (show asgOk m a = z by rw [HX.out, decide_eq_true h3]; simp)
                subst h3
                go_wp2_with fail
                refine (specOps_at (m.1.length : Int) a.2 _ _ (good_OpS.below HOPS.out hT HW6.out) (Nat.le_trans hT HW6.out.size) HQ.out.2.2).mono ?_
                rintro e w7 ⟨rfl, hb7⟩
                have HW7 := Lib.hid (bThen HW6.out hb7)
                have HB7 := Lib.hid (bThen HB6.out hb7)
                clear hb7
                cases z
                · have HNO := Lib.hid (HS.out.2 HX3.out)
                  go_wp2
                  go_ret
                  exact ⟨ret_bool (by rw [← HR.out]; exact HNO.out.symm), HW7.out⟩
                · go_wp2
                  go_roundw
                  case rel => exact ⟨i + 1, by omega, by go_num, HS.out.1 HL3.out HX3.out, HB7.out⟩
                  case measure => simp [intOf]; omega
              · have HNO := Lib.hid (HS.out.2 (by rw [HX.out, decide_eq_false h3]; simp))
                have b3 : (kd == 3) = false := by simpa using h3
                have b4 : (kd != 3) = true := by simpa using h3
                go_wp2
                go_ret
                exact ⟨ret_bool (by rw [← HR.out]; exact HNO.out.symm), HW6.out⟩
            · have HX3 := Lib.hid (show asgOk m a = z by rw [HX.out]; simp)
              go_wp2_with fail
              refine (specOps_at (m.1.length : Int) a.2 _ _ (good_OpS.below HOPS.out hT HW5.out) (Nat.le_trans hT HW5.out.size) HQ.out.2.2).mono ?_
              rintro e w7 ⟨rfl, hb7⟩
              have HW7 := Lib.hid (bThen HW5.out hb7)
              have HB7 := Lib.hid (bThen HB5.out hb7)
              clear hb7
              cases z
              · have HNO := Lib.hid (HS.out.2 HX3.out)
                go_wp2
                go_ret
                exact ⟨ret_bool (by rw [← HR.out]; exact HNO.out.symm), HW7.out⟩
              · go_wp2
                go_roundw
                case rel => exact ⟨i + 1, by omega, by go_num, HS.out.1 HL3.out HX3.out, HB7.out⟩
                case measure => simp [intOf]; omega
          · obtain rfl : i = m.2.1.length := by omega
            clear HB elt flt
            have HS2 := Lib.hid HL3.out.done
            go_wp2
            go_loopw [10] (fun v wr => ∃ i : Nat, i ≤ m.2.2.1.length ∧ v = .int .i64 i ∧ AllT (insOk d m) (m.2.2.1.take i) ∧ Below W4.heap.size W4 wr) (fun v _ => m.2.2.1.length - (intOf v).toNat)
            case atStart => exact ⟨0, Nat.zero_le _, rfl, AllT.nil _ _, Below.refl _ _⟩
            case round =>
              obtain ⟨i, hi, rfl, hl4, hb⟩ := hrel
              obtain ⟨W6, rfl⟩ : ∃ W6, W6 = wr := ⟨_, rfl⟩
              have HL4 := Lib.hid hl4
              replace e0 := keep hb e0
              replace f0 := keep hb f0
              replace f1 := keep hb f1
              replace f2 := keep hb f2
              replace f3 := keep hb f3
              have HB := Lib.hid hb
              have HW6 := Lib.hid (bThen HW4.out hb)
              have elt : w.heap.size < W6.heap.size := World.block_lt_of_cell? _ _ e0
              have flt : w1.heap.size < W6.heap.size := World.block_lt_of_cell? _ _ f0
              clear hb hl4
              by_cases hlt : i < m.2.2.1.length
              · skip
                obtain ⟨nb, no, ne, _, _, nus, _, nhc, nhr⟩ := mE2.out i hlt
                obtain ⟨n, nx⟩ : ∃ n, m.2.2.1[i]'hlt = n := ⟨_, rfl⟩
                have nx? : m.2.2.1[i]? = some n := by rw [List.getElem?_eq_getElem hlt, nx]
                rw [nx] at nhr
                subst ne
                obtain ⟨nu0, nu1, nu2, rfl, nh0, nh1, nh2⟩ := nhr
                obtain ⟨nf0, -⟩ := nh0
                injection nf0 with nf0
                subst nf0
                obtain ⟨nf1, -⟩ := nh1
                injection nf1 with nf1
                subst nf1
                obtain ⟨nA2, nq2, nf2, nm2, nk2⟩ := nh2
                injection nf2 with nf2
                subst nf2
                unfold maxLen at nm2
                have nE2 := Lib.hid nk2
                clear nk2
                have nc0 : W6.cell? ⟨nb, no + i * 3, none⟩ = some (.int .i64 n.1) := keep HW6.out (nhc 0 _ rfl)
                have nc1 : W6.cell? ⟨nb, no + i * 3 + 1, none⟩ = some (.int .i64 n.2.1) := keep HW6.out (nhc 1 _ rfl)
                have nc2 : W6.cell? ⟨nb, no + i * 3 + 2, none⟩ = some (.slice nA2 (n.2.2).length nq2) := keep HW6.out (nhc 2 _ rfl)
                have nlt : nb < W6.heap.size := World.block_lt_of_cell? _ _ nc0
                clear nhc nx
                obtain ⟨N, c0, hN, hc, hl⟩ := HI.out i n nx?
                have hNl : N < d.length := (List.getElem?_eq_some_iff.1 hc).1
                obtain ⟨cb, co, ce, _, _, cus, _, chc, chr⟩ := DE.out N hNl
                obtain ⟨c, cx⟩ : ∃ c, d[N]'hNl = c := ⟨_, rfl⟩
                have cx? : d[N]? = some c := by rw [List.getElem?_eq_getElem hNl, cx]
                rw [cx] at chr
                injection ce with ce
                injection ce with ce1 ce2
                subst ce1 ce2
                have CR := Lib.hid chr
                obtain ⟨cu0, cu1, cu2, cu3, rfl, ch0, ch1, ch2, ch3⟩ := chr
                obtain ⟨cA0, cq0, cf0, cm0, ck0⟩ := ch0
                injection cf0 with cf0
                subst cf0
                unfold maxLen at cm0
                have cE0 := Lib.hid ck0
                clear ck0
                obtain ⟨cA1, cq1, cf1, cm1, ck1⟩ := ch1
                injection cf1 with cf1
                subst cf1
                unfold maxLen at cm1
                have cE1 := Lib.hid ck1
                clear ck1
                obtain ⟨cA2, cq2, cf2, cm2, ck2⟩ := ch2
                injection cf2 with cf2
                subst cf2
                unfold maxLen at cm2
                have cE2 := Lib.hid ck2
                clear ck2
                obtain ⟨cA3, cq3, cf3, cm3, ck3⟩ := ch3
                injection cf3 with cf3
                subst cf3
                unfold maxLen at cm3
                have cE3 := Lib.hid ck3
                clear ck3
                have cc0 : W6.cell? ⟨mb, mo + N * 4, none⟩ = some (.slice cA0 (c.1).length cq0) := keep HW6.out (chc 0 _ rfl)
                have cc1 : W6.cell? ⟨mb, mo + N * 4 + 1, none⟩ = some (.slice cA1 (c.2.1).length cq1) := keep HW6.out (chc 1 _ rfl)
                have cc2 : W6.cell? ⟨mb, mo + N * 4 + 2, none⟩ = some (.slice cA2 (c.2.2.1).length cq2) := keep HW6.out (chc 2 _ rfl)
                have cc3 : W6.cell? ⟨mb, mo + N * 4 + 3, none⟩ = some (.slice cA3 (c.2.2.2).length cq3) := keep HW6.out (chc 3 _ rfl)
                have clt : mb < W6.heap.size := World.block_lt_of_cell? _ _ cc0
                clear chc cx
                obtain rfl : c = c0 := by rw [cx?] at hc; injection hc
                have HS := Lib.hid (fun (h0 : AllT (insOk d m) (m.2.2.1.take i)) (hf : insOk d m n = true) => AllT.step nx? hf h0)
                have HIN := Lib.hid (fun hf : insOk d m n = false => parts_no3 d K m (all_false_at (insOk d m) m.2.2.1 i _ nx? hf))
                obtain ⟨Q, hQ⟩ : ∃ Q, (portsL c).length = Q := ⟨_, rfl⟩
                have hQ30 : Q ≤ 30 := by rw [← hQ]; exact portsL_len c
                obtain ⟨a, ha⟩ : ∃ a, n.2.1 = a := ⟨_, rfl⟩
                obtain ⟨v, hv⟩ : ∃ v, decide (0 ≤ a ∧ a ≤ 4) = v := ⟨_, rfl⟩
                have HIE := Lib.hid (show insOk d m n = (v && (List.range Q).all (portOk m c n.2.2)) by rw [insOk_eq d m c n N hN hc hl, hQ]; unfold widthOk; rw [ha, hv])
                have HH := Lib.hid (And.intro hN (And.intro hc hl))
                have HQL := Lib.hid hQ
                have HVV := Lib.hid hv
                rw [hN] at nc0
                rw [ha] at nc1
                have nin : (N : Int) < (d.length : Int) := by omega
                clear hN hc hl hQ ha hv nx? cx?
                go_wp2_with fail
                obtain ⟨V, hV⟩ : ∃ V, V = (W6.alloc (.cells #[.int .i64 N, .int .i64 a, .slice nA2 (n.2.2).length nq2] 120)).alloc (.cells #[.slice cA0 (c.1).length cq0, .slice cA1 (c.2.1).length cq1, .slice cA2 (c.2.2.1).length cq2, .slice cA3 (c.2.2.2).length cq3] 31) := ⟨_, rfl⟩
                rw [← hV]
                have g := eqbox2 hV
                have n0 : V.cell? ⟨W6.heap.size, 0, none⟩ = some (.int .i64 N) := box_cell g.1 0 _ rfl
                have n1 : V.cell? ⟨W6.heap.size, 1, none⟩ = some (.int .i64 a) := box_cell g.1 1 _ rfl
                have n2 : V.cell? ⟨W6.heap.size, 2, none⟩ = some (.slice nA2 (n.2.2).length nq2) := box_cell g.1 2 _ rfl
                have d0 : V.cell? ⟨W6.heap.size + 1, 0, none⟩ = some (.slice cA0 (c.1).length cq0) := box_cell g.2.1 0 _ rfl
                replace e0 := keep g.2.2 e0
                replace f0 := keep g.2.2 f0
                replace f1 := keep g.2.2 f1
                replace f2 := keep g.2.2 f2
                replace f3 := keep g.2.2 f3
                have HV := Lib.hid g.2.2
                have HWV := Lib.hid (bThen HW6.out g.2.2)
                clear hV g elt flt nc0 nc1 nc2 nlt cc0 cc1 cc2 cc3 clt
                refine (specPorts_any c [.slice cA0 (c.1).length cq0, .slice cA1 (c.2.1).length cq1, .slice cA2 (c.2.2.1).length cq2, .slice cA3 (c.2.2.2).length cq3] _ (good_Module.below CR.out hT HWV.out) (Nat.le_trans hT HWV.out.size)).mono ?_
                rintro e w8 ⟨pv, rfl, ho, hb7⟩
                obtain ⟨oA, oc, rfl, hoA⟩ := ho.shape
                rw [HQL.out]
                have HPA := Lib.hid hoA
                have H7 := Lib.hid hb7
                have HW8 := Lib.hid (bThen HWV.out hb7)
                replace e0 := keep hb7 e0
                replace f0 := keep hb7 f0
                replace f1 := keep hb7 f1
                replace f2 := keep hb7 f2
                replace f3 := keep hb7 f3
                replace n0 := keep hb7 n0
                replace n1 := keep hb7 n1
                replace n2 := keep hb7 n2
                replace d0 := keep hb7 d0
                clear ho hoA hb7
                go_wp2_with fail
                refine (l01In_at a 0 4 _ HVV.out).mono ?_
                rintro e w1' ⟨rfl, rfl⟩
                cases v
                · have HNO := Lib.hid (HIN.out (by rw [HIE.out]; rfl))
                  go_wp2
                  go_ret
                  exact ⟨ret_bool (by rw [← HR.out]; exact HNO.out.symm), HW8.out⟩
                · go_wp2
                  go_loopw [14] (fun v ws => ∃ j : Nat, j ≤ Q ∧ v = .int .i64 j ∧ AllR (portOk m c n.2.2) j ∧ Below w8.heap.size w8 ws) (fun v _ => Q - (intOf v).toNat)
                  case atStart => exact ⟨0, Nat.zero_le _, rfl, AllR.nil _, Below.refl _ _⟩
                  case round =>
                    obtain ⟨j, hj, rfl, hallj, hb⟩ := hrel
                    obtain ⟨W9, rfl⟩ : ∃ W9, W9 = wr := ⟨_, rfl⟩
                    have HLJ := Lib.hid hallj
                    have HBJ := Lib.hid hb
                    have HW9 := Lib.hid (bThen HW8.out hb)
                    replace e0 := keep hb e0
                    replace f0 := keep hb f0
                    replace f1 := keep hb f1
                    replace f2 := keep hb f2
                    replace f3 := keep hb f3
                    replace n0 := keep hb n0
                    replace n1 := keep hb n1
                    replace n2 := keep hb n2
                    replace d0 := keep hb d0
                    clear hallj
                    by_cases hlj : j < Q
                    · have hkp : j < (portsL c).length := by rw [HQL.out]; exact hlj
                      have hkn : j < n.2.2.length := by rw [HH.out.2.2]; exact hkp
                      obtain ⟨g, rfl, hg, _⟩ := HPA.out j hkp
                      have hp? : (portsL c)[j]? = some ((portsL c)[j]'hkp) := List.getElem?_eq_getElem hkp
                      obtain ⟨y, hy, s0, hs0, _⟩ := portsL_at c j _ hp?
                      have hgd : (portsL c).getD j 0 = (y : Int) := by rw [List.getD_eq_getElem?_getD, hp?]; exact hy
                      rw [hgd] at hg
                      rw [hy] at hp?
                      have hout := outAt_eq c j y s0 hp? hs0
                      have hjl : y < c.1.length := (List.getElem?_eq_some_iff.1 hs0).1
                      have x0 : W9.cell? ⟨g, j, none⟩ = some (.int .i64 y) := keep hb hg
                      obtain ⟨zb, zo, ze, _, _, zus, _, zhc, zhr⟩ := cE0.out y hjl
                      obtain ⟨z, zx⟩ : ∃ z, c.1[y]'hjl = z := ⟨_, rfl⟩
                      have zx? : c.1[y]? = some z := by rw [List.getElem?_eq_getElem hjl, zx]
                      rw [zx] at zhr
                      subst ze
                      obtain ⟨zu0, zu1, zu2, rfl, zh0, zh1, zh2⟩ := zhr
                      obtain ⟨zf0, -⟩ := zh0
                      injection zf0 with zf0
                      subst zf0
                      obtain ⟨zf1, -⟩ := zh1
                      injection zf1 with zf1
                      subst zf1
                      obtain ⟨zf2, -⟩ := zh2
                      injection zf2 with zf2
                      subst zf2
                      have zc0 : W9.cell? ⟨zb, zo + y * 3, none⟩ = some (.int .i64 z.1) := keep HW9.out (zhc 0 _ rfl)
                      have zc1 : W9.cell? ⟨zb, zo + y * 3 + 1, none⟩ = some (.int .i64 z.2.1) := keep HW9.out (zhc 1 _ rfl)
                      have zc2 : W9.cell? ⟨zb, zo + y * 3 + 2, none⟩ = some (.int .i64 z.2.2) := keep HW9.out (zhc 2 _ rfl)
                      have zlt : zb < W9.heap.size := World.block_lt_of_cell? _ _ zc0
                      clear zhc zx
                      obtain rfl : z = s0 := by rw [zx?] at hs0; injection hs0
                      obtain ⟨pb, po, pe, _, _, pus, _, phc, phr⟩ := nE2.out j hkn
                      subst pe
                      obtain ⟨p0, _⟩ := phr
                      subst p0
                      have y0 : W9.cell? ⟨pb, po + j, none⟩ = some (.int .i64 (n.2.2[j]'hkn)) := by
                        have h := keep HW9.out (phc 0 _ rfl)
                        rwa [Nat.mul_one, Nat.add_zero] at h
                      have hgn : n.2.2.getD j 0 = n.2.2[j]'hkn := by rw [List.getD_eq_getElem?_getD, List.getElem?_eq_getElem hkn]; rfl
                      obtain ⟨s, hs⟩ : ∃ x, n.2.2[j]'hkn = x := ⟨_, rfl⟩
                      rw [hs] at y0 hgn
                      obtain ⟨ks, hks⟩ : ∃ q, kindI m s = q := ⟨_, rfl⟩
                      obtain ⟨qs, hqs⟩ : ∃ q, kindAt m [1, 2] s = q := ⟨_, rfl⟩
                      have hneg := kindI_neg HS1.out s
                      rw [hks] at hneg
                      have HPO := Lib.hid (show portOk m c n.2.2 j = (inR m s && (!isOut z || qs)) by unfold portOk; rw [hgn, hout, hqs])
                      have HNG := Lib.hid hneg
                      have HKS := Lib.hid hks
                      have HQS := Lib.hid hqs
                      have HPN := Lib.hid (fun hf : portOk m c n.2.2 j = false => HIN.out (by rw [HIE.out, range_all_false _ j _ hlj hf, Bool.and_false]))
                      clear hg hp? hy hs0 hout hs hgn phc hgd zx? hks hqs hneg hb
                      obtain ⟨kz, hkz⟩ : ∃ kd, z.1 = kd := ⟨_, rfl⟩
                      have HOU := Lib.hid (show isOut z = decide (kz = 1) by unfold isOut; rw [hkz])
                      rw [hkz] at zc0
                      clear hkz
                      have hyi : (y : Int) < (c.1.length : Int) := by omega
                      have hji : (j : Int) < (n.2.2.length : Int) := by omega
                      have hjq : (j : Int) < (Q : Int) := by omega
                      have r0 := cell_regrown f0
                      have r1 := cell_regrown f1
                      have r2 := cell_regrown f2
                      have r3 := cell_regrown f3
                      have rn2 := cell_regrown n2
                      have rd0 := cell_regrown d0
                      have rx0 := cell_regrown x0
                      have ry0 := cell_regrown y0
                      have rz0 := cell_regrown zc0
                      clear zc1 zc2 zlt
                      by_cases hk0 : ks < 0
                      · have HNO := Lib.hid (HPN.out (by rw [HPO.out, show inR m s = false by have := HNG.out; rw [decide_eq_true hk0] at this; simpa using this]; rfl))
                        go_wp2
                        refine wp_region_quiet_below (by kernel_rfl) (by kernel_rfl) ?_
                        repeat (go_big_quiet_step (first | (go_at_call 120; refine Calls.regrown_of (specKind_at m s _ _ (good_Module.below MR.out hT (bThen HW9.out (below_regrown _ _ _))) (Nat.le_trans hT (bThen HW9.out (below_regrown _ _ _)).size) HKS.out)) | (go_at_call 119; refine Calls.regrown_of (specDriven_at m s _ _ (good_Module.below MR.out hT (bThen HW9.out (below_regrown _ _ _))) (Nat.le_trans hT (bThen HW9.out (below_regrown _ _ _)).size) HQS.out))))
                        refine wpQuiet_nil ?_
                        intro _ hw'
                        obtain ⟨⟨dq', osq⟩, hw''⟩ := hw'
                        subst hw''
                        obtain ⟨V2, hV2⟩ : ∃ V2, V2 = Sort.grow (redrawn W9 dq') osq := ⟨_, rfl⟩
                        have hbV : Below W9.heap.size W9 V2 := by rw [hV2]; exact below_regrown _ _ _
                        rw [← hV2]
                        have HBR := Lib.hid hbV
                        clear hV2 hbV
                        go_wp2
                        go_ret
                        exact ⟨ret_bool (by rw [← HR.out]; exact HNO.out.symm), bThen HW9.out HBR.out⟩
                      · have hinr : inR m s = true := by have := HNG.out; rw [decide_eq_false hk0] at this; simpa using this
                        have hk0' : decide (ks < 0) = false := decide_eq_false hk0
                        by_cases hz1 : kz = 1
                        · cases qs
                          · have HNO := Lib.hid (HPN.out (by rw [HPO.out, hinr, HOU.out, decide_eq_true hz1]; rfl))
                            clear hinr
                            subst hz1
                            go_wp2
                            refine wp_region_quiet_below (by kernel_rfl) (by kernel_rfl) ?_
                            repeat (go_big_quiet_step (first | (go_at_call 120; refine Calls.regrown_of (specKind_at m s _ _ (good_Module.below MR.out hT (bThen HW9.out (below_regrown _ _ _))) (Nat.le_trans hT (bThen HW9.out (below_regrown _ _ _)).size) HKS.out)) | (go_at_call 119; refine Calls.regrown_of (specDriven_at m s _ _ (good_Module.below MR.out hT (bThen HW9.out (below_regrown _ _ _))) (Nat.le_trans hT (bThen HW9.out (below_regrown _ _ _)).size) HQS.out))))
                            refine wpQuiet_nil ?_
                            intro _ hw'
                            obtain ⟨⟨dq', osq⟩, hw''⟩ := hw'
                            subst hw''
                            obtain ⟨V2, hV2⟩ : ∃ V2, V2 = Sort.grow (redrawn W9 dq') osq := ⟨_, rfl⟩
                            have hbV : Below W9.heap.size W9 V2 := by rw [hV2]; exact below_regrown _ _ _
                            rw [← hV2]
                            have HBR := Lib.hid hbV
                            clear hV2 hbV
                            go_wp2
                            go_ret
                            exact ⟨ret_bool (by rw [← HR.out]; exact HNO.out.symm), bThen HW9.out HBR.out⟩
                          · have HPY := Lib.hid (show portOk m c n.2.2 j = true by rw [HPO.out, hinr]; simp)
                            clear hinr
                            subst hz1
                            go_wp2
                            refine wp_region_quiet_below (by kernel_rfl) (by kernel_rfl) ?_
                            repeat (go_big_quiet_step (first | (go_at_call 120; refine Calls.regrown_of (specKind_at m s _ _ (good_Module.below MR.out hT (bThen HW9.out (below_regrown _ _ _))) (Nat.le_trans hT (bThen HW9.out (below_regrown _ _ _)).size) HKS.out)) | (go_at_call 119; refine Calls.regrown_of (specDriven_at m s _ _ (good_Module.below MR.out hT (bThen HW9.out (below_regrown _ _ _))) (Nat.le_trans hT (bThen HW9.out (below_regrown _ _ _)).size) HQS.out))))
                            refine wpQuiet_nil ?_
                            intro _ hw'
                            obtain ⟨⟨dq', osq⟩, hw''⟩ := hw'
                            subst hw''
                            obtain ⟨V2, hV2⟩ : ∃ V2, V2 = Sort.grow (redrawn W9 dq') osq := ⟨_, rfl⟩
                            have hbV : Below W9.heap.size W9 V2 := by rw [hV2]; exact below_regrown _ _ _
                            rw [← hV2]
                            have HBR := Lib.hid hbV
                            clear hV2 hbV
                            go_wp2
                            go_roundw
                            case rel => exact ⟨j + 1, by omega, by go_num, AllR.step HPY.out HLJ.out, bThen HBJ.out HBR.out⟩
                            case measure => simp [intOf]; omega
                        · have HPY := Lib.hid (show portOk m c n.2.2 j = true by rw [HPO.out, hinr, HOU.out, decide_eq_false hz1]; rfl)
                          have hz1' : (kz == 1) = false := by simpa using hz1
                          have hz1'' : decide (kz = 1) = false := by simpa using hz1
                          clear hinr
                          go_wp2
                          refine wp_region_quiet_below (by kernel_rfl) (by kernel_rfl) ?_
                          repeat (go_big_quiet_step (first | (go_at_call 120; refine Calls.regrown_of (specKind_at m s _ _ (good_Module.below MR.out hT (bThen HW9.out (below_regrown _ _ _))) (Nat.le_trans hT (bThen HW9.out (below_regrown _ _ _)).size) HKS.out)) | (go_at_call 119; refine Calls.regrown_of (specDriven_at m s _ _ (good_Module.below MR.out hT (bThen HW9.out (below_regrown _ _ _))) (Nat.le_trans hT (bThen HW9.out (below_regrown _ _ _)).size) HQS.out))))
                          refine wpQuiet_nil ?_
                          intro _ hw'
                          obtain ⟨⟨dq', osq⟩, hw''⟩ := hw'
                          subst hw''
                          obtain ⟨V2, hV2⟩ : ∃ V2, V2 = Sort.grow (redrawn W9 dq') osq := ⟨_, rfl⟩
                          have hbV : Below W9.heap.size W9 V2 := by rw [hV2]; exact below_regrown _ _ _
                          rw [← hV2]
                          have HBR := Lib.hid hbV
                          clear hV2 hbV
                          go_wp2
                          go_roundw
                          case rel => exact ⟨j + 1, by omega, by go_num, AllR.step HPY.out HLJ.out, bThen HBJ.out HBR.out⟩
                          case measure => simp [intOf]; omega
                    · obtain rfl : j = Q := by omega
                      have HOK := Lib.hid (show insOk d m n = true by rw [HIE.out]; unfold AllR at HLJ; rw [HLJ.out]; rfl)
                      clear hb
                      go_wp2
                      go_roundw
                      case rel => exact ⟨i + 1, by omega, by go_num, HS.out HL4.out HOK.out, bThen HB.out (bThen HV.out (bThen H7.out HBJ.out))⟩
                      case measure => simp [intOf]; omega
              · obtain rfl : i = m.2.2.1.length := by omega
                clear HB elt flt
                have HS3 := Lib.hid HL4.out.done
                go_wp2
                go_loopw [15] (fun v wr => ∃ i : Nat, i ≤ m.2.2.2.length ∧ v = .int .i64 i ∧ AllT (memOk m) (m.2.2.2.take i) ∧ Below W6.heap.size W6 wr) (fun v _ => m.2.2.2.length - (intOf v).toNat)
                case atStart => exact ⟨0, Nat.zero_le _, rfl, AllT.nil _ _, Below.refl _ _⟩
                case round =>
                  obtain ⟨i, hi, rfl, hl5, hb⟩ := hrel
                  obtain ⟨W10, rfl⟩ : ∃ W10, W10 = wr := ⟨_, rfl⟩
                  have HL5 := Lib.hid hl5
                  replace e0 := keep hb e0
                  replace f0 := keep hb f0
                  replace f1 := keep hb f1
                  replace f2 := keep hb f2
                  replace f3 := keep hb f3
                  have HB := Lib.hid hb
                  have HW10 := Lib.hid (bThen HW6.out hb)
                  have elt : w.heap.size < W10.heap.size := World.block_lt_of_cell? _ _ e0
                  have flt : w1.heap.size < W10.heap.size := World.block_lt_of_cell? _ _ f0
                  clear hb hl5
                  by_cases hlt : i < m.2.2.2.length
                  · skip
                    obtain ⟨xb, xo, xe, _, _, xus, _, xhc, xhr⟩ := mE3.out i hlt
                    obtain ⟨x, xx⟩ : ∃ x, m.2.2.2[i]'hlt = x := ⟨_, rfl⟩
                    have xx? : m.2.2.2[i]? = some x := by rw [List.getElem?_eq_getElem hlt, xx]
                    rw [xx] at xhr
                    subst xe
                    obtain ⟨xu0, xu1, xu2, xu3, rfl, xh0, xh1, xh2, xh3⟩ := xhr
                    obtain ⟨xf0, -⟩ := xh0
                    injection xf0 with xf0
                    subst xf0
                    obtain ⟨xf1, -⟩ := xh1
                    injection xf1 with xf1
                    subst xf1
                    obtain ⟨xf2, -⟩ := xh2
                    injection xf2 with xf2
                    subst xf2
                    obtain ⟨xf3, -⟩ := xh3
                    injection xf3 with xf3
                    subst xf3
                    have xc0 : W10.cell? ⟨xb, xo + i * 4, none⟩ = some (.int .i64 x.1) := keep HW10.out (xhc 0 _ rfl)
                    have xc1 : W10.cell? ⟨xb, xo + i * 4 + 1, none⟩ = some (.int .i64 x.2.1) := keep HW10.out (xhc 1 _ rfl)
                    have xc2 : W10.cell? ⟨xb, xo + i * 4 + 2, none⟩ = some (.int .i64 x.2.2.1) := keep HW10.out (xhc 2 _ rfl)
                    have xc3 : W10.cell? ⟨xb, xo + i * 4 + 3, none⟩ = some (.int .i64 x.2.2.2) := keep HW10.out (xhc 3 _ rfl)
                    have xlt : xb < W10.heap.size := World.block_lt_of_cell? _ _ xc0
                    clear xhc xx
                    have HS := Lib.hid (And.intro (fun (h0 : AllT (memOk m) (m.2.2.2.take i)) (hf : memOk m x = true) => AllT.step xx? hf h0) (fun hf : memOk m x = false => parts_no4 d K m (all_false_at (memOk m) m.2.2.2 i _ xx? hf)))
                    obtain ⟨k0, hk0⟩ : ∃ q, kindI m x.1 = q := ⟨_, rfl⟩
                    obtain ⟨k1, hk1⟩ : ∃ q, kindI m x.2.1 = q := ⟨_, rfl⟩
                    obtain ⟨k2, hk2⟩ : ∃ q, kindI m x.2.2.1 = q := ⟨_, rfl⟩
                    obtain ⟨q, hq⟩ : ∃ q, kindAt m [1, 2] x.2.2.2 = q := ⟨_, rfl⟩
                    have HX := Lib.hid (show memOk m x = ((inR m x.1 && (inR m x.2.1 && (inR m x.2.2.1 && true))) && q) by unfold memOk; rw [hq]; rfl)
                    have HQ := Lib.hid (And.intro hk0 (And.intro hk1 (And.intro hk2 hq)))
                    have HNG := Lib.hid (show decide (k0 < 0) = !inR m x.1 ∧ decide (k1 < 0) = !inR m x.2.1 ∧ decide (k2 < 0) = !inR m x.2.2.1 by rw [← hk0, ← hk1, ← hk2]; exact ⟨kindI_neg HS1.out _, kindI_neg HS1.out _, kindI_neg HS1.out _⟩)
                    clear hk0 hk1 hk2 hq xx?
                    go_wp2_with fail
                    obtain ⟨W11, hV⟩ : ∃ W11, W11 = W10.alloc (.cells #[.int .i64 x.1, .int .i64 x.2.1, .int .i64 x.2.2.1, .int .i64 x.2.2.2] 111) := ⟨_, rfl⟩
                    rw [← hV]
                    have g := eqbox1 hV
                    have y0 : W11.cell? ⟨W10.heap.size, 0, none⟩ = some (.int .i64 x.1) := box_cell g.1 0 _ rfl
                    have y1 : W11.cell? ⟨W10.heap.size, 1, none⟩ = some (.int .i64 x.2.1) := box_cell g.1 1 _ rfl
                    have y2 : W11.cell? ⟨W10.heap.size, 2, none⟩ = some (.int .i64 x.2.2.1) := box_cell g.1 2 _ rfl
                    have y3 : W11.cell? ⟨W10.heap.size, 3, none⟩ = some (.int .i64 x.2.2.2) := box_cell g.1 3 _ rfl
                    replace e0 := keep g.2 e0
                    replace f0 := keep g.2 f0
                    replace f1 := keep g.2 f1
                    replace f2 := keep g.2 f2
                    replace f3 := keep g.2 f3
                    have HW11 := Lib.hid (bThen HW10.out g.2)
                    have HB11 := Lib.hid (bThen HB.out g.2)
                    clear hV g
                    clear xc0 xc1 xc2 xc3 xlt elt flt
                    refine (specKind_at m x.1 _ _ (good_Module.below MR.out hT HW11.out) (Nat.le_trans hT HW11.out.size) HQ.out.1).mono ?_
                    rintro e w12 ⟨rfl, hb'⟩
                    replace e0 := keep hb' e0
                    replace f0 := keep hb' f0
                    replace f1 := keep hb' f1
                    replace f2 := keep hb' f2
                    replace f3 := keep hb' f3
                    replace y0 := keep hb' y0
                    replace y1 := keep hb' y1
                    replace y2 := keep hb' y2
                    replace y3 := keep hb' y3
                    have HW12 := Lib.hid (bThen HW11.out hb')
                    have HB12 := Lib.hid (bThen HB11.out hb')
                    clear hb'
                    by_cases h0 : k0 < 0
                    · have HNO := Lib.hid (HS.out.2 (by rw [HX.out, show inR m x.1 = false by have := HNG.out.1; rw [decide_eq_true h0] at this; simpa using this]; simp))
                      go_wp2
                      go_ret
                      exact ⟨ret_bool (by rw [← HR.out]; exact HNO.out.symm), HW12.out⟩
                    · have hi0 := HNG.out.1
                      rw [decide_eq_false h0] at hi0
                      have HI0 := Lib.hid (show inR m x.1 = true by simpa using hi0)
                      clear hi0
                      go_wp2_with fail
                      refine (specKind_at m x.2.1 _ _ (good_Module.below MR.out hT HW12.out) (Nat.le_trans hT HW12.out.size) HQ.out.2.1).mono ?_
                      rintro e w13 ⟨rfl, hb'⟩
                      replace e0 := keep hb' e0
                      replace f0 := keep hb' f0
                      replace f1 := keep hb' f1
                      replace f2 := keep hb' f2
                      replace f3 := keep hb' f3
                      replace y0 := keep hb' y0
                      replace y1 := keep hb' y1
                      replace y2 := keep hb' y2
                      replace y3 := keep hb' y3
                      have HW13 := Lib.hid (bThen HW12.out hb')
                      have HB13 := Lib.hid (bThen HB12.out hb')
                      clear hb'
                      by_cases h1 : k1 < 0
                      · have HNO := Lib.hid (HS.out.2 (by rw [HX.out, show inR m x.2.1 = false by have := HNG.out.2.1; rw [decide_eq_true h1] at this; simpa using this]; simp))
                        go_wp2
                        go_ret
                        exact ⟨ret_bool (by rw [← HR.out]; exact HNO.out.symm), HW13.out⟩
                      · have hi1 := HNG.out.2.1
                        rw [decide_eq_false h1] at hi1
                        have HI1 := Lib.hid (show inR m x.2.1 = true by simpa using hi1)
                        clear hi1
                        go_wp2_with fail
                        refine (specKind_at m x.2.2.1 _ _ (good_Module.below MR.out hT HW13.out) (Nat.le_trans hT HW13.out.size) HQ.out.2.2.1).mono ?_
                        rintro e w14 ⟨rfl, hb'⟩
                        replace e0 := keep hb' e0
                        replace f0 := keep hb' f0
                        replace f1 := keep hb' f1
                        replace f2 := keep hb' f2
                        replace f3 := keep hb' f3
                        replace y0 := keep hb' y0
                        replace y1 := keep hb' y1
                        replace y2 := keep hb' y2
                        replace y3 := keep hb' y3
                        have HW14 := Lib.hid (bThen HW13.out hb')
                        have HB14 := Lib.hid (bThen HB13.out hb')
                        clear hb'
                        by_cases h2 : k2 < 0
                        · have HNO := Lib.hid (HS.out.2 (by rw [HX.out, show inR m x.2.2.1 = false by have := HNG.out.2.2; rw [decide_eq_true h2] at this; simpa using this]; simp))
                          go_wp2
                          go_ret
                          exact ⟨ret_bool (by rw [← HR.out]; exact HNO.out.symm), HW14.out⟩
                        · have hi2 := HNG.out.2.2
                          rw [decide_eq_false h2] at hi2
                          have HI2 := Lib.hid (show inR m x.2.2.1 = true by simpa using hi2)
                          clear hi2
                          go_wp2_with fail
                          refine (specDriven_at m x.2.2.2 _ _ (good_Module.below MR.out hT HW14.out) (Nat.le_trans hT HW14.out.size) HQ.out.2.2.2).mono ?_
                          rintro e w15 ⟨rfl, hb'⟩
                          have HW15 := Lib.hid (bThen HW14.out hb')
                          have HB15 := Lib.hid (bThen HB14.out hb')
                          clear hb'
                          cases q
                          · have HNO := Lib.hid (HS.out.2 (by rw [HX.out]; simp))
                            go_wp2
                            go_ret
                            exact ⟨ret_bool (by rw [← HR.out]; exact HNO.out.symm), HW15.out⟩
                          · have HOK := Lib.hid (show memOk m x = true by rw [HX.out, HI0.out, HI1.out, HI2.out]; rfl)
                            go_wp2
                            go_roundw
                            case rel => exact ⟨i + 1, by omega, by go_num, HS.out.1 HL5.out HOK.out, HB15.out⟩
                            case measure => simp [intOf]; omega
                  · obtain rfl : i = m.2.2.2.length := by omega
                    clear HB elt flt
                    have HF := Lib.hid (show partsB d K m = true by unfold partsB; rw [HS1.out, HS2.out, HS3.out, HL5.out.done, HS5.out]; rfl)
                    go_wp2
                    go_ret
                    exact ⟨ret_bool (by rw [← HR.out, HF.out]), HW10.out⟩
end Go.Proofs.YtmjofpfkgbnknaaGreat
