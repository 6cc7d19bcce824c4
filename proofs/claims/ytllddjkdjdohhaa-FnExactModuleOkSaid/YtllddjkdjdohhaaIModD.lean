/-
  Valid modules and designs, as the program judges them: the whole.
-/
import Derived.Test.YtllddjkdjdohhaaIModC
namespace Go.Proofs.Ytllddjkdjdohhaa
open Go.RowKit
set_option linter.unusedVariables false
set_option linter.unusedSimpArgs false

set_option maxRecDepth 100000 in
set_option maxHeartbeats 12800000 in
theorem implModule_at (d : DDesign) (k : Int) (us : List Value) {B T : Nat} {r : Bool} (w : World) (hd : rdDesign B T w us d) (hT : T ≤ w.heap.size) (hr : moduleB d k = r) :
    Calls Try.prog 17 #[.agg us.toArray, .int .i64 k] w fun e w' => e = .returned (.bool r) ∧ Below w.heap.size w w' := by
  have HD := Lib.hid hd
  obtain ⟨du, rfl, dh⟩ := hd
  obtain ⟨dA, dq, de, dm, dk⟩ := dh
  injection de with de
  subst de
  unfold maxLen at dm
  have DE := Lib.hid dk
  clear dk
  obtain ⟨b, hb⟩ : ∃ b, countsB d k = b := ⟨_, rfl⟩
  have HC := Lib.hid hb
  cases b
  · rw [moduleB_no hb] at hr
    subst hr
    clear hb
    go_enter Try.func17, Try.ntmps17
    go_wp2_with fail
    refine (implInstsFit_at d k _ _ (good_Design.below HD.out hT (by (repeat' (first | assumption | exact Below.refl _ _ | refine bDrewN ?_ _ | refine Below.drew ?_ | refine bAlloc ?_ (Nat.le_refl _) _ | refine bSet ?_ (by first | exact Nat.le_refl _ | omega | (simp <;> omega)) _)))) (Nat.le_trans hT (by simp <;> omega)) HC.out).mono ?_
    rintro e w1 ⟨rfl, hb⟩
    have g := box1 hb
    have HW1 := Lib.hid g.2
    clear hb g
    go_wp2
    go_ret
    exact ⟨rfl, HW1.out⟩
  · obtain ⟨K, m0, rfl, hd4, hKl, hm?, q0, q1, q2, q3, hI⟩ := counts_facts hb
    rw [moduleB_eq hb hm?] at hr
    have HR := Lib.hid hr
    have HM0 := Lib.hid hm?
    have HI := Lib.hid (show ∀ (i : Nat) (n : DInst), m0.2.2.1[i]? = some n → ∃ (N : Nat) (c : DModule), n.1 = N ∧ d[N]? = some c ∧ n.2.2.length = (portsL c).length from fun i n hn => by
      obtain ⟨N, c, h1, _, h2, h3⟩ := hI i n hn
      exact ⟨N, c, h1, h2, h3⟩)
    clear hb hr hI
    obtain ⟨mb, mo, me, _, _, mus, _, mhc, mhr⟩ := DE.out K hKl
    obtain ⟨m, mx⟩ : ∃ m, d[K]'hKl = m := ⟨_, rfl⟩
    have mx? : d[K]? = some m := by rw [List.getElem?_eq_getElem hKl, mx]
    rw [mx] at mhr
    subst me
    have MR := Lib.hid mhr
    obtain ⟨mu0, mu1, mu2, mu3, rfl, mh0, mh1, mh2, mh3⟩ := mhr
    obtain ⟨mA0, mq0, mf0, mm0, mk0⟩ := mh0
    injection mf0 with mf0
    subst mf0
    unfold maxLen at mm0
    have mE0 := Lib.hid mk0
    clear mk0
    obtain ⟨mA1, mq1, mf1, mm1, mk1⟩ := mh1
    injection mf1 with mf1
    subst mf1
    unfold maxLen at mm1
    have mE1 := Lib.hid mk1
    clear mk1
    obtain ⟨mA2, mq2, mf2, mm2, mk2⟩ := mh2
    injection mf2 with mf2
    subst mf2
    unfold maxLen at mm2
    have mE2 := Lib.hid mk2
    clear mk2
    obtain ⟨mA3, mq3, mf3, mm3, mk3⟩ := mh3
    injection mf3 with mf3
    subst mf3
    unfold maxLen at mm3
    have mE3 := Lib.hid mk3
    clear mk3
    have mc0 : w.cell? ⟨mb, mo + K * 4, none⟩ = some (.slice mA0 (m.1).length mq0) := (mhc 0 _ rfl)
    have mc1 : w.cell? ⟨mb, mo + K * 4 + 1, none⟩ = some (.slice mA1 (m.2.1).length mq1) := (mhc 1 _ rfl)
    have mc2 : w.cell? ⟨mb, mo + K * 4 + 2, none⟩ = some (.slice mA2 (m.2.2.1).length mq2) := (mhc 2 _ rfl)
    have mc3 : w.cell? ⟨mb, mo + K * 4 + 3, none⟩ = some (.slice mA3 (m.2.2.2).length mq3) := (mhc 3 _ rfl)
    have mlt : mb < w.heap.size := World.block_lt_of_cell? _ _ mc0
    clear mhc mx
    obtain rfl : m = m0 := by rw [mx?] at hm?; injection hm?
    have HM := HM0
    clear hm? mx?
    obtain ⟨q1, h1⟩ : ∃ q, m.1.all sigOk = q := ⟨_, rfl⟩
    obtain ⟨q2, h2⟩ : ∃ q, m.2.1.all (asgOk m) = q := ⟨_, rfl⟩
    obtain ⟨q3, h3⟩ : ∃ q, m.2.2.1.all (insOk d m) = q := ⟨_, rfl⟩
    obtain ⟨q4, h4⟩ : ∃ q, m.2.2.2.all (memOk m) = q := ⟨_, rfl⟩
    obtain ⟨q5, h5⟩ : ∃ q, onceAll d K m = q := ⟨_, rfl⟩
    have HP := Lib.hid (And.intro h1 (And.intro h2 (And.intro h3 (And.intro h4 h5))))
    have HPB := Lib.hid (show partsB d K m = (q1 && q2 && q3 && q4 && q5) by unfold partsB; rw [h1, h2, h3, h4, h5])
    clear h1 h2 h3 h4 h5
    go_enter Try.func17, Try.ntmps17
    go_wp2_with fail
    refine (implInstsFit_at d K _ _ (good_Design.below HD.out hT (by (repeat' (first | assumption | exact Below.refl _ _ | refine bDrewN ?_ _ | refine Below.drew ?_ | refine bAlloc ?_ (Nat.le_refl _) _ | refine bSet ?_ (by first | exact Nat.le_refl _ | omega | (simp <;> omega)) _)))) (Nat.le_trans hT (by simp <;> omega)) HC.out).mono ?_
    rintro e w1 ⟨rfl, hb⟩
    have g := box1 hb
    have e0 : w1.cell? ⟨w.heap.size, 0, none⟩ = some (.slice (some ⟨mb, mo, none⟩) d.length dq) := box_cell g.1 0 _ rfl
    have HW1 := Lib.hid g.2
    replace mc0 := keep g.2 mc0
    replace mc1 := keep g.2 mc1
    replace mc2 := keep g.2 mc2
    replace mc3 := keep g.2 mc3
    have mlt1 : mb < w1.heap.size := World.block_lt_of_cell? _ _ mc0
    have elt : w.heap.size < w1.heap.size := World.block_lt_of_cell? _ _ e0
    clear hb g mlt
    go_wp2_with fail
    obtain ⟨W2, hW⟩ : ∃ W, W = w1.alloc (.cells #[.slice mA0 (m.1).length mq0, .slice mA1 (m.2.1).length mq1, .slice mA2 (m.2.2.1).length mq2, .slice mA3 (m.2.2.2).length mq3] 35) := ⟨_, rfl⟩
    rw [← hW]
    have g := eqbox1 hW
    have c0 : W2.cell? ⟨w1.heap.size, 0, none⟩ = some (.slice mA0 (m.1).length mq0) := box_cell g.1 0 _ rfl
    have c1 : W2.cell? ⟨w1.heap.size, 1, none⟩ = some (.slice mA1 (m.2.1).length mq1) := box_cell g.1 1 _ rfl
    have c2 : W2.cell? ⟨w1.heap.size, 2, none⟩ = some (.slice mA2 (m.2.2.1).length mq2) := box_cell g.1 2 _ rfl
    have c3 : W2.cell? ⟨w1.heap.size, 3, none⟩ = some (.slice mA3 (m.2.2.2).length mq3) := box_cell g.1 3 _ rfl
    replace e0 := keep g.2 e0
    have HW2 := Lib.hid (bThen HW1.out g.2)
    clear hW g mc0 mc1 mc2 mc3 mlt1 elt
    refine (implSignals_at m _ _ (good_Module.below MR.out hT HW2.out) (Nat.le_trans hT HW2.out.size) HP.out.1).mono ?_
    rintro e w3 ⟨rfl, hb⟩
    replace c0 := keep hb c0
    replace c1 := keep hb c1
    replace c2 := keep hb c2
    replace c3 := keep hb c3
    replace e0 := keep hb e0
    have HW3 := Lib.hid (bThen HW2.out hb)
    clear hb
    cases q1
    · go_wp2
      go_ret
      exact ⟨ret_bool (by rw [← HR.out, HPB.out]; simp), HW3.out⟩
    · go_wp2_with fail
      refine (implAssigns_at m _ _ (good_Module.below MR.out hT HW3.out) (Nat.le_trans hT HW3.out.size) HP.out.2.1).mono ?_
      rintro e w4 ⟨rfl, hb⟩
      replace c0 := keep hb c0
      replace c1 := keep hb c1
      replace c2 := keep hb c2
      replace c3 := keep hb c3
      replace e0 := keep hb e0
      have HW4 := Lib.hid (bThen HW3.out hb)
      clear hb
      cases q2
      · go_wp2
        go_ret
        exact ⟨ret_bool (by rw [← HR.out, HPB.out]; simp), HW4.out⟩
      · go_wp2_with fail
        refine (implInsts_at d m _ _ _ (good_Design.below HD.out hT HW4.out) (Nat.le_trans hT HW4.out.size) (good_Module.below MR.out hT HW4.out) (Nat.le_trans hT HW4.out.size) HI.out HP.out.2.2.1).mono ?_
        rintro e w5 ⟨rfl, hb⟩
        replace c0 := keep hb c0
        replace c1 := keep hb c1
        replace c2 := keep hb c2
        replace c3 := keep hb c3
        replace e0 := keep hb e0
        have HW5 := Lib.hid (bThen HW4.out hb)
        clear hb
        cases q3
        · go_wp2
          go_ret
          exact ⟨ret_bool (by rw [← HR.out, HPB.out]; simp), HW5.out⟩
        · go_wp2_with fail
          refine (implMems_at m _ _ (good_Module.below MR.out hT HW5.out) (Nat.le_trans hT HW5.out.size) HP.out.2.2.2.1).mono ?_
          rintro e w6 ⟨rfl, hb⟩
          replace c0 := keep hb c0
          replace c1 := keep hb c1
          replace c2 := keep hb c2
          replace c3 := keep hb c3
          replace e0 := keep hb e0
          have HW6 := Lib.hid (bThen HW5.out hb)
          clear hb
          cases q4
          · go_wp2
            go_ret
            exact ⟨ret_bool (by rw [← HR.out, HPB.out]; simp), HW6.out⟩
          · go_wp2_with fail
            refine (implOnce_at d K m _ _ (good_Design.below HD.out hT HW6.out) (Nat.le_trans hT HW6.out.size) HM.out HP.out.2.2.2.2).mono ?_
            rintro e w7 ⟨rfl, hb⟩
            replace c0 := keep hb c0
            replace c1 := keep hb c1
            replace c2 := keep hb c2
            replace c3 := keep hb c3
            replace e0 := keep hb e0
            have HW7 := Lib.hid (bThen HW6.out hb)
            clear hb
            cases q5
            · go_wp2
              go_ret
              exact ⟨ret_bool (by rw [← HR.out, HPB.out]; simp), HW7.out⟩
            · go_wp2
              go_ret
              exact ⟨ret_bool (by rw [← HR.out, HPB.out]; simp), HW7.out⟩

theorem designB_no {d : List DModule} (K : Nat) (hK : K < d.length) (h : moduleB d K = false) : designB d = false := by
  unfold designB; rw [range_all_false (fun k : Nat => moduleB d k) K _ hK h, Bool.and_false]
theorem designB_yes {d : List DModule} (h : AllR (fun k : Nat => moduleB d k) d.length) : designB d = decide (0 < d.length) := by
  unfold designB
  rw [show (List.range d.length).all (fun k : Nat => moduleB d k) = true from h, Bool.and_true]
  by_cases h0 : 0 < d.length
  · have h4 : d.length ≤ 4 := by
      apply Decidable.byContradiction
      intro h4
      have := List.all_eq_true.1 (show (List.range d.length).all (fun k : Nat => moduleB d k) = true from h) 0 (List.mem_range.2 h0)
      rw [moduleB_long _ h4] at this
      cases this
    rw [decide_eq_true h0, decide_eq_true (by omega)]
  · rw [decide_eq_false h0, decide_eq_false (by omega)]
set_option maxRecDepth 100000 in
set_option maxHeartbeats 6400000 in
theorem implDesign_at (d : DDesign) (us : List Value) {B T : Nat} {r : Bool} (w : World) (hd : rdDesign B T w us d) (hT : T ≤ w.heap.size) (hr : designB d = r) :
    Calls Try.prog 18 #[.agg us.toArray] w fun e w' => e = .returned (.bool r) ∧ Below w.heap.size w w' := by
  have HR := Lib.hid hr
  have HD := Lib.hid hd
  obtain ⟨du, rfl, dh⟩ := hd
  obtain ⟨dA, dq, de, dm, dk⟩ := dh
  injection de with de
  subst de
  unfold maxLen at dm
  have DE := Lib.hid dk
  clear dk
  clear hr
  go_enter Try.func18, Try.ntmps18
  go_wp2
  obtain ⟨W, hW⟩ : ∃ W, W = w.alloc (.cells #[.slice dA d.length dq] 26) := ⟨_, rfl⟩
  rw [← hW]
  have g := eqbox1 hW
  have e0 : W.cell? ⟨w.heap.size, 0, none⟩ = some (.slice dA d.length dq) := box_cell g.1 0 _ rfl
  have HW := Lib.hid g.2
  clear hW g
  go_loopw [7] (fun v wr => ∃ i : Nat, i ≤ d.length ∧ v = .int .i64 i ∧ AllR (fun k : Nat => moduleB d k) i ∧ Below W.heap.size W wr) (fun v _ => d.length - (intOf v).toNat)
  case atStart => exact ⟨0, Nat.zero_le _, rfl, AllR.nil _, Below.refl _ _⟩
  case round =>
    obtain ⟨i, hi, rfl, hall, hb⟩ := hrel
    obtain ⟨W2, rfl⟩ : ∃ W2, W2 = wr := ⟨_, rfl⟩
    have HL := Lib.hid hall
    have HB := Lib.hid hb
    have HW2 := Lib.hid (bThen HW.out hb)
    replace e0 := keep hb e0
    clear hb hall
    by_cases hlt : i < d.length
    · obtain ⟨q, hq⟩ : ∃ q, moduleB d i = q := ⟨_, rfl⟩
      have HQ := Lib.hid hq
      clear hq
      go_wp2_with fail
      refine (implModule_at d i _ _ (good_Design.below HD.out hT HW2.out) (Nat.le_trans hT HW2.out.size) HQ.out).mono ?_
      rintro e w3 ⟨rfl, hb3⟩
      have HW3 := Lib.hid (bThen HW2.out hb3)
      have HB3 := Lib.hid (bThen HB.out hb3)
      clear hb3
      cases q
      · have HNO := Lib.hid (designB_no i hlt HQ.out)
        go_wp2
        go_ret
        exact ⟨ret_bool (by rw [← HR.out]; exact HNO.out.symm), HW3.out⟩
      · go_wp2
        go_roundw
        case rel => exact ⟨i + 1, by omega, by go_num, AllR.step HQ.out HL.out, HB3.out⟩
        case measure => simp [intOf]; omega
    · obtain rfl : i = d.length := by omega
      have HY := Lib.hid (designB_yes HL.out)
      go_wp2
      go_ret
      exact ⟨ret_bool (by rw [← HR.out, HY.out] <;> simp), HW2.out⟩
end Go.Proofs.Ytllddjkdjdohhaa
