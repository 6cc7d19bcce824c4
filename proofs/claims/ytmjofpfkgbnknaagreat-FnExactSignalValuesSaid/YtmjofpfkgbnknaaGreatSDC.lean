/-
  How often a signal is driven, as the reference counts.
-/
import Derived.Test.YtmjofpfkgbnknaaGreatDrvMath
import Derived.Test.YtmjofpfkgbnknaaGreatICnt
import Derived.Deep.CutRange
import Derived.BigQuiet
namespace Go.Proofs.YtmjofpfkgbnknaaGreat
open Go.RowKit
set_option linter.unusedVariables false
set_option linter.unusedSimpArgs false

set_option maxRecDepth 100000 in
set_option maxHeartbeats 12800000 in
theorem specDrivers_any (d : DDesign) (k s : Int) (us : List Value) {B T : Nat} (w : World) (hd : rdDesign B T w us d) (hT : T ≤ w.heap.size) :
    Calls Tryz.prog 118 #[.agg us.toArray, .int .i64 k, .int .i64 s] w fun e w' => e = .returned (.int .i64 (driversI d k s)) ∧ Below w.heap.size w w' := by
  have HD := Lib.hid hd
  obtain ⟨du, rfl, dh⟩ := hd
  obtain ⟨dA, dq, de, dm, dk⟩ := dh
  injection de with de
  subst de
  unfold maxLen at dm
  have DE := Lib.hid dk
  clear dk
  obtain ⟨r, hr⟩ : ∃ r, countsB d k = r := ⟨_, rfl⟩
  have HR := Lib.hid hr
  cases r
  · rw [driversI_no hr]
    clear hr
    go_enter Tryz.func118, Tryz.ntmps118
    go_wp2_with fail
    refine (specCounts_at d k _ _ (good_Design.below HD.out hT (by (repeat' (first | assumption | exact Below.refl _ _ | refine bDrewN ?_ _ | refine Below.drew ?_ | refine bAlloc ?_ (Nat.le_refl _) _ | refine bSet ?_ (by first | exact Nat.le_refl _ | omega | (simp <;> omega)) _)))) (Nat.le_trans hT (by simp <;> omega)) HR.out).mono ?_
    rintro e w1 ⟨rfl, hb⟩
    have g := box1 hb
    have b0 : w1.cell? ⟨w.heap.size, 0, none⟩ = some (.slice dA d.length dq) := box_cell g.1 0 _ rfl
    have HW1 := Lib.hid g.2
    clear hb g
    go_wp2
    go_ret
    exact ⟨rfl, HW1.out⟩
  · obtain ⟨K, m0, rfl, hd4, hKl, hm?, q0, q1, q2, q3, hI⟩ := counts_facts hr
    by_cases hs : 0 ≤ s ∧ s < m0.1.length
    · obtain ⟨S, rfl⟩ := Int.eq_ofNat_of_zero_le hs.1
      have hS : S < m0.1.length := by omega
      rw [driversI_yes hm? hr hs]
      have HI := Lib.hid hI
      clear hr hs hI
      obtain ⟨mb, mo, me, _, _, mus, _, mhc, mhr⟩ := DE.out K hKl
      obtain ⟨m, mx⟩ : ∃ m, d[K]'hKl = m := ⟨_, rfl⟩
      have mx? : d[K]? = some m := by rw [List.getElem?_eq_getElem hKl, mx]
      rw [mx] at mhr
      subst me
      obtain ⟨mu0, mu1, mu2, mu3, rfl, mh0, mh1, mh2, mh3⟩ := mhr
      obtain ⟨mA0, mq0, mf0, mm0, mk0⟩ := mh0
      injection mf0 with mf0
      subst mf0
      unfold maxLen at mm0
      have mE0 := Lib.hid mk0
      clear mk0
      obtain ⟨mA1, mq1, mf1, mm1, mk1⟩ := mh1
      injection mf1 with mf1
      subst mf1
      unfold maxLen at mm1
      have mE1 := Lib.hid mk1
      clear mk1
      obtain ⟨mA2, mq2, mf2, mm2, mk2⟩ := mh2
      injection mf2 with mf2
      subst mf2
      unfold maxLen at mm2
      have mE2 := Lib.hid mk2
      clear mk2
      obtain ⟨mA3, mq3, mf3, mm3, mk3⟩ := mh3
      injection mf3 with mf3
      subst mf3
      unfold maxLen at mm3
      have mE3 := Lib.hid mk3
      clear mk3
      have mc0 : w.cell? ⟨mb, mo + K * 4, none⟩ = some (.slice mA0 (m.1).length mq0) := (mhc 0 _ rfl)
      have mc1 : w.cell? ⟨mb, mo + K * 4 + 1, none⟩ = some (.slice mA1 (m.2.1).length mq1) := (mhc 1 _ rfl)
      have mc2 : w.cell? ⟨mb, mo + K * 4 + 2, none⟩ = some (.slice mA2 (m.2.2.1).length mq2) := (mhc 2 _ rfl)
      have mc3 : w.cell? ⟨mb, mo + K * 4 + 3, none⟩ = some (.slice mA3 (m.2.2.2).length mq3) := (mhc 3 _ rfl)
      have mlt : mb < w.heap.size := World.block_lt_of_cell? _ _ mc0
      clear mhc mx
      obtain rfl : m = m0 := by rw [mx?] at hm?; injection hm?
      clear hm? mx?
      have t1 : ¬ (S : Int) < 0 := by omega
      have t2 : ¬ (m.1.length : Int) ≤ (S : Int) := by omega
      obtain ⟨s, hs⟩ : ∃ s : Int, (S : Int) = s := ⟨_, rfl⟩
      rw [hs] at t1 t2 ⊢
      clear hs hS
      go_enter Tryz.func118, Tryz.ntmps118
      go_wp2_with fail
      refine (specCounts_at d K _ _ (good_Design.below HD.out hT (by (repeat' (first | assumption | exact Below.refl _ _ | refine bDrewN ?_ _ | refine Below.drew ?_ | refine bAlloc ?_ (Nat.le_refl _) _ | refine bSet ?_ (by first | exact Nat.le_refl _ | omega | (simp <;> omega)) _)))) (Nat.le_trans hT (by simp <;> omega)) HR.out).mono ?_
      rintro e w1 ⟨rfl, hb⟩
      have g := box1 hb
      have b0 : w1.cell? ⟨w.heap.size, 0, none⟩ = some (.slice (some ⟨mb, mo, none⟩) d.length dq) := box_cell g.1 0 _ rfl
      have HW1 := Lib.hid g.2
      clear hb g
      replace mc0 := keep HW1.out mc0
      replace mc1 := keep HW1.out mc1
      replace mc2 := keep HW1.out mc2
      replace mc3 := keep HW1.out mc3
      have mlt1 : mb < w1.heap.size := World.block_lt_of_cell? _ _ mc0
      clear mlt
      go_wp2
      obtain ⟨W, hW⟩ : ∃ W, W = w1.alloc (.cells #[.slice mA0 (m.1).length mq0, .slice mA1 (m.2.1).length mq1, .slice mA2 (m.2.2.1).length mq2, .slice mA3 (m.2.2.2).length mq3] 31) := ⟨_, rfl⟩
      rw [← hW]
      have g := eqbox1 hW
      replace b0 := keep g.2 b0
      have b1 : W.cell? ⟨w1.heap.size, 1, none⟩ = some (.slice mA1 (m.2.1).length mq1) := box_cell g.1 1 _ rfl
      have b2 : W.cell? ⟨w1.heap.size, 2, none⟩ = some (.slice mA2 (m.2.2.1).length mq2) := box_cell g.1 2 _ rfl
      have b3 : W.cell? ⟨w1.heap.size, 3, none⟩ = some (.slice mA3 (m.2.2.2).length mq3) := box_cell g.1 3 _ rfl
      have HW := Lib.hid (bThen HW1.out g.2)
      clear hW g mc0 mc1 mc2 mc3 mlt1 HW1 t1 t2
      go_loopw [8, 9] (fun v q wr => ∃ i : Nat, i ≤ m.2.1.length ∧ q = .int .i64 i ∧ v = .int .i64 ((cntB (tgB s) (m.2.1.take i) : Nat) : Int) ∧ Below W.heap.size W wr) (fun _ q _ => m.2.1.length - (intOf q).toNat)
      case atStart => exact ⟨0, Nat.zero_le _, rfl, by simp [cntB], Below.refl _ _⟩
      case round =>
        obtain ⟨i, hi, rfl, rfl, hb⟩ := hrel
        obtain ⟨W1, rfl⟩ : ∃ W1, W1 = wr := ⟨_, rfl⟩
        replace b0 := keep hb b0
        replace b1 := keep hb b1
        replace b2 := keep hb b2
        replace b3 := keep hb b3
        have HW1 := Lib.hid (bThen HW.out hb)
        have HB := Lib.hid hb
        have hcl := cntB_take_le (tgB s) m.2.1 i
        clear hb
        by_cases hlt : i < m.2.1.length
        · obtain ⟨ab, ao, ae, _, _, aus, _, ahc, ahr⟩ := mE1.out i hlt
          obtain ⟨a, ax⟩ : ∃ a, m.2.1[i]'hlt = a := ⟨_, rfl⟩
          have ax? : m.2.1[i]? = some a := by rw [List.getElem?_eq_getElem hlt, ax]
          rw [ax] at ahr
          subst ae
          obtain ⟨au0, au1, rfl, ah0, ah1⟩ := ahr
          obtain ⟨af0, -⟩ := ah0
          injection af0 with af0
          subst af0
          obtain ⟨aA1, aq1, af1, am1, ak1⟩ := ah1
          injection af1 with af1
          subst af1
          unfold maxLen at am1
          have aE1 := Lib.hid ak1
          clear ak1
          have ac0 : W1.cell? ⟨ab, ao + i * 2, none⟩ = some (.int .i64 a.1) := keep HW1.out (ahc 0 _ rfl)
          have ac1 : W1.cell? ⟨ab, ao + i * 2 + 1, none⟩ = some (.slice aA1 (a.2).length aq1) := keep HW1.out (ahc 1 _ rfl)
          have alt : ab < W1.heap.size := World.block_lt_of_cell? _ _ ac0
          clear ahc ax
          have HY := Lib.hid (show (tgB s a = true → cntB (tgB s) (m.2.1.take (i + 1)) = cntB (tgB s) (m.2.1.take i) + 1) ∧ (tgB s a = false → cntB (tgB s) (m.2.1.take (i + 1)) = cntB (tgB s) (m.2.1.take i)) from ⟨cntB_yes _ _ _ _ ax?, cntB_no _ _ _ _ ax?⟩)
          have HT := Lib.hid (show tgB s a = decide (a.1 = s) from rfl)
          clear ax?
          obtain ⟨t, ht⟩ : ∃ t, a.1 = t := ⟨_, rfl⟩
          rw [ht] at ac0 HT
          clear ht
          obtain ⟨cc, hcc⟩ : ∃ cc, cntB (tgB s) (m.2.1.take i) = cc := ⟨_, rfl⟩
          rw [hcc] at HY hcl ⊢
          clear hcc
          by_cases hs : t = s
          · have hyes := HY.out.1 (by rw [HT.out]; simpa using hs)
            have HZ := Lib.hid hyes
            clear hyes
            subst hs
            go_wp2
            go_roundw
            case rel => exact ⟨i + 1, by omega, by go_num, by rw [HZ.out]; go_num, HB.out⟩
            case measure => simp [intOf]; omega
          · have hno := HY.out.2 (by rw [HT.out]; simpa using hs)
            have HZ := Lib.hid hno
            have hs' : (t == s) = false := by simpa using hs
            clear hno
            go_wp2
            go_roundw
            case rel => exact ⟨i + 1, by omega, by go_num, by rw [HZ.out], HB.out⟩
            case measure => simp [intOf]; omega
        · obtain rfl : i = m.2.1.length := by omega
          rw [List.take_length] at hcl ⊢
          clear HB
          obtain ⟨N1, hN1⟩ : ∃ N1, cntB (tgB s) m.2.1 = N1 := ⟨_, rfl⟩
          have HN1 := Lib.hid hN1
          rw [hN1] at hcl ⊢
          clear hN1
          go_wp2
          go_loopw [8, 10] (fun v q wr => ∃ i : Nat, i ≤ m.2.2.2.length ∧ q = .int .i64 i ∧ v = .int .i64 ((N1 + cntB (outB s) (m.2.2.2.take i) : Nat) : Int) ∧ Below W1.heap.size W1 wr) (fun _ q _ => m.2.2.2.length - (intOf q).toNat)
          case atStart => exact ⟨0, Nat.zero_le _, rfl, by simp [cntB], Below.refl _ _⟩
          case round =>
            obtain ⟨i, hi, rfl, rfl, hb⟩ := hrel
            obtain ⟨W2, rfl⟩ : ∃ W2, W2 = wr := ⟨_, rfl⟩
            replace b0 := keep hb b0
            replace b2 := keep hb b2
            replace b3 := keep hb b3
            have HW2 := Lib.hid (bThen HW1.out hb)
            have HB := Lib.hid hb
            have hcl := cntB_take_le (outB s) m.2.2.2 i
            clear hb
            by_cases hlt : i < m.2.2.2.length
            · obtain ⟨ab, ao, ae, _, _, aus, _, ahc, ahr⟩ := mE3.out i hlt
              obtain ⟨a, ax⟩ : ∃ a, m.2.2.2[i]'hlt = a := ⟨_, rfl⟩
              have ax? : m.2.2.2[i]? = some a := by rw [List.getElem?_eq_getElem hlt, ax]
              rw [ax] at ahr
              subst ae
              obtain ⟨au0, au1, au2, au3, rfl, ah0, ah1, ah2, ah3⟩ := ahr
              obtain ⟨af0, -⟩ := ah0
              injection af0 with af0
              subst af0
              obtain ⟨af1, -⟩ := ah1
              injection af1 with af1
              subst af1
              obtain ⟨af2, -⟩ := ah2
              injection af2 with af2
              subst af2
              obtain ⟨af3, -⟩ := ah3
              injection af3 with af3
              subst af3
              have ac0 : W2.cell? ⟨ab, ao + i * 4, none⟩ = some (.int .i64 a.1) := keep HW2.out (ahc 0 _ rfl)
              have ac1 : W2.cell? ⟨ab, ao + i * 4 + 1, none⟩ = some (.int .i64 a.2.1) := keep HW2.out (ahc 1 _ rfl)
              have ac2 : W2.cell? ⟨ab, ao + i * 4 + 2, none⟩ = some (.int .i64 a.2.2.1) := keep HW2.out (ahc 2 _ rfl)
              have ac3 : W2.cell? ⟨ab, ao + i * 4 + 3, none⟩ = some (.int .i64 a.2.2.2) := keep HW2.out (ahc 3 _ rfl)
              have alt : ab < W2.heap.size := World.block_lt_of_cell? _ _ ac0
              clear ahc ax
              have HY := Lib.hid (show (outB s a = true → cntB (outB s) (m.2.2.2.take (i + 1)) = cntB (outB s) (m.2.2.2.take i) + 1) ∧ (outB s a = false → cntB (outB s) (m.2.2.2.take (i + 1)) = cntB (outB s) (m.2.2.2.take i)) from ⟨cntB_yes _ _ _ _ ax?, cntB_no _ _ _ _ ax?⟩)
              have HT := Lib.hid (show outB s a = decide (a.2.2.2 = s) from rfl)
              clear ax?
              obtain ⟨t, ht⟩ : ∃ t, a.2.2.2 = t := ⟨_, rfl⟩
              rw [ht] at ac3 HT
              clear ht
              obtain ⟨cc, hcc⟩ : ∃ cc, cntB (outB s) (m.2.2.2.take i) = cc := ⟨_, rfl⟩
              rw [hcc] at HY hcl ⊢
              clear hcc
              by_cases hs : t = s
              · have hyes := HY.out.1 (by rw [HT.out]; simpa using hs)
                have HZ := Lib.hid hyes
                clear hyes
                subst hs
                go_wp2
                go_roundw
                case rel => exact ⟨i + 1, by omega, by go_num, by rw [HZ.out]; go_num, HB.out⟩
                case measure => simp [intOf]; omega
              · have hno := HY.out.2 (by rw [HT.out]; simpa using hs)
                have HZ := Lib.hid hno
                have hs' : (t == s) = false := by simpa using hs
                clear hno
                go_wp2
                go_roundw
                case rel => exact ⟨i + 1, by omega, by go_num, by rw [HZ.out], HB.out⟩
                case measure => simp [intOf]; omega
            · obtain rfl : i = m.2.2.2.length := by omega
              rw [List.take_length] at hcl ⊢
              clear HB
              obtain ⟨N2, hN2⟩ : ∃ N2, N1 + cntB (outB s) m.2.2.2 = N2 := ⟨_, rfl⟩
              have HN2 := Lib.hid hN2
              have hN2b : N2 ≤ 60 := by have := cntB_le (outB s) m.2.2.2; omega
              rw [hN2]
              clear hN2
              go_wp2
              go_loopw [8, 11] (fun v q wr => ∃ i : Nat, i ≤ m.2.2.1.length ∧ q = .int .i64 i ∧ v = .int .i64 ((N2 + sumHits d s (m.2.2.1.take i) : Nat) : Int) ∧ Below W2.heap.size W2 wr) (fun _ q _ => m.2.2.1.length - (intOf q).toNat)
              case atStart => exact ⟨0, Nat.zero_le _, rfl, by simp [sumHits], Below.refl _ _⟩
              case round =>
                obtain ⟨i, hi, rfl, rfl, hb⟩ := hrel
                obtain ⟨W3, rfl⟩ : ∃ W3, W3 = wr := ⟨_, rfl⟩
                replace b0 := keep hb b0
                replace b2 := keep hb b2
                have b0lt : w.heap.size < W3.heap.size := World.block_lt_of_cell? _ _ b0
                have b2lt : w1.heap.size < W3.heap.size := World.block_lt_of_cell? _ _ b2
                have HW3 := Lib.hid (bThen HW2.out hb)
                have HB3 := Lib.hid hb
                have hcl := sumHits_take_le d s m.2.2.1 i
                clear hb b3
                by_cases hlt : i < m.2.2.1.length
                · obtain ⟨nb, no, ne, _, _, nus, _, nhc, nhr⟩ := mE2.out i hlt
                  obtain ⟨n, nx⟩ : ∃ n, m.2.2.1[i]'hlt = n := ⟨_, rfl⟩
                  have nx? : m.2.2.1[i]? = some n := by rw [List.getElem?_eq_getElem hlt, nx]
                  rw [nx] at nhr
                  subst ne
                  obtain ⟨nu0, nu1, nu2, rfl, nh0, nh1, nh2⟩ := nhr
                  obtain ⟨nf0, -⟩ := nh0
                  injection nf0 with nf0
                  subst nf0
                  obtain ⟨nf1, -⟩ := nh1
                  injection nf1 with nf1
                  subst nf1
                  obtain ⟨nA2, nq2, nf2, nm2, nk2⟩ := nh2
                  injection nf2 with nf2
                  subst nf2
                  unfold maxLen at nm2
                  have nE2 := Lib.hid nk2
                  clear nk2
                  have nc0 : W3.cell? ⟨nb, no + i * 3, none⟩ = some (.int .i64 n.1) := keep HW3.out (nhc 0 _ rfl)
                  have nc1 : W3.cell? ⟨nb, no + i * 3 + 1, none⟩ = some (.int .i64 n.2.1) := keep HW3.out (nhc 1 _ rfl)
                  have nc2 : W3.cell? ⟨nb, no + i * 3 + 2, none⟩ = some (.slice nA2 (n.2.2).length nq2) := keep HW3.out (nhc 2 _ rfl)
                  have nlt : nb < W3.heap.size := World.block_lt_of_cell? _ _ nc0
                  clear nhc nx
                  obtain ⟨N, c0, hN, hNK, hc, hl⟩ := HI.out i n nx?
                  have hst := sumHits_step d s m.2.2.1 i n nx?
                  have hNl : N < d.length := (List.getElem?_eq_some_iff.1 hc).1
                  have hih : instHits d s n = cntB (isS s) (drivenL c0 n.2.2) := by unfold instHits; rw [hN, Int.toNat_natCast, hc]
                  rw [hih] at hst
                  obtain ⟨cb, co, ce, _, _, cus, _, chc, chr⟩ := DE.out N hNl
                  obtain ⟨c, cx⟩ : ∃ c, d[N]'hNl = c := ⟨_, rfl⟩
                  have cx? : d[N]? = some c := by rw [List.getElem?_eq_getElem hNl, cx]
                  rw [cx] at chr
                  injection ce with ce
                  injection ce with ce1 ce2
                  subst ce1 ce2
                  have CR := Lib.hid chr
                  obtain ⟨cu0, cu1, cu2, cu3, rfl, ch0, ch1, ch2, ch3⟩ := chr
                  obtain ⟨cA0, cq0, cf0, cm0, ck0⟩ := ch0
                  injection cf0 with cf0
                  subst cf0
                  unfold maxLen at cm0
                  have cE0 := Lib.hid ck0
                  clear ck0
                  obtain ⟨cA1, cq1, cf1, cm1, ck1⟩ := ch1
                  injection cf1 with cf1
                  subst cf1
                  unfold maxLen at cm1
                  have cE1 := Lib.hid ck1
                  clear ck1
                  obtain ⟨cA2, cq2, cf2, cm2, ck2⟩ := ch2
                  injection cf2 with cf2
                  subst cf2
                  unfold maxLen at cm2
                  have cE2 := Lib.hid ck2
                  clear ck2
                  obtain ⟨cA3, cq3, cf3, cm3, ck3⟩ := ch3
                  injection cf3 with cf3
                  subst cf3
                  unfold maxLen at cm3
                  have cE3 := Lib.hid ck3
                  clear ck3
                  have cc0 : W3.cell? ⟨mb, mo + N * 4, none⟩ = some (.slice cA0 (c.1).length cq0) := keep HW3.out (chc 0 _ rfl)
                  have cc1 : W3.cell? ⟨mb, mo + N * 4 + 1, none⟩ = some (.slice cA1 (c.2.1).length cq1) := keep HW3.out (chc 1 _ rfl)
                  have cc2 : W3.cell? ⟨mb, mo + N * 4 + 2, none⟩ = some (.slice cA2 (c.2.2.1).length cq2) := keep HW3.out (chc 2 _ rfl)
                  have cc3 : W3.cell? ⟨mb, mo + N * 4 + 3, none⟩ = some (.slice cA3 (c.2.2.2).length cq3) := keep HW3.out (chc 3 _ rfl)
                  have clt : mb < W3.heap.size := World.block_lt_of_cell? _ _ cc0
                  clear chc cx
                  obtain rfl : c = c0 := by rw [cx?] at hc; injection hc
                  rw [hN] at nc0
                  have HH := Lib.hid (And.intro hN (And.intro hc hl))
                  obtain ⟨tot, htot⟩ : ∃ tot, N2 + sumHits d s (m.2.2.1.take i) = tot := ⟨_, rfl⟩
                  have htb : tot ≤ 200 := by rw [← htot]; omega
                  have hst' : N2 + sumHits d s (m.2.2.1.take (i + 1)) = tot + cntB (isS s) (drivenL c n.2.2) := by rw [hst, ← htot]; omega
                  have HY3 := Lib.hid hst'
                  have hpl := portsL_len c
                  obtain ⟨Q, hQ⟩ : ∃ Q, (portsL c).length = Q := ⟨_, rfl⟩
                  have HQ := Lib.hid hQ
                  have hQ30 : Q ≤ 30 := by omega
                  rw [htot]
                  have nin : (N : Int) < (d.length : Int) := by omega
                  clear hst hst' hih hN hc hl htot nx? hcl cx? hQ hpl
                  go_wp2
                  go_cut [12] from 80 to 89 (fun v wx => v = .pointer (some ⟨W3.heap.size, 0, none⟩) ∧ wx = (W3.alloc (.cells #[.slice cA0 (c.1).length cq0, .slice cA1 (c.2.1).length cq1, .slice cA2 (c.2.2.1).length cq2, .slice cA3 (c.2.2.2).length cq3] 31)).drew)
                  case first =>
                    go_region_law (fail)
                    all_goals (go_wp2_with fail; go_meet; exact ⟨rfl, rfl⟩)
                  case rest =>
                  obtain ⟨rfl, rfl⟩ := hcut
                  obtain ⟨V, hV⟩ : ∃ V, V = (W3.alloc (.cells #[.slice cA0 (c.1).length cq0, .slice cA1 (c.2.1).length cq1, .slice cA2 (c.2.2.1).length cq2, .slice cA3 (c.2.2.2).length cq3] 31)).drew := ⟨_, rfl⟩
                  rw [← hV]
                  have hbV : Below W3.heap.size W3 V := by rw [hV]; exact (bAlloc (Below.refl _ _) (Nat.le_refl _) _).drew
                  have d0 : V.cell? ⟨W3.heap.size, 0, none⟩ = some (.slice cA0 (c.1).length cq0) := by rw [hV]; exact box_cell (heap_alloc_new W3 _) 0 _ rfl
                  have d1 : V.cell? ⟨W3.heap.size, 1, none⟩ = some (.slice cA1 (c.2.1).length cq1) := by rw [hV]; exact box_cell (heap_alloc_new W3 _) 1 _ rfl
                  have d2 : V.cell? ⟨W3.heap.size, 2, none⟩ = some (.slice cA2 (c.2.2.1).length cq2) := by rw [hV]; exact box_cell (heap_alloc_new W3 _) 2 _ rfl
                  have d3 : V.cell? ⟨W3.heap.size, 3, none⟩ = some (.slice cA3 (c.2.2.2).length cq3) := by rw [hV]; exact box_cell (heap_alloc_new W3 _) 3 _ rfl
                  have HV := Lib.hid hbV
                  have HWV := Lib.hid (bThen HW3.out hbV)
                  clear hV hbV
                  go_wp2_with fail
                  refine (specPorts_any c [.slice cA0 (c.1).length cq0, .slice cA1 (c.2.1).length cq1, .slice cA2 (c.2.2.1).length cq2, .slice cA3 (c.2.2.2).length cq3] _ (good_Module.below CR.out hT HWV.out) (Nat.le_trans hT HWV.out.size)).mono ?_
                  rintro e w7 ⟨v, rfl, ho, hb7⟩
                  obtain ⟨oA, oc, rfl, hoA⟩ := ho.shape
                  rw [HQ.out]
                  have HPA := Lib.hid hoA
                  have H7 := Lib.hid hb7
                  have HW7 := Lib.hid (bThen HWV.out hb7)
                  replace d0 := keep hb7 d0
                  replace b2 := keep hb7 (keep HV.out b2)
                  replace b0 := keep hb7 (keep HV.out b0)
                  replace nc2 := keep hb7 (keep HV.out nc2)
                  clear ho hoA hb7 d1 d2 d3 cc0 cc1 cc2 cc3 clt
                  go_wp2
                  go_loopw [8, 14] (fun v q ws => ∃ j : Nat, j ≤ Q ∧ q = .int .i64 j ∧ v = .int .i64 ((tot + cntB (isS s) (drivenK c n.2.2 j) : Nat) : Int) ∧ Below w7.heap.size w7 ws) (fun _ q _ => Q - (intOf q).toNat)
                  case atStart => exact ⟨0, Nat.zero_le _, rfl, by simp [cntB, drivenK], Below.refl _ _⟩
                  case round =>
                    obtain ⟨j, hj, rfl, rfl, hb⟩ := hrel
                    obtain ⟨W5, rfl⟩ : ∃ W5, W5 = wr := ⟨_, rfl⟩
                    have HB := Lib.hid hb
                    have HW5 := Lib.hid (bThen HW7.out hb)
                    have hcl : cntB (isS s) (drivenK c n.2.2 j) ≤ j := Nat.le_trans (cntB_le _ _) (drivenK_len _ _ _)
                    by_cases hlj : j < Q
                    · have hkp : j < (portsL c).length := by rw [HQ.out]; exact hlj
                      have hkn : j < n.2.2.length := by rw [HH.out.2.2]; exact hkp
                      obtain ⟨g, rfl, hg, _⟩ := HPA.out j hkp
                      have hp? : (portsL c)[j]? = some ((portsL c)[j]'hkp) := List.getElem?_eq_getElem hkp
                      obtain ⟨y, hy, s0, hs0, _⟩ := portsL_at c j _ hp?
                      have hgd : (portsL c).getD j 0 = (y : Int) := by rw [List.getD_eq_getElem?_getD, hp?]; exact hy
                      rw [hgd] at hg
                      rw [hy] at hp?
                      have hout := outAt_eq c j y s0 hp? hs0
                      have hjl : y < c.1.length := (List.getElem?_eq_some_iff.1 hs0).1
                      have x0 : W5.cell? ⟨g, j, none⟩ = some (.int .i64 y) := keep hb hg
                      have e1 := keep hb d0
                      have e2 := keep hb b2
                      have e3 := keep hb nc2
                      obtain ⟨zb, zo, ze, _, _, zus, _, zhc, zhr⟩ := cE0.out y hjl
                      obtain ⟨z, zx⟩ : ∃ z, c.1[y]'hjl = z := ⟨_, rfl⟩
                      have zx? : c.1[y]? = some z := by rw [List.getElem?_eq_getElem hjl, zx]
                      rw [zx] at zhr
                      subst ze
                      obtain ⟨zu0, zu1, zu2, rfl, zh0, zh1, zh2⟩ := zhr
                      obtain ⟨zf0, -⟩ := zh0
                      injection zf0 with zf0
                      subst zf0
                      obtain ⟨zf1, -⟩ := zh1
                      injection zf1 with zf1
                      subst zf1
                      obtain ⟨zf2, -⟩ := zh2
                      injection zf2 with zf2
                      subst zf2
                      have zc0 : W5.cell? ⟨zb, zo + y * 3, none⟩ = some (.int .i64 z.1) := keep HW5.out (zhc 0 _ rfl)
                      have zc1 : W5.cell? ⟨zb, zo + y * 3 + 1, none⟩ = some (.int .i64 z.2.1) := keep HW5.out (zhc 1 _ rfl)
                      have zc2 : W5.cell? ⟨zb, zo + y * 3 + 2, none⟩ = some (.int .i64 z.2.2) := keep HW5.out (zhc 2 _ rfl)
                      have zlt : zb < W5.heap.size := World.block_lt_of_cell? _ _ zc0
                      clear zhc zx
                      obtain rfl : z = s0 := by rw [zx?] at hs0; injection hs0
                      obtain ⟨pb, po, pe, _, _, pus, _, phc, phr⟩ := nE2.out j hkn
                      subst pe
                      obtain ⟨p0, _⟩ := phr
                      subst p0
                      have y0 : W5.cell? ⟨pb, po + j, none⟩ = some (.int .i64 (n.2.2[j]'hkn)) := by
                        have h := keep HW5.out (phc 0 _ rfl)
                        rwa [Nat.mul_one, Nat.add_zero] at h
                      have hgn : n.2.2.getD j 0 = n.2.2[j]'hkn := by rw [List.getD_eq_getElem?_getD, List.getElem?_eq_getElem hkn]; rfl
                      obtain ⟨x, hx⟩ : ∃ x, n.2.2[j]'hkn = x := ⟨_, rfl⟩
                      rw [hx] at y0 hgn
                      have HS := Lib.hid (And.intro hout hgn)
                      clear hb b2 d0 hg hp? hy hs0 hout hx hgn phc hgd zx? nc0 nc1 nc2 b0 b0lt b2lt nlt zlt
                      obtain ⟨kd, hkd⟩ : ∃ kd, z.1 = kd := ⟨_, rfl⟩
                      rw [hkd] at zc0
                      obtain ⟨cc, hcc⟩ : ∃ cc, cntB (isS s) (drivenK c n.2.2 j) = cc := ⟨_, rfl⟩
                      rw [hcc] at hcl ⊢
                      have HCC := Lib.hid hcc
                      clear hcc
                      by_cases h1 : kd = 1
                      · have hyes : outAt c j = true := by rw [HS.out.1]; unfold isOut; rw [hkd]; simpa using h1
                        have hY : cntB (isS s) (drivenK c n.2.2 (j + 1)) = cc + if x = s then 1 else 0 := by
                          rw [drivenK_yes c n.2.2 j hyes, HS.out.2]
                          unfold cntB at HCC ⊢
                          rw [List.filter_append, List.length_append, HCC.out]
                          by_cases hxs : x = s
                          · simp [isS, hxs]
                          · simp [isS, hxs]
                        clear hyes hkd
                        subst h1
                        by_cases hs : x = s
                        · rw [if_pos hs] at hY
                          have HY := Lib.hid hY
                          clear hY
                          subst hs
                          go_wp2
                          go_quiet (fail)
                          go_wp2
                          go_roundw
                          case rel => exact ⟨j + 1, by omega, by go_num, by rw [HY.out]; go_num, by have hB := HB.out; (repeat' (first | assumption | exact Below.refl _ _ | refine bDrewN ?_ _ | refine Below.drew ?_ | refine bAlloc ?_ (Nat.le_refl _) _ | refine bSet ?_ (by first | exact Nat.le_refl _ | omega | (simp <;> omega)) _))⟩
                          case measure => simp [intOf]; omega
                        · rw [if_neg hs] at hY
                          have HY := Lib.hid hY
                          have hs' : (x == s) = false := by simpa using hs
                          clear hY
                          go_wp2
                          go_quiet (fail)
                          go_wp2
                          go_roundw
                          case rel => exact ⟨j + 1, by omega, by go_num, by rw [HY.out] <;> first | rfl | go_num, by have hB := HB.out; (repeat' (first | assumption | exact Below.refl _ _ | refine bDrewN ?_ _ | refine Below.drew ?_ | refine bAlloc ?_ (Nat.le_refl _) _ | refine bSet ?_ (by first | exact Nat.le_refl _ | omega | (simp <;> omega)) _))⟩
                          case measure => simp [intOf]; omega
                      · have hno : outAt c j = false := by rw [HS.out.1]; unfold isOut; rw [hkd]; simpa using h1
                        have HY := Lib.hid (show cntB (isS s) (drivenK c n.2.2 (j + 1)) = cc by rw [drivenK_no c n.2.2 j hno, HCC.out])
                        have h1' : (kd == 1) = false := by simpa using h1
                        have h2' : decide (kd = 1) = false := by simpa using h1
                        clear hno hkd
                        go_wp2
                        go_quiet (fail)
                        go_wp2
                        go_roundw
                        case rel => exact ⟨j + 1, by omega, by go_num, by rw [HY.out] <;> go_num, by have hB := HB.out; (repeat' (first | assumption | exact Below.refl _ _ | refine bDrewN ?_ _ | refine Below.drew ?_ | refine bAlloc ?_ (Nat.le_refl _) _ | refine bSet ?_ (by first | exact Nat.le_refl _ | omega | (simp <;> omega)) _))⟩
                        case measure => simp [intOf]; omega
                    · obtain rfl : j = Q := by omega
                      clear hb
                      have HZ := Lib.hid (show N2 + sumHits d s (m.2.2.1.take (i + 1)) = tot + cntB (isS s) (drivenK c n.2.2 j) by rw [HY3.out]; unfold drivenL; rw [HQ.out])
                      go_wp2
                      go_roundw
                      case rel => exact ⟨i + 1, by omega, by go_num, by rw [HZ.out] <;> go_num, bThen HB3.out (bThen HV.out (bThen H7.out HB.out))⟩
                      case measure => simp [intOf]; omega
                · obtain rfl : i = m.2.2.1.length := by omega
                  rw [List.take_length]
                  have HF := Lib.hid (show (driversN d m s : Nat) = N2 + sumHits d s m.2.2.1 by unfold driversN; rw [HN1.out, HN2.out])
                  clear hcl
                  go_wp2
                  go_ret
                  exact ⟨ret_i64 (by rw [HF.out]), HW3.out⟩
    · rw [driversI_out hm? hs]
      obtain ⟨mb, mo, me, _, _, mus, _, mhc, mhr⟩ := DE.out K hKl
      obtain ⟨m, mx⟩ : ∃ m, d[K]'hKl = m := ⟨_, rfl⟩
      have mx? : d[K]? = some m := by rw [List.getElem?_eq_getElem hKl, mx]
      rw [mx] at mhr
      subst me
      obtain ⟨mu0, mu1, mu2, mu3, rfl, mh0, mh1, mh2, mh3⟩ := mhr
      obtain ⟨mA0, mq0, mf0, mm0, mk0⟩ := mh0
      injection mf0 with mf0
      subst mf0
      unfold maxLen at mm0
      have mE0 := Lib.hid mk0
      clear mk0
      obtain ⟨mA1, mq1, mf1, mm1, mk1⟩ := mh1
      injection mf1 with mf1
      subst mf1
      unfold maxLen at mm1
      have mE1 := Lib.hid mk1
      clear mk1
      obtain ⟨mA2, mq2, mf2, mm2, mk2⟩ := mh2
      injection mf2 with mf2
      subst mf2
      unfold maxLen at mm2
      have mE2 := Lib.hid mk2
      clear mk2
      obtain ⟨mA3, mq3, mf3, mm3, mk3⟩ := mh3
      injection mf3 with mf3
      subst mf3
      unfold maxLen at mm3
      have mE3 := Lib.hid mk3
      clear mk3
      have mc0 : w.cell? ⟨mb, mo + K * 4, none⟩ = some (.slice mA0 (m.1).length mq0) := (mhc 0 _ rfl)
      have mc1 : w.cell? ⟨mb, mo + K * 4 + 1, none⟩ = some (.slice mA1 (m.2.1).length mq1) := (mhc 1 _ rfl)
      have mc2 : w.cell? ⟨mb, mo + K * 4 + 2, none⟩ = some (.slice mA2 (m.2.2.1).length mq2) := (mhc 2 _ rfl)
      have mc3 : w.cell? ⟨mb, mo + K * 4 + 3, none⟩ = some (.slice mA3 (m.2.2.2).length mq3) := (mhc 3 _ rfl)
      have mlt : mb < w.heap.size := World.block_lt_of_cell? _ _ mc0
      clear mhc mx
      obtain rfl : m = m0 := by rw [mx?] at hm?; injection hm?
      clear hm? mx? hr hI
      by_cases t1 : s < 0
      · clear hs
        go_enter Tryz.func118, Tryz.ntmps118
        go_wp2_with fail
        refine (specCounts_at d K _ _ (good_Design.below HD.out hT (by (repeat' (first | assumption | exact Below.refl _ _ | refine bDrewN ?_ _ | refine Below.drew ?_ | refine bAlloc ?_ (Nat.le_refl _) _ | refine bSet ?_ (by first | exact Nat.le_refl _ | omega | (simp <;> omega)) _)))) (Nat.le_trans hT (by simp <;> omega)) HR.out).mono ?_
        rintro e w1 ⟨rfl, hb⟩
        have g := box1 hb
        have b0 : w1.cell? ⟨w.heap.size, 0, none⟩ = some (.slice (some ⟨mb, mo, none⟩) d.length dq) := box_cell g.1 0 _ rfl
        have HW1 := Lib.hid g.2
        clear hb g
        go_wp2
        go_ret
        exact ⟨rfl, HW1.out⟩
      · obtain ⟨S, rfl⟩ := Int.eq_ofNat_of_zero_le (by omega : 0 ≤ s)
        have t2 : (m.1.length : Int) ≤ (S : Int) := by omega
        clear hs
        go_enter Tryz.func118, Tryz.ntmps118
        go_wp2_with fail
        refine (specCounts_at d K _ _ (good_Design.below HD.out hT (by (repeat' (first | assumption | exact Below.refl _ _ | refine bDrewN ?_ _ | refine Below.drew ?_ | refine bAlloc ?_ (Nat.le_refl _) _ | refine bSet ?_ (by first | exact Nat.le_refl _ | omega | (simp <;> omega)) _)))) (Nat.le_trans hT (by simp <;> omega)) HR.out).mono ?_
        rintro e w1 ⟨rfl, hb⟩
        have g := box1 hb
        have b0 : w1.cell? ⟨w.heap.size, 0, none⟩ = some (.slice (some ⟨mb, mo, none⟩) d.length dq) := box_cell g.1 0 _ rfl
        have HW1 := Lib.hid g.2
        clear hb g
        replace mc0 := keep HW1.out mc0
        replace mc1 := keep HW1.out mc1
        replace mc2 := keep HW1.out mc2
        replace mc3 := keep HW1.out mc3
        go_wp2
        go_ret
        exact ⟨rfl, HW1.out⟩
theorem specDrivers_at (d : DDesign) (k s : Int) (us : List Value) {B T : Nat} {r : Int} (w : World) (hd : rdDesign B T w us d) (hT : T ≤ w.heap.size) (hr : driversI d k s = r) :
    Calls Tryz.prog 118 #[.agg us.toArray, .int .i64 k, .int .i64 s] w fun e w' => e = .returned (.int .i64 r) ∧ Below w.heap.size w w' := by subst hr; exact specDrivers_any d k s us w hd hT
end Go.Proofs.YtmjofpfkgbnknaaGreat
