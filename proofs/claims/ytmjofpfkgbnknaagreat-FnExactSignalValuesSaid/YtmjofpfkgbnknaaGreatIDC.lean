/-
  How often a signal is driven, as the program counts.
-/
import Derived.Test.YtmjofpfkgbnknaaGreatIDrv
namespace Go.Proofs.YtmjofpfkgbnknaaGreat
open Go.RowKit
set_option linter.unusedVariables false
set_option linter.unusedSimpArgs false

set_option maxRecDepth 100000 in
set_option maxHeartbeats 12800000 in
theorem implDrivers_any (d : DDesign) (k s : Int) (us : List Value) {B T : Nat} (w : World) (hd : rdDesign B T w us d) (hT : T ≤ w.heap.size) :
    Calls Tryz.prog 148 #[.agg us.toArray, .int .i64 k, .int .i64 s] w fun e w' => e = .returned (.int .i64 (driversI d k s)) ∧ Below w.heap.size w w' := by
  have HD := Lib.hid hd
  obtain ⟨du, rfl, dh⟩ := hd
  obtain ⟨dA, dq, de, dm, dk⟩ := dh
  injection de with de
  subst de
  unfold maxLen at dm
  have DE := Lib.hid dk
  clear dk
  obtain ⟨r, hr⟩ : ∃ r, countsB d k = r := ⟨_, rfl⟩
  have HR := Lib.hid hr
  cases r
  · rw [driversI_no hr]
    clear hr
    go_enter Tryz.func148, Tryz.ntmps148
    go_wp2_with fail
    refine (implInstsFit_at d k _ _ (good_Design.below HD.out hT (by (repeat' (first | assumption | exact Below.refl _ _ | refine bDrewN ?_ _ | refine Below.drew ?_ | refine bAlloc ?_ (Nat.le_refl _) _ | refine bSet ?_ (by first | exact Nat.le_refl _ | omega | (simp <;> omega)) _)))) (Nat.le_trans hT (by simp <;> omega)) HR.out).mono ?_
    rintro e w1 ⟨rfl, hb⟩
    have g := box1 hb
    have b0 : w1.cell? ⟨w.heap.size, 0, none⟩ = some (.slice dA d.length dq) := box_cell g.1 0 _ rfl
    have HW1 := Lib.hid g.2
    clear hb g
    go_wp2
    go_ret
    exact ⟨rfl, HW1.out⟩
  · obtain ⟨K, m0, rfl, hd4, hKl, hm?, q0, q1, q2, q3, hI⟩ := counts_facts hr
    by_cases hs : 0 ≤ s ∧ s < m0.1.length
    · obtain ⟨S, rfl⟩ := Int.eq_ofNat_of_zero_le hs.1
      have hS : S < m0.1.length := by omega
      rw [driversI_yes hm? hr hs]
      have HI := Lib.hid hI
      clear hr hs hI
      obtain ⟨mb, mo, me, _, _, mus, _, mhc, mhr⟩ := DE.out K hKl
      obtain ⟨m, mx⟩ : ∃ m, d[K]'hKl = m := ⟨_, rfl⟩
      have mx? : d[K]? = some m := by rw [List.getElem?_eq_getElem hKl, mx]
      rw [mx] at mhr
      subst me
      obtain ⟨mu0, mu1, mu2, mu3, rfl, mh0, mh1, mh2, mh3⟩ := mhr
      obtain ⟨mA0, mq0, mf0, mm0, mk0⟩ := mh0
      injection mf0 with mf0
      subst mf0
      unfold maxLen at mm0
      have mE0 := Lib.hid mk0
      clear mk0
      obtain ⟨mA1, mq1, mf1, mm1, mk1⟩ := mh1
      injection mf1 with mf1
      subst mf1
      unfold maxLen at mm1
      have mE1 := Lib.hid mk1
      clear mk1
      obtain ⟨mA2, mq2, mf2, mm2, mk2⟩ := mh2
      injection mf2 with mf2
      subst mf2
      unfold maxLen at mm2
      have mE2 := Lib.hid mk2
      clear mk2
      obtain ⟨mA3, mq3, mf3, mm3, mk3⟩ := mh3
      injection mf3 with mf3
      subst mf3
      unfold maxLen at mm3
      have mE3 := Lib.hid mk3
      clear mk3
      have mc0 : w.cell? ⟨mb, mo + K * 4, none⟩ = some (.slice mA0 (m.1).length mq0) := (mhc 0 _ rfl)
      have mc1 : w.cell? ⟨mb, mo + K * 4 + 1, none⟩ = some (.slice mA1 (m.2.1).length mq1) := (mhc 1 _ rfl)
      have mc2 : w.cell? ⟨mb, mo + K * 4 + 2, none⟩ = some (.slice mA2 (m.2.2.1).length mq2) := (mhc 2 _ rfl)
      have mc3 : w.cell? ⟨mb, mo + K * 4 + 3, none⟩ = some (.slice mA3 (m.2.2.2).length mq3) := (mhc 3 _ rfl)
      have mlt : mb < w.heap.size := World.block_lt_of_cell? _ _ mc0
      clear mhc mx
      obtain rfl : m = m0 := by rw [mx?] at hm?; injection hm?
      clear hm? mx?
      have t1 : ¬ (S : Int) < 0 := by omega
      have t2 : ¬ (m.1.length : Int) ≤ (S : Int) := by omega
      obtain ⟨s, hs⟩ : ∃ s : Int, (S : Int) = s := ⟨_, rfl⟩
      rw [hs] at t1 t2 ⊢
      clear hs hS
      go_enter Tryz.func148, Tryz.ntmps148
      go_wp2_with fail
      refine (implInstsFit_at d K _ _ (good_Design.below HD.out hT (by (repeat' (first | assumption | exact Below.refl _ _ | refine bDrewN ?_ _ | refine Below.drew ?_ | refine bAlloc ?_ (Nat.le_refl _) _ | refine bSet ?_ (by first | exact Nat.le_refl _ | omega | (simp <;> omega)) _)))) (Nat.le_trans hT (by simp <;> omega)) HR.out).mono ?_
      rintro e w1 ⟨rfl, hb⟩
      have g := box1 hb
      have b0 : w1.cell? ⟨w.heap.size, 0, none⟩ = some (.slice (some ⟨mb, mo, none⟩) d.length dq) := box_cell g.1 0 _ rfl
      have HW1 := Lib.hid g.2
      clear hb g
      replace mc0 := keep HW1.out mc0
      replace mc1 := keep HW1.out mc1
      replace mc2 := keep HW1.out mc2
      replace mc3 := keep HW1.out mc3
      have mlt1 : mb < w1.heap.size := World.block_lt_of_cell? _ _ mc0
      clear mlt
      go_wp2
      obtain ⟨W, hW⟩ : ∃ W, W = w1.alloc (.cells #[.slice mA0 (m.1).length mq0, .slice mA1 (m.2.1).length mq1, .slice mA2 (m.2.2.1).length mq2, .slice mA3 (m.2.2.2).length mq3] 31) := ⟨_, rfl⟩
      rw [← hW]
      have g := eqbox1 hW
      replace b0 := keep g.2 b0
      have b2 : W.cell? ⟨w1.heap.size, 2, none⟩ = some (.slice mA2 (m.2.2.1).length mq2) := box_cell g.1 2 _ rfl
      have b3 : W.cell? ⟨w1.heap.size, 3, none⟩ = some (.slice mA3 (m.2.2.2).length mq3) := box_cell g.1 3 _ rfl
      have HW := Lib.hid (bThen HW1.out g.2)
      clear hW g mc0 mc1 mc2 mc3 mlt1 HW1 t1 t2
      go_loopw [8, 44] (fun v q wr => ∃ i : Nat, i ≤ m.2.1.length ∧ q = .int .i64 i ∧ v = .int .i64 ((cntB (tgB s) (m.2.1.take i) : Nat) : Int) ∧ Below W.heap.size W wr) (fun _ q _ => m.2.1.length - (intOf q).toNat)
      case atStart => exact ⟨0, Nat.zero_le _, rfl, by simp [cntB], Below.refl _ _⟩
      case round =>
        obtain ⟨i, hi, rfl, rfl, hb⟩ := hrel
        obtain ⟨W1, rfl⟩ : ∃ W1, W1 = wr := ⟨_, rfl⟩
        replace b0 := keep hb b0
        replace b2 := keep hb b2
        replace b3 := keep hb b3
        have HW1 := Lib.hid (bThen HW.out hb)
        have HB := Lib.hid hb
        have hcl := cntB_take_le (tgB s) m.2.1 i
        clear hb
        by_cases hlt : i < m.2.1.length
        · obtain ⟨ab, ao, ae, _, _, aus, _, ahc, ahr⟩ := mE1.out i hlt
          obtain ⟨a, ax⟩ : ∃ a, m.2.1[i]'hlt = a := ⟨_, rfl⟩
          have ax? : m.2.1[i]? = some a := by rw [List.getElem?_eq_getElem hlt, ax]
          rw [ax] at ahr
          subst ae
          obtain ⟨au0, au1, rfl, ah0, ah1⟩ := ahr
          obtain ⟨af0, -⟩ := ah0
          injection af0 with af0
          subst af0
          obtain ⟨aA1, aq1, af1, am1, ak1⟩ := ah1
          injection af1 with af1
          subst af1
          unfold maxLen at am1
          have aE1 := Lib.hid ak1
          clear ak1
          have ac0 : W1.cell? ⟨ab, ao + i * 2, none⟩ = some (.int .i64 a.1) := keep HW1.out (ahc 0 _ rfl)
          have ac1 : W1.cell? ⟨ab, ao + i * 2 + 1, none⟩ = some (.slice aA1 (a.2).length aq1) := keep HW1.out (ahc 1 _ rfl)
          have alt : ab < W1.heap.size := World.block_lt_of_cell? _ _ ac0
          clear ahc ax
          have HY := Lib.hid (show (tgB s a = true → cntB (tgB s) (m.2.1.take (i + 1)) = cntB (tgB s) (m.2.1.take i) + 1) ∧ (tgB s a = false → cntB (tgB s) (m.2.1.take (i + 1)) = cntB (tgB s) (m.2.1.take i)) from ⟨cntB_yes _ _ _ _ ax?, cntB_no _ _ _ _ ax?⟩)
          have HT := Lib.hid (show tgB s a = decide (a.1 = s) from rfl)
          clear ax?
          obtain ⟨t, ht⟩ : ∃ t, a.1 = t := ⟨_, rfl⟩
          rw [ht] at ac0 HT
          clear ht
          obtain ⟨cc, hcc⟩ : ∃ cc, cntB (tgB s) (m.2.1.take i) = cc := ⟨_, rfl⟩
          rw [hcc] at HY hcl ⊢
          clear hcc
          by_cases hs : t = s
          · have hyes := HY.out.1 (by rw [HT.out]; simpa using hs)
            have HZ := Lib.hid hyes
            clear hyes
            subst hs
            go_wp2
            go_roundw
            case rel => exact ⟨i + 1, by omega, by go_num, by rw [HZ.out]; go_num, bThen HB.out (bAlloc (Below.refl _ _) (Nat.le_refl _) _)⟩
            case measure => simp [intOf]; omega
          · have hno := HY.out.2 (by rw [HT.out]; simpa using hs)
            have HZ := Lib.hid hno
            have hs' : (t == s) = false := by simpa using hs
            clear hno
            go_wp2
            go_roundw
            case rel => exact ⟨i + 1, by omega, by go_num, by rw [HZ.out], bThen HB.out (bAlloc (Below.refl _ _) (Nat.le_refl _) _)⟩
            case measure => simp [intOf]; omega
        · obtain rfl : i = m.2.1.length := by omega
          rw [List.take_length] at hcl ⊢
          clear HB
          obtain ⟨N1, hN1⟩ : ∃ N1, cntB (tgB s) m.2.1 = N1 := ⟨_, rfl⟩
          have HN1 := Lib.hid hN1
          rw [hN1] at hcl ⊢
          clear hN1
          go_wp2
          go_loopw [8, 58] (fun v q wr => ∃ i : Nat, i ≤ m.2.2.2.length ∧ q = .int .i64 i ∧ v = .int .i64 ((N1 + cntB (outB s) (m.2.2.2.take i) : Nat) : Int) ∧ Below W1.heap.size W1 wr) (fun _ q _ => m.2.2.2.length - (intOf q).toNat)
          case atStart => exact ⟨0, Nat.zero_le _, rfl, by simp [cntB], Below.refl _ _⟩
          case round =>
            obtain ⟨i, hi, rfl, rfl, hb⟩ := hrel
            obtain ⟨W2, rfl⟩ : ∃ W2, W2 = wr := ⟨_, rfl⟩
            replace b0 := keep hb b0
            replace b2 := keep hb b2
            have HW2 := Lib.hid (bThen HW1.out hb)
            have HB := Lib.hid hb
            have hcl := cntB_take_le (outB s) m.2.2.2 i
            clear hb
            by_cases hlt : i < m.2.2.2.length
            · obtain ⟨ab, ao, ae, _, _, aus, _, ahc, ahr⟩ := mE3.out i hlt
              obtain ⟨a, ax⟩ : ∃ a, m.2.2.2[i]'hlt = a := ⟨_, rfl⟩
              have ax? : m.2.2.2[i]? = some a := by rw [List.getElem?_eq_getElem hlt, ax]
              rw [ax] at ahr
              subst ae
              obtain ⟨au0, au1, au2, au3, rfl, ah0, ah1, ah2, ah3⟩ := ahr
              obtain ⟨af0, -⟩ := ah0
              injection af0 with af0
              subst af0
              obtain ⟨af1, -⟩ := ah1
              injection af1 with af1
              subst af1
              obtain ⟨af2, -⟩ := ah2
              injection af2 with af2
              subst af2
              obtain ⟨af3, -⟩ := ah3
              injection af3 with af3
              subst af3
              have ac0 : W2.cell? ⟨ab, ao + i * 4, none⟩ = some (.int .i64 a.1) := keep HW2.out (ahc 0 _ rfl)
              have ac1 : W2.cell? ⟨ab, ao + i * 4 + 1, none⟩ = some (.int .i64 a.2.1) := keep HW2.out (ahc 1 _ rfl)
              have ac2 : W2.cell? ⟨ab, ao + i * 4 + 2, none⟩ = some (.int .i64 a.2.2.1) := keep HW2.out (ahc 2 _ rfl)
              have ac3 : W2.cell? ⟨ab, ao + i * 4 + 3, none⟩ = some (.int .i64 a.2.2.2) := keep HW2.out (ahc 3 _ rfl)
              have alt : ab < W2.heap.size := World.block_lt_of_cell? _ _ ac0
              clear ahc ax
              have HY := Lib.hid (show (outB s a = true → cntB (outB s) (m.2.2.2.take (i + 1)) = cntB (outB s) (m.2.2.2.take i) + 1) ∧ (outB s a = false → cntB (outB s) (m.2.2.2.take (i + 1)) = cntB (outB s) (m.2.2.2.take i)) from ⟨cntB_yes _ _ _ _ ax?, cntB_no _ _ _ _ ax?⟩)
              have HT := Lib.hid (show outB s a = decide (a.2.2.2 = s) from rfl)
              clear ax?
              obtain ⟨t, ht⟩ : ∃ t, a.2.2.2 = t := ⟨_, rfl⟩
              rw [ht] at ac3 HT
              clear ht
              obtain ⟨cc, hcc⟩ : ∃ cc, cntB (outB s) (m.2.2.2.take i) = cc := ⟨_, rfl⟩
              rw [hcc] at HY hcl ⊢
              clear hcc
              by_cases hs : t = s
              · have hyes := HY.out.1 (by rw [HT.out]; simpa using hs)
                have HZ := Lib.hid hyes
                clear hyes
                subst hs
                go_wp2
                go_roundw
                case rel => exact ⟨i + 1, by omega, by go_num, by rw [HZ.out]; go_num, bThen HB.out (bAlloc (Below.refl _ _) (Nat.le_refl _) _)⟩
                case measure => simp [intOf]; omega
              · have hno := HY.out.2 (by rw [HT.out]; simpa using hs)
                have HZ := Lib.hid hno
                have hs' : (t == s) = false := by simpa using hs
                clear hno
                go_wp2
                go_roundw
                case rel => exact ⟨i + 1, by omega, by go_num, by rw [HZ.out], bThen HB.out (bAlloc (Below.refl _ _) (Nat.le_refl _) _)⟩
                case measure => simp [intOf]; omega
            · obtain rfl : i = m.2.2.2.length := by omega
              rw [List.take_length] at hcl ⊢
              clear HB
              obtain ⟨N2, hN2⟩ : ∃ N2, N1 + cntB (outB s) m.2.2.2 = N2 := ⟨_, rfl⟩
              have HN2 := Lib.hid hN2
              have hN2b : N2 ≤ 60 := by have := cntB_le (outB s) m.2.2.2; omega
              rw [hN2]
              clear hN2
              go_wp2
              go_loopw [8, 72] (fun v q wr => ∃ i : Nat, i ≤ m.2.2.1.length ∧ q = .int .i64 i ∧ v = .int .i64 ((N2 + sumHits d s (m.2.2.1.take i) : Nat) : Int) ∧ Below W2.heap.size W2 wr) (fun _ q _ => m.2.2.1.length - (intOf q).toNat)
              case atStart => exact ⟨0, Nat.zero_le _, rfl, by simp [sumHits], Below.refl _ _⟩
              case round =>
                obtain ⟨i, hi, rfl, rfl, hb⟩ := hrel
                obtain ⟨W3, rfl⟩ : ∃ W3, W3 = wr := ⟨_, rfl⟩
                replace b0 := keep hb b0
                have b0lt : w.heap.size < W3.heap.size := World.block_lt_of_cell? _ _ b0
                have HW3 := Lib.hid (bThen HW2.out hb)
                have HB3 := Lib.hid hb
                have hcl := sumHits_take_le d s m.2.2.1 i
                clear hb
                by_cases hlt : i < m.2.2.1.length
                · obtain ⟨nb, no, ne, _, _, nus, _, nhc, nhr⟩ := mE2.out i hlt
                  obtain ⟨n, nx⟩ : ∃ n, m.2.2.1[i]'hlt = n := ⟨_, rfl⟩
                  have nx? : m.2.2.1[i]? = some n := by rw [List.getElem?_eq_getElem hlt, nx]
                  rw [nx] at nhr
                  subst ne
                  have NR := Lib.hid nhr
                  obtain ⟨nu0, nu1, nu2, rfl, nh0, nh1, nh2⟩ := nhr
                  obtain ⟨nf0, -⟩ := nh0
                  injection nf0 with nf0
                  subst nf0
                  obtain ⟨nf1, -⟩ := nh1
                  injection nf1 with nf1
                  subst nf1
                  obtain ⟨nA2, nq2, nf2, nm2, nk2⟩ := nh2
                  injection nf2 with nf2
                  subst nf2
                  unfold maxLen at nm2
                  have nE2 := Lib.hid nk2
                  clear nk2
                  have nc0 : W3.cell? ⟨nb, no + i * 3, none⟩ = some (.int .i64 n.1) := keep HW3.out (nhc 0 _ rfl)
                  have nc1 : W3.cell? ⟨nb, no + i * 3 + 1, none⟩ = some (.int .i64 n.2.1) := keep HW3.out (nhc 1 _ rfl)
                  have nc2 : W3.cell? ⟨nb, no + i * 3 + 2, none⟩ = some (.slice nA2 (n.2.2).length nq2) := keep HW3.out (nhc 2 _ rfl)
                  have nlt : nb < W3.heap.size := World.block_lt_of_cell? _ _ nc0
                  clear nhc nx
                  obtain ⟨N, c, hN, hNK, hc, hl⟩ := HI.out i n nx?
                  have hst := sumHits_step d s m.2.2.1 i n nx?
                  have hih : instHits d s n = cntB (isS s) (drivenL c n.2.2) := by unfold instHits; rw [hN, Int.toNat_natCast, hc]
                  rw [hih] at hst
                  have hdl := drivenL_len c n.2.2
                  obtain ⟨L, hL⟩ : ∃ L, drivenL c n.2.2 = L := ⟨_, rfl⟩
                  rw [hL] at hst hdl
                  have HH := Lib.hid (And.intro hN (And.intro hc (And.intro hl hL)))
                  obtain ⟨tot, htot⟩ : ∃ tot, N2 + sumHits d s (m.2.2.1.take i) = tot := ⟨_, rfl⟩
                  have htb : tot ≤ 200 := by rw [← htot]; omega
                  have hst' : N2 + sumHits d s (m.2.2.1.take (i + 1)) = tot + cntB (isS s) L := by rw [hst, ← htot]; omega
                  have HY3 := Lib.hid hst'
                  rw [htot]
                  clear hst hst' hih hN hc hl hL htot nx? hcl
                  go_wp2_with fail
                  obtain ⟨V, hV⟩ : ∃ V, V = W3.alloc (.cells #[.int .i64 n.1, .int .i64 n.2.1, .slice nA2 (n.2.2).length nq2] 120) := ⟨_, rfl⟩
                  rw [← hV]
                  have g := eqbox1 hV
                  have HV := Lib.hid g.2
                  clear hV g
                  refine (implDriven_any d n N c [.slice (some ⟨mb, mo, none⟩) d.length dq] [.int .i64 n.1, .int .i64 n.2.1, .slice nA2 (n.2.2).length nq2] _ (good_Design.below HD.out hT (bThen HW3.out HV.out)) (Nat.le_trans hT (bThen HW3.out HV.out).size) (good_Inst.below NR.out hT (bThen HW3.out HV.out)) (Nat.le_trans hT (bThen HW3.out HV.out).size) HH.out.1 HH.out.2.1 HH.out.2.2.1).mono ?_
                  rintro e w7 ⟨v, rfl, ho, hb7⟩
                  rw [HH.out.2.2.2] at ho
                  obtain ⟨oA, oc, rfl, hoA⟩ := ho.shape
                  have HOA := Lib.hid hoA
                  have H7 := Lib.hid hb7
                  clear ho hoA hb7
                  go_wp2
                  go_loopw [8, 80] (fun v q ws => ∃ j : Nat, j ≤ L.length ∧ q = .int .i64 j ∧ v = .int .i64 ((tot + cntB (isS s) (L.take j) : Nat) : Int) ∧ Below w7.heap.size w7 ws) (fun _ q _ => L.length - (intOf q).toNat)
                  case atStart => exact ⟨0, Nat.zero_le _, rfl, by simp [cntB], Below.refl _ _⟩
                  case round =>
                    obtain ⟨j, hj, rfl, rfl, hb⟩ := hrel
                    have HB := Lib.hid hb
                    have hcl := cntB_take_le (isS s) L j
                    by_cases hlj : j < L.length
                    · obtain ⟨g, rfl, hg, _⟩ := HOA.out j hlj
                      have x0 := keep hb hg
                      have hx? : L[j]? = some (L.getD j 0) := by rw [List.getD_eq_getElem?_getD, List.getElem?_eq_getElem hlj]; rfl
                      have HY := Lib.hid (show (isS s (L.getD j 0) = true → cntB (isS s) (L.take (j + 1)) = cntB (isS s) (L.take j) + 1) ∧ (isS s (L.getD j 0) = false → cntB (isS s) (L.take (j + 1)) = cntB (isS s) (L.take j)) from ⟨cntB_yes _ _ _ _ hx?, cntB_no _ _ _ _ hx?⟩)
                      clear hb hg hx?
                      obtain ⟨x, hx⟩ : ∃ x, L.getD j 0 = x := ⟨_, rfl⟩
                      rw [hx] at x0 HY
                      clear hx
                      obtain ⟨cc, hcc⟩ : ∃ cc, cntB (isS s) (L.take j) = cc := ⟨_, rfl⟩
                      rw [hcc] at HY hcl ⊢
                      clear hcc
                      by_cases hs : x = s
                      · have hyes := HY.out.1 (by unfold isS; simpa using hs)
                        have HZ := Lib.hid hyes
                        clear hyes
                        subst hs
                        go_wp2
                        go_roundw
                        case rel => exact ⟨j + 1, by omega, by go_num, by rw [HZ.out]; go_num, HB.out⟩
                        case measure => simp [intOf]; omega
                      · have hno := HY.out.2 (by unfold isS; simpa using hs)
                        have HZ := Lib.hid hno
                        have hs' : (x == s) = false := by simpa using hs
                        clear hno
                        go_wp2
                        go_roundw
                        case rel => exact ⟨j + 1, by omega, by go_num, by rw [HZ.out], HB.out⟩
                        case measure => simp [intOf]; omega
                    · obtain rfl : j = L.length := by omega
                      rw [List.take_length] at hcl ⊢
                      clear hb
                      go_wp2
                      go_roundw
                      case rel => exact ⟨i + 1, by omega, by go_num, by rw [HY3.out], bThen HB3.out (bThen HV.out (bThen H7.out HB.out))⟩
                      case measure => simp [intOf]; omega
                · obtain rfl : i = m.2.2.1.length := by omega
                  rw [List.take_length]
                  have HF := Lib.hid (show (driversN d m s : Nat) = N2 + sumHits d s m.2.2.1 by unfold driversN; rw [HN1.out, HN2.out])
                  clear hcl
                  go_wp2
                  go_ret
                  exact ⟨ret_i64 (by rw [HF.out]), HW3.out⟩
    · rw [driversI_out hm? hs]
      obtain ⟨mb, mo, me, _, _, mus, _, mhc, mhr⟩ := DE.out K hKl
      obtain ⟨m, mx⟩ : ∃ m, d[K]'hKl = m := ⟨_, rfl⟩
      have mx? : d[K]? = some m := by rw [List.getElem?_eq_getElem hKl, mx]
      rw [mx] at mhr
      subst me
      obtain ⟨mu0, mu1, mu2, mu3, rfl, mh0, mh1, mh2, mh3⟩ := mhr
      obtain ⟨mA0, mq0, mf0, mm0, mk0⟩ := mh0
      injection mf0 with mf0
      subst mf0
      unfold maxLen at mm0
      have mE0 := Lib.hid mk0
      clear mk0
      obtain ⟨mA1, mq1, mf1, mm1, mk1⟩ := mh1
      injection mf1 with mf1
      subst mf1
      unfold maxLen at mm1
      have mE1 := Lib.hid mk1
      clear mk1
      obtain ⟨mA2, mq2, mf2, mm2, mk2⟩ := mh2
      injection mf2 with mf2
      subst mf2
      unfold maxLen at mm2
      have mE2 := Lib.hid mk2
      clear mk2
      obtain ⟨mA3, mq3, mf3, mm3, mk3⟩ := mh3
      injection mf3 with mf3
      subst mf3
      unfold maxLen at mm3
      have mE3 := Lib.hid mk3
      clear mk3
      have mc0 : w.cell? ⟨mb, mo + K * 4, none⟩ = some (.slice mA0 (m.1).length mq0) := (mhc 0 _ rfl)
      have mc1 : w.cell? ⟨mb, mo + K * 4 + 1, none⟩ = some (.slice mA1 (m.2.1).length mq1) := (mhc 1 _ rfl)
      have mc2 : w.cell? ⟨mb, mo + K * 4 + 2, none⟩ = some (.slice mA2 (m.2.2.1).length mq2) := (mhc 2 _ rfl)
      have mc3 : w.cell? ⟨mb, mo + K * 4 + 3, none⟩ = some (.slice mA3 (m.2.2.2).length mq3) := (mhc 3 _ rfl)
      have mlt : mb < w.heap.size := World.block_lt_of_cell? _ _ mc0
      clear mhc mx
      obtain rfl : m = m0 := by rw [mx?] at hm?; injection hm?
      clear hm? mx? hr hI
      by_cases t1 : s < 0
      · clear hs
        go_enter Tryz.func148, Tryz.ntmps148
        go_wp2_with fail
        refine (implInstsFit_at d K _ _ (good_Design.below HD.out hT (by (repeat' (first | assumption | exact Below.refl _ _ | refine bDrewN ?_ _ | refine Below.drew ?_ | refine bAlloc ?_ (Nat.le_refl _) _ | refine bSet ?_ (by first | exact Nat.le_refl _ | omega | (simp <;> omega)) _)))) (Nat.le_trans hT (by simp <;> omega)) HR.out).mono ?_
        rintro e w1 ⟨rfl, hb⟩
        have g := box1 hb
        have b0 : w1.cell? ⟨w.heap.size, 0, none⟩ = some (.slice (some ⟨mb, mo, none⟩) d.length dq) := box_cell g.1 0 _ rfl
        have HW1 := Lib.hid g.2
        clear hb g
        go_wp2
        go_ret
        exact ⟨rfl, HW1.out⟩
      · obtain ⟨S, rfl⟩ := Int.eq_ofNat_of_zero_le (by omega : 0 ≤ s)
        have t2 : (m.1.length : Int) ≤ (S : Int) := by omega
        clear hs
        go_enter Tryz.func148, Tryz.ntmps148
        go_wp2_with fail
        refine (implInstsFit_at d K _ _ (good_Design.below HD.out hT (by (repeat' (first | assumption | exact Below.refl _ _ | refine bDrewN ?_ _ | refine Below.drew ?_ | refine bAlloc ?_ (Nat.le_refl _) _ | refine bSet ?_ (by first | exact Nat.le_refl _ | omega | (simp <;> omega)) _)))) (Nat.le_trans hT (by simp <;> omega)) HR.out).mono ?_
        rintro e w1 ⟨rfl, hb⟩
        have g := box1 hb
        have b0 : w1.cell? ⟨w.heap.size, 0, none⟩ = some (.slice (some ⟨mb, mo, none⟩) d.length dq) := box_cell g.1 0 _ rfl
        have HW1 := Lib.hid g.2
        clear hb g
        replace mc0 := keep HW1.out mc0
        replace mc1 := keep HW1.out mc1
        replace mc2 := keep HW1.out mc2
        replace mc3 := keep HW1.out mc3
        go_wp2
        go_ret
        exact ⟨rfl, HW1.out⟩
theorem implDrivers_at (d : DDesign) (k s : Int) (us : List Value) {B T : Nat} {r : Int} (w : World) (hd : rdDesign B T w us d) (hT : T ≤ w.heap.size) (hr : driversI d k s = r) :
    Calls Tryz.prog 148 #[.agg us.toArray, .int .i64 k, .int .i64 s] w fun e w' => e = .returned (.int .i64 r) ∧ Below w.heap.size w w' := by subst hr; exact implDrivers_any d k s us w hd hT
end Go.Proofs.YtmjofpfkgbnknaaGreat
