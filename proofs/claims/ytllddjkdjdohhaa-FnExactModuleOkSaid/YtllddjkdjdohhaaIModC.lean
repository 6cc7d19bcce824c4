/-
  Valid modules and designs, as the program judges them: instances, drivers, the whole.
-/
import Derived.Test.YtllddjkdjdohhaaIModB
namespace Go.Proofs.Ytllddjkdjdohhaa
open Go.RowKit
set_option linter.unusedVariables false
set_option linter.unusedSimpArgs false

set_option maxRecDepth 100000 in
set_option maxHeartbeats 12800000 in
theorem implInsts_at (d : DDesign) (m : DModule) (us vs : List Value) {B T B' T' : Nat} {r : Bool} (w : World) (hd : rdDesign B T w us d) (hT : T ≤ w.heap.size) (h : rdModule B' T' w vs m) (hT' : T' ≤ w.heap.size)
    (hI : ∀ (i : Nat) (n : DInst), m.2.2.1[i]? = some n → ∃ (N : Nat) (c : DModule), n.1 = N ∧ d[N]? = some c ∧ n.2.2.length = (portsL c).length) (hr : m.2.2.1.all (insOk d m) = r) :
    Calls Try.prog 54 #[.agg us.toArray, .agg vs.toArray] w fun e w' => e = .returned (.bool r) ∧ Below w.heap.size w w' := by
  have HR := Lib.hid hr
  have HM := Lib.hid h
  have HI := Lib.hid hI
  clear hr hI
  have HD := Lib.hid hd
  obtain ⟨du, rfl, dh⟩ := hd
  obtain ⟨dA, dq, de, dm, dk⟩ := dh
  injection de with de
  subst de
  unfold maxLen at dm
  have DE := Lib.hid dk
  clear dk
  obtain ⟨mu0, mu1, mu2, mu3, rfl, mh0, mh1, mh2, mh3⟩ := h
  obtain ⟨mA0, mq0, mf0, mm0, mk0⟩ := mh0
  injection mf0 with mf0
  subst mf0
  unfold maxLen at mm0
  have mE0 := Lib.hid mk0
  clear mk0
  obtain ⟨mA1, mq1, mf1, mm1, mk1⟩ := mh1
  injection mf1 with mf1
  subst mf1
  unfold maxLen at mm1
  have mE1 := Lib.hid mk1
  clear mk1
  obtain ⟨mA2, mq2, mf2, mm2, mk2⟩ := mh2
  injection mf2 with mf2
  subst mf2
  unfold maxLen at mm2
  have mE2 := Lib.hid mk2
  clear mk2
  obtain ⟨mA3, mq3, mf3, mm3, mk3⟩ := mh3
  injection mf3 with mf3
  subst mf3
  unfold maxLen at mm3
  have mE3 := Lib.hid mk3
  clear mk3
  go_enter Try.func54, Try.ntmps54
  go_wp2
  obtain ⟨W, hW⟩ : ∃ W, W = (w.alloc (.cells #[.slice dA d.length dq] 26)).alloc (.cells #[.slice mA0 (m.1).length mq0, .slice mA1 (m.2.1).length mq1, .slice mA2 (m.2.2.1).length mq2, .slice mA3 (m.2.2.2).length mq3] 35) := ⟨_, rfl⟩
  rw [← hW]
  have g := eqbox2 hW
  have e0 : W.cell? ⟨w.heap.size, 0, none⟩ = some (.slice dA d.length dq) := box_cell g.1 0 _ rfl
  have f0 : W.cell? ⟨w.heap.size + 1, 0, none⟩ = some (.slice mA0 (m.1).length mq0) := box_cell g.2.1 0 _ rfl
  have f1 : W.cell? ⟨w.heap.size + 1, 1, none⟩ = some (.slice mA1 (m.2.1).length mq1) := box_cell g.2.1 1 _ rfl
  have f2 : W.cell? ⟨w.heap.size + 1, 2, none⟩ = some (.slice mA2 (m.2.2.1).length mq2) := box_cell g.2.1 2 _ rfl
  have f3 : W.cell? ⟨w.heap.size + 1, 3, none⟩ = some (.slice mA3 (m.2.2.2).length mq3) := box_cell g.2.1 3 _ rfl
  have HW := Lib.hid g.2.2
  clear hW g
  go_loopw [12] (fun v wr => ∃ i : Nat, i ≤ m.2.2.1.length ∧ v = .int .i64 i ∧ AllT (insOk d m) (m.2.2.1.take i) ∧ Below W.heap.size W wr) (fun v _ => m.2.2.1.length - (intOf v).toNat)
  case atStart => exact ⟨0, Nat.zero_le _, rfl, AllT.nil _ _, Below.refl _ _⟩
  case round =>
    obtain ⟨i, hi, rfl, hall, hb⟩ := hrel
    obtain ⟨W2, rfl⟩ : ∃ W2, W2 = wr := ⟨_, rfl⟩
    have HL := Lib.hid hall
    have HB := Lib.hid hb
    have HW2 := Lib.hid (bThen HW.out hb)
    replace e0 := keep hb e0
    replace f0 := keep hb f0
    replace f1 := keep hb f1
    replace f2 := keep hb f2
    replace f3 := keep hb f3
    have elt : w.heap.size + 1 < W2.heap.size := World.block_lt_of_cell? _ _ f0
    have elt0 : w.heap.size < W2.heap.size := by omega
    clear hb hall
    by_cases hlt : i < m.2.2.1.length
    · skip
      obtain ⟨nb, no, ne, _, _, nus, _, nhc, nhr⟩ := mE2.out i hlt
      obtain ⟨n, nx⟩ : ∃ n, m.2.2.1[i]'hlt = n := ⟨_, rfl⟩
      have nx? : m.2.2.1[i]? = some n := by rw [List.getElem?_eq_getElem hlt, nx]
      rw [nx] at nhr
      subst ne
      have NR := Lib.hid nhr
      obtain ⟨nu0, nu1, nu2, rfl, nh0, nh1, nh2⟩ := nhr
      obtain ⟨nf0, -⟩ := nh0
      injection nf0 with nf0
      subst nf0
      obtain ⟨nf1, -⟩ := nh1
      injection nf1 with nf1
      subst nf1
      obtain ⟨nA2, nq2, nf2, nm2, nk2⟩ := nh2
      injection nf2 with nf2
      subst nf2
      unfold maxLen at nm2
      have nE2 := Lib.hid nk2
      clear nk2
      have nc0 : W2.cell? ⟨nb, no + i * 3, none⟩ = some (.int .i64 n.1) := keep HW2.out (nhc 0 _ rfl)
      have nc1 : W2.cell? ⟨nb, no + i * 3 + 1, none⟩ = some (.int .i64 n.2.1) := keep HW2.out (nhc 1 _ rfl)
      have nc2 : W2.cell? ⟨nb, no + i * 3 + 2, none⟩ = some (.slice nA2 (n.2.2).length nq2) := keep HW2.out (nhc 2 _ rfl)
      have nlt : nb < W2.heap.size := World.block_lt_of_cell? _ _ nc0
      clear nhc nx
      have HS := Lib.hid (And.intro (fun (h0 : AllT (insOk d m) (m.2.2.1.take i)) (hf : insOk d m n = true) => AllT.step nx? hf h0) (fun hf : insOk d m n = false => all_false_at (insOk d m) m.2.2.1 i _ nx? hf))
      obtain ⟨N, c, hN, hc, hl⟩ := HI.out i n nx?
      have hdl := drivenL_len c n.2.2
      obtain ⟨L, hL⟩ : ∃ L, drivenL c n.2.2 = L := ⟨_, rfl⟩
      obtain ⟨z, hz⟩ : ∃ z, sigEx m n.2.2 = z := ⟨_, rfl⟩
      obtain ⟨a, ha⟩ : ∃ a, n.2.1 = a := ⟨_, rfl⟩
      have HX := Lib.hid (show insOk d m n = (widthOk n.2.1 && sigEx m n.2.2 && L.all (kindAt m [1, 2])) by unfold insOk childOf; rw [hN, Int.toNat_natCast, hc, ← hL]; rfl)
      have HH := Lib.hid (And.intro hN (And.intro hc (And.intro hl hL)))
      have HZ := Lib.hid hz
      have HAA := Lib.hid ha
      have HPO := Lib.hid (show rdIntS B' T' w [.slice nA2 n.2.2.length nq2] n.2.2 from ⟨_, _, rfl, by unfold maxLen; exact nm2, nE2.out⟩)
      rw [hL] at hdl
      rw [ha] at nc1
      clear hN hc hl hL hz ha nx?
      by_cases h1 : 0 ≤ a
      · by_cases h2 : a ≤ 4
        · have HP := Lib.hid (show widthOk n.2.1 = true by rw [HAA.out]; exact decide_eq_true ⟨h1, h2⟩)
          go_wp2_with fail
          obtain ⟨V, hV⟩ : ∃ V, V = W2.alloc (.cells #[.int .i64 n.1, .int .i64 a, .slice nA2 (n.2.2).length nq2] 92) := ⟨_, rfl⟩
          rw [← hV]
          have g := eqbox1 hV
          have n0 : V.cell? ⟨W2.heap.size, 0, none⟩ = some (.int .i64 n.1) := box_cell g.1 0 _ rfl
          have n1 : V.cell? ⟨W2.heap.size, 1, none⟩ = some (.int .i64 a) := box_cell g.1 1 _ rfl
          have n2 : V.cell? ⟨W2.heap.size, 2, none⟩ = some (.slice nA2 (n.2.2).length nq2) := box_cell g.1 2 _ rfl
          have HV := Lib.hid g.2
          clear hV g
          refine (implExist_at m n.2.2 _ _ _ (good_Module.below HM.out hT' (bThen HW2.out HV.out)) (Nat.le_trans hT' (bThen HW2.out HV.out).size) (good_IntS.below HPO.out hT' (bThen HW2.out HV.out)) (Nat.le_trans hT' (bThen HW2.out HV.out).size) HZ.out).mono ?_
          rintro e w3 ⟨rfl, hb3⟩
          have HW3 := Lib.hid (bThen (bThen HW2.out HV.out) hb3)
          have HB3 := Lib.hid (bThen (bThen HB.out HV.out) hb3)
          cases z
          · have HNO := Lib.hid (HS.out.2 (by rw [HX.out, HZ.out, Bool.and_false, Bool.false_and]))
            clear hb3
            go_wp2
            go_ret
            exact ⟨ret_bool (by rw [← HR.out]; exact HNO.out.symm), HW3.out⟩
          · replace e0 := keep hb3 (keep HV.out e0)
            replace f0 := keep hb3 (keep HV.out f0)
            replace f1 := keep hb3 (keep HV.out f1)
            replace f2 := keep hb3 (keep HV.out f2)
            replace f3 := keep hb3 (keep HV.out f3)
            replace n0 := keep hb3 n0
            replace n1 := keep hb3 n1
            replace n2 := keep hb3 n2
            clear hb3 elt
            go_wp2_with fail
            have HN1 := Lib.hid (show rdInst B' T' w [.int .i64 n.1, .int .i64 a, .slice nA2 (n.2.2).length nq2] n by have h := NR.out; rw [← HAA.out]; exact h)
            refine (implDriven_any d n N c [.slice dA d.length dq] [.int .i64 n.1, .int .i64 a, .slice nA2 (n.2.2).length nq2] _ (good_Design.below HD.out hT HW3.out) (Nat.le_trans hT HW3.out.size) (good_Inst.below HN1.out hT' HW3.out) (Nat.le_trans hT' HW3.out.size) HH.out.1 HH.out.2.1 HH.out.2.2.1).mono ?_
            rintro e w5 ⟨v, rfl, ho, hb5⟩
            rw [HH.out.2.2.2] at ho
            obtain ⟨oA, oc, rfl, hoA⟩ := ho.shape
            have HOA := Lib.hid hoA
            replace f0 := keep hb5 f0
            replace f1 := keep hb5 f1
            replace f2 := keep hb5 f2
            replace f3 := keep hb5 f3
            replace e0 := keep hb5 e0
            have HW5 := Lib.hid (bThen HW3.out hb5)
            have HB5 := Lib.hid (bThen HB3.out hb5)
            clear ho hoA hb5 n0 n1 n2 nc0 nc1 nc2 nlt
            go_wp2
            go_loopw [35] (fun v ws => ∃ j : Nat, j ≤ L.length ∧ v = .int .i64 j ∧ AllT (kindAt m [1, 2]) (L.take j) ∧ Below w5.heap.size w5 ws) (fun v _ => L.length - (intOf v).toNat)
            case atStart => exact ⟨0, Nat.zero_le _, rfl, AllT.nil _ _, Below.refl _ _⟩
            case round =>
              obtain ⟨j, hj, rfl, hall, hb⟩ := hrel
              obtain ⟨W6, rfl⟩ : ∃ W6, W6 = wr := ⟨_, rfl⟩
              have HLJ := Lib.hid hall
              have HB6 := Lib.hid hb
              have HW6 := Lib.hid (bThen HW5.out hb)
              replace f0 := keep hb f0
              replace f1 := keep hb f1
              replace f2 := keep hb f2
              replace f3 := keep hb f3
              have flt : w.heap.size + 1 < W6.heap.size := World.block_lt_of_cell? _ _ f0
              clear hb hall
              by_cases hlj : j < L.length
              · obtain ⟨g, rfl, hg, _⟩ := HOA.out j hlj
                have x0 := keep HB6.out hg
                have hx? : L[j]? = some (L.getD j 0) := by rw [List.getD_eq_getElem?_getD, List.getElem?_eq_getElem hlj]; rfl
                have HSJ := Lib.hid (And.intro (fun (h0 : AllT (kindAt m [1, 2]) (L.take j)) (hf : kindAt m [1, 2] (L.getD j 0) = true) => AllT.step hx? hf h0) (fun hf : kindAt m [1, 2] (L.getD j 0) = false => all_false_at (kindAt m [1, 2]) L j _ hx? hf))
                clear hg hx?
                obtain ⟨x, hx⟩ : ∃ x, L.getD j 0 = x := ⟨_, rfl⟩
                rw [hx] at x0 HSJ
                obtain ⟨q, hq⟩ : ∃ q, kindAt m [1, 2] x = q := ⟨_, rfl⟩
                have HQ := Lib.hid hq
                clear hx hq
                go_wp2_with fail
                obtain ⟨V, hV⟩ : ∃ V, V = W6.alloc (.cells #[.int .i64 1, .int .i64 2] 3) := ⟨_, rfl⟩
                rw [← hV]
                have g := eqbox1 hV
                have HV := Lib.hid g.2
                have hlit : rdIntS 0 V.heap.size V [.slice (some ⟨W6.heap.size, 0, none⟩) 2 2] [1, 2] := rd_lit (L := [1, 2]) g.1 (by decide) (fit_lit (by decide))
                clear hV g
                refine (implHasKind_at m x [1, 2] _ _ _ (good_Module.below HM.out hT' (bThen HW6.out HV.out)) (Nat.le_trans hT' (bThen HW6.out HV.out).size) hlit (Nat.le_refl _) HQ.out).mono ?_
                rintro e w7 ⟨rfl, hb7⟩
                have HW7 := Lib.hid (bThen (bThen HW6.out HV.out) hb7)
                have HB7 := Lib.hid (bThen (bThen HB6.out HV.out) hb7)
                clear hb7 hlit
                cases q
                · have HNO := Lib.hid (HS.out.2 (by rw [HX.out, HSJ.out.2 HQ.out, Bool.and_false]))
                  go_wp2
                  go_ret
                  exact ⟨ret_bool (by rw [← HR.out]; exact HNO.out.symm), HW7.out⟩
                · go_wp2
                  go_roundw
                  case rel => exact ⟨j + 1, by omega, by go_num, HSJ.out.1 HLJ.out HQ.out, HB7.out⟩
                  case measure => simp [intOf]; omega
              · obtain rfl : j = L.length := by omega
                have HOK := Lib.hid (show insOk d m n = true by rw [HX.out, HLJ.out.done, HZ.out, HP.out]; rfl)
                go_wp2
                go_roundw
                case rel => exact ⟨i + 1, by omega, by go_num, HS.out.1 HL.out HOK.out, bThen HB5.out HB6.out⟩
                case measure => simp [intOf]; omega
        · have HNO := Lib.hid (HS.out.2 (by rw [HX.out, show widthOk n.2.1 = false from decide_eq_false (by rw [HAA.out]; omega)]; rfl))
          go_wp2
          go_ret
          exact ⟨ret_bool (by rw [← HR.out]; exact HNO.out.symm), bThen HW2.out (bAlloc (Below.refl _ _) (Nat.le_refl _) _)⟩
      · have HNO := Lib.hid (HS.out.2 (by rw [HX.out, show widthOk n.2.1 = false from decide_eq_false (by rw [HAA.out]; omega)]; rfl))
        go_wp2
        go_ret
        exact ⟨ret_bool (by rw [← HR.out]; exact HNO.out.symm), bThen HW2.out (bAlloc (Below.refl _ _) (Nat.le_refl _) _)⟩
    · obtain rfl : i = m.2.2.1.length := by omega
      have HNO := Lib.hid HL.out.done
      go_wp2
      go_ret
      exact ⟨ret_bool (by rw [← HR.out]; exact HNO.out.symm), HW2.out⟩

def AllR (f : Nat → Bool) (i : Nat) : Prop := (List.range i).all f = true
theorem AllR.nil (f : Nat → Bool) : AllR f 0 := by simp [AllR]
theorem AllR.step {f : Nat → Bool} {i : Nat} (hf : f i = true) (h0 : AllR f i) : AllR f (i + 1) := by unfold AllR at *; rw [range_all_step, h0, hf]; rfl
set_option maxRecDepth 100000 in
set_option maxHeartbeats 6400000 in
theorem implOnce_at (d : DDesign) (K : Nat) (m : DModule) (us : List Value) {B T : Nat} {r : Bool} (w : World) (hd : rdDesign B T w us d) (hT : T ≤ w.heap.size) (hm : d[K]? = some m) (hr : onceAll d K m = r) :
    Calls Try.prog 56 #[.agg us.toArray, .int .i64 K] w fun e w' => e = .returned (.bool r) ∧ Below w.heap.size w w' := by
  have HR := Lib.hid hr
  have hKl : K < d.length := (List.getElem?_eq_some_iff.1 hm).1
  have HD := Lib.hid hd
  obtain ⟨du, rfl, dh⟩ := hd
  obtain ⟨dA, dq, de, dm, dk⟩ := dh
  injection de with de
  subst de
  unfold maxLen at dm
  have DE := Lib.hid dk
  clear dk
  obtain ⟨mb, mo, me, _, _, mus, _, mhc, mhr⟩ := DE.out K hKl
  obtain ⟨m', mx⟩ : ∃ m', d[K]'hKl = m' := ⟨_, rfl⟩
  have mx? : d[K]? = some m' := by rw [List.getElem?_eq_getElem hKl, mx]
  rw [mx] at mhr
  subst me
  obtain ⟨mu0, mu1, mu2, mu3, rfl, mh0, mh1, mh2, mh3⟩ := mhr
  obtain ⟨mA0, mq0, mf0, mm0, mk0⟩ := mh0
  injection mf0 with mf0
  subst mf0
  unfold maxLen at mm0
  have mE0 := Lib.hid mk0
  clear mk0
  obtain ⟨mA1, mq1, mf1, mm1, mk1⟩ := mh1
  injection mf1 with mf1
  subst mf1
  unfold maxLen at mm1
  have mE1 := Lib.hid mk1
  clear mk1
  obtain ⟨mA2, mq2, mf2, mm2, mk2⟩ := mh2
  injection mf2 with mf2
  subst mf2
  unfold maxLen at mm2
  have mE2 := Lib.hid mk2
  clear mk2
  obtain ⟨mA3, mq3, mf3, mm3, mk3⟩ := mh3
  injection mf3 with mf3
  subst mf3
  unfold maxLen at mm3
  have mE3 := Lib.hid mk3
  clear mk3
  have mc0 : w.cell? ⟨mb, mo + K * 4, none⟩ = some (.slice mA0 (m'.1).length mq0) := (mhc 0 _ rfl)
  have mc1 : w.cell? ⟨mb, mo + K * 4 + 1, none⟩ = some (.slice mA1 (m'.2.1).length mq1) := (mhc 1 _ rfl)
  have mc2 : w.cell? ⟨mb, mo + K * 4 + 2, none⟩ = some (.slice mA2 (m'.2.2.1).length mq2) := (mhc 2 _ rfl)
  have mc3 : w.cell? ⟨mb, mo + K * 4 + 3, none⟩ = some (.slice mA3 (m'.2.2.2).length mq3) := (mhc 3 _ rfl)
  have mlt : mb < w.heap.size := World.block_lt_of_cell? _ _ mc0
  clear mhc mx
  obtain rfl : m' = m := by rw [mx?] at hm; injection hm
  unfold onceAll at hr
  clear hm mx? hr
  go_enter Try.func56, Try.ntmps56
  go_wp2
  obtain ⟨W, hW⟩ : ∃ W, W = w.alloc (.cells #[.slice (some ⟨mb, mo, none⟩) d.length dq] 26) := ⟨_, rfl⟩
  rw [← hW]
  have g := eqbox1 hW
  have e0 : W.cell? ⟨w.heap.size, 0, none⟩ = some (.slice (some ⟨mb, mo, none⟩) d.length dq) := box_cell g.1 0 _ rfl
  have HW := Lib.hid g.2
  clear hW g mc0 mc1 mc2 mc3 mlt
  go_loopw [14] (fun v wr => ∃ i : Nat, i ≤ m'.1.length ∧ v = .int .i64 i ∧ AllR (onceB d K m') i ∧ Below W.heap.size W wr) (fun v _ => m'.1.length - (intOf v).toNat)
  case atStart => exact ⟨0, Nat.zero_le _, rfl, AllR.nil _, Below.refl _ _⟩
  case round =>
    obtain ⟨i, hi, rfl, hall, hb⟩ := hrel
    obtain ⟨W2, rfl⟩ : ∃ W2, W2 = wr := ⟨_, rfl⟩
    have HL := Lib.hid hall
    have HB := Lib.hid hb
    have HW2 := Lib.hid (bThen HW.out hb)
    replace e0 := keep hb e0
    have elt0 : w.heap.size < W2.heap.size := World.block_lt_of_cell? _ _ e0
    clear hb hall
    by_cases hlt : i < m'.1.length
    · skip
      obtain ⟨xb, xo, xe, _, _, xus, _, xhc, xhr⟩ := mE0.out i hlt
      obtain ⟨x, xx⟩ : ∃ x, m'.1[i]'hlt = x := ⟨_, rfl⟩
      have xx? : m'.1[i]? = some x := by rw [List.getElem?_eq_getElem hlt, xx]
      rw [xx] at xhr
      subst xe
      obtain ⟨xu0, xu1, xu2, rfl, xh0, xh1, xh2⟩ := xhr
      obtain ⟨xf0, -⟩ := xh0
      injection xf0 with xf0
      subst xf0
      obtain ⟨xf1, -⟩ := xh1
      injection xf1 with xf1
      subst xf1
      obtain ⟨xf2, -⟩ := xh2
      injection xf2 with xf2
      subst xf2
      have xc0 : W2.cell? ⟨xb, xo + i * 3, none⟩ = some (.int .i64 x.1) := keep HW2.out (xhc 0 _ rfl)
      have xc1 : W2.cell? ⟨xb, xo + i * 3 + 1, none⟩ = some (.int .i64 x.2.1) := keep HW2.out (xhc 1 _ rfl)
      have xc2 : W2.cell? ⟨xb, xo + i * 3 + 2, none⟩ = some (.int .i64 x.2.2) := keep HW2.out (xhc 2 _ rfl)
      have xlt : xb < W2.heap.size := World.block_lt_of_cell? _ _ xc0
      clear xhc xx
      have hk := kindI_yes xx?
      obtain ⟨q, hq⟩ : ∃ q, driversI d K i = q := ⟨_, rfl⟩
      have HX := Lib.hid (show onceB d K m' i = (decide (x.1 = 0) || decide (q = 1)) by unfold onceB; rw [hk, hq])
      have HS := Lib.hid (show onceB d K m' i = false → onceAll d K m' = false from fun hf => range_all_false _ i _ hlt hf)
      have HQ := Lib.hid hq
      clear hq hk xx?
      obtain ⟨k, hk⟩ : ∃ k, x.1 = k := ⟨_, rfl⟩
      rw [hk] at xc0 HX
      clear hk
      by_cases h0 : k = 0
      · have HOK := Lib.hid (show onceB d K m' i = true by rw [HX.out, decide_eq_true h0]; rfl)
        have h0' : (k != 0) = false := by simpa using h0
        subst h0
        go_wp2
        go_roundw
        case rel => exact ⟨i + 1, by omega, by go_num, AllR.step HOK.out HL.out, bThen HB.out (bAlloc (Below.refl _ _) (Nat.le_refl _) _)⟩
        case measure => simp [intOf]; omega
      · have h0' : (k == 0) = false := by simpa using h0
        have h0'' : (k != 0) = true := by simpa using h0
        go_wp2_with fail
        obtain ⟨V, hV⟩ : ∃ V, V = W2.alloc (.cells #[.int .i64 k, .int .i64 x.2.1, .int .i64 x.2.2] 38) := ⟨_, rfl⟩
        rw [← hV]
        have g := eqbox1 hV
        have HV := Lib.hid g.2
        clear hV g
        refine (implDrivers_at d K i _ _ (good_Design.below HD.out hT (bThen HW2.out HV.out)) (Nat.le_trans hT (bThen HW2.out HV.out).size) HQ.out).mono ?_
        rintro e w3 ⟨rfl, hb3⟩
        have HW3 := Lib.hid (bThen (bThen HW2.out HV.out) hb3)
        have HB3 := Lib.hid (bThen (bThen HB.out HV.out) hb3)
        clear hb3
        by_cases h1 : q = 1
        · have HOK := Lib.hid (show onceB d K m' i = true by rw [HX.out, decide_eq_true h1, Bool.or_true])
          subst h1
          go_wp2
          go_roundw
          case rel => exact ⟨i + 1, by omega, by go_num, AllR.step HOK.out HL.out, HB3.out⟩
          case measure => simp [intOf]; omega
        · have HNO := Lib.hid (HS.out (by rw [HX.out, decide_eq_false h0, decide_eq_false h1]; rfl))
          have h1' : (q == 1) = false := by simpa using h1
          have h1'' : (q != 1) = true := by simpa using h1
          go_wp2
          go_ret
          exact ⟨ret_bool (by rw [← HR.out]; exact HNO.out.symm), HW3.out⟩
    · obtain rfl : i = m'.1.length := by omega
      have HNO := Lib.hid (show onceAll d K m' = true from HL.out)
      go_wp2
      go_ret
      exact ⟨ret_bool (by rw [← HR.out]; exact HNO.out.symm), HW2.out⟩
end Go.Proofs.Ytllddjkdjdohhaa
