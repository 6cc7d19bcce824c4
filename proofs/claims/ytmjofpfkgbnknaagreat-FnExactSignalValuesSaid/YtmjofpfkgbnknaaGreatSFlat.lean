/-
  Valid flat modules: the reference.
-/
import Derived.Test.YtmjofpfkgbnknaaGreatFlS
import Derived.Test.YtmjofpfkgbnknaaGreatSPw
import Derived.Test.YtmjofpfkgbnknaaGreatSEv
import Derived.Lib.QuietBelow
namespace Go.Proofs.YtmjofpfkgbnknaaGreat
open Go.RowKit
set_option linter.unusedVariables false
set_option linter.unusedSimpArgs false

set_option maxRecDepth 100000 in
set_option maxHeartbeats 12800000 in
theorem specFlat_at (m : DModule) (us : List Value) {B T : Nat} {r : Bool} (w : World) (h : rdModule B T w us m) (hT : T ≤ w.heap.size) (hr : flatB m = r) :
    Calls Tryz.prog 45 #[.agg us.toArray] w fun e w' => e = .returned (.bool r) ∧ Below w.heap.size w w' := by
  have HR := Lib.hid hr
  have HM := Lib.hid h
  clear hr
  obtain ⟨mu0, mu1, mu2, mu3, rfl, mh0, mh1, mh2, mh3⟩ := h
  obtain ⟨mA0, mq0, mf0, mm0, mk0⟩ := mh0
  injection mf0 with mf0
  subst mf0
  unfold maxLen at mm0
  have mE0 := Lib.hid mk0
  clear mk0
  obtain ⟨mA1, mq1, mf1, mm1, mk1⟩ := mh1
  injection mf1 with mf1
  subst mf1
  unfold maxLen at mm1
  have mE1 := Lib.hid mk1
  clear mk1
  obtain ⟨mA2, mq2, mf2, mm2, mk2⟩ := mh2
  injection mf2 with mf2
  subst mf2
  unfold maxLen at mm2
  clear mk2
  obtain ⟨mA3, mq3, mf3, mm3, mk3⟩ := mh3
  injection mf3 with mf3
  subst mf3
  unfold maxLen at mm3
  have mE3 := Lib.hid mk3
  clear mk3
  obtain ⟨o, ho⟩ : ∃ o, (orderO m).isSome = o := ⟨_, rfl⟩
  have HO := Lib.hid ho
  clear ho
  go_enter Tryz.func45, Tryz.ntmps45
  go_wp2_with fail
  obtain ⟨W, hW⟩ : ∃ W, W = w.alloc (.cells #[.slice mA0 (m.1).length mq0, .slice mA1 (m.2.1).length mq1, .slice mA2 (m.2.2.1).length mq2, .slice mA3 (m.2.2.2).length mq3] 31) := ⟨_, rfl⟩
  rw [← hW]
  have g := eqbox1 hW
  have d0 : W.cell? ⟨w.heap.size, 0, none⟩ = some (.slice mA0 (m.1).length mq0) := box_cell g.1 0 _ rfl
  have d1 : W.cell? ⟨w.heap.size, 1, none⟩ = some (.slice mA1 (m.2.1).length mq1) := box_cell g.1 1 _ rfl
  have d2 : W.cell? ⟨w.heap.size, 2, none⟩ = some (.slice mA2 (m.2.2.1).length mq2) := box_cell g.1 2 _ rfl
  have d3 : W.cell? ⟨w.heap.size, 3, none⟩ = some (.slice mA3 (m.2.2.2).length mq3) := box_cell g.1 3 _ rfl
  have HW := Lib.hid g.2
  clear hW g
  refine (specOrder_at m _ _ (good_Module.below HM.out hT HW.out) (Nat.le_trans hT HW.out.size) HO.out rfl).mono ?_
  rintro e w1 ⟨v1, rfl, -, hb1⟩
  have HB1 := Lib.hid (bThen HW.out hb1)
  have e0 := keep hb1 d0
  have e1 := keep hb1 d1
  have e2 := keep hb1 d2
  have e3 := keep hb1 d3
  clear hb1 d0 d1 d2 d3
  cases o with
  | false =>
    have HE := Lib.hid (flat_no0 HR.out HO.out)
    go_wp2
    go_ret
    exact ⟨ret_bool HE.out.symm, HB1.out⟩
  | true =>
    have HOK := Lib.hid (order_ok HO.out)
    go_wp2
    go_loopw [5] (fun x wr => ∃ i : Nat, i ≤ m.1.length ∧ x = .int .i64 i ∧ AllF (fun s : DSignal => !decide (s.2.1 = 0)) (m.1.take i) ∧ Below w1.heap.size w1 wr) (fun x _ => m.1.length - (intOf x).toNat)
    case atStart => exact ⟨0, Nat.zero_le _, rfl, AllF.nil _ _, Below.refl _ _⟩
    case round =>
      obtain ⟨i, hi, rfl, hall, hb⟩ := hrel
      have HL := Lib.hid hall
      have HB := Lib.hid hb
      have HBW := Lib.hid (bThen HB1.out hb)
      have q0 := keep hb e0
      have q1 := keep hb e1
      have q2 := keep hb e2
      have q3 := keep hb e3
      clear hall hb
      by_cases hlt : i < m.1.length
      · skip
        obtain ⟨xb, xo, xe, _, _, xus, _, xhc, xhr⟩ := mE0.out i hlt
        obtain ⟨x, xx⟩ : ∃ x, m.1[i]'hlt = x := ⟨_, rfl⟩
        have xx? : m.1[i]? = some x := by rw [List.getElem?_eq_getElem hlt, xx]
        rw [xx] at xhr
        subst xe
        obtain ⟨xu0, xu1, xu2, rfl, xh0, xh1, xh2⟩ := xhr
        obtain ⟨xf0, -⟩ := xh0
        injection xf0 with xf0
        subst xf0
        obtain ⟨xf1, -⟩ := xh1
        injection xf1 with xf1
        subst xf1
        obtain ⟨xf2, -⟩ := xh2
        injection xf2 with xf2
        subst xf2
        have xc0 : wr.cell? ⟨xb, xo + i * 3, none⟩ = some (.int .i64 x.1) := keep HBW.out (xhc 0 _ rfl)
        have xc1 : wr.cell? ⟨xb, xo + i * 3 + 1, none⟩ = some (.int .i64 x.2.1) := keep HBW.out (xhc 1 _ rfl)
        have xc2 : wr.cell? ⟨xb, xo + i * 3 + 2, none⟩ = some (.int .i64 x.2.2) := keep HBW.out (xhc 2 _ rfl)
        have xlt : xb < wr.heap.size := World.block_lt_of_cell? _ _ xc0
        clear xhc xx
        have HX := Lib.hid xx?
        clear xx?
        obtain ⟨k, a, b⟩ := x
        dsimp only at xc0 xc1 xc2
        by_cases h0 : a = 0
        · have HE := Lib.hid (flat_no1 HR.out i _ HX.out h0)
          subst h0
          go_wp2
          go_ret
          exact ⟨ret_bool HE.out.symm, HBW.out⟩
        · have HS := Lib.hid (AllF.step (f := fun s : DSignal => !decide (s.2.1 = 0)) HX.out (by simp [h0]) HL.out)
          have b0 : (a == 0) = false := by simpa using h0
          clear h0
          go_wp2
          go_roundw
          case rel => exact ⟨i + 1, by omega, by go_num, HS.out, HB.out⟩
          case measure => simp [intOf]; omega
      · obtain rfl : i = m.1.length := by omega
        have HL1 := Lib.hid (AllF.done HL.out)
        go_wp2
        obtain ⟨W2, rfl⟩ : ∃ W2, W2 = wr := ⟨_, rfl⟩
        go_loopw [6] (fun x wr => ∃ i : Nat, i ≤ m.2.1.length ∧ x = .int .i64 i ∧ AllF noPar (m.2.1.take i) ∧ Below W2.heap.size W2 wr) (fun x _ => m.2.1.length - (intOf x).toNat)
        case atStart => exact ⟨0, Nat.zero_le _, rfl, AllF.nil _ _, Below.refl _ _⟩
        case round =>
          obtain ⟨i, hi, rfl, hall, hb⟩ := hrel
          have HL2 := Lib.hid hall
          have HB2 := Lib.hid hb
          have HBX := Lib.hid (bThen HBW.out hb)
          have z0 := keep hb q0
          have z1 := keep hb q1
          have z2 := keep hb q2
          have z3 := keep hb q3
          clear hall hb
          by_cases hlt : i < m.2.1.length
          · skip
            obtain ⟨ab, ao, ae, _, _, aus, _, ahc, ahr⟩ := mE1.out i hlt
            obtain ⟨a, ax⟩ : ∃ a, m.2.1[i]'hlt = a := ⟨_, rfl⟩
            have ax? : m.2.1[i]? = some a := by rw [List.getElem?_eq_getElem hlt, ax]
            rw [ax] at ahr
            subst ae
            obtain ⟨au0, au1, rfl, ah0, ah1⟩ := ahr
            obtain ⟨af0, -⟩ := ah0
            injection af0 with af0
            subst af0
            obtain ⟨aA1, aq1, af1, am1, ak1⟩ := ah1
            injection af1 with af1
            subst af1
            unfold maxLen at am1
            have aE1 := Lib.hid ak1
            clear ak1
            have ac0 : wr.cell? ⟨ab, ao + i * 2, none⟩ = some (.int .i64 a.1) := keep HBX.out (ahc 0 _ rfl)
            have ac1 : wr.cell? ⟨ab, ao + i * 2 + 1, none⟩ = some (.slice aA1 (a.2).length aq1) := keep HBX.out (ahc 1 _ rfl)
            have alt : ab < wr.heap.size := World.block_lt_of_cell? _ _ ac0
            clear ahc ax
            have HX := Lib.hid ax?
            clear ax?
            go_wp2
            obtain ⟨W3, rfl⟩ : ∃ W3, W3 = wr := ⟨_, rfl⟩
            go_loopw [7] (fun x wr => ∃ j : Nat, j ≤ a.2.length ∧ x = .int .i64 j ∧ AllF (fun o : DOp => !decide (o.1 = 1)) (a.2.take j) ∧ Below W3.heap.size W3 wr) (fun x _ => a.2.length - (intOf x).toNat)
            case atStart => exact ⟨0, Nat.zero_le _, rfl, AllF.nil _ _, Below.refl _ _⟩
            case round =>
              obtain ⟨j, hj, rfl, hall, hb⟩ := hrel
              have HL3 := Lib.hid hall
              have HB3 := Lib.hid hb
              have HBY := Lib.hid (bThen HBX.out hb)
              have y0 := keep hb z0
              have y1 := keep hb z1
              have y2 := keep hb z2
              have y3 := keep hb z3
              have bc0 := keep hb ac0
              have bc1 := keep hb ac1
              clear hall hb
              by_cases hlj : j < a.2.length
              · skip
                obtain ⟨ob, oo, oe, _, _, ous, _, ohc, ohr⟩ := aE1.out j hlj
                obtain ⟨o, ox⟩ : ∃ o, a.2[j]'hlj = o := ⟨_, rfl⟩
                have ox? : a.2[j]? = some o := by rw [List.getElem?_eq_getElem hlj, ox]
                rw [ox] at ohr
                subst oe
                obtain ⟨ou0, ou1, ou2, rfl, oh0, oh1, oh2⟩ := ohr
                obtain ⟨of0, -⟩ := oh0
                injection of0 with of0
                subst of0
                obtain ⟨of1, -⟩ := oh1
                injection of1 with of1
                subst of1
                obtain ⟨of2, -⟩ := oh2
                injection of2 with of2
                subst of2
                have oc0 : wr.cell? ⟨ob, oo + j * 3, none⟩ = some (.int .i64 o.1) := keep HBY.out (ohc 0 _ rfl)
                have oc1 : wr.cell? ⟨ob, oo + j * 3 + 1, none⟩ = some (.int .i64 o.2.1) := keep HBY.out (ohc 1 _ rfl)
                have oc2 : wr.cell? ⟨ob, oo + j * 3 + 2, none⟩ = some (.int .i64 o.2.2) := keep HBY.out (ohc 2 _ rfl)
                have olt : ob < wr.heap.size := World.block_lt_of_cell? _ _ oc0
                clear ohc ox
                have HY := Lib.hid ox?
                clear ox?
                obtain ⟨k, p, q⟩ := o
                dsimp only at oc0 oc1 oc2
                by_cases h1 : k = 1
                · have HE := Lib.hid (flat_no2 HR.out i _ HX.out (noPar_no j _ HY.out h1))
                  subst h1
                  go_wp2
                  go_ret
                  exact ⟨ret_bool HE.out.symm, HBY.out⟩
                · have HS := Lib.hid (AllF.step (f := fun o : DOp => !decide (o.1 = 1)) HY.out (by simp [h1]) HL3.out)
                  have b1 : (k == 1) = false := by simpa using h1
                  clear h1
                  go_wp2
                  go_roundw
                  case rel => exact ⟨j + 1, by omega, by go_num, HS.out, HB3.out⟩
                  case measure => simp [intOf]; omega
              · obtain rfl : j = a.2.length := by omega
                have HS := Lib.hid (AllF.step HX.out (show noPar a = true from AllF.done HL3.out) HL2.out)
                go_wp2
                go_roundw
                case rel => exact ⟨i + 1, by omega, by go_num, HS.out, bThen HB2.out HB3.out⟩
                case measure => simp [intOf]; omega
          · obtain rfl : i = m.2.1.length := by omega
            have HL2' := Lib.hid (AllF.done HL2.out)
            clear HL2 q0 q1 q2 q3 e0 e1 e2 e3
            obtain ⟨s0, hs0⟩ : ∃ s, sumL (widthsL m 0) = s := ⟨_, rfl⟩
            obtain ⟨s1, hs1⟩ : ∃ s, sumL (widthsL m 1) = s := ⟨_, rfl⟩
            obtain ⟨s3, hs3⟩ : ∃ s, sumL (widthsL m 3) = s := ⟨_, rfl⟩
            have g3 := sum_bnd _ (widths_small HOK.out 3)
            have l3 := widthsL_len m 3
            rw [hs3] at g3
            have S0 := Lib.hid hs0
            have S1 := Lib.hid hs1
            have S3 := Lib.hid hs3
            have HBB := Lib.hid (show bitsB m = (decide (s0 ≤ 8) && decide (s1 ≤ 8) && decide (s3 + memBits m m.2.2.2.length ≤ 12)) by unfold bitsB; rw [hs0, hs1, hs3])
            have b3 : 0 ≤ s3 ∧ s3 ≤ 120 := by omega
            clear hs0 hs1 hs3 g3 l3
            go_wp2_with fail
            refine (specWidths_any m 3 _ _ (good_Module.below HM.out hT HBX.out) (Nat.le_trans hT HBX.out.size)).mono ?_
            rintro e w4 ⟨v4, rfl, ho4, hb4⟩
            have HB4 := Lib.hid (bThen HBX.out hb4)
            replace z0 := keep hb4 z0
            replace z1 := keep hb4 z1
            replace z2 := keep hb4 z2
            replace z3 := keep hb4 z3
            clear hb4
            go_wp2_with fail
            refine (specSum_at (widthsL m 3) v4 _ ho4 (widthsL_len m 3) (widths_small HOK.out 3) S3.out).mono ?_
            rintro e w5 ⟨rfl, rfl⟩
            clear ho4
            go_wp2
            go_loopw [8, 9] (fun n x wr => ∃ i : Nat, i ≤ m.2.2.2.length ∧ x = .int .i64 i ∧ n = .int .i64 (s3 + memBits m i) ∧ AllF (memWid m) (m.2.2.2.take i) ∧ Below w4.heap.size w4 wr) (fun _ x _ => m.2.2.2.length - (intOf x).toNat)
            case atStart => exact ⟨0, Nat.zero_le _, rfl, by simp [memBits, sumL], AllF.nil _ _, Below.refl _ _⟩
            case round =>
              obtain ⟨i, hi, rfl, rfl, hall, hb⟩ := hrel
              have HL := Lib.hid hall
              have HB := Lib.hid hb
              have HBW := Lib.hid (bThen HB4.out hb)
              have q0 := keep hb z0
              have q1 := keep hb z1
              have q2 := keep hb z2
              have q3 := keep hb z3
              have hmb := memBits_bnd HOK.out i
              have qlt : w.heap.size < wr.heap.size := World.block_lt_of_cell? _ _ q0
              clear hb z0 z1 z2 z3 hall
              by_cases hlt : i < m.2.2.2.length
              · skip
                obtain ⟨xb, xo, xe, _, _, xus, _, xhc, xhr⟩ := mE3.out i hlt
                obtain ⟨x, xx⟩ : ∃ x, m.2.2.2[i]'hlt = x := ⟨_, rfl⟩
                have xx? : m.2.2.2[i]? = some x := by rw [List.getElem?_eq_getElem hlt, xx]
                rw [xx] at xhr
                subst xe
                obtain ⟨xu0, xu1, xu2, xu3, rfl, xh0, xh1, xh2, xh3⟩ := xhr
                obtain ⟨xf0, -⟩ := xh0
                injection xf0 with xf0
                subst xf0
                obtain ⟨xf1, -⟩ := xh1
                injection xf1 with xf1
                subst xf1
                obtain ⟨xf2, -⟩ := xh2
                injection xf2 with xf2
                subst xf2
                obtain ⟨xf3, -⟩ := xh3
                injection xf3 with xf3
                subst xf3
                have xc0 : wr.cell? ⟨xb, xo + i * 4, none⟩ = some (.int .i64 x.1) := keep HBW.out (xhc 0 _ rfl)
                have xc1 : wr.cell? ⟨xb, xo + i * 4 + 1, none⟩ = some (.int .i64 x.2.1) := keep HBW.out (xhc 1 _ rfl)
                have xc2 : wr.cell? ⟨xb, xo + i * 4 + 2, none⟩ = some (.int .i64 x.2.2.1) := keep HBW.out (xhc 2 _ rfl)
                have xc3 : wr.cell? ⟨xb, xo + i * 4 + 3, none⟩ = some (.int .i64 x.2.2.2) := keep HBW.out (xhc 3 _ rfl)
                have xlt : xb < wr.heap.size := World.block_lt_of_cell? _ _ xc0
                clear xhc xx
                have HX := Lib.hid xx?
                obtain ⟨hin0, hin1, hin2, hin3⟩ := HOK.out.mem x (List.mem_of_getElem? xx?)
                clear xx?
                obtain ⟨t0, ht0, hl0⟩ := inR_at hin0
                rw [ht0] at xc0
                have hi0 : (t0 : Int) < (m.1.length : Int) := by omega
                obtain ⟨p0b, p0o, p0e, _, _, p0us, _, p0hc, p0hr⟩ := mE0.out t0 hl0
                obtain ⟨s0, p0x⟩ : ∃ s0, m.1[t0]'hl0 = s0 := ⟨_, rfl⟩
                have p0x? : m.1[t0]? = some s0 := by rw [List.getElem?_eq_getElem hl0, p0x]
                rw [p0x] at p0hr
                subst p0e
                obtain ⟨p0u0, p0u1, p0u2, rfl, p0h0, p0h1, p0h2⟩ := p0hr
                obtain ⟨p0f0, -⟩ := p0h0
                injection p0f0 with p0f0
                subst p0f0
                obtain ⟨p0f1, -⟩ := p0h1
                injection p0f1 with p0f1
                subst p0f1
                obtain ⟨p0f2, -⟩ := p0h2
                injection p0f2 with p0f2
                subst p0f2
                have p0c0 : wr.cell? ⟨p0b, p0o + t0 * 3, none⟩ = some (.int .i64 s0.1) := keep HBW.out (p0hc 0 _ rfl)
                have p0c1 : wr.cell? ⟨p0b, p0o + t0 * 3 + 1, none⟩ = some (.int .i64 s0.2.1) := keep HBW.out (p0hc 1 _ rfl)
                have p0c2 : wr.cell? ⟨p0b, p0o + t0 * 3 + 2, none⟩ = some (.int .i64 s0.2.2) := keep HBW.out (p0hc 2 _ rfl)
                have p0lt : p0b < wr.heap.size := World.block_lt_of_cell? _ _ p0c0
                clear p0hc p0x
                have hw0 := wid_at p0x?
                rw [← ht0] at hw0
                obtain ⟨a0, ha0⟩ : ∃ a, s0.2.1 = a := ⟨_, rfl⟩
                rw [ha0] at hw0 p0c1
                clear p0c0 p0c2 p0x? ha0
                obtain ⟨t1, ht1, hl1⟩ := inR_at hin1
                rw [ht1] at xc1
                have hi1 : (t1 : Int) < (m.1.length : Int) := by omega
                obtain ⟨p1b, p1o, p1e, _, _, p1us, _, p1hc, p1hr⟩ := mE0.out t1 hl1
                obtain ⟨s1, p1x⟩ : ∃ s1, m.1[t1]'hl1 = s1 := ⟨_, rfl⟩
                have p1x? : m.1[t1]? = some s1 := by rw [List.getElem?_eq_getElem hl1, p1x]
                rw [p1x] at p1hr
                injection p1e with p1e
                injection p1e with p1e1 p1e2
                subst p1e1 p1e2
                obtain ⟨p1u0, p1u1, p1u2, rfl, p1h0, p1h1, p1h2⟩ := p1hr
                obtain ⟨p1f0, -⟩ := p1h0
                injection p1f0 with p1f0
                subst p1f0
                obtain ⟨p1f1, -⟩ := p1h1
                injection p1f1 with p1f1
                subst p1f1
                obtain ⟨p1f2, -⟩ := p1h2
                injection p1f2 with p1f2
                subst p1f2
                have p1c0 : wr.cell? ⟨p0b, p0o + t1 * 3, none⟩ = some (.int .i64 s1.1) := keep HBW.out (p1hc 0 _ rfl)
                have p1c1 : wr.cell? ⟨p0b, p0o + t1 * 3 + 1, none⟩ = some (.int .i64 s1.2.1) := keep HBW.out (p1hc 1 _ rfl)
                have p1c2 : wr.cell? ⟨p0b, p0o + t1 * 3 + 2, none⟩ = some (.int .i64 s1.2.2) := keep HBW.out (p1hc 2 _ rfl)
                have p1lt : p0b < wr.heap.size := World.block_lt_of_cell? _ _ p1c0
                clear p1hc p1x
                have hw1 := wid_at p1x?
                rw [← ht1] at hw1
                obtain ⟨a1, ha1⟩ : ∃ a, s1.2.1 = a := ⟨_, rfl⟩
                rw [ha1] at hw1 p1c1
                clear p1c0 p1c2 p1x? ha1
                obtain ⟨t2, ht2, hl2⟩ := inR_at hin2
                rw [ht2] at xc2
                have hi2 : (t2 : Int) < (m.1.length : Int) := by omega
                obtain ⟨p2b, p2o, p2e, _, _, p2us, _, p2hc, p2hr⟩ := mE0.out t2 hl2
                obtain ⟨s2, p2x⟩ : ∃ s2, m.1[t2]'hl2 = s2 := ⟨_, rfl⟩
                have p2x? : m.1[t2]? = some s2 := by rw [List.getElem?_eq_getElem hl2, p2x]
                rw [p2x] at p2hr
                injection p2e with p2e
                injection p2e with p2e1 p2e2
                subst p2e1 p2e2
                obtain ⟨p2u0, p2u1, p2u2, rfl, p2h0, p2h1, p2h2⟩ := p2hr
                obtain ⟨p2f0, -⟩ := p2h0
                injection p2f0 with p2f0
                subst p2f0
                obtain ⟨p2f1, -⟩ := p2h1
                injection p2f1 with p2f1
                subst p2f1
                obtain ⟨p2f2, -⟩ := p2h2
                injection p2f2 with p2f2
                subst p2f2
                have p2c0 : wr.cell? ⟨p0b, p0o + t2 * 3, none⟩ = some (.int .i64 s2.1) := keep HBW.out (p2hc 0 _ rfl)
                have p2c1 : wr.cell? ⟨p0b, p0o + t2 * 3 + 1, none⟩ = some (.int .i64 s2.2.1) := keep HBW.out (p2hc 1 _ rfl)
                have p2c2 : wr.cell? ⟨p0b, p0o + t2 * 3 + 2, none⟩ = some (.int .i64 s2.2.2) := keep HBW.out (p2hc 2 _ rfl)
                have p2lt : p0b < wr.heap.size := World.block_lt_of_cell? _ _ p2c0
                clear p2hc p2x
                have hw2 := wid_at p2x?
                rw [← ht2] at hw2
                obtain ⟨a2, ha2⟩ : ∃ a, s2.2.1 = a := ⟨_, rfl⟩
                rw [ha2] at hw2 p2c1
                clear p2c0 p2c2 p2x? ha2
                obtain ⟨t3, ht3, hl3⟩ := inR_at hin3
                rw [ht3] at xc3
                have hi3 : (t3 : Int) < (m.1.length : Int) := by omega
                obtain ⟨p3b, p3o, p3e, _, _, p3us, _, p3hc, p3hr⟩ := mE0.out t3 hl3
                obtain ⟨s3, p3x⟩ : ∃ s3, m.1[t3]'hl3 = s3 := ⟨_, rfl⟩
                have p3x? : m.1[t3]? = some s3 := by rw [List.getElem?_eq_getElem hl3, p3x]
                rw [p3x] at p3hr
                injection p3e with p3e
                injection p3e with p3e1 p3e2
                subst p3e1 p3e2
                obtain ⟨p3u0, p3u1, p3u2, rfl, p3h0, p3h1, p3h2⟩ := p3hr
                obtain ⟨p3f0, -⟩ := p3h0
                injection p3f0 with p3f0
                subst p3f0
                obtain ⟨p3f1, -⟩ := p3h1
                injection p3f1 with p3f1
                subst p3f1
                obtain ⟨p3f2, -⟩ := p3h2
                injection p3f2 with p3f2
                subst p3f2
                have p3c0 : wr.cell? ⟨p0b, p0o + t3 * 3, none⟩ = some (.int .i64 s3.1) := keep HBW.out (p3hc 0 _ rfl)
                have p3c1 : wr.cell? ⟨p0b, p0o + t3 * 3 + 1, none⟩ = some (.int .i64 s3.2.1) := keep HBW.out (p3hc 1 _ rfl)
                have p3c2 : wr.cell? ⟨p0b, p0o + t3 * 3 + 2, none⟩ = some (.int .i64 s3.2.2) := keep HBW.out (p3hc 2 _ rfl)
                have p3lt : p0b < wr.heap.size := World.block_lt_of_cell? _ _ p3c0
                clear p3hc p3x
                have hw3 := wid_at p3x?
                rw [← ht3] at hw3
                obtain ⟨a3, ha3⟩ : ∃ a, s3.2.1 = a := ⟨_, rfl⟩
                rw [ha3] at hw3 p3c1
                clear p3c0 p3c2 p3x? ha3
                have HMW := Lib.hid (show memWid m x = (decide (a0 = 2) && decide (a2 = 1) && decide (a1 = a3)) by unfold memWid; rw [hw0, hw1, hw2, hw3])
                have HWO := Lib.hid hw3
                clear hw0 hw1 hw2 hw3 ht0 ht1 ht2 ht3 hin0 hin1 hin2 hin3
                have HMB := Lib.hid (show memBits m (i + 1) = memBits m i + a3 by rw [memBits_step m i x HX.out, HWO.out])
                obtain ⟨mb, hmbe⟩ : ∃ mb, memBits m i = mb := ⟨_, rfl⟩
                rw [hmbe] at HMB hmb
                rw [hmbe]
                have ha3 : 0 ≤ a3 ∧ a3 ≤ 4 := by have := wid_bnd HOK.out x.2.2.2; rw [HWO.out] at this; exact this
                clear hmbe
                by_cases h1 : a0 = 2
                · by_cases h2 : a2 = 1
                  · by_cases h3 : a1 = a3
                    · have HS := Lib.hid (AllF.step (f := memWid m) HX.out (by rw [HMW.out, h1, h2, h3]; simp) HL.out)
                      subst h1 h2 h3
                      go_wp2
                      obtain ⟨V, hV⟩ : ∃ V, V = wr.alloc (.cells #[.int .i64 t0, .int .i64 t1, .int .i64 t2, .int .i64 t3] 111) := ⟨_, rfl⟩
                      rw [← hV]
                      have g := eqbox1 hV
                      have y0 : V.cell? ⟨wr.heap.size, 0, none⟩ = some (.int .i64 t0) := box_cell g.1 0 _ rfl
                      have y1 : V.cell? ⟨wr.heap.size, 1, none⟩ = some (.int .i64 t1) := box_cell g.1 1 _ rfl
                      have y2 : V.cell? ⟨wr.heap.size, 2, none⟩ = some (.int .i64 t2) := box_cell g.1 2 _ rfl
                      have y3 : V.cell? ⟨wr.heap.size, 3, none⟩ = some (.int .i64 t3) := box_cell g.1 3 _ rfl
                      have vq0 := keep g.2 q0
                      have vp0c1 := keep g.2 p0c1
                      have vp1c1 := keep g.2 p1c1
                      have vp2c1 := keep g.2 p2c1
                      have vp3c1 := keep g.2 p3c1
                      have HV := Lib.hid g.2
                      clear hV g
                      have ry0 := cell_regrown y0
                      have ry1 := cell_regrown y1
                      have ry2 := cell_regrown y2
                      have ry3 := cell_regrown y3
                      have rvq0 := cell_regrown vq0
                      have rvp0c1 := cell_regrown vp0c1
                      have rvp1c1 := cell_regrown vp1c1
                      have rvp2c1 := cell_regrown vp2c1
                      have rvp3c1 := cell_regrown vp3c1
                      refine wp_region_quiet_below (by kernel_rfl) (by kernel_rfl) ?_
                      repeat (go_big_quiet_step (fail))
                      refine wpQuiet_nil ?_
                      intro _ hw'
                      obtain ⟨⟨dq, osq⟩, hw''⟩ := hw'
                      subst hw''
                      obtain ⟨V2, hV2⟩ : ∃ V2, V2 = Sort.grow (redrawn V dq) osq := ⟨_, rfl⟩
                      have hbV : Below V.heap.size V V2 := by rw [hV2]; exact below_regrown _ _ _
                      rw [← hV2]
                      have HQW := Lib.hid (bThen HV.out hbV)
                      replace vq0 := keep hbV vq0
                      replace vp3c1 := keep hbV vp3c1
                      replace y3 := keep hbV y3
                      clear hV2 hbV ry0 ry1 ry2 ry3 rvq0 rvp0c1 rvp1c1 rvp2c1 rvp3c1
                      go_wp2
                      go_roundw
                      case rel => exact ⟨i + 1, by omega, by go_num, by rw [HMB.out]; go_num, HS.out, bThen HB.out HQW.out⟩
                      case measure => simp [intOf]; omega
                    · have HE := Lib.hid (flat_no3 HR.out i x HX.out (by rw [HMW.out, decide_eq_false h3]; simp))
                      have c3 : (a1 == a3) = false := by simpa using h3
                      have c4 : (a1 != a3) = true := by simpa using h3
                      subst h1 h2
                      clear h3
                      go_wp2
                      obtain ⟨V, hV⟩ : ∃ V, V = wr.alloc (.cells #[.int .i64 t0, .int .i64 t1, .int .i64 t2, .int .i64 t3] 111) := ⟨_, rfl⟩
                      rw [← hV]
                      have g := eqbox1 hV
                      have y0 : V.cell? ⟨wr.heap.size, 0, none⟩ = some (.int .i64 t0) := box_cell g.1 0 _ rfl
                      have y1 : V.cell? ⟨wr.heap.size, 1, none⟩ = some (.int .i64 t1) := box_cell g.1 1 _ rfl
                      have y2 : V.cell? ⟨wr.heap.size, 2, none⟩ = some (.int .i64 t2) := box_cell g.1 2 _ rfl
                      have y3 : V.cell? ⟨wr.heap.size, 3, none⟩ = some (.int .i64 t3) := box_cell g.1 3 _ rfl
                      have vq0 := keep g.2 q0
                      have vp0c1 := keep g.2 p0c1
                      have vp1c1 := keep g.2 p1c1
                      have vp2c1 := keep g.2 p2c1
                      have vp3c1 := keep g.2 p3c1
                      have HV := Lib.hid g.2
                      clear hV g
                      have ry0 := cell_regrown y0
                      have ry1 := cell_regrown y1
                      have ry2 := cell_regrown y2
                      have ry3 := cell_regrown y3
                      have rvq0 := cell_regrown vq0
                      have rvp0c1 := cell_regrown vp0c1
                      have rvp1c1 := cell_regrown vp1c1
                      have rvp2c1 := cell_regrown vp2c1
                      have rvp3c1 := cell_regrown vp3c1
                      refine wp_region_quiet_below (by kernel_rfl) (by kernel_rfl) ?_
                      repeat (go_big_quiet_step (fail))
                      refine wpQuiet_nil ?_
                      intro _ hw'
                      obtain ⟨⟨dq, osq⟩, hw''⟩ := hw'
                      subst hw''
                      obtain ⟨V2, hV2⟩ : ∃ V2, V2 = Sort.grow (redrawn V dq) osq := ⟨_, rfl⟩
                      have hbV : Below V.heap.size V V2 := by rw [hV2]; exact below_regrown _ _ _
                      rw [← hV2]
                      have HQW := Lib.hid (bThen HV.out hbV)
                      replace vq0 := keep hbV vq0
                      replace vp3c1 := keep hbV vp3c1
                      replace y3 := keep hbV y3
                      clear hV2 hbV ry0 ry1 ry2 ry3 rvq0 rvp0c1 rvp1c1 rvp2c1 rvp3c1
                      go_wp2
                      go_ret
                      exact ⟨ret_bool HE.out.symm, bThen HBW.out HQW.out⟩
                  · have HE := Lib.hid (flat_no3 HR.out i x HX.out (by rw [HMW.out, decide_eq_false h2]; simp))
                    have c3 : (a2 == 1) = false := by simpa using h2
                    have c4 : (a2 != 1) = true := by simpa using h2
                    subst h1
                    clear h2
                    go_wp2
                    obtain ⟨V, hV⟩ : ∃ V, V = wr.alloc (.cells #[.int .i64 t0, .int .i64 t1, .int .i64 t2, .int .i64 t3] 111) := ⟨_, rfl⟩
                    rw [← hV]
                    have g := eqbox1 hV
                    have y0 : V.cell? ⟨wr.heap.size, 0, none⟩ = some (.int .i64 t0) := box_cell g.1 0 _ rfl
                    have y1 : V.cell? ⟨wr.heap.size, 1, none⟩ = some (.int .i64 t1) := box_cell g.1 1 _ rfl
                    have y2 : V.cell? ⟨wr.heap.size, 2, none⟩ = some (.int .i64 t2) := box_cell g.1 2 _ rfl
                    have y3 : V.cell? ⟨wr.heap.size, 3, none⟩ = some (.int .i64 t3) := box_cell g.1 3 _ rfl
                    have vq0 := keep g.2 q0
                    have vp0c1 := keep g.2 p0c1
                    have vp1c1 := keep g.2 p1c1
                    have vp2c1 := keep g.2 p2c1
                    have vp3c1 := keep g.2 p3c1
                    have HV := Lib.hid g.2
                    clear hV g
                    have ry0 := cell_regrown y0
                    have ry1 := cell_regrown y1
                    have ry2 := cell_regrown y2
                    have ry3 := cell_regrown y3
                    have rvq0 := cell_regrown vq0
                    have rvp0c1 := cell_regrown vp0c1
                    have rvp1c1 := cell_regrown vp1c1
                    have rvp2c1 := cell_regrown vp2c1
                    have rvp3c1 := cell_regrown vp3c1
                    refine wp_region_quiet_below (by kernel_rfl) (by kernel_rfl) ?_
                    repeat (go_big_quiet_step (fail))
                    refine wpQuiet_nil ?_
                    intro _ hw'
                    obtain ⟨⟨dq, osq⟩, hw''⟩ := hw'
                    subst hw''
                    obtain ⟨V2, hV2⟩ : ∃ V2, V2 = Sort.grow (redrawn V dq) osq := ⟨_, rfl⟩
                    have hbV : Below V.heap.size V V2 := by rw [hV2]; exact below_regrown _ _ _
                    rw [← hV2]
                    have HQW := Lib.hid (bThen HV.out hbV)
                    replace vq0 := keep hbV vq0
                    replace vp3c1 := keep hbV vp3c1
                    replace y3 := keep hbV y3
                    clear hV2 hbV ry0 ry1 ry2 ry3 rvq0 rvp0c1 rvp1c1 rvp2c1 rvp3c1
                    go_wp2
                    go_ret
                    exact ⟨ret_bool HE.out.symm, bThen HBW.out HQW.out⟩
                · have HE := Lib.hid (flat_no3 HR.out i x HX.out (by rw [HMW.out, decide_eq_false h1]; simp))
                  have c3 : (a0 == 2) = false := by simpa using h1
                  have c4 : (a0 != 2) = true := by simpa using h1
                  clear h1
                  go_wp2
                  obtain ⟨V, hV⟩ : ∃ V, V = wr.alloc (.cells #[.int .i64 t0, .int .i64 t1, .int .i64 t2, .int .i64 t3] 111) := ⟨_, rfl⟩
                  rw [← hV]
                  have g := eqbox1 hV
                  have y0 : V.cell? ⟨wr.heap.size, 0, none⟩ = some (.int .i64 t0) := box_cell g.1 0 _ rfl
                  have y1 : V.cell? ⟨wr.heap.size, 1, none⟩ = some (.int .i64 t1) := box_cell g.1 1 _ rfl
                  have y2 : V.cell? ⟨wr.heap.size, 2, none⟩ = some (.int .i64 t2) := box_cell g.1 2 _ rfl
                  have y3 : V.cell? ⟨wr.heap.size, 3, none⟩ = some (.int .i64 t3) := box_cell g.1 3 _ rfl
                  have vq0 := keep g.2 q0
                  have vp0c1 := keep g.2 p0c1
                  have vp1c1 := keep g.2 p1c1
                  have vp2c1 := keep g.2 p2c1
                  have vp3c1 := keep g.2 p3c1
                  have HV := Lib.hid g.2
                  clear hV g
                  have ry0 := cell_regrown y0
                  have ry1 := cell_regrown y1
                  have ry2 := cell_regrown y2
                  have ry3 := cell_regrown y3
                  have rvq0 := cell_regrown vq0
                  have rvp0c1 := cell_regrown vp0c1
                  have rvp1c1 := cell_regrown vp1c1
                  have rvp2c1 := cell_regrown vp2c1
                  have rvp3c1 := cell_regrown vp3c1
                  refine wp_region_quiet_below (by kernel_rfl) (by kernel_rfl) ?_
                  repeat (go_big_quiet_step (fail))
                  refine wpQuiet_nil ?_
                  intro _ hw'
                  obtain ⟨⟨dq, osq⟩, hw''⟩ := hw'
                  subst hw''
                  obtain ⟨V2, hV2⟩ : ∃ V2, V2 = Sort.grow (redrawn V dq) osq := ⟨_, rfl⟩
                  have hbV : Below V.heap.size V V2 := by rw [hV2]; exact below_regrown _ _ _
                  rw [← hV2]
                  have HQW := Lib.hid (bThen HV.out hbV)
                  replace vq0 := keep hbV vq0
                  replace vp3c1 := keep hbV vp3c1
                  replace y3 := keep hbV y3
                  clear hV2 hbV ry0 ry1 ry2 ry3 rvq0 rvp0c1 rvp1c1 rvp2c1 rvp3c1
                  go_wp2
                  go_ret
                  exact ⟨ret_bool HE.out.symm, bThen HBW.out HQW.out⟩
              · obtain rfl : i = m.2.2.2.length := by omega
                have HP := Lib.hid (flat_end HR.out HO.out HL1.out HL2'.out (AllF.done HL.out))
                obtain ⟨mb, hmbe⟩ : ∃ mb, memBits m m.2.2.2.length = mb := ⟨_, rfl⟩
                rw [hmbe] at HBB hmb
                rw [hmbe]
                clear hmbe
                go_wp2_with fail
                refine (specWidths_any m 0 _ _ (good_Module.below HM.out hT HBW.out) (Nat.le_trans hT HBW.out.size)).mono ?_
                rintro e w6 ⟨v6, rfl, ho6, hb6⟩
                have HB6 := Lib.hid (bThen HBW.out hb6)
                replace q0 := keep hb6 q0
                replace q1 := keep hb6 q1
                replace q2 := keep hb6 q2
                replace q3 := keep hb6 q3
                clear hb6
                go_wp2_with fail
                refine (specSum_at (widthsL m 0) v6 _ ho6 (widthsL_len m 0) (widths_small HOK.out 0) S0.out).mono ?_
                rintro e w7 ⟨rfl, rfl⟩
                clear ho6
                by_cases h8 : s0 ≤ 8
                · go_wp2_with fail
                  refine (specWidths_any m 1 _ _ (good_Module.below HM.out hT HB6.out) (Nat.le_trans hT HB6.out.size)).mono ?_
                  rintro e w8 ⟨v8, rfl, ho8, hb8⟩
                  have HB8 := Lib.hid (bThen HB6.out hb8)
                  clear hb8
                  go_wp2_with fail
                  refine (specSum_at (widthsL m 1) v8 _ ho8 (widthsL_len m 1) (widths_small HOK.out 1) S1.out).mono ?_
                  rintro e w9 ⟨rfl, rfl⟩
                  clear ho8
                  by_cases h9 : s1 ≤ 8
                  · by_cases h12 : s3 + mb ≤ 12
                    · have HE := Lib.hid (show r = true by rw [HP.out, HBB.out, decide_eq_true h8, decide_eq_true h9, decide_eq_true h12]; rfl)
                      go_wp2
                      go_ret
                      exact ⟨ret_bool (by first | exact HE.out.symm | (rw [HE.out]; exact decide_eq_true h12)), HB8.out⟩
                    · have HE := Lib.hid (show r = false by rw [HP.out, HBB.out, decide_eq_true h8, decide_eq_true h9, decide_eq_false h12]; rfl)
                      go_wp2
                      go_ret
                      exact ⟨ret_bool (by first | exact HE.out.symm | (rw [HE.out]; exact decide_eq_false (by omega))), HB8.out⟩
                  · have HE := Lib.hid (show r = false by rw [HP.out, HBB.out, decide_eq_true h8, decide_eq_false h9]; rfl)
                    go_wp2
                    go_ret
                    exact ⟨ret_bool HE.out.symm, HB8.out⟩
                · have HE := Lib.hid (show r = false by rw [HP.out, HBB.out, decide_eq_false h8]; rfl)
                  go_wp2
                  go_ret
                  exact ⟨ret_bool HE.out.symm, HB6.out⟩
end Go.Proofs.YtmjofpfkgbnknaaGreat
