/-
  The order of evaluation: the reference.
-/
import Derived.Test.YtmjofpfkgbnknaaGreatEvS
import Derived.Test.YtmjofpfkgbnknaaGreatSWait
import Derived.Test.YtmjofpfkgbnknaaGreatSDes
namespace Go.Proofs.YtmjofpfkgbnknaaGreat
open Go.RowKit
set_option linter.unusedVariables false
set_option linter.unusedSimpArgs false

set_option maxRecDepth 100000 in
set_option maxHeartbeats 12800000 in
theorem specOrder_at (m : DModule) (us : List Value) {B T : Nat} {r : Bool} {L : List Int} (w : World) (h : rdModule B T w us m) (hT : T ≤ w.heap.size) (hr : (orderO m).isSome = r) (hL : (orderO m).getD [] = L) :
    Calls Tryz.prog 71 #[.agg us.toArray] w fun e w' => ∃ v, e = .returned (.tuple #[v, .bool r]) ∧ OwnsI w' w.heap.size v L ∧ Below w.heap.size w w' := by
  obtain ⟨i0, hi, hz0, hz1, hz2⟩ := info_parts infoI
  obtain ⟨iB, hiB, hzB0, hzB1, hzB2⟩ := info_parts infoB
  have HM := Lib.hid (good_Module.wider h (Nat.zero_le B) (Nat.le_refl T))
  have HR := Lib.hid (And.intro hr hL)
  clear hr hL
  obtain ⟨mu0, mu1, mu2, mu3, rfl, mh0, mh1, mh2, mh3⟩ := h
  obtain ⟨mA0, mq0, mf0, mm0, mk0⟩ := mh0
  injection mf0 with mf0
  subst mf0
  unfold maxLen at mm0
  have mE0 := Lib.hid mk0
  clear mk0
  obtain ⟨mA1, mq1, mf1, mm1, mk1⟩ := mh1
  injection mf1 with mf1
  subst mf1
  unfold maxLen at mm1
  have mE1 := Lib.hid mk1
  clear mk1
  obtain ⟨mA2, mq2, mf2, mm2, mk2⟩ := mh2
  injection mf2 with mf2
  subst mf2
  unfold maxLen at mm2
  clear mk2
  obtain ⟨mA3, mq3, mf3, mm3, mk3⟩ := mh3
  injection mf3 with mf3
  subst mf3
  unfold maxLen at mm3
  clear mk3
  by_cases hins : 0 < m.2.2.1.length
  · have hno : designB [m] = false := by
      cases hd : designB [m] with
      | false => rfl
      | true => rw [design_one] at hd; have := insts_nil hd; rw [this] at hins; simp at hins
    have HE := Lib.hid (order_no HR.out.1 HR.out.2 hno)
    clear hno
    go_enter Tryz.func71, Tryz.ntmps71
    go_wp2
    go_ret2
    have h0 := own_newI (w.alloc (.cells #[.slice mA0 (m.1).length mq0, .slice mA1 (m.2.1).length mq1, .slice mA2 (m.2.2.1).length mq2, .slice mA3 (m.2.2.2).length mq3] 31)) w.heap.size (by simp)
    obtain ⟨hr0, hl0⟩ := HE.out
    subst hr0 hl0
    exact ⟨_, rfl, by simpa using h0, by (repeat' (first | assumption | exact Below.refl _ _ | refine bDrewN ?_ _ | refine Below.drew ?_ | refine bAlloc ?_ (Nat.le_refl _) _ | refine bSet ?_ (by first | exact Nat.le_refl _ | omega | (simp <;> omega)) _))⟩
  · have hl0 : m.2.2.1.length = 0 := by omega
    have HM2 := HM.out
    rw [hl0] at HM2 ⊢
    replace HM := Lib.hid HM2
    clear hins HM2 hl0
    obtain ⟨b, hd⟩ : ∃ b, designB [m] = b := ⟨_, rfl⟩
    have HDB := Lib.hid hd
    clear hd
    go_enter Tryz.func71, Tryz.ntmps71
    go_wp2_with fail
    obtain ⟨W, hW⟩ : ∃ W, W = ((w.alloc (.cells #[.slice mA0 (m.1).length mq0, .slice mA1 (m.2.1).length mq1, .slice mA2 0 mq2, .slice mA3 (m.2.2.2).length mq3] 31)).alloc (.cells #[] 3)).alloc (.cells #[.slice mA0 (m.1).length mq0, .slice mA1 (m.2.1).length mq1, .slice mA2 0 mq2, .slice mA3 (m.2.2.2).length mq3] 31) := ⟨_, rfl⟩
    obtain ⟨W0, hW0⟩ : ∃ W0, W0 = w.alloc (.cells #[.slice mA0 (m.1).length mq0, .slice mA1 (m.2.1).length mq1, .slice mA2 0 mq2, .slice mA3 (m.2.2.2).length mq3] 31) := ⟨_, rfl⟩
    have hsz0 : W0.heap.size = w.heap.size + 1 := by rw [hW0]; simp
    have hE0 : OwnsI W W0.heap.size (.slice (some ⟨W0.heap.size, 0, none⟩) 0 0) [] := by
      rw [hW, ← hW0]
      exact (own_newI W0 W0.heap.size (Nat.le_refl _)).below (bAlloc (Below.refl _ _) (Nat.le_refl _) _)
    have hBW : Below W0.heap.size W0 W := by rw [hW, ← hW0]; exact bAlloc (bAlloc (Below.refl _ _) (Nat.le_refl _) _) (Nat.le_refl _) _
    have hszW : W.heap.size = w.heap.size + 3 := by rw [hW]; simp
    rw [← hW]
    have g := eqbox3 hW
    have gg := eqbox1 hW0
    have d0 : W0.cell? ⟨w.heap.size, 0, none⟩ = some (.slice mA0 (m.1).length mq0) := box_cell gg.1 0 _ rfl
    have d1 : W0.cell? ⟨w.heap.size, 1, none⟩ = some (.slice mA1 (m.2.1).length mq1) := box_cell gg.1 1 _ rfl
    have HW0 := Lib.hid gg.2
    have HW := Lib.hid g.2.2.2
    have HB0 := Lib.hid hBW
    have HO0 := Lib.hid hE0
    have hrd := rd_one (good_Module.below HM.out hT g.2.2.2) (Nat.le_trans hT g.2.2.2.size) g.2.2.1
    clear hW g hW0 gg hBW hE0
    refine (specDesign_at [m] _ _ hrd (Nat.le_refl _) HDB.out).mono ?_
    rintro e w1 ⟨rfl, hb1⟩
    have HB1 := Lib.hid (HB0.out.trans (hb1.mono (by omega)))
    have HO1 := Lib.hid (HO0.out.below hb1)
    have e1 := keep HB1.out d1
    have e0 := keep HB1.out d0
    have hsz1 := hb1.size
    clear hb1 hrd
    cases b with
    | false =>
      have HE := Lib.hid (order_no HR.out.1 HR.out.2 HDB.out)
      go_wp2
      go_ret2
      obtain ⟨hr0, hl0⟩ := HE.out
      subst hr0 hl0
      have h := HO1.out.lower (B' := w.heap.size) (by omega)
      exact ⟨_, rfl, by first | exact h | (rw [hsz0] at h; exact h), bThen HW0.out HB1.out⟩
    | true =>
      have HOK := Lib.hid (modOk_of (d := [m]) (K := 0) rfl (by have h := HDB.out; rw [design_one] at h; exact h)).2
      have l0 := HOK.out.l0
      have l1 := HOK.out.l1
      obtain ⟨G, hG⟩ : ∃ G, G = w1.heap.size := ⟨_, rfl⟩
      go_wp2_with (at_make; refine wpList_make_full _ rfl _ _ 137 rfl w1.heap.size 4 iB (.bool false) 1 Tryz.underlying137 hiB hzB0 hzB1 .i64 .i64 (m.1.length : Int) (m.1.length : Int) m.1.length rfl rfl rfl rfl (by rw [hzB2]; omega) (by unfold maxLen; omega) (Nat.le_refl _) ?_; intro w2 hown1 hgrow1)
      have hown : OwnsB w2 W0.heap.size (.slice (some ⟨G, 0, none⟩) m.1.length m.1.length) (waitK m 0) := by
        rw [waitK_zero]
        unfold OwnsB OwnsR
        rw [List.length_replicate, ← made_rows fB 1 fB_len false (.bool false : Value).cells rfl (by omega), hG]
        have h := hown1
        refine ⟨h.1, ?_⟩
        rcases h.2 with h2 | ⟨g', cap', cur', e1', e2', e3', e4'⟩
        · exact .inl h2
        · exact .inr ⟨g', cap', cur', e1', Nat.le_trans HB1.out.size e2', e3', e4'⟩
      have hB2 : Below w1.heap.size w1 w2 := (Below.refl _ _).grown hgrow1 (Nat.le_refl _) (by intro g hg; cases hg)
      have hG2 : G < w2.heap.size := (hown.ltN).1
      rw [← hG]
      have HB2 := Lib.hid hB2
      have HO := Lib.hid hown
      have hG1 : w1.heap.size ≤ G := by omega
      clear hown1 hgrow1 hown hB2 hG
      go_loopw [6, 7] (fun v i wr => ∃ k : Nat, k ≤ m.2.1.length ∧ i = .int .i64 k ∧ v = .int .i64 (leftK m k : Int) ∧ OwnsB wr W0.heap.size (.slice (some ⟨G, 0, none⟩) m.1.length m.1.length) (waitK m k) ∧ Below w1.heap.size w1 wr) (fun _ i _ => m.2.1.length - (intOf i).toNat)
      case atStart => exact ⟨0, Nat.zero_le _, rfl, by rw [leftK_zero]; rfl, HO.out, HB2.out⟩
      case round =>
        obtain ⟨k, hk, rfl, rfl, hown, hb⟩ := hrel
        obtain ⟨W3, rfl⟩ : ∃ W3, W3 = wr := ⟨_, rfl⟩
        clear HO HB2 hG2
        have HO := Lib.hid hown
        have HB := Lib.hid hb
        have HB3 := Lib.hid (HB1.out.trans (hb.mono HB1.out.size))
        have hlk : leftK m k ≤ 30 := Nat.le_trans (cntT_le _) (by rw [waitK_len]; exact l0)
        have q1 := keep hb e1
        have q0 := keep hb e0
        have hG2 : G < W3.heap.size := hown.ltN.1
        clear hown hb
        by_cases hlt : k < m.2.1.length
        · skip
          obtain ⟨ab, ao, ae, _, _, aus, _, ahc, ahr⟩ := mE1.out k hlt
          obtain ⟨a, ax⟩ : ∃ a, m.2.1[k]'hlt = a := ⟨_, rfl⟩
          have ax? : m.2.1[k]? = some a := by rw [List.getElem?_eq_getElem hlt, ax]
          rw [ax] at ahr
          subst ae
          obtain ⟨au0, au1, rfl, ah0, ah1⟩ := ahr
          obtain ⟨af0, -⟩ := ah0
          injection af0 with af0
          subst af0
          obtain ⟨aA1, aq1, af1, am1, ak1⟩ := ah1
          injection af1 with af1
          subst af1
          unfold maxLen at am1
          have aE1 := Lib.hid ak1
          clear ak1
          have ac0 : W3.cell? ⟨ab, ao + k * 2, none⟩ = some (.int .i64 a.1) := keep HB3.out (keep HW0.out (ahc 0 _ rfl))
          have ac1 : W3.cell? ⟨ab, ao + k * 2 + 1, none⟩ = some (.slice aA1 (a.2).length aq1) := keep HB3.out (keep HW0.out (ahc 1 _ rfl))
          have alt : ab < W3.heap.size := World.block_lt_of_cell? _ _ ac0
          clear ahc ax
          have HA := Lib.hid ax?
          obtain ⟨t, hat, ht, _⟩ := HOK.out.asg a (List.mem_of_getElem? ax?)
          clear ax?
          have HAT := Lib.hid hat
          rw [hat] at ac0
          clear hat
          obtain ⟨sb, so, se, _, _, sus, _, shc, shr⟩ := mE0.out t ht
          obtain ⟨s, sx⟩ : ∃ s, m.1[t]'ht = s := ⟨_, rfl⟩
          have hkk := kindI_yes (show m.1[t]? = some s by rw [List.getElem?_eq_getElem ht, sx])
          rw [sx] at shr
          subst se
          obtain ⟨su0, su1, su2, rfl, ⟨sf0, -⟩, ⟨sf1, -⟩, ⟨sf2, -⟩⟩ := shr
          injection sf0 with sf0
          subst sf0
          have s0 : W3.cell? ⟨sb, so + t * 3, none⟩ = some (.int .i64 s.1) := keep HB3.out (keep HW0.out (shc 0 _ rfl))
          obtain ⟨kd, hkd⟩ : ∃ kd, s.1 = kd := ⟨_, rfl⟩
          rw [hkd] at s0 hkk
          have HKK := Lib.hid hkk
          have slt : sb < W3.heap.size := World.block_lt_of_cell? _ _ s0
          clear shc sx hkk hkd
          have hti : (t : Int) < (m.1.length : Int) := by omega
          by_cases h3 : kd = 3
          · have HS := Lib.hid (waitK_reg m k t a HA.out HAT.out ht (by rw [HKK.out]; exact h3))
            have HL := Lib.hid (show leftK m (k + 1) = leftK m k by unfold leftK; rw [HS.out])
            subst h3
            go_wp2
            go_quiet (fail)
            go_wp2
            go_roundw
            case rel => exact ⟨k + 1, by omega, by go_num, by rw [HL.out], by rw [HS.out]; exact HO.out.below ⟨rfl, rfl, rfl, Nat.le_refl _, fun _ _ => rfl⟩, HB.out.trans ⟨rfl, rfl, rfl, Nat.le_refl _, fun _ _ => rfl⟩⟩
            case measure => simp [intOf]; omega
          · have HS := Lib.hid (waitK_step m k t a HA.out HAT.out ht)
            have HL := Lib.hid (leftK_step HOK.out k a HA.out HAT.out ht (by rw [HKK.out]; exact h3))
            have HSV := Lib.hid (show (!decide (kindI m t = 3)) = true by rw [HKK.out, decide_eq_false h3]; rfl)
            have b3 : (kd == 3) = false := by simpa using h3
            have b4 : (kd != 3) = true := by simpa using h3
            have gf := (OwnsB.shapeN (t := t) HO.out (waitK_len m k) ht)
            have g0 := gf.1
            have g1 := gf.2
            clear gf h3
            go_wp2
            go_quiet (fail)
            go_wp2
            go_roundw
            case rel =>
              refine ⟨k + 1, by omega, by go_num, by rw [HL.out]; go_num, ?_, ?_⟩
              · rw [HS.out, HSV.out]
                exact OwnsB.set (HO.out.below ⟨rfl, rfl, rfl, Nat.le_refl _, fun _ _ => rfl⟩) (waitK_len m k) ht true
              · refine bSet (p := ⟨G, t, none⟩) ?_ hG1 _
                exact HB.out.trans ⟨rfl, rfl, rfl, Nat.le_refl _, fun _ _ => rfl⟩
            case measure => simp [intOf]; omega
        · obtain rfl : k = m.2.1.length := by omega
          have hO3 := HO1.out.below HB.out
          have HO3 := Lib.hid hO3
          have hG0 : W0.heap.size < G := by omega
          clear hO3
          go_wp2
          clear e0 e1 q0 q1
          go_loopw [4, 6] (fun v l wr => ∃ (Wt : List Bool) (acc : List Int), Wt.length = m.1.length ∧ evalF m.2.1 (wait0 m) [] = evalF m.2.1 Wt acc ∧ l = .int .i64 (cntT Wt : Int) ∧ acc.length + cntT Wt ≤ 30 ∧ OwnsI wr W0.heap.size v acc ∧ v.ownBlock ≠ some G ∧ OwnsB wr W0.heap.size (.slice (some ⟨G, 0, none⟩) m.1.length m.1.length) Wt ∧ Below W0.heap.size W0 wr) (fun _ l _ => (intOf l).toNat)
          case atStart =>
            refine ⟨wait0 m, [], waitK_len m _, rfl, rfl, ?_, ?_, ?_, HO.out, HB3.out⟩
            · have := cntT_le (wait0 m); have e := waitK_len m m.2.1.length; unfold wait0 at this ⊢; simp; omega
            · first | exact HO3.out | (have h := HO3.out; rw [hsz0] at h ⊢; exact h)
            · intro e; injection e with e; first | omega | (dsimp only at e; omega)
          case round =>
            obtain ⟨Wt, acc, hwl, hev, rfl, hal, hoI, hne, hoB, hb⟩ := hrel
            obtain ⟨W4, rfl⟩ : ∃ W4, W4 = wr := ⟨_, rfl⟩
            clear HO HB HB3 HO3 hG2
            have HEV := Lib.hid hev
            have HOI := Lib.hid hoI
            have HOB := Lib.hid hoB
            have HB4 := Lib.hid hb
            have HNE := Lib.hid hne
            have hG2 : G < W4.heap.size := hoB.ltN.1
            have q1 := keep hb d1
            have hrB := OwnsB.rd hoB
            have HRB := Lib.hid hrB
            clear hev hoI hoB hb hne hrB
            by_cases hz : cntT Wt = 0
            · have HN := Lib.hid (next_zero (L := m.2.1) hz)
              have HE := Lib.hid (order_end HR.out.1 HR.out.2 HDB.out HN.out HEV.out)
              have HA := Lib.hid (show Wt.any id = false by rw [any_cnt, hz]; rfl)
              rw [hz]
              go_wp2
              go_ret2
              have hr0 := HE.out.1
              have hl0 := HE.out.2.2 HA.out
              rw [HA.out] at hr0
              subst hr0 hl0
              exact ⟨_, rfl, HOI.out.lower (by omega), bThen HW0.out HB4.out⟩
            · have t0 : (0 : Int) < (cntT Wt : Int) := by omega
              obtain ⟨cn, hcn⟩ : ∃ cn, cntT Wt = cn := ⟨_, rfl⟩
              rw [hcn] at t0 hal hz ⊢
              have HCN := Lib.hid hcn
              clear hcn
              have t0n : 0 < cn := by omega
              go_wp2
              (try simp only [t0, t0n, decide_true])
              go_loopw [8, 9] (fun nx i ws => ∃ k : Nat, k ≤ m.2.1.length ∧ i = .int .i64 k ∧ ((nx = .int .i64 (-1) ∧ NoneR m.2.1 Wt k) ∨ (∃ j : Nat, nx = .int .i64 j ∧ nextA m.2.1 Wt = some j)) ∧ Below W4.heap.size W4 ws) (fun _ i _ => m.2.1.length - (intOf i).toNat)
              case atStart => exact ⟨0, Nat.zero_le _, rfl, .inl ⟨rfl, NoneR.zero _ _⟩, Below.refl _ _⟩
              case round =>
                obtain ⟨k, hk, rfl, hor, hbs⟩ := hrel
                obtain ⟨W5, rfl⟩ : ∃ W5, W5 = wr := ⟨_, rfl⟩
                have HBS := Lib.hid hbs
                have HB5 := Lib.hid (HB4.out.trans (hbs.mono HB4.out.size))
                replace HOI := Lib.hid (HOI.out.below hbs)
                replace HOB := Lib.hid (OwnsR.below HOB.out hbs)
                replace HRB := Lib.hid (good_BoolS.below HRB.out (Nat.le_refl _) hbs)
                replace q1 := keep hbs q1
                have hG5 : G < W5.heap.size := Nat.lt_of_lt_of_le hG2 hbs.size
                clear hbs hG2
                rcases hor with ⟨rfl, hno⟩ | ⟨j, rfl, hj⟩
                · have HNO := Lib.hid hno
                  clear hno
                  by_cases hlt : k < m.2.1.length
                  · skip
                    obtain ⟨ab, ao, ae, _, _, aus, _, ahc, ahr⟩ := mE1.out k hlt
                    obtain ⟨a, ax⟩ : ∃ a, m.2.1[k]'hlt = a := ⟨_, rfl⟩
                    have ax? : m.2.1[k]? = some a := by rw [List.getElem?_eq_getElem hlt, ax]
                    rw [ax] at ahr
                    subst ae
                    have HAE := Lib.hid ahr
                    obtain ⟨au0, au1, rfl, ah0, ah1⟩ := ahr
                    obtain ⟨af0, -⟩ := ah0
                    injection af0 with af0
                    subst af0
                    obtain ⟨aA1, aq1, af1, am1, ak1⟩ := ah1
                    injection af1 with af1
                    subst af1
                    unfold maxLen at am1
                    have aE1 := Lib.hid ak1
                    clear ak1
                    have ac0 : W5.cell? ⟨ab, ao + k * 2, none⟩ = some (.int .i64 a.1) := keep HB5.out (keep HW0.out (ahc 0 _ rfl))
                    have ac1 : W5.cell? ⟨ab, ao + k * 2 + 1, none⟩ = some (.slice aA1 (a.2).length aq1) := keep HB5.out (keep HW0.out (ahc 1 _ rfl))
                    have alt : ab < W5.heap.size := World.block_lt_of_cell? _ _ ac0
                    clear ahc ax
                    have HA := Lib.hid ax?
                    obtain ⟨t, hat, ht, _, hop⟩ := HOK.out.asg a (List.mem_of_getElem? ax?)
                    clear ax?
                    have HAT := Lib.hid hat
                    have HOP := Lib.hid (readsIn_of hop)
                    rw [hat] at ac0
                    clear hat hop
                    have gf := (OwnsB.shapeN (t := t) HOB.out hwl ht)
                    have g0 := gf.1
                    obtain ⟨q, hq⟩ : ∃ q, Wt.getD t false = q := ⟨_, rfl⟩
                    rw [hq] at g0
                    have HQ := Lib.hid hq
                    have hti : (t : Int) < (m.1.length : Int) := by omega
                    clear gf hq
                    cases q with
                    | false =>
                      have HS := Lib.hid (NoneR.step HA.out (ready_no1 HAT.out HQ.out) HNO.out)
                      go_wp2
                      go_roundw
                      case rel => exact ⟨k + 1, by omega, by go_num, .inl ⟨rfl, HS.out⟩, HBS.out⟩
                      case measure => simp [intOf]; omega
                    | true =>
                      obtain ⟨bw, hbw⟩ : ∃ bw, waitsB a.2 Wt = bw := ⟨_, rfl⟩
                      have HBW := Lib.hid hbw
                      have HRD := Lib.hid (show readyB Wt a = !bw by rw [ready_yes HAT.out HQ.out, hbw])
                      have HOPS := Lib.hid (show rdOpS B T w [.slice aA1 a.2.length aq1] a.2 from ⟨_, _, rfl, by unfold maxLen; exact am1, aE1.out⟩)
                      clear hbw
                      go_wp2_with fail
                      refine (specWaits_at a.2 Wt _ _ _ (good_OpS.below (good_OpS.below HOPS.out hT HW0.out) (Nat.le_trans hT HW0.out.size) HB5.out) HRB.out (by rw [hwl]; exact HOP.out) HBW.out).mono ?_
                      rintro e w5 ⟨rfl, rfl⟩
                      cases bw with
                      | true =>
                        have HS := Lib.hid (NoneR.step HA.out HRD.out HNO.out)
                        go_wp2
                        go_roundw
                        case rel => exact ⟨k + 1, by omega, by go_num, .inl ⟨rfl, HS.out⟩, HBS.out⟩
                        case measure => simp [intOf]; omega
                      | false =>
                        have HS := Lib.hid (NoneR.hit HA.out HRD.out HNO.out)
                        go_wp2
                        go_roundw
                        case rel => exact ⟨k + 1, by omega, by go_num, .inr ⟨k, rfl, HS.out⟩, HBS.out⟩
                        case measure => simp [intOf]; omega
                  · obtain rfl : k = m.2.1.length := by omega
                    have HN := Lib.hid (NoneR.miss HNO.out)
                    have HE := Lib.hid (order_end HR.out.1 HR.out.2 HDB.out HN.out HEV.out)
                    have HA := Lib.hid (show Wt.any id = true by rw [any_cnt, HCN.out]; exact decide_eq_true (by omega))
                    have h0 := (own_newI W5 W5.heap.size (Nat.le_refl _)).lower (B' := w.heap.size) (by have := HB5.out.size; omega)
                    have HO5 := Lib.hid h0
                    clear h0
                    go_wp2
                    go_ret2
                    have hr0 := HE.out.1
                    have hl0 := HE.out.2.1 HA.out
                    rw [HA.out] at hr0
                    subst hr0 hl0
                    exact ⟨_, rfl, HO5.out, bThen HW0.out (bAlloc HB5.out (Nat.le_refl _) _)⟩
                · have HJ := Lib.hid hj
                  obtain ⟨a', ha', htr, htt, _⟩ := nextA_some hj
                  obtain ⟨hjl, hje⟩ := List.getElem?_eq_some_iff.1 ha'
                  obtain ⟨t, hat, ht, _⟩ := HOK.out.asg a' (List.mem_of_getElem? ha')
                  have htg : tgt m.2.1 j = t := by rw [htt, hat]; simp
                  rw [htg] at htr
                  have hc0 : cntT (Wt.set t false) + 1 = cn := by rw [← HCN.out]; exact cnt_set htr
                  obtain ⟨c', hc'⟩ : ∃ c', cntT (Wt.set t false) = c' := ⟨_, rfl⟩
                  rw [hc'] at hc0
                  have HC := Lib.hid hc'
                  have HEV2 := Lib.hid (show evalF m.2.1 (wait0 m) [] = evalF m.2.1 (Wt.set t false) (acc ++ [(j : Int)]) by rw [HEV.out, evalF_some HJ.out, htg])
                  subst hc0
                  clear hj htr htt htg hc'
                  have tj : ¬ (j : Int) < 0 := by omega
                  obtain ⟨ab, ao, ae, _, _, aus, _, ahc, ahr⟩ := mE1.out j hjl
                  obtain ⟨a, ax⟩ : ∃ a, m.2.1[j]'hjl = a := ⟨_, rfl⟩
                  have ax? : m.2.1[j]? = some a := by rw [List.getElem?_eq_getElem hjl, ax]
                  rw [ax] at ahr
                  subst ae
                  obtain ⟨au0, au1, rfl, ah0, ah1⟩ := ahr
                  obtain ⟨af0, -⟩ := ah0
                  injection af0 with af0
                  subst af0
                  obtain ⟨aA1, aq1, af1, am1, ak1⟩ := ah1
                  injection af1 with af1
                  subst af1
                  unfold maxLen at am1
                  have aE1 := Lib.hid ak1
                  clear ak1
                  have ac0 : W0.cell? ⟨ab, ao + j * 2, none⟩ = some (.int .i64 a.1) := keep HW0.out (ahc 0 _ rfl)
                  have ac1 : W0.cell? ⟨ab, ao + j * 2 + 1, none⟩ = some (.slice aA1 (a.2).length aq1) := keep HW0.out (ahc 1 _ rfl)
                  have alt : ab < W0.heap.size := World.block_lt_of_cell? _ _ ac0
                  clear ahc ax
                  obtain rfl : a = a' := by rw [ha'] at ax?; injection ax? with ax?; exact ax?.symm
                  rw [hat] at ac0
                  clear ax? ha' hat hje
                  have hti : (t : Int) < (m.1.length : Int) := by omega
                  have hsr := HB5.out.size
                  have hall : acc.length + 1 ≤ 31 := by omega
                  by_cases hlt : k < m.2.1.length
                  all_goals
                    go_wp2_with (refine wpList_append_lies _ rfl _ _ 49 (by rfl) W0.heap.size 3 i0 _ 1 8 Tryz.underlying49 hi hz0 hz1 hz2 rfl (by omega) u4 acc.length _ (by rfl) (HOI.out.alloc _) ⟨W5.heap.size, 0, none⟩ 1 1 [.int .i64 j] (by rfl) (by rfl) (World.news_of_block (heap_alloc_new W5 _)) (by simp [Value.oneCell']) (by omega) (by unfold maxLen; omega) (by omega) (by simp; omega) (W5.heap.size + 1) (by simp) ?_; intro gg cap w6 hown2 hgrow2 hat2 hlt2; have R := own_addI HOI.out hsr HB5.out (bAlloc (Below.refl _ _) (Nat.le_refl _) _) hgrow2 hown2; have y1 := keep R.2 d1; have ya := keep R.2 ac0; have OB6 := OwnsB.atB (HOB.out.below (bAlloc (Below.refl _ _) (Nat.le_refl _) _)) (hgrow2.block G (by simp; omega) (fun e => HNE.out e.symm)); have gf := OwnsB.shapeN (t := t) OB6 hwl ht; have g0 := gf.1; have g1 := gf.2; have HR6 := Lib.hid (And.intro R OB6); have HG6 := Lib.hid hat2; clear gf R OB6 hat2 hown2 hgrow2 hlt2)
                    have hne6 : (Value.slice (some ⟨gg, 0, none⟩) (acc.length + 1) cap).ownBlock ≠ some G := by
                      intro e
                      injection e with e
                      dsimp only at e
                      rcases HG6.out with h | h
                      · exact HNE.out (by rw [h, e])
                      · omega
                    go_roundw
                    case rel => exact ⟨Wt.set t false, acc ++ [(j : Int)], by rw [List.length_set]; exact hwl, HEV2.out, by first | (rw [HC.out]; done) | (rw [HC.out]; go_num), by rw [HC.out, List.length_append]; simp only [List.length_singleton]; omega, HR6.out.1.1.setFar hne6, hne6, OwnsB.set HR6.out.2 hwl ht false, bSet (p := ⟨G, t, none⟩) HR6.out.1.2 (by dsimp only; omega) _⟩
                    case measure => simp [intOf]
end Go.Proofs.YtmjofpfkgbnknaaGreat
