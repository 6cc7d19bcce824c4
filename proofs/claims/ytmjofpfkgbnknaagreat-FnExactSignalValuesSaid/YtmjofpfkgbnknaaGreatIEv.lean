/-
  The order of evaluation: the program.
-/
import Derived.Test.YtmjofpfkgbnknaaGreatEvS
import Derived.Test.YtmjofpfkgbnknaaGreatIWait
import Derived.Test.YtmjofpfkgbnknaaGreatIModAll
import Derived.StillTailTactics
namespace Go.Proofs.YtmjofpfkgbnknaaGreat
open Go.RowKit
set_option linter.unusedVariables false
set_option linter.unusedSimpArgs false

def lenV : Value → Nat
  | .slice _ n _ => n
  | _ => 0

set_option maxRecDepth 100000 in
set_option maxHeartbeats 12800000 in
theorem implOrder_at (m : DModule) (us : List Value) {B T : Nat} {r : Bool} {L : List Int} (w : World) (h : rdModule B T w us m) (hT : T ≤ w.heap.size) (hr : (orderO m).isSome = r) (hL : (orderO m).getD [] = L) :
    Calls Tryz.prog 92 #[.agg us.toArray] w fun e w' => ∃ v, e = .returned (.tuple #[v, .bool r]) ∧ OwnsI w' w.heap.size v L ∧ Below w.heap.size w w' := by
  obtain ⟨i0, hi, hz0, hz1, hz2⟩ := info_parts infoI
  obtain ⟨iB, hiB, hzB0, hzB1, hzB2⟩ := info_parts infoB
  have HM := Lib.hid (good_Module.wider h (Nat.zero_le B) (Nat.le_refl T))
  have HR := Lib.hid (And.intro hr hL)
  clear hr hL
  obtain ⟨mu0, mu1, mu2, mu3, rfl, mh0, mh1, mh2, mh3⟩ := h
  obtain ⟨mA0, mq0, mf0, mm0, mk0⟩ := mh0
  injection mf0 with mf0
  subst mf0
  unfold maxLen at mm0
  have mE0 := Lib.hid mk0
  clear mk0
  obtain ⟨mA1, mq1, mf1, mm1, mk1⟩ := mh1
  injection mf1 with mf1
  subst mf1
  unfold maxLen at mm1
  have mE1 := Lib.hid mk1
  clear mk1
  obtain ⟨mA2, mq2, mf2, mm2, mk2⟩ := mh2
  injection mf2 with mf2
  subst mf2
  unfold maxLen at mm2
  clear mk2
  obtain ⟨mA3, mq3, mf3, mm3, mk3⟩ := mh3
  injection mf3 with mf3
  subst mf3
  unfold maxLen at mm3
  clear mk3
  obtain ⟨b, hd⟩ : ∃ b, moduleB [m] 0 = b := ⟨_, rfl⟩
  have HDB := Lib.hid hd
  clear hd
  go_enter Tryz.func92, Tryz.ntmps92
  go_wp2_with fail
  obtain ⟨W, hW⟩ : ∃ W, W = (w.alloc (.cells #[.slice mA0 (m.1).length mq0, .slice mA1 (m.2.1).length mq1, .slice mA2 (m.2.2.1).length mq2, .slice mA3 (m.2.2.2).length mq3] 31)).alloc (.cells #[.slice mA0 (m.1).length mq0, .slice mA1 (m.2.1).length mq1, .slice mA2 (m.2.2.1).length mq2, .slice mA3 (m.2.2.2).length mq3] 31) := ⟨_, rfl⟩
  obtain ⟨W0, hW0⟩ : ∃ W0, W0 = w.alloc (.cells #[.slice mA0 (m.1).length mq0, .slice mA1 (m.2.1).length mq1, .slice mA2 (m.2.2.1).length mq2, .slice mA3 (m.2.2.2).length mq3] 31) := ⟨_, rfl⟩
  have hsz0 : W0.heap.size = w.heap.size + 1 := by rw [hW0]; simp
  have hBW : Below W0.heap.size W0 W := by rw [hW, ← hW0]; exact bAlloc (Below.refl _ _) (Nat.le_refl _) _
  rw [← hW]
  have g := eqbox2 hW
  have gg := eqbox1 hW0
  have d0 : W0.cell? ⟨w.heap.size, 0, none⟩ = some (.slice mA0 (m.1).length mq0) := box_cell gg.1 0 _ rfl
  have d1 : W0.cell? ⟨w.heap.size, 1, none⟩ = some (.slice mA1 (m.2.1).length mq1) := box_cell gg.1 1 _ rfl
  have d2 : W0.cell? ⟨w.heap.size, 2, none⟩ = some (.slice mA2 (m.2.2.1).length mq2) := box_cell gg.1 2 _ rfl
  have d3 : W0.cell? ⟨w.heap.size, 3, none⟩ = some (.slice mA3 (m.2.2.2).length mq3) := box_cell gg.1 3 _ rfl
  have HW0 := Lib.hid gg.2
  have HB0 := Lib.hid hBW
  have hrd := rd_one (good_Module.below HM.out hT g.2.2) (Nat.le_trans hT g.2.2.size) g.2.1
  clear hW g hW0 gg hBW
  refine (implModule_at [m] 0 _ _ hrd (Nat.le_refl _) HDB.out).mono ?_
  rintro e w1 ⟨rfl, hb1⟩
  have HB1 := Lib.hid (HB0.out.trans (hb1.mono HB0.out.size))
  have e0 := keep HB1.out d0
  have e1 := keep HB1.out d1
  have e2 := keep HB1.out d2
  have e3 := keep HB1.out d3
  have hsz1 := HB1.out.size
  clear hb1 hrd
  cases b with
  | false =>
    have HE := Lib.hid (order_no HR.out.1 HR.out.2 (by rw [design_one]; exact HDB.out))
    go_wp2
    go_ret2
    obtain ⟨hr0, hl0⟩ := HE.out
    subst hr0 hl0
    exact ⟨_, rfl, own_nilI _ _, bThen HW0.out HB1.out⟩
  | true =>
    have HOK := Lib.hid (modOk_of (d := [m]) (K := 0) rfl HDB.out).2
    have HAI := Lib.hid (asgIn_of HOK.out)
    have l0 := HOK.out.l0
    have l1 := HOK.out.l1
    obtain ⟨G, hG⟩ : ∃ G, G = w1.heap.size := ⟨_, rfl⟩
    go_wp2_with (at_make; refine wpList_make_full _ rfl _ _ 137 rfl w1.heap.size 4 iB (.bool false) 1 Tryz.underlying137 hiB hzB0 hzB1 .i64 .i64 (m.1.length : Int) (m.1.length : Int) m.1.length rfl rfl rfl rfl (by rw [hzB2]; omega) (by unfold maxLen; omega) (Nat.le_refl _) ?_; intro w2 hown1 hgrow1; have hB2 : Below w1.heap.size w1 w2 := (Below.refl _ _).grown hgrow1 (Nat.le_refl _) (by intro g hg; cases hg); have f1 := keep hB2 e1)
    have hown : OwnsB w2 W0.heap.size (.slice (some ⟨G, 0, none⟩) m.1.length m.1.length) (waitK m 0) := by
      rw [waitK_zero]
      unfold OwnsB OwnsR
      rw [List.length_replicate, ← made_rows fB 1 fB_len false (.bool false : Value).cells rfl (by omega), hG]
      have h := hown1
      refine ⟨h.1, ?_⟩
      rcases h.2 with h2 | ⟨g', cap', cur', e1', e2', e3', e4'⟩
      · exact .inl h2
      · exact .inr ⟨g', cap', cur', e1', Nat.le_trans HB1.out.size e2', e3', e4'⟩
    have hG2 : G < w2.heap.size := (hown.ltN).1
    rw [← hG]
    have HB2 := Lib.hid hB2
    have HO := Lib.hid hown
    have hG1 : w1.heap.size ≤ G := by omega
    have hGw : w.heap.size < G := by omega
    clear hown1 hgrow1 hown hB2 hG
    go_loopw [21] (fun i wr => ∃ k : Nat, k ≤ m.2.1.length ∧ i = .int .i64 k ∧ OwnsB wr W0.heap.size (.slice (some ⟨G, 0, none⟩) m.1.length m.1.length) (waitK m k) ∧ Below w1.heap.size w1 wr) (fun i _ => m.2.1.length - (intOf i).toNat)
    case atStart => exact ⟨0, Nat.zero_le _, rfl, HO.out, HB2.out⟩
    case round =>
      obtain ⟨k, hk, rfl, hown, hb⟩ := hrel
      obtain ⟨W3, rfl⟩ : ∃ W3, W3 = wr := ⟨_, rfl⟩
      clear HO HB2 hG2 f1
      have HO := Lib.hid hown
      have HB := Lib.hid hb
      have HB3 := Lib.hid (HB1.out.trans (hb.mono HB1.out.size))
      have q0 := keep hb e0
      have q1 := keep hb e1
      have q2 := keep hb e2
      have q3 := keep hb e3
      have hG2 : G < W3.heap.size := hown.ltN.1
      clear hown hb
      by_cases hlt : k < m.2.1.length
      · skip
        obtain ⟨ab, ao, ae, _, _, aus, _, ahc, ahr⟩ := mE1.out k hlt
        obtain ⟨a, ax⟩ : ∃ a, m.2.1[k]'hlt = a := ⟨_, rfl⟩
        have ax? : m.2.1[k]? = some a := by rw [List.getElem?_eq_getElem hlt, ax]
        rw [ax] at ahr
        subst ae
        obtain ⟨au0, au1, rfl, ah0, ah1⟩ := ahr
        obtain ⟨af0, -⟩ := ah0
        injection af0 with af0
        subst af0
        obtain ⟨aA1, aq1, af1, am1, ak1⟩ := ah1
        injection af1 with af1
        subst af1
        unfold maxLen at am1
        have aE1 := Lib.hid ak1
        clear ak1
        have ac0 : W3.cell? ⟨ab, ao + k * 2, none⟩ = some (.int .i64 a.1) := keep HB3.out (keep HW0.out (ahc 0 _ rfl))
        have ac1 : W3.cell? ⟨ab, ao + k * 2 + 1, none⟩ = some (.slice aA1 (a.2).length aq1) := keep HB3.out (keep HW0.out (ahc 1 _ rfl))
        have alt : ab < W3.heap.size := World.block_lt_of_cell? _ _ ac0
        clear ahc ax
        have HA := Lib.hid ax?
        obtain ⟨t, hat, ht, _⟩ := HOK.out.asg a (List.mem_of_getElem? ax?)
        clear ax?
        have HAT := Lib.hid hat
        rw [hat] at ac0
        clear hat
        obtain ⟨sb, so, se, _, _, sus, _, shc, shr⟩ := mE0.out t ht
        obtain ⟨s, sx⟩ : ∃ s, m.1[t]'ht = s := ⟨_, rfl⟩
        have hkk := kindI_yes (show m.1[t]? = some s by rw [List.getElem?_eq_getElem ht, sx])
        rw [sx] at shr
        subst se
        obtain ⟨su0, su1, su2, rfl, ⟨sf0, -⟩, ⟨sf1, -⟩, ⟨sf2, -⟩⟩ := shr
        injection sf0 with sf0
        subst sf0
        have s0 : W3.cell? ⟨sb, so + t * 3, none⟩ = some (.int .i64 s.1) := keep HB3.out (keep HW0.out (shc 0 _ rfl))
        obtain ⟨kd, hkd⟩ : ∃ kd, s.1 = kd := ⟨_, rfl⟩
        rw [hkd] at s0 hkk
        have HKK := Lib.hid hkk
        have slt : sb < W3.heap.size := World.block_lt_of_cell? _ _ s0
        clear shc sx hkk hkd
        have hti : (t : Int) < (m.1.length : Int) := by omega
        have HS := Lib.hid (waitK_step m k t a HA.out HAT.out ht)
        rw [HKK.out] at HS
        have gf := (OwnsB.shapeN (t := t) HO.out (waitK_len m k) ht)
        have g0 := gf.1
        have g1 := gf.2
        clear gf
        go_wp2_with fail
        obtain ⟨V, hV⟩ : ∃ V, V = W3.alloc (.cells #[.int .i64 t, .slice aA1 a.2.length aq1] 102) := ⟨_, rfl⟩
        rw [← hV]
        have g := eqbox1 hV
        have v0 : V.cell? ⟨W3.heap.size, 0, none⟩ = some (.int .i64 t) := box_cell g.1 0 _ rfl
        have v1 := keep g.2 s0
        have v2 := keep g.2 q0
        have v4 := keepF g.2 g0 g1
        have v3 := keep g.2 g0
        have HBV := Lib.hid g.2
        have HOV := Lib.hid (HO.out.below g.2)
        have hszV := g.2.size
        clear hV g g0 g1 s0 q0 q1 q2 q3 ac0 ac1
        go_still_tail 12, (by kernel_rfl)
        change wpList _ _ _ _ _ V.drew
        obtain ⟨V2, hV2⟩ : ∃ V2, V2 = V.drew := ⟨_, rfl⟩
        rw [← hV2]
        have hd2 : Below V.heap.size V V2 := by rw [hV2]; exact ⟨rfl, rfl, rfl, Nat.le_refl _, fun _ _ => rfl⟩
        have g0 := keep hd2 v3
        have g1 := keepF hd2 v3 v4
        have hsz2 := hd2.size
        have HO2 := Lib.hid (HOV.out.below hd2)
        have HB2 := Lib.hid (HB.out.trans ((bThen HBV.out hd2).mono HB.out.size))
        obtain ⟨q, hq⟩ : ∃ q, (kd != 3) = q := ⟨_, rfl⟩
        rw [hq]
        have hsq : (!decide (kd = 3)) = q := by rw [← hq]; by_cases h : kd = 3 <;> simp [h]
        have HS2 := Lib.hid (HS.out.trans (by rw [hsq]))
        clear hV2 hd2 hq hsq v0 v1 v2 v3 v4
        go_wp2
        go_roundw
        case rel => exact ⟨k + 1, by omega, by go_num, by rw [HS2.out]; exact OwnsB.set HO2.out (waitK_len m k) ht q, bSet (p := ⟨G, t, none⟩) HB2.out hG1 _⟩
        case measure => simp [intOf]; omega
      · obtain rfl : k = m.2.1.length := by omega
        have hrB := OwnsB.rd HO.out
        obtain ⟨nx, hnx⟩ : ∃ nx, nxI m.2.1 (wait0 m) = nx := ⟨_, rfl⟩
        have HNX := Lib.hid hnx
        have HRB := Lib.hid hrB
        clear hnx hrB
        go_wp2_with fail
        refine (implNext_at m (wait0 m) _ (.slice (some ⟨G, 0, none⟩) m.1.length m.1.length) _ (good_Module.below (good_Module.below HM.out hT HW0.out) (Nat.le_trans hT HW0.out.size) HB3.out) (Nat.le_trans hT (bThen HW0.out HB3.out).size) HRB.out (Nat.le_refl _) (by unfold wait0; rw [waitK_len]; exact HAI.out) HNX.out).mono ?_
        rintro e w4 ⟨rfl, hb4⟩
        have HB4 := Lib.hid (HB3.out.trans (hb4.mono HB3.out.size))
        have HO4 := Lib.hid (HO.out.below hb4)
        clear hb4 q0 q1 q2 q3 e0 e1 e2 e3
        go_wp2
        go_loopw [7, 8] (fun v nx wr => ∃ (Wt : List Bool) (acc : List Int), Wt.length = m.1.length ∧ evalF m.2.1 (wait0 m) [] = evalF m.2.1 Wt acc ∧ nx = .int .i64 (nxI m.2.1 Wt) ∧ acc.length + cntT Wt ≤ 30 ∧ OwnsI wr W0.heap.size v acc ∧ v.ownBlock ≠ some G ∧ OwnsB wr W0.heap.size (.slice (some ⟨G, 0, none⟩) m.1.length m.1.length) Wt ∧ Below W0.heap.size W0 wr) (fun v _ _ => 31 - lenV v)
        case atStart =>
          refine ⟨wait0 m, [], waitK_len m _, rfl, by rw [HNX.out], ?_, own_nilI _ _, (fun e => by cases e), HO4.out, HB4.out⟩
          have := cntT_le (wait0 m)
          have e := waitK_len m m.2.1.length
          unfold wait0 at this ⊢
          simp
          omega
        case round =>
          obtain ⟨Wt, acc, hwl, hev, rfl, hal, hoI, hne, hoB, hb⟩ := hrel
          obtain ⟨W4, rfl⟩ : ∃ W4, W4 = wr := ⟨_, rfl⟩
          clear HO HB HB3 HO4 HB4 hG2
          have HEV := Lib.hid hev
          have HOI := Lib.hid hoI
          have HOB := Lib.hid hoB
          have HB4 := Lib.hid hb
          have HNE := Lib.hid hne
          have hG2 : G < W4.heap.size := hoB.ltN.1
          have HRB := Lib.hid (OwnsB.rd hoB)
          have hsr := hb.size
          have q0 := keep hb d0
          have q1 := keep hb d1
          have q2 := keep hb d2
          have q3 := keep hb d3
          clear hev hoI hoB hb hne
          cases hnx : nextA m.2.1 Wt with
          | none =>
            have HN := Lib.hid hnx
            rw [nxI_none hnx]
            have HE := Lib.hid (order_end HR.out.1 HR.out.2 (by rw [design_one]; exact HDB.out) hnx HEV.out)
            obtain ⟨q, hq⟩ : ∃ q, Wt.any id = q := ⟨_, rfl⟩
            have HQ := Lib.hid hq
            clear hnx hq
            go_wp2_with fail
            refine (containsB_at Wt _ _ HRB.out HQ.out).mono ?_
            rintro e w5 ⟨rfl, rfl⟩
            cases q with
            | true =>
              go_wp2
              go_ret2
              have hr0 := HE.out.1
              have hl0 := HE.out.2.1 HQ.out
              rw [HQ.out] at hr0
              subst hr0 hl0
              exact ⟨_, rfl, own_nilI _ _, bThen HW0.out HB4.out⟩
            | false =>
              go_wp2
              go_ret2
              have hr0 := HE.out.1
              have hl0 := HE.out.2.2 HQ.out
              rw [HQ.out] at hr0
              subst hr0 hl0
              exact ⟨_, rfl, HOI.out.lower (by omega), bThen HW0.out HB4.out⟩
          | some j =>
            have HJ := Lib.hid hnx
            rw [nxI_some hnx]
            obtain ⟨a', ha', htr, htt, _⟩ := nextA_some hnx
            obtain ⟨hjl, hje⟩ := List.getElem?_eq_some_iff.1 ha'
            obtain ⟨t, hat, ht, _⟩ := HOK.out.asg a' (List.mem_of_getElem? ha')
            have htg : tgt m.2.1 j = t := by rw [htt, hat]; simp
            rw [htg] at htr
            have hc0 := cnt_set htr
            have HEV2 := Lib.hid (show evalF m.2.1 (wait0 m) [] = evalF m.2.1 (Wt.set t false) (acc ++ [(j : Int)]) by rw [HEV.out, evalF_some HJ.out, htg])
            have HC := Lib.hid (show acc.length + 1 + cntT (Wt.set t false) ≤ 30 by omega)
            have hall : acc.length + 1 ≤ 31 := by omega
            obtain ⟨nx, hnx2⟩ : ∃ nx, nxI m.2.1 (Wt.set t false) = nx := ⟨_, rfl⟩
            have HNX := Lib.hid hnx2
            clear hnx htr htt htg hc0 hnx2
            obtain ⟨ab, ao, ae, _, _, aus, _, ahc, ahr⟩ := mE1.out j hjl
            obtain ⟨a, ax⟩ : ∃ a, m.2.1[j]'hjl = a := ⟨_, rfl⟩
            have ax? : m.2.1[j]? = some a := by rw [List.getElem?_eq_getElem hjl, ax]
            rw [ax] at ahr
            subst ae
            obtain ⟨au0, au1, rfl, ah0, ah1⟩ := ahr
            obtain ⟨af0, -⟩ := ah0
            injection af0 with af0
            subst af0
            obtain ⟨aA1, aq1, af1, am1, ak1⟩ := ah1
            injection af1 with af1
            subst af1
            unfold maxLen at am1
            have aE1 := Lib.hid ak1
            clear ak1
            have ac0 : W0.cell? ⟨ab, ao + j * 2, none⟩ = some (.int .i64 a.1) := keep HW0.out (ahc 0 _ rfl)
            have ac1 : W0.cell? ⟨ab, ao + j * 2 + 1, none⟩ = some (.slice aA1 (a.2).length aq1) := keep HW0.out (ahc 1 _ rfl)
            have alt : ab < W0.heap.size := World.block_lt_of_cell? _ _ ac0
            clear ahc ax
            obtain rfl : a = a' := by rw [ha'] at ax?; injection ax? with ax?; exact ax?.symm
            rw [hat] at ac0
            clear ax? ha' hat hje hal
            have hti : (t : Int) < (m.1.length : Int) := by omega
            go_wp2_with (refine wpList_append_lies _ rfl _ _ 49 (by rfl) W0.heap.size 3 i0 _ 1 8 Tryz.underlying49 hi hz0 hz1 hz2 rfl (by omega) u7 acc.length _ (by rfl) (HOI.out.alloc _) ⟨W4.heap.size, 0, none⟩ 1 1 [.int .i64 j] (by rfl) (by rfl) (World.news_of_block (heap_alloc_new W4 _)) (by simp [Value.oneCell']) (by omega) (by unfold maxLen; omega) (by omega) (by simp; omega) (W4.heap.size + 1) (by simp) ?_; intro gg cap w6 hown2 hgrow2 hat2 hlt2; have R := own_addI HOI.out hsr HB4.out (bAlloc (Below.refl _ _) (Nat.le_refl _) _) hgrow2 hown2; have y0 := keep R.2 d0; have y1 := keep R.2 d1; have y2 := keep R.2 d2; have y3 := keep R.2 d3; have ya := keep R.2 ac0; have OB6 := OwnsB.atB (HOB.out.below (bAlloc (Below.refl _ _) (Nat.le_refl _) _)) (hgrow2.block G (by simp; omega) (fun e => HNE.out e.symm)); have gf := OwnsB.shapeN (t := t) OB6 hwl ht; have g0 := gf.1; have g1 := gf.2; have HR6 := Lib.hid (And.intro R OB6); have HG6 := Lib.hid hat2; have hne6 : (Value.slice (some ⟨gg, 0, none⟩) (acc.length + 1) cap).ownBlock ≠ some G := (by intro e; injection e with e; dsimp only at e; rcases HG6.out with h | h; exact HNE.out (by rw [h, e]); omega); have HNE6 := Lib.hid hne6; clear gf R OB6 hat2 hown2 hgrow2 hlt2 hne6)
            obtain ⟨w7, hw7⟩ : ∃ w7, w7 = w6.setCell ⟨G, t, none⟩ (.bool false) := ⟨_, rfl⟩
            rw [← hw7]
            have HO7 := Lib.hid (show OwnsB w7 W0.heap.size (.slice (some ⟨G, 0, none⟩) m.1.length m.1.length) (Wt.set t false) by rw [hw7]; exact OwnsB.set HR6.out.2 hwl ht false)
            have HB7 := Lib.hid (show Below W0.heap.size W0 w7 by rw [hw7]; exact bSet (p := ⟨G, t, none⟩) HR6.out.1.2 (by dsimp only; omega) _)
            have HI7 := Lib.hid (show OwnsI w7 W0.heap.size (.slice (some ⟨gg, 0, none⟩) (acc.length + 1) cap) (acc ++ [(j : Int)]) by rw [hw7]; exact HR6.out.1.1.setFar HNE6.out)
            clear hw7 y0 y1 y2 y3 ya g0 g1
            refine (implNext_at m (Wt.set t false) _ (.slice (some ⟨G, 0, none⟩) m.1.length m.1.length) _ (good_Module.below (good_Module.below HM.out hT HW0.out) (Nat.le_trans hT HW0.out.size) HB7.out) (Nat.le_trans hT (bThen HW0.out HB7.out).size) (OwnsB.rd HO7.out) (Nat.le_refl _) (by rw [List.length_set, hwl]; exact HAI.out) HNX.out).mono ?_
            rintro e w8 ⟨rfl, hb8⟩
            have HO8 := Lib.hid (HO7.out.below hb8)
            have HI8 := Lib.hid (HI7.out.below hb8)
            have HB8 := Lib.hid (HB7.out.trans (hb8.mono HB7.out.size))
            clear hb8
            go_wp2
            go_roundw
            case rel => exact ⟨Wt.set t false, acc ++ [(j : Int)], by rw [List.length_set]; exact hwl, HEV2.out, by rw [HNX.out], by rw [List.length_append]; exact HC.out, HI8.out, HNE6.out, HO8.out, HB8.out⟩
            case measure =>
              obtain ⟨_, _, he, _⟩ := HOI.out.shape
              rw [he]
              simp [lenV]
              omega
end Go.Proofs.YtmjofpfkgbnknaaGreat
