/-
  What an instance drives, and how often a signal is driven, as the program counts.
-/
import Derived.Test.YtmjofpfkgbnknaaGreatDrvMath
import Derived.Test.YtmjofpfkgbnknaaGreatICnt
namespace Go.Proofs.YtmjofpfkgbnknaaGreat
open Go.RowKit
set_option linter.unusedVariables false
set_option linter.unusedSimpArgs false

set_option maxRecDepth 100000 in
set_option maxHeartbeats 6400000 in
theorem implDriven_any (d : DDesign) (n : DInst) (N : Nat) (c : DModule) (us vs : List Value) {B T B' T' : Nat} (w : World) (hd : rdDesign B T w us d) (hT : T ≤ w.heap.size) (hn : rdInst B' T' w vs n) (hT' : T' ≤ w.heap.size)
    (hN : n.1 = (N : Int)) (hc : d[N]? = some c) (hl : n.2.2.length = (portsL c).length) :
    Calls Tryz.prog 147 #[.agg us.toArray, .agg vs.toArray] w fun e w' => ∃ v, e = .returned v ∧ OwnsI w' w.heap.size v (drivenL c n.2.2) ∧ Below w.heap.size w w' := by
  obtain ⟨i0, hi, hz0, hz1, hz2⟩ := info_parts infoI
  obtain ⟨du, rfl, dh⟩ := hd
  obtain ⟨dA, dq, de, dm, dk⟩ := dh
  injection de with de
  subst de
  unfold maxLen at dm
  have DE := Lib.hid dk
  clear dk
  obtain ⟨nu0, nu1, nu2, rfl, nh0, nh1, nh2⟩ := hn
  obtain ⟨nf0, -⟩ := nh0
  injection nf0 with nf0
  subst nf0
  obtain ⟨nf1, -⟩ := nh1
  injection nf1 with nf1
  subst nf1
  obtain ⟨nA2, nq2, nf2, nm2, nk2⟩ := nh2
  injection nf2 with nf2
  subst nf2
  unfold maxLen at nm2
  have nE2 := Lib.hid nk2
  clear nk2
  have hNl : N < d.length := (List.getElem?_eq_some_iff.1 hc).1
  rw [hN]
  obtain ⟨mb, mo, me, _, _, mus, _, mhc, mhr⟩ := DE.out N hNl
  obtain ⟨m, mx⟩ : ∃ m, d[N]'hNl = m := ⟨_, rfl⟩
  have mx? : d[N]? = some m := by rw [List.getElem?_eq_getElem hNl, mx]
  rw [mx] at mhr
  subst me
  have MR := Lib.hid mhr
  obtain ⟨mu0, mu1, mu2, mu3, rfl, mh0, mh1, mh2, mh3⟩ := mhr
  obtain ⟨mA0, mq0, mf0, mm0, mk0⟩ := mh0
  injection mf0 with mf0
  subst mf0
  unfold maxLen at mm0
  have mE0 := Lib.hid mk0
  clear mk0
  obtain ⟨mA1, mq1, mf1, mm1, mk1⟩ := mh1
  injection mf1 with mf1
  subst mf1
  unfold maxLen at mm1
  have mE1 := Lib.hid mk1
  clear mk1
  obtain ⟨mA2, mq2, mf2, mm2, mk2⟩ := mh2
  injection mf2 with mf2
  subst mf2
  unfold maxLen at mm2
  have mE2 := Lib.hid mk2
  clear mk2
  obtain ⟨mA3, mq3, mf3, mm3, mk3⟩ := mh3
  injection mf3 with mf3
  subst mf3
  unfold maxLen at mm3
  have mE3 := Lib.hid mk3
  clear mk3
  have mc0 : w.cell? ⟨mb, mo + N * 4, none⟩ = some (.slice mA0 (m.1).length mq0) := (mhc 0 _ rfl)
  have mc1 : w.cell? ⟨mb, mo + N * 4 + 1, none⟩ = some (.slice mA1 (m.2.1).length mq1) := (mhc 1 _ rfl)
  have mc2 : w.cell? ⟨mb, mo + N * 4 + 2, none⟩ = some (.slice mA2 (m.2.2.1).length mq2) := (mhc 2 _ rfl)
  have mc3 : w.cell? ⟨mb, mo + N * 4 + 3, none⟩ = some (.slice mA3 (m.2.2.2).length mq3) := (mhc 3 _ rfl)
  have mlt : mb < w.heap.size := World.block_lt_of_cell? _ _ mc0
  clear mhc mx
  obtain rfl : m = c := by rw [mx?] at hc; injection hc
  have HL := Lib.hid hl
  have HP := Lib.hid (portsL_len m)
  clear hc hl mx?
  obtain ⟨q, hq⟩ : ∃ q, (portsL m).length = q := ⟨_, rfl⟩
  have HQ := Lib.hid hq
  have hq30 : q ≤ 30 := by rw [← hq]; exact HP.out
  unfold drivenL
  rw [hq]
  clear hq
  go_enter Tryz.func147, Tryz.ntmps147
  go_wp2_with fail
  refine (implPorts_any m [.slice mA0 (m.1).length mq0, .slice mA1 (m.2.1).length mq1, .slice mA2 (m.2.2.1).length mq2, .slice mA3 (m.2.2.2).length mq3] _ (good_Module.below MR.out hT (by (repeat' (first | assumption | exact Below.refl _ _ | refine bDrewN ?_ _ | refine Below.drew ?_ | refine bAlloc ?_ (Nat.le_refl _) _ | refine bSet ?_ (by first | exact Nat.le_refl _ | omega | (simp <;> omega)) _)))) (Nat.le_trans hT (by simp <;> omega))).mono ?_
  rintro e w1 ⟨p, rfl, hp, hb⟩
  have g := box3 hb
  have b0 : w1.cell? ⟨w.heap.size + 1, 2, none⟩ = some (.slice nA2 n.2.2.length nq2) := box_cell g.2.1 2 _ rfl
  have b1 : w1.cell? ⟨w.heap.size + 1 + 1, 0, none⟩ = some (.slice mA0 m.1.length mq0) := box_cell g.2.2.1 0 _ rfl
  have HW := Lib.hid g.2.2.2
  have hsz := g.2.2.2.size
  have HPO := Lib.hid hp
  obtain ⟨pA, pc, rfl, hpA⟩ := hp.shape
  have HPA := Lib.hid hpA
  have hO := own_nilI w1 w1.heap.size
  have HO0 := Lib.hid hO
  rw [HQ.out]
  clear hb g hp hpA hO
  go_wp2
  go_loopw [6, 18] (fun v i wr => ∃ k : Nat, k ≤ q ∧ i = .int .i64 k ∧ OwnsI wr w1.heap.size v (drivenK m n.2.2 k) ∧ Below w1.heap.size w1 wr) (fun _ i _ => q - (intOf i).toNat)
  case atStart => exact ⟨0, Nat.zero_le _, rfl, HO0.out, Below.refl _ _⟩
  case round =>
    obtain ⟨k, hk, rfl, hown, hb⟩ := hrel
    have HO := Lib.hid hown
    have HB := Lib.hid hb
    have hsr := hb.size
    have hdl := drivenK_len m n.2.2 k
    by_cases hlt : k < q
    · have hkp : k < (portsL m).length := by rw [HQ.out]; exact hlt
      have hkn : k < n.2.2.length := by rw [HL.out]; exact hkp
      obtain ⟨g, rfl, hg, _⟩ := HPA.out k hkp
      have hp? : (portsL m)[k]? = some ((portsL m)[k]'hkp) := List.getElem?_eq_getElem hkp
      obtain ⟨j, hj, s, hs, _⟩ := portsL_at m k _ hp?
      have hgd : (portsL m).getD k 0 = (j : Int) := by rw [List.getD_eq_getElem?_getD, hp?]; exact hj
      rw [hgd] at hg
      rw [hj] at hp?
      have hout := outAt_eq m k j s hp? hs
      have hjl : j < m.1.length := (List.getElem?_eq_some_iff.1 hs).1
      have x0 : wr.cell? ⟨g, k, none⟩ = some (.int .i64 j) := keep hb hg
      have e0 := keep hb b0
      have e1 := keep hb b1
      obtain ⟨sb, so, se, _, _, sus, _, shc, shr⟩ := mE0.out j hjl
      obtain ⟨s', sx⟩ : ∃ s', m.1[j]'hjl = s' := ⟨_, rfl⟩
      have sx? : m.1[j]? = some s' := by rw [List.getElem?_eq_getElem hjl, sx]
      rw [sx] at shr
      subst se
      obtain ⟨su0, su1, su2, rfl, sh0, sh1, sh2⟩ := shr
      obtain ⟨sf0, -⟩ := sh0
      injection sf0 with sf0
      subst sf0
      obtain ⟨sf1, -⟩ := sh1
      injection sf1 with sf1
      subst sf1
      obtain ⟨sf2, -⟩ := sh2
      injection sf2 with sf2
      subst sf2
      have sc0 : wr.cell? ⟨sb, so + j * 3, none⟩ = some (.int .i64 s'.1) := keep hb (keep HW.out (shc 0 _ rfl))
      have sc1 : wr.cell? ⟨sb, so + j * 3 + 1, none⟩ = some (.int .i64 s'.2.1) := keep hb (keep HW.out (shc 1 _ rfl))
      have sc2 : wr.cell? ⟨sb, so + j * 3 + 2, none⟩ = some (.int .i64 s'.2.2) := keep hb (keep HW.out (shc 2 _ rfl))
      have slt : sb < wr.heap.size := World.block_lt_of_cell? _ _ sc0
      clear shc sx
      obtain rfl : s' = s := by rw [sx?] at hs; injection hs
      obtain ⟨pb, po, pe, _, _, pus, _, phc, phr⟩ := nE2.out k hkn
      subst pe
      obtain ⟨p0, _⟩ := phr
      subst p0
      have y0 : wr.cell? ⟨pb, po + k, none⟩ = some (.int .i64 (n.2.2[k]'hkn)) := by
        have h := keep hb (keep HW.out (phc 0 _ rfl))
        rwa [Nat.mul_one, Nat.add_zero] at h
      have hgn : n.2.2.getD k 0 = n.2.2[k]'hkn := by rw [List.getD_eq_getElem?_getD, List.getElem?_eq_getElem hkn]; rfl
      obtain ⟨z, hz⟩ : ∃ z, n.2.2[k]'hkn = z := ⟨_, rfl⟩
      rw [hz] at y0 hgn
      have HS := Lib.hid (And.intro hout hgn)
      clear hown hb b0 b1 HO0 hg hp? hj hs hout hz hgn phc hgd sx?
      obtain ⟨kd, hkd⟩ : ∃ kd, s'.1 = kd := ⟨_, rfl⟩
      rw [hkd] at sc0
      by_cases h1 : kd = 1
      · have hyes : outAt m k = true := by rw [HS.out.1]; unfold isOut; rw [hkd]; simpa using h1
        have HY := Lib.hid (And.intro (drivenK_yes m n.2.2 k hyes) HS.out.2)
        clear hyes hkd
        subst h1
        go_wp2_with (refine wpList_append_lies _ rfl _ _ 49 (by rfl) w1.heap.size 3 i0 _ 1 8 Tryz.underlying49 hi hz0 hz1 hz2 rfl (by omega) u6 (drivenK m n.2.2 k).length _ (by rfl) (HO.out.alloc _) ⟨wr.heap.size, 0, none⟩ 1 1 [.int .i64 z] (by rfl) (by rfl) (World.news_of_block (heap_alloc_new wr _)) (by simp [Value.oneCell']) (by omega) (by unfold maxLen; omega) (by omega) (by simp; omega) (wr.heap.size + 1) (by simp) ?_; intro gg cap w2 hown2 hgrow2 hat2 hlt2)
        have R := own_addI HO.out hsr HB.out (bAlloc (Below.refl _ _) (Nat.le_refl _) _) hgrow2 hown2
        have HR := Lib.hid R
        clear R hown2 hgrow2 hat2 hlt2
        go_roundw
        case rel => exact ⟨k + 1, by omega, by go_num, by rw [HY.out.1, HY.out.2]; exact HR.out.1, HR.out.2⟩
        case measure => simp [intOf]; omega
      · have hno : outAt m k = false := by rw [HS.out.1]; unfold isOut; rw [hkd]; simpa using h1
        have HY := Lib.hid (drivenK_no m n.2.2 k hno)
        have h1' : (kd == 1) = false := by simpa using h1
        clear hno hkd
        go_wp2
        go_roundw
        case rel => exact ⟨k + 1, by omega, by go_num, by rw [HY.out]; exact HO.out, HB.out⟩
        case measure => simp [intOf]; omega
    · obtain rfl : k = q := by omega
      clear hown hb
      go_wp2
      go_ret
      exact ⟨_, rfl, HO.out.lower hsz, bThen HW.out HB.out⟩
end Go.Proofs.YtmjofpfkgbnknaaGreat
