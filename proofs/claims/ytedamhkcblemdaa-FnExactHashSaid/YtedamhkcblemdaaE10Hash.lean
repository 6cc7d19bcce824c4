/-
  The walk of the exact law over Hash.
-/
import Derived.Test.YtedamhkcblemdaaHjC
import Derived.Test.YtedamhkcblemdaaHjA
import Derived.Test.YtedamhkcblemdaaDmN
import Derived.Test.YtedamhkcblemdaaDzN
import Derived.Test.YtedamhkcblemdaaDoN
import Derived.Test.YtedamhkcblemdaaRgN
import Derived.Deep.RegionHeld3
namespace Go.Proofs.Ytedamhkcblemdaa
open Go.RowKit
set_option linter.unusedVariables false
set_option linter.unusedSimpArgs false
theorem below_sims {B T N : Nat} {a w1 w2 : World} (hb : Below N a w1) (h : Sims B T w1 w2) (hN : N ≤ B ∧ N ≤ w1.heap.size) : Below N a w2 :=
  ⟨h.os.trans hb.os, h.tape.trans hb.tape, h.output.trans hb.output, Nat.le_trans hb.size h.size, fun k hk => (h.block k (Nat.lt_of_lt_of_le hk hN.2) (.inl (Nat.lt_of_lt_of_le hk hN.1))).trans (hb.block k hk)⟩
theorem below_chg {bs : List Nat} {N : Nat} {a w1 w2 : World} (hb : Below N a w1) (h : ChgL bs w1 w2) (hN : ∀ b ∈ bs, N ≤ b) (hs : N ≤ w1.heap.size := by omega) : Below N a w2 :=
  ⟨h.os.trans hb.os, h.tape.trans hb.tape, h.output.trans hb.output, Nat.le_trans hb.size h.size, fun k hk => (h.block k (Nat.lt_of_lt_of_le hk hs) (fun hm => by have := hN k hm; omega)).trans (hb.block k hk)⟩
set_option maxHeartbeats 3200000 in
theorem markNet_cap (x : DNet) (us : List Value) {B T : Nat} {cap : Int} (k : Int) (w0 wb w : World) (h : rwNet B T w0 us x) (hT : T ≤ w0.heap.size) (hs : Sims B T w0 w) (hsb : Sims B T wb w) (hk0 : 0 ≤ k) (hk : k + ((cntSeqS (x.2.1) : Int) + (cntAndS (x.2.2.1) : Int) + (cntIntS (x.2.2.2) : Int)) ≤ cap) (hcap : cap ≤ 9000000000000000000) :
    Calls Try.prog 36 #[.agg us.toArray, .int .i64 k] w fun e w' => (∃ r : Int, 0 ≤ r ∧ r ≤ cap ∧ e = .returned (.int .i64 r)) ∧ Sims B T w0 w' ∧ Sims B T wb w' := by
  have HS := Lib.hid (And.intro hs hsb)
  clear hs hsb
  obtain ⟨x0, x1, x2, x3, rfl, xh0, xh1, xh2, xh3⟩ := h
  obtain ⟨xe0, -⟩ := xh0
  injection xe0 with xe0
  subst xe0
  have xR1 := Lib.hid xh1
  obtain ⟨xA1, xq1, xe1, xm1, -⟩ := xh1
  injection xe1 with xe1
  subst xe1
  have xR2 := Lib.hid xh2
  obtain ⟨xA2, xq2, xe2, xm2, -⟩ := xh2
  injection xe2 with xe2
  subst xe2
  have xR3 := Lib.hid xh3
  obtain ⟨xA3, xq3, xe3, xm3, -⟩ := xh3
  injection xe3 with xe3
  subst xe3
  obtain ⟨t1, ht1⟩ : ∃ c : Int, (cntSeqS (x.2.1) : Int) = c := ⟨_, rfl⟩
  have HC1 := Lib.hid ht1
  have h1 : 0 ≤ t1 := by omega
  obtain ⟨t2, ht2⟩ : ∃ c : Int, (cntAndS (x.2.2.1) : Int) = c := ⟨_, rfl⟩
  have HC2 := Lib.hid ht2
  have h2 : 0 ≤ t2 := by omega
  obtain ⟨t3, ht3⟩ : ∃ c : Int, (cntIntS (x.2.2.2) : Int) = c := ⟨_, rfl⟩
  have HC3 := Lib.hid ht3
  have h3 : 0 ≤ t3 := by omega
  rw [ht1, ht2, ht3] at hk
  clear ht1 ht2 ht3
  go_enter Try.func36, Try.ntmps36
  go_wp2_with fail
  obtain ⟨V, hV⟩ : ∃ V, V = w.alloc (.cells #[.int .i64 x.1, .slice xA1 (x.2.1).length xq1, .slice xA2 (x.2.2.1).length xq2, .slice xA3 (x.2.2.2).length xq3] 36) := ⟨_, rfl⟩
  rw [← hV]
  have g := eqbox1 hV
  have c0 : V.cell? ⟨w.heap.size, 0, none⟩ = some (.int .i64 x.1) := box_cell g.1 0 _ rfl
  have c1 : V.cell? ⟨w.heap.size, 1, none⟩ = some (.slice xA1 (x.2.1).length xq1) := box_cell g.1 1 _ rfl
  have c2 : V.cell? ⟨w.heap.size, 2, none⟩ = some (.slice xA2 (x.2.2.1).length xq2) := box_cell g.1 2 _ rfl
  have c3 : V.cell? ⟨w.heap.size, 3, none⟩ = some (.slice xA3 (x.2.2.2).length xq3) := box_cell g.1 3 _ rfl
  have HR0 := Lib.hid (And.intro (HS.out.1.below g.2) (HS.out.2.below g.2))
  have HG := Lib.hid g.1
  have hlt : T ≤ w.heap.size := Nat.le_trans hT HS.out.1.size
  have HV0 := Lib.hid (Sims.refl B T V)
  clear hV g
  obtain ⟨Vp0, hvp⟩ : ∃ Vp, Vp = V := ⟨_, rfl⟩
  refine (markSeqS_both (x.2.1) _ _ w0 wb V _ xR1.out hT HR0.out.1 HR0.out.2 HV0.out (by omega) (by rw [HC1.out]; omega)).mono ?_
  rintro e W1 ⟨rfl, hr, hrb, hrv⟩
  rw [HC1.out]
  have HR1 := Lib.hid (And.intro hr hrb)
  have HV1 := Lib.hid hrv
  have c0' : W1.cell? ⟨w.heap.size, 0, none⟩ = some (.int .i64 x.1) := sims_box hrv HG.out hlt 0 _ rfl
  have c1' : W1.cell? ⟨w.heap.size, 1, none⟩ = some (.slice xA1 (x.2.1).length xq1) := sims_box hrv HG.out hlt 1 _ rfl
  have c2' : W1.cell? ⟨w.heap.size, 2, none⟩ = some (.slice xA2 (x.2.2.1).length xq2) := sims_box hrv HG.out hlt 2 _ rfl
  have c3' : W1.cell? ⟨w.heap.size, 3, none⟩ = some (.slice xA3 (x.2.2.2).length xq3) := sims_box hrv HG.out hlt 3 _ rfl
  clear hr hrb hrv hvp c0 c1 c2 c3
  have c0 := c0'
  have c1 := c1'
  have c2 := c2'
  have c3 := c3'
  clear c0' c1' c2' c3'
  go_wp2_with fail
  obtain ⟨Vp1, hvp⟩ : ∃ Vp, Vp = W1 := ⟨_, rfl⟩
  refine (markAndS_both (x.2.2.1) _ _ w0 wb V _ xR2.out hT HR1.out.1 HR1.out.2 HV1.out (by omega) (by rw [HC2.out]; omega)).mono ?_
  rintro e W2 ⟨rfl, hr, hrb, hrv⟩
  rw [HC2.out]
  have HR2 := Lib.hid (And.intro hr hrb)
  have HV2 := Lib.hid hrv
  have c0' : W2.cell? ⟨w.heap.size, 0, none⟩ = some (.int .i64 x.1) := sims_box hrv HG.out hlt 0 _ rfl
  have c1' : W2.cell? ⟨w.heap.size, 1, none⟩ = some (.slice xA1 (x.2.1).length xq1) := sims_box hrv HG.out hlt 1 _ rfl
  have c2' : W2.cell? ⟨w.heap.size, 2, none⟩ = some (.slice xA2 (x.2.2.1).length xq2) := sims_box hrv HG.out hlt 2 _ rfl
  have c3' : W2.cell? ⟨w.heap.size, 3, none⟩ = some (.slice xA3 (x.2.2.2).length xq3) := sims_box hrv HG.out hlt 3 _ rfl
  clear hr hrb hrv hvp c0 c1 c2 c3
  have c0 := c0'
  have c1 := c1'
  have c2 := c2'
  have c3 := c3'
  clear c0' c1' c2' c3'
  go_wp2_with fail
  obtain ⟨Vp2, hvp⟩ : ∃ Vp, Vp = W2 := ⟨_, rfl⟩
  refine (markIntS_both (x.2.2.2) _ _ w0 wb V _ xR3.out hT HR2.out.1 HR2.out.2 HV2.out (by omega) (by rw [HC3.out]; omega)).mono ?_
  rintro e W3 ⟨rfl, hr, hrb, hrv⟩
  rw [HC3.out]
  have HR3 := Lib.hid (And.intro hr hrb)
  have HV3 := Lib.hid hrv
  have c0' : W3.cell? ⟨w.heap.size, 0, none⟩ = some (.int .i64 x.1) := sims_box hrv HG.out hlt 0 _ rfl
  have c1' : W3.cell? ⟨w.heap.size, 1, none⟩ = some (.slice xA1 (x.2.1).length xq1) := sims_box hrv HG.out hlt 1 _ rfl
  have c2' : W3.cell? ⟨w.heap.size, 2, none⟩ = some (.slice xA2 (x.2.2.1).length xq2) := sims_box hrv HG.out hlt 2 _ rfl
  have c3' : W3.cell? ⟨w.heap.size, 3, none⟩ = some (.slice xA3 (x.2.2.2).length xq3) := sims_box hrv HG.out hlt 3 _ rfl
  clear hr hrb hrv hvp c0 c1 c2 c3
  have c0 := c0'
  have c1 := c1'
  have c2 := c2'
  have c3 := c3'
  clear c0' c1' c2' c3'
  go_wp2
  go_ret
  exact ⟨⟨_, by omega, by omega, rfl⟩, HR3.out.1, HR3.out.2⟩
theorem netG_ow {w : World} {B : Nat} {v1 vA v3 : Value} {rows : List V3} {bs : List Nat} {n : DNet} (h : NetG B w v1 vA v3 rows bs n) :
    owNet ((blkL v1 ++ bs) ++ (blkL vA ++ blkL v3)) w [.int .i64 n.1, v1, vA, v3] n ∧ ((blkL v1 ++ bs) ++ (blkL vA ++ blkL v3)).Nodup ∧ ∀ b ∈ (blkL v1 ++ bs) ++ (blkL vA ++ blkL v3), B ≤ b ∧ b < w.heap.size := by
  have ha := h.a.ow fAnd_len
  have ho := h.o.ow fInt_len
  rw [List.append_nil] at ha ho
  refine ⟨⟨[], _, _, _, _, _, _, _, rfl, rfl, ⟨rfl, rfl, h.fit⟩, h.s.ow fV3_len, ha, ho⟩, ?_, fun b hb => ?_⟩
  · refine List.nodup_append.2 ⟨h.s.nd, List.nodup_append.2 ⟨by have := h.a.nd; simpa using this, by have := h.o.nd; simpa using this, fun a ha b hb e => h.ao a ha (e ▸ hb)⟩, fun a ha b hb e => ?_⟩
    subst e
    rcases List.mem_append.1 hb with hb | hb
    · exact h.sa a ha hb
    · exact h.so a ha hb
  · have := h.lt (b := b) (by simp only [List.mem_append] at hb ⊢; rcases hb with (hb | hb) | hb | hb <;> simp [hb])
    exact ⟨this.2, this.1⟩
theorem cntAnd_len (L : List DAnd) : cntAndS L = 2 * L.length := by
  unfold cntAndS
  induction L with
  | nil => rfl
  | cons x L ih => rw [List.map_cons, List.sum_cons, ih]; unfold cntAnd; simp; omega
theorem cntSeq_len (L : List DSeq) (h : ∀ s ∈ L, seqB s = true) : cntSeqS L ≤ 6 * L.length := by
  unfold cntSeqS
  induction L with
  | nil => simp
  | cons x L ih =>
    rw [List.map_cons, List.sum_cons, List.length_cons]
    have h1 := ih fun s hs => h s (List.mem_cons_of_mem _ hs)
    have h2 := seq_ins (h x (by simp))
    have h3 : cntSeq x = 2 + x.2.2.length := rfl
    omega
theorem net_cnt {m : DNet} (hP : NetP m) : cntSeqS m.2.1 + cntAndS m.2.2.1 + cntIntS m.2.2.2 ≤ 1099516870700 := by
  have h1 := cntSeq_len m.2.1 hP.seq
  have h2 := cntAnd_len m.2.2.1
  have h3 := hP.sz.s12
  have h4 := hP.sz.a300
  have h5 := hP.sz.o16
  unfold cntIntS
  omega
theorem sweep_cnt (n : DNet) : cntSeqS (sweepO n).2.1 + cntAndS (sweepO n).2.2.1 + cntIntS (sweepO n).2.2.2 ≤ 1099516870700 := by
  by_cases h : netB n = true
  · exact net_cnt (sweep_net (netP_of h))
  · have e : sweepO n = zeroN := by unfold sweepO; rw [if_neg h]
    rw [e]; decide
theorem hash_cnt (n : DNet) : cntSeqS (hashO n).2.1 + cntAndS (hashO n).2.2.1 + cntIntS (hashO n).2.2.2 ≤ 1099516870700 := by
  by_cases h : netB n = true
  · exact net_cnt (hash_net (netP_of h))
  · have e : hashO n = zeroN := by unfold hashO; rw [if_neg h]
    rw [e]; decide

theorem specG (n : DNet) (us : List Value) (w : World) (h : rdNet 0 w.heap.size w us n) {m : DNet} (hL : hashO n = m) :
    Calls Try.prog 33 #[.agg us.toArray] w fun e w' => ∃ (vs : List Value) (bs : List Nat), e = .returned (.agg vs.toArray) ∧ owNet bs w' vs m ∧ bs.Nodup ∧ (∀ b ∈ bs, w.heap.size ≤ b ∧ b < w'.heap.size) ∧ Below w.heap.size w w' := by
  refine (specHash_at n us w h hL).mono ?_
  rintro e w' ⟨v1, vA, v3, rows, bs, rfl, hn, hb⟩
  obtain ⟨o1, o2, o3⟩ := netG_ow hn
  exact ⟨[.int .i64 m.1, v1, vA, v3], _, rfl, o1, o2, o3, hb⟩

theorem implG (n : DNet) (us : List Value) (w : World) (h : rdNet 0 w.heap.size w us n) {m : DNet} (hL : hashO n = m) :
    Calls Try.prog 22 #[.agg us.toArray] w fun e w' => ∃ (vs : List Value) (bs : List Nat), e = .returned (.agg vs.toArray) ∧ owNet bs w' vs m ∧ bs.Nodup ∧ (∀ b ∈ bs, w.heap.size ≤ b ∧ b < w'.heap.size) ∧ Below w.heap.size w w' := by
  refine (implHash_at n us w h hL).mono ?_
  rintro e w' ⟨v1, vA, v3, rows, bs, rfl, hn, hb⟩
  obtain ⟨o1, o2, o3⟩ := netG_ow hn
  exact ⟨[.int .i64 m.1, v1, vA, v3], _, rfl, o1, o2, o3, hb⟩

set_option maxRecDepth 100000 in
set_option maxHeartbeats 25600000 in
theorem exactHash_walk (av0 av1 av2 av3 : Value) (za : DNet) (w : World) (ha : rdNet 0 w.heap.size w [av0, av1, av2, av3] za) :
    Calls Try.prog 8 #[.agg #[av0, av1, av2, av3]] w fun e w' => e = .returned (.bool true) ∧ Below w.heap.size w w' := by
  have HDa := Lib.hid ha
  obtain ⟨aw0, aw1, aw2, aw3, ade, ah0, ah1, ah2, ah3⟩ := ha
  injection ade with ad0 ade
  injection ade with ad1 ade
  injection ade with ad2 ade
  injection ade with ad3 ade
  subst ad0 ad1 ad2 ad3
  clear ade
  obtain ⟨ae0, -⟩ := ah0
  injection ae0 with ae0
  subst ae0
  obtain ⟨aA1, ac1, ae1, am1, -⟩ := ah1
  injection ae1 with ae1
  subst ae1
  unfold maxLen at am1
  obtain ⟨aA2, ac2, ae2, am2, -⟩ := ah2
  injection ae2 with ae2
  subst ae2
  unfold maxLen at am2
  obtain ⟨aA3, ac3, ae3, am3, -⟩ := ah3
  injection ae3 with ae3
  subst ae3
  unfold maxLen at am3
  obtain ⟨r0, hr0⟩ : ∃ r0, hashO za = r0 := ⟨_, rfl⟩
  have HR0 := Lib.hid hr0
  have HBD := Lib.hid (show cntSeqS r0.2.1 + cntAndS r0.2.2.1 + cntIntS r0.2.2.2 ≤ 1099516870700 by rw [← hr0]; exact hash_cnt za)
  clear hr0
  have HW := Lib.hid (Below.refl w.heap.size w)
  go_enter Try.func8, Try.ntmps8
  go_wp2_with fail
  obtain ⟨V1, hV⟩ : ∃ V1, V1 = (w.alloc (.cells #[.int .i64 za.1, .slice aA1 (za.2.1).length ac1, .slice aA2 (za.2.2.1).length ac2, .slice aA3 (za.2.2.2).length ac3] 47)) := ⟨_, rfl⟩
  rw [← hV]
  have gN := eqbox1 hV
  have aa0 : V1.cell? ⟨w.heap.size, 0, none⟩ = some (.int .i64 za.1) := box_cell gN.1 0 _ rfl
  have aa1 : V1.cell? ⟨w.heap.size, 1, none⟩ = some (.slice aA1 (za.2.1).length ac1) := box_cell gN.1 1 _ rfl
  have aa2 : V1.cell? ⟨w.heap.size, 2, none⟩ = some (.slice aA2 (za.2.2.1).length ac2) := box_cell gN.1 2 _ rfl
  have aa3 : V1.cell? ⟨w.heap.size, 3, none⟩ = some (.slice aA3 (za.2.2.2).length ac3) := box_cell gN.1 3 _ rfl
  have t1 : V1.heap.size = w.heap.size + 1 := by rw [hV]; simp
  replace HW := Lib.hid (bThen HW.out gN.2)
  have s1 : w.heap.size ≤ V1.heap.size := (gN.2).size
  clear hV gN
  refine (szNet_post za [.int .i64 za.1, .slice aA1 (za.2.1).length ac1, .slice aA2 (za.2.2.1).length ac2, .slice aA3 (za.2.2.2).length ac3] 1048576 _ (good_Net.below HDa.out (Nat.le_refl _) HW.out) HW.out.size (by omega) (by omega)).mono ?_
  rintro e w2 ⟨lfa, rfl, hrN, hbN⟩
  replace aa0 := keep hbN aa0
  replace aa1 := keep hbN aa1
  replace aa2 := keep hbN aa2
  replace aa3 := keep hbN aa3
  replace HW := Lib.hid (bThen HW.out hbN)
  have s2 : V1.heap.size ≤ w2.heap.size := (hbN).size
  clear hbN
  rcases hrN with rfl | ⟨pa, qa, sN⟩
  · go_wp2
    go_ret
    exact ⟨rfl, HW.out⟩
  have ta : ¬ lfa < 0 := by omega
  have HSa := Lib.hid sN
  clear sN
  go_wp2_with fail
  refine (toNet_any za [.int .i64 za.1, .slice aA1 (za.2.1).length ac1, .slice aA2 (za.2.2.1).length ac2, .slice aA3 (za.2.2.2).length ac3] _ (good_Net.below HDa.out (Nat.le_refl _) HW.out) HW.out.size HSa.out).mono ?_
  rintro e w3 ⟨y0, rfl, hxN, hbN⟩
  replace aa0 := keep hbN aa0
  replace aa1 := keep hbN aa1
  replace aa2 := keep hbN aa2
  replace aa3 := keep hbN aa3
  replace HW := Lib.hid (bThen HW.out hbN)
  have s3 : w2.heap.size ≤ w3.heap.size := (hbN).size
  have Hy0 := Lib.hid hxN
  have By0 := Lib.hid (Below.refl w3.heap.size w3)
  obtain ⟨y0u0, y0u1, y0u2, y0u3, rfl, y0h0, y0h1, y0h2, y0h3⟩ := hxN
  obtain ⟨y0e0, -⟩ := y0h0
  injection y0e0 with y0e0
  subst y0e0
  obtain ⟨y0A1, y0c1, y0e1, y0m1, -⟩ := y0h1
  injection y0e1 with y0e1
  subst y0e1
  unfold maxLen at y0m1
  obtain ⟨y0A2, y0c2, y0e2, y0m2, -⟩ := y0h2
  injection y0e2 with y0e2
  subst y0e2
  unfold maxLen at y0m2
  obtain ⟨y0A3, y0c3, y0e3, y0m3, -⟩ := y0h3
  injection y0e3 with y0e3
  subst y0e3
  unfold maxLen at y0m3
  clear hbN
  go_wp2_with fail
  refine (specG za _ _ (good_Net.wider (good_Net.below Hy0.out (Nat.le_refl _) By0.out) (Nat.zero_le _) By0.out.size) HR0.out).mono ?_
  rintro e w4 ⟨s0v, s0bs, rfl, oN, ndN, bsN, hbN⟩
  replace aa0 := keep hbN aa0
  replace aa1 := keep hbN aa1
  replace aa2 := keep hbN aa2
  replace aa3 := keep hbN aa3
  replace By0 := Lib.hid (bThen By0.out hbN)
  replace HW := Lib.hid (bThen HW.out hbN)
  have s4 : w3.heap.size ≤ w4.heap.size := (hbN).size
  have rdN := rds_Net _ _ _ _ _ _ oN bsN
  have Hs0 := Lib.hid rdN
  have Bs0 := Lib.hid (Below.refl w4.heap.size w4)
  clear oN ndN bsN hbN
  obtain ⟨s0u0, s0u1, s0u2, s0u3, rfl, s0h0, s0h1, s0h2, s0h3⟩ := rdN
  obtain ⟨s0e0, -⟩ := s0h0
  injection s0e0 with s0e0
  subst s0e0
  obtain ⟨s0A1, s0c1, s0e1, s0m1, -⟩ := s0h1
  injection s0e1 with s0e1
  subst s0e1
  unfold maxLen at s0m1
  obtain ⟨s0A2, s0c2, s0e2, s0m2, -⟩ := s0h2
  injection s0e2 with s0e2
  subst s0e2
  unfold maxLen at s0m2
  obtain ⟨s0A3, s0c3, s0e3, s0m3, -⟩ := s0h3
  injection s0e3 with s0e3
  subst s0e3
  unfold maxLen at s0m3
  clear Hy0 By0
  have ltaa0 : w.heap.size < w4.heap.size := World.block_lt_of_cell? _ _ aa0
  go_wp2_with fail
  clear ltaa0
  obtain ⟨V5, hV⟩ : ∃ V5, V5 = (w4.alloc (.cells #[.int .i64 r0.1, .slice s0A1 (r0.2.1).length s0c1, .slice s0A2 (r0.2.2.1).length s0c2, .slice s0A3 (r0.2.2.2).length s0c3] 36)) := ⟨_, rfl⟩
  rw [← hV]
  have gN := eqbox1 hV
  have e00 : V5.cell? ⟨w4.heap.size, 0, none⟩ = some (.int .i64 r0.1) := box_cell gN.1 0 _ rfl
  have e01 : V5.cell? ⟨w4.heap.size, 1, none⟩ = some (.slice s0A1 (r0.2.1).length s0c1) := box_cell gN.1 1 _ rfl
  have e02 : V5.cell? ⟨w4.heap.size, 2, none⟩ = some (.slice s0A2 (r0.2.2.1).length s0c2) := box_cell gN.1 2 _ rfl
  have e03 : V5.cell? ⟨w4.heap.size, 3, none⟩ = some (.slice s0A3 (r0.2.2.2).length s0c3) := box_cell gN.1 3 _ rfl
  have t5 : V5.heap.size = w4.heap.size + 1 := by rw [hV]; simp
  replace aa0 := keep gN.2 aa0
  replace aa1 := keep gN.2 aa1
  replace aa2 := keep gN.2 aa2
  replace aa3 := keep gN.2 aa3
  replace Bs0 := Lib.hid (bThen Bs0.out gN.2)
  replace HW := Lib.hid (bThen HW.out gN.2)
  have s5 : w4.heap.size ≤ V5.heap.size := (gN.2).size
  clear hV gN
  refine (toNet_w za [.int .i64 za.1, .slice aA1 (za.2.1).length ac1, .slice aA2 (za.2.2.1).length ac2, .slice aA3 (za.2.2.2).length ac3] _ (good_Net.below HDa.out (Nat.le_refl _) HW.out) HW.out.size HSa.out).mono ?_
  rintro e w6 ⟨x0, rfl, hxN, hbN⟩
  replace aa0 := keep hbN aa0
  replace aa1 := keep hbN aa1
  replace aa2 := keep hbN aa2
  replace aa3 := keep hbN aa3
  replace e00 := keep hbN e00
  replace e01 := keep hbN e01
  replace e02 := keep hbN e02
  replace e03 := keep hbN e03
  replace Bs0 := Lib.hid (bThen Bs0.out hbN)
  replace HW := Lib.hid (bThen HW.out hbN)
  have s6 : V5.heap.size ≤ w6.heap.size := (hbN).size
  have Hx0 := Lib.hid hxN
  have Bx0 := Lib.hid (Below.refl w6.heap.size w6)
  obtain ⟨x0u0, x0u1, x0u2, x0u3, rfl, x0h0, x0h1, x0h2, x0h3⟩ := hxN
  obtain ⟨x0e0, -⟩ := x0h0
  injection x0e0 with x0e0
  subst x0e0
  obtain ⟨x0A1, x0c1, x0e1, x0m1, -⟩ := x0h1
  injection x0e1 with x0e1
  subst x0e1
  unfold maxLen at x0m1
  obtain ⟨x0A2, x0c2, x0e2, x0m2, -⟩ := x0h2
  injection x0e2 with x0e2
  subst x0e2
  unfold maxLen at x0m2
  obtain ⟨x0A3, x0c3, x0e3, x0m3, -⟩ := x0h3
  injection x0e3 with x0e3
  subst x0e3
  unfold maxLen at x0m3
  clear hbN
  have ltaa0 : w.heap.size < w6.heap.size := World.block_lt_of_cell? _ _ aa0
  have lte00 : w4.heap.size < w6.heap.size := World.block_lt_of_cell? _ _ e00
  go_wp2_with fail
  clear ltaa0 lte00
  obtain ⟨V7, hV⟩ : ∃ V7, V7 = (w6.alloc (.cells #[.int .i64 za.1, .slice x0A1 (za.2.1).length x0c1, .slice x0A2 (za.2.2.1).length x0c2, .slice x0A3 (za.2.2.2).length x0c3] 36)) := ⟨_, rfl⟩
  rw [← hV]
  have gN := eqbox1 hV
  have b00 : V7.cell? ⟨w6.heap.size, 0, none⟩ = some (.int .i64 za.1) := box_cell gN.1 0 _ rfl
  have b01 : V7.cell? ⟨w6.heap.size, 1, none⟩ = some (.slice x0A1 (za.2.1).length x0c1) := box_cell gN.1 1 _ rfl
  have b02 : V7.cell? ⟨w6.heap.size, 2, none⟩ = some (.slice x0A2 (za.2.2.1).length x0c2) := box_cell gN.1 2 _ rfl
  have b03 : V7.cell? ⟨w6.heap.size, 3, none⟩ = some (.slice x0A3 (za.2.2.2).length x0c3) := box_cell gN.1 3 _ rfl
  have t7 : V7.heap.size = w6.heap.size + 1 := by rw [hV]; simp
  replace aa0 := keep gN.2 aa0
  replace aa1 := keep gN.2 aa1
  replace aa2 := keep gN.2 aa2
  replace aa3 := keep gN.2 aa3
  replace e00 := keep gN.2 e00
  replace e01 := keep gN.2 e01
  replace e02 := keep gN.2 e02
  replace e03 := keep gN.2 e03
  replace Bs0 := Lib.hid (bThen Bs0.out gN.2)
  replace Bx0 := Lib.hid (bThen Bx0.out gN.2)
  replace HW := Lib.hid (bThen HW.out gN.2)
  have s7 : w6.heap.size ≤ V7.heap.size := (gN.2).size
  clear hV gN
  refine (implG za _ _ (good_Net.wider (good_Net.below (le_Net _ _ _ _ _ Hx0.out) (Nat.le_refl _) Bx0.out) (Nat.zero_le _) Bx0.out.size) HR0.out).mono ?_
  rintro e w8 ⟨g0v, g0bs, rfl, oN, ndN, bsN, hbN⟩
  replace aa0 := keep hbN aa0
  replace aa1 := keep hbN aa1
  replace aa2 := keep hbN aa2
  replace aa3 := keep hbN aa3
  replace e00 := keep hbN e00
  replace e01 := keep hbN e01
  replace e02 := keep hbN e02
  replace e03 := keep hbN e03
  replace b00 := keep hbN b00
  replace b01 := keep hbN b01
  replace b02 := keep hbN b02
  replace b03 := keep hbN b03
  replace Bs0 := Lib.hid (bThen Bs0.out hbN)
  replace Bx0 := Lib.hid (bThen Bx0.out hbN)
  replace HW := Lib.hid (bThen HW.out hbN)
  have s8 : V7.heap.size ≤ w8.heap.size := (hbN).size
  have rdN := rds_Net _ _ _ _ _ _ oN bsN
  have Og0 := Lib.hid oN
  have Ng0 := Lib.hid ndN
  have Bg0 := Lib.hid bsN
  have LEg0 := Lib.hid (Nat.le_refl w8.heap.size)
  clear oN ndN bsN hbN
  obtain ⟨g0u0, g0u1, g0u2, g0u3, rfl, g0h0, g0h1, g0h2, g0h3⟩ := rdN
  obtain ⟨g0e0, -⟩ := g0h0
  injection g0e0 with g0e0
  subst g0e0
  obtain ⟨g0A1, g0c1, g0e1, g0m1, -⟩ := g0h1
  injection g0e1 with g0e1
  subst g0e1
  unfold maxLen at g0m1
  obtain ⟨g0A2, g0c2, g0e2, g0m2, -⟩ := g0h2
  injection g0e2 with g0e2
  subst g0e2
  unfold maxLen at g0m2
  obtain ⟨g0A3, g0c3, g0e3, g0m3, -⟩ := g0h3
  injection g0e3 with g0e3
  subst g0e3
  unfold maxLen at g0m3
  have ltaa0 : w.heap.size < w8.heap.size := World.block_lt_of_cell? _ _ aa0
  have lte00 : w4.heap.size < w8.heap.size := World.block_lt_of_cell? _ _ e00
  have ltb00 : w6.heap.size < w8.heap.size := World.block_lt_of_cell? _ _ b00
  go_wp2_with fail
  clear ltaa0 lte00 ltb00
  obtain ⟨V9, hV⟩ : ∃ V9, V9 = (w8.alloc (.cells #[.int .i64 r0.1, .slice g0A1 (r0.2.1).length g0c1, .slice g0A2 (r0.2.2.1).length g0c2, .slice g0A3 (r0.2.2.2).length g0c3] 36)) := ⟨_, rfl⟩
  rw [← hV]
  have gN := eqbox1 hV
  have f00 : V9.cell? ⟨w8.heap.size, 0, none⟩ = some (.int .i64 r0.1) := box_cell gN.1 0 _ rfl
  have f01 : V9.cell? ⟨w8.heap.size, 1, none⟩ = some (.slice g0A1 (r0.2.1).length g0c1) := box_cell gN.1 1 _ rfl
  have f02 : V9.cell? ⟨w8.heap.size, 2, none⟩ = some (.slice g0A2 (r0.2.2.1).length g0c2) := box_cell gN.1 2 _ rfl
  have f03 : V9.cell? ⟨w8.heap.size, 3, none⟩ = some (.slice g0A3 (r0.2.2.2).length g0c3) := box_cell gN.1 3 _ rfl
  have t9 : V9.heap.size = w8.heap.size + 1 := by rw [hV]; simp
  replace aa0 := keep gN.2 aa0
  replace aa1 := keep gN.2 aa1
  replace aa2 := keep gN.2 aa2
  replace aa3 := keep gN.2 aa3
  replace e00 := keep gN.2 e00
  replace e01 := keep gN.2 e01
  replace e02 := keep gN.2 e02
  replace e03 := keep gN.2 e03
  replace b00 := keep gN.2 b00
  replace b01 := keep gN.2 b01
  replace b02 := keep gN.2 b02
  replace b03 := keep gN.2 b03
  replace Bs0 := Lib.hid (bThen Bs0.out gN.2)
  replace Bx0 := Lib.hid (bThen Bx0.out gN.2)
  replace Og0 := Lib.hid (gow_Net.frame _ _ _ _ _ Og0.out fun b hb' => (gN.2).block b (Nat.lt_of_lt_of_le (Bg0.out b hb').2 LEg0.out))
  replace LEg0 := Lib.hid (Nat.le_trans LEg0.out (gN.2).size)
  replace HW := Lib.hid (bThen HW.out gN.2)
  have s9 : w8.heap.size ≤ V9.heap.size := (gN.2).size
  clear hV gN
  refine (eqNet_any r0 [.int .i64 r0.1, .slice g0A1 (r0.2.1).length g0c1, .slice g0A2 (r0.2.2.1).length g0c2, .slice g0A3 (r0.2.2.2).length g0c3] [.int .i64 r0.1, .slice s0A1 (r0.2.1).length s0c1, .slice s0A2 (r0.2.2.1).length s0c2, .slice s0A3 (r0.2.2.2).length s0c3] _ (rds_Net _ _ _ _ _ _ Og0.out (fun b hb => ⟨(Bg0.out b hb).1, Nat.lt_of_lt_of_le (Bg0.out b hb).2 LEg0.out⟩)) (good_Net.below Hs0.out (Nat.le_refl _) Bs0.out) (Nat.le_refl _) Bs0.out.size).mono ?_
  rintro e w10 ⟨rfl, hbN⟩
  replace aa0 := keep hbN aa0
  replace aa1 := keep hbN aa1
  replace aa2 := keep hbN aa2
  replace aa3 := keep hbN aa3
  replace e00 := keep hbN e00
  replace e01 := keep hbN e01
  replace e02 := keep hbN e02
  replace e03 := keep hbN e03
  replace b00 := keep hbN b00
  replace b01 := keep hbN b01
  replace b02 := keep hbN b02
  replace b03 := keep hbN b03
  replace f00 := keep hbN f00
  replace f01 := keep hbN f01
  replace f02 := keep hbN f02
  replace f03 := keep hbN f03
  replace Bs0 := Lib.hid (bThen Bs0.out hbN)
  replace Bx0 := Lib.hid (bThen Bx0.out hbN)
  replace Og0 := Lib.hid (gow_Net.frame _ _ _ _ _ Og0.out fun b hb' => (hbN).block b (Nat.lt_of_lt_of_le (Bg0.out b hb').2 LEg0.out))
  replace LEg0 := Lib.hid (Nat.le_trans LEg0.out (hbN).size)
  replace HW := Lib.hid (bThen HW.out hbN)
  have s10 : V9.heap.size ≤ w10.heap.size := (hbN).size
  clear hbN
  go_wp2_with fail
  have hS0 : (fun w' => Below w10.heap.size w10 w' ∧ w'.cell? ⟨w.heap.size, 0, none⟩ = some (.int .i64 za.1) ∧ w'.cell? ⟨w.heap.size, 1, none⟩ = some (.slice aA1 (za.2.1).length ac1) ∧ w'.cell? ⟨w.heap.size, 2, none⟩ = some (.slice aA2 (za.2.2.1).length ac2) ∧ w'.cell? ⟨w.heap.size, 3, none⟩ = some (.slice aA3 (za.2.2.2).length ac3) ∧ w'.cell? ⟨w4.heap.size, 0, none⟩ = some (.int .i64 r0.1) ∧ w'.cell? ⟨w4.heap.size, 1, none⟩ = some (.slice s0A1 (r0.2.1).length s0c1) ∧ w'.cell? ⟨w4.heap.size, 2, none⟩ = some (.slice s0A2 (r0.2.2.1).length s0c2) ∧ w'.cell? ⟨w4.heap.size, 3, none⟩ = some (.slice s0A3 (r0.2.2.2).length s0c3) ∧ w'.cell? ⟨w6.heap.size, 0, none⟩ = some (.int .i64 za.1) ∧ w'.cell? ⟨w6.heap.size, 1, none⟩ = some (.slice x0A1 (za.2.1).length x0c1) ∧ w'.cell? ⟨w6.heap.size, 2, none⟩ = some (.slice x0A2 (za.2.2.1).length x0c2) ∧ w'.cell? ⟨w6.heap.size, 3, none⟩ = some (.slice x0A3 (za.2.2.2).length x0c3) ∧ w'.cell? ⟨w8.heap.size, 0, none⟩ = some (.int .i64 r0.1) ∧ w'.cell? ⟨w8.heap.size, 1, none⟩ = some (.slice g0A1 (r0.2.1).length g0c1) ∧ w'.cell? ⟨w8.heap.size, 2, none⟩ = some (.slice g0A2 (r0.2.2.1).length g0c2) ∧ w'.cell? ⟨w8.heap.size, 3, none⟩ = some (.slice g0A3 (r0.2.2.2).length g0c3)) w10 := ⟨Below.refl _ _, aa0, aa1, aa2, aa3, e00, e01, e02, e03, b00, b01, b02, b03, f00, f01, f02, f03⟩
  have hS : ∀ {w0 w' : World}, (fun w' => Below w10.heap.size w10 w' ∧ w'.cell? ⟨w.heap.size, 0, none⟩ = some (.int .i64 za.1) ∧ w'.cell? ⟨w.heap.size, 1, none⟩ = some (.slice aA1 (za.2.1).length ac1) ∧ w'.cell? ⟨w.heap.size, 2, none⟩ = some (.slice aA2 (za.2.2.1).length ac2) ∧ w'.cell? ⟨w.heap.size, 3, none⟩ = some (.slice aA3 (za.2.2.2).length ac3) ∧ w'.cell? ⟨w4.heap.size, 0, none⟩ = some (.int .i64 r0.1) ∧ w'.cell? ⟨w4.heap.size, 1, none⟩ = some (.slice s0A1 (r0.2.1).length s0c1) ∧ w'.cell? ⟨w4.heap.size, 2, none⟩ = some (.slice s0A2 (r0.2.2.1).length s0c2) ∧ w'.cell? ⟨w4.heap.size, 3, none⟩ = some (.slice s0A3 (r0.2.2.2).length s0c3) ∧ w'.cell? ⟨w6.heap.size, 0, none⟩ = some (.int .i64 za.1) ∧ w'.cell? ⟨w6.heap.size, 1, none⟩ = some (.slice x0A1 (za.2.1).length x0c1) ∧ w'.cell? ⟨w6.heap.size, 2, none⟩ = some (.slice x0A2 (za.2.2.1).length x0c2) ∧ w'.cell? ⟨w6.heap.size, 3, none⟩ = some (.slice x0A3 (za.2.2.2).length x0c3) ∧ w'.cell? ⟨w8.heap.size, 0, none⟩ = some (.int .i64 r0.1) ∧ w'.cell? ⟨w8.heap.size, 1, none⟩ = some (.slice g0A1 (r0.2.1).length g0c1) ∧ w'.cell? ⟨w8.heap.size, 2, none⟩ = some (.slice g0A2 (r0.2.2.1).length g0c2) ∧ w'.cell? ⟨w8.heap.size, 3, none⟩ = some (.slice g0A3 (r0.2.2.2).length g0c3)) w0 → Below w0.heap.size w0 w' → (fun w' => Below w10.heap.size w10 w' ∧ w'.cell? ⟨w.heap.size, 0, none⟩ = some (.int .i64 za.1) ∧ w'.cell? ⟨w.heap.size, 1, none⟩ = some (.slice aA1 (za.2.1).length ac1) ∧ w'.cell? ⟨w.heap.size, 2, none⟩ = some (.slice aA2 (za.2.2.1).length ac2) ∧ w'.cell? ⟨w.heap.size, 3, none⟩ = some (.slice aA3 (za.2.2.2).length ac3) ∧ w'.cell? ⟨w4.heap.size, 0, none⟩ = some (.int .i64 r0.1) ∧ w'.cell? ⟨w4.heap.size, 1, none⟩ = some (.slice s0A1 (r0.2.1).length s0c1) ∧ w'.cell? ⟨w4.heap.size, 2, none⟩ = some (.slice s0A2 (r0.2.2.1).length s0c2) ∧ w'.cell? ⟨w4.heap.size, 3, none⟩ = some (.slice s0A3 (r0.2.2.2).length s0c3) ∧ w'.cell? ⟨w6.heap.size, 0, none⟩ = some (.int .i64 za.1) ∧ w'.cell? ⟨w6.heap.size, 1, none⟩ = some (.slice x0A1 (za.2.1).length x0c1) ∧ w'.cell? ⟨w6.heap.size, 2, none⟩ = some (.slice x0A2 (za.2.2.1).length x0c2) ∧ w'.cell? ⟨w6.heap.size, 3, none⟩ = some (.slice x0A3 (za.2.2.2).length x0c3) ∧ w'.cell? ⟨w8.heap.size, 0, none⟩ = some (.int .i64 r0.1) ∧ w'.cell? ⟨w8.heap.size, 1, none⟩ = some (.slice g0A1 (r0.2.1).length g0c1) ∧ w'.cell? ⟨w8.heap.size, 2, none⟩ = some (.slice g0A2 (r0.2.2.1).length g0c2) ∧ w'.cell? ⟨w8.heap.size, 3, none⟩ = some (.slice g0A3 (r0.2.2.2).length g0c3)) w' := fun h hb => ⟨bThen h.1 hb, keep hb h.2.1, keep hb h.2.2.1, keep hb h.2.2.2.1, keep hb h.2.2.2.2.1, keep hb h.2.2.2.2.2.1, keep hb h.2.2.2.2.2.2.1, keep hb h.2.2.2.2.2.2.2.1, keep hb h.2.2.2.2.2.2.2.2.1, keep hb h.2.2.2.2.2.2.2.2.2.1, keep hb h.2.2.2.2.2.2.2.2.2.2.1, keep hb h.2.2.2.2.2.2.2.2.2.2.2.1, keep hb h.2.2.2.2.2.2.2.2.2.2.2.2.1, keep hb h.2.2.2.2.2.2.2.2.2.2.2.2.2.1, keep hb h.2.2.2.2.2.2.2.2.2.2.2.2.2.2.1, keep hb h.2.2.2.2.2.2.2.2.2.2.2.2.2.2.2.1, keep hb h.2.2.2.2.2.2.2.2.2.2.2.2.2.2.2.2⟩
  dsimp only at hS0 hS
  refine wp_region_noPanic ?_
  refine wp_region_kept 4 5 (fun w' => Below w10.heap.size w10 w' ∧ w'.cell? ⟨w.heap.size, 0, none⟩ = some (.int .i64 za.1) ∧ w'.cell? ⟨w.heap.size, 1, none⟩ = some (.slice aA1 (za.2.1).length ac1) ∧ w'.cell? ⟨w.heap.size, 2, none⟩ = some (.slice aA2 (za.2.2.1).length ac2) ∧ w'.cell? ⟨w.heap.size, 3, none⟩ = some (.slice aA3 (za.2.2.2).length ac3) ∧ w'.cell? ⟨w4.heap.size, 0, none⟩ = some (.int .i64 r0.1) ∧ w'.cell? ⟨w4.heap.size, 1, none⟩ = some (.slice s0A1 (r0.2.1).length s0c1) ∧ w'.cell? ⟨w4.heap.size, 2, none⟩ = some (.slice s0A2 (r0.2.2.1).length s0c2) ∧ w'.cell? ⟨w4.heap.size, 3, none⟩ = some (.slice s0A3 (r0.2.2.2).length s0c3) ∧ w'.cell? ⟨w6.heap.size, 0, none⟩ = some (.int .i64 za.1) ∧ w'.cell? ⟨w6.heap.size, 1, none⟩ = some (.slice x0A1 (za.2.1).length x0c1) ∧ w'.cell? ⟨w6.heap.size, 2, none⟩ = some (.slice x0A2 (za.2.2.1).length x0c2) ∧ w'.cell? ⟨w6.heap.size, 3, none⟩ = some (.slice x0A3 (za.2.2.2).length x0c3) ∧ w'.cell? ⟨w8.heap.size, 0, none⟩ = some (.int .i64 r0.1) ∧ w'.cell? ⟨w8.heap.size, 1, none⟩ = some (.slice g0A1 (r0.2.1).length g0c1) ∧ w'.cell? ⟨w8.heap.size, 2, none⟩ = some (.slice g0A2 (r0.2.2.1).length g0c2) ∧ w'.cell? ⟨w8.heap.size, 3, none⟩ = some (.slice g0A3 (r0.2.2.2).length g0c3)) (by kernel_rfl) rfl (hS hS0 (Below.drew (Below.refl _ _))) (fun hK0 => ?_)
  refine Kept.take (v := ?vt10n0) 0 (by kernel_rfl) rfl (by kernel_rfl) (fun _ _ _ h => h) (Or.inl ⟨by rfl, ?hyt10n0⟩) hK0 ?restt10n0
  case hyt10n0 =>
    intro w0 hSw
    (try dsimp only at hSw)
    go_simp
    all_goals (with_reducible rfl)
  (try simp only [Act.put, List.setIfInBounds_toArray, List.set_cons_zero, List.set_cons_succ])
  refine Kept.take (v := ?vt10n1) 1 (by kernel_rfl) rfl (by kernel_rfl) (fun _ _ _ h => h) (Or.inl ⟨by rfl, ?hyt10n1⟩) hK0 ?restt10n1
  case hyt10n1 =>
    intro w0 hSw
    (try dsimp only at hSw)
    go_simp
    all_goals (with_reducible rfl)
  (try simp only [Act.put, List.setIfInBounds_toArray, List.set_cons_zero, List.set_cons_succ])
  refine Kept.one 2 (by kernel_rfl) rfl (fun K hK => ?_)
  go_simp
  go_at_call 34
  refine (toNet_any za [.int .i64 za.1, .slice aA1 (za.2.1).length ac1, .slice aA2 (za.2.2.1).length ac2, .slice aA3 (za.2.2.2).length ac3] _ (good_Net.below HDa.out (Nat.le_refl _) (bThen HW.out hK0.1)) (bThen HW.out hK0.1).size HSa.out).mono ?_
  rintro e wr0 ⟨v0, rfl, hxN, hbr0⟩
  have Hv0 := Lib.hid hxN
  obtain ⟨v0u0, v0u1, v0u2, v0u3, rfl, v0h0, v0h1, v0h2, v0h3⟩ := hxN
  obtain ⟨v0e0, -⟩ := v0h0
  injection v0e0 with v0e0
  subst v0e0
  obtain ⟨v0A1, v0c1, v0e1, v0m1, -⟩ := v0h1
  injection v0e1 with v0e1
  subst v0e1
  unfold maxLen at v0m1
  obtain ⟨v0A2, v0c2, v0e2, v0m2, -⟩ := v0h2
  injection v0e2 with v0e2
  subst v0e2
  unfold maxLen at v0m2
  obtain ⟨v0A3, v0c3, v0e3, v0m3, -⟩ := v0h3
  injection v0e3 with v0e3
  subst v0e3
  unfold maxLen at v0m3
  go_simp
  refine hK.out _ _ (hS hK0 hbr0) (fun hK1 => ?_)
  clear hK K hK0
  (try simp only [Act.put, List.setIfInBounds_toArray, List.set_cons_zero, List.set_cons_succ])
  refine Kept.one 3 (by kernel_rfl) rfl (fun K hK => ?_)
  go_simp
  go_at_call 35
  refine (eqNet_any za [.int .i64 za.1, .slice x0A1 (za.2.1).length x0c1, .slice x0A2 (za.2.2.1).length x0c2, .slice x0A3 (za.2.2.2).length x0c3] [.int .i64 za.1, .slice v0A1 (za.2.1).length v0c1, .slice v0A2 (za.2.2.1).length v0c2, .slice v0A3 (za.2.2.2).length v0c3] _ (good_Net.below (le_Net _ _ _ _ _ Hx0.out) (Nat.le_refl _) (bThen Bx0.out hK1.1)) Hv0.out (bThen Bx0.out hK1.1).size (Nat.le_refl _)).mono ?_
  rintro e wr1 ⟨rfl, hbr1⟩
  go_simp
  refine hK.out _ _ (hS hK1 hbr1) (fun hK2 => ?_)
  clear hK K hK1
  (try simp only [Act.put, List.setIfInBounds_toArray, List.set_cons_zero, List.set_cons_succ])
  refine Kept.tail (by rfl) (by kernel_rfl) ?_
  simp only [List.drop_succ_cons, List.drop_zero]
  go_wp2
  refine NoPanic.normal ?_
  obtain ⟨W10r, hWr⟩ : ∃ W, W = wr1 := ⟨_, rfl⟩
  rw [← hWr] at hK2 ⊢
  clear hWr
  have hbN := hK2.1
  replace aa0 := keep hbN aa0
  replace aa1 := keep hbN aa1
  replace aa2 := keep hbN aa2
  replace aa3 := keep hbN aa3
  replace e00 := keep hbN e00
  replace e01 := keep hbN e01
  replace e02 := keep hbN e02
  replace e03 := keep hbN e03
  replace b00 := keep hbN b00
  replace b01 := keep hbN b01
  replace b02 := keep hbN b02
  replace b03 := keep hbN b03
  replace f00 := keep hbN f00
  replace f01 := keep hbN f01
  replace f02 := keep hbN f02
  replace f03 := keep hbN f03
  replace Bs0 := Lib.hid (bThen Bs0.out hbN)
  replace Bx0 := Lib.hid (bThen Bx0.out hbN)
  replace Og0 := Lib.hid (gow_Net.frame _ _ _ _ _ Og0.out fun b hb' => (hbN).block b (Nat.lt_of_lt_of_le (Bg0.out b hb').2 LEg0.out))
  replace LEg0 := Lib.hid (Nat.le_trans LEg0.out (hbN).size)
  replace HW := Lib.hid (bThen HW.out hbN)
  have s11 : w10.heap.size ≤ W10r.heap.size := (hbN).size
  clear hbN hK2 hS0 hS
  clear Hv0
  replace Hx0 := Lib.hid (goodw_Net.below Hx0.out (Nat.le_refl _) Bx0.out)
  go_wp2_with fail
  have bd0 := bndNet za HSa.out
  (try unfold cntNet at bd0)
  refine (markNet_cap za [.int .i64 za.1, .slice x0A1 (za.2.1).length x0c1, .slice x0A2 (za.2.2.1).length x0c2, .slice x0A3 (za.2.2.2).length x0c3] 1 W10r W10r _ Hx0.out (by omega) (Sims.refl _ _ _) (Sims.refl _ _ _) (by omega) (cap := 1099516870658) (by omega) (by omega)).mono ?_
  rintro e w12 ⟨⟨k0, k0a, k0b, rfl⟩, hsN, -⟩
  have s12 : W10r.heap.size ≤ w12.heap.size := hsN.size
  replace aa0 := (World.cell?_of_block (w := W10r) (w' := w12) (a := ⟨w.heap.size, 0, none⟩) (hsN.block _ (World.block_lt_of_cell? _ _ aa0) (by first | (left; dsimp only; omega) | (right; dsimp only; omega)))).trans aa0
  replace aa1 := (World.cell?_of_block (w := W10r) (w' := w12) (a := ⟨w.heap.size, 1, none⟩) (hsN.block _ (World.block_lt_of_cell? _ _ aa1) (by first | (left; dsimp only; omega) | (right; dsimp only; omega)))).trans aa1
  replace aa2 := (World.cell?_of_block (w := W10r) (w' := w12) (a := ⟨w.heap.size, 2, none⟩) (hsN.block _ (World.block_lt_of_cell? _ _ aa2) (by first | (left; dsimp only; omega) | (right; dsimp only; omega)))).trans aa2
  replace aa3 := (World.cell?_of_block (w := W10r) (w' := w12) (a := ⟨w.heap.size, 3, none⟩) (hsN.block _ (World.block_lt_of_cell? _ _ aa3) (by first | (left; dsimp only; omega) | (right; dsimp only; omega)))).trans aa3
  replace e00 := (World.cell?_of_block (w := W10r) (w' := w12) (a := ⟨w4.heap.size, 0, none⟩) (hsN.block _ (World.block_lt_of_cell? _ _ e00) (by first | (left; dsimp only; omega) | (right; dsimp only; omega)))).trans e00
  replace e01 := (World.cell?_of_block (w := W10r) (w' := w12) (a := ⟨w4.heap.size, 1, none⟩) (hsN.block _ (World.block_lt_of_cell? _ _ e01) (by first | (left; dsimp only; omega) | (right; dsimp only; omega)))).trans e01
  replace e02 := (World.cell?_of_block (w := W10r) (w' := w12) (a := ⟨w4.heap.size, 2, none⟩) (hsN.block _ (World.block_lt_of_cell? _ _ e02) (by first | (left; dsimp only; omega) | (right; dsimp only; omega)))).trans e02
  replace e03 := (World.cell?_of_block (w := W10r) (w' := w12) (a := ⟨w4.heap.size, 3, none⟩) (hsN.block _ (World.block_lt_of_cell? _ _ e03) (by first | (left; dsimp only; omega) | (right; dsimp only; omega)))).trans e03
  replace f00 := (World.cell?_of_block (w := W10r) (w' := w12) (a := ⟨w8.heap.size, 0, none⟩) (hsN.block _ (World.block_lt_of_cell? _ _ f00) (by first | (left; dsimp only; omega) | (right; dsimp only; omega)))).trans f00
  replace f01 := (World.cell?_of_block (w := W10r) (w' := w12) (a := ⟨w8.heap.size, 1, none⟩) (hsN.block _ (World.block_lt_of_cell? _ _ f01) (by first | (left; dsimp only; omega) | (right; dsimp only; omega)))).trans f01
  replace f02 := (World.cell?_of_block (w := W10r) (w' := w12) (a := ⟨w8.heap.size, 2, none⟩) (hsN.block _ (World.block_lt_of_cell? _ _ f02) (by first | (left; dsimp only; omega) | (right; dsimp only; omega)))).trans f02
  replace f03 := (World.cell?_of_block (w := W10r) (w' := w12) (a := ⟨w8.heap.size, 3, none⟩) (hsN.block _ (World.block_lt_of_cell? _ _ f03) (by first | (left; dsimp only; omega) | (right; dsimp only; omega)))).trans f03
  replace Bs0 := Lib.hid (below_sims Bs0.out hsN (by omega))
  replace Og0 := Lib.hid (gow_Net.frame _ _ _ _ _ Og0.out fun b hb => hsN.block b (Nat.lt_of_lt_of_le (Bg0.out b hb).2 LEg0.out) (.inr (by have := (Bg0.out b hb).1; omega)))
  replace LEg0 := Lib.hid (Nat.le_trans LEg0.out hsN.size)
  replace HW := Lib.hid (below_sims HW.out hsN (by omega))
  clear hsN Hx0 Bx0 bd0
  have tkN : ¬ k0 < 0 := by omega
  go_wp2_with fail
  refine (eqNet_any r0 [.int .i64 r0.1, .slice g0A1 (r0.2.1).length g0c1, .slice g0A2 (r0.2.2.1).length g0c2, .slice g0A3 (r0.2.2.2).length g0c3] [.int .i64 r0.1, .slice s0A1 (r0.2.1).length s0c1, .slice s0A2 (r0.2.2.1).length s0c2, .slice s0A3 (r0.2.2.2).length s0c3] _ (rds_Net _ _ _ _ _ _ Og0.out (fun b hb => ⟨(Bg0.out b hb).1, Nat.lt_of_lt_of_le (Bg0.out b hb).2 LEg0.out⟩)) (good_Net.below Hs0.out (Nat.le_refl _) Bs0.out) (Nat.le_refl _) Bs0.out.size).mono ?_
  rintro e w13 ⟨rfl, hbN⟩
  replace aa0 := keep hbN aa0
  replace aa1 := keep hbN aa1
  replace aa2 := keep hbN aa2
  replace aa3 := keep hbN aa3
  replace e00 := keep hbN e00
  replace e01 := keep hbN e01
  replace e02 := keep hbN e02
  replace e03 := keep hbN e03
  replace f00 := keep hbN f00
  replace f01 := keep hbN f01
  replace f02 := keep hbN f02
  replace f03 := keep hbN f03
  replace Bs0 := Lib.hid (bThen Bs0.out hbN)
  replace Og0 := Lib.hid (gow_Net.frame _ _ _ _ _ Og0.out fun b hb' => (hbN).block b (Nat.lt_of_lt_of_le (Bg0.out b hb').2 LEg0.out))
  replace LEg0 := Lib.hid (Nat.le_trans LEg0.out (hbN).size)
  replace HW := Lib.hid (bThen HW.out hbN)
  have s13 : w12.heap.size ≤ w13.heap.size := (hbN).size
  clear hbN
  go_wp2_with fail
  refine (markNet_own r0 [.int .i64 r0.1, .slice g0A1 (r0.2.1).length g0c1, .slice g0A2 (r0.2.2.1).length g0c2, .slice g0A3 (r0.2.2.2).length g0c3] g0bs 1 _ Og0.out Ng0.out (by omega) (by have := HBD.out; unfold cntVNet; omega)).mono ?_
  rintro e w14 ⟨rfl, oN, hchN⟩
  replace Og0 := Lib.hid oN
  replace LEg0 := Lib.hid (Nat.le_trans LEg0.out hchN.size)
  have s14 : w13.heap.size ≤ w14.heap.size := hchN.size
  replace aa0 := chg_cell hchN (fun h => by have h1 := (Bg0.out _ h).1; have h2 := (Bg0.out _ h).2; omega) aa0
  replace aa1 := chg_cell hchN (fun h => by have h1 := (Bg0.out _ h).1; have h2 := (Bg0.out _ h).2; omega) aa1
  replace aa2 := chg_cell hchN (fun h => by have h1 := (Bg0.out _ h).1; have h2 := (Bg0.out _ h).2; omega) aa2
  replace aa3 := chg_cell hchN (fun h => by have h1 := (Bg0.out _ h).1; have h2 := (Bg0.out _ h).2; omega) aa3
  replace e00 := chg_cell hchN (fun h => by have h1 := (Bg0.out _ h).1; have h2 := (Bg0.out _ h).2; omega) e00
  replace e01 := chg_cell hchN (fun h => by have h1 := (Bg0.out _ h).1; have h2 := (Bg0.out _ h).2; omega) e01
  replace e02 := chg_cell hchN (fun h => by have h1 := (Bg0.out _ h).1; have h2 := (Bg0.out _ h).2; omega) e02
  replace e03 := chg_cell hchN (fun h => by have h1 := (Bg0.out _ h).1; have h2 := (Bg0.out _ h).2; omega) e03
  replace f00 := chg_cell hchN (fun h => by have h1 := (Bg0.out _ h).1; have h2 := (Bg0.out _ h).2; omega) f00
  replace f01 := chg_cell hchN (fun h => by have h1 := (Bg0.out _ h).1; have h2 := (Bg0.out _ h).2; omega) f01
  replace f02 := chg_cell hchN (fun h => by have h1 := (Bg0.out _ h).1; have h2 := (Bg0.out _ h).2; omega) f02
  replace f03 := chg_cell hchN (fun h => by have h1 := (Bg0.out _ h).1; have h2 := (Bg0.out _ h).2; omega) f03
  replace Bs0 := Lib.hid (below_chg Bs0.out hchN (fun b h => by have h1 := (Bg0.out b h).1; omega))
  replace HW := Lib.hid (below_chg HW.out hchN (fun b h => by have h1 := (Bg0.out b h).1; omega))
  clear oN hchN
  obtain ⟨q0, hq0⟩ : ∃ q0 : Int, 1 + (cntVNet r0 : Int) = q0 := ⟨_, rfl⟩
  have HQ0 := Lib.hid hq0
  have q0a : ¬ q0 < 0 := by omega
  rw [hq0]
  clear hq0
  go_wp2_with fail
  refine (heldNet_num r0 [.int .i64 r0.1, .slice g0A1 (r0.2.1).length g0c1, .slice g0A2 (r0.2.2.1).length g0c2, .slice g0A3 (r0.2.2.2).length g0c3] 1 _ (rds_Net _ _ _ _ _ _ Og0.out (fun b hb => ⟨(Bg0.out b hb).1, Nat.lt_of_lt_of_le (Bg0.out b hb).2 LEg0.out⟩)) (Nat.le_refl _) (by omega) (by have := HBD.out; unfold cntVNet; omega)).mono ?_
  rintro e w15 ⟨rfl, hbN⟩
  rw [HQ0.out]
  replace aa0 := keep hbN aa0
  replace aa1 := keep hbN aa1
  replace aa2 := keep hbN aa2
  replace aa3 := keep hbN aa3
  replace e00 := keep hbN e00
  replace e01 := keep hbN e01
  replace e02 := keep hbN e02
  replace e03 := keep hbN e03
  replace f00 := keep hbN f00
  replace f01 := keep hbN f01
  replace f02 := keep hbN f02
  replace f03 := keep hbN f03
  replace Bs0 := Lib.hid (bThen Bs0.out hbN)
  replace Og0 := Lib.hid (gow_Net.frame _ _ _ _ _ Og0.out fun b hb' => (hbN).block b (Nat.lt_of_lt_of_le (Bg0.out b hb').2 LEg0.out))
  replace LEg0 := Lib.hid (Nat.le_trans LEg0.out (hbN).size)
  replace HW := Lib.hid (bThen HW.out hbN)
  have s15 : w14.heap.size ≤ w15.heap.size := (hbN).size
  clear hbN
  go_wp2_with fail
  refine (toNet_any za [.int .i64 za.1, .slice aA1 (za.2.1).length ac1, .slice aA2 (za.2.2.1).length ac2, .slice aA3 (za.2.2.2).length ac3] _ (good_Net.below HDa.out (Nat.le_refl _) HW.out) HW.out.size HSa.out).mono ?_
  rintro e w16 ⟨y0, rfl, hxN, hbN⟩
  replace aa0 := keep hbN aa0
  replace aa1 := keep hbN aa1
  replace aa2 := keep hbN aa2
  replace aa3 := keep hbN aa3
  replace e00 := keep hbN e00
  replace e01 := keep hbN e01
  replace e02 := keep hbN e02
  replace e03 := keep hbN e03
  replace f00 := keep hbN f00
  replace f01 := keep hbN f01
  replace f02 := keep hbN f02
  replace f03 := keep hbN f03
  replace Bs0 := Lib.hid (bThen Bs0.out hbN)
  replace Og0 := Lib.hid (gow_Net.frame _ _ _ _ _ Og0.out fun b hb' => (hbN).block b (Nat.lt_of_lt_of_le (Bg0.out b hb').2 LEg0.out))
  replace LEg0 := Lib.hid (Nat.le_trans LEg0.out (hbN).size)
  replace HW := Lib.hid (bThen HW.out hbN)
  have s16 : w15.heap.size ≤ w16.heap.size := (hbN).size
  have Hy0 := Lib.hid hxN
  have By0 := Lib.hid (Below.refl w16.heap.size w16)
  obtain ⟨y0u0, y0u1, y0u2, y0u3, rfl, y0h0, y0h1, y0h2, y0h3⟩ := hxN
  obtain ⟨y0e0, -⟩ := y0h0
  injection y0e0 with y0e0
  subst y0e0
  obtain ⟨y0A1, y0c1, y0e1, y0m1, -⟩ := y0h1
  injection y0e1 with y0e1
  subst y0e1
  unfold maxLen at y0m1
  obtain ⟨y0A2, y0c2, y0e2, y0m2, -⟩ := y0h2
  injection y0e2 with y0e2
  subst y0e2
  unfold maxLen at y0m2
  obtain ⟨y0A3, y0c3, y0e3, y0m3, -⟩ := y0h3
  injection y0e3 with y0e3
  subst y0e3
  unfold maxLen at y0m3
  clear hbN
  go_wp2_with fail
  refine (implG za _ _ (good_Net.wider (good_Net.below Hy0.out (Nat.le_refl _) By0.out) (Nat.zero_le _) By0.out.size) HR0.out).mono ?_
  rintro e w17 ⟨h0v, h0bs, rfl, oN, ndN, bsN, hbN⟩
  replace aa0 := keep hbN aa0
  replace aa1 := keep hbN aa1
  replace aa2 := keep hbN aa2
  replace aa3 := keep hbN aa3
  replace e00 := keep hbN e00
  replace e01 := keep hbN e01
  replace e02 := keep hbN e02
  replace e03 := keep hbN e03
  replace f00 := keep hbN f00
  replace f01 := keep hbN f01
  replace f02 := keep hbN f02
  replace f03 := keep hbN f03
  replace Bs0 := Lib.hid (bThen Bs0.out hbN)
  replace By0 := Lib.hid (bThen By0.out hbN)
  replace Og0 := Lib.hid (gow_Net.frame _ _ _ _ _ Og0.out fun b hb' => (hbN).block b (Nat.lt_of_lt_of_le (Bg0.out b hb').2 LEg0.out))
  replace LEg0 := Lib.hid (Nat.le_trans LEg0.out (hbN).size)
  replace HW := Lib.hid (bThen HW.out hbN)
  have s17 : w16.heap.size ≤ w17.heap.size := (hbN).size
  have rdN := rds_Net _ _ _ _ _ _ oN bsN
  have Hh0 := Lib.hid rdN
  have Bh0 := Lib.hid (Below.refl w17.heap.size w17)
  clear oN ndN bsN hbN
  obtain ⟨h0u0, h0u1, h0u2, h0u3, rfl, h0h0, h0h1, h0h2, h0h3⟩ := rdN
  obtain ⟨h0e0, -⟩ := h0h0
  injection h0e0 with h0e0
  subst h0e0
  obtain ⟨h0A1, h0c1, h0e1, h0m1, -⟩ := h0h1
  injection h0e1 with h0e1
  subst h0e1
  unfold maxLen at h0m1
  obtain ⟨h0A2, h0c2, h0e2, h0m2, -⟩ := h0h2
  injection h0e2 with h0e2
  subst h0e2
  unfold maxLen at h0m2
  obtain ⟨h0A3, h0c3, h0e3, h0m3, -⟩ := h0h3
  injection h0e3 with h0e3
  subst h0e3
  unfold maxLen at h0m3
  have ltaa0 : w.heap.size < w17.heap.size := World.block_lt_of_cell? _ _ aa0
  have lte00 : w4.heap.size < w17.heap.size := World.block_lt_of_cell? _ _ e00
  have ltf00 : w8.heap.size < w17.heap.size := World.block_lt_of_cell? _ _ f00
  go_wp2_with fail
  clear ltaa0 lte00 ltf00
  obtain ⟨V18, hV⟩ : ∃ V18, V18 = (w17.alloc (.cells #[.int .i64 r0.1, .slice h0A1 (r0.2.1).length h0c1, .slice h0A2 (r0.2.2.1).length h0c2, .slice h0A3 (r0.2.2.2).length h0c3] 36)) := ⟨_, rfl⟩
  rw [← hV]
  have gN := eqbox1 hV
  have i00 : V18.cell? ⟨w17.heap.size, 0, none⟩ = some (.int .i64 r0.1) := box_cell gN.1 0 _ rfl
  have i01 : V18.cell? ⟨w17.heap.size, 1, none⟩ = some (.slice h0A1 (r0.2.1).length h0c1) := box_cell gN.1 1 _ rfl
  have i02 : V18.cell? ⟨w17.heap.size, 2, none⟩ = some (.slice h0A2 (r0.2.2.1).length h0c2) := box_cell gN.1 2 _ rfl
  have i03 : V18.cell? ⟨w17.heap.size, 3, none⟩ = some (.slice h0A3 (r0.2.2.2).length h0c3) := box_cell gN.1 3 _ rfl
  have t18 : V18.heap.size = w17.heap.size + 1 := by rw [hV]; simp
  replace aa0 := keep gN.2 aa0
  replace aa1 := keep gN.2 aa1
  replace aa2 := keep gN.2 aa2
  replace aa3 := keep gN.2 aa3
  replace e00 := keep gN.2 e00
  replace e01 := keep gN.2 e01
  replace e02 := keep gN.2 e02
  replace e03 := keep gN.2 e03
  replace f00 := keep gN.2 f00
  replace f01 := keep gN.2 f01
  replace f02 := keep gN.2 f02
  replace f03 := keep gN.2 f03
  replace Bs0 := Lib.hid (bThen Bs0.out gN.2)
  replace By0 := Lib.hid (bThen By0.out gN.2)
  replace Bh0 := Lib.hid (bThen Bh0.out gN.2)
  replace Og0 := Lib.hid (gow_Net.frame _ _ _ _ _ Og0.out fun b hb' => (gN.2).block b (Nat.lt_of_lt_of_le (Bg0.out b hb').2 LEg0.out))
  replace LEg0 := Lib.hid (Nat.le_trans LEg0.out (gN.2).size)
  replace HW := Lib.hid (bThen HW.out gN.2)
  have s18 : w17.heap.size ≤ V18.heap.size := (gN.2).size
  clear hV gN
  refine (eqNet_any r0 [.int .i64 r0.1, .slice h0A1 (r0.2.1).length h0c1, .slice h0A2 (r0.2.2.1).length h0c2, .slice h0A3 (r0.2.2.2).length h0c3] [.int .i64 r0.1, .slice s0A1 (r0.2.1).length s0c1, .slice s0A2 (r0.2.2.1).length s0c2, .slice s0A3 (r0.2.2.2).length s0c3] _ (good_Net.below Hh0.out (Nat.le_refl _) Bh0.out) (good_Net.below Hs0.out (Nat.le_refl _) Bs0.out) Bh0.out.size Bs0.out.size).mono ?_
  rintro e w19 ⟨rfl, hbN⟩
  replace aa0 := keep hbN aa0
  replace aa1 := keep hbN aa1
  replace aa2 := keep hbN aa2
  replace aa3 := keep hbN aa3
  replace e00 := keep hbN e00
  replace e01 := keep hbN e01
  replace e02 := keep hbN e02
  replace e03 := keep hbN e03
  replace f00 := keep hbN f00
  replace f01 := keep hbN f01
  replace f02 := keep hbN f02
  replace f03 := keep hbN f03
  replace i00 := keep hbN i00
  replace i01 := keep hbN i01
  replace i02 := keep hbN i02
  replace i03 := keep hbN i03
  replace Bs0 := Lib.hid (bThen Bs0.out hbN)
  replace By0 := Lib.hid (bThen By0.out hbN)
  replace Bh0 := Lib.hid (bThen Bh0.out hbN)
  replace Og0 := Lib.hid (gow_Net.frame _ _ _ _ _ Og0.out fun b hb' => (hbN).block b (Nat.lt_of_lt_of_le (Bg0.out b hb').2 LEg0.out))
  replace LEg0 := Lib.hid (Nat.le_trans LEg0.out (hbN).size)
  replace HW := Lib.hid (bThen HW.out hbN)
  have s19 : V18.heap.size ≤ w19.heap.size := (hbN).size
  clear hbN
  go_wp2_with fail
  refine (heldNet_num r0 [.int .i64 r0.1, .slice g0A1 (r0.2.1).length g0c1, .slice g0A2 (r0.2.2.1).length g0c2, .slice g0A3 (r0.2.2.2).length g0c3] 1 _ (rds_Net _ _ _ _ _ _ Og0.out (fun b hb => ⟨(Bg0.out b hb).1, Nat.lt_of_lt_of_le (Bg0.out b hb).2 LEg0.out⟩)) (Nat.le_refl _) (by omega) (by have := HBD.out; unfold cntVNet; omega)).mono ?_
  rintro e w20 ⟨rfl, hbN⟩
  rw [HQ0.out]
  replace aa0 := keep hbN aa0
  replace aa1 := keep hbN aa1
  replace aa2 := keep hbN aa2
  replace aa3 := keep hbN aa3
  replace e00 := keep hbN e00
  replace e01 := keep hbN e01
  replace e02 := keep hbN e02
  replace e03 := keep hbN e03
  replace f00 := keep hbN f00
  replace f01 := keep hbN f01
  replace f02 := keep hbN f02
  replace f03 := keep hbN f03
  replace i00 := keep hbN i00
  replace i01 := keep hbN i01
  replace i02 := keep hbN i02
  replace i03 := keep hbN i03
  replace Bs0 := Lib.hid (bThen Bs0.out hbN)
  replace By0 := Lib.hid (bThen By0.out hbN)
  replace Bh0 := Lib.hid (bThen Bh0.out hbN)
  replace Og0 := Lib.hid (gow_Net.frame _ _ _ _ _ Og0.out fun b hb' => (hbN).block b (Nat.lt_of_lt_of_le (Bg0.out b hb').2 LEg0.out))
  replace LEg0 := Lib.hid (Nat.le_trans LEg0.out (hbN).size)
  replace HW := Lib.hid (bThen HW.out hbN)
  have s20 : w19.heap.size ≤ w20.heap.size := (hbN).size
  clear hbN
  go_wp2
  go_ret
  exact ⟨rfl, HW.out⟩
end Go.Proofs.Ytedamhkcblemdaa
