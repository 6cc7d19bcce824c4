/-
  The walk of the exact law over SignalValues.
-/
import Derived.Test.YtmjofpfkgbnknaaGreatDmAll
import Derived.Test.YtmjofpfkgbnknaaGreatDzAll
import Derived.Test.YtmjofpfkgbnknaaGreatWsAll
import Derived.Test.YtmjofpfkgbnknaaGreatSvAll
import Derived.Test.YtmjofpfkgbnknaaGreatKept
import Derived.Deep.RegionHeld3
namespace Go.Proofs.YtmjofpfkgbnknaaGreat
open Go.RowKit
set_option linter.unusedVariables false
set_option linter.unusedSimpArgs false
theorem below_sims {B T N : Nat} {a w1 w2 : World} (hb : Below N a w1) (h : Sims B T w1 w2) (hN : N ≤ B ∧ N ≤ w1.heap.size) : Below N a w2 :=
  ⟨h.os.trans hb.os, h.tape.trans hb.tape, h.output.trans hb.output, Nat.le_trans hb.size h.size, fun k hk => (h.block k (Nat.lt_of_lt_of_le hk hN.2) (.inl (Nat.lt_of_lt_of_le hk hN.1))).trans (hb.block k hk)⟩
theorem below_chg {bs : List Nat} {N : Nat} {a w1 w2 : World} (hb : Below N a w1) (h : ChgL bs w1 w2) (hN : ∀ b ∈ bs, N ≤ b) (hs : N ≤ w1.heap.size := by omega) : Below N a w2 :=
  ⟨h.os.trans hb.os, h.tape.trans hb.tape, h.output.trans hb.output, Nat.le_trans hb.size h.size, fun k hk => (h.block k (Nat.lt_of_lt_of_le hk hs) (fun hm => by have := hN k hm; omega)).trans (hb.block k hk)⟩
set_option maxHeartbeats 3200000 in
theorem markModule_cap (x : DModule) (us : List Value) {B T : Nat} {cap : Int} (k : Int) (w0 wb w : World) (h : rwModule B T w0 us x) (hT : T ≤ w0.heap.size) (hs : Sims B T w0 w) (hsb : Sims B T wb w) (hk0 : 0 ≤ k) (hk : k + ((cntSignalS (x.1) : Int) + (cntAssignS (x.2.1) : Int) + (cntInstS (x.2.2.1) : Int) + (cntMemS (x.2.2.2) : Int)) ≤ cap) (hcap : cap ≤ 9000000000000000000) :
    Calls Tryz.prog 15 #[.agg us.toArray, .int .i64 k] w fun e w' => (∃ r : Int, 0 ≤ r ∧ r ≤ cap ∧ e = .returned (.int .i64 r)) ∧ Sims B T w0 w' ∧ Sims B T wb w' := by
  have HS := Lib.hid (And.intro hs hsb)
  clear hs hsb
  obtain ⟨x0, x1, x2, x3, rfl, xh0, xh1, xh2, xh3⟩ := h
  have xR0 := Lib.hid xh0
  obtain ⟨xA0, xq0, xe0, xm0, -⟩ := xh0
  injection xe0 with xe0
  subst xe0
  have xR1 := Lib.hid xh1
  obtain ⟨xA1, xq1, xe1, xm1, -⟩ := xh1
  injection xe1 with xe1
  subst xe1
  have xR2 := Lib.hid xh2
  obtain ⟨xA2, xq2, xe2, xm2, -⟩ := xh2
  injection xe2 with xe2
  subst xe2
  have xR3 := Lib.hid xh3
  obtain ⟨xA3, xq3, xe3, xm3, -⟩ := xh3
  injection xe3 with xe3
  subst xe3
  obtain ⟨t0, ht0⟩ : ∃ c : Int, (cntSignalS (x.1) : Int) = c := ⟨_, rfl⟩
  have HC0 := Lib.hid ht0
  have h0 : 0 ≤ t0 := by omega
  obtain ⟨t1, ht1⟩ : ∃ c : Int, (cntAssignS (x.2.1) : Int) = c := ⟨_, rfl⟩
  have HC1 := Lib.hid ht1
  have h1 : 0 ≤ t1 := by omega
  obtain ⟨t2, ht2⟩ : ∃ c : Int, (cntInstS (x.2.2.1) : Int) = c := ⟨_, rfl⟩
  have HC2 := Lib.hid ht2
  have h2 : 0 ≤ t2 := by omega
  obtain ⟨t3, ht3⟩ : ∃ c : Int, (cntMemS (x.2.2.2) : Int) = c := ⟨_, rfl⟩
  have HC3 := Lib.hid ht3
  have h3 : 0 ≤ t3 := by omega
  rw [ht0, ht1, ht2, ht3] at hk
  clear ht0 ht1 ht2 ht3
  go_enter Tryz.func15, Tryz.ntmps15
  go_wp2_with fail
  obtain ⟨V, hV⟩ : ∃ V, V = w.alloc (.cells #[.slice xA0 (x.1).length xq0, .slice xA1 (x.2.1).length xq1, .slice xA2 (x.2.2.1).length xq2, .slice xA3 (x.2.2.2).length xq3] 31) := ⟨_, rfl⟩
  rw [← hV]
  have g := eqbox1 hV
  have c0 : V.cell? ⟨w.heap.size, 0, none⟩ = some (.slice xA0 (x.1).length xq0) := box_cell g.1 0 _ rfl
  have c1 : V.cell? ⟨w.heap.size, 1, none⟩ = some (.slice xA1 (x.2.1).length xq1) := box_cell g.1 1 _ rfl
  have c2 : V.cell? ⟨w.heap.size, 2, none⟩ = some (.slice xA2 (x.2.2.1).length xq2) := box_cell g.1 2 _ rfl
  have c3 : V.cell? ⟨w.heap.size, 3, none⟩ = some (.slice xA3 (x.2.2.2).length xq3) := box_cell g.1 3 _ rfl
  have HR0 := Lib.hid (And.intro (HS.out.1.below g.2) (HS.out.2.below g.2))
  have HG := Lib.hid g.1
  have hlt : T ≤ w.heap.size := Nat.le_trans hT HS.out.1.size
  have HV0 := Lib.hid (Sims.refl B T V)
  clear hV g
  obtain ⟨Vp0, hvp⟩ : ∃ Vp, Vp = V := ⟨_, rfl⟩
  refine (markSignalS_both (x.1) _ _ w0 wb V _ xR0.out hT HR0.out.1 HR0.out.2 HV0.out (by omega) (by rw [HC0.out]; omega)).mono ?_
  rintro e W1 ⟨rfl, hr, hrb, hrv⟩
  rw [HC0.out]
  have HR1 := Lib.hid (And.intro hr hrb)
  have HV1 := Lib.hid hrv
  have c0' : W1.cell? ⟨w.heap.size, 0, none⟩ = some (.slice xA0 (x.1).length xq0) := sims_box hrv HG.out hlt 0 _ rfl
  have c1' : W1.cell? ⟨w.heap.size, 1, none⟩ = some (.slice xA1 (x.2.1).length xq1) := sims_box hrv HG.out hlt 1 _ rfl
  have c2' : W1.cell? ⟨w.heap.size, 2, none⟩ = some (.slice xA2 (x.2.2.1).length xq2) := sims_box hrv HG.out hlt 2 _ rfl
  have c3' : W1.cell? ⟨w.heap.size, 3, none⟩ = some (.slice xA3 (x.2.2.2).length xq3) := sims_box hrv HG.out hlt 3 _ rfl
  clear hr hrb hrv hvp c0 c1 c2 c3
  have c0 := c0'
  have c1 := c1'
  have c2 := c2'
  have c3 := c3'
  clear c0' c1' c2' c3'
  go_wp2_with fail
  obtain ⟨Vp1, hvp⟩ : ∃ Vp, Vp = W1 := ⟨_, rfl⟩
  refine (markAssignS_both (x.2.1) _ _ w0 wb V _ xR1.out hT HR1.out.1 HR1.out.2 HV1.out (by omega) (by rw [HC1.out]; omega)).mono ?_
  rintro e W2 ⟨rfl, hr, hrb, hrv⟩
  rw [HC1.out]
  have HR2 := Lib.hid (And.intro hr hrb)
  have HV2 := Lib.hid hrv
  have c0' : W2.cell? ⟨w.heap.size, 0, none⟩ = some (.slice xA0 (x.1).length xq0) := sims_box hrv HG.out hlt 0 _ rfl
  have c1' : W2.cell? ⟨w.heap.size, 1, none⟩ = some (.slice xA1 (x.2.1).length xq1) := sims_box hrv HG.out hlt 1 _ rfl
  have c2' : W2.cell? ⟨w.heap.size, 2, none⟩ = some (.slice xA2 (x.2.2.1).length xq2) := sims_box hrv HG.out hlt 2 _ rfl
  have c3' : W2.cell? ⟨w.heap.size, 3, none⟩ = some (.slice xA3 (x.2.2.2).length xq3) := sims_box hrv HG.out hlt 3 _ rfl
  clear hr hrb hrv hvp c0 c1 c2 c3
  have c0 := c0'
  have c1 := c1'
  have c2 := c2'
  have c3 := c3'
  clear c0' c1' c2' c3'
  go_wp2_with fail
  obtain ⟨Vp2, hvp⟩ : ∃ Vp, Vp = W2 := ⟨_, rfl⟩
  refine (markInstS_both (x.2.2.1) _ _ w0 wb V _ xR2.out hT HR2.out.1 HR2.out.2 HV2.out (by omega) (by rw [HC2.out]; omega)).mono ?_
  rintro e W3 ⟨rfl, hr, hrb, hrv⟩
  rw [HC2.out]
  have HR3 := Lib.hid (And.intro hr hrb)
  have HV3 := Lib.hid hrv
  have c0' : W3.cell? ⟨w.heap.size, 0, none⟩ = some (.slice xA0 (x.1).length xq0) := sims_box hrv HG.out hlt 0 _ rfl
  have c1' : W3.cell? ⟨w.heap.size, 1, none⟩ = some (.slice xA1 (x.2.1).length xq1) := sims_box hrv HG.out hlt 1 _ rfl
  have c2' : W3.cell? ⟨w.heap.size, 2, none⟩ = some (.slice xA2 (x.2.2.1).length xq2) := sims_box hrv HG.out hlt 2 _ rfl
  have c3' : W3.cell? ⟨w.heap.size, 3, none⟩ = some (.slice xA3 (x.2.2.2).length xq3) := sims_box hrv HG.out hlt 3 _ rfl
  clear hr hrb hrv hvp c0 c1 c2 c3
  have c0 := c0'
  have c1 := c1'
  have c2 := c2'
  have c3 := c3'
  clear c0' c1' c2' c3'
  go_wp2_with fail
  obtain ⟨Vp3, hvp⟩ : ∃ Vp, Vp = W3 := ⟨_, rfl⟩
  refine (markMemS_both (x.2.2.2) _ _ w0 wb V _ xR3.out hT HR3.out.1 HR3.out.2 HV3.out (by omega) (by rw [HC3.out]; omega)).mono ?_
  rintro e W4 ⟨rfl, hr, hrb, hrv⟩
  rw [HC3.out]
  have HR4 := Lib.hid (And.intro hr hrb)
  have HV4 := Lib.hid hrv
  have c0' : W4.cell? ⟨w.heap.size, 0, none⟩ = some (.slice xA0 (x.1).length xq0) := sims_box hrv HG.out hlt 0 _ rfl
  have c1' : W4.cell? ⟨w.heap.size, 1, none⟩ = some (.slice xA1 (x.2.1).length xq1) := sims_box hrv HG.out hlt 1 _ rfl
  have c2' : W4.cell? ⟨w.heap.size, 2, none⟩ = some (.slice xA2 (x.2.2.1).length xq2) := sims_box hrv HG.out hlt 2 _ rfl
  have c3' : W4.cell? ⟨w.heap.size, 3, none⟩ = some (.slice xA3 (x.2.2.2).length xq3) := sims_box hrv HG.out hlt 3 _ rfl
  clear hr hrb hrv hvp c0 c1 c2 c3
  have c0 := c0'
  have c1 := c1'
  have c2 := c2'
  have c3 := c3'
  clear c0' c1' c2' c3'
  go_wp2
  go_ret
  exact ⟨⟨_, by omega, by omega, rfl⟩, HR4.out.1, HR4.out.2⟩
set_option maxHeartbeats 3200000 in
theorem markWordState_cap (x : DWordState) (us : List Value) {B T : Nat} {cap : Int} (k : Int) (w0 wb w : World) (h : rwWordState B T w0 us x) (hT : T ≤ w0.heap.size) (hs : Sims B T w0 w) (hsb : Sims B T wb w) (hk0 : 0 ≤ k) (hk : k + ((cntIntS (x.1) : Int) + (cntIntS (x.2) : Int)) ≤ cap) (hcap : cap ≤ 9000000000000000000) :
    Calls Tryz.prog 26 #[.agg us.toArray, .int .i64 k] w fun e w' => (∃ r : Int, 0 ≤ r ∧ r ≤ cap ∧ e = .returned (.int .i64 r)) ∧ Sims B T w0 w' ∧ Sims B T wb w' := by
  have HS := Lib.hid (And.intro hs hsb)
  clear hs hsb
  obtain ⟨x0, x1, rfl, xh0, xh1⟩ := h
  have xR0 := Lib.hid xh0
  obtain ⟨xA0, xq0, xe0, xm0, -⟩ := xh0
  injection xe0 with xe0
  subst xe0
  have xR1 := Lib.hid xh1
  obtain ⟨xA1, xq1, xe1, xm1, -⟩ := xh1
  injection xe1 with xe1
  subst xe1
  obtain ⟨t0, ht0⟩ : ∃ c : Int, (cntIntS (x.1) : Int) = c := ⟨_, rfl⟩
  have HC0 := Lib.hid ht0
  have h0 : 0 ≤ t0 := by omega
  obtain ⟨t1, ht1⟩ : ∃ c : Int, (cntIntS (x.2) : Int) = c := ⟨_, rfl⟩
  have HC1 := Lib.hid ht1
  have h1 : 0 ≤ t1 := by omega
  rw [ht0, ht1] at hk
  clear ht0 ht1
  go_enter Tryz.func26, Tryz.ntmps26
  go_wp2_with fail
  obtain ⟨V, hV⟩ : ∃ V, V = w.alloc (.cells #[.slice xA0 (x.1).length xq0, .slice xA1 (x.2).length xq1] 56) := ⟨_, rfl⟩
  rw [← hV]
  have g := eqbox1 hV
  have c0 : V.cell? ⟨w.heap.size, 0, none⟩ = some (.slice xA0 (x.1).length xq0) := box_cell g.1 0 _ rfl
  have c1 : V.cell? ⟨w.heap.size, 1, none⟩ = some (.slice xA1 (x.2).length xq1) := box_cell g.1 1 _ rfl
  have HR0 := Lib.hid (And.intro (HS.out.1.below g.2) (HS.out.2.below g.2))
  have HG := Lib.hid g.1
  have hlt : T ≤ w.heap.size := Nat.le_trans hT HS.out.1.size
  have HV0 := Lib.hid (Sims.refl B T V)
  clear hV g
  obtain ⟨Vp0, hvp⟩ : ∃ Vp, Vp = V := ⟨_, rfl⟩
  refine (markIntS_both (x.1) _ _ w0 wb V _ xR0.out hT HR0.out.1 HR0.out.2 HV0.out (by omega) (by rw [HC0.out]; omega)).mono ?_
  rintro e W1 ⟨rfl, hr, hrb, hrv⟩
  rw [HC0.out]
  have HR1 := Lib.hid (And.intro hr hrb)
  have HV1 := Lib.hid hrv
  have c0' : W1.cell? ⟨w.heap.size, 0, none⟩ = some (.slice xA0 (x.1).length xq0) := sims_box hrv HG.out hlt 0 _ rfl
  have c1' : W1.cell? ⟨w.heap.size, 1, none⟩ = some (.slice xA1 (x.2).length xq1) := sims_box hrv HG.out hlt 1 _ rfl
  clear hr hrb hrv hvp c0 c1
  have c0 := c0'
  have c1 := c1'
  clear c0' c1'
  go_wp2_with fail
  obtain ⟨Vp1, hvp⟩ : ∃ Vp, Vp = W1 := ⟨_, rfl⟩
  refine (markIntS_both (x.2) _ _ w0 wb V _ xR1.out hT HR1.out.1 HR1.out.2 HV1.out (by omega) (by rw [HC1.out]; omega)).mono ?_
  rintro e W2 ⟨rfl, hr, hrb, hrv⟩
  rw [HC1.out]
  have HR2 := Lib.hid (And.intro hr hrb)
  have HV2 := Lib.hid hrv
  have c0' : W2.cell? ⟨w.heap.size, 0, none⟩ = some (.slice xA0 (x.1).length xq0) := sims_box hrv HG.out hlt 0 _ rfl
  have c1' : W2.cell? ⟨w.heap.size, 1, none⟩ = some (.slice xA1 (x.2).length xq1) := sims_box hrv HG.out hlt 1 _ rfl
  clear hr hrb hrv hvp c0 c1
  have c0 := c0'
  have c1 := c1'
  clear c0' c1'
  go_wp2
  go_ret
  exact ⟨⟨_, by omega, by omega, rfl⟩, HR2.out.1, HR2.out.2⟩

theorem sigO_in (m : DModule) (st : DWordState) (ins : List Int) : (sigO m st ins).length ≤ 30 ∧ ∀ x ∈ sigO m st ins, Fit x := by
  unfold sigO
  split
  · rename_i h
    rw [Bool.and_eq_true] at h
    have hP := flatP_of (ws_flat h.1)
    have hv := ws_vals hP h.1
    have hr : ValsIn (sigV m st.1 ins) := runV_in hP (insV_in hP hv.1 _) _
    exact ⟨hr.1, fun x hx => by have := hr.2 x hx; unfold Fit; omega⟩
  · simp

theorem specSigG (m : DModule) (st : DWordState) (ins : List Int) (us vs : List Value) (nv : Value) (w : World) (h : rdModule 0 w.heap.size w us m) (hs : rdWordState 0 w.heap.size w vs st) (hn : rdIntS 0 w.heap.size w [nv] ins) (hm : ins.length ≤ 1048576) {L : List Int} (hL : sigO m st ins = L) :
    Calls Tryz.prog 19 #[.agg us.toArray, .agg vs.toArray, nv] w fun e w' => ∃ (v : Value) (bs : List Nat), e = .returned v ∧ owIntS bs w' [v] L ∧ bs.Nodup ∧ (∀ b ∈ bs, w.heap.size ≤ b ∧ b < w'.heap.size) ∧ Below w.heap.size w w' := by
  refine (specSig_at m st ins us vs nv w h hs hn hm hL).mono ?_
  rintro e w' ⟨v, rfl, ho, hb⟩
  refine ⟨v, blkL v, rfl, ownI_ow ho (by rw [← hL]; exact (sigO_in m st ins).2), by unfold blkL; cases v.ownBlock <;> simp, fun b hbm => ho.lt b (mem_blkL.1 hbm), hb⟩

theorem implSigG (m : DModule) (st : DWordState) (ins : List Int) (us vs : List Value) (nv : Value) (w : World) (h : rdModule 0 w.heap.size w us m) (hs : rdWordState 0 w.heap.size w vs st) (hn : rdIntS 0 w.heap.size w [nv] ins) {L : List Int} (hL : sigO m st ins = L) :
    Calls Tryz.prog 23 #[.agg us.toArray, .agg vs.toArray, nv] w fun e w' => ∃ (v : Value) (bs : List Nat), e = .returned v ∧ owIntS bs w' [v] L ∧ bs.Nodup ∧ (∀ b ∈ bs, w.heap.size ≤ b ∧ b < w'.heap.size) ∧ Below w.heap.size w w' := by
  refine (implSig_at m st ins us vs nv w h hs hn hL).mono ?_
  rintro e w' ⟨v, rfl, ho, hb⟩
  refine ⟨v, blkL v, rfl, ownI_ow ho (by rw [← hL]; exact (sigO_in m st ins).2), by unfold blkL; cases v.ownBlock <;> simp, fun b hbm => ho.lt b (mem_blkL.1 hbm), hb⟩

set_option maxRecDepth 100000 in
set_option maxHeartbeats 25600000 in
theorem exactSig_walk (av0 av1 av2 av3 : Value) (za : DModule) (bv0 bv1 : Value) (zb : DWordState) (cA : Option Addr) (cl cc : Nat) (zc : List Int) (w : World) (ha : rdModule 0 w.heap.size w [av0, av1, av2, av3] za) (hb : rdWordState 0 w.heap.size w [bv0, bv1] zb) (hc : rdIntS 0 w.heap.size w [.slice cA cl cc] zc) :
    Calls Tryz.prog 4 #[.agg #[av0, av1, av2, av3], .agg #[bv0, bv1], .slice cA cl cc] w fun e w' => e = .returned (.bool true) ∧ Below w.heap.size w w' := by
  have HDa := Lib.hid ha
  obtain ⟨aw0, aw1, aw2, aw3, ade, ah0, ah1, ah2, ah3⟩ := ha
  injection ade with ad0 ade
  injection ade with ad1 ade
  injection ade with ad2 ade
  injection ade with ad3 ade
  subst ad0 ad1 ad2 ad3
  clear ade
  obtain ⟨aA0, ac0, ae0, am0, -⟩ := ah0
  injection ae0 with ae0
  subst ae0
  unfold maxLen at am0
  obtain ⟨aA1, ac1, ae1, am1, -⟩ := ah1
  injection ae1 with ae1
  subst ae1
  unfold maxLen at am1
  obtain ⟨aA2, ac2, ae2, am2, -⟩ := ah2
  injection ae2 with ae2
  subst ae2
  unfold maxLen at am2
  obtain ⟨aA3, ac3, ae3, am3, -⟩ := ah3
  injection ae3 with ae3
  subst ae3
  unfold maxLen at am3
  have HDb := Lib.hid hb
  obtain ⟨bw0, bw1, bde, bh0, bh1⟩ := hb
  injection bde with bd0 bde
  injection bde with bd1 bde
  subst bd0 bd1
  clear bde
  obtain ⟨bA0, bc0, be0, bm0, -⟩ := bh0
  injection be0 with be0
  subst be0
  unfold maxLen at bm0
  obtain ⟨bA1, bc1, be1, bm1, -⟩ := bh1
  injection be1 with be1
  subst be1
  unfold maxLen at bm1
  have HDc := Lib.hid hc
  obtain ⟨cA', cc', ce, cm, -⟩ := slice_of hc
  injection ce with ce1 ce2 ce3
  subst ce1 ce2 ce3
  clear hc
  obtain ⟨r0, hr0⟩ : ∃ r0, sigO za zb zc = r0 := ⟨_, rfl⟩
  have HR0 := Lib.hid hr0
  have HBD := Lib.hid (show r0.length ≤ 30 by rw [← hr0]; exact (sigO_in za zb zc).1)
  clear hr0
  by_cases hlc : zc.length ≤ 1048576
  case neg =>
    have tlc : (1048576 : Int) < (zc.length : Int) := by omega
    go_enter Tryz.func4, Tryz.ntmps4
    go_wp2
    go_ret
    exact ⟨rfl, by (repeat' (first | assumption | exact Below.refl _ _ | refine bDrewN ?_ _ | refine Below.drew ?_ | refine bAlloc ?_ (Nat.le_refl _) _ | refine bSet ?_ (by first | exact Nat.le_refl _ | omega | (simp <;> omega)) _))⟩
  have tlc : ¬ (1048576 : Int) < (zc.length : Int) := by omega
  have HSc := Lib.hid (show smIntS zc from hlc)
  have HW := Lib.hid (Below.refl w.heap.size w)
  go_enter Tryz.func4, Tryz.ntmps4
  go_wp2_with fail
  obtain ⟨V1, hV⟩ : ∃ V1, V1 = ((w.alloc (.cells #[.slice aA0 (za.1).length ac0, .slice aA1 (za.2.1).length ac1, .slice aA2 (za.2.2.1).length ac2, .slice aA3 (za.2.2.2).length ac3] 48)).alloc (.cells #[.slice bA0 (zb.1).length bc0, .slice bA1 (zb.2).length bc1] 51)) := ⟨_, rfl⟩
  rw [← hV]
  have gN := eqbox2 hV
  have aa0 : V1.cell? ⟨w.heap.size, 0, none⟩ = some (.slice aA0 (za.1).length ac0) := box_cell gN.1 0 _ rfl
  have aa1 : V1.cell? ⟨w.heap.size, 1, none⟩ = some (.slice aA1 (za.2.1).length ac1) := box_cell gN.1 1 _ rfl
  have aa2 : V1.cell? ⟨w.heap.size, 2, none⟩ = some (.slice aA2 (za.2.2.1).length ac2) := box_cell gN.1 2 _ rfl
  have aa3 : V1.cell? ⟨w.heap.size, 3, none⟩ = some (.slice aA3 (za.2.2.2).length ac3) := box_cell gN.1 3 _ rfl
  have ab0 : V1.cell? ⟨w.heap.size + 1, 0, none⟩ = some (.slice bA0 (zb.1).length bc0) := box_cell gN.2.1 0 _ rfl
  have ab1 : V1.cell? ⟨w.heap.size + 1, 1, none⟩ = some (.slice bA1 (zb.2).length bc1) := box_cell gN.2.1 1 _ rfl
  have t1 : V1.heap.size = w.heap.size + 2 := by rw [hV]; simp
  replace HW := Lib.hid (bThen HW.out gN.2.2)
  have s1 : w.heap.size ≤ V1.heap.size := (gN.2.2).size
  clear hV gN
  refine (szModule_post za [.slice aA0 (za.1).length ac0, .slice aA1 (za.2.1).length ac1, .slice aA2 (za.2.2.1).length ac2, .slice aA3 (za.2.2.2).length ac3] 1048576 _ (good_Module.below HDa.out (Nat.le_refl _) HW.out) HW.out.size (by omega) (by omega)).mono ?_
  rintro e w2 ⟨lfa, rfl, hrN, hbN⟩
  replace aa0 := keep hbN aa0
  replace aa1 := keep hbN aa1
  replace aa2 := keep hbN aa2
  replace aa3 := keep hbN aa3
  replace ab0 := keep hbN ab0
  replace ab1 := keep hbN ab1
  replace HW := Lib.hid (bThen HW.out hbN)
  have s2 : V1.heap.size ≤ w2.heap.size := (hbN).size
  clear hbN
  rcases hrN with rfl | ⟨pa, qa, sN⟩
  · go_wp2
    go_ret
    exact ⟨rfl, HW.out⟩
  have ta : ¬ lfa < 0 := by omega
  have HSa := Lib.hid sN
  clear sN
  go_wp2_with fail
  refine (szWordState_post zb [.slice bA0 (zb.1).length bc0, .slice bA1 (zb.2).length bc1] lfa _ (good_WordState.below HDb.out (Nat.le_refl _) HW.out) HW.out.size (by omega) (by omega)).mono ?_
  rintro e w3 ⟨lfb, rfl, hrN, hbN⟩
  replace aa0 := keep hbN aa0
  replace aa1 := keep hbN aa1
  replace aa2 := keep hbN aa2
  replace aa3 := keep hbN aa3
  replace ab0 := keep hbN ab0
  replace ab1 := keep hbN ab1
  replace HW := Lib.hid (bThen HW.out hbN)
  have s3 : w2.heap.size ≤ w3.heap.size := (hbN).size
  clear hbN
  rcases hrN with rfl | ⟨pb, qb, sN⟩
  · go_wp2
    go_ret
    exact ⟨rfl, HW.out⟩
  have tb : ¬ lfb < 0 := by omega
  have HSb := Lib.hid sN
  clear sN
  go_wp2_with fail
  have hS0 : (fun w' => Below w3.heap.size w3 w' ∧ w'.cell? ⟨w.heap.size, 0, none⟩ = some (.slice aA0 (za.1).length ac0) ∧ w'.cell? ⟨w.heap.size, 1, none⟩ = some (.slice aA1 (za.2.1).length ac1) ∧ w'.cell? ⟨w.heap.size, 2, none⟩ = some (.slice aA2 (za.2.2.1).length ac2) ∧ w'.cell? ⟨w.heap.size, 3, none⟩ = some (.slice aA3 (za.2.2.2).length ac3) ∧ w'.cell? ⟨w.heap.size + 1, 0, none⟩ = some (.slice bA0 (zb.1).length bc0) ∧ w'.cell? ⟨w.heap.size + 1, 1, none⟩ = some (.slice bA1 (zb.2).length bc1)) w3 := ⟨Below.refl _ _, aa0, aa1, aa2, aa3, ab0, ab1⟩
  have hS : ∀ {w0 w' : World}, (fun w' => Below w3.heap.size w3 w' ∧ w'.cell? ⟨w.heap.size, 0, none⟩ = some (.slice aA0 (za.1).length ac0) ∧ w'.cell? ⟨w.heap.size, 1, none⟩ = some (.slice aA1 (za.2.1).length ac1) ∧ w'.cell? ⟨w.heap.size, 2, none⟩ = some (.slice aA2 (za.2.2.1).length ac2) ∧ w'.cell? ⟨w.heap.size, 3, none⟩ = some (.slice aA3 (za.2.2.2).length ac3) ∧ w'.cell? ⟨w.heap.size + 1, 0, none⟩ = some (.slice bA0 (zb.1).length bc0) ∧ w'.cell? ⟨w.heap.size + 1, 1, none⟩ = some (.slice bA1 (zb.2).length bc1)) w0 → Below w0.heap.size w0 w' → (fun w' => Below w3.heap.size w3 w' ∧ w'.cell? ⟨w.heap.size, 0, none⟩ = some (.slice aA0 (za.1).length ac0) ∧ w'.cell? ⟨w.heap.size, 1, none⟩ = some (.slice aA1 (za.2.1).length ac1) ∧ w'.cell? ⟨w.heap.size, 2, none⟩ = some (.slice aA2 (za.2.2.1).length ac2) ∧ w'.cell? ⟨w.heap.size, 3, none⟩ = some (.slice aA3 (za.2.2.2).length ac3) ∧ w'.cell? ⟨w.heap.size + 1, 0, none⟩ = some (.slice bA0 (zb.1).length bc0) ∧ w'.cell? ⟨w.heap.size + 1, 1, none⟩ = some (.slice bA1 (zb.2).length bc1)) w' := fun h hb => ⟨bThen h.1 hb, keep hb h.2.1, keep hb h.2.2.1, keep hb h.2.2.2.1, keep hb h.2.2.2.2.1, keep hb h.2.2.2.2.2.1, keep hb h.2.2.2.2.2.2⟩
  dsimp only at hS0 hS
  refine wp_region_noPanic ?_
  refine wp_region_kept 7 8 (fun w' => Below w3.heap.size w3 w' ∧ w'.cell? ⟨w.heap.size, 0, none⟩ = some (.slice aA0 (za.1).length ac0) ∧ w'.cell? ⟨w.heap.size, 1, none⟩ = some (.slice aA1 (za.2.1).length ac1) ∧ w'.cell? ⟨w.heap.size, 2, none⟩ = some (.slice aA2 (za.2.2.1).length ac2) ∧ w'.cell? ⟨w.heap.size, 3, none⟩ = some (.slice aA3 (za.2.2.2).length ac3) ∧ w'.cell? ⟨w.heap.size + 1, 0, none⟩ = some (.slice bA0 (zb.1).length bc0) ∧ w'.cell? ⟨w.heap.size + 1, 1, none⟩ = some (.slice bA1 (zb.2).length bc1)) (by kernel_rfl) rfl (hS hS0 (Below.drew (Below.refl _ _))) (fun hK0 => ?_)
  refine Kept.take (v := ?vt3n0) 0 (by kernel_rfl) rfl (by kernel_rfl) (fun _ _ _ h => h) (Or.inl ⟨by rfl, ?hyt3n0⟩) hK0 ?restt3n0
  case hyt3n0 =>
    intro w0 hSw
    (try dsimp only at hSw)
    go_simp
    all_goals (with_reducible rfl)
  (try simp only [Act.put, List.setIfInBounds_toArray, List.set_cons_zero, List.set_cons_succ])
  refine Kept.take (v := ?vt3n2) 2 (by kernel_rfl) rfl (by kernel_rfl) (fun _ _ _ h => h) (Or.inl ⟨by rfl, ?hyt3n2⟩) hK0 ?restt3n2
  case hyt3n2 =>
    intro w0 hSw
    (try dsimp only at hSw)
    go_simp
    all_goals (with_reducible rfl)
  (try simp only [Act.put, List.setIfInBounds_toArray, List.set_cons_zero, List.set_cons_succ])
  refine Kept.take (v := ?vt3n4) 4 (by kernel_rfl) rfl (by kernel_rfl) (fun _ _ _ h => h) (Or.inl ⟨by rfl, ?hyt3n4⟩) hK0 ?restt3n4
  case hyt3n4 =>
    intro w0 hSw
    (try dsimp only at hSw)
    go_simp
    all_goals (with_reducible rfl)
  (try simp only [Act.put, List.setIfInBounds_toArray, List.set_cons_zero, List.set_cons_succ])
  refine Kept.one 1 (by kernel_rfl) rfl (fun K hK => ?_)
  go_simp
  go_at_call 20
  refine (toModule_any za [.slice aA0 (za.1).length ac0, .slice aA1 (za.2.1).length ac1, .slice aA2 (za.2.2.1).length ac2, .slice aA3 (za.2.2.2).length ac3] _ (good_Module.below HDa.out (Nat.le_refl _) (bThen HW.out hK0.1)) (bThen HW.out hK0.1).size HSa.out).mono ?_
  rintro e wr0zs0 ⟨y0, rfl, hxN0, hbr0⟩
  have Hy0 := Lib.hid hxN0
  have Gy0 := Lib.hid (Below.refl wr0zs0.heap.size wr0zs0)
  obtain ⟨y0u0, y0u1, y0u2, y0u3, rfl, y0h0, y0h1, y0h2, y0h3⟩ := hxN0
  obtain ⟨y0A0, y0c0, y0e0, y0m0, -⟩ := y0h0
  injection y0e0 with y0e0
  subst y0e0
  unfold maxLen at y0m0
  obtain ⟨y0A1, y0c1, y0e1, y0m1, -⟩ := y0h1
  injection y0e1 with y0e1
  subst y0e1
  unfold maxLen at y0m1
  obtain ⟨y0A2, y0c2, y0e2, y0m2, -⟩ := y0h2
  injection y0e2 with y0e2
  subst y0e2
  unfold maxLen at y0m2
  obtain ⟨y0A3, y0c3, y0e3, y0m3, -⟩ := y0h3
  injection y0e3 with y0e3
  subst y0e3
  unfold maxLen at y0m3
  go_simp
  refine hK.out _ _ (hS hK0 hbr0) (fun hK1 => ?_)
  clear hK K hK0
  (try simp only [Act.put, List.setIfInBounds_toArray, List.set_cons_zero, List.set_cons_succ])
  refine Kept.one 3 (by kernel_rfl) rfl (fun K hK => ?_)
  go_simp
  go_at_call 21
  refine (toWordState_any zb [.slice bA0 (zb.1).length bc0, .slice bA1 (zb.2).length bc1] _ (good_WordState.below HDb.out (Nat.le_refl _) (bThen HW.out hK1.1)) (bThen HW.out hK1.1).size HSb.out).mono ?_
  rintro e wr1zs0 ⟨y1, rfl, hxN1, hbr1⟩
  have Hy1 := Lib.hid hxN1
  have Gy1 := Lib.hid (Below.refl wr1zs0.heap.size wr1zs0)
  replace Gy0 := Lib.hid (bThen Gy0.out hbr1)
  obtain ⟨y1u0, y1u1, rfl, y1h0, y1h1⟩ := hxN1
  obtain ⟨y1A0, y1c0, y1e0, y1m0, -⟩ := y1h0
  injection y1e0 with y1e0
  subst y1e0
  unfold maxLen at y1m0
  obtain ⟨y1A1, y1c1, y1e1, y1m1, -⟩ := y1h1
  injection y1e1 with y1e1
  subst y1e1
  unfold maxLen at y1m1
  go_simp
  refine hK.out _ _ (hS hK1 hbr1) (fun hK2 => ?_)
  clear hK K hK1
  (try simp only [Act.put, List.setIfInBounds_toArray, List.set_cons_zero, List.set_cons_succ])
  refine Kept.one 5 (by kernel_rfl) rfl (fun K hK => ?_)
  go_simp
  go_at_call 22
  refine (toIntS_any zc cA zc.length cc _ (good_IntS.below HDc.out (Nat.le_refl _) (bThen HW.out hK2.1)) (bThen HW.out hK2.1).size HSc.out).mono ?_
  rintro e wr2zs0 ⟨y2, rfl, hxN2, hbr2⟩
  have Hy2 := Lib.hid hxN2
  have Gy2 := Lib.hid (Below.refl wr2zs0.heap.size wr2zs0)
  replace Gy0 := Lib.hid (bThen Gy0.out hbr2)
  replace Gy1 := Lib.hid (bThen Gy1.out hbr2)
  obtain ⟨y2A, y2c, rfl, -⟩ := slice_of hxN2
  clear hxN2
  go_simp
  refine hK.out _ _ (hS hK2 hbr2) (fun hK3 => ?_)
  clear hK K hK2
  (try simp only [Act.put, List.setIfInBounds_toArray, List.set_cons_zero, List.set_cons_succ])
  refine Kept.one 6 (by kernel_rfl) rfl (fun K hK => ?_)
  go_simp
  go_at_call 19
  refine (specSigG za zb zc _ _ _ _ (good_Module.wider (good_Module.below Hy0.out (Nat.le_refl _) Gy0.out) (Nat.zero_le _) Gy0.out.size) (good_WordState.wider (good_WordState.below Hy1.out (Nat.le_refl _) Gy1.out) (Nat.zero_le _) Gy1.out.size) (good_IntS.wider (good_IntS.below Hy2.out (Nat.le_refl _) Gy2.out) (Nat.zero_le _) Gy2.out.size) HSc.out HR0.out).mono ?_
  rintro e wr3zs0 ⟨s0v, s0bs, rfl, oN, ndN, bsN, hbr3⟩
  have rdN := rds_IntS _ _ _ _ _ _ oN bsN
  have Hs0 := Lib.hid rdN
  have Bs0 := Lib.hid (Below.refl wr3zs0.heap.size wr3zs0)
  clear oN ndN bsN
  obtain ⟨s0A, s0c, rfl, -⟩ := slice_of rdN
  clear rdN
  go_simp
  refine hK.out _ _ (hS hK3 hbr3) (fun hK4 => ?_)
  clear hK K hK3
  (try simp only [Act.put, List.setIfInBounds_toArray, List.set_cons_zero, List.set_cons_succ])
  refine Kept.tail (by rfl) (by kernel_rfl) ?_
  simp only [List.drop_succ_cons, List.drop_zero]
  go_wp2
  refine NoPanic.normal ?_
  have hbN := hK4.1
  replace aa0 := keep hbN aa0
  replace aa1 := keep hbN aa1
  replace aa2 := keep hbN aa2
  replace aa3 := keep hbN aa3
  replace ab0 := keep hbN ab0
  replace ab1 := keep hbN ab1
  replace HW := Lib.hid (bThen HW.out hbN)
  have s4 : w3.heap.size ≤ wr3zs0.heap.size := (hbN).size
  clear hbN hK4 hS0 hS
  clear Hy0 Gy0 Hy1 Gy1 Hy2 Gy2
  go_wp2_with fail
  refine (toModule_w za [.slice aA0 (za.1).length ac0, .slice aA1 (za.2.1).length ac1, .slice aA2 (za.2.2.1).length ac2, .slice aA3 (za.2.2.2).length ac3] _ (good_Module.below HDa.out (Nat.le_refl _) HW.out) HW.out.size HSa.out).mono ?_
  rintro e w5 ⟨x0, rfl, hxN, hbN⟩
  replace aa0 := keep hbN aa0
  replace aa1 := keep hbN aa1
  replace aa2 := keep hbN aa2
  replace aa3 := keep hbN aa3
  replace ab0 := keep hbN ab0
  replace ab1 := keep hbN ab1
  replace Bs0 := Lib.hid (bThen Bs0.out hbN)
  replace HW := Lib.hid (bThen HW.out hbN)
  have s5 : wr3zs0.heap.size ≤ w5.heap.size := (hbN).size
  have Hx0 := Lib.hid hxN
  have Bx0 := Lib.hid (Below.refl w5.heap.size w5)
  obtain ⟨x0u0, x0u1, x0u2, x0u3, rfl, x0h0, x0h1, x0h2, x0h3⟩ := hxN
  obtain ⟨x0A0, x0c0, x0e0, x0m0, -⟩ := x0h0
  injection x0e0 with x0e0
  subst x0e0
  unfold maxLen at x0m0
  obtain ⟨x0A1, x0c1, x0e1, x0m1, -⟩ := x0h1
  injection x0e1 with x0e1
  subst x0e1
  unfold maxLen at x0m1
  obtain ⟨x0A2, x0c2, x0e2, x0m2, -⟩ := x0h2
  injection x0e2 with x0e2
  subst x0e2
  unfold maxLen at x0m2
  obtain ⟨x0A3, x0c3, x0e3, x0m3, -⟩ := x0h3
  injection x0e3 with x0e3
  subst x0e3
  unfold maxLen at x0m3
  clear hbN
  have ltaa0 : w.heap.size < w5.heap.size := World.block_lt_of_cell? _ _ aa0
  have ltab0 : w.heap.size + 1 < w5.heap.size := World.block_lt_of_cell? _ _ ab0
  go_wp2_with fail
  clear ltaa0 ltab0
  obtain ⟨V6, hV⟩ : ∃ V6, V6 = (w5.alloc (.cells #[.slice x0A0 (za.1).length x0c0, .slice x0A1 (za.2.1).length x0c1, .slice x0A2 (za.2.2.1).length x0c2, .slice x0A3 (za.2.2.2).length x0c3] 31)) := ⟨_, rfl⟩
  rw [← hV]
  have gN := eqbox1 hV
  have b00 : V6.cell? ⟨w5.heap.size, 0, none⟩ = some (.slice x0A0 (za.1).length x0c0) := box_cell gN.1 0 _ rfl
  have b01 : V6.cell? ⟨w5.heap.size, 1, none⟩ = some (.slice x0A1 (za.2.1).length x0c1) := box_cell gN.1 1 _ rfl
  have b02 : V6.cell? ⟨w5.heap.size, 2, none⟩ = some (.slice x0A2 (za.2.2.1).length x0c2) := box_cell gN.1 2 _ rfl
  have b03 : V6.cell? ⟨w5.heap.size, 3, none⟩ = some (.slice x0A3 (za.2.2.2).length x0c3) := box_cell gN.1 3 _ rfl
  have t6 : V6.heap.size = w5.heap.size + 1 := by rw [hV]; simp
  replace aa0 := keep gN.2 aa0
  replace aa1 := keep gN.2 aa1
  replace aa2 := keep gN.2 aa2
  replace aa3 := keep gN.2 aa3
  replace ab0 := keep gN.2 ab0
  replace ab1 := keep gN.2 ab1
  replace Bs0 := Lib.hid (bThen Bs0.out gN.2)
  replace Bx0 := Lib.hid (bThen Bx0.out gN.2)
  replace HW := Lib.hid (bThen HW.out gN.2)
  have s6 : w5.heap.size ≤ V6.heap.size := (gN.2).size
  clear hV gN
  refine (toWordState_w zb [.slice bA0 (zb.1).length bc0, .slice bA1 (zb.2).length bc1] _ (good_WordState.below HDb.out (Nat.le_refl _) HW.out) HW.out.size HSb.out).mono ?_
  rintro e w7 ⟨x1, rfl, hxN, hbN⟩
  replace aa0 := keep hbN aa0
  replace aa1 := keep hbN aa1
  replace aa2 := keep hbN aa2
  replace aa3 := keep hbN aa3
  replace ab0 := keep hbN ab0
  replace ab1 := keep hbN ab1
  replace b00 := keep hbN b00
  replace b01 := keep hbN b01
  replace b02 := keep hbN b02
  replace b03 := keep hbN b03
  replace Bs0 := Lib.hid (bThen Bs0.out hbN)
  replace Bx0 := Lib.hid (bThen Bx0.out hbN)
  replace HW := Lib.hid (bThen HW.out hbN)
  have s7 : V6.heap.size ≤ w7.heap.size := (hbN).size
  have Hx1 := Lib.hid hxN
  have Bx1 := Lib.hid (Below.refl w7.heap.size w7)
  obtain ⟨x1u0, x1u1, rfl, x1h0, x1h1⟩ := hxN
  obtain ⟨x1A0, x1c0, x1e0, x1m0, -⟩ := x1h0
  injection x1e0 with x1e0
  subst x1e0
  unfold maxLen at x1m0
  obtain ⟨x1A1, x1c1, x1e1, x1m1, -⟩ := x1h1
  injection x1e1 with x1e1
  subst x1e1
  unfold maxLen at x1m1
  clear hbN
  have ltaa0 : w.heap.size < w7.heap.size := World.block_lt_of_cell? _ _ aa0
  have ltab0 : w.heap.size + 1 < w7.heap.size := World.block_lt_of_cell? _ _ ab0
  have ltb00 : w5.heap.size < w7.heap.size := World.block_lt_of_cell? _ _ b00
  go_wp2_with fail
  clear ltaa0 ltab0 ltb00
  obtain ⟨V8, hV⟩ : ∃ V8, V8 = (w7.alloc (.cells #[.slice x1A0 (zb.1).length x1c0, .slice x1A1 (zb.2).length x1c1] 56)) := ⟨_, rfl⟩
  rw [← hV]
  have gN := eqbox1 hV
  have b10 : V8.cell? ⟨w7.heap.size, 0, none⟩ = some (.slice x1A0 (zb.1).length x1c0) := box_cell gN.1 0 _ rfl
  have b11 : V8.cell? ⟨w7.heap.size, 1, none⟩ = some (.slice x1A1 (zb.2).length x1c1) := box_cell gN.1 1 _ rfl
  have t8 : V8.heap.size = w7.heap.size + 1 := by rw [hV]; simp
  replace aa0 := keep gN.2 aa0
  replace aa1 := keep gN.2 aa1
  replace aa2 := keep gN.2 aa2
  replace aa3 := keep gN.2 aa3
  replace ab0 := keep gN.2 ab0
  replace ab1 := keep gN.2 ab1
  replace b00 := keep gN.2 b00
  replace b01 := keep gN.2 b01
  replace b02 := keep gN.2 b02
  replace b03 := keep gN.2 b03
  replace Bs0 := Lib.hid (bThen Bs0.out gN.2)
  replace Bx0 := Lib.hid (bThen Bx0.out gN.2)
  replace Bx1 := Lib.hid (bThen Bx1.out gN.2)
  replace HW := Lib.hid (bThen HW.out gN.2)
  have s8 : w7.heap.size ≤ V8.heap.size := (gN.2).size
  clear hV gN
  refine (toIntS_w zc cA zc.length cc _ (good_IntS.below HDc.out (Nat.le_refl _) HW.out) HW.out.size HSc.out).mono ?_
  rintro e w9 ⟨x2, rfl, hxN, hbN⟩
  replace aa0 := keep hbN aa0
  replace aa1 := keep hbN aa1
  replace aa2 := keep hbN aa2
  replace aa3 := keep hbN aa3
  replace ab0 := keep hbN ab0
  replace ab1 := keep hbN ab1
  replace b00 := keep hbN b00
  replace b01 := keep hbN b01
  replace b02 := keep hbN b02
  replace b03 := keep hbN b03
  replace b10 := keep hbN b10
  replace b11 := keep hbN b11
  replace Bs0 := Lib.hid (bThen Bs0.out hbN)
  replace Bx0 := Lib.hid (bThen Bx0.out hbN)
  replace Bx1 := Lib.hid (bThen Bx1.out hbN)
  replace HW := Lib.hid (bThen HW.out hbN)
  have s9 : V8.heap.size ≤ w9.heap.size := (hbN).size
  have Hx2 := Lib.hid hxN
  have Bx2 := Lib.hid (Below.refl w9.heap.size w9)
  obtain ⟨x2A, x2c, rfl, -⟩ := slice_of (le_IntS _ _ _ _ _ hxN)
  clear hbN hxN
  go_wp2_with fail
  refine (implSigG za zb zc _ _ _ _ (good_Module.wider (good_Module.below (le_Module _ _ _ _ _ Hx0.out) (Nat.le_refl _) Bx0.out) (Nat.zero_le _) Bx0.out.size) (good_WordState.wider (good_WordState.below (le_WordState _ _ _ _ _ Hx1.out) (Nat.le_refl _) Bx1.out) (Nat.zero_le _) Bx1.out.size) (good_IntS.wider (good_IntS.below (le_IntS _ _ _ _ _ Hx2.out) (Nat.le_refl _) Bx2.out) (Nat.zero_le _) Bx2.out.size) HR0.out).mono ?_
  rintro e w10 ⟨g0v, g0bs, rfl, oN, ndN, bsN, hbN⟩
  replace aa0 := keep hbN aa0
  replace aa1 := keep hbN aa1
  replace aa2 := keep hbN aa2
  replace aa3 := keep hbN aa3
  replace ab0 := keep hbN ab0
  replace ab1 := keep hbN ab1
  replace b00 := keep hbN b00
  replace b01 := keep hbN b01
  replace b02 := keep hbN b02
  replace b03 := keep hbN b03
  replace b10 := keep hbN b10
  replace b11 := keep hbN b11
  replace Bs0 := Lib.hid (bThen Bs0.out hbN)
  replace Bx0 := Lib.hid (bThen Bx0.out hbN)
  replace Bx1 := Lib.hid (bThen Bx1.out hbN)
  replace Bx2 := Lib.hid (bThen Bx2.out hbN)
  replace HW := Lib.hid (bThen HW.out hbN)
  have s10 : w9.heap.size ≤ w10.heap.size := (hbN).size
  have rdN := rds_IntS _ _ _ _ _ _ oN bsN
  have Og0 := Lib.hid oN
  have Ng0 := Lib.hid ndN
  have Bg0 := Lib.hid bsN
  have LEg0 := Lib.hid (Nat.le_refl w10.heap.size)
  clear oN ndN bsN hbN
  obtain ⟨g0A, g0c, rfl, -⟩ := slice_of rdN
  clear rdN
  go_wp2_with fail
  refine (eqIntS_any r0 (.slice g0A r0.length g0c) (.slice s0A r0.length s0c) _ (rds_IntS _ _ _ _ _ _ Og0.out (fun b hb => ⟨(Bg0.out b hb).1, Nat.lt_of_lt_of_le (Bg0.out b hb).2 LEg0.out⟩)) (good_IntS.below Hs0.out (Nat.le_refl _) Bs0.out) (Nat.le_refl _) Bs0.out.size).mono ?_
  rintro e w11 ⟨rfl, hbN⟩
  replace aa0 := keep hbN aa0
  replace aa1 := keep hbN aa1
  replace aa2 := keep hbN aa2
  replace aa3 := keep hbN aa3
  replace ab0 := keep hbN ab0
  replace ab1 := keep hbN ab1
  replace b00 := keep hbN b00
  replace b01 := keep hbN b01
  replace b02 := keep hbN b02
  replace b03 := keep hbN b03
  replace b10 := keep hbN b10
  replace b11 := keep hbN b11
  replace Bs0 := Lib.hid (bThen Bs0.out hbN)
  replace Bx0 := Lib.hid (bThen Bx0.out hbN)
  replace Bx1 := Lib.hid (bThen Bx1.out hbN)
  replace Bx2 := Lib.hid (bThen Bx2.out hbN)
  replace Og0 := Lib.hid (gow_IntS.frame _ _ _ _ _ Og0.out fun b hb' => (hbN).block b (Nat.lt_of_lt_of_le (Bg0.out b hb').2 LEg0.out))
  replace LEg0 := Lib.hid (Nat.le_trans LEg0.out (hbN).size)
  replace HW := Lib.hid (bThen HW.out hbN)
  have s11 : w10.heap.size ≤ w11.heap.size := (hbN).size
  clear hbN
  go_wp2_with fail
  have hS0 : (fun w' => Below w11.heap.size w11 w' ∧ w'.cell? ⟨w.heap.size, 0, none⟩ = some (.slice aA0 (za.1).length ac0) ∧ w'.cell? ⟨w.heap.size, 1, none⟩ = some (.slice aA1 (za.2.1).length ac1) ∧ w'.cell? ⟨w.heap.size, 2, none⟩ = some (.slice aA2 (za.2.2.1).length ac2) ∧ w'.cell? ⟨w.heap.size, 3, none⟩ = some (.slice aA3 (za.2.2.2).length ac3) ∧ w'.cell? ⟨w.heap.size + 1, 0, none⟩ = some (.slice bA0 (zb.1).length bc0) ∧ w'.cell? ⟨w.heap.size + 1, 1, none⟩ = some (.slice bA1 (zb.2).length bc1) ∧ w'.cell? ⟨w5.heap.size, 0, none⟩ = some (.slice x0A0 (za.1).length x0c0) ∧ w'.cell? ⟨w5.heap.size, 1, none⟩ = some (.slice x0A1 (za.2.1).length x0c1) ∧ w'.cell? ⟨w5.heap.size, 2, none⟩ = some (.slice x0A2 (za.2.2.1).length x0c2) ∧ w'.cell? ⟨w5.heap.size, 3, none⟩ = some (.slice x0A3 (za.2.2.2).length x0c3) ∧ w'.cell? ⟨w7.heap.size, 0, none⟩ = some (.slice x1A0 (zb.1).length x1c0) ∧ w'.cell? ⟨w7.heap.size, 1, none⟩ = some (.slice x1A1 (zb.2).length x1c1)) w11 := ⟨Below.refl _ _, aa0, aa1, aa2, aa3, ab0, ab1, b00, b01, b02, b03, b10, b11⟩
  have hS : ∀ {w0 w' : World}, (fun w' => Below w11.heap.size w11 w' ∧ w'.cell? ⟨w.heap.size, 0, none⟩ = some (.slice aA0 (za.1).length ac0) ∧ w'.cell? ⟨w.heap.size, 1, none⟩ = some (.slice aA1 (za.2.1).length ac1) ∧ w'.cell? ⟨w.heap.size, 2, none⟩ = some (.slice aA2 (za.2.2.1).length ac2) ∧ w'.cell? ⟨w.heap.size, 3, none⟩ = some (.slice aA3 (za.2.2.2).length ac3) ∧ w'.cell? ⟨w.heap.size + 1, 0, none⟩ = some (.slice bA0 (zb.1).length bc0) ∧ w'.cell? ⟨w.heap.size + 1, 1, none⟩ = some (.slice bA1 (zb.2).length bc1) ∧ w'.cell? ⟨w5.heap.size, 0, none⟩ = some (.slice x0A0 (za.1).length x0c0) ∧ w'.cell? ⟨w5.heap.size, 1, none⟩ = some (.slice x0A1 (za.2.1).length x0c1) ∧ w'.cell? ⟨w5.heap.size, 2, none⟩ = some (.slice x0A2 (za.2.2.1).length x0c2) ∧ w'.cell? ⟨w5.heap.size, 3, none⟩ = some (.slice x0A3 (za.2.2.2).length x0c3) ∧ w'.cell? ⟨w7.heap.size, 0, none⟩ = some (.slice x1A0 (zb.1).length x1c0) ∧ w'.cell? ⟨w7.heap.size, 1, none⟩ = some (.slice x1A1 (zb.2).length x1c1)) w0 → Below w0.heap.size w0 w' → (fun w' => Below w11.heap.size w11 w' ∧ w'.cell? ⟨w.heap.size, 0, none⟩ = some (.slice aA0 (za.1).length ac0) ∧ w'.cell? ⟨w.heap.size, 1, none⟩ = some (.slice aA1 (za.2.1).length ac1) ∧ w'.cell? ⟨w.heap.size, 2, none⟩ = some (.slice aA2 (za.2.2.1).length ac2) ∧ w'.cell? ⟨w.heap.size, 3, none⟩ = some (.slice aA3 (za.2.2.2).length ac3) ∧ w'.cell? ⟨w.heap.size + 1, 0, none⟩ = some (.slice bA0 (zb.1).length bc0) ∧ w'.cell? ⟨w.heap.size + 1, 1, none⟩ = some (.slice bA1 (zb.2).length bc1) ∧ w'.cell? ⟨w5.heap.size, 0, none⟩ = some (.slice x0A0 (za.1).length x0c0) ∧ w'.cell? ⟨w5.heap.size, 1, none⟩ = some (.slice x0A1 (za.2.1).length x0c1) ∧ w'.cell? ⟨w5.heap.size, 2, none⟩ = some (.slice x0A2 (za.2.2.1).length x0c2) ∧ w'.cell? ⟨w5.heap.size, 3, none⟩ = some (.slice x0A3 (za.2.2.2).length x0c3) ∧ w'.cell? ⟨w7.heap.size, 0, none⟩ = some (.slice x1A0 (zb.1).length x1c0) ∧ w'.cell? ⟨w7.heap.size, 1, none⟩ = some (.slice x1A1 (zb.2).length x1c1)) w' := fun h hb => ⟨bThen h.1 hb, keep hb h.2.1, keep hb h.2.2.1, keep hb h.2.2.2.1, keep hb h.2.2.2.2.1, keep hb h.2.2.2.2.2.1, keep hb h.2.2.2.2.2.2.1, keep hb h.2.2.2.2.2.2.2.1, keep hb h.2.2.2.2.2.2.2.2.1, keep hb h.2.2.2.2.2.2.2.2.2.1, keep hb h.2.2.2.2.2.2.2.2.2.2.1, keep hb h.2.2.2.2.2.2.2.2.2.2.2.1, keep hb h.2.2.2.2.2.2.2.2.2.2.2.2⟩
  dsimp only at hS0 hS
  refine wp_region_noPanic ?_
  refine wp_region_kept 4 5 (fun w' => Below w11.heap.size w11 w' ∧ w'.cell? ⟨w.heap.size, 0, none⟩ = some (.slice aA0 (za.1).length ac0) ∧ w'.cell? ⟨w.heap.size, 1, none⟩ = some (.slice aA1 (za.2.1).length ac1) ∧ w'.cell? ⟨w.heap.size, 2, none⟩ = some (.slice aA2 (za.2.2.1).length ac2) ∧ w'.cell? ⟨w.heap.size, 3, none⟩ = some (.slice aA3 (za.2.2.2).length ac3) ∧ w'.cell? ⟨w.heap.size + 1, 0, none⟩ = some (.slice bA0 (zb.1).length bc0) ∧ w'.cell? ⟨w.heap.size + 1, 1, none⟩ = some (.slice bA1 (zb.2).length bc1) ∧ w'.cell? ⟨w5.heap.size, 0, none⟩ = some (.slice x0A0 (za.1).length x0c0) ∧ w'.cell? ⟨w5.heap.size, 1, none⟩ = some (.slice x0A1 (za.2.1).length x0c1) ∧ w'.cell? ⟨w5.heap.size, 2, none⟩ = some (.slice x0A2 (za.2.2.1).length x0c2) ∧ w'.cell? ⟨w5.heap.size, 3, none⟩ = some (.slice x0A3 (za.2.2.2).length x0c3) ∧ w'.cell? ⟨w7.heap.size, 0, none⟩ = some (.slice x1A0 (zb.1).length x1c0) ∧ w'.cell? ⟨w7.heap.size, 1, none⟩ = some (.slice x1A1 (zb.2).length x1c1)) (by kernel_rfl) rfl (hS hS0 (Below.drew (Below.refl _ _))) (fun hK0 => ?_)
  refine Kept.take (v := ?vt11n0) 0 (by kernel_rfl) rfl (by kernel_rfl) (fun _ _ _ h => h) (Or.inl ⟨by rfl, ?hyt11n0⟩) hK0 ?restt11n0
  case hyt11n0 =>
    intro w0 hSw
    (try dsimp only at hSw)
    go_simp
    all_goals (with_reducible rfl)
  (try simp only [Act.put, List.setIfInBounds_toArray, List.set_cons_zero, List.set_cons_succ])
  refine Kept.take (v := ?vt11n1) 1 (by kernel_rfl) rfl (by kernel_rfl) (fun _ _ _ h => h) (Or.inl ⟨by rfl, ?hyt11n1⟩) hK0 ?restt11n1
  case hyt11n1 =>
    intro w0 hSw
    (try dsimp only at hSw)
    go_simp
    all_goals (with_reducible rfl)
  (try simp only [Act.put, List.setIfInBounds_toArray, List.set_cons_zero, List.set_cons_succ])
  refine Kept.one 2 (by kernel_rfl) rfl (fun K hK => ?_)
  go_simp
  go_at_call 20
  refine (toModule_any za [.slice aA0 (za.1).length ac0, .slice aA1 (za.2.1).length ac1, .slice aA2 (za.2.2.1).length ac2, .slice aA3 (za.2.2.2).length ac3] _ (good_Module.below HDa.out (Nat.le_refl _) (bThen HW.out hK0.1)) (bThen HW.out hK0.1).size HSa.out).mono ?_
  rintro e wr0 ⟨v0, rfl, hxN, hbr0⟩
  have Hv0 := Lib.hid hxN
  obtain ⟨v0u0, v0u1, v0u2, v0u3, rfl, v0h0, v0h1, v0h2, v0h3⟩ := hxN
  obtain ⟨v0A0, v0c0, v0e0, v0m0, -⟩ := v0h0
  injection v0e0 with v0e0
  subst v0e0
  unfold maxLen at v0m0
  obtain ⟨v0A1, v0c1, v0e1, v0m1, -⟩ := v0h1
  injection v0e1 with v0e1
  subst v0e1
  unfold maxLen at v0m1
  obtain ⟨v0A2, v0c2, v0e2, v0m2, -⟩ := v0h2
  injection v0e2 with v0e2
  subst v0e2
  unfold maxLen at v0m2
  obtain ⟨v0A3, v0c3, v0e3, v0m3, -⟩ := v0h3
  injection v0e3 with v0e3
  subst v0e3
  unfold maxLen at v0m3
  go_simp
  refine hK.out _ _ (hS hK0 hbr0) (fun hK1 => ?_)
  clear hK K hK0
  (try simp only [Act.put, List.setIfInBounds_toArray, List.set_cons_zero, List.set_cons_succ])
  refine Kept.one 3 (by kernel_rfl) rfl (fun K hK => ?_)
  go_simp
  go_at_call 12
  refine (eqModule_any za [.slice x0A0 (za.1).length x0c0, .slice x0A1 (za.2.1).length x0c1, .slice x0A2 (za.2.2.1).length x0c2, .slice x0A3 (za.2.2.2).length x0c3] [.slice v0A0 (za.1).length v0c0, .slice v0A1 (za.2.1).length v0c1, .slice v0A2 (za.2.2.1).length v0c2, .slice v0A3 (za.2.2.2).length v0c3] _ (good_Module.below (le_Module _ _ _ _ _ Hx0.out) (Nat.le_refl _) (bThen Bx0.out hK1.1)) Hv0.out (bThen Bx0.out hK1.1).size (Nat.le_refl _)).mono ?_
  rintro e wr1 ⟨rfl, hbr1⟩
  go_simp
  refine hK.out _ _ (hS hK1 hbr1) (fun hK2 => ?_)
  clear hK K hK1
  (try simp only [Act.put, List.setIfInBounds_toArray, List.set_cons_zero, List.set_cons_succ])
  refine Kept.tail (by rfl) (by kernel_rfl) ?_
  simp only [List.drop_succ_cons, List.drop_zero]
  go_wp2
  refine NoPanic.normal ?_
  obtain ⟨W11r, hWr⟩ : ∃ W, W = wr1 := ⟨_, rfl⟩
  rw [← hWr] at hK2 ⊢
  clear hWr
  have hbN := hK2.1
  replace aa0 := keep hbN aa0
  replace aa1 := keep hbN aa1
  replace aa2 := keep hbN aa2
  replace aa3 := keep hbN aa3
  replace ab0 := keep hbN ab0
  replace ab1 := keep hbN ab1
  replace b00 := keep hbN b00
  replace b01 := keep hbN b01
  replace b02 := keep hbN b02
  replace b03 := keep hbN b03
  replace b10 := keep hbN b10
  replace b11 := keep hbN b11
  replace Bs0 := Lib.hid (bThen Bs0.out hbN)
  replace Bx0 := Lib.hid (bThen Bx0.out hbN)
  replace Bx1 := Lib.hid (bThen Bx1.out hbN)
  replace Bx2 := Lib.hid (bThen Bx2.out hbN)
  replace Og0 := Lib.hid (gow_IntS.frame _ _ _ _ _ Og0.out fun b hb' => (hbN).block b (Nat.lt_of_lt_of_le (Bg0.out b hb').2 LEg0.out))
  replace LEg0 := Lib.hid (Nat.le_trans LEg0.out (hbN).size)
  replace HW := Lib.hid (bThen HW.out hbN)
  have s12 : w11.heap.size ≤ W11r.heap.size := (hbN).size
  clear hbN hK2 hS0 hS
  clear Hv0
  go_wp2_with fail
  have hS0 : (fun w' => Below W11r.heap.size W11r w' ∧ w'.cell? ⟨w.heap.size, 0, none⟩ = some (.slice aA0 (za.1).length ac0) ∧ w'.cell? ⟨w.heap.size, 1, none⟩ = some (.slice aA1 (za.2.1).length ac1) ∧ w'.cell? ⟨w.heap.size, 2, none⟩ = some (.slice aA2 (za.2.2.1).length ac2) ∧ w'.cell? ⟨w.heap.size, 3, none⟩ = some (.slice aA3 (za.2.2.2).length ac3) ∧ w'.cell? ⟨w.heap.size + 1, 0, none⟩ = some (.slice bA0 (zb.1).length bc0) ∧ w'.cell? ⟨w.heap.size + 1, 1, none⟩ = some (.slice bA1 (zb.2).length bc1) ∧ w'.cell? ⟨w5.heap.size, 0, none⟩ = some (.slice x0A0 (za.1).length x0c0) ∧ w'.cell? ⟨w5.heap.size, 1, none⟩ = some (.slice x0A1 (za.2.1).length x0c1) ∧ w'.cell? ⟨w5.heap.size, 2, none⟩ = some (.slice x0A2 (za.2.2.1).length x0c2) ∧ w'.cell? ⟨w5.heap.size, 3, none⟩ = some (.slice x0A3 (za.2.2.2).length x0c3) ∧ w'.cell? ⟨w7.heap.size, 0, none⟩ = some (.slice x1A0 (zb.1).length x1c0) ∧ w'.cell? ⟨w7.heap.size, 1, none⟩ = some (.slice x1A1 (zb.2).length x1c1)) W11r := ⟨Below.refl _ _, aa0, aa1, aa2, aa3, ab0, ab1, b00, b01, b02, b03, b10, b11⟩
  have hS : ∀ {w0 w' : World}, (fun w' => Below W11r.heap.size W11r w' ∧ w'.cell? ⟨w.heap.size, 0, none⟩ = some (.slice aA0 (za.1).length ac0) ∧ w'.cell? ⟨w.heap.size, 1, none⟩ = some (.slice aA1 (za.2.1).length ac1) ∧ w'.cell? ⟨w.heap.size, 2, none⟩ = some (.slice aA2 (za.2.2.1).length ac2) ∧ w'.cell? ⟨w.heap.size, 3, none⟩ = some (.slice aA3 (za.2.2.2).length ac3) ∧ w'.cell? ⟨w.heap.size + 1, 0, none⟩ = some (.slice bA0 (zb.1).length bc0) ∧ w'.cell? ⟨w.heap.size + 1, 1, none⟩ = some (.slice bA1 (zb.2).length bc1) ∧ w'.cell? ⟨w5.heap.size, 0, none⟩ = some (.slice x0A0 (za.1).length x0c0) ∧ w'.cell? ⟨w5.heap.size, 1, none⟩ = some (.slice x0A1 (za.2.1).length x0c1) ∧ w'.cell? ⟨w5.heap.size, 2, none⟩ = some (.slice x0A2 (za.2.2.1).length x0c2) ∧ w'.cell? ⟨w5.heap.size, 3, none⟩ = some (.slice x0A3 (za.2.2.2).length x0c3) ∧ w'.cell? ⟨w7.heap.size, 0, none⟩ = some (.slice x1A0 (zb.1).length x1c0) ∧ w'.cell? ⟨w7.heap.size, 1, none⟩ = some (.slice x1A1 (zb.2).length x1c1)) w0 → Below w0.heap.size w0 w' → (fun w' => Below W11r.heap.size W11r w' ∧ w'.cell? ⟨w.heap.size, 0, none⟩ = some (.slice aA0 (za.1).length ac0) ∧ w'.cell? ⟨w.heap.size, 1, none⟩ = some (.slice aA1 (za.2.1).length ac1) ∧ w'.cell? ⟨w.heap.size, 2, none⟩ = some (.slice aA2 (za.2.2.1).length ac2) ∧ w'.cell? ⟨w.heap.size, 3, none⟩ = some (.slice aA3 (za.2.2.2).length ac3) ∧ w'.cell? ⟨w.heap.size + 1, 0, none⟩ = some (.slice bA0 (zb.1).length bc0) ∧ w'.cell? ⟨w.heap.size + 1, 1, none⟩ = some (.slice bA1 (zb.2).length bc1) ∧ w'.cell? ⟨w5.heap.size, 0, none⟩ = some (.slice x0A0 (za.1).length x0c0) ∧ w'.cell? ⟨w5.heap.size, 1, none⟩ = some (.slice x0A1 (za.2.1).length x0c1) ∧ w'.cell? ⟨w5.heap.size, 2, none⟩ = some (.slice x0A2 (za.2.2.1).length x0c2) ∧ w'.cell? ⟨w5.heap.size, 3, none⟩ = some (.slice x0A3 (za.2.2.2).length x0c3) ∧ w'.cell? ⟨w7.heap.size, 0, none⟩ = some (.slice x1A0 (zb.1).length x1c0) ∧ w'.cell? ⟨w7.heap.size, 1, none⟩ = some (.slice x1A1 (zb.2).length x1c1)) w' := fun h hb => ⟨bThen h.1 hb, keep hb h.2.1, keep hb h.2.2.1, keep hb h.2.2.2.1, keep hb h.2.2.2.2.1, keep hb h.2.2.2.2.2.1, keep hb h.2.2.2.2.2.2.1, keep hb h.2.2.2.2.2.2.2.1, keep hb h.2.2.2.2.2.2.2.2.1, keep hb h.2.2.2.2.2.2.2.2.2.1, keep hb h.2.2.2.2.2.2.2.2.2.2.1, keep hb h.2.2.2.2.2.2.2.2.2.2.2.1, keep hb h.2.2.2.2.2.2.2.2.2.2.2.2⟩
  dsimp only at hS0 hS
  refine wp_region_noPanic ?_
  refine wp_region_kept 4 5 (fun w' => Below W11r.heap.size W11r w' ∧ w'.cell? ⟨w.heap.size, 0, none⟩ = some (.slice aA0 (za.1).length ac0) ∧ w'.cell? ⟨w.heap.size, 1, none⟩ = some (.slice aA1 (za.2.1).length ac1) ∧ w'.cell? ⟨w.heap.size, 2, none⟩ = some (.slice aA2 (za.2.2.1).length ac2) ∧ w'.cell? ⟨w.heap.size, 3, none⟩ = some (.slice aA3 (za.2.2.2).length ac3) ∧ w'.cell? ⟨w.heap.size + 1, 0, none⟩ = some (.slice bA0 (zb.1).length bc0) ∧ w'.cell? ⟨w.heap.size + 1, 1, none⟩ = some (.slice bA1 (zb.2).length bc1) ∧ w'.cell? ⟨w5.heap.size, 0, none⟩ = some (.slice x0A0 (za.1).length x0c0) ∧ w'.cell? ⟨w5.heap.size, 1, none⟩ = some (.slice x0A1 (za.2.1).length x0c1) ∧ w'.cell? ⟨w5.heap.size, 2, none⟩ = some (.slice x0A2 (za.2.2.1).length x0c2) ∧ w'.cell? ⟨w5.heap.size, 3, none⟩ = some (.slice x0A3 (za.2.2.2).length x0c3) ∧ w'.cell? ⟨w7.heap.size, 0, none⟩ = some (.slice x1A0 (zb.1).length x1c0) ∧ w'.cell? ⟨w7.heap.size, 1, none⟩ = some (.slice x1A1 (zb.2).length x1c1)) (by kernel_rfl) rfl (hS hS0 (Below.drew (Below.refl _ _))) (fun hK0 => ?_)
  refine Kept.take (v := ?vt12n0) 0 (by kernel_rfl) rfl (by kernel_rfl) (fun _ _ _ h => h) (Or.inl ⟨by rfl, ?hyt12n0⟩) hK0 ?restt12n0
  case hyt12n0 =>
    intro w0 hSw
    (try dsimp only at hSw)
    go_simp
    all_goals (with_reducible rfl)
  (try simp only [Act.put, List.setIfInBounds_toArray, List.set_cons_zero, List.set_cons_succ])
  refine Kept.take (v := ?vt12n1) 1 (by kernel_rfl) rfl (by kernel_rfl) (fun _ _ _ h => h) (Or.inl ⟨by rfl, ?hyt12n1⟩) hK0 ?restt12n1
  case hyt12n1 =>
    intro w0 hSw
    (try dsimp only at hSw)
    go_simp
    all_goals (with_reducible rfl)
  (try simp only [Act.put, List.setIfInBounds_toArray, List.set_cons_zero, List.set_cons_succ])
  refine Kept.one 2 (by kernel_rfl) rfl (fun K hK => ?_)
  go_simp
  go_at_call 21
  refine (toWordState_any zb [.slice bA0 (zb.1).length bc0, .slice bA1 (zb.2).length bc1] _ (good_WordState.below HDb.out (Nat.le_refl _) (bThen HW.out hK0.1)) (bThen HW.out hK0.1).size HSb.out).mono ?_
  rintro e wr0 ⟨v1, rfl, hxN, hbr0⟩
  have Hv1 := Lib.hid hxN
  obtain ⟨v1u0, v1u1, rfl, v1h0, v1h1⟩ := hxN
  obtain ⟨v1A0, v1c0, v1e0, v1m0, -⟩ := v1h0
  injection v1e0 with v1e0
  subst v1e0
  unfold maxLen at v1m0
  obtain ⟨v1A1, v1c1, v1e1, v1m1, -⟩ := v1h1
  injection v1e1 with v1e1
  subst v1e1
  unfold maxLen at v1m1
  go_simp
  refine hK.out _ _ (hS hK0 hbr0) (fun hK1 => ?_)
  clear hK K hK0
  (try simp only [Act.put, List.setIfInBounds_toArray, List.set_cons_zero, List.set_cons_succ])
  refine Kept.one 3 (by kernel_rfl) rfl (fun K hK => ?_)
  go_simp
  go_at_call 25
  refine (eqWordState_any zb [.slice x1A0 (zb.1).length x1c0, .slice x1A1 (zb.2).length x1c1] [.slice v1A0 (zb.1).length v1c0, .slice v1A1 (zb.2).length v1c1] _ (good_WordState.below (le_WordState _ _ _ _ _ Hx1.out) (Nat.le_refl _) (bThen Bx1.out hK1.1)) Hv1.out (bThen Bx1.out hK1.1).size (Nat.le_refl _)).mono ?_
  rintro e wr1 ⟨rfl, hbr1⟩
  go_simp
  refine hK.out _ _ (hS hK1 hbr1) (fun hK2 => ?_)
  clear hK K hK1
  (try simp only [Act.put, List.setIfInBounds_toArray, List.set_cons_zero, List.set_cons_succ])
  refine Kept.tail (by rfl) (by kernel_rfl) ?_
  simp only [List.drop_succ_cons, List.drop_zero]
  go_wp2
  refine NoPanic.normal ?_
  obtain ⟨W12r, hWr⟩ : ∃ W, W = wr1 := ⟨_, rfl⟩
  rw [← hWr] at hK2 ⊢
  clear hWr
  have hbN := hK2.1
  replace aa0 := keep hbN aa0
  replace aa1 := keep hbN aa1
  replace aa2 := keep hbN aa2
  replace aa3 := keep hbN aa3
  replace ab0 := keep hbN ab0
  replace ab1 := keep hbN ab1
  replace b00 := keep hbN b00
  replace b01 := keep hbN b01
  replace b02 := keep hbN b02
  replace b03 := keep hbN b03
  replace b10 := keep hbN b10
  replace b11 := keep hbN b11
  replace Bs0 := Lib.hid (bThen Bs0.out hbN)
  replace Bx0 := Lib.hid (bThen Bx0.out hbN)
  replace Bx1 := Lib.hid (bThen Bx1.out hbN)
  replace Bx2 := Lib.hid (bThen Bx2.out hbN)
  replace Og0 := Lib.hid (gow_IntS.frame _ _ _ _ _ Og0.out fun b hb' => (hbN).block b (Nat.lt_of_lt_of_le (Bg0.out b hb').2 LEg0.out))
  replace LEg0 := Lib.hid (Nat.le_trans LEg0.out (hbN).size)
  replace HW := Lib.hid (bThen HW.out hbN)
  have s13 : W11r.heap.size ≤ W12r.heap.size := (hbN).size
  clear hbN hK2 hS0 hS
  clear Hv1
  go_wp2_with fail
  refine (toIntS_any zc cA zc.length cc _ (good_IntS.below HDc.out (Nat.le_refl _) HW.out) HW.out.size HSc.out).mono ?_
  rintro e w14 ⟨v2, rfl, hxN, hbN⟩
  replace aa0 := keep hbN aa0
  replace aa1 := keep hbN aa1
  replace aa2 := keep hbN aa2
  replace aa3 := keep hbN aa3
  replace ab0 := keep hbN ab0
  replace ab1 := keep hbN ab1
  replace b00 := keep hbN b00
  replace b01 := keep hbN b01
  replace b02 := keep hbN b02
  replace b03 := keep hbN b03
  replace b10 := keep hbN b10
  replace b11 := keep hbN b11
  replace Bs0 := Lib.hid (bThen Bs0.out hbN)
  replace Bx0 := Lib.hid (bThen Bx0.out hbN)
  replace Bx1 := Lib.hid (bThen Bx1.out hbN)
  replace Bx2 := Lib.hid (bThen Bx2.out hbN)
  replace Og0 := Lib.hid (gow_IntS.frame _ _ _ _ _ Og0.out fun b hb' => (hbN).block b (Nat.lt_of_lt_of_le (Bg0.out b hb').2 LEg0.out))
  replace LEg0 := Lib.hid (Nat.le_trans LEg0.out (hbN).size)
  replace HW := Lib.hid (bThen HW.out hbN)
  have s14 : W12r.heap.size ≤ w14.heap.size := (hbN).size
  have Hv2 := Lib.hid hxN
  have Bv2 := Lib.hid (Below.refl w14.heap.size w14)
  obtain ⟨v2A, v2c, rfl, -⟩ := slice_of (hxN)
  clear hbN hxN
  go_wp2_with fail
  refine (eqIntS_any zc (.slice x2A zc.length x2c) (.slice v2A zc.length v2c) _ (good_IntS.below (le_IntS _ _ _ _ _ Hx2.out) (Nat.le_refl _) Bx2.out) (good_IntS.below Hv2.out (Nat.le_refl _) Bv2.out) Bx2.out.size Bv2.out.size).mono ?_
  rintro e w15 ⟨rfl, hbN⟩
  replace aa0 := keep hbN aa0
  replace aa1 := keep hbN aa1
  replace aa2 := keep hbN aa2
  replace aa3 := keep hbN aa3
  replace ab0 := keep hbN ab0
  replace ab1 := keep hbN ab1
  replace b00 := keep hbN b00
  replace b01 := keep hbN b01
  replace b02 := keep hbN b02
  replace b03 := keep hbN b03
  replace b10 := keep hbN b10
  replace b11 := keep hbN b11
  replace Bs0 := Lib.hid (bThen Bs0.out hbN)
  replace Bx0 := Lib.hid (bThen Bx0.out hbN)
  replace Bx1 := Lib.hid (bThen Bx1.out hbN)
  replace Bx2 := Lib.hid (bThen Bx2.out hbN)
  replace Bv2 := Lib.hid (bThen Bv2.out hbN)
  replace Og0 := Lib.hid (gow_IntS.frame _ _ _ _ _ Og0.out fun b hb' => (hbN).block b (Nat.lt_of_lt_of_le (Bg0.out b hb').2 LEg0.out))
  replace LEg0 := Lib.hid (Nat.le_trans LEg0.out (hbN).size)
  replace HW := Lib.hid (bThen HW.out hbN)
  have s15 : w14.heap.size ≤ w15.heap.size := (hbN).size
  clear hbN
  clear Hv2 Bv2
  replace Hx0 := Lib.hid (goodw_Module.below Hx0.out (Nat.le_refl _) Bx0.out)
  replace Hx1 := Lib.hid (goodw_WordState.below Hx1.out (Nat.le_refl _) Bx1.out)
  replace Hx2 := Lib.hid (goodw_IntS.below Hx2.out (Nat.le_refl _) Bx2.out)
  go_wp2_with fail
  have bd0 := bndModule za HSa.out
  (try unfold cntModule at bd0)
  refine (markModule_cap za [.slice x0A0 (za.1).length x0c0, .slice x0A1 (za.2.1).length x0c1, .slice x0A2 (za.2.2.1).length x0c2, .slice x0A3 (za.2.2.2).length x0c3] 1 w15 w15 _ Hx0.out (by omega) (Sims.refl _ _ _) (Sims.refl _ _ _) (by omega) (cap := 4398056996865) (by omega) (by omega)).mono ?_
  rintro e w16 ⟨⟨k0, k0a, k0b, rfl⟩, hsN, -⟩
  have s16 : w15.heap.size ≤ w16.heap.size := hsN.size
  replace aa0 := (World.cell?_of_block (w := w15) (w' := w16) (a := ⟨w.heap.size, 0, none⟩) (hsN.block _ (World.block_lt_of_cell? _ _ aa0) (by first | (left; dsimp only; omega) | (right; dsimp only; omega)))).trans aa0
  replace aa1 := (World.cell?_of_block (w := w15) (w' := w16) (a := ⟨w.heap.size, 1, none⟩) (hsN.block _ (World.block_lt_of_cell? _ _ aa1) (by first | (left; dsimp only; omega) | (right; dsimp only; omega)))).trans aa1
  replace aa2 := (World.cell?_of_block (w := w15) (w' := w16) (a := ⟨w.heap.size, 2, none⟩) (hsN.block _ (World.block_lt_of_cell? _ _ aa2) (by first | (left; dsimp only; omega) | (right; dsimp only; omega)))).trans aa2
  replace aa3 := (World.cell?_of_block (w := w15) (w' := w16) (a := ⟨w.heap.size, 3, none⟩) (hsN.block _ (World.block_lt_of_cell? _ _ aa3) (by first | (left; dsimp only; omega) | (right; dsimp only; omega)))).trans aa3
  replace ab0 := (World.cell?_of_block (w := w15) (w' := w16) (a := ⟨w.heap.size + 1, 0, none⟩) (hsN.block _ (World.block_lt_of_cell? _ _ ab0) (by first | (left; dsimp only; omega) | (right; dsimp only; omega)))).trans ab0
  replace ab1 := (World.cell?_of_block (w := w15) (w' := w16) (a := ⟨w.heap.size + 1, 1, none⟩) (hsN.block _ (World.block_lt_of_cell? _ _ ab1) (by first | (left; dsimp only; omega) | (right; dsimp only; omega)))).trans ab1
  replace b10 := (World.cell?_of_block (w := w15) (w' := w16) (a := ⟨w7.heap.size, 0, none⟩) (hsN.block _ (World.block_lt_of_cell? _ _ b10) (by first | (left; dsimp only; omega) | (right; dsimp only; omega)))).trans b10
  replace b11 := (World.cell?_of_block (w := w15) (w' := w16) (a := ⟨w7.heap.size, 1, none⟩) (hsN.block _ (World.block_lt_of_cell? _ _ b11) (by first | (left; dsimp only; omega) | (right; dsimp only; omega)))).trans b11
  replace Bs0 := Lib.hid (below_sims Bs0.out hsN (by omega))
  replace Og0 := Lib.hid (gow_IntS.frame _ _ _ _ _ Og0.out fun b hb => hsN.block b (Nat.lt_of_lt_of_le (Bg0.out b hb).2 LEg0.out) (.inr (by have := (Bg0.out b hb).1; omega)))
  replace LEg0 := Lib.hid (Nat.le_trans LEg0.out hsN.size)
  replace Hx1 := Lib.hid (goodw_WordState _ _ _ _ w15 w16 _ _ Hx1.out (Nat.le_refl _) (Nat.le_refl _) fun b h1 h2 => hsN.block b (by omega) (.inr (by omega)))
  replace Hx2 := Lib.hid (goodw_IntS _ _ _ _ w15 w16 _ _ Hx2.out (Nat.le_refl _) (Nat.le_refl _) fun b h1 h2 => hsN.block b (by omega) (.inr (by omega)))
  replace HW := Lib.hid (below_sims HW.out hsN (by omega))
  clear hsN Hx0 Bx0 bd0
  go_wp2_with fail
  have bd1 := bndWordState zb HSb.out
  (try unfold cntWordState at bd1)
  refine (markWordState_cap zb [.slice x1A0 (zb.1).length x1c0, .slice x1A1 (zb.2).length x1c1] k0 w16 w16 _ Hx1.out (by omega) (Sims.refl _ _ _) (Sims.refl _ _ _) (by omega) (cap := 4398059094017) (by omega) (by omega)).mono ?_
  rintro e w17 ⟨⟨k1, k1a, k1b, rfl⟩, hsN, -⟩
  have s17 : w16.heap.size ≤ w17.heap.size := hsN.size
  replace aa0 := (World.cell?_of_block (w := w16) (w' := w17) (a := ⟨w.heap.size, 0, none⟩) (hsN.block _ (World.block_lt_of_cell? _ _ aa0) (by first | (left; dsimp only; omega) | (right; dsimp only; omega)))).trans aa0
  replace aa1 := (World.cell?_of_block (w := w16) (w' := w17) (a := ⟨w.heap.size, 1, none⟩) (hsN.block _ (World.block_lt_of_cell? _ _ aa1) (by first | (left; dsimp only; omega) | (right; dsimp only; omega)))).trans aa1
  replace aa2 := (World.cell?_of_block (w := w16) (w' := w17) (a := ⟨w.heap.size, 2, none⟩) (hsN.block _ (World.block_lt_of_cell? _ _ aa2) (by first | (left; dsimp only; omega) | (right; dsimp only; omega)))).trans aa2
  replace aa3 := (World.cell?_of_block (w := w16) (w' := w17) (a := ⟨w.heap.size, 3, none⟩) (hsN.block _ (World.block_lt_of_cell? _ _ aa3) (by first | (left; dsimp only; omega) | (right; dsimp only; omega)))).trans aa3
  replace ab0 := (World.cell?_of_block (w := w16) (w' := w17) (a := ⟨w.heap.size + 1, 0, none⟩) (hsN.block _ (World.block_lt_of_cell? _ _ ab0) (by first | (left; dsimp only; omega) | (right; dsimp only; omega)))).trans ab0
  replace ab1 := (World.cell?_of_block (w := w16) (w' := w17) (a := ⟨w.heap.size + 1, 1, none⟩) (hsN.block _ (World.block_lt_of_cell? _ _ ab1) (by first | (left; dsimp only; omega) | (right; dsimp only; omega)))).trans ab1
  replace Bs0 := Lib.hid (below_sims Bs0.out hsN (by omega))
  replace Og0 := Lib.hid (gow_IntS.frame _ _ _ _ _ Og0.out fun b hb => hsN.block b (Nat.lt_of_lt_of_le (Bg0.out b hb).2 LEg0.out) (.inr (by have := (Bg0.out b hb).1; omega)))
  replace LEg0 := Lib.hid (Nat.le_trans LEg0.out hsN.size)
  replace Hx2 := Lib.hid (goodw_IntS _ _ _ _ w16 w17 _ _ Hx2.out (Nat.le_refl _) (Nat.le_refl _) fun b h1 h2 => hsN.block b (by omega) (.inr (by omega)))
  replace HW := Lib.hid (below_sims HW.out hsN (by omega))
  clear hsN Hx1 Bx1 bd1
  go_wp2_with fail
  have bd2 := bndIntS zc HSc.out
  refine (markIntS_arg zc (.slice x2A zc.length x2c) k1 w17 w17 _ Hx2.out (by omega) (Sims.refl _ _ _) (Sims.refl _ _ _) (by omega) (by omega)).mono ?_
  rintro e w18 ⟨rfl, hsN, -⟩
  obtain ⟨k2, hkN⟩ : ∃ k : Int, k1 + (cntIntS zc : Int) = k := ⟨_, rfl⟩
  rw [hkN]
  have k2a : 0 ≤ k2 := by omega
  clear hkN
  have s18 : w17.heap.size ≤ w18.heap.size := hsN.size
  replace aa0 := (World.cell?_of_block (w := w17) (w' := w18) (a := ⟨w.heap.size, 0, none⟩) (hsN.block _ (World.block_lt_of_cell? _ _ aa0) (by first | (left; dsimp only; omega) | (right; dsimp only; omega)))).trans aa0
  replace aa1 := (World.cell?_of_block (w := w17) (w' := w18) (a := ⟨w.heap.size, 1, none⟩) (hsN.block _ (World.block_lt_of_cell? _ _ aa1) (by first | (left; dsimp only; omega) | (right; dsimp only; omega)))).trans aa1
  replace aa2 := (World.cell?_of_block (w := w17) (w' := w18) (a := ⟨w.heap.size, 2, none⟩) (hsN.block _ (World.block_lt_of_cell? _ _ aa2) (by first | (left; dsimp only; omega) | (right; dsimp only; omega)))).trans aa2
  replace aa3 := (World.cell?_of_block (w := w17) (w' := w18) (a := ⟨w.heap.size, 3, none⟩) (hsN.block _ (World.block_lt_of_cell? _ _ aa3) (by first | (left; dsimp only; omega) | (right; dsimp only; omega)))).trans aa3
  replace ab0 := (World.cell?_of_block (w := w17) (w' := w18) (a := ⟨w.heap.size + 1, 0, none⟩) (hsN.block _ (World.block_lt_of_cell? _ _ ab0) (by first | (left; dsimp only; omega) | (right; dsimp only; omega)))).trans ab0
  replace ab1 := (World.cell?_of_block (w := w17) (w' := w18) (a := ⟨w.heap.size + 1, 1, none⟩) (hsN.block _ (World.block_lt_of_cell? _ _ ab1) (by first | (left; dsimp only; omega) | (right; dsimp only; omega)))).trans ab1
  replace Bs0 := Lib.hid (below_sims Bs0.out hsN (by omega))
  replace Og0 := Lib.hid (gow_IntS.frame _ _ _ _ _ Og0.out fun b hb => hsN.block b (Nat.lt_of_lt_of_le (Bg0.out b hb).2 LEg0.out) (.inr (by have := (Bg0.out b hb).1; omega)))
  replace LEg0 := Lib.hid (Nat.le_trans LEg0.out hsN.size)
  replace HW := Lib.hid (below_sims HW.out hsN (by omega))
  clear hsN Hx2 Bx2 bd2
  have tkN : ¬ k2 < 0 := by omega
  go_wp2_with fail
  refine (eqIntS_any r0 (.slice g0A r0.length g0c) (.slice s0A r0.length s0c) _ (rds_IntS _ _ _ _ _ _ Og0.out (fun b hb => ⟨(Bg0.out b hb).1, Nat.lt_of_lt_of_le (Bg0.out b hb).2 LEg0.out⟩)) (good_IntS.below Hs0.out (Nat.le_refl _) Bs0.out) (Nat.le_refl _) Bs0.out.size).mono ?_
  rintro e w19 ⟨rfl, hbN⟩
  replace aa0 := keep hbN aa0
  replace aa1 := keep hbN aa1
  replace aa2 := keep hbN aa2
  replace aa3 := keep hbN aa3
  replace ab0 := keep hbN ab0
  replace ab1 := keep hbN ab1
  replace Bs0 := Lib.hid (bThen Bs0.out hbN)
  replace Og0 := Lib.hid (gow_IntS.frame _ _ _ _ _ Og0.out fun b hb' => (hbN).block b (Nat.lt_of_lt_of_le (Bg0.out b hb').2 LEg0.out))
  replace LEg0 := Lib.hid (Nat.le_trans LEg0.out (hbN).size)
  replace HW := Lib.hid (bThen HW.out hbN)
  have s19 : w18.heap.size ≤ w19.heap.size := (hbN).size
  clear hbN
  go_wp2_with fail
  refine (markIntS_own r0 g0A r0.length g0c g0bs 1 _ Og0.out Ng0.out (by omega) (by have := HBD.out; unfold cntIntS; omega)).mono ?_
  rintro e w20 ⟨rfl, oN, hchN⟩
  replace Og0 := Lib.hid oN
  replace LEg0 := Lib.hid (Nat.le_trans LEg0.out hchN.size)
  have s20 : w19.heap.size ≤ w20.heap.size := hchN.size
  replace aa0 := chg_cell hchN (fun h => by have h1 := (Bg0.out _ h).1; have h2 := (Bg0.out _ h).2; omega) aa0
  replace aa1 := chg_cell hchN (fun h => by have h1 := (Bg0.out _ h).1; have h2 := (Bg0.out _ h).2; omega) aa1
  replace aa2 := chg_cell hchN (fun h => by have h1 := (Bg0.out _ h).1; have h2 := (Bg0.out _ h).2; omega) aa2
  replace aa3 := chg_cell hchN (fun h => by have h1 := (Bg0.out _ h).1; have h2 := (Bg0.out _ h).2; omega) aa3
  replace ab0 := chg_cell hchN (fun h => by have h1 := (Bg0.out _ h).1; have h2 := (Bg0.out _ h).2; omega) ab0
  replace ab1 := chg_cell hchN (fun h => by have h1 := (Bg0.out _ h).1; have h2 := (Bg0.out _ h).2; omega) ab1
  replace Bs0 := Lib.hid (below_chg Bs0.out hchN (fun b h => by have h1 := (Bg0.out b h).1; omega))
  replace HW := Lib.hid (below_chg HW.out hchN (fun b h => by have h1 := (Bg0.out b h).1; omega))
  clear oN hchN
  obtain ⟨q0, hq0⟩ : ∃ q0 : Int, 1 + (cntIntS r0 : Int) = q0 := ⟨_, rfl⟩
  have HQ0 := Lib.hid hq0
  have q0a : ¬ q0 < 0 := by omega
  rw [hq0]
  clear hq0
  go_wp2_with fail
  refine (heldIntS_num r0 (.slice g0A r0.length g0c) 1 _ (rds_IntS _ _ _ _ _ _ Og0.out (fun b hb => ⟨(Bg0.out b hb).1, Nat.lt_of_lt_of_le (Bg0.out b hb).2 LEg0.out⟩)) (Nat.le_refl _) (by omega) (by have := HBD.out; unfold cntIntS; omega)).mono ?_
  rintro e w21 ⟨rfl, hbN⟩
  rw [HQ0.out]
  replace aa0 := keep hbN aa0
  replace aa1 := keep hbN aa1
  replace aa2 := keep hbN aa2
  replace aa3 := keep hbN aa3
  replace ab0 := keep hbN ab0
  replace ab1 := keep hbN ab1
  replace Bs0 := Lib.hid (bThen Bs0.out hbN)
  replace Og0 := Lib.hid (gow_IntS.frame _ _ _ _ _ Og0.out fun b hb' => (hbN).block b (Nat.lt_of_lt_of_le (Bg0.out b hb').2 LEg0.out))
  replace LEg0 := Lib.hid (Nat.le_trans LEg0.out (hbN).size)
  replace HW := Lib.hid (bThen HW.out hbN)
  have s21 : w20.heap.size ≤ w21.heap.size := (hbN).size
  clear hbN
  go_wp2_with fail
  have hS0 : (fun w' => Below w21.heap.size w21 w' ∧ w'.cell? ⟨w.heap.size, 0, none⟩ = some (.slice aA0 (za.1).length ac0) ∧ w'.cell? ⟨w.heap.size, 1, none⟩ = some (.slice aA1 (za.2.1).length ac1) ∧ w'.cell? ⟨w.heap.size, 2, none⟩ = some (.slice aA2 (za.2.2.1).length ac2) ∧ w'.cell? ⟨w.heap.size, 3, none⟩ = some (.slice aA3 (za.2.2.2).length ac3) ∧ w'.cell? ⟨w.heap.size + 1, 0, none⟩ = some (.slice bA0 (zb.1).length bc0) ∧ w'.cell? ⟨w.heap.size + 1, 1, none⟩ = some (.slice bA1 (zb.2).length bc1)) w21 := ⟨Below.refl _ _, aa0, aa1, aa2, aa3, ab0, ab1⟩
  have hS : ∀ {w0 w' : World}, (fun w' => Below w21.heap.size w21 w' ∧ w'.cell? ⟨w.heap.size, 0, none⟩ = some (.slice aA0 (za.1).length ac0) ∧ w'.cell? ⟨w.heap.size, 1, none⟩ = some (.slice aA1 (za.2.1).length ac1) ∧ w'.cell? ⟨w.heap.size, 2, none⟩ = some (.slice aA2 (za.2.2.1).length ac2) ∧ w'.cell? ⟨w.heap.size, 3, none⟩ = some (.slice aA3 (za.2.2.2).length ac3) ∧ w'.cell? ⟨w.heap.size + 1, 0, none⟩ = some (.slice bA0 (zb.1).length bc0) ∧ w'.cell? ⟨w.heap.size + 1, 1, none⟩ = some (.slice bA1 (zb.2).length bc1)) w0 → Below w0.heap.size w0 w' → (fun w' => Below w21.heap.size w21 w' ∧ w'.cell? ⟨w.heap.size, 0, none⟩ = some (.slice aA0 (za.1).length ac0) ∧ w'.cell? ⟨w.heap.size, 1, none⟩ = some (.slice aA1 (za.2.1).length ac1) ∧ w'.cell? ⟨w.heap.size, 2, none⟩ = some (.slice aA2 (za.2.2.1).length ac2) ∧ w'.cell? ⟨w.heap.size, 3, none⟩ = some (.slice aA3 (za.2.2.2).length ac3) ∧ w'.cell? ⟨w.heap.size + 1, 0, none⟩ = some (.slice bA0 (zb.1).length bc0) ∧ w'.cell? ⟨w.heap.size + 1, 1, none⟩ = some (.slice bA1 (zb.2).length bc1)) w' := fun h hb => ⟨bThen h.1 hb, keep hb h.2.1, keep hb h.2.2.1, keep hb h.2.2.2.1, keep hb h.2.2.2.2.1, keep hb h.2.2.2.2.2.1, keep hb h.2.2.2.2.2.2⟩
  dsimp only at hS0 hS
  refine wp_region_noPanic ?_
  refine wp_region_kept 7 8 (fun w' => Below w21.heap.size w21 w' ∧ w'.cell? ⟨w.heap.size, 0, none⟩ = some (.slice aA0 (za.1).length ac0) ∧ w'.cell? ⟨w.heap.size, 1, none⟩ = some (.slice aA1 (za.2.1).length ac1) ∧ w'.cell? ⟨w.heap.size, 2, none⟩ = some (.slice aA2 (za.2.2.1).length ac2) ∧ w'.cell? ⟨w.heap.size, 3, none⟩ = some (.slice aA3 (za.2.2.2).length ac3) ∧ w'.cell? ⟨w.heap.size + 1, 0, none⟩ = some (.slice bA0 (zb.1).length bc0) ∧ w'.cell? ⟨w.heap.size + 1, 1, none⟩ = some (.slice bA1 (zb.2).length bc1)) (by kernel_rfl) rfl (hS hS0 (Below.drew (Below.refl _ _))) (fun hK0 => ?_)
  refine Kept.take (v := ?vt21n0) 0 (by kernel_rfl) rfl (by kernel_rfl) (fun _ _ _ h => h) (Or.inl ⟨by rfl, ?hyt21n0⟩) hK0 ?restt21n0
  case hyt21n0 =>
    intro w0 hSw
    (try dsimp only at hSw)
    go_simp
    all_goals (with_reducible rfl)
  (try simp only [Act.put, List.setIfInBounds_toArray, List.set_cons_zero, List.set_cons_succ])
  refine Kept.take (v := ?vt21n2) 2 (by kernel_rfl) rfl (by kernel_rfl) (fun _ _ _ h => h) (Or.inl ⟨by rfl, ?hyt21n2⟩) hK0 ?restt21n2
  case hyt21n2 =>
    intro w0 hSw
    (try dsimp only at hSw)
    go_simp
    all_goals (with_reducible rfl)
  (try simp only [Act.put, List.setIfInBounds_toArray, List.set_cons_zero, List.set_cons_succ])
  refine Kept.take (v := ?vt21n4) 4 (by kernel_rfl) rfl (by kernel_rfl) (fun _ _ _ h => h) (Or.inl ⟨by rfl, ?hyt21n4⟩) hK0 ?restt21n4
  case hyt21n4 =>
    intro w0 hSw
    (try dsimp only at hSw)
    go_simp
    all_goals (with_reducible rfl)
  (try simp only [Act.put, List.setIfInBounds_toArray, List.set_cons_zero, List.set_cons_succ])
  refine Kept.one 1 (by kernel_rfl) rfl (fun K hK => ?_)
  go_simp
  go_at_call 20
  refine (toModule_any za [.slice aA0 (za.1).length ac0, .slice aA1 (za.2.1).length ac1, .slice aA2 (za.2.2.1).length ac2, .slice aA3 (za.2.2.2).length ac3] _ (good_Module.below HDa.out (Nat.le_refl _) (bThen HW.out hK0.1)) (bThen HW.out hK0.1).size HSa.out).mono ?_
  rintro e wr0zh0 ⟨y0, rfl, hxN0, hbr0⟩
  have Hy0 := Lib.hid hxN0
  have Gy0 := Lib.hid (Below.refl wr0zh0.heap.size wr0zh0)
  obtain ⟨y0u0, y0u1, y0u2, y0u3, rfl, y0h0, y0h1, y0h2, y0h3⟩ := hxN0
  obtain ⟨y0A0, y0c0, y0e0, y0m0, -⟩ := y0h0
  injection y0e0 with y0e0
  subst y0e0
  unfold maxLen at y0m0
  obtain ⟨y0A1, y0c1, y0e1, y0m1, -⟩ := y0h1
  injection y0e1 with y0e1
  subst y0e1
  unfold maxLen at y0m1
  obtain ⟨y0A2, y0c2, y0e2, y0m2, -⟩ := y0h2
  injection y0e2 with y0e2
  subst y0e2
  unfold maxLen at y0m2
  obtain ⟨y0A3, y0c3, y0e3, y0m3, -⟩ := y0h3
  injection y0e3 with y0e3
  subst y0e3
  unfold maxLen at y0m3
  go_simp
  refine hK.out _ _ (hS hK0 hbr0) (fun hK1 => ?_)
  clear hK K hK0
  (try simp only [Act.put, List.setIfInBounds_toArray, List.set_cons_zero, List.set_cons_succ])
  refine Kept.one 3 (by kernel_rfl) rfl (fun K hK => ?_)
  go_simp
  go_at_call 21
  refine (toWordState_any zb [.slice bA0 (zb.1).length bc0, .slice bA1 (zb.2).length bc1] _ (good_WordState.below HDb.out (Nat.le_refl _) (bThen HW.out hK1.1)) (bThen HW.out hK1.1).size HSb.out).mono ?_
  rintro e wr1zh0 ⟨y1, rfl, hxN1, hbr1⟩
  have Hy1 := Lib.hid hxN1
  have Gy1 := Lib.hid (Below.refl wr1zh0.heap.size wr1zh0)
  replace Gy0 := Lib.hid (bThen Gy0.out hbr1)
  obtain ⟨y1u0, y1u1, rfl, y1h0, y1h1⟩ := hxN1
  obtain ⟨y1A0, y1c0, y1e0, y1m0, -⟩ := y1h0
  injection y1e0 with y1e0
  subst y1e0
  unfold maxLen at y1m0
  obtain ⟨y1A1, y1c1, y1e1, y1m1, -⟩ := y1h1
  injection y1e1 with y1e1
  subst y1e1
  unfold maxLen at y1m1
  go_simp
  refine hK.out _ _ (hS hK1 hbr1) (fun hK2 => ?_)
  clear hK K hK1
  (try simp only [Act.put, List.setIfInBounds_toArray, List.set_cons_zero, List.set_cons_succ])
  refine Kept.one 5 (by kernel_rfl) rfl (fun K hK => ?_)
  go_simp
  go_at_call 22
  refine (toIntS_any zc cA zc.length cc _ (good_IntS.below HDc.out (Nat.le_refl _) (bThen HW.out hK2.1)) (bThen HW.out hK2.1).size HSc.out).mono ?_
  rintro e wr2zh0 ⟨y2, rfl, hxN2, hbr2⟩
  have Hy2 := Lib.hid hxN2
  have Gy2 := Lib.hid (Below.refl wr2zh0.heap.size wr2zh0)
  replace Gy0 := Lib.hid (bThen Gy0.out hbr2)
  replace Gy1 := Lib.hid (bThen Gy1.out hbr2)
  obtain ⟨y2A, y2c, rfl, -⟩ := slice_of hxN2
  clear hxN2
  go_simp
  refine hK.out _ _ (hS hK2 hbr2) (fun hK3 => ?_)
  clear hK K hK2
  (try simp only [Act.put, List.setIfInBounds_toArray, List.set_cons_zero, List.set_cons_succ])
  refine Kept.one 6 (by kernel_rfl) rfl (fun K hK => ?_)
  go_simp
  go_at_call 23
  refine (implSigG za zb zc _ _ _ _ (good_Module.wider (good_Module.below Hy0.out (Nat.le_refl _) Gy0.out) (Nat.zero_le _) Gy0.out.size) (good_WordState.wider (good_WordState.below Hy1.out (Nat.le_refl _) Gy1.out) (Nat.zero_le _) Gy1.out.size) (good_IntS.wider (good_IntS.below Hy2.out (Nat.le_refl _) Gy2.out) (Nat.zero_le _) Gy2.out.size) HR0.out).mono ?_
  rintro e wr3zh0 ⟨h0v, h0bs, rfl, oN, ndN, bsN, hbr3⟩
  have rdN := rds_IntS _ _ _ _ _ _ oN bsN
  have Hh0 := Lib.hid rdN
  have Bh0 := Lib.hid (Below.refl wr3zh0.heap.size wr3zh0)
  clear oN ndN bsN
  obtain ⟨h0A, h0c, rfl, -⟩ := slice_of rdN
  clear rdN
  go_simp
  refine hK.out _ _ (hS hK3 hbr3) (fun hK4 => ?_)
  clear hK K hK3
  (try simp only [Act.put, List.setIfInBounds_toArray, List.set_cons_zero, List.set_cons_succ])
  refine Kept.tail (by rfl) (by kernel_rfl) ?_
  simp only [List.drop_succ_cons, List.drop_zero]
  go_wp2
  refine NoPanic.normal ?_
  have hbN := hK4.1
  replace aa0 := keep hbN aa0
  replace aa1 := keep hbN aa1
  replace aa2 := keep hbN aa2
  replace aa3 := keep hbN aa3
  replace ab0 := keep hbN ab0
  replace ab1 := keep hbN ab1
  replace Bs0 := Lib.hid (bThen Bs0.out hbN)
  replace Og0 := Lib.hid (gow_IntS.frame _ _ _ _ _ Og0.out fun b hb' => (hbN).block b (Nat.lt_of_lt_of_le (Bg0.out b hb').2 LEg0.out))
  replace LEg0 := Lib.hid (Nat.le_trans LEg0.out (hbN).size)
  replace HW := Lib.hid (bThen HW.out hbN)
  have s22 : w21.heap.size ≤ wr3zh0.heap.size := (hbN).size
  clear hbN hK4 hS0 hS
  clear Hy0 Gy0 Hy1 Gy1 Hy2 Gy2
  go_wp2_with fail
  refine (eqIntS_any r0 (.slice h0A r0.length h0c) (.slice s0A r0.length s0c) _ (good_IntS.below Hh0.out (Nat.le_refl _) Bh0.out) (good_IntS.below Hs0.out (Nat.le_refl _) Bs0.out) Bh0.out.size Bs0.out.size).mono ?_
  rintro e w23 ⟨rfl, hbN⟩
  replace aa0 := keep hbN aa0
  replace aa1 := keep hbN aa1
  replace aa2 := keep hbN aa2
  replace aa3 := keep hbN aa3
  replace ab0 := keep hbN ab0
  replace ab1 := keep hbN ab1
  replace Bs0 := Lib.hid (bThen Bs0.out hbN)
  replace Bh0 := Lib.hid (bThen Bh0.out hbN)
  replace Og0 := Lib.hid (gow_IntS.frame _ _ _ _ _ Og0.out fun b hb' => (hbN).block b (Nat.lt_of_lt_of_le (Bg0.out b hb').2 LEg0.out))
  replace LEg0 := Lib.hid (Nat.le_trans LEg0.out (hbN).size)
  replace HW := Lib.hid (bThen HW.out hbN)
  have s23 : wr3zh0.heap.size ≤ w23.heap.size := (hbN).size
  clear hbN
  go_wp2_with fail
  refine (heldIntS_num r0 (.slice g0A r0.length g0c) 1 _ (rds_IntS _ _ _ _ _ _ Og0.out (fun b hb => ⟨(Bg0.out b hb).1, Nat.lt_of_lt_of_le (Bg0.out b hb).2 LEg0.out⟩)) (Nat.le_refl _) (by omega) (by have := HBD.out; unfold cntIntS; omega)).mono ?_
  rintro e w24 ⟨rfl, hbN⟩
  rw [HQ0.out]
  replace aa0 := keep hbN aa0
  replace aa1 := keep hbN aa1
  replace aa2 := keep hbN aa2
  replace aa3 := keep hbN aa3
  replace ab0 := keep hbN ab0
  replace ab1 := keep hbN ab1
  replace Bs0 := Lib.hid (bThen Bs0.out hbN)
  replace Bh0 := Lib.hid (bThen Bh0.out hbN)
  replace Og0 := Lib.hid (gow_IntS.frame _ _ _ _ _ Og0.out fun b hb' => (hbN).block b (Nat.lt_of_lt_of_le (Bg0.out b hb').2 LEg0.out))
  replace LEg0 := Lib.hid (Nat.le_trans LEg0.out (hbN).size)
  replace HW := Lib.hid (bThen HW.out hbN)
  have s24 : w23.heap.size ≤ w24.heap.size := (hbN).size
  clear hbN
  go_wp2
  go_ret
  exact ⟨rfl, HW.out⟩
end Go.Proofs.YtmjofpfkgbnknaaGreat
