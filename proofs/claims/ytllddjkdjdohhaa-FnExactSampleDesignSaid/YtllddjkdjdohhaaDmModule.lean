/-
  The type Module as the exact laws' helpers see it.
-/
import Derived.Test.YtllddjkdjdohhaaDtModule
import Derived.Test.YtllddjkdjdohhaaDmSignal
import Derived.Test.YtllddjkdjdohhaaDmAssign
import Derived.Test.YtllddjkdjdohhaaDmInst
import Derived.Test.YtllddjkdjdohhaaDmMem
namespace Go.Proofs.Ytllddjkdjdohhaa
open Go.RowKit
set_option linter.unusedVariables false
set_option linter.unusedSimpArgs false
def cntModule (x : DModule) : Nat := cntSignalS (x.1) + cntAssignS (x.2.1) + cntInstS (x.2.2.1) + cntMemS (x.2.2.2)
def cntModuleS (L : List DModule) : Nat := (L.map cntModule).sum
theorem cntModuleS_step (L : List DModule) (i : Nat) (x : DModule) (h : L[i]? = some x) : cntModuleS (L.take (i + 1)) = cntModuleS (L.take i) + cntModule x := by
  unfold cntModuleS; rw [List.take_add_one, h, List.map_append, List.sum_append]; simp
theorem cntModuleS_le (L : List DModule) (i : Nat) : cntModuleS (L.take i) ≤ cntModuleS L := by
  have h := List.take_append_drop i L
  unfold cntModuleS
  rw [← h, List.map_append, List.sum_append, h]; omega
theorem bndModule (x : DModule) (h : smModule x) : cntModule x ≤ 4398056996864 := by
  unfold smModule at h
  unfold cntModule
  have h0 := bndSignalS _ h.1
  have h1 := bndAssignS _ h.2.1
  have h2 := bndInstS _ h.2.2.1
  have h3 := bndMemS _ h.2.2.2
  omega

set_option maxHeartbeats 3200000 in
theorem markModuleS_arg (L : List DModule) (v : Value) {B T : Nat} (k : Int) (w0 wb w : World) (h : rwModuleS B T w0 [v] L) (hT : T ≤ w0.heap.size) (hs : Sims B T w0 w) (hsb : Sims B T wb w) (hk0 : 0 ≤ k) (hk : k + (cntModuleS L : Int) ≤ 4611686018427387904) :
    Calls Try.prog 86 #[v, .int .i64 k] w fun e w' => e = .returned (.int .i64 (k + (cntModuleS L : Int))) ∧ Sims B T w0 w' ∧ Sims B T wb w' := by
  obtain ⟨A, c, ea, hm, hA⟩ := h
  injection ea with ea
  subst ea
  unfold maxLen at hm
  have HA := Lib.hid hA
  have HS := Lib.hid (And.intro hs hsb)
  clear hA hs hsb
  go_enter Try.func86, Try.ntmps86
  go_wp2
  go_loopw [1, 5] (fun q v wr => ∃ i : Nat, i ≤ L.length ∧ v = .int .i64 i ∧ q = .int .i64 (k + (cntModuleS (L.take i) : Int)) ∧ Sims B T w0 wr ∧ Sims B T wb wr) (fun _ v _ => L.length - (intOf v).toNat)
  case atStart => exact ⟨0, Nat.zero_le _, rfl, by simp [cntModuleS], HS.out.1, HS.out.2⟩
  case round =>
    obtain ⟨i, hi, rfl, rfl, hr, hrb⟩ := hrel
    obtain ⟨W, rfl⟩ : ∃ W, W = wr := ⟨_, rfl⟩
    have HR := Lib.hid hr
    have HRB := Lib.hid hrb
    have hle := cntModuleS_le L i
    clear hr hrb HS
    by_cases hlt : i < L.length
    · obtain ⟨b, o, rfl, hb1, hb2, us, hul, hc, hx⟩ := HA.out i hlt
      obtain ⟨x, hxx⟩ : ∃ x, L[i] = x := ⟨_, rfl⟩
      have hx? : L[i]? = some x := by rw [List.getElem?_eq_getElem hlt, hxx]
      rw [hxx] at hx
      have hst := cntModuleS_step L i x hx?
      have hle2 := cntModuleS_le L (i + 1)
      clear hxx hx?
      obtain ⟨x0, x1, x2, x3, rfl, xh0, xh1, xh2, xh3⟩ := hx
      have xR0 := Lib.hid xh0
      obtain ⟨xA0, xq0, xe0, xm0, -⟩ := xh0
      injection xe0 with xe0
      subst xe0
      have xR1 := Lib.hid xh1
      obtain ⟨xA1, xq1, xe1, xm1, -⟩ := xh1
      injection xe1 with xe1
      subst xe1
      have xR2 := Lib.hid xh2
      obtain ⟨xA2, xq2, xe2, xm2, -⟩ := xh2
      injection xe2 with xe2
      subst xe2
      have xR3 := Lib.hid xh3
      obtain ⟨xA3, xq3, xe3, xm3, -⟩ := xh3
      injection xe3 with xe3
      subst xe3
      have hw0 : w0.cell? ⟨b, o + i * 4, none⟩ = some (.slice xA0 (x.1).length xq0) ∧ w0.frozen? ⟨b, o + i * 4, none⟩ = false := hc 0 _ rfl
      have HW0 := Lib.hid hw0
      have hw1 : w0.cell? ⟨b, o + i * 4 + 1, none⟩ = some (.slice xA1 (x.2.1).length xq1) ∧ w0.frozen? ⟨b, o + i * 4 + 1, none⟩ = false := hc 1 _ rfl
      have HW1 := Lib.hid hw1
      have hw2 : w0.cell? ⟨b, o + i * 4 + 2, none⟩ = some (.slice xA2 (x.2.2.1).length xq2) ∧ w0.frozen? ⟨b, o + i * 4 + 2, none⟩ = false := hc 2 _ rfl
      have HW2 := Lib.hid hw2
      have hw3 : w0.cell? ⟨b, o + i * 4 + 3, none⟩ = some (.slice xA3 (x.2.2.2).length xq3) ∧ w0.frozen? ⟨b, o + i * 4 + 3, none⟩ = false := hc 3 _ rfl
      have HW3 := Lib.hid hw3
      clear hc hul hw0 hw1 hw2 hw3
      obtain ⟨cc, hcc⟩ : ∃ c : Int, (cntModuleS (L.take i) : Int) = c := ⟨_, rfl⟩
      obtain ⟨t0, ht0⟩ : ∃ c : Int, (cntSignalS (x.1) : Int) = c := ⟨_, rfl⟩
      obtain ⟨t1, ht1⟩ : ∃ c : Int, (cntAssignS (x.2.1) : Int) = c := ⟨_, rfl⟩
      obtain ⟨t2, ht2⟩ : ∃ c : Int, (cntInstS (x.2.2.1) : Int) = c := ⟨_, rfl⟩
      obtain ⟨t3, ht3⟩ : ∃ c : Int, (cntMemS (x.2.2.2) : Int) = c := ⟨_, rfl⟩
      have hst' : (cntModuleS (L.take (i + 1)) : Int) = cc + t0 + t1 + t2 + t3 := by unfold cntModule at hst; omega
      have hbnd : k + (cc + t0 + t1 + t2 + t3) ≤ 4611686018427387904 := by rw [← hst']; omega
      have hcc0 : 0 ≤ cc := by omega
      have ht00 : 0 ≤ t0 := by omega
      have HC0 := Lib.hid ht0
      have ht10 : 0 ≤ t1 := by omega
      have HC1 := Lib.hid ht1
      have ht20 : 0 ≤ t2 := by omega
      have HC2 := Lib.hid ht2
      have ht30 : 0 ≤ t3 := by omega
      have HC3 := Lib.hid ht3
      have HST := Lib.hid hst'
      rw [hcc]
      clear hst hle2 hst' hle hcc ht0 ht1 ht2 ht3
      have xc0 := Sims.slice HR.out hb1 hb2 HW0.out
      have xc1 := Sims.slice HR.out hb1 hb2 HW1.out
      have xc2 := Sims.slice HR.out hb1 hb2 HW2.out
      have xc3 := Sims.slice HR.out hb1 hb2 HW3.out
      go_wp2_with fail
      refine (markSignalS_arg (x.1) _ _ w0 wb _ xR0.out hT HR.out HRB.out (by omega) (by rw [HC0.out]; omega)).mono ?_
      rintro e W1 ⟨rfl, hr1, hrb1⟩
      rw [HC0.out]
      have HR1 := Lib.hid hr1
      have HRB1 := Lib.hid hrb1
      clear hr1 hrb1 xc0 xc1 xc2 xc3
      have xc1 := Sims.slice HR1.out hb1 hb2 HW1.out
      have xc2 := Sims.slice HR1.out hb1 hb2 HW2.out
      have xc3 := Sims.slice HR1.out hb1 hb2 HW3.out
      go_wp2_with fail
      refine (markAssignS_arg (x.2.1) _ _ w0 wb _ xR1.out hT HR1.out HRB1.out (by omega) (by rw [HC1.out]; omega)).mono ?_
      rintro e W2 ⟨rfl, hr2, hrb2⟩
      rw [HC1.out]
      have HR2 := Lib.hid hr2
      have HRB2 := Lib.hid hrb2
      clear hr2 hrb2 xc1 xc2 xc3
      have xc2 := Sims.slice HR2.out hb1 hb2 HW2.out
      have xc3 := Sims.slice HR2.out hb1 hb2 HW3.out
      go_wp2_with fail
      refine (markInstS_arg (x.2.2.1) _ _ w0 wb _ xR2.out hT HR2.out HRB2.out (by omega) (by rw [HC2.out]; omega)).mono ?_
      rintro e W3 ⟨rfl, hr3, hrb3⟩
      rw [HC2.out]
      have HR3 := Lib.hid hr3
      have HRB3 := Lib.hid hrb3
      clear hr3 hrb3 xc2 xc3
      have xc3 := Sims.slice HR3.out hb1 hb2 HW3.out
      go_wp2_with fail
      refine (markMemS_arg (x.2.2.2) _ _ w0 wb _ xR3.out hT HR3.out HRB3.out (by omega) (by rw [HC3.out]; omega)).mono ?_
      rintro e W4 ⟨rfl, hr4, hrb4⟩
      rw [HC3.out]
      have HR4 := Lib.hid hr4
      have HRB4 := Lib.hid hrb4
      clear hr4 hrb4 xc3
      go_wp2
      go_roundw
      case rel => exact ⟨i + 1, by omega, by go_num, by rw [HST.out]; exact int_eq (by omega), HR4.out, HRB4.out⟩
      case measure => simp [intOf]; omega
    · obtain rfl : i = L.length := by omega
      rw [List.take_length]
      clear hle
      go_wp2
      go_ret
      exact ⟨rfl, HR.out, HRB.out⟩

theorem markModuleS_both (L : List DModule) (v : Value) {B T : Nat} (k : Int) (w0 wb wc w : World) (h : rwModuleS B T w0 [v] L) (hT : T ≤ w0.heap.size) (hs : Sims B T w0 w) (hsb : Sims B T wb w) (hsc : Sims B T wc w) (hk0 : 0 ≤ k) (hk : k + (cntModuleS L : Int) ≤ 4611686018427387904) :
    Calls Try.prog 86 #[v, .int .i64 k] w fun e w' => e = .returned (.int .i64 (k + (cntModuleS L : Int))) ∧ Sims B T w0 w' ∧ Sims B T wb w' ∧ Sims B T wc w' :=
  (markModuleS_arg L v k w0 w w h hT hs (Sims.refl _ _ _) hk0 hk).mono fun _ _ ⟨he, h0, h1⟩ => ⟨he, h0, hsb.trans h1, hsc.trans h1⟩

set_option maxHeartbeats 3200000 in
theorem markModule_arg (x : DModule) (us : List Value) {B T : Nat} (k : Int) (w0 wb w : World) (h : rwModule B T w0 us x) (hT : T ≤ w0.heap.size) (hs : Sims B T w0 w) (hsb : Sims B T wb w) (hk0 : 0 ≤ k) (hk : k + ((cntSignalS (x.1) : Int) + (cntAssignS (x.2.1) : Int) + (cntInstS (x.2.2.1) : Int) + (cntMemS (x.2.2.2) : Int)) ≤ 4611686018427387904) :
    Calls Try.prog 34 #[.agg us.toArray, .int .i64 k] w fun e w' => (∃ r : Int, 0 ≤ r ∧ e = .returned (.int .i64 r)) ∧ Sims B T w0 w' ∧ Sims B T wb w' := by
  have HS := Lib.hid (And.intro hs hsb)
  clear hs hsb
  obtain ⟨x0, x1, x2, x3, rfl, xh0, xh1, xh2, xh3⟩ := h
  have xR0 := Lib.hid xh0
  obtain ⟨xA0, xq0, xe0, xm0, -⟩ := xh0
  injection xe0 with xe0
  subst xe0
  have xR1 := Lib.hid xh1
  obtain ⟨xA1, xq1, xe1, xm1, -⟩ := xh1
  injection xe1 with xe1
  subst xe1
  have xR2 := Lib.hid xh2
  obtain ⟨xA2, xq2, xe2, xm2, -⟩ := xh2
  injection xe2 with xe2
  subst xe2
  have xR3 := Lib.hid xh3
  obtain ⟨xA3, xq3, xe3, xm3, -⟩ := xh3
  injection xe3 with xe3
  subst xe3
  obtain ⟨t0, ht0⟩ : ∃ c : Int, (cntSignalS (x.1) : Int) = c := ⟨_, rfl⟩
  have HC0 := Lib.hid ht0
  have h0 : 0 ≤ t0 := by omega
  obtain ⟨t1, ht1⟩ : ∃ c : Int, (cntAssignS (x.2.1) : Int) = c := ⟨_, rfl⟩
  have HC1 := Lib.hid ht1
  have h1 : 0 ≤ t1 := by omega
  obtain ⟨t2, ht2⟩ : ∃ c : Int, (cntInstS (x.2.2.1) : Int) = c := ⟨_, rfl⟩
  have HC2 := Lib.hid ht2
  have h2 : 0 ≤ t2 := by omega
  obtain ⟨t3, ht3⟩ : ∃ c : Int, (cntMemS (x.2.2.2) : Int) = c := ⟨_, rfl⟩
  have HC3 := Lib.hid ht3
  have h3 : 0 ≤ t3 := by omega
  rw [ht0, ht1, ht2, ht3] at hk
  clear ht0 ht1 ht2 ht3
  go_enter Try.func34, Try.ntmps34
  go_wp2_with fail
  obtain ⟨V, hV⟩ : ∃ V, V = w.alloc (.cells #[.slice xA0 (x.1).length xq0, .slice xA1 (x.2.1).length xq1, .slice xA2 (x.2.2.1).length xq2, .slice xA3 (x.2.2.2).length xq3] 35) := ⟨_, rfl⟩
  rw [← hV]
  have g := eqbox1 hV
  have c0 : V.cell? ⟨w.heap.size, 0, none⟩ = some (.slice xA0 (x.1).length xq0) := box_cell g.1 0 _ rfl
  have c1 : V.cell? ⟨w.heap.size, 1, none⟩ = some (.slice xA1 (x.2.1).length xq1) := box_cell g.1 1 _ rfl
  have c2 : V.cell? ⟨w.heap.size, 2, none⟩ = some (.slice xA2 (x.2.2.1).length xq2) := box_cell g.1 2 _ rfl
  have c3 : V.cell? ⟨w.heap.size, 3, none⟩ = some (.slice xA3 (x.2.2.2).length xq3) := box_cell g.1 3 _ rfl
  have HR0 := Lib.hid (And.intro (HS.out.1.below g.2) (HS.out.2.below g.2))
  have HG := Lib.hid g.1
  have hlt : T ≤ w.heap.size := Nat.le_trans hT HS.out.1.size
  have HV0 := Lib.hid (Sims.refl B T V)
  clear hV g
  obtain ⟨Vp0, hvp⟩ : ∃ Vp, Vp = V := ⟨_, rfl⟩
  refine (markSignalS_both (x.1) _ _ w0 wb V _ xR0.out hT HR0.out.1 HR0.out.2 HV0.out (by omega) (by rw [HC0.out]; omega)).mono ?_
  rintro e W1 ⟨rfl, hr, hrb, hrv⟩
  rw [HC0.out]
  have HR1 := Lib.hid (And.intro hr hrb)
  have HV1 := Lib.hid hrv
  have c0' : W1.cell? ⟨w.heap.size, 0, none⟩ = some (.slice xA0 (x.1).length xq0) := sims_box hrv HG.out hlt 0 _ rfl
  have c1' : W1.cell? ⟨w.heap.size, 1, none⟩ = some (.slice xA1 (x.2.1).length xq1) := sims_box hrv HG.out hlt 1 _ rfl
  have c2' : W1.cell? ⟨w.heap.size, 2, none⟩ = some (.slice xA2 (x.2.2.1).length xq2) := sims_box hrv HG.out hlt 2 _ rfl
  have c3' : W1.cell? ⟨w.heap.size, 3, none⟩ = some (.slice xA3 (x.2.2.2).length xq3) := sims_box hrv HG.out hlt 3 _ rfl
  clear hr hrb hrv hvp c0 c1 c2 c3
  have c0 := c0'
  have c1 := c1'
  have c2 := c2'
  have c3 := c3'
  clear c0' c1' c2' c3'
  go_wp2_with fail
  obtain ⟨Vp1, hvp⟩ : ∃ Vp, Vp = W1 := ⟨_, rfl⟩
  refine (markAssignS_both (x.2.1) _ _ w0 wb V _ xR1.out hT HR1.out.1 HR1.out.2 HV1.out (by omega) (by rw [HC1.out]; omega)).mono ?_
  rintro e W2 ⟨rfl, hr, hrb, hrv⟩
  rw [HC1.out]
  have HR2 := Lib.hid (And.intro hr hrb)
  have HV2 := Lib.hid hrv
  have c0' : W2.cell? ⟨w.heap.size, 0, none⟩ = some (.slice xA0 (x.1).length xq0) := sims_box hrv HG.out hlt 0 _ rfl
  have c1' : W2.cell? ⟨w.heap.size, 1, none⟩ = some (.slice xA1 (x.2.1).length xq1) := sims_box hrv HG.out hlt 1 _ rfl
  have c2' : W2.cell? ⟨w.heap.size, 2, none⟩ = some (.slice xA2 (x.2.2.1).length xq2) := sims_box hrv HG.out hlt 2 _ rfl
  have c3' : W2.cell? ⟨w.heap.size, 3, none⟩ = some (.slice xA3 (x.2.2.2).length xq3) := sims_box hrv HG.out hlt 3 _ rfl
  clear hr hrb hrv hvp c0 c1 c2 c3
  have c0 := c0'
  have c1 := c1'
  have c2 := c2'
  have c3 := c3'
  clear c0' c1' c2' c3'
  go_wp2_with fail
  obtain ⟨Vp2, hvp⟩ : ∃ Vp, Vp = W2 := ⟨_, rfl⟩
  refine (markInstS_both (x.2.2.1) _ _ w0 wb V _ xR2.out hT HR2.out.1 HR2.out.2 HV2.out (by omega) (by rw [HC2.out]; omega)).mono ?_
  rintro e W3 ⟨rfl, hr, hrb, hrv⟩
  rw [HC2.out]
  have HR3 := Lib.hid (And.intro hr hrb)
  have HV3 := Lib.hid hrv
  have c0' : W3.cell? ⟨w.heap.size, 0, none⟩ = some (.slice xA0 (x.1).length xq0) := sims_box hrv HG.out hlt 0 _ rfl
  have c1' : W3.cell? ⟨w.heap.size, 1, none⟩ = some (.slice xA1 (x.2.1).length xq1) := sims_box hrv HG.out hlt 1 _ rfl
  have c2' : W3.cell? ⟨w.heap.size, 2, none⟩ = some (.slice xA2 (x.2.2.1).length xq2) := sims_box hrv HG.out hlt 2 _ rfl
  have c3' : W3.cell? ⟨w.heap.size, 3, none⟩ = some (.slice xA3 (x.2.2.2).length xq3) := sims_box hrv HG.out hlt 3 _ rfl
  clear hr hrb hrv hvp c0 c1 c2 c3
  have c0 := c0'
  have c1 := c1'
  have c2 := c2'
  have c3 := c3'
  clear c0' c1' c2' c3'
  go_wp2_with fail
  obtain ⟨Vp3, hvp⟩ : ∃ Vp, Vp = W3 := ⟨_, rfl⟩
  refine (markMemS_both (x.2.2.2) _ _ w0 wb V _ xR3.out hT HR3.out.1 HR3.out.2 HV3.out (by omega) (by rw [HC3.out]; omega)).mono ?_
  rintro e W4 ⟨rfl, hr, hrb, hrv⟩
  rw [HC3.out]
  have HR4 := Lib.hid (And.intro hr hrb)
  have HV4 := Lib.hid hrv
  have c0' : W4.cell? ⟨w.heap.size, 0, none⟩ = some (.slice xA0 (x.1).length xq0) := sims_box hrv HG.out hlt 0 _ rfl
  have c1' : W4.cell? ⟨w.heap.size, 1, none⟩ = some (.slice xA1 (x.2.1).length xq1) := sims_box hrv HG.out hlt 1 _ rfl
  have c2' : W4.cell? ⟨w.heap.size, 2, none⟩ = some (.slice xA2 (x.2.2.1).length xq2) := sims_box hrv HG.out hlt 2 _ rfl
  have c3' : W4.cell? ⟨w.heap.size, 3, none⟩ = some (.slice xA3 (x.2.2.2).length xq3) := sims_box hrv HG.out hlt 3 _ rfl
  clear hr hrb hrv hvp c0 c1 c2 c3
  have c0 := c0'
  have c1 := c1'
  have c2 := c2'
  have c3 := c3'
  clear c0' c1' c2' c3'
  go_wp2
  go_ret
  exact ⟨⟨_, by omega, rfl⟩, HR4.out.1, HR4.out.2⟩
end Go.Proofs.Ytllddjkdjdohhaa
