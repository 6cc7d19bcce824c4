/-
  Which assignment is the next one: the program.
-/
import Derived.Test.YtmjofpfkgbnknaaGreatWaitS
namespace Go.Proofs.YtmjofpfkgbnknaaGreat
open Go.RowKit
set_option linter.unusedVariables false
set_option linter.unusedSimpArgs false

set_option maxHeartbeats 3200000 in
theorem readsFn_at (o : DOp) (Wt : List Bool) (u : Value) (p : Nat) {B' T' : Nat} {r : Bool} (w : World) (hp : w.cell? ⟨p, 0, none⟩ = some u) (hu : rdBoolS B' T' w [u] Wt) (hok : (o.1 = 2 ∨ o.1 = 3) → 0 ≤ o.2.1 ∧ o.2.1 < (Wt.length : Int)) (hr : readsW Wt o = r) :
    Calls Tryz.prog 162 #[.agg #[.int .i64 o.1, .int .i64 o.2.1, .int .i64 o.2.2], .pointer (some ⟨p, 0, none⟩)] w fun e w' => e = .returned (.bool r) ∧ Below w.heap.size w w' := by
  have HR := Lib.hid hr
  have HK := Lib.hid hok
  clear hr hok
  obtain ⟨uA, uc, ue, um, uAk⟩ := hu
  injection ue with ue
  subst ue
  unfold maxLen at um
  have HU := Lib.hid uAk
  clear uAk
  have plt : p < w.heap.size := World.block_lt_of_cell? _ _ hp
  obtain ⟨k, a, b⟩ := o
  dsimp only
  by_cases h23 : k = 2 ∨ k = 3
  · obtain ⟨ha0, ha1⟩ := HK.out h23
    dsimp only at ha0 ha1
    obtain ⟨t, rfl⟩ := Int.eq_ofNat_of_zero_le ha0
    have ht : t < Wt.length := by omega
    obtain ⟨gb, go, ge, _, _, gus, _, ghc, ghr⟩ := HU.out t ht
    subst ge
    have ghr' : gus = [.bool (Wt[t]'ht)] := ghr
    subst ghr'
    obtain ⟨q, hq⟩ : ∃ q, Wt[t]'ht = q := ⟨_, rfl⟩
    have g0 := ghc 0 _ rfl
    rw [Nat.add_zero, Nat.mul_one, hq] at g0
    have HQ := Lib.hid (show Wt.getD t false = q by rw [List.getD_eq_getElem?_getD, List.getElem?_eq_getElem ht, hq]; rfl)
    clear ghc ghr hq
    have glt : gb < w.heap.size := World.block_lt_of_cell? _ _ g0
    have HE := Lib.hid (HR.out.symm.trans (reads_yes (W := Wt) (b := b) h23 HQ.out))
    clear ha0 ha1
    go_enter Tryz.func162, Tryz.ntmps162
    rcases h23 with rfl | rfl
    all_goals
      go_wp2
      go_ret
      exact ⟨ret_bool HE.out.symm, by (repeat' (first | assumption | exact Below.refl _ _ | refine bDrewN ?_ _ | refine Below.drew ?_ | refine bAlloc ?_ (Nat.le_refl _) _ | refine bSet ?_ (by first | exact Nat.le_refl _ | omega | (simp <;> omega)) _))⟩
  · have HE := Lib.hid (HR.out.symm.trans (reads_no (W := Wt) h23))
    have b2 : (k == 2) = false := by simpa using fun e => h23 (.inl e)
    have b3 : (k == 3) = false := by simpa using fun e => h23 (.inr e)
    clear h23
    go_enter Tryz.func162, Tryz.ntmps162
    go_wp2
    go_ret
    exact ⟨ret_bool HE.out.symm, by (repeat' (first | assumption | exact Below.refl _ _ | refine bDrewN ?_ _ | refine Below.drew ?_ | refine bAlloc ?_ (Nat.le_refl _) _ | refine bSet ?_ (by first | exact Nat.le_refl _ | omega | (simp <;> omega)) _))⟩
set_option maxHeartbeats 3200000 in
theorem indexOp_at (L : List DOp) (Wt : List Bool) (v u : Value) (p : Nat) {B T B' T' : Nat} (w : World) (hv : rdOpS B T w [v] L) (hT : T ≤ w.heap.size) (hp : w.cell? ⟨p, 0, none⟩ = some u) (hu : rdBoolS B' T' w [u] Wt) (hT' : T' ≤ w.heap.size) (hok : ReadsIn L Wt.length) :
    Calls Tryz.prog 165 #[v, .func (.func 162) #[] #[.pointer (some ⟨p, 0, none⟩)]] w fun e w' => (∃ r : Int, e = .returned (.int .i64 r) ∧ decide (0 ≤ r) = waitsB L Wt) ∧ Below w.heap.size w w' := by
  have HK := Lib.hid hok
  have HU := Lib.hid hu
  clear hok hu
  obtain ⟨vA, vc, ve, vm, vAk⟩ := hv
  injection ve with ve
  subst ve
  unfold maxLen at vm
  have HV := Lib.hid vAk
  clear vAk
  go_enter Tryz.func165, Tryz.ntmps165
  go_wp2
  go_loopw [8] (fun x wr => ∃ i : Nat, i ≤ L.length ∧ x = .int .i64 i ∧ waitsB (L.take i) Wt = false ∧ Below w.heap.size w wr) (fun x _ => L.length - (intOf x).toNat)
  case atStart => exact ⟨0, Nat.zero_le _, rfl, by simp [waitsB], Below.refl _ _⟩
  case round =>
    obtain ⟨i, hi, rfl, hno, hb⟩ := hrel
    have HN := Lib.hid hno
    have HB := Lib.hid hb
    clear hno hb
    by_cases hlt : i < L.length
    · skip
      obtain ⟨xb, xo, xe, _, _, xus, _, xhc, xhr⟩ := HV.out i hlt
      obtain ⟨x, xx⟩ : ∃ x, L[i]'hlt = x := ⟨_, rfl⟩
      have xx? : L[i]? = some x := by rw [List.getElem?_eq_getElem hlt, xx]
      rw [xx] at xhr
      subst xe
      obtain ⟨xu0, xu1, xu2, rfl, xh0, xh1, xh2⟩ := xhr
      obtain ⟨xf0, -⟩ := xh0
      injection xf0 with xf0
      subst xf0
      obtain ⟨xf1, -⟩ := xh1
      injection xf1 with xf1
      subst xf1
      obtain ⟨xf2, -⟩ := xh2
      injection xf2 with xf2
      subst xf2
      have xc0 : wr.cell? ⟨xb, xo + i * 3, none⟩ = some (.int .i64 x.1) := keep HB.out (xhc 0 _ rfl)
      have xc1 : wr.cell? ⟨xb, xo + i * 3 + 1, none⟩ = some (.int .i64 x.2.1) := keep HB.out (xhc 1 _ rfl)
      have xc2 : wr.cell? ⟨xb, xo + i * 3 + 2, none⟩ = some (.int .i64 x.2.2) := keep HB.out (xhc 2 _ rfl)
      have xlt : xb < wr.heap.size := World.block_lt_of_cell? _ _ xc0
      clear xhc xx
      have HX := Lib.hid xx?
      have HI := Lib.hid (HK.out x (List.mem_of_getElem? xx?))
      clear xx?
      obtain ⟨q, hq⟩ : ∃ q, readsW Wt x = q := ⟨_, rfl⟩
      have HQ := Lib.hid hq
      clear hq
      go_wp2_with fail
      refine (readsFn_at x Wt u p _ (keep HB.out hp) (good_BoolS.below HU.out hT' HB.out) HI.out HQ.out).mono ?_
      rintro e w1 ⟨rfl, hb1⟩
      have HB1 := Lib.hid (bThen HB.out hb1)
      clear hb1
      cases q with
      | true =>
        have HE := Lib.hid (waits_at L Wt i _ HX.out HQ.out)
        go_wp2
        go_ret
        exact ⟨⟨_, rfl, by rw [HE.out]; simp⟩, HB1.out⟩
      | false =>
        have HS := Lib.hid (waits_step L Wt i _ HX.out HQ.out HN.out)
        go_wp2
        go_roundw
        case rel => exact ⟨i + 1, by omega, by go_num, HS.out, HB1.out⟩
        case measure => simp [intOf]; omega
    · obtain rfl : i = L.length := by omega
      have HE := Lib.hid (show waitsB L Wt = false by have h := HN.out; rw [List.take_length] at h; exact h)
      go_wp2
      go_ret
      exact ⟨⟨_, rfl, by rw [HE.out]; rfl⟩, HB.out⟩
theorem containsOp_at (L : List DOp) (Wt : List Bool) (v u : Value) (p : Nat) {B T B' T' : Nat} {r : Bool} (w : World) (hv : rdOpS B T w [v] L) (hT : T ≤ w.heap.size) (hp : w.cell? ⟨p, 0, none⟩ = some u) (hu : rdBoolS B' T' w [u] Wt) (hT' : T' ≤ w.heap.size) (hok : ReadsIn L Wt.length) (hr : waitsB L Wt = r) :
    Calls Tryz.prog 161 #[v, .func (.func 162) #[] #[.pointer (some ⟨p, 0, none⟩)]] w fun e w' => e = .returned (.bool r) ∧ Below w.heap.size w w' := by
  have HR := Lib.hid hr
  clear hr
  go_enter Tryz.func161, Tryz.ntmps161
  go_wp2_with fail
  refine (indexOp_at L Wt v u p _ hv hT hp hu hT' hok).mono ?_
  rintro e w1 ⟨⟨q, rfl, hq⟩, hb⟩
  have HQ := Lib.hid (hq.trans HR.out)
  clear hq
  go_wp2
  go_ret
  exact ⟨ret_bool HQ.out, hb⟩
set_option maxHeartbeats 1600000 in
theorem implReads_at (L : List DOp) (Wt : List Bool) (v u : Value) {B T B' T' : Nat} {r : Bool} (w : World) (hv : rdOpS B T w [v] L) (hT : T ≤ w.heap.size) (hu : rdBoolS B' T' w [u] Wt) (hT' : T' ≤ w.heap.size) (hok : ReadsIn L Wt.length) (hr : waitsB L Wt = r) :
    Calls Tryz.prog 151 #[v, u] w fun e w' => e = .returned (.bool r) ∧ Below w.heap.size w w' := by
  have HK := Lib.hid hok
  have HV := Lib.hid hv
  have HU := Lib.hid hu
  obtain ⟨uA, uc, ue, -⟩ := hu
  injection ue with ue
  subst ue
  clear hok hv
  go_enter Tryz.func151, Tryz.ntmps151
  go_wp2_with fail
  obtain ⟨W, hW⟩ : ∃ W, W = w.alloc (.cells #[.slice uA Wt.length uc] 137) := ⟨_, rfl⟩
  rw [← hW]
  have g := eqbox1 hW
  have p0 : W.cell? ⟨w.heap.size, 0, none⟩ = some (.slice uA Wt.length uc) := box_cell g.1 0 _ rfl
  have HW := Lib.hid g.2
  clear hW g
  refine (containsOp_at L Wt v _ w.heap.size _ (good_OpS.below HV.out hT HW.out) (Nat.le_trans hT HW.out.size) p0 (good_BoolS.below HU.out hT' HW.out) (Nat.le_trans hT' HW.out.size) HK.out hr).mono ?_
  rintro e w1 ⟨rfl, hb⟩
  have HB := Lib.hid (bThen HW.out hb)
  clear hb
  go_wp2
  go_ret
  exact ⟨rfl, HB.out⟩
set_option maxHeartbeats 3200000 in
theorem nextFn_at (a : DAssign) (Wt : List Bool) (u : Value) (p : Nat) (us : List Value) {B T B' T' : Nat} {r : Bool} (w : World) (ha : rdAssign B T w us a) (hT : T ≤ w.heap.size) (hp : w.cell? ⟨p, 0, none⟩ = some u) (hu : rdBoolS B' T' w [u] Wt) (hT' : T' ≤ w.heap.size)
    (ht : ∃ t : Nat, a.1 = t ∧ t < Wt.length) (hok : ReadsIn a.2 Wt.length) (hr : readyB Wt a = r) :
    Calls Tryz.prog 150 #[.agg us.toArray, .pointer (some ⟨p, 0, none⟩)] w fun e w' => e = .returned (.bool r) ∧ Below w.heap.size w w' := by
  have HR := Lib.hid hr
  have HK := Lib.hid hok
  have HU0 := Lib.hid hu
  obtain ⟨uA, uc, ue, um, uk⟩ := hu
  injection ue with ue
  subst ue
  unfold maxLen at um
  have HU := Lib.hid uk
  clear hok hr uk
  have plt : p < w.heap.size := World.block_lt_of_cell? _ _ hp
  obtain ⟨v0, v1, rfl, vh0, vh1⟩ := ha
  obtain ⟨e0, f0⟩ := vh0
  injection e0 with e0
  subst e0
  have HV := Lib.hid vh1
  obtain ⟨vA, vc, ve, vm, -⟩ := vh1
  injection ve with ve
  subst ve
  unfold maxLen at vm
  obtain ⟨t, hat, ht⟩ := ht
  rw [hat]
  obtain ⟨gb, go, ge, _, _, gus, _, ghc, ghr⟩ := HU.out t ht
  subst ge
  have ghr' : gus = [.bool (Wt[t]'ht)] := ghr
  subst ghr'
  obtain ⟨q, hq⟩ : ∃ q, Wt[t]'ht = q := ⟨_, rfl⟩
  have g0 := ghc 0 _ rfl
  rw [Nat.add_zero, Nat.mul_one, hq] at g0
  have HQ := Lib.hid (show Wt.getD t false = q by rw [List.getD_eq_getElem?_getD, List.getElem?_eq_getElem ht, hq]; rfl)
  clear ghc ghr hq
  have glt : gb < w.heap.size := World.block_lt_of_cell? _ _ g0
  cases q with
  | false =>
    have HE := Lib.hid (HR.out.symm.trans (ready_no1 hat HQ.out))
    clear hat
    go_enter Tryz.func150, Tryz.ntmps150
    go_wp2
    go_ret
    exact ⟨ret_bool HE.out.symm, by (repeat' (first | assumption | exact Below.refl _ _ | refine bDrewN ?_ _ | refine Below.drew ?_ | refine bAlloc ?_ (Nat.le_refl _) _ | refine bSet ?_ (by first | exact Nat.le_refl _ | omega | (simp <;> omega)) _))⟩
  | true =>
    have HE := Lib.hid (HR.out.symm.trans (ready_yes hat HQ.out))
    clear hat
    obtain ⟨b, hb⟩ : ∃ b, waitsB a.2 Wt = b := ⟨_, rfl⟩
    have HWB := Lib.hid hb
    rw [hb] at HE
    clear hb
    go_enter Tryz.func150, Tryz.ntmps150
    go_wp2_with fail
    refine (implReads_at a.2 Wt _ _ _ (good_OpS.below HV.out hT (by (repeat' (first | assumption | exact Below.refl _ _ | refine bDrewN ?_ _ | refine Below.drew ?_ | refine bAlloc ?_ (Nat.le_refl _) _ | refine bSet ?_ (by first | exact Nat.le_refl _ | omega | (simp <;> omega)) _)))) (Nat.le_trans hT (by simp <;> omega)) (good_BoolS.below HU0.out hT' (by (repeat' (first | assumption | exact Below.refl _ _ | refine bDrewN ?_ _ | refine Below.drew ?_ | refine bAlloc ?_ (Nat.le_refl _) _ | refine bSet ?_ (by first | exact Nat.le_refl _ | omega | (simp <;> omega)) _)))) (Nat.le_trans hT' (by simp <;> omega)) HK.out HWB.out).mono ?_
    rintro e w1 ⟨rfl, hb⟩
    have HB := Lib.hid (show Below w.heap.size w w1 from bThen (by (repeat' (first | assumption | exact Below.refl _ _ | refine bDrewN ?_ _ | refine Below.drew ?_ | refine bAlloc ?_ (Nat.le_refl _) _ | refine bSet ?_ (by first | exact Nat.le_refl _ | omega | (simp <;> omega)) _))) hb)
    clear hb
    go_wp2
    go_ret
    exact ⟨ret_bool HE.out.symm, HB.out⟩
set_option maxHeartbeats 3200000 in
theorem indexAsg_at (L : List DAssign) (Wt : List Bool) (v u : Value) (p : Nat) {B T B' T' : Nat} {r : Int} (w : World) (hv : rdAssignS B T w [v] L) (hT : T ≤ w.heap.size) (hp : w.cell? ⟨p, 0, none⟩ = some u) (hu : rdBoolS B' T' w [u] Wt) (hT' : T' ≤ w.heap.size) (hok : AsgIn L Wt.length) (hr : nxI L Wt = r) :
    Calls Tryz.prog 149 #[v, .func (.func 150) #[] #[.pointer (some ⟨p, 0, none⟩)]] w fun e w' => e = .returned (.int .i64 r) ∧ Below w.heap.size w w' := by
  have HK := Lib.hid hok
  have HU := Lib.hid hu
  have HR := Lib.hid hr
  clear hok hu hr
  obtain ⟨vA, vc, ve, vm, vAk⟩ := hv
  injection ve with ve
  subst ve
  unfold maxLen at vm
  have HV := Lib.hid vAk
  clear vAk
  go_enter Tryz.func149, Tryz.ntmps149
  go_wp2
  go_loopw [8] (fun x wr => ∃ i : Nat, i ≤ L.length ∧ x = .int .i64 i ∧ NoneR L Wt i ∧ Below w.heap.size w wr) (fun x _ => L.length - (intOf x).toNat)
  case atStart => exact ⟨0, Nat.zero_le _, rfl, NoneR.zero _ _, Below.refl _ _⟩
  case round =>
    obtain ⟨i, hi, rfl, hno, hb⟩ := hrel
    have HN := Lib.hid hno
    have HB := Lib.hid hb
    clear hno hb
    by_cases hlt : i < L.length
    · skip
      obtain ⟨xb, xo, xe, _, _, xus, _, xhc, xhr⟩ := HV.out i hlt
      obtain ⟨x, xx⟩ : ∃ x, L[i]'hlt = x := ⟨_, rfl⟩
      have xx? : L[i]? = some x := by rw [List.getElem?_eq_getElem hlt, xx]
      rw [xx] at xhr
      subst xe
      have HE := Lib.hid xhr
      obtain ⟨xu0, xu1, rfl, xh0, xh1⟩ := xhr
      obtain ⟨xf0, -⟩ := xh0
      injection xf0 with xf0
      subst xf0
      obtain ⟨xA1, xq1, xf1, xm1, xk1⟩ := xh1
      injection xf1 with xf1
      subst xf1
      unfold maxLen at xm1
      have xE1 := Lib.hid xk1
      clear xk1
      have xc0 : wr.cell? ⟨xb, xo + i * 2, none⟩ = some (.int .i64 x.1) := keep HB.out (xhc 0 _ rfl)
      have xc1 : wr.cell? ⟨xb, xo + i * 2 + 1, none⟩ = some (.slice xA1 (x.2).length xq1) := keep HB.out (xhc 1 _ rfl)
      have xlt : xb < wr.heap.size := World.block_lt_of_cell? _ _ xc0
      clear xhc xx
      have HX := Lib.hid xx?
      have HI := Lib.hid (HK.out x (List.mem_of_getElem? xx?))
      clear xx?
      obtain ⟨q, hq⟩ : ∃ q, readyB Wt x = q := ⟨_, rfl⟩
      have HQ := Lib.hid hq
      clear hq
      go_wp2_with fail
      refine (nextFn_at x Wt u p _ _ (good_Assign.below HE.out hT HB.out) (Nat.le_trans hT HB.out.size) (keep HB.out hp) (good_BoolS.below HU.out hT' HB.out) (Nat.le_trans hT' HB.out.size) HI.out.1 HI.out.2 HQ.out).mono ?_
      rintro e w1 ⟨rfl, hb1⟩
      have HB1 := Lib.hid (bThen HB.out hb1)
      clear hb1
      cases q with
      | true =>
        have HE := Lib.hid (HR.out.symm.trans (nxI_some (NoneR.hit HX.out HQ.out HN.out)))
        go_wp2
        go_ret
        exact ⟨ret_i64 HE.out.symm, HB1.out⟩
      | false =>
        have HS := Lib.hid (NoneR.step HX.out HQ.out HN.out)
        go_wp2
        go_roundw
        case rel => exact ⟨i + 1, by omega, by go_num, HS.out, HB1.out⟩
        case measure => simp [intOf]; omega
    · obtain rfl : i = L.length := by omega
      have HE := Lib.hid (HR.out.symm.trans (nxI_none (NoneR.miss HN.out)))
      go_wp2
      go_ret
      exact ⟨ret_i64 HE.out.symm, HB.out⟩
set_option maxHeartbeats 3200000 in
theorem implNext_at (m : DModule) (Wt : List Bool) (us : List Value) (u : Value) {B T B' T' : Nat} {r : Int} (w : World) (h : rdModule B T w us m) (hT : T ≤ w.heap.size) (hu : rdBoolS B' T' w [u] Wt) (hT' : T' ≤ w.heap.size) (hok : AsgIn m.2.1 Wt.length) (hr : nxI m.2.1 Wt = r) :
    Calls Tryz.prog 130 #[.agg us.toArray, u] w fun e w' => e = .returned (.int .i64 r) ∧ Below w.heap.size w w' := by
  have HK := Lib.hid hok
  have HU := Lib.hid hu
  obtain ⟨uA, uc, ue, -⟩ := hu
  injection ue with ue
  subst ue
  clear hok
  obtain ⟨mu0, mu1, mu2, mu3, rfl, mh0, mh1, mh2, mh3⟩ := h
  have HV := Lib.hid mh1
  obtain ⟨mA0, mq0, mf0, mm0, -⟩ := mh0
  injection mf0 with mf0
  subst mf0
  obtain ⟨mA1, mq1, mf1, mm1, -⟩ := mh1
  injection mf1 with mf1
  subst mf1
  obtain ⟨mA2, mq2, mf2, mm2, -⟩ := mh2
  injection mf2 with mf2
  subst mf2
  obtain ⟨mA3, mq3, mf3, mm3, -⟩ := mh3
  injection mf3 with mf3
  subst mf3
  go_enter Tryz.func130, Tryz.ntmps130
  go_wp2_with fail
  obtain ⟨W, hW⟩ : ∃ W, W = (w.alloc (.cells #[.slice mA0 (m.1).length mq0, .slice mA1 (m.2.1).length mq1, .slice mA2 (m.2.2.1).length mq2, .slice mA3 (m.2.2.2).length mq3] 31)).alloc (.cells #[.slice uA Wt.length uc] 137) := ⟨_, rfl⟩
  rw [← hW]
  have g := eqbox2 hW
  have p0 : W.cell? ⟨w.heap.size + 1, 0, none⟩ = some (.slice uA Wt.length uc) := box_cell g.2.1 0 _ rfl
  have HW := Lib.hid g.2.2
  clear hW g
  refine (indexAsg_at m.2.1 Wt _ _ (w.heap.size + 1) _ (good_AssignS.below HV.out hT HW.out) (Nat.le_trans hT HW.out.size) p0 (good_BoolS.below HU.out hT' HW.out) (Nat.le_trans hT' HW.out.size) HK.out hr).mono ?_
  rintro e w1 ⟨rfl, hb⟩
  have HB := Lib.hid (bThen HW.out hb)
  clear hb
  go_wp2
  go_ret
  exact ⟨rfl, HB.out⟩
end Go.Proofs.YtmjofpfkgbnknaaGreat
