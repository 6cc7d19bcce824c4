/-
  The walk of the exact law over ExprValue.
-/
import Derived.Test.YtmalaleinmoihaaDmAll
import Derived.Test.YtmalaleinmoihaaDzAll
import Derived.Test.YtmalaleinmoihaaSExprV
import Derived.Test.YtmalaleinmoihaaIExprV
import Derived.Test.YtmalaleinmoihaaKept
import Derived.Deep.RegionHeld3
namespace Go.Proofs.Ytmalaleinmoihaa
open Go.RowKit
set_option linter.unusedVariables false
set_option linter.unusedSimpArgs false

set_option maxRecDepth 100000 in
set_option maxHeartbeats 25600000 in
theorem exactExpr_walk (aA : Option Addr) (al ac : Nat) (za : List DOp) (bA : Option Addr) (bl bc : Nat) (zb : List Int) (kw : Int) (w : World) (ha : rdOpS 0 w.heap.size w [.slice aA al ac] za) (hb : rdIntS 0 w.heap.size w [.slice bA bl bc] zb) :
    Calls Try.prog 3 #[.slice aA al ac, .slice bA bl bc, .int .i64 kw] w fun e w' => e = .returned (.bool true) ∧ Below w.heap.size w w' := by
  have HDa := Lib.hid ha
  obtain ⟨aA', ac', ae, am, -⟩ := slice_of ha
  injection ae with ae1 ae2 ae3
  subst ae1 ae2 ae3
  clear ha
  have HDb := Lib.hid hb
  obtain ⟨bA', bc', be, bm, -⟩ := slice_of hb
  injection be with be1 be2 be3
  subst be1 be2 be3
  clear hb
  obtain ⟨r0, hr0⟩ : ∃ r0, exprE za zb kw = r0 := ⟨_, rfl⟩
  have HR0 := Lib.hid hr0
  clear hr0
  by_cases hlb : zb.length ≤ 1048576
  case neg =>
    have tlb : (1048576 : Int) < (zb.length : Int) := by omega
    go_enter Try.func3, Try.ntmps3
    go_wp2
    go_ret
    exact ⟨rfl, by (repeat' (first | assumption | exact Below.refl _ _ | refine bDrewN ?_ _ | refine Below.drew ?_ | refine bAlloc ?_ (Nat.le_refl _) _ | refine bSet ?_ (by first | exact Nat.le_refl _ | omega | (simp <;> omega)) _))⟩
  have tlb : ¬ (1048576 : Int) < (zb.length : Int) := by omega
  have HSb := Lib.hid (show smIntS zb from hlb)
  have HW := Lib.hid (Below.refl w.heap.size w)
  go_enter Try.func3, Try.ntmps3
  go_wp2_with fail
  refine (szOpS_post za aA za.length ac 1048576 _ (good_OpS.below HDa.out (Nat.le_refl _) HW.out) (by omega) (by omega)).mono ?_
  rintro e w1 ⟨lfa, rfl, hrN, hbN⟩
  replace HW := Lib.hid (bThen HW.out hbN)
  have s1 : w.heap.size ≤ w1.heap.size := (hbN).size
  clear hbN
  rcases hrN with rfl | ⟨pa, qa, sN⟩
  · go_wp2
    go_ret
    exact ⟨rfl, HW.out⟩
  have ta : ¬ lfa < 0 := by omega
  have HSa := Lib.hid sN
  clear sN
  go_wp2_with fail
  refine (toOpS_any za aA za.length ac _ (good_OpS.below HDa.out (Nat.le_refl _) HW.out) HW.out.size HSa.out).mono ?_
  rintro e w2 ⟨y0, rfl, hxN, hbN⟩
  replace HW := Lib.hid (bThen HW.out hbN)
  have s2 : w1.heap.size ≤ w2.heap.size := (hbN).size
  have Hy0 := Lib.hid hxN
  have By0 := Lib.hid (Below.refl w2.heap.size w2)
  obtain ⟨y0A, y0c, rfl, -⟩ := slice_of (hxN)
  clear hbN hxN
  go_wp2_with fail
  refine (toIntS_any zb bA zb.length bc _ (good_IntS.below HDb.out (Nat.le_refl _) HW.out) HW.out.size HSb.out).mono ?_
  rintro e w3 ⟨y1, rfl, hxN, hbN⟩
  replace By0 := Lib.hid (bThen By0.out hbN)
  replace HW := Lib.hid (bThen HW.out hbN)
  have s3 : w2.heap.size ≤ w3.heap.size := (hbN).size
  have Hy1 := Lib.hid hxN
  have By1 := Lib.hid (Below.refl w3.heap.size w3)
  obtain ⟨y1A, y1c, rfl, -⟩ := slice_of (hxN)
  clear hbN hxN
  go_wp2_with fail
  refine (specExprV_at za zb kw _ _ _ (good_OpS.wider (good_OpS.below Hy0.out (Nat.le_refl _) By0.out) (Nat.zero_le _) By0.out.size) (good_IntS.wider (good_IntS.below Hy1.out (Nat.le_refl _) By1.out) (Nat.zero_le _) By1.out.size) HR0.out).mono ?_
  rintro e w4 ⟨rfl, hbN⟩
  replace By0 := Lib.hid (bThen By0.out hbN)
  replace By1 := Lib.hid (bThen By1.out hbN)
  replace HW := Lib.hid (bThen HW.out hbN)
  have s4 : w3.heap.size ≤ w4.heap.size := (hbN).size
  clear hbN
  clear Hy0 By0
  clear Hy1 By1
  go_wp2_with fail
  refine (toOpS_any za aA za.length ac _ (good_OpS.below HDa.out (Nat.le_refl _) HW.out) HW.out.size HSa.out).mono ?_
  rintro e w5 ⟨x0, rfl, hxN, hbN⟩
  replace HW := Lib.hid (bThen HW.out hbN)
  have s5 : w4.heap.size ≤ w5.heap.size := (hbN).size
  have Hx0 := Lib.hid hxN
  have Bx0 := Lib.hid (Below.refl w5.heap.size w5)
  obtain ⟨x0A, x0c, rfl, -⟩ := slice_of (hxN)
  clear hbN hxN
  go_wp2_with fail
  refine (toIntS_any zb bA zb.length bc _ (good_IntS.below HDb.out (Nat.le_refl _) HW.out) HW.out.size HSb.out).mono ?_
  rintro e w6 ⟨x1, rfl, hxN, hbN⟩
  replace Bx0 := Lib.hid (bThen Bx0.out hbN)
  replace HW := Lib.hid (bThen HW.out hbN)
  have s6 : w5.heap.size ≤ w6.heap.size := (hbN).size
  have Hx1 := Lib.hid hxN
  have Bx1 := Lib.hid (Below.refl w6.heap.size w6)
  obtain ⟨x1A, x1c, rfl, -⟩ := slice_of (hxN)
  clear hbN hxN
  go_wp2_with fail
  refine (implExprV_at za zb kw _ _ _ (good_OpS.wider (good_OpS.below Hx0.out (Nat.le_refl _) Bx0.out) (Nat.zero_le _) Bx0.out.size) (good_IntS.wider (good_IntS.below Hx1.out (Nat.le_refl _) Bx1.out) (Nat.zero_le _) Bx1.out.size) HR0.out).mono ?_
  rintro e w7 ⟨rfl, hbN⟩
  replace Bx0 := Lib.hid (bThen Bx0.out hbN)
  replace Bx1 := Lib.hid (bThen Bx1.out hbN)
  replace HW := Lib.hid (bThen HW.out hbN)
  have s7 : w6.heap.size ≤ w7.heap.size := (hbN).size
  clear hbN
  go_wp2_with fail
  refine (toOpS_any za aA za.length ac _ (good_OpS.below HDa.out (Nat.le_refl _) HW.out) HW.out.size HSa.out).mono ?_
  rintro e w8 ⟨v0, rfl, hxN, hbN⟩
  replace Bx0 := Lib.hid (bThen Bx0.out hbN)
  replace Bx1 := Lib.hid (bThen Bx1.out hbN)
  replace HW := Lib.hid (bThen HW.out hbN)
  have s8 : w7.heap.size ≤ w8.heap.size := (hbN).size
  have Hv0 := Lib.hid hxN
  have Bv0 := Lib.hid (Below.refl w8.heap.size w8)
  obtain ⟨v0A, v0c, rfl, -⟩ := slice_of (hxN)
  clear hbN hxN
  go_wp2_with fail
  refine (eqOpS_any za (.slice x0A za.length x0c) (.slice v0A za.length v0c) _ (good_OpS.below Hx0.out (Nat.le_refl _) Bx0.out) (good_OpS.below Hv0.out (Nat.le_refl _) Bv0.out) Bx0.out.size Bv0.out.size).mono ?_
  rintro e w9 ⟨rfl, hbN⟩
  replace Bx0 := Lib.hid (bThen Bx0.out hbN)
  replace Bx1 := Lib.hid (bThen Bx1.out hbN)
  replace Bv0 := Lib.hid (bThen Bv0.out hbN)
  replace HW := Lib.hid (bThen HW.out hbN)
  have s9 : w8.heap.size ≤ w9.heap.size := (hbN).size
  clear hbN
  clear Hv0 Bv0
  go_wp2_with fail
  refine (toIntS_any zb bA zb.length bc _ (good_IntS.below HDb.out (Nat.le_refl _) HW.out) HW.out.size HSb.out).mono ?_
  rintro e w10 ⟨v1, rfl, hxN, hbN⟩
  replace Bx0 := Lib.hid (bThen Bx0.out hbN)
  replace Bx1 := Lib.hid (bThen Bx1.out hbN)
  replace HW := Lib.hid (bThen HW.out hbN)
  have s10 : w9.heap.size ≤ w10.heap.size := (hbN).size
  have Hv1 := Lib.hid hxN
  have Bv1 := Lib.hid (Below.refl w10.heap.size w10)
  obtain ⟨v1A, v1c, rfl, -⟩ := slice_of (hxN)
  clear hbN hxN
  go_wp2_with fail
  refine (eqIntS_any zb (.slice x1A zb.length x1c) (.slice v1A zb.length v1c) _ (good_IntS.below Hx1.out (Nat.le_refl _) Bx1.out) (good_IntS.below Hv1.out (Nat.le_refl _) Bv1.out) Bx1.out.size Bv1.out.size).mono ?_
  rintro e w11 ⟨rfl, hbN⟩
  replace Bx0 := Lib.hid (bThen Bx0.out hbN)
  replace Bx1 := Lib.hid (bThen Bx1.out hbN)
  replace Bv1 := Lib.hid (bThen Bv1.out hbN)
  replace HW := Lib.hid (bThen HW.out hbN)
  have s11 : w10.heap.size ≤ w11.heap.size := (hbN).size
  clear hbN
  clear Hv1 Bv1
  go_wp2
  go_ret
  exact ⟨rfl, HW.out⟩
end Go.Proofs.Ytmalaleinmoihaa
