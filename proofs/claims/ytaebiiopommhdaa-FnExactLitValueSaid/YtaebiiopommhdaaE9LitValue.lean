/-
  The walk of the exact law over LitValue.
-/
import Derived.Test.YtaebiiopommhdaaNr2
import Derived.Test.YtaebiiopommhdaaDmN
import Derived.Test.YtaebiiopommhdaaDzN
import Derived.Test.YtaebiiopommhdaaDoN
import Derived.Test.YtaebiiopommhdaaRgN
import Derived.Deep.RegionHeld3
namespace Go.Proofs.Ytaebiiopommhdaa
open Go.RowKit
set_option linter.unusedVariables false
set_option linter.unusedSimpArgs false

set_option maxRecDepth 100000 in
set_option maxHeartbeats 25600000 in
theorem exactLit_walk (vA : Option Addr) (vl vc : Nat) (zv : List Int) (lv : Int) (hlv : Fit lv) (w : World) (hv : rdIntS 0 w.heap.size w [.slice vA vl vc] zv) :
    Calls Try.prog 8 #[.slice vA vl vc, .int .i64 lv] w fun e w' => e = .returned (.bool true) ∧ Below w.heap.size w w' := by
  have HDv := Lib.hid hv
  obtain ⟨vA', vc', ve, vm, -⟩ := slice_of hv
  injection ve with ve1 ve2 ve3
  subst ve1 ve2 ve3
  clear hv
  have HFlv := Lib.hid hlv
  clear hlv
  obtain ⟨r0, hr0⟩ : ∃ r0, litO zv lv = r0 := ⟨_, rfl⟩
  have HR0 := Lib.hid hr0
  clear hr0
  by_cases hlv : zv.length ≤ 1048576
  case neg =>
    have tlv : (1048576 : Int) < (zv.length : Int) := by omega
    go_enter Try.func8, Try.ntmps8
    go_wp2
    go_ret
    exact ⟨rfl, by (repeat' (first | assumption | exact Below.refl _ _ | refine bDrewN ?_ _ | refine Below.drew ?_ | refine bAlloc ?_ (Nat.le_refl _) _ | refine bSet ?_ (by first | exact Nat.le_refl _ | omega | (simp <;> omega)) _))⟩
  have tlv : ¬ (1048576 : Int) < (zv.length : Int) := by omega
  have HSv := Lib.hid (show smIntS zv from hlv)
  have HW := Lib.hid (Below.refl w.heap.size w)
  go_enter Try.func8, Try.ntmps8
  go_wp2_with fail
  refine (toIntS_any zv vA zv.length vc _ (good_IntS.below HDv.out (Nat.le_refl _) HW.out) HW.out.size HSv.out).mono ?_
  rintro e w1 ⟨y0, rfl, hxN, hbN⟩
  replace HW := Lib.hid (bThen HW.out hbN)
  have s1 : w.heap.size ≤ w1.heap.size := (hbN).size
  have Hy0 := Lib.hid hxN
  have By0 := Lib.hid (Below.refl w1.heap.size w1)
  obtain ⟨y0A, y0c, rfl, -⟩ := slice_of (hxN)
  clear hbN hxN
  go_wp2_with fail
  refine (specLitV_at zv lv HFlv.out _ _ (good_IntS.below Hy0.out (Nat.le_refl _) By0.out) By0.out.size HR0.out).mono ?_
  rintro e w2 ⟨rfl, hbN⟩
  replace By0 := Lib.hid (bThen By0.out hbN)
  replace HW := Lib.hid (bThen HW.out hbN)
  have s2 : w1.heap.size ≤ w2.heap.size := (hbN).size
  clear hbN
  clear Hy0 By0
  go_wp2_with fail
  refine (toIntS_any zv vA zv.length vc _ (good_IntS.below HDv.out (Nat.le_refl _) HW.out) HW.out.size HSv.out).mono ?_
  rintro e w3 ⟨x0, rfl, hxN, hbN⟩
  replace HW := Lib.hid (bThen HW.out hbN)
  have s3 : w2.heap.size ≤ w3.heap.size := (hbN).size
  have Hx0 := Lib.hid hxN
  have Bx0 := Lib.hid (Below.refl w3.heap.size w3)
  obtain ⟨x0A, x0c, rfl, -⟩ := slice_of (hxN)
  clear hbN hxN
  go_wp2_with fail
  refine (implLitV_at zv lv HFlv.out _ _ (good_IntS.below Hx0.out (Nat.le_refl _) Bx0.out) Bx0.out.size HR0.out).mono ?_
  rintro e w4 ⟨rfl, hbN⟩
  replace Bx0 := Lib.hid (bThen Bx0.out hbN)
  replace HW := Lib.hid (bThen HW.out hbN)
  have s4 : w3.heap.size ≤ w4.heap.size := (hbN).size
  clear hbN
  go_wp2_with fail
  refine (toIntS_any zv vA zv.length vc _ (good_IntS.below HDv.out (Nat.le_refl _) HW.out) HW.out.size HSv.out).mono ?_
  rintro e w5 ⟨v0, rfl, hxN, hbN⟩
  replace Bx0 := Lib.hid (bThen Bx0.out hbN)
  replace HW := Lib.hid (bThen HW.out hbN)
  have s5 : w4.heap.size ≤ w5.heap.size := (hbN).size
  have Hv0 := Lib.hid hxN
  have Bv0 := Lib.hid (Below.refl w5.heap.size w5)
  obtain ⟨v0A, v0c, rfl, -⟩ := slice_of (hxN)
  clear hbN hxN
  go_wp2_with fail
  refine (eqIntS_any zv (.slice x0A zv.length x0c) (.slice v0A zv.length v0c) _ (good_IntS.below Hx0.out (Nat.le_refl _) Bx0.out) (good_IntS.below Hv0.out (Nat.le_refl _) Bv0.out) Bx0.out.size Bv0.out.size).mono ?_
  rintro e w6 ⟨rfl, hbN⟩
  replace Bx0 := Lib.hid (bThen Bx0.out hbN)
  replace Bv0 := Lib.hid (bThen Bv0.out hbN)
  replace HW := Lib.hid (bThen HW.out hbN)
  have s6 : w5.heap.size ≤ w6.heap.size := (hbN).size
  clear hbN
  clear Hv0 Bv0
  go_wp2
  go_ret
  exact ⟨rfl, HW.out⟩
end Go.Proofs.Ytaebiiopommhdaa
