/-
  The type Op as the exact laws' helpers see it.
-/
import Derived.Test.YtikibabknlpnkaaDoorDpInt
namespace Go.Proofs.YtikibabknlpnkaaDoor
open Go.RowKit
set_option linter.unusedVariables false
set_option linter.unusedSimpArgs false

abbrev DOp : Type := Int × Int × Int
abbrev rdOp : Rd DOp := rd3 rdInt rdInt rdInt
theorem good_Op : Rd.Good rdOp := rd3_good rdInt_good rdInt_good rdInt_good
abbrev rdOpS : Rd (List DOp) := rdS 3 rdOp
theorem good_OpS : Rd.Good rdOpS := rdS_good 3 good_Op

set_option maxHeartbeats 1600000 in
theorem eqOp_any (x : DOp) (us us' : List Value) {B T B' T' : Nat} (w : World) (h : rdOp B T w us x) (h' : rdOp B' T' w us' x) (hT : T ≤ w.heap.size) (hT' : T' ≤ w.heap.size) :
    Calls Tryd.prog 13 #[.agg us.toArray, .agg us'.toArray] w fun e w' => e = .returned (.bool true) ∧ Below w.heap.size w w' := by
  obtain ⟨u0, u1, u2, rfl, uh0, uh1, uh2⟩ := h
  obtain ⟨ue0, uf0⟩ := uh0
  injection ue0 with ue0
  subst ue0
  obtain ⟨ue1, uf1⟩ := uh1
  injection ue1 with ue1
  subst ue1
  obtain ⟨ue2, uf2⟩ := uh2
  injection ue2 with ue2
  subst ue2
  obtain ⟨v0, v1, v2, rfl, vh0, vh1, vh2⟩ := h'
  obtain ⟨ve0, vf0⟩ := vh0
  injection ve0 with ve0
  subst ve0
  obtain ⟨ve1, vf1⟩ := vh1
  injection ve1 with ve1
  subst ve1
  obtain ⟨ve2, vf2⟩ := vh2
  injection ve2 with ve2
  subst ve2
  go_enter Tryd.func13, Tryd.ntmps13
  go_wp2
  go_ret
  exact ⟨rfl, by (repeat' (first | assumption | exact Below.refl _ _ | refine bDrewN ?_ _ | refine Below.drew ?_ | refine bAlloc ?_ (Nat.le_refl _) _ | refine bSet ?_ (by first | exact Nat.le_refl _ | omega | (simp <;> omega)) _))⟩

end Go.Proofs.YtikibabknlpnkaaDoor
