/-
  The type Design as the exact laws' helpers see it.
-/
import Derived.Test.YtllddjkdjdohhaaDpInt
import Derived.Test.YtllddjkdjdohhaaDpModule
namespace Go.Proofs.Ytllddjkdjdohhaa
open Go.RowKit
set_option linter.unusedVariables false
set_option linter.unusedSimpArgs false

abbrev DDesign : Type := (List DModule)
abbrev rdDesign : Rd DDesign := rd1 rdModuleS
theorem good_Design : Rd.Good rdDesign := rd1_good good_ModuleS
abbrev rdDesignS : Rd (List DDesign) := rdS 1 rdDesign
theorem good_DesignS : Rd.Good rdDesignS := rdS_good 1 good_Design

set_option maxHeartbeats 1600000 in
theorem eqDesign_any (x : DDesign) (us us' : List Value) {B T B' T' : Nat} (w : World) (h : rdDesign B T w us x) (h' : rdDesign B' T' w us' x) (hT : T ≤ w.heap.size) (hT' : T' ≤ w.heap.size) :
    Calls Try.prog 40 #[.agg us.toArray, .agg us'.toArray] w fun e w' => e = .returned (.bool true) ∧ Below w.heap.size w w' := by
  obtain ⟨u0, rfl, uh0⟩ := h
  obtain ⟨v0, rfl, vh0⟩ := h'
  go_enter Try.func40, Try.ntmps40
  go_wp2_with fail
  refine (eqModuleS_any _ _ _ _ (good_ModuleS.below uh0 hT (by (repeat' (first | assumption | exact Below.refl _ _ | refine bDrewN ?_ _ | refine Below.drew ?_ | refine bAlloc ?_ (Nat.le_refl _) _ | refine bSet ?_ (by first | exact Nat.le_refl _ | omega | (simp <;> omega)) _)))) (good_ModuleS.below vh0 hT' (by (repeat' (first | assumption | exact Below.refl _ _ | refine bDrewN ?_ _ | refine Below.drew ?_ | refine bAlloc ?_ (Nat.le_refl _) _ | refine bSet ?_ (by first | exact Nat.le_refl _ | omega | (simp <;> omega)) _)))) (Nat.le_trans hT (by simp <;> omega)) (Nat.le_trans hT' (by simp <;> omega))).mono ?_
  rintro e w1 ⟨rfl, hb⟩
  have g := box2 hb
  have uc0 : w1.cell? ⟨w.heap.size, 0, none⟩ = some (u0) := box_cell g.1 0 _ rfl
  have vc0 : w1.cell? ⟨w.heap.size + 1, 0, none⟩ = some (v0) := box_cell g.2.1 0 _ rfl
  have hW : Below w.heap.size w w1 := g.2.2
  clear hb g
  go_wp2
  go_ret
  exact ⟨rfl, hW⟩
end Go.Proofs.Ytllddjkdjdohhaa
