/-
  The type Design as the exact laws' helpers see it.
-/
import Derived.Test.YtllddjkdjdohhaaDtDesign
import Derived.Test.YtllddjkdjdohhaaDzModule
namespace Go.Proofs.Ytllddjkdjdohhaa
open Go.RowKit
set_option linter.unusedVariables false
set_option linter.unusedSimpArgs false

set_option maxHeartbeats 1600000 in
theorem szDesign_post (x : DDesign) (us : List Value) {B T : Nat} (left : Int) (w : World) (h : rdDesign B T w us x) (hT : T ≤ w.heap.size) (h0 : 0 ≤ left) (h1 : left ≤ 1048576) :
    Calls Try.prog 37 #[.agg us.toArray, .int .i64 left] w fun e w' => ∃ r : Int, e = .returned (.int .i64 r) ∧ (r = -1 ∨ (0 ≤ r ∧ r ≤ left ∧ smDesign x)) ∧ Below w.heap.size w w' := by
  unfold smDesign
  obtain ⟨u0, rfl, uh0⟩ := h
  have uq0 := uh0
  obtain ⟨u0A, u0c, ue0, -⟩ := uq0
  injection ue0 with ue0
  subst ue0
  have U0 := Lib.hid uh0
  clear uh0
  go_enter Try.func37, Try.ntmps37
  go_wp2_with fail
  refine (szModuleS_post (x) u0A (x).length u0c left _ (good_ModuleS.below U0.out hT (by (repeat' (first | assumption | exact Below.refl _ _ | refine bDrewN ?_ _ | refine Below.drew ?_ | refine bAlloc ?_ (Nat.le_refl _) _ | refine bSet ?_ (by first | exact Nat.le_refl _ | omega | (simp <;> omega)) _)))) (Nat.le_trans hT (by simp <;> omega)) h0 h1).mono ?_
  rintro e w1 ⟨r0, rfl, hr, hb⟩
  have g := box1 hb
  have uc0 : w1.cell? ⟨w.heap.size, 0, none⟩ = some (.slice u0A (x).length u0c) := box_cell g.1 0 _ rfl
  have hW : Below w.heap.size w w1 := g.2
  clear hb g
  rcases hr with rfl | ⟨p0, q0, s0⟩
  · have HW := Lib.hid hW
    go_wp2
    go_ret
    exact ⟨_, rfl, .inl rfl, HW.out⟩
  have t0 : ¬ r0 < 0 := by omega
  have HW := Lib.hid hW
  clear hW
  go_wp2
  go_ret
  exact ⟨_, rfl, .inr ⟨by omega, by omega, s0⟩, HW.out⟩
end Go.Proofs.Ytllddjkdjdohhaa
