/-
  The type Assign as the exact laws' helpers see it.
-/
import Derived.Test.YtllddjkdjdohhaaDpInt
import Derived.Test.YtllddjkdjdohhaaDpOp
namespace Go.Proofs.Ytllddjkdjdohhaa
open Go.RowKit
set_option linter.unusedVariables false
set_option linter.unusedSimpArgs false

abbrev DAssign : Type := Int × (List DOp)
abbrev rdAssign : Rd DAssign := rd2 rdInt rdOpS
theorem good_Assign : Rd.Good rdAssign := rd2_good rdInt_good good_OpS
abbrev rdAssignS : Rd (List DAssign) := rdS 2 rdAssign
theorem good_AssignS : Rd.Good rdAssignS := rdS_good 2 good_Assign

set_option maxHeartbeats 1600000 in
theorem eqAssign_any (x : DAssign) (us us' : List Value) {B T B' T' : Nat} (w : World) (h : rdAssign B T w us x) (h' : rdAssign B' T' w us' x) (hT : T ≤ w.heap.size) (hT' : T' ≤ w.heap.size) :
    Calls Try.prog 103 #[.agg us.toArray, .agg us'.toArray] w fun e w' => e = .returned (.bool true) ∧ Below w.heap.size w w' := by
  obtain ⟨u0, u1, rfl, uh0, uh1⟩ := h
  obtain ⟨ue0, uf0⟩ := uh0
  injection ue0 with ue0
  subst ue0
  obtain ⟨v0, v1, rfl, vh0, vh1⟩ := h'
  obtain ⟨ve0, vf0⟩ := vh0
  injection ve0 with ve0
  subst ve0
  go_enter Try.func103, Try.ntmps103
  go_wp2_with fail
  refine (eqOpS_any _ _ _ _ (good_OpS.below uh1 hT (by (repeat' (first | assumption | exact Below.refl _ _ | refine bDrewN ?_ _ | refine Below.drew ?_ | refine bAlloc ?_ (Nat.le_refl _) _ | refine bSet ?_ (by first | exact Nat.le_refl _ | omega | (simp <;> omega)) _)))) (good_OpS.below vh1 hT' (by (repeat' (first | assumption | exact Below.refl _ _ | refine bDrewN ?_ _ | refine Below.drew ?_ | refine bAlloc ?_ (Nat.le_refl _) _ | refine bSet ?_ (by first | exact Nat.le_refl _ | omega | (simp <;> omega)) _)))) (Nat.le_trans hT (by simp <;> omega)) (Nat.le_trans hT' (by simp <;> omega))).mono ?_
  rintro e w1 ⟨rfl, hb⟩
  have g := box2 hb
  have uc0 : w1.cell? ⟨w.heap.size, 0, none⟩ = some (.int .i64 x.1) := box_cell g.1 0 _ rfl
  have uc1 : w1.cell? ⟨w.heap.size, 1, none⟩ = some (u1) := box_cell g.1 1 _ rfl
  have vc0 : w1.cell? ⟨w.heap.size + 1, 0, none⟩ = some (.int .i64 x.1) := box_cell g.2.1 0 _ rfl
  have vc1 : w1.cell? ⟨w.heap.size + 1, 1, none⟩ = some (v1) := box_cell g.2.1 1 _ rfl
  have hW : Below w.heap.size w w1 := g.2.2
  clear hb g
  go_wp2
  go_ret
  exact ⟨rfl, hW⟩

set_option maxHeartbeats 1600000 in
theorem eqAssignS_any (L : List DAssign) (a b : Value) {B T B' T' : Nat} (w : World) (h : rdAssignS B T w [a] L) (h' : rdAssignS B' T' w [b] L) (hT : T ≤ w.heap.size) (hT' : T' ≤ w.heap.size) :
    Calls Try.prog 73 #[a, b] w fun e w' => e = .returned (.bool true) ∧ Below w.heap.size w w' := by
  obtain ⟨A, c, ea, hm, hA⟩ := h
  obtain ⟨A', c', eb, _, hA'⟩ := h'
  injection ea with ea
  injection eb with eb
  subst ea eb
  unfold maxLen at hm
  have HA := Lib.hid hA
  have HA' := Lib.hid hA'
  clear hA hA'
  go_enter Try.func73, Try.ntmps73
  go_wp2
  go_loopw [5] (fun i wr => ∃ k : Nat, k ≤ L.length ∧ i = .int .i64 k ∧ Below w.heap.size w wr) (fun i _ => L.length - (intOf i).toNat)
  case atStart => exact ⟨0, Nat.zero_le _, rfl, Below.refl _ _⟩
  case round =>
    obtain ⟨k, hk, rfl, hbel⟩ := hrel
    by_cases hlt : k < L.length
    · obtain ⟨p, o, rfl, _, hp, us, hl, hc, hr⟩ := HA.out k hlt
      obtain ⟨p', o', rfl, _, hp', us', hl', hc', hr'⟩ := HA'.out k hlt
      have HR := Lib.hid (And.intro hr hr')
      clear HA HA'
      obtain ⟨u0, u1, rfl, _⟩ := hr
      obtain ⟨v0, v1, rfl, _⟩ := hr'
      have c0 : ∀ d os, (Sort.grow (redrawn wr d) os).cell? ⟨p, o + k * 2, none⟩ = some u0 := cell_regrown (keep hbel (hc 0 _ rfl))
      have d0 : ∀ d os, (Sort.grow (redrawn wr d) os).cell? ⟨p', o' + k * 2, none⟩ = some v0 := cell_regrown (keep hbel (hc' 0 _ rfl))
      have c1 : ∀ d os, (Sort.grow (redrawn wr d) os).cell? ⟨p, o + k * 2 + 1, none⟩ = some u1 := cell_regrown (keep hbel (hc 1 _ rfl))
      have d1 : ∀ d os, (Sort.grow (redrawn wr d) os).cell? ⟨p', o' + k * 2 + 1, none⟩ = some v1 := cell_regrown (keep hbel (hc' 1 _ rfl))
      have HB := Lib.hid hbel
      obtain ⟨x, hx⟩ : ∃ x, L[k] = x := ⟨_, rfl⟩
      rw [hx] at HR
      clear hbel hc hc' hl hl' hx
      go_wp2
      refine wp_region_quiet_below (by kernel_rfl) (by kernel_rfl) ?_
      repeat (go_big_quiet_step (first | (go_at_call 103; refine Calls.regrown_of (eqAssign_any x [u0, u1] [v0, v1] _ (good_Assign.below HR.out.1 hT (bThen HB.out (below_regrown _ _ _))) (good_Assign.below HR.out.2 hT' (bThen HB.out (below_regrown _ _ _))) (Nat.le_trans hT (bThen HB.out (below_regrown _ _ _)).size) (Nat.le_trans hT' (bThen HB.out (below_regrown _ _ _)).size)))))
      refine wpQuiet_nil ?_
      intro _ hw'
      obtain ⟨⟨dq, osq⟩, hw''⟩ := hw'
      subst hw''
      go_wp2
      go_roundw
      case rel => exact ⟨k + 1, by omega, by go_num, bThen HB.out (below_regrown _ _ _)⟩
      case measure => simp [intOf]; omega
    · have HB := Lib.hid hbel
      clear hbel
      go_wp2
      go_ret
      exact ⟨rfl, HB.out⟩
end Go.Proofs.Ytllddjkdjdohhaa
