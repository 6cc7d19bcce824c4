/-
  The type Module as the exact laws' helpers see it.
-/
import Derived.Test.YtllddjkdjdohhaaDpInt
import Derived.Test.YtllddjkdjdohhaaDpSignal
import Derived.Test.YtllddjkdjdohhaaDpAssign
import Derived.Test.YtllddjkdjdohhaaDpInst
import Derived.Test.YtllddjkdjdohhaaDpMem
namespace Go.Proofs.Ytllddjkdjdohhaa
open Go.RowKit
set_option linter.unusedVariables false
set_option linter.unusedSimpArgs false

abbrev DModule : Type := (List DSignal) × (List DAssign) × (List DInst) × (List DMem)
abbrev rdModule : Rd DModule := rd4 rdSignalS rdAssignS rdInstS rdMemS
theorem good_Module : Rd.Good rdModule := rd4_good good_SignalS good_AssignS good_InstS good_MemS
abbrev rdModuleS : Rd (List DModule) := rdS 4 rdModule
theorem good_ModuleS : Rd.Good rdModuleS := rdS_good 4 good_Module

set_option maxHeartbeats 1600000 in
theorem eqModule_any (x : DModule) (us us' : List Value) {B T B' T' : Nat} (w : World) (h : rdModule B T w us x) (h' : rdModule B' T' w us' x) (hT : T ≤ w.heap.size) (hT' : T' ≤ w.heap.size) :
    Calls Try.prog 33 #[.agg us.toArray, .agg us'.toArray] w fun e w' => e = .returned (.bool true) ∧ Below w.heap.size w w' := by
  obtain ⟨u0, u1, u2, u3, rfl, uh0, uh1, uh2, uh3⟩ := h
  obtain ⟨v0, v1, v2, v3, rfl, vh0, vh1, vh2, vh3⟩ := h'
  go_enter Try.func33, Try.ntmps33
  go_wp2_with fail
  refine (eqSignalS_any _ _ _ _ (good_SignalS.below uh0 hT (by (repeat' (first | assumption | exact Below.refl _ _ | refine bDrewN ?_ _ | refine Below.drew ?_ | refine bAlloc ?_ (Nat.le_refl _) _ | refine bSet ?_ (by first | exact Nat.le_refl _ | omega | (simp <;> omega)) _)))) (good_SignalS.below vh0 hT' (by (repeat' (first | assumption | exact Below.refl _ _ | refine bDrewN ?_ _ | refine Below.drew ?_ | refine bAlloc ?_ (Nat.le_refl _) _ | refine bSet ?_ (by first | exact Nat.le_refl _ | omega | (simp <;> omega)) _)))) (Nat.le_trans hT (by simp <;> omega)) (Nat.le_trans hT' (by simp <;> omega))).mono ?_
  rintro e w1 ⟨rfl, hb⟩
  have g := box2 hb
  have uc0 : w1.cell? ⟨w.heap.size, 0, none⟩ = some (u0) := box_cell g.1 0 _ rfl
  have uc1 : w1.cell? ⟨w.heap.size, 1, none⟩ = some (u1) := box_cell g.1 1 _ rfl
  have uc2 : w1.cell? ⟨w.heap.size, 2, none⟩ = some (u2) := box_cell g.1 2 _ rfl
  have uc3 : w1.cell? ⟨w.heap.size, 3, none⟩ = some (u3) := box_cell g.1 3 _ rfl
  have vc0 : w1.cell? ⟨w.heap.size + 1, 0, none⟩ = some (v0) := box_cell g.2.1 0 _ rfl
  have vc1 : w1.cell? ⟨w.heap.size + 1, 1, none⟩ = some (v1) := box_cell g.2.1 1 _ rfl
  have vc2 : w1.cell? ⟨w.heap.size + 1, 2, none⟩ = some (v2) := box_cell g.2.1 2 _ rfl
  have vc3 : w1.cell? ⟨w.heap.size + 1, 3, none⟩ = some (v3) := box_cell g.2.1 3 _ rfl
  have hW : Below w.heap.size w w1 := g.2.2
  clear hb g
  go_wp2_with fail
  refine (eqAssignS_any _ _ _ _ (good_AssignS.below uh1 hT hW) (good_AssignS.below vh1 hT' hW) (Nat.le_trans hT hW.size) (Nat.le_trans hT' hW.size)).mono ?_
  rintro e w2 ⟨rfl, hb⟩
  replace uc0 := keep hb uc0
  replace uc1 := keep hb uc1
  replace uc2 := keep hb uc2
  replace uc3 := keep hb uc3
  replace vc0 := keep hb vc0
  replace vc1 := keep hb vc1
  replace vc2 := keep hb vc2
  replace vc3 := keep hb vc3
  replace hW := bThen hW hb
  clear hb
  go_wp2_with fail
  refine (eqInstS_any _ _ _ _ (good_InstS.below uh2 hT hW) (good_InstS.below vh2 hT' hW) (Nat.le_trans hT hW.size) (Nat.le_trans hT' hW.size)).mono ?_
  rintro e w3 ⟨rfl, hb⟩
  replace uc0 := keep hb uc0
  replace uc1 := keep hb uc1
  replace uc2 := keep hb uc2
  replace uc3 := keep hb uc3
  replace vc0 := keep hb vc0
  replace vc1 := keep hb vc1
  replace vc2 := keep hb vc2
  replace vc3 := keep hb vc3
  replace hW := bThen hW hb
  clear hb
  go_wp2_with fail
  refine (eqMemS_any _ _ _ _ (good_MemS.below uh3 hT hW) (good_MemS.below vh3 hT' hW) (Nat.le_trans hT hW.size) (Nat.le_trans hT' hW.size)).mono ?_
  rintro e w4 ⟨rfl, hb⟩
  replace uc0 := keep hb uc0
  replace uc1 := keep hb uc1
  replace uc2 := keep hb uc2
  replace uc3 := keep hb uc3
  replace vc0 := keep hb vc0
  replace vc1 := keep hb vc1
  replace vc2 := keep hb vc2
  replace vc3 := keep hb vc3
  replace hW := bThen hW hb
  clear hb
  go_wp2
  go_ret
  exact ⟨rfl, hW⟩

set_option maxHeartbeats 1600000 in
theorem eqModuleS_any (L : List DModule) (a b : Value) {B T B' T' : Nat} (w : World) (h : rdModuleS B T w [a] L) (h' : rdModuleS B' T' w [b] L) (hT : T ≤ w.heap.size) (hT' : T' ≤ w.heap.size) :
    Calls Try.prog 83 #[a, b] w fun e w' => e = .returned (.bool true) ∧ Below w.heap.size w w' := by
  obtain ⟨A, c, ea, hm, hA⟩ := h
  obtain ⟨A', c', eb, _, hA'⟩ := h'
  injection ea with ea
  injection eb with eb
  subst ea eb
  unfold maxLen at hm
  have HA := Lib.hid hA
  have HA' := Lib.hid hA'
  clear hA hA'
  go_enter Try.func83, Try.ntmps83
  go_wp2
  go_loopw [5] (fun i wr => ∃ k : Nat, k ≤ L.length ∧ i = .int .i64 k ∧ Below w.heap.size w wr) (fun i _ => L.length - (intOf i).toNat)
  case atStart => exact ⟨0, Nat.zero_le _, rfl, Below.refl _ _⟩
  case round =>
    obtain ⟨k, hk, rfl, hbel⟩ := hrel
    by_cases hlt : k < L.length
    · obtain ⟨p, o, rfl, _, hp, us, hl, hc, hr⟩ := HA.out k hlt
      obtain ⟨p', o', rfl, _, hp', us', hl', hc', hr'⟩ := HA'.out k hlt
      have HR := Lib.hid (And.intro hr hr')
      clear HA HA'
      obtain ⟨u0, u1, u2, u3, rfl, _⟩ := hr
      obtain ⟨v0, v1, v2, v3, rfl, _⟩ := hr'
      have c0 : ∀ d os, (Sort.grow (redrawn wr d) os).cell? ⟨p, o + k * 4, none⟩ = some u0 := cell_regrown (keep hbel (hc 0 _ rfl))
      have d0 : ∀ d os, (Sort.grow (redrawn wr d) os).cell? ⟨p', o' + k * 4, none⟩ = some v0 := cell_regrown (keep hbel (hc' 0 _ rfl))
      have c1 : ∀ d os, (Sort.grow (redrawn wr d) os).cell? ⟨p, o + k * 4 + 1, none⟩ = some u1 := cell_regrown (keep hbel (hc 1 _ rfl))
      have d1 : ∀ d os, (Sort.grow (redrawn wr d) os).cell? ⟨p', o' + k * 4 + 1, none⟩ = some v1 := cell_regrown (keep hbel (hc' 1 _ rfl))
      have c2 : ∀ d os, (Sort.grow (redrawn wr d) os).cell? ⟨p, o + k * 4 + 2, none⟩ = some u2 := cell_regrown (keep hbel (hc 2 _ rfl))
      have d2 : ∀ d os, (Sort.grow (redrawn wr d) os).cell? ⟨p', o' + k * 4 + 2, none⟩ = some v2 := cell_regrown (keep hbel (hc' 2 _ rfl))
      have c3 : ∀ d os, (Sort.grow (redrawn wr d) os).cell? ⟨p, o + k * 4 + 3, none⟩ = some u3 := cell_regrown (keep hbel (hc 3 _ rfl))
      have d3 : ∀ d os, (Sort.grow (redrawn wr d) os).cell? ⟨p', o' + k * 4 + 3, none⟩ = some v3 := cell_regrown (keep hbel (hc' 3 _ rfl))
      have HB := Lib.hid hbel
      obtain ⟨x, hx⟩ : ∃ x, L[k] = x := ⟨_, rfl⟩
      rw [hx] at HR
      clear hbel hc hc' hl hl' hx
      go_wp2
      refine wp_region_quiet_below (by kernel_rfl) (by kernel_rfl) ?_
      repeat (go_big_quiet_step (first | (go_at_call 33; refine Calls.regrown_of (eqModule_any x [u0, u1, u2, u3] [v0, v1, v2, v3] _ (good_Module.below HR.out.1 hT (bThen HB.out (below_regrown _ _ _))) (good_Module.below HR.out.2 hT' (bThen HB.out (below_regrown _ _ _))) (Nat.le_trans hT (bThen HB.out (below_regrown _ _ _)).size) (Nat.le_trans hT' (bThen HB.out (below_regrown _ _ _)).size)))))
      refine wpQuiet_nil ?_
      intro _ hw'
      obtain ⟨⟨dq, osq⟩, hw''⟩ := hw'
      subst hw''
      go_wp2
      go_roundw
      case rel => exact ⟨k + 1, by omega, by go_num, bThen HB.out (below_regrown _ _ _)⟩
      case measure => simp [intOf]; omega
    · have HB := Lib.hid hbel
      clear hbel
      go_wp2
      go_ret
      exact ⟨rfl, HB.out⟩
end Go.Proofs.Ytllddjkdjdohhaa
