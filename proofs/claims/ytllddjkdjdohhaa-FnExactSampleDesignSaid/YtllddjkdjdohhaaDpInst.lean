/-
  The type Inst as the exact laws' helpers see it.
-/
import Derived.Test.YtllddjkdjdohhaaDpInt
namespace Go.Proofs.Ytllddjkdjdohhaa
open Go.RowKit
set_option linter.unusedVariables false
set_option linter.unusedSimpArgs false

abbrev DInst : Type := Int × Int × (List DInt)
abbrev rdInst : Rd DInst := rd3 rdInt rdInt rdIntS
theorem good_Inst : Rd.Good rdInst := rd3_good rdInt_good rdInt_good good_IntS
abbrev rdInstS : Rd (List DInst) := rdS 3 rdInst
theorem good_InstS : Rd.Good rdInstS := rdS_good 3 good_Inst

set_option maxHeartbeats 1600000 in
theorem eqInst_any (x : DInst) (us us' : List Value) {B T B' T' : Nat} (w : World) (h : rdInst B T w us x) (h' : rdInst B' T' w us' x) (hT : T ≤ w.heap.size) (hT' : T' ≤ w.heap.size) :
    Calls Try.prog 104 #[.agg us.toArray, .agg us'.toArray] w fun e w' => e = .returned (.bool true) ∧ Below w.heap.size w w' := by
  obtain ⟨u0, u1, u2, rfl, uh0, uh1, uh2⟩ := h
  obtain ⟨ue0, uf0⟩ := uh0
  injection ue0 with ue0
  subst ue0
  obtain ⟨ue1, uf1⟩ := uh1
  injection ue1 with ue1
  subst ue1
  obtain ⟨v0, v1, v2, rfl, vh0, vh1, vh2⟩ := h'
  obtain ⟨ve0, vf0⟩ := vh0
  injection ve0 with ve0
  subst ve0
  obtain ⟨ve1, vf1⟩ := vh1
  injection ve1 with ve1
  subst ve1
  go_enter Try.func104, Try.ntmps104
  go_wp2_with fail
  refine (eqIntS_any _ _ _ _ (good_IntS.below uh2 hT (by (repeat' (first | assumption | exact Below.refl _ _ | refine bDrewN ?_ _ | refine Below.drew ?_ | refine bAlloc ?_ (Nat.le_refl _) _ | refine bSet ?_ (by first | exact Nat.le_refl _ | omega | (simp <;> omega)) _)))) (good_IntS.below vh2 hT' (by (repeat' (first | assumption | exact Below.refl _ _ | refine bDrewN ?_ _ | refine Below.drew ?_ | refine bAlloc ?_ (Nat.le_refl _) _ | refine bSet ?_ (by first | exact Nat.le_refl _ | omega | (simp <;> omega)) _)))) (Nat.le_trans hT (by simp <;> omega)) (Nat.le_trans hT' (by simp <;> omega))).mono ?_
  rintro e w1 ⟨rfl, hb⟩
  have g := box2 hb
  have uc0 : w1.cell? ⟨w.heap.size, 0, none⟩ = some (.int .i64 x.1) := box_cell g.1 0 _ rfl
  have uc1 : w1.cell? ⟨w.heap.size, 1, none⟩ = some (.int .i64 x.2.1) := box_cell g.1 1 _ rfl
  have uc2 : w1.cell? ⟨w.heap.size, 2, none⟩ = some (u2) := box_cell g.1 2 _ rfl
  have vc0 : w1.cell? ⟨w.heap.size + 1, 0, none⟩ = some (.int .i64 x.1) := box_cell g.2.1 0 _ rfl
  have vc1 : w1.cell? ⟨w.heap.size + 1, 1, none⟩ = some (.int .i64 x.2.1) := box_cell g.2.1 1 _ rfl
  have vc2 : w1.cell? ⟨w.heap.size + 1, 2, none⟩ = some (v2) := box_cell g.2.1 2 _ rfl
  have hW : Below w.heap.size w w1 := g.2.2
  clear hb g
  go_wp2
  go_ret
  exact ⟨rfl, hW⟩

set_option maxHeartbeats 1600000 in
theorem eqInstS_any (L : List DInst) (a b : Value) {B T B' T' : Nat} (w : World) (h : rdInstS B T w [a] L) (h' : rdInstS B' T' w [b] L) (hT : T ≤ w.heap.size) (hT' : T' ≤ w.heap.size) :
    Calls Try.prog 74 #[a, b] w fun e w' => e = .returned (.bool true) ∧ Below w.heap.size w w' := by
  obtain ⟨A, c, ea, hm, hA⟩ := h
  obtain ⟨A', c', eb, _, hA'⟩ := h'
  injection ea with ea
  injection eb with eb
  subst ea eb
  unfold maxLen at hm
  have HA := Lib.hid hA
  have HA' := Lib.hid hA'
  clear hA hA'
  go_enter Try.func74, Try.ntmps74
  go_wp2
  go_loopw [5] (fun i wr => ∃ k : Nat, k ≤ L.length ∧ i = .int .i64 k ∧ Below w.heap.size w wr) (fun i _ => L.length - (intOf i).toNat)
  case atStart => exact ⟨0, Nat.zero_le _, rfl, Below.refl _ _⟩
  case round =>
    obtain ⟨k, hk, rfl, hbel⟩ := hrel
    by_cases hlt : k < L.length
    · obtain ⟨p, o, rfl, _, hp, us, hl, hc, hr⟩ := HA.out k hlt
      obtain ⟨p', o', rfl, _, hp', us', hl', hc', hr'⟩ := HA'.out k hlt
      have HR := Lib.hid (And.intro hr hr')
      clear HA HA'
      obtain ⟨u0, u1, u2, rfl, _⟩ := hr
      obtain ⟨v0, v1, v2, rfl, _⟩ := hr'
      have c0 : ∀ d os, (Sort.grow (redrawn wr d) os).cell? ⟨p, o + k * 3, none⟩ = some u0 := cell_regrown (keep hbel (hc 0 _ rfl))
      have d0 : ∀ d os, (Sort.grow (redrawn wr d) os).cell? ⟨p', o' + k * 3, none⟩ = some v0 := cell_regrown (keep hbel (hc' 0 _ rfl))
      have c1 : ∀ d os, (Sort.grow (redrawn wr d) os).cell? ⟨p, o + k * 3 + 1, none⟩ = some u1 := cell_regrown (keep hbel (hc 1 _ rfl))
      have d1 : ∀ d os, (Sort.grow (redrawn wr d) os).cell? ⟨p', o' + k * 3 + 1, none⟩ = some v1 := cell_regrown (keep hbel (hc' 1 _ rfl))
      have c2 : ∀ d os, (Sort.grow (redrawn wr d) os).cell? ⟨p, o + k * 3 + 2, none⟩ = some u2 := cell_regrown (keep hbel (hc 2 _ rfl))
      have d2 : ∀ d os, (Sort.grow (redrawn wr d) os).cell? ⟨p', o' + k * 3 + 2, none⟩ = some v2 := cell_regrown (keep hbel (hc' 2 _ rfl))
      have HB := Lib.hid hbel
      obtain ⟨x, hx⟩ : ∃ x, L[k] = x := ⟨_, rfl⟩
      rw [hx] at HR
      clear hbel hc hc' hl hl' hx
      go_wp2
      refine wp_region_quiet_below (by kernel_rfl) (by kernel_rfl) ?_
      repeat (go_big_quiet_step (first | (go_at_call 104; refine Calls.regrown_of (eqInst_any x [u0, u1, u2] [v0, v1, v2] _ (good_Inst.below HR.out.1 hT (bThen HB.out (below_regrown _ _ _))) (good_Inst.below HR.out.2 hT' (bThen HB.out (below_regrown _ _ _))) (Nat.le_trans hT (bThen HB.out (below_regrown _ _ _)).size) (Nat.le_trans hT' (bThen HB.out (below_regrown _ _ _)).size)))))
      refine wpQuiet_nil ?_
      intro _ hw'
      obtain ⟨⟨dq, osq⟩, hw''⟩ := hw'
      subst hw''
      go_wp2
      go_roundw
      case rel => exact ⟨k + 1, by omega, by go_num, bThen HB.out (below_regrown _ _ _)⟩
      case measure => simp [intOf]; omega
    · have HB := Lib.hid hbel
      clear hbel
      go_wp2
      go_ret
      exact ⟨rfl, HB.out⟩
end Go.Proofs.Ytllddjkdjdohhaa
