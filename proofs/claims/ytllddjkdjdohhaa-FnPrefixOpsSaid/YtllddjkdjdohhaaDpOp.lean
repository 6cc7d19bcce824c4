/-
  The type Op as the exact laws' helpers see it.
-/
import Derived.Test.YtllddjkdjdohhaaDpInt
namespace Go.Proofs.Ytllddjkdjdohhaa
open Go.RowKit
set_option linter.unusedVariables false
set_option linter.unusedSimpArgs false

abbrev DOp : Type := Int × Int × Int
abbrev rdOp : Rd DOp := rd3 rdInt rdInt rdInt
theorem good_Op : Rd.Good rdOp := rd3_good rdInt_good rdInt_good rdInt_good
abbrev rdOpS : Rd (List DOp) := rdS 3 rdOp
theorem good_OpS : Rd.Good rdOpS := rdS_good 3 good_Op

set_option maxHeartbeats 1600000 in
theorem eqOp_any (x : DOp) (us us' : List Value) {B T B' T' : Nat} (w : World) (h : rdOp B T w us x) (h' : rdOp B' T' w us' x) (hT : T ≤ w.heap.size) (hT' : T' ≤ w.heap.size) :
    Calls Try.prog 63 #[.agg us.toArray, .agg us'.toArray] w fun e w' => e = .returned (.bool true) ∧ Below w.heap.size w w' := by
  obtain ⟨u0, u1, u2, rfl, uh0, uh1, uh2⟩ := h
  obtain ⟨ue0, uf0⟩ := uh0
  injection ue0 with ue0
  subst ue0
  obtain ⟨ue1, uf1⟩ := uh1
  injection ue1 with ue1
  subst ue1
  obtain ⟨ue2, uf2⟩ := uh2
  injection ue2 with ue2
  subst ue2
  obtain ⟨v0, v1, v2, rfl, vh0, vh1, vh2⟩ := h'
  obtain ⟨ve0, vf0⟩ := vh0
  injection ve0 with ve0
  subst ve0
  obtain ⟨ve1, vf1⟩ := vh1
  injection ve1 with ve1
  subst ve1
  obtain ⟨ve2, vf2⟩ := vh2
  injection ve2 with ve2
  subst ve2
  go_enter Try.func63, Try.ntmps63
  go_wp2
  go_ret
  exact ⟨rfl, by (repeat' (first | assumption | exact Below.refl _ _ | refine bDrewN ?_ _ | refine Below.drew ?_ | refine bAlloc ?_ (Nat.le_refl _) _ | refine bSet ?_ (by first | exact Nat.le_refl _ | omega | (simp <;> omega)) _))⟩

set_option maxHeartbeats 1600000 in
theorem eqOpS_any (L : List DOp) (a b : Value) {B T B' T' : Nat} (w : World) (h : rdOpS B T w [a] L) (h' : rdOpS B' T' w [b] L) (hT : T ≤ w.heap.size) (hT' : T' ≤ w.heap.size) :
    Calls Try.prog 27 #[a, b] w fun e w' => e = .returned (.bool true) ∧ Below w.heap.size w w' := by
  obtain ⟨A, c, ea, hm, hA⟩ := h
  obtain ⟨A', c', eb, _, hA'⟩ := h'
  injection ea with ea
  injection eb with eb
  subst ea eb
  unfold maxLen at hm
  have HA := Lib.hid hA
  have HA' := Lib.hid hA'
  clear hA hA'
  go_enter Try.func27, Try.ntmps27
  go_wp2
  go_loopw [5] (fun i wr => ∃ k : Nat, k ≤ L.length ∧ i = .int .i64 k ∧ Below w.heap.size w wr) (fun i _ => L.length - (intOf i).toNat)
  case atStart => exact ⟨0, Nat.zero_le _, rfl, Below.refl _ _⟩
  case round =>
    obtain ⟨k, hk, rfl, hbel⟩ := hrel
    by_cases hlt : k < L.length
    · obtain ⟨p, o, rfl, _, hp, us, hl, hc, hr⟩ := HA.out k hlt
      obtain ⟨p', o', rfl, _, hp', us', hl', hc', hr'⟩ := HA'.out k hlt
      have HR := Lib.hid (And.intro hr hr')
      clear HA HA'
      obtain ⟨u0, u1, u2, rfl, _⟩ := hr
      obtain ⟨v0, v1, v2, rfl, _⟩ := hr'
      have c0 : ∀ d os, (Sort.grow (redrawn wr d) os).cell? ⟨p, o + k * 3, none⟩ = some u0 := cell_regrown (keep hbel (hc 0 _ rfl))
      have d0 : ∀ d os, (Sort.grow (redrawn wr d) os).cell? ⟨p', o' + k * 3, none⟩ = some v0 := cell_regrown (keep hbel (hc' 0 _ rfl))
      have c1 : ∀ d os, (Sort.grow (redrawn wr d) os).cell? ⟨p, o + k * 3 + 1, none⟩ = some u1 := cell_regrown (keep hbel (hc 1 _ rfl))
      have d1 : ∀ d os, (Sort.grow (redrawn wr d) os).cell? ⟨p', o' + k * 3 + 1, none⟩ = some v1 := cell_regrown (keep hbel (hc' 1 _ rfl))
      have c2 : ∀ d os, (Sort.grow (redrawn wr d) os).cell? ⟨p, o + k * 3 + 2, none⟩ = some u2 := cell_regrown (keep hbel (hc 2 _ rfl))
      have d2 : ∀ d os, (Sort.grow (redrawn wr d) os).cell? ⟨p', o' + k * 3 + 2, none⟩ = some v2 := cell_regrown (keep hbel (hc' 2 _ rfl))
      have HB := Lib.hid hbel
      obtain ⟨x, hx⟩ : ∃ x, L[k] = x := ⟨_, rfl⟩
      rw [hx] at HR
      clear hbel hc hc' hl hl' hx
      go_wp2
      refine wp_region_quiet_below (by kernel_rfl) (by kernel_rfl) ?_
      repeat (go_big_quiet_step (first | (go_at_call 63; refine Calls.regrown_of (eqOp_any x [u0, u1, u2] [v0, v1, v2] _ (good_Op.below HR.out.1 hT (bThen HB.out (below_regrown _ _ _))) (good_Op.below HR.out.2 hT' (bThen HB.out (below_regrown _ _ _))) (Nat.le_trans hT (bThen HB.out (below_regrown _ _ _)).size) (Nat.le_trans hT' (bThen HB.out (below_regrown _ _ _)).size)))))
      refine wpQuiet_nil ?_
      intro _ hw'
      obtain ⟨⟨dq, osq⟩, hw''⟩ := hw'
      subst hw''
      go_wp2
      go_roundw
      case rel => exact ⟨k + 1, by omega, by go_num, bThen HB.out (below_regrown _ _ _)⟩
      case measure => simp [intOf]; omega
    · have HB := Lib.hid hbel
      clear hbel
      go_wp2
      go_ret
      exact ⟨rfl, HB.out⟩

theorem szOpS_any (A : Option Addr) (n c : Nat) (left : Int) (w : World) (h0 : (n : Int) ≤ left) (h1 : left ≤ 1048576) :
    Calls Try.prog 25 #[.slice A n c, .int .i64 left] w fun e w' => e = .returned (.int .i64 (left - n)) ∧ Below w.heap.size w w' := by
  have t1 : ¬ left - (n : Int) < 0 := by omega
  go_enter Try.func25, Try.ntmps25
  go_wp2
  go_ret
  exact ⟨rfl, Below.refl _ _⟩
theorem szOpS_big (A : Option Addr) (n c : Nat) (left : Int) (w : World) (h0 : left < (n : Int)) (h1 : 0 ≤ left) (h2 : left ≤ 1048576) (hn : n ≤ maxLen) :
    Calls Try.prog 25 #[.slice A n c, .int .i64 left] w fun e w' => e = .returned (.int .i64 (-1)) ∧ Below w.heap.size w w' := by
  unfold maxLen at hn
  have t1 : left - (n : Int) < 0 := by omega
  go_enter Try.func25, Try.ntmps25
  go_wp2
  go_ret
  exact ⟨rfl, Below.refl _ _⟩
end Go.Proofs.Ytllddjkdjdohhaa
