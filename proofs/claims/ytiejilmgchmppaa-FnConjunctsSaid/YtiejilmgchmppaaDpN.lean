/-
  DpInt, DpSeq, DpAnd, DpNet as one text.
-/
import Derived.Test.YtiejilmgchmppaaBaN
import Derived.Lib.QuietBelow
import Derived.Deep.RegionHeld3
/- DpInt: The type []int as the exact laws' helpers see it. -/
namespace Go.Proofs.Ytiejilmgchmppaa
open Go.RowKit
set_option linter.unusedVariables false
set_option linter.unusedSimpArgs false
abbrev DInt : Type := Int
abbrev rdIntS : Rd (List Int) := rdS 1 rdInt
theorem good_IntS : Rd.Good rdIntS := rdS_good 1 rdInt_good

set_option maxHeartbeats 1600000 in
theorem eqIntS_any (L : List Int) (a b : Value) {B T B' T' : Nat} (w : World) (h : rdIntS B T w [a] L) (h' : rdIntS B' T' w [b] L) (hT : T ≤ w.heap.size) (hT' : T' ≤ w.heap.size) :
    Calls Try.prog 16 #[a, b] w fun e w' => e = .returned (.bool true) ∧ Below w.heap.size w w' := by
  obtain ⟨A, c, ea, hm, hA⟩ := h
  obtain ⟨A', c', eb, _, hA'⟩ := h'
  injection ea with ea
  injection eb with eb
  subst ea eb
  unfold maxLen at hm
  have HA := Lib.hid hA
  have HA' := Lib.hid hA'
  clear hA hA'
  go_enter Try.func16, Try.ntmps16
  go_wp2
  go_loopw [5] (fun i wr => ∃ k : Nat, k ≤ L.length ∧ i = .int .i64 k ∧ Below w.heap.size w wr) (fun i _ => L.length - (intOf i).toNat)
  case atStart => exact ⟨0, Nat.zero_le _, rfl, Below.refl _ _⟩
  case round =>
    obtain ⟨k, hk, rfl, hbel⟩ := hrel
    by_cases hlt : k < L.length
    · obtain ⟨p, o, rfl, _, hp, us, hl, hc, hr⟩ := HA.out k hlt
      obtain ⟨p', o', rfl, _, hp', us', hl', hc', hr'⟩ := HA'.out k hlt
      have HR := Lib.hid (And.intro hr hr')
      clear HA HA'
      obtain ⟨e0, _⟩ := hr
      obtain ⟨e1, _⟩ := hr'
      subst e0 e1
      have c0 := keep hbel (hc 0 _ rfl)
      have d0 := keep hbel (hc' 0 _ rfl)
      rw [Nat.add_zero, Nat.mul_one] at c0 d0
      have HB := Lib.hid hbel
      generalize L[k] = x at c0 d0
      clear hbel hc hc' HR hl hl'
      go_wp2
      (try go_quiet (fail))
      (try go_wp2)
      go_roundw
      case rel => exact ⟨k + 1, by omega, by go_num, by have hB := HB.out; (repeat' (first | assumption | exact Below.refl _ _ | refine bDrewN ?_ _ | refine Below.drew ?_ | refine bAlloc ?_ (Nat.le_refl _) _ | refine bSet ?_ (by first | exact Nat.le_refl _ | omega | (simp <;> omega)) _))⟩
      case measure => simp [intOf]; omega
    · have HB := Lib.hid hbel
      clear hbel
      go_wp2
      go_ret
      exact ⟨rfl, HB.out⟩

theorem szIntS_any (A : Option Addr) (n c : Nat) (left : Int) (w : World) (h0 : (n : Int) ≤ left) (h1 : left ≤ 1048576) :
    Calls Try.prog 39 #[.slice A n c, .int .i64 left] w fun e w' => e = .returned (.int .i64 (left - n)) ∧ Below w.heap.size w w' := by
  have t1 : ¬ left - (n : Int) < 0 := by omega
  go_enter Try.func39, Try.ntmps39
  go_wp2
  go_ret
  exact ⟨rfl, Below.refl _ _⟩
theorem szIntS_big (A : Option Addr) (n c : Nat) (left : Int) (w : World) (h0 : left < (n : Int)) (h1 : 0 ≤ left) (h2 : left ≤ 1048576) (hn : n ≤ maxLen) :
    Calls Try.prog 39 #[.slice A n c, .int .i64 left] w fun e w' => e = .returned (.int .i64 (-1)) ∧ Below w.heap.size w w' := by
  unfold maxLen at hn
  have t1 : left - (n : Int) < 0 := by omega
  go_enter Try.func39, Try.ntmps39
  go_wp2
  go_ret
  exact ⟨rfl, Below.refl _ _⟩
end Go.Proofs.Ytiejilmgchmppaa
/- DpSeq: The type Seq as the exact laws' helpers see it. -/
namespace Go.Proofs.Ytiejilmgchmppaa
open Go.RowKit
set_option linter.unusedVariables false
set_option linter.unusedSimpArgs false

abbrev DSeq : Type := Int × Int × (List DInt)
abbrev rdSeq : Rd DSeq := rd3 rdInt rdInt rdIntS
theorem good_Seq : Rd.Good rdSeq := rd3_good rdInt_good rdInt_good good_IntS
abbrev rdSeqS : Rd (List DSeq) := rdS 3 rdSeq
theorem good_SeqS : Rd.Good rdSeqS := rdS_good 3 good_Seq

set_option maxHeartbeats 1600000 in
theorem eqSeq_any (x : DSeq) (us us' : List Value) {B T B' T' : Nat} (w : World) (h : rdSeq B T w us x) (h' : rdSeq B' T' w us' x) (hT : T ≤ w.heap.size) (hT' : T' ≤ w.heap.size) :
    Calls Try.prog 63 #[.agg us.toArray, .agg us'.toArray] w fun e w' => e = .returned (.bool true) ∧ Below w.heap.size w w' := by
  obtain ⟨u0, u1, u2, rfl, uh0, uh1, uh2⟩ := h
  obtain ⟨ue0, uf0⟩ := uh0
  injection ue0 with ue0
  subst ue0
  obtain ⟨ue1, uf1⟩ := uh1
  injection ue1 with ue1
  subst ue1
  obtain ⟨v0, v1, v2, rfl, vh0, vh1, vh2⟩ := h'
  obtain ⟨ve0, vf0⟩ := vh0
  injection ve0 with ve0
  subst ve0
  obtain ⟨ve1, vf1⟩ := vh1
  injection ve1 with ve1
  subst ve1
  go_enter Try.func63, Try.ntmps63
  go_wp2_with fail
  refine (eqIntS_any _ _ _ _ (good_IntS.below uh2 hT (by (repeat' (first | assumption | exact Below.refl _ _ | refine bDrewN ?_ _ | refine Below.drew ?_ | refine bAlloc ?_ (Nat.le_refl _) _ | refine bSet ?_ (by first | exact Nat.le_refl _ | omega | (simp <;> omega)) _)))) (good_IntS.below vh2 hT' (by (repeat' (first | assumption | exact Below.refl _ _ | refine bDrewN ?_ _ | refine Below.drew ?_ | refine bAlloc ?_ (Nat.le_refl _) _ | refine bSet ?_ (by first | exact Nat.le_refl _ | omega | (simp <;> omega)) _)))) (Nat.le_trans hT (by simp <;> omega)) (Nat.le_trans hT' (by simp <;> omega))).mono ?_
  rintro e w1 ⟨rfl, hb⟩
  have g := box2 hb
  have uc0 : w1.cell? ⟨w.heap.size, 0, none⟩ = some (.int .i64 x.1) := box_cell g.1 0 _ rfl
  have uc1 : w1.cell? ⟨w.heap.size, 1, none⟩ = some (.int .i64 x.2.1) := box_cell g.1 1 _ rfl
  have uc2 : w1.cell? ⟨w.heap.size, 2, none⟩ = some (u2) := box_cell g.1 2 _ rfl
  have vc0 : w1.cell? ⟨w.heap.size + 1, 0, none⟩ = some (.int .i64 x.1) := box_cell g.2.1 0 _ rfl
  have vc1 : w1.cell? ⟨w.heap.size + 1, 1, none⟩ = some (.int .i64 x.2.1) := box_cell g.2.1 1 _ rfl
  have vc2 : w1.cell? ⟨w.heap.size + 1, 2, none⟩ = some (v2) := box_cell g.2.1 2 _ rfl
  have hW : Below w.heap.size w w1 := g.2.2
  clear hb g
  go_wp2
  go_ret
  exact ⟨rfl, hW⟩

set_option maxHeartbeats 1600000 in
theorem eqSeqS_any (L : List DSeq) (a b : Value) {B T B' T' : Nat} (w : World) (h : rdSeqS B T w [a] L) (h' : rdSeqS B' T' w [b] L) (hT : T ≤ w.heap.size) (hT' : T' ≤ w.heap.size) :
    Calls Try.prog 43 #[a, b] w fun e w' => e = .returned (.bool true) ∧ Below w.heap.size w w' := by
  obtain ⟨A, c, ea, hm, hA⟩ := h
  obtain ⟨A', c', eb, _, hA'⟩ := h'
  injection ea with ea
  injection eb with eb
  subst ea eb
  unfold maxLen at hm
  have HA := Lib.hid hA
  have HA' := Lib.hid hA'
  clear hA hA'
  go_enter Try.func43, Try.ntmps43
  go_wp2
  go_loopw [5] (fun i wr => ∃ k : Nat, k ≤ L.length ∧ i = .int .i64 k ∧ Below w.heap.size w wr) (fun i _ => L.length - (intOf i).toNat)
  case atStart => exact ⟨0, Nat.zero_le _, rfl, Below.refl _ _⟩
  case round =>
    obtain ⟨k, hk, rfl, hbel⟩ := hrel
    by_cases hlt : k < L.length
    · obtain ⟨p, o, rfl, _, hp, us, hl, hc, hr⟩ := HA.out k hlt
      obtain ⟨p', o', rfl, _, hp', us', hl', hc', hr'⟩ := HA'.out k hlt
      have HR := Lib.hid (And.intro hr hr')
      clear HA HA'
      obtain ⟨u0, u1, u2, rfl, _⟩ := hr
      obtain ⟨v0, v1, v2, rfl, _⟩ := hr'
      have c0 : ∀ d os, (Sort.grow (redrawn wr d) os).cell? ⟨p, o + k * 3, none⟩ = some u0 := cell_regrown (keep hbel (hc 0 _ rfl))
      have d0 : ∀ d os, (Sort.grow (redrawn wr d) os).cell? ⟨p', o' + k * 3, none⟩ = some v0 := cell_regrown (keep hbel (hc' 0 _ rfl))
      have c1 : ∀ d os, (Sort.grow (redrawn wr d) os).cell? ⟨p, o + k * 3 + 1, none⟩ = some u1 := cell_regrown (keep hbel (hc 1 _ rfl))
      have d1 : ∀ d os, (Sort.grow (redrawn wr d) os).cell? ⟨p', o' + k * 3 + 1, none⟩ = some v1 := cell_regrown (keep hbel (hc' 1 _ rfl))
      have c2 : ∀ d os, (Sort.grow (redrawn wr d) os).cell? ⟨p, o + k * 3 + 2, none⟩ = some u2 := cell_regrown (keep hbel (hc 2 _ rfl))
      have d2 : ∀ d os, (Sort.grow (redrawn wr d) os).cell? ⟨p', o' + k * 3 + 2, none⟩ = some v2 := cell_regrown (keep hbel (hc' 2 _ rfl))
      have HB := Lib.hid hbel
      obtain ⟨x, hx⟩ : ∃ x, L[k] = x := ⟨_, rfl⟩
      rw [hx] at HR
      clear hbel hc hc' hl hl' hx
      go_wp2
      refine wp_region_quiet_below (by kernel_rfl) (by kernel_rfl) ?_
      repeat (go_big_quiet_step (first | (go_at_call 63; refine Calls.regrown_of (eqSeq_any x [u0, u1, u2] [v0, v1, v2] _ (good_Seq.below HR.out.1 hT (bThen HB.out (below_regrown _ _ _))) (good_Seq.below HR.out.2 hT' (bThen HB.out (below_regrown _ _ _))) (Nat.le_trans hT (bThen HB.out (below_regrown _ _ _)).size) (Nat.le_trans hT' (bThen HB.out (below_regrown _ _ _)).size)))))
      refine wpQuiet_nil ?_
      intro _ hw'
      obtain ⟨⟨dq, osq⟩, hw''⟩ := hw'
      subst hw''
      go_wp2
      go_roundw
      case rel => exact ⟨k + 1, by omega, by go_num, bThen HB.out (below_regrown _ _ _)⟩
      case measure => simp [intOf]; omega
    · have HB := Lib.hid hbel
      clear hbel
      go_wp2
      go_ret
      exact ⟨rfl, HB.out⟩
end Go.Proofs.Ytiejilmgchmppaa
/- DpAnd: The type And as the exact laws' helpers see it. -/
namespace Go.Proofs.Ytiejilmgchmppaa
open Go.RowKit
set_option linter.unusedVariables false
set_option linter.unusedSimpArgs false

abbrev DAnd : Type := Int × Int
abbrev rdAnd : Rd DAnd := rd2 rdInt rdInt
theorem good_And : Rd.Good rdAnd := rd2_good rdInt_good rdInt_good
abbrev rdAndS : Rd (List DAnd) := rdS 2 rdAnd
theorem good_AndS : Rd.Good rdAndS := rdS_good 2 good_And

set_option maxHeartbeats 1600000 in
theorem eqAnd_any (x : DAnd) (us us' : List Value) {B T B' T' : Nat} (w : World) (h : rdAnd B T w us x) (h' : rdAnd B' T' w us' x) (hT : T ≤ w.heap.size) (hT' : T' ≤ w.heap.size) :
    Calls Try.prog 64 #[.agg us.toArray, .agg us'.toArray] w fun e w' => e = .returned (.bool true) ∧ Below w.heap.size w w' := by
  obtain ⟨u0, u1, rfl, uh0, uh1⟩ := h
  obtain ⟨ue0, uf0⟩ := uh0
  injection ue0 with ue0
  subst ue0
  obtain ⟨ue1, uf1⟩ := uh1
  injection ue1 with ue1
  subst ue1
  obtain ⟨v0, v1, rfl, vh0, vh1⟩ := h'
  obtain ⟨ve0, vf0⟩ := vh0
  injection ve0 with ve0
  subst ve0
  obtain ⟨ve1, vf1⟩ := vh1
  injection ve1 with ve1
  subst ve1
  go_enter Try.func64, Try.ntmps64
  go_wp2
  go_ret
  exact ⟨rfl, by (repeat' (first | assumption | exact Below.refl _ _ | refine bDrewN ?_ _ | refine Below.drew ?_ | refine bAlloc ?_ (Nat.le_refl _) _ | refine bSet ?_ (by first | exact Nat.le_refl _ | omega | (simp <;> omega)) _))⟩

set_option maxHeartbeats 1600000 in
theorem eqAndS_any (L : List DAnd) (a b : Value) {B T B' T' : Nat} (w : World) (h : rdAndS B T w [a] L) (h' : rdAndS B' T' w [b] L) (hT : T ≤ w.heap.size) (hT' : T' ≤ w.heap.size) :
    Calls Try.prog 44 #[a, b] w fun e w' => e = .returned (.bool true) ∧ Below w.heap.size w w' := by
  obtain ⟨A, c, ea, hm, hA⟩ := h
  obtain ⟨A', c', eb, _, hA'⟩ := h'
  injection ea with ea
  injection eb with eb
  subst ea eb
  unfold maxLen at hm
  have HA := Lib.hid hA
  have HA' := Lib.hid hA'
  clear hA hA'
  go_enter Try.func44, Try.ntmps44
  go_wp2
  go_loopw [5] (fun i wr => ∃ k : Nat, k ≤ L.length ∧ i = .int .i64 k ∧ Below w.heap.size w wr) (fun i _ => L.length - (intOf i).toNat)
  case atStart => exact ⟨0, Nat.zero_le _, rfl, Below.refl _ _⟩
  case round =>
    obtain ⟨k, hk, rfl, hbel⟩ := hrel
    by_cases hlt : k < L.length
    · obtain ⟨p, o, rfl, _, hp, us, hl, hc, hr⟩ := HA.out k hlt
      obtain ⟨p', o', rfl, _, hp', us', hl', hc', hr'⟩ := HA'.out k hlt
      have HR := Lib.hid (And.intro hr hr')
      clear HA HA'
      obtain ⟨u0, u1, rfl, _⟩ := hr
      obtain ⟨v0, v1, rfl, _⟩ := hr'
      have c0 : ∀ d os, (Sort.grow (redrawn wr d) os).cell? ⟨p, o + k * 2, none⟩ = some u0 := cell_regrown (keep hbel (hc 0 _ rfl))
      have d0 : ∀ d os, (Sort.grow (redrawn wr d) os).cell? ⟨p', o' + k * 2, none⟩ = some v0 := cell_regrown (keep hbel (hc' 0 _ rfl))
      have c1 : ∀ d os, (Sort.grow (redrawn wr d) os).cell? ⟨p, o + k * 2 + 1, none⟩ = some u1 := cell_regrown (keep hbel (hc 1 _ rfl))
      have d1 : ∀ d os, (Sort.grow (redrawn wr d) os).cell? ⟨p', o' + k * 2 + 1, none⟩ = some v1 := cell_regrown (keep hbel (hc' 1 _ rfl))
      have HB := Lib.hid hbel
      obtain ⟨x, hx⟩ : ∃ x, L[k] = x := ⟨_, rfl⟩
      rw [hx] at HR
      clear hbel hc hc' hl hl' hx
      go_wp2
      refine wp_region_quiet_below (by kernel_rfl) (by kernel_rfl) ?_
      repeat (go_big_quiet_step (first | (go_at_call 64; refine Calls.regrown_of (eqAnd_any x [u0, u1] [v0, v1] _ (good_And.below HR.out.1 hT (bThen HB.out (below_regrown _ _ _))) (good_And.below HR.out.2 hT' (bThen HB.out (below_regrown _ _ _))) (Nat.le_trans hT (bThen HB.out (below_regrown _ _ _)).size) (Nat.le_trans hT' (bThen HB.out (below_regrown _ _ _)).size)))))
      refine wpQuiet_nil ?_
      intro _ hw'
      obtain ⟨⟨dq, osq⟩, hw''⟩ := hw'
      subst hw''
      go_wp2
      go_roundw
      case rel => exact ⟨k + 1, by omega, by go_num, bThen HB.out (below_regrown _ _ _)⟩
      case measure => simp [intOf]; omega
    · have HB := Lib.hid hbel
      clear hbel
      go_wp2
      go_ret
      exact ⟨rfl, HB.out⟩

theorem szAndS_any (A : Option Addr) (n c : Nat) (left : Int) (w : World) (h0 : (n : Int) ≤ left) (h1 : left ≤ 1048576) :
    Calls Try.prog 38 #[.slice A n c, .int .i64 left] w fun e w' => e = .returned (.int .i64 (left - n)) ∧ Below w.heap.size w w' := by
  have t1 : ¬ left - (n : Int) < 0 := by omega
  go_enter Try.func38, Try.ntmps38
  go_wp2
  go_ret
  exact ⟨rfl, Below.refl _ _⟩
theorem szAndS_big (A : Option Addr) (n c : Nat) (left : Int) (w : World) (h0 : left < (n : Int)) (h1 : 0 ≤ left) (h2 : left ≤ 1048576) (hn : n ≤ maxLen) :
    Calls Try.prog 38 #[.slice A n c, .int .i64 left] w fun e w' => e = .returned (.int .i64 (-1)) ∧ Below w.heap.size w w' := by
  unfold maxLen at hn
  have t1 : left - (n : Int) < 0 := by omega
  go_enter Try.func38, Try.ntmps38
  go_wp2
  go_ret
  exact ⟨rfl, Below.refl _ _⟩
end Go.Proofs.Ytiejilmgchmppaa
/- DpNet: The type Net as the exact laws' helpers see it. -/
namespace Go.Proofs.Ytiejilmgchmppaa
open Go.RowKit
set_option linter.unusedVariables false
set_option linter.unusedSimpArgs false

abbrev DNet : Type := Int × (List DSeq) × (List DAnd) × (List DInt)
abbrev rdNet : Rd DNet := rd4 rdInt rdSeqS rdAndS rdIntS
theorem good_Net : Rd.Good rdNet := rd4_good rdInt_good good_SeqS good_AndS good_IntS
abbrev rdNetS : Rd (List DNet) := rdS 4 rdNet
theorem good_NetS : Rd.Good rdNetS := rdS_good 4 good_Net

set_option maxHeartbeats 1600000 in
theorem eqNet_any (x : DNet) (us us' : List Value) {B T B' T' : Nat} (w : World) (h : rdNet B T w us x) (h' : rdNet B' T' w us' x) (hT : T ≤ w.heap.size) (hT' : T' ≤ w.heap.size) :
    Calls Try.prog 17 #[.agg us.toArray, .agg us'.toArray] w fun e w' => e = .returned (.bool true) ∧ Below w.heap.size w w' := by
  obtain ⟨u0, u1, u2, u3, rfl, uh0, uh1, uh2, uh3⟩ := h
  obtain ⟨ue0, uf0⟩ := uh0
  injection ue0 with ue0
  subst ue0
  obtain ⟨v0, v1, v2, v3, rfl, vh0, vh1, vh2, vh3⟩ := h'
  obtain ⟨ve0, vf0⟩ := vh0
  injection ve0 with ve0
  subst ve0
  go_enter Try.func17, Try.ntmps17
  go_wp2_with fail
  refine (eqSeqS_any _ _ _ _ (good_SeqS.below uh1 hT (by (repeat' (first | assumption | exact Below.refl _ _ | refine bDrewN ?_ _ | refine Below.drew ?_ | refine bAlloc ?_ (Nat.le_refl _) _ | refine bSet ?_ (by first | exact Nat.le_refl _ | omega | (simp <;> omega)) _)))) (good_SeqS.below vh1 hT' (by (repeat' (first | assumption | exact Below.refl _ _ | refine bDrewN ?_ _ | refine Below.drew ?_ | refine bAlloc ?_ (Nat.le_refl _) _ | refine bSet ?_ (by first | exact Nat.le_refl _ | omega | (simp <;> omega)) _)))) (Nat.le_trans hT (by simp <;> omega)) (Nat.le_trans hT' (by simp <;> omega))).mono ?_
  rintro e w1 ⟨rfl, hb⟩
  have g := box2 hb
  have uc0 : w1.cell? ⟨w.heap.size, 0, none⟩ = some (.int .i64 x.1) := box_cell g.1 0 _ rfl
  have uc1 : w1.cell? ⟨w.heap.size, 1, none⟩ = some (u1) := box_cell g.1 1 _ rfl
  have uc2 : w1.cell? ⟨w.heap.size, 2, none⟩ = some (u2) := box_cell g.1 2 _ rfl
  have uc3 : w1.cell? ⟨w.heap.size, 3, none⟩ = some (u3) := box_cell g.1 3 _ rfl
  have vc0 : w1.cell? ⟨w.heap.size + 1, 0, none⟩ = some (.int .i64 x.1) := box_cell g.2.1 0 _ rfl
  have vc1 : w1.cell? ⟨w.heap.size + 1, 1, none⟩ = some (v1) := box_cell g.2.1 1 _ rfl
  have vc2 : w1.cell? ⟨w.heap.size + 1, 2, none⟩ = some (v2) := box_cell g.2.1 2 _ rfl
  have vc3 : w1.cell? ⟨w.heap.size + 1, 3, none⟩ = some (v3) := box_cell g.2.1 3 _ rfl
  have hW : Below w.heap.size w w1 := g.2.2
  clear hb g
  go_wp2_with fail
  refine (eqAndS_any _ _ _ _ (good_AndS.below uh2 hT hW) (good_AndS.below vh2 hT' hW) (Nat.le_trans hT hW.size) (Nat.le_trans hT' hW.size)).mono ?_
  rintro e w2 ⟨rfl, hb⟩
  replace uc0 := keep hb uc0
  replace uc1 := keep hb uc1
  replace uc2 := keep hb uc2
  replace uc3 := keep hb uc3
  replace vc0 := keep hb vc0
  replace vc1 := keep hb vc1
  replace vc2 := keep hb vc2
  replace vc3 := keep hb vc3
  replace hW := bThen hW hb
  clear hb
  go_wp2_with fail
  refine (eqIntS_any _ _ _ _ (good_IntS.below uh3 hT hW) (good_IntS.below vh3 hT' hW) (Nat.le_trans hT hW.size) (Nat.le_trans hT' hW.size)).mono ?_
  rintro e w3 ⟨rfl, hb⟩
  replace uc0 := keep hb uc0
  replace uc1 := keep hb uc1
  replace uc2 := keep hb uc2
  replace uc3 := keep hb uc3
  replace vc0 := keep hb vc0
  replace vc1 := keep hb vc1
  replace vc2 := keep hb vc2
  replace vc3 := keep hb vc3
  replace hW := bThen hW hb
  clear hb
  go_wp2
  go_ret
  exact ⟨rfl, hW⟩
end Go.Proofs.Ytiejilmgchmppaa
