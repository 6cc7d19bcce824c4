/-
  The type []int as the exact laws' helpers see it.
-/
import Derived.Test.YtllddjkdjdohhaaReads
import Derived.Lib.QuietBelow
import Derived.Deep.RegionHeld3
namespace Go.Proofs.Ytllddjkdjdohhaa
open Go.RowKit
set_option linter.unusedVariables false
set_option linter.unusedSimpArgs false
abbrev DInt : Type := Int
abbrev rdIntS : Rd (List Int) := rdS 1 rdInt
theorem good_IntS : Rd.Good rdIntS := rdS_good 1 rdInt_good

set_option maxHeartbeats 1600000 in
theorem eqIntS_any (L : List Int) (a b : Value) {B T B' T' : Nat} (w : World) (h : rdIntS B T w [a] L) (h' : rdIntS B' T' w [b] L) (hT : T ≤ w.heap.size) (hT' : T' ≤ w.heap.size) :
    Calls Try.prog 32 #[a, b] w fun e w' => e = .returned (.bool true) ∧ Below w.heap.size w w' := by
  obtain ⟨A, c, ea, hm, hA⟩ := h
  obtain ⟨A', c', eb, _, hA'⟩ := h'
  injection ea with ea
  injection eb with eb
  subst ea eb
  unfold maxLen at hm
  have HA := Lib.hid hA
  have HA' := Lib.hid hA'
  clear hA hA'
  go_enter Try.func32, Try.ntmps32
  go_wp2
  go_loopw [5] (fun i wr => ∃ k : Nat, k ≤ L.length ∧ i = .int .i64 k ∧ Below w.heap.size w wr) (fun i _ => L.length - (intOf i).toNat)
  case atStart => exact ⟨0, Nat.zero_le _, rfl, Below.refl _ _⟩
  case round =>
    obtain ⟨k, hk, rfl, hbel⟩ := hrel
    by_cases hlt : k < L.length
    · obtain ⟨p, o, rfl, _, hp, us, hl, hc, hr⟩ := HA.out k hlt
      obtain ⟨p', o', rfl, _, hp', us', hl', hc', hr'⟩ := HA'.out k hlt
      have HR := Lib.hid (And.intro hr hr')
      clear HA HA'
      obtain ⟨e0, _⟩ := hr
      obtain ⟨e1, _⟩ := hr'
      subst e0 e1
      have c0 := keep hbel (hc 0 _ rfl)
      have d0 := keep hbel (hc' 0 _ rfl)
      rw [Nat.add_zero, Nat.mul_one] at c0 d0
      have HB := Lib.hid hbel
      generalize L[k] = x at c0 d0
      clear hbel hc hc' HR hl hl'
      go_wp2
      (try go_quiet (fail))
      (try go_wp2)
      go_roundw
      case rel => exact ⟨k + 1, by omega, by go_num, by have hB := HB.out; (repeat' (first | assumption | exact Below.refl _ _ | refine bDrewN ?_ _ | refine Below.drew ?_ | refine bAlloc ?_ (Nat.le_refl _) _ | refine bSet ?_ (by first | exact Nat.le_refl _ | omega | (simp <;> omega)) _))⟩
      case measure => simp [intOf]; omega
    · have HB := Lib.hid hbel
      clear hbel
      go_wp2
      go_ret
      exact ⟨rfl, HB.out⟩

theorem szIntS_any (A : Option Addr) (n c : Nat) (left : Int) (w : World) (h0 : (n : Int) ≤ left) (h1 : left ≤ 1048576) :
    Calls Try.prog 113 #[.slice A n c, .int .i64 left] w fun e w' => e = .returned (.int .i64 (left - n)) ∧ Below w.heap.size w w' := by
  have t1 : ¬ left - (n : Int) < 0 := by omega
  go_enter Try.func113, Try.ntmps113
  go_wp2
  go_ret
  exact ⟨rfl, Below.refl _ _⟩
theorem szIntS_big (A : Option Addr) (n c : Nat) (left : Int) (w : World) (h0 : left < (n : Int)) (h1 : 0 ≤ left) (h2 : left ≤ 1048576) (hn : n ≤ maxLen) :
    Calls Try.prog 113 #[.slice A n c, .int .i64 left] w fun e w' => e = .returned (.int .i64 (-1)) ∧ Below w.heap.size w w' := by
  unfold maxLen at hn
  have t1 : left - (n : Int) < 0 := by omega
  go_enter Try.func113, Try.ntmps113
  go_wp2
  go_ret
  exact ⟨rfl, Below.refl _ _⟩
end Go.Proofs.Ytllddjkdjdohhaa
