/-
  laws.at of drawn bytes.
-/
import Derived.Test.YtiejilmgchmppaaBig
import Derived.Test.YtiejilmgchmppaaBaN
namespace Go.Proofs.Ytiejilmgchmppaa
open Go.RowKit
set_option linter.unusedVariables false
set_option linter.unusedSimpArgs false

/-- at reads one byte, the same one in every later world. -/
theorem at_ex (A : Option Addr) (n cap : Nat) (i : Nat) (w : World) (hc : CodeW w A n) (hi : i ≤ 1000) :
    ∃ x : Nat, x ≤ 255 ∧ ∀ W, Below w.heap.size w W → Calls Try.prog 10 #[.slice A n cap, .int .i64 i] W fun e w' => e = .returned (.int .i64 x) ∧ Below W.heap.size W w' := by
  by_cases h0 : n = 0
  · subst h0
    refine ⟨0, by omega, fun W hW => ?_⟩
    go_enter Try.func10, Try.ntmps10
    go_wp2
    go_ret
    exact ⟨rfl, Below.refl _ _⟩
  · obtain ⟨hm, hx⟩ := hc
    unfold maxLen at hm
    have hlt : (i * 5 + 1) % n < n := Nat.mod_lt _ (by omega)
    obtain ⟨b, o, rfl, hb, z, z0, z1, hz⟩ := hx ((i * 5 + 1) % n) hlt
    obtain ⟨x, rfl⟩ := Int.eq_ofNat_of_zero_le z0
    refine ⟨x, by omega, fun W hW => ?_⟩
    have c0 := keep hW hz
    obtain ⟨j, hj⟩ : ∃ j, (i * 5 + 1) % n = j := ⟨_, rfl⟩
    rw [hj] at c0 hlt
    have er : ((i : Int) * 5 + 1) % (n : Int) = (j : Int) := by rw [← hj, Int.natCast_emod]; rfl
    have e0 : 0 ≤ (j : Int) := by omega
    have e1 : (j : Int) < (n : Int) := by omega
    clear hx hz
    go_enter Try.func10, Try.ntmps10
    go_wp2
    go_ret
    exact ⟨rfl, Below.refl _ _⟩
end Go.Proofs.Ytiejilmgchmppaa
