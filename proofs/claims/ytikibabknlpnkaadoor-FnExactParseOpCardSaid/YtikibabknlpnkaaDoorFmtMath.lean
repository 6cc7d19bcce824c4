/-
  Plain facts on decimal digits.
-/
import Derived.Test.YtikibabknlpnkaaDoorHexMath
import Derived.Lib.ItoaNum
import Derived.Lib.ItoaLen
namespace Go.Proofs.YtikibabknlpnkaaDoor
open Go.RowKit

/-- The decimal digits of u; none for 0. -/
def dgs (u : Nat) : List UInt8 := if u = 0 then [] else Lib.decDigits u
theorem dgs_zero : dgs 0 = [] := rfl
theorem dgs_step (u : Nat) (h : u ≠ 0) : dgs u = dgs (u / 10) ++ [digB (u % 10)] := by
  have e : digB (u % 10) = UInt8.ofNat (48 + u % 10) := by unfold digB; rw [if_pos (by omega)]
  unfold dgs
  rw [if_neg h, e]
  by_cases h10 : u < 10
  · rw [if_pos (by omega), Lib.decDigits_one h10, Nat.mod_eq_of_lt h10]; rfl
  · rw [if_neg (by omega), Lib.decDigits, dif_neg h10]
theorem itoa_dgs_pos (n : Int) (h : 0 < n) : Lib.itoa n = dgs n.natAbs := by
  unfold Lib.itoa dgs
  rw [if_neg (by omega), if_neg (by omega), show n.toNat = n.natAbs from by omega]
theorem itoa_dgs_neg (n : Int) (h : n < 0) : Lib.itoa n = 45 :: dgs n.natAbs := by
  unfold Lib.itoa dgs
  rw [if_pos h, if_neg (by omega)]
theorem itoa_zero : Lib.itoa 0 = [48] := by
  unfold Lib.itoa
  rw [if_neg (by omega), show (0 : Int).toNat = 0 from rfl, Lib.decDigits_one (by omega)]
  rfl
/-- One digit less in the number, one more in the text. -/
theorem dgs_round {u m : Nat} {s : List UInt8} (h : dgs u = dgs m ++ s) (hm : m ≠ 0) : dgs u = dgs (m / 10) ++ (digB (m % 10) :: s) := by
  rw [h, dgs_step m hm, List.append_assoc]; rfl
theorem dgs_len (n : Int) (h0 : -9223372036854775808 ≤ n) (h1 : n ≤ 9223372036854775807) : (dgs n.natAbs).length ≤ 21 := by
  rcases (show n < 0 ∨ n = 0 ∨ 0 < n from by omega) with h | h | h
  · have := Lib.itoa_length_le n h0 h1; rw [itoa_dgs_neg n h] at this; simp at this; omega
  · subst h; simp [dgs]
  · have := Lib.itoa_length_le n h0 h1; rwa [itoa_dgs_pos n h] at this
theorem tmod_cases (m : Int) : (0 ≤ m → m.tmod 10 = ((m.natAbs % 10 : Nat) : Int) ∧ m.tdiv 10 = ((m.natAbs / 10 : Nat) : Int)) ∧ (m < 0 → m.tmod 10 = -((m.natAbs % 10 : Nat) : Int) ∧ m.tdiv 10 = -((m.natAbs / 10 : Nat) : Int)) := by
  refine ⟨fun h => ?_, fun h => ?_⟩
  · rw [Int.tmod_eq_emod_of_nonneg h, Int.tdiv_eq_ediv_of_nonneg h]; omega
  · have e : m = -((m.natAbs : Nat) : Int) := by omega
    generalize m.natAbs = p at e
    subst e
    rw [Int.neg_tmod, Int.neg_tdiv, Int.tmod_eq_emod_of_nonneg (by omega), Int.tdiv_eq_ediv_of_nonneg (by omega)]; omega
theorem bytes_eq {s t : ByteArray} (h : s.data.toList = t.data.toList) : s = t := by
  cases s; cases t; simp at h; congr; 
end Go.Proofs.YtikibabknlpnkaaDoor
