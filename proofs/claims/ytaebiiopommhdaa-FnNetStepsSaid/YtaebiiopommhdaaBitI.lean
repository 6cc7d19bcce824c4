/-
  Bits of numbers that may be negative.
-/
import Derived.Test.YtaebiiopommhdaaBits64
namespace Go.Proofs.Ytaebiiopommhdaa
open Go.RowKit
set_option linter.unusedVariables false
set_option linter.unusedSimpArgs false

/-- A number and a mask of W ones. -/
theorem and_low (n : Int) (W M : Nat) (hW : W ≤ 60) (hM : M + 1 = 2 ^ W) : bits .and .i64 n (M : Int) = n % ((2 ^ W : Nat) : Int) := by
  have h60 : 2 ^ W ≤ 2 ^ 60 := Nat.pow_le_pow_right (by omega) hW
  have h1 : 1 ≤ 2 ^ W := Nat.pow_pos (by omega)
  show IntKind.i64.wrap ((BitVec.ofInt 64 n &&& BitVec.ofInt 64 (M : Int)).toNat : Int) = _
  rw [BitVec.toNat_and, ofInt_u64 M (by omega)]
  have eM : M = 2 ^ W - 1 := by omega
  rw [eM, Nat.and_two_pow_sub_one_eq_mod, BitVec.toNat_ofInt]
  have hlt : (n % ((2 ^ 64 : Nat) : Int)).toNat % 2 ^ W < 2 ^ W := Nat.mod_lt _ h1
  rw [wrap64_small _ (by omega)]
  have h0 : 0 ≤ n % ((2 ^ 64 : Nat) : Int) := Int.emod_nonneg _ (by decide)
  rw [Int.natCast_emod, Int.toNat_of_nonneg h0]
  refine Int.emod_emod_of_dvd _ ?_
  rw [Int.natCast_dvd_natCast]
  exact Nat.pow_dvd_pow 2 (by omega)
theorem and_one (n : Int) : bits .and .i64 n 1 = n % 2 := and_low n 1 1 (by omega) (by decide)
theorem and_three (n : Int) : bits .and .i64 n 3 = n % 4 := and_low n 2 3 (by omega) (by decide)
end Go.Proofs.Ytaebiiopommhdaa
