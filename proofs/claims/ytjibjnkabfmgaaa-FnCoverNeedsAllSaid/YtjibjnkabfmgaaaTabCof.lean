/-
  Truth tables: the cofactors.
-/
import Derived.Test.YtjibjnkabfmgaaaTabVar
namespace Go.Proofs.Ytjibjnkabfmgaaa
open Go.RowKit
set_option linter.unusedSimpArgs false
set_option linter.unusedVariables false

/-- The cofactor. -/
def cofT (n b k : Int) (v : Bool) : Value := if okB n b = true ∧ 0 ≤ k ∧ k < n then T n (cofN n.toNat b.toNat k.toNat v) else T 0 0
theorem cofT_no {n b k : Int} {v : Bool} (h : ¬ (okB n b = true ∧ 0 ≤ k ∧ k < n)) : cofT n b k v = .agg #[.int .i64 0, .int .i64 0] := if_neg h
theorem cofT_yes (N B K : Nat) (v : Bool) (h : okB N B = true) (hK : K < N) : cofT N B K v = .agg #[.int .i64 N, .int .i64 (cofN N B K v : Nat)] := by
  unfold cofT
  rw [if_pos ⟨h, by omega, by omega⟩]
  rfl
theorem ok_lt {N B : Nat} (h : B ≤ maskN N) : B < 2 ^ 2 ^ N := by
  have : 0 < 2 ^ 2 ^ N := Nat.pow_pos (by omega)
  unfold maskN at h
  rw [Int.toNat_natCast] at h
  omega
theorem shl_le (N K : Nat) (hN : N ≤ 4) (hK : K < N) : 2 ^ K ≤ 8 := by
  have : 2 ^ K ≤ 2 ^ 3 := Nat.pow_le_pow_right (by omega) (by omega)
  omega
theorem shl_oneK (K : Nat) (hK : K ≤ 4) : wrap64 (2 ^ K) = ((2 ^ K : Nat) : Int) := shl_one K hK
theorem cofT_shape (n b k : Int) (v : Bool) : ∃ x y : Int, cofT n b k v = .agg #[.int .i64 x, .int .i64 y] := by
  unfold cofT T; split
  · exact ⟨_, _, rfl⟩
  · exact ⟨_, _, rfl⟩

theorem bit_and1' (B I : Nat) (hB : B ≤ 65535) (hI : I ≤ 64) : bits .and .i64 ((B : Int) / 2 ^ I) 1 = ((B.testBit I).toNat : Int) := by
  have := shr64 B I hI
  rw [Int.toNat_natCast, Nat.min_eq_left hI] at this
  rw [this, show (1 : Int) = ((1 : Nat) : Int) from rfl, i64_and _ _ (by have := Nat.shiftRight_le B I; omega) (by omega), bit01]


end Go.Proofs.Ytjibjnkabfmgaaa
