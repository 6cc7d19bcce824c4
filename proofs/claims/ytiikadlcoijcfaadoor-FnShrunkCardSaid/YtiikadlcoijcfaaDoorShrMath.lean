/-
  The index that assigns the bits of an index to some inputs.
-/
import Derived.Test.YtiikadlcoijcfaaDoorTabSup
namespace Go.Proofs.YtiikadlcoijcfaaDoor
open Go.RowKit
set_option linter.unusedVariables false

/-- The inputs among four, by four answers. -/
def fil (a b c d : Bool) : List Nat := (if a then [0] else []) ++ (if b then [1] else []) ++ (if c then [2] else []) ++ (if d then [3] else [])
/-- The first p bits of i, laid at the inputs in L. -/
def spr (i : Nat) (L : List Nat) : Nat → Nat
  | 0 => 0
  | p + 1 => spr i L p + (i.testBit p).toNat * 2 ^ L.getD p 0
/-- The inputs on which the table depends, as counting numbers. -/
def supN (n b : Int) : List Nat := (List.range 4).filter fun k : Nat => depB n b k
theorem supI_supN (n b : Int) : supI n b 4 = (supN n b).map fun k : Nat => (k : Int) := rfl
theorem supN_fil (n b : Int) : supN n b = fil (depB n b 0) (depB n b 1) (depB n b 2) (depB n b 3) := by
  unfold supN fil
  simp only [show List.range 4 = [0, 1, 2, 3] from rfl, List.filter_cons, List.filter_nil]
  norm_cast
  cases depB n b 0 <;> cases depB n b 1 <;> cases depB n b 2 <;> cases depB n b 3 <;> rfl
theorem fil_len (a b c d : Bool) : (fil a b c d).length ≤ 4 := by
  cases a <;> cases b <;> cases c <;> cases d <;> decide
theorem fil_at (a b c d : Bool) (p : Nat) (h : p < 4) : (fil a b c d).getD p 0 ≤ 3 := by
  have : ∀ a b c d : Bool, ∀ p, p < 4 → (fil a b c d).getD p 0 ≤ 3 := by decide +kernel
  exact this a b c d p h
theorem spr_or (a b c d : Bool) (i p : Nat) (hi : i < 16) (hp : p < (fil a b c d).length) :
    spr i (fil a b c d) p ||| ((i.testBit p).toNat * 2 ^ (fil a b c d).getD p 0) = spr i (fil a b c d) (p + 1) := by
  have : ∀ a b c d : Bool, ∀ p, p < (fil a b c d).length → ∀ i, i < 16 → spr i (fil a b c d) p ||| ((i.testBit p).toNat * 2 ^ (fil a b c d).getD p 0) = spr i (fil a b c d) (p + 1) := by decide +kernel
  exact this a b c d p hp i hi
theorem spr_le (a b c d : Bool) (i p : Nat) (hi : i < 16) (hp : p ≤ 4) : spr i (fil a b c d) p ≤ 40 := by
  have : ∀ a b c d : Bool, ∀ p, p < 5 → ∀ i, i < 16 → spr i (fil a b c d) p ≤ 40 := by decide +kernel
  exact this a b c d p (by omega) i hi
theorem spr_lt (a b c d : Bool) (N i : Nat) (hN : N ≤ 4) (hi : i < 16) (h1 : N ≤ 0 → a = false) (h2 : N ≤ 1 → b = false) (h3 : N ≤ 2 → c = false) (h4 : N ≤ 3 → d = false) :
    spr i (fil a b c d) (fil a b c d).length < 2 ^ N := by
  have : ∀ a b c d : Bool, ∀ N, N < 5 → ((decide (0 < N) || !a) && (decide (1 < N) || !b) && (decide (2 < N) || !c) && (decide (3 < N) || !d)) = true → ∀ i, i < 16 → spr i (fil a b c d) (fil a b c d).length < 2 ^ N := by decide +kernel
  refine this a b c d N (by omega) ?_ i hi
  have q : ∀ (k : Nat) (x : Bool), (N ≤ k → x = false) → (decide (k < N) || !x) = true := fun k x h => by
    by_cases hk : k < N
    · simp [hk]
    · rw [h (by omega)]; simp
  rw [q 0 a h1, q 1 b h2, q 2 c h3, q 3 d h4]; rfl
/-- The facts on the support's list that the walks want. -/
structure Inp (N : Nat) (L : List Nat) : Prop where
  len : L.length ≤ 4
  at3 : ∀ p, p < 4 → L.getD p 0 ≤ 3
  or : ∀ i p, i < 16 → p < L.length → spr i L p ||| ((i.testBit p).toNat * 2 ^ L.getD p 0) = spr i L (p + 1)
  le : ∀ i p, i < 16 → p ≤ 4 → spr i L p ≤ 40
  lt : ∀ i, i < 16 → spr i L L.length < 2 ^ N
theorem inp_sup (N : Nat) (b : Int) (hN : N ≤ 4) : Inp N (supN N b) := by
  rw [supN_fil]
  have e : ∀ k : Int, (N : Int) ≤ k → depB N b k = false := fun k hk => dep_no (by omega)
  exact ⟨fil_len _ _ _ _, fil_at _ _ _ _, spr_or _ _ _ _, spr_le _ _ _ _, fun i hi => spr_lt _ _ _ _ N i hN hi (fun h => e 0 (by omega)) (fun h => e 1 (by omega)) (fun h => e 2 (by omega)) (fun h => e 3 (by omega))⟩
/-- The shrunk table's bits. -/
def shrB (B : Nat) (L : List Nat) : Nat := mkB (fun i => B.testBit (spr i L L.length)) (2 ^ L.length)
theorem or_step (f : Nat → Bool) (i : Nat) (h : f i = true) : mkB f i ||| 2 ^ i = mkB f (i + 1) := by
  rw [Nat.or_comm, nat_join i (2 ^ i) (mkB f i) (Nat.mod_self _) (mkB_lt f i)]
  simp [mkB, h, Nat.add_comm]
theorem no_step (f : Nat → Bool) (i : Nat) (h : f i = false) : mkB f (i + 1) = mkB f i := by simp [mkB, h]
end Go.Proofs.YtiikadlcoijcfaaDoor
