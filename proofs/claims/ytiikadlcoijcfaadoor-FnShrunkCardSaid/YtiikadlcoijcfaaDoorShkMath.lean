/-
  A shrunk table has the values of the table and depends on all its inputs.
-/
import Derived.Test.YtiikadlcoijcfaaDoorShanMath
import Derived.Test.YtiikadlcoijcfaaDoorTabShr
import Derived.Test.YtiikadlcoijcfaaDoorDrawTab
namespace Go.Proofs.YtiikadlcoijcfaaDoor
open Go.RowKit
set_option linter.unusedVariables false

/-- The bits of i at the first p inputs in L. -/
def gath (i : Nat) (L : List Nat) : Nat → Nat
  | 0 => 0
  | p + 1 => gath i L p + (i.testBit (L.getD p 0)).toNat * 2 ^ p
/-- i, its bit k cleared unless x. -/
def clr (x : Bool) (k i : Nat) : Nat := if x then i else setK k false i
def clr4 (a b c d : Bool) (i : Nat) : Nat := clr a 0 (clr b 1 (clr c 2 (clr d 3 i)))
theorem gath_lt (a b c d : Bool) (i p : Nat) (hi : i < 16) (hp : p < 5) : gath i (fil a b c d) p < 2 ^ p := by
  have : ∀ a b c d : Bool, ∀ p, p < 5 → ∀ i, i < 16 → gath i (fil a b c d) p < 2 ^ p := by decide +kernel
  exact this a b c d p hp i hi
theorem spr_gath (a b c d : Bool) (i : Nat) (hi : i < 16) : spr (gath i (fil a b c d) (fil a b c d).length) (fil a b c d) (fil a b c d).length = clr4 a b c d i := by
  have : ∀ a b c d : Bool, ∀ i, i < 16 → spr (gath i (fil a b c d) (fil a b c d).length) (fil a b c d) (fil a b c d).length = clr4 a b c d i := by decide +kernel
  exact this a b c d i hi
theorem spr_set (a b c d v : Bool) (i k : Nat) (hi : i < 16) (hk : k < (fil a b c d).length) :
    spr (setK k v (gath i (fil a b c d) (fil a b c d).length)) (fil a b c d) (fil a b c d).length = clr4 a b c d (setK ((fil a b c d).getD k 0) v i) := by
  have : ∀ a b c d v : Bool, ∀ k, k < (fil a b c d).length → ∀ i, i < 16 → spr (setK k v (gath i (fil a b c d) (fil a b c d).length)) (fil a b c d) (fil a b c d).length = clr4 a b c d (setK ((fil a b c d).getD k 0) v i) := by decide +kernel
  exact this a b c d v k hk i hi
theorem spr_range (m j : Nat) (hm : m ≤ 4) (hj : j < 2 ^ m) : spr j (List.range m) m = j := by
  have : ∀ m, m < 5 → ∀ j, j < 2 ^ m → spr j (List.range m) m = j := by decide +kernel
  exact this m (by omega) j hj
theorem setK_high (N k i : Nat) (hk : k < 4) (hN : N ≤ k) (hi : i < 2 ^ N) : setK k false i = i := by
  have : ∀ k, k < 4 → ∀ N, N < k + 1 → ∀ i, i < 2 ^ N → setK k false i = i := by decide +kernel
  exact this k hk N (by omega) i hi
theorem indep (N B k : Nat) (hN : N ≤ 4) (hok : okB N B = true) (hk : k < N) (hd : depB N B k = false) (i : Nat) (hi : i < 2 ^ N) (v : Bool) : B.testBit (setK k v i) = B.testBit i := by
  unfold depB at hd
  rw [hok, decide_eq_true (by omega : (0 : Int) ≤ (k : Int) ∧ (k : Int) < (N : Int))] at hd
  simp only [Int.toNat_natCast, Bool.true_and, bne_eq_false_iff_eq] at hd
  have e : B.testBit (setK k false i) = B.testBit (setK k true i) := by
    rw [← testBit_cof N B k i false hi, ← testBit_cof N B k i true hi, hd]
  have h := setK_id N k i hN hk hi
  cases hb : i.testBit k
  · rw [hb] at h; rw [h] at e; cases v
    · rw [h]
    · exact e.symm
  · rw [hb] at h; rw [h] at e; cases v
    · exact e
    · rw [h]
theorem clr_keep (N B k i : Nat) (hN : N ≤ 4) (hok : okB N B = true) (hk : k < 4) (hi : i < 2 ^ N) : clr (depB N B k) k i < 2 ^ N ∧ B.testBit (clr (depB N B k) k i) = B.testBit i := by
  unfold clr
  cases hd : depB N B k
  · simp only [Bool.false_eq_true, if_false]
    by_cases h : k < N
    · exact ⟨setK_lt N k i false hN h hi, indep N B k hN hok h hd i hi false⟩
    · rw [setK_high N k i hk (by omega) hi]; exact ⟨hi, rfl⟩
  · simp [hi]
theorem clr4_keep (N B i : Nat) (hN : N ≤ 4) (hok : okB N B = true) (hi : i < 2 ^ N) : B.testBit (clr4 (depB N B 0) (depB N B 1) (depB N B 2) (depB N B 3) i) = B.testBit i := by
  unfold clr4
  have h3 := clr_keep N B 3 i hN hok (by omega) hi
  have h2 := clr_keep N B 2 _ hN hok (by omega) h3.1
  have h1 := clr_keep N B 1 _ hN hok (by omega) h2.1
  have h0 := clr_keep N B 0 _ hN hok (by omega) h1.1
  exact h0.2.trans (h1.2.trans (h2.2.trans h3.2))
theorem shr_bit (N B j : Nat) (hj : j < 2 ^ (supN N B).length) : (shrB B (supN N B)).testBit j = B.testBit (spr j (supN N B) (supN N B).length) := by
  unfold shrB; rw [testBit_mkB, decide_eq_true hj]; simp
theorem shr_value (N B i : Nat) (hN : N ≤ 4) (hok : okB N B = true) (hi : i < 2 ^ N) : gath i (supN N B) (supN N B).length < 2 ^ (supN N B).length ∧ (shrB B (supN N B)).testBit (gath i (supN N B) (supN N B).length) = B.testBit i := by
  have h16 := pow16 N hN
  have hg : gath i (supN N B) (supN N B).length < 2 ^ (supN N B).length := by
    rw [supN_fil]; exact gath_lt _ _ _ _ i _ (by omega) (by have := fil_len (depB N B 0) (depB N B 1) (depB N B 2) (depB N B 3); omega)
  refine ⟨hg, ?_⟩
  rw [shr_bit N B _ hg, supN_fil, spr_gath _ _ _ _ i (by omega)]
  exact clr4_keep N B i hN hok hi
theorem sup_mem (N : Nat) (b : Int) (k : Nat) (hk : k < (supN N b).length) : (supN N b).getD k 0 < N ∧ depB N b ((supN N b).getD k 0 : Nat) = true := by
  have hm : (supN N b).getD k 0 ∈ supN N b := by
    rw [List.getD_eq_getElem?_getD, List.getElem?_eq_getElem hk]; exact List.getElem_mem hk
  have h := (List.mem_filter.1 hm).2
  refine ⟨?_, h⟩
  rcases Nat.lt_or_ge ((supN N b).getD k 0) N with hlt | hge
  · exact hlt
  · have := dep_no (n := N) (b := b) (k := ((supN N b).getD k 0 : Nat)) (by omega)
    rw [this] at h; cases h
theorem shr_ok (N B : Nat) (hN : N ≤ 4) : (supN N B).length ≤ 4 ∧ shrB B (supN N B) ≤ maskN (supN N B).length ∧ shrB B (supN N B) < 2 ^ 2 ^ (supN N B).length := by
  have h4 : (supN N B).length ≤ 4 := by rw [supN_fil]; exact fil_len _ _ _ _
  have hlt : shrB B (supN N B) < 2 ^ 2 ^ (supN N B).length := mkB_lt _ _
  refine ⟨h4, ?_, hlt⟩
  unfold maskN
  rw [Int.toNat_natCast]
  omega
theorem shr_dep (N B k : Nat) (hN : N ≤ 4) (hok : okB N B = true) (hk : k < (supN N B).length) : depB (supN N B).length (shrB B (supN N B) : Nat) k = true := by
  obtain ⟨h4, hm, hlt⟩ := shr_ok N B hN
  have h16 := pow16 N hN
  obtain ⟨hkN, hdk⟩ := sup_mem N B k hk
  unfold depB
  rw [ok_of _ _ h4 hm, decide_eq_true (by omega : (0 : Int) ≤ (k : Int) ∧ (k : Int) < ((supN N B).length : Nat))]
  simp only [Int.toNat_natCast, Bool.true_and, bne_iff_ne, ne_eq]
  intro he
  have key : cofN N B ((supN N B).getD k 0) false = cofN N B ((supN N B).getD k 0) true := by
    unfold cofN
    refine mkB_congr _ fun i hi => ?_
    obtain ⟨hg, _⟩ := shr_value N B i hN hok hi
    have e1 := testBit_cof (supN N B).length (shrB B (supN N B)) k _ false hg
    have e2 := testBit_cof (supN N B).length (shrB B (supN N B)) k _ true hg
    rw [he] at e1
    have e3 := e1.symm.trans e2
    rw [shr_bit N B _ (setK_lt _ k _ false h4 hk hg), shr_bit N B _ (setK_lt _ k _ true h4 hk hg)] at e3
    have s1 : ∀ v, spr (setK k v (gath i (supN N B) (supN N B).length)) (supN N B) (supN N B).length = clr4 (depB N B 0) (depB N B 1) (depB N B 2) (depB N B 3) (setK ((supN N B).getD k 0) v i) := by
      intro v
      have hk' := hk
      rw [supN_fil] at hk' ⊢
      exact spr_set _ _ _ _ v i k (by omega) hk'
    rw [s1 false, s1 true, clr4_keep N B _ hN hok (setK_lt N _ i false hN hkN hi), clr4_keep N B _ hN hok (setK_lt N _ i true hN hkN hi)] at e3
    exact e3
  unfold depB at hdk
  rw [hok] at hdk
  simp only [Int.toNat_natCast, key, bne_self_eq_false, Bool.and_false] at hdk
  cases hdk
theorem sup_range (m : Nat) (b : Int) (hm : m ≤ 4) (h : ∀ k : Nat, k < m → depB m b k = true) : supN m b = List.range m := by
  have e : ∀ k : Nat, depB m b k = decide (k < m) := by
    intro k
    by_cases hk : k < m
    · rw [h k hk, decide_eq_true hk]
    · rw [dep_no (by omega), decide_eq_false hk]
  have e0 := e 0
  have e1 := e 1
  have e2 := e 2
  have e3 := e 3
  rw [supN_fil]
  rw [show depB m b 0 = decide (0 < m) from e0, show depB m b 1 = decide (1 < m) from e1, show depB m b 2 = decide (2 < m) from e2, show depB m b 3 = decide (3 < m) from e3]
  rcases (by omega : m = 0 ∨ m = 1 ∨ m = 2 ∨ m = 3 ∨ m = 4) with rfl | rfl | rfl | rfl | rfl <;> decide
theorem shr_again (N B : Nat) (hN : N ≤ 4) (hok : okB N B = true) : supN (supN N B).length (shrB B (supN N B) : Nat) = List.range (supN N B).length ∧ shrB (shrB B (supN N B)) (List.range (supN N B).length) = shrB B (supN N B) := by
  obtain ⟨h4, hm, hlt⟩ := shr_ok N B hN
  refine ⟨sup_range _ _ h4 fun k hk => shr_dep N B k hN hok hk, ?_⟩
  generalize hs : shrB B (supN N B) = sb at hlt
  unfold shrB
  rw [List.length_range]
  exact (eq_mkB _ _ sb hlt fun j hj => by rw [spr_range _ j h4 hj]).symm
end Go.Proofs.YtiikadlcoijcfaaDoor
