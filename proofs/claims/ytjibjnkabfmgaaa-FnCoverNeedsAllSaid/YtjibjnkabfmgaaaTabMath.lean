/-
  Numbers made bit by bit; the table of an input; the cofactors.
-/
import Derived.Test.YtjibjnkabfmgaaaBits64
namespace Go.Proofs.Ytjibjnkabfmgaaa

/-- The number of m bits whose bit i is f i. -/
def mkB (f : Nat → Bool) : Nat → Nat
  | 0 => 0
  | m + 1 => mkB f m + (f m).toNat * 2 ^ m
theorem mkB_lt (f : Nat → Bool) : ∀ m, mkB f m < 2 ^ m
  | 0 => by simp [mkB]
  | m + 1 => by
    have := mkB_lt f m
    have h1 : (f m).toNat ≤ 1 := by cases f m <;> simp
    have h2 : (f m).toNat * 2 ^ m ≤ 1 * 2 ^ m := Nat.mul_le_mul_right _ h1
    simp only [mkB, Nat.pow_succ]
    omega
theorem testBit_mkB (f : Nat → Bool) : ∀ m i, (mkB f m).testBit i = (decide (i < m) && f i)
  | 0, i => by simp [mkB]
  | m + 1, i => by
    have hl := mkB_lt f m
    have ih := testBit_mkB f m i
    simp only [mkB]
    rw [Nat.add_comm, Nat.mul_comm, Nat.testBit_two_pow_mul_add _ hl]
    by_cases h : i < m
    · rw [if_pos h, ih, decide_eq_true h, decide_eq_true (by omega : i < m + 1)]
    · rw [if_neg h]
      by_cases h2 : i = m
      · subst h2; cases f i <;> simp
      · rw [decide_eq_false (by omega : ¬ i < m + 1)]
        have : i - m ≠ 0 := by omega
        cases f m
        · simp
        · simp only [Bool.toNat_true]; rw [Nat.testBit_lt_two_pow (Nat.one_lt_two_pow this)]; simp
theorem eq_mkB (f : Nat → Bool) (m x : Nat) (hx : x < 2 ^ m) (h : ∀ i, i < m → x.testBit i = f i) : x = mkB f m := by
  apply Nat.eq_of_testBit_eq
  intro i
  rw [testBit_mkB]
  by_cases hi : i < m
  · rw [h i hi, decide_eq_true hi]; simp
  · rw [decide_eq_false hi, Nat.testBit_lt_two_pow (Nat.lt_of_lt_of_le hx (Nat.pow_le_pow_right (by omega) (by omega)))]; simp
theorem mkB_le (f : Nat → Bool) (m : Nat) (h : m ≤ 16) : mkB f m ≤ 65535 := by
  have := mkB_lt f m
  have h2 : 2 ^ m ≤ 2 ^ 16 := Nat.pow_le_pow_right (by omega) h
  omega
theorem mkB_congr {f g : Nat → Bool} : ∀ m, (∀ i, i < m → f i = g i) → mkB f m = mkB g m
  | 0, _ => rfl
  | m + 1, h => by simp only [mkB]; rw [mkB_congr m (fun i hi => h i (by omega)), h m (by omega)]

/-- The bits of input k among n inputs. -/
def varN (N K : Nat) : Nat := mkB (fun i => i.testBit K) (2 ^ N)
/-- The index with bit k set to v. -/
def setK (K : Nat) (v : Bool) (i : Nat) : Nat := andNot i (2 ^ K) + (if v then 2 ^ K else 0)
/-- The cofactor's bits. -/
def cofN (N B K : Nat) (v : Bool) : Nat := mkB (fun i => B.testBit (setK K v i)) (2 ^ N)
/-- The four words of the program's table. -/
def tabW (K : Nat) : Nat := if K = 0 then 43690 else if K = 1 then 52428 else if K = 2 then 61680 else 65280

theorem four {K N : Nat} (h : K < N) (hN : N ≤ 4) : (N = 1 ∧ K = 0) ∨ (N = 2 ∧ K = 0) ∨ (N = 2 ∧ K = 1) ∨ (N = 3 ∧ K = 0) ∨ (N = 3 ∧ K = 1) ∨ (N = 3 ∧ K = 2) ∨ (N = 4 ∧ K = 0) ∨ (N = 4 ∧ K = 1) ∨ (N = 4 ∧ K = 2) ∨ (N = 4 ∧ K = 3) := by omega
theorem tab_and (N K : Nat) (h : K < N) (hN : N ≤ 4) : tabW K &&& (2 ^ 2 ^ N - 1) = varN N K := by
  rcases four h hN with ⟨rfl, rfl⟩ | ⟨rfl, rfl⟩ | ⟨rfl, rfl⟩ | ⟨rfl, rfl⟩ | ⟨rfl, rfl⟩ | ⟨rfl, rfl⟩ | ⟨rfl, rfl⟩ | ⟨rfl, rfl⟩ | ⟨rfl, rfl⟩ | ⟨rfl, rfl⟩ <;> decide +kernel
theorem setK_true (K i : Nat) (hK : K < 4) (hi : i < 16) : setK K true i = if i.testBit K then i else i + 2 ^ K := by
  have : ∀ K, K < 4 → ∀ i, i < 16 → setK K true i = if i.testBit K then i else i + 2 ^ K := by decide +kernel
  exact this K hK i hi
theorem setK_false (K i : Nat) (hK : K < 4) (hi : i < 16) : setK K false i = if i.testBit K then i - 2 ^ K else i := by
  have : ∀ K, K < 4 → ∀ i, i < 16 → setK K false i = if i.testBit K then i - 2 ^ K else i := by decide +kernel
  exact this K hK i hi
theorem bit_up (K N i : Nat) (hN : N ≤ 4) (hK : K < N) (hi : i < 2 ^ N) : (i.testBit K = false → (i + 2 ^ K).testBit K = true ∧ i + 2 ^ K < 2 ^ N) ∧ (i.testBit K = true → 2 ^ K ≤ i ∧ (i - 2 ^ K).testBit K = false ∧ (i + 2 ^ K).testBit K = false) := by
  have h1 : ∀ N, N < 5 → ∀ K, K < N → ∀ i, i < 2 ^ N → i.testBit K = false → (i + 2 ^ K).testBit K = true := by decide +kernel
  have h2 : ∀ N, N < 5 → ∀ K, K < N → ∀ i, i < 2 ^ N → i.testBit K = false → i + 2 ^ K < 2 ^ N := by decide +kernel
  have h3 : ∀ N, N < 5 → ∀ K, K < N → ∀ i, i < 2 ^ N → i.testBit K = true → 2 ^ K ≤ i := by decide +kernel
  have h4 : ∀ N, N < 5 → ∀ K, K < N → ∀ i, i < 2 ^ N → i.testBit K = true → (i - 2 ^ K).testBit K = false := by decide +kernel
  have h5 : ∀ N, N < 5 → ∀ K, K < N → ∀ i, i < 2 ^ N → i.testBit K = true → (i + 2 ^ K).testBit K = false := by decide +kernel
  exact ⟨fun h => ⟨h1 N (by omega) K hK i hi h, h2 N (by omega) K hK i hi h⟩, fun h => ⟨h3 N (by omega) K hK i hi h, h4 N (by omega) K hK i hi h, h5 N (by omega) K hK i hi h⟩⟩
theorem low_up (K N i : Nat) (hN : N ≤ 4) (hK : K < N) (hi : i < 2 ^ N) (h : i.testBit K = false) (hk : 2 ^ K ≤ i) : (i - 2 ^ K).testBit K = true := by
  have : ∀ N, N < 5 → ∀ K, K < N → ∀ i, i < 2 ^ N → i.testBit K = false → 2 ^ K ≤ i → (i - 2 ^ K).testBit K = true := by decide +kernel
  exact this N (by omega) K hK i hi h hk
theorem pow16 (N : Nat) (h : N ≤ 4) : 2 ^ N ≤ 16 := by
  have : 2 ^ N ≤ 2 ^ 4 := Nat.pow_le_pow_right (by omega) h
  omega
theorem testBit_varN (N K i : Nat) : (varN N K).testBit i = (decide (i < 2 ^ N) && i.testBit K) := testBit_mkB _ _ _
theorem varN_lt (N K : Nat) : varN N K < 2 ^ 2 ^ N := mkB_lt _ _
theorem cof_true (N B K : Nat) (hN : N ≤ 4) (hK : K < N) (hB : B < 2 ^ 2 ^ N) : (B &&& varN N K) ||| ((B &&& varN N K) >>> (2 ^ K)) = cofN N B K true := by
  refine eq_mkB _ _ _ (Nat.or_lt_two_pow (Nat.lt_of_le_of_lt Nat.and_le_left hB) (Nat.lt_of_le_of_lt (Nat.shiftRight_le _ _) (Nat.lt_of_le_of_lt Nat.and_le_left hB))) ?_
  intro i hi
  have h16 := pow16 N hN
  have hup := bit_up K N i hN hK hi
  rw [Nat.testBit_or, Nat.testBit_shiftRight, Nat.testBit_and, Nat.testBit_and, testBit_varN, testBit_varN, setK_true K i (by omega) (by omega), decide_eq_true hi, Nat.add_comm (2 ^ K) i]
  cases hb : i.testBit K
  · obtain ⟨h1, h2⟩ := hup.1 hb
    rw [h1, decide_eq_true h2]; simp
  · obtain ⟨h1, h2, h3⟩ := hup.2 hb
    rw [h3]; simp
theorem cof_false (N B K : Nat) (hN : N ≤ 4) (hK : K < N) (hB : B < 2 ^ 2 ^ N) : andNot B (varN N K) ||| (andNot B (varN N K)) <<< (2 ^ K) = cofN N B K false := by
  have h16 := pow16 N hN
  have hp : 2 ^ 2 ^ N ≤ 2 ^ 16 := Nat.pow_le_pow_right (by omega) h16
  have hv := varN_lt N K
  have hlt : ∀ i, 2 ^ N ≤ i → (andNot B (varN N K) ||| (andNot B (varN N K)) <<< (2 ^ K)).testBit i = false := by
    intro i hi
    have hBi : B.testBit i = false := Nat.testBit_lt_two_pow (Nat.lt_of_lt_of_le hB (Nat.pow_le_pow_right (by omega) hi))
    rw [Nat.testBit_or, Nat.testBit_shiftLeft, testBit_andNot _ _ _ (by omega) (by omega), testBit_andNot _ _ _ (by omega) (by omega), hBi, testBit_varN]
    by_cases h : i - 2 ^ K < 2 ^ N
    · by_cases h2 : 2 ^ K ≤ i
      · cases hb : (i - 2 ^ K).testBit K
        · have := (bit_up K N (i - 2 ^ K) hN hK h).1 hb
          omega
        · simp [testBit_varN, h, hb]
      · simp [h2]
    · have : B.testBit (i - 2 ^ K) = false := Nat.testBit_lt_two_pow (Nat.lt_of_lt_of_le hB (Nat.pow_le_pow_right (by omega) (by omega)))
      simp [this]
  refine eq_mkB _ _ _ (Nat.lt_pow_two_of_testBit _ hlt) ?_
  intro i hi
  have hup := bit_up K N i hN hK hi
  rw [Nat.testBit_or, Nat.testBit_shiftLeft, testBit_andNot _ _ _ (by omega) (by omega), testBit_andNot _ _ _ (by omega) (by omega), testBit_varN, testBit_varN, setK_false K i (by omega) (by omega), decide_eq_true hi]
  cases hb : i.testBit K
  · by_cases h2 : 2 ^ K ≤ i
    · have h3 := low_up K N i hN hK hi hb h2
      rw [h3, decide_eq_true (Nat.lt_of_le_of_lt (Nat.sub_le _ _) hi : i - 2 ^ K < 2 ^ N)]; simp
    · simp [h2]
  · obtain ⟨h1, h2, h3⟩ := hup.2 hb
    rw [h2]; simp [h1]
end Go.Proofs.Ytjibjnkabfmgaaa
