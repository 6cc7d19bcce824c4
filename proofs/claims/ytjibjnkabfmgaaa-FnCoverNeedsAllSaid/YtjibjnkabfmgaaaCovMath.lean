/-
  Covers as numbers: the table of a cover, the prime implicants, what the minimal cover leaves.
-/
import Derived.Test.YtjibjnkabfmgaaaMin
namespace Go.Proofs.Ytjibjnkabfmgaaa
set_option linter.unusedVariables false
set_option linter.unusedSimpArgs false
/-- The cube contains i. -/
def hasN (c : Int × Int) (i : Nat) : Bool := decide (i &&& c.1.toNat = c.2.toNat)
theorem covB_any (L : List (Int × Int)) (i : Nat) : covB L (-1) i = L.any fun c => hasN c i := by
  unfold covB covP
  rw [Bool.eq_iff_iff, List.any_eq_true, List.any_eq_true]
  constructor
  · rintro ⟨k, hk, h⟩
    have hk := List.mem_range.1 hk
    rw [Bool.and_eq_true] at h
    refine ⟨L[k], List.getElem_mem hk, ?_⟩
    have h := h.2
    rw [List.getD_eq_getElem?_getD, List.getElem?_eq_getElem hk] at h
    exact h
  · rintro ⟨c, hc, h⟩
    obtain ⟨k, hk, rfl⟩ := List.getElem_of_mem hc
    refine ⟨k, List.mem_range.2 hk, ?_⟩
    rw [List.getD_eq_getElem?_getD, List.getElem?_eq_getElem hk, Bool.and_eq_true]
    exact ⟨decide_eq_true (by omega), h⟩
theorem covB_erase (L : List (Int × Int)) (k i : Nat) : covB L k i = covB (L.eraseIdx k) (-1) i := by
  rw [covB_any]
  unfold covB covP
  rw [Bool.eq_iff_iff, List.any_eq_true, List.any_eq_true]
  constructor
  · rintro ⟨j, hj, h⟩
    have hj := List.mem_range.1 hj
    rw [Bool.and_eq_true] at h
    obtain ⟨h1, h⟩ := h
    rw [List.getD_eq_getElem?_getD, List.getElem?_eq_getElem hj] at h
    exact ⟨L[j], List.mem_eraseIdx_iff_getElem.2 ⟨j, hj, by have := of_decide_eq_true h1; omega, rfl⟩, h⟩
  · rintro ⟨c, hc, h⟩
    obtain ⟨j, hj, hne, rfl⟩ := List.mem_eraseIdx_iff_getElem.1 hc
    refine ⟨j, List.mem_range.2 hj, ?_⟩
    rw [List.getD_eq_getElem?_getD, List.getElem?_eq_getElem hj, Bool.and_eq_true]
    exact ⟨decide_eq_true (by omega), h⟩
/-- The table of a cover, as a number. -/
def tabN (N : Nat) (L : List (Int × Int)) : Nat := mkB (fun i => covB L (-1) i) (2 ^ N)
theorem minB_tab (N : Nat) (L : List (Int × Int)) (k : Nat) : minB N L k = tabN N (L.eraseIdx k) := mkB_congr _ fun i _ => covB_erase L k i
theorem tabN_le (N : Nat) (L : List (Int × Int)) (hN : N ≤ 4) : tabN N L ≤ 65535 := mkB_le _ _ (pow16 N hN)
theorem testBit_tab (N : Nat) (L : List (Int × Int)) (i : Nat) : (tabN N L).testBit i = (decide (i < 2 ^ N) && L.any fun c => hasN c i) := by
  unfold tabN; rw [testBit_mkB, covB_any]
theorem mkB_or (f g : Nat → Bool) (m : Nat) : mkB f m ||| mkB g m = mkB (fun i => f i || g i) m := by
  refine eq_mkB _ _ _ (Nat.or_lt_two_pow (mkB_lt _ _) (mkB_lt _ _)) fun i hi => ?_
  rw [Nat.testBit_or, testBit_mkB, testBit_mkB, decide_eq_true hi]; simp
/-- The indexes of one cube, as a number. -/
def cubN (N : Nat) (c : Int × Int) : Nat := mkB (hasN c) (2 ^ N)
theorem cubN_le (N : Nat) (c : Int × Int) (hN : N ≤ 4) : cubN N c ≤ 65535 := mkB_le _ _ (pow16 N hN)
theorem tab_snoc (N : Nat) (L : List (Int × Int)) (c : Int × Int) : tabN N (L ++ [c]) = tabN N L ||| cubN N c := by
  unfold tabN cubN; rw [mkB_or]
  refine mkB_congr _ fun i _ => ?_
  rw [covB_any, covB_any]; simp
theorem tab_nil (N : Nat) : tabN N [] = 0 := by
  have := eq_mkB (fun i => covB [] (-1) i) (2 ^ N) 0 (Nat.pow_pos (by omega)) fun i _ => by rw [covB_any]; simp
  exact this.symm
theorem andNot_zero {x b : Nat} (hx : x < 2 ^ 64) (hb : b < 2 ^ 64) : andNot x b = 0 ↔ ∀ i, x.testBit i = true → b.testBit i = true := by
  constructor
  · intro h i hi
    have := testBit_andNot x b i hx hb
    rw [h, hi, Nat.zero_testBit] at this
    cases h2 : b.testBit i
    · rw [h2] at this; cases this
    · rfl
  · intro h
    apply Nat.eq_of_testBit_eq
    intro i
    rw [testBit_andNot x b i hx hb, Nat.zero_testBit]
    cases h2 : x.testBit i
    · rfl
    · rw [h i h2]; rfl
theorem imp_iff (N B X Y : Nat) : impB N B X Y = true ↔ ∀ i, i < 2 ^ N → i &&& X = Y → B.testBit i = true := by
  unfold impB impP
  rw [List.all_eq_true]
  constructor
  · intro h i hi he
    have := h i (List.mem_range.2 hi)
    rw [decide_eq_true he] at this; simpa using this
  · intro h i hi
    by_cases he : i &&& X = Y
    · rw [h i (List.mem_range.1 hi) he]; simp
    · simp [he]
theorem imp_cub (N B X Y : Nat) (hN : N ≤ 4) (hB : B ≤ 65535) : decide (andNot (cubN N ((X : Int), (Y : Int))) B = 0) = impB N B X Y := by
  have hc := cubN_le N ((X : Int), (Y : Int)) hN
  rw [Bool.eq_iff_iff, decide_eq_true_eq, andNot_zero (by omega) (by omega), imp_iff]
  unfold cubN
  constructor
  · intro h i hi he
    refine h i ?_
    rw [testBit_mkB, decide_eq_true hi]; simp [hasN, he]
  · intro h i hi
    rw [testBit_mkB, Bool.and_eq_true, decide_eq_true_eq] at hi
    exact h i hi.1 (by simpa [hasN] using hi.2)
theorem lit_same (X k : Nat) (hX : X < 16) (hk : k < 4) : (andNot X (2 ^ k) = X) = (X.testBit k = false) := by
  have : ∀ X, X < 16 → ∀ k, k < 4 → ((andNot X (2 ^ k) = X) ↔ (X.testBit k = false)) := by decide +kernel
  exact propext (this X hX k hk)
theorem lit_val (X Y k : Nat) (hX : X < 16) (hY : Y < 16) (hk : k < 4) (h : andNot Y X = 0) : (X.testBit k = false → andNot Y (2 ^ k) = Y) ∧ andNot (andNot Y (2 ^ k)) (andNot X (2 ^ k)) = 0 := by
  have h1 : ∀ X, X < 16 → ∀ Y, Y < 16 → ∀ k, k < 4 → andNot Y X = 0 → X.testBit k = false → andNot Y (2 ^ k) = Y := by decide +kernel
  have h2 : ∀ X, X < 16 → ∀ Y, Y < 16 → ∀ k, k < 4 → andNot Y X = 0 → andNot (andNot Y (2 ^ k)) (andNot X (2 ^ k)) = 0 := by decide +kernel
  exact ⟨h1 X hX Y hY k hk h, h2 X hX Y hY k hk h⟩
theorem val_le (X Y : Nat) (hX : X < 16) (hY : Y < 16) (h : andNot Y X = 0) : Y ≤ X := by
  have : ∀ X, X < 16 → ∀ Y, Y < 16 → andNot Y X = 0 → Y ≤ X := by decide +kernel
  exact this X hX Y hY h
theorem prime_val {N B X Y : Nat} (h : primeB N B X Y = true) : andNot Y X = 0 := by
  unfold primeB at h; rw [Bool.and_eq_true, Bool.and_eq_true, decide_eq_true_eq] at h; exact h.1.1
theorem prime_imp {N B X Y : Nat} (h : primeB N B X Y = true) : impB N B X Y = true := by
  unfold primeB at h; rw [Bool.and_eq_true, Bool.and_eq_true] at h; exact h.1.2
theorem prime_lit {N B X Y : Nat} (h : primeB N B X Y = true) (k : Nat) (hk : k < N) (hb : X.testBit k = true) : impB N B (andNot X (2 ^ k)) (andNot Y (2 ^ k)) = false := by
  unfold primeB at h; rw [Bool.and_eq_true] at h
  have := List.all_eq_true.1 h.2 k (List.mem_range.2 hk)
  rw [hb] at this; simpa using this
/-- Values above Care are no primes. -/
theorem priR_all (N B X : Nat) (hN : N ≤ 4) (hX : X < 2 ^ N) : ∀ d, X + 1 + d ≤ 2 ^ N → priR N B X (X + 1 + d) = priR N B X (X + 1)
  | 0, _ => rfl
  | d + 1, h => by
    have h16 := pow16 N hN
    rw [← Nat.add_assoc, priR_no, priR_all N B X hN hX d (by omega)]
    cases hp : primeB N B X (X + 1 + d)
    · rfl
    · have := val_le X (X + 1 + d) (by omega) (by omega) (prime_val hp)
      omega
theorem priA_next (N B X : Nat) (hN : N ≤ 4) (hX : X < 2 ^ N) : priA N B (X + 1) = priA N B X ++ priR N B X (X + 1) := by
  rw [priA_step]
  have := priR_all N B X hN hX (2 ^ N - (X + 1)) (by omega)
  rw [show X + 1 + (2 ^ N - (X + 1)) = 2 ^ N by omega] at this
  rw [this]
/-- How many cubes there are. -/
def manyK (N : Nat) : Nat → Nat
  | 0 => 0
  | m + 1 => manyK N m + ((List.range (2 ^ N)).filter fun Y => decide (andNot Y m = 0)).length
theorem priA_few (N B : Nat) : ∀ m, (priA N B m).length ≤ manyK N m
  | 0 => by simp [priA, manyK]
  | m + 1 => by
    rw [priA_step, List.length_append]
    have h1 := priA_few N B m
    have h2 : (priR N B m (2 ^ N)).length ≤ ((List.range (2 ^ N)).filter fun Y => decide (andNot Y m = 0)).length := by
      unfold priR
      rw [List.length_map, ← List.countP_eq_length_filter, ← List.countP_eq_length_filter]
      exact List.countP_mono_left fun Y _ h => decide_eq_true (prime_val h)
    simp only [manyK]
    omega
theorem primes_few (N B : Nat) (hN : N ≤ 4) : (primesL N B).length ≤ 81 := by
  have h : ∀ N, N < 5 → manyK N (2 ^ N) ≤ 81 := by decide +kernel
  exact Nat.le_trans (priA_few N B _) (h N (by omega))
theorem primes_mem {N B : Nat} {c : Int × Int} : c ∈ primesL N B ↔ ∃ X Y : Nat, c = ((X : Int), (Y : Int)) ∧ X < 2 ^ N ∧ Y < 2 ^ N ∧ primeB N B X Y = true := by
  unfold primesL priA
  rw [List.mem_flatMap]
  constructor
  · rintro ⟨X, hX, hc⟩
    unfold priR at hc
    obtain ⟨Y, hY, rfl⟩ := List.mem_map.1 hc
    obtain ⟨hY, hp⟩ := List.mem_filter.1 hY
    exact ⟨X, Y, rfl, List.mem_range.1 hX, List.mem_range.1 hY, hp⟩
  · rintro ⟨X, Y, rfl, hX, hY, hp⟩
    exact ⟨X, List.mem_range.2 hX, List.mem_map.2 ⟨Y, List.mem_filter.2 ⟨List.mem_range.2 hY, hp⟩, rfl⟩⟩
theorem min_sub (N B : Nat) : ∀ (k : Nat) (L : List (Int × Int)), (minK N B k L).Sublist L
  | 0, L => List.Sublist.refl _
  | k + 1, L => by
    simp only [minK]
    split
    · exact (min_sub N B k _).trans (List.eraseIdx_sublist L k)
    · exact min_sub N B k L
theorem minL_sub (N B : Nat) : (minL N B).Sublist (primesL N B) := min_sub N B _ _
theorem sub_coverB {N B : Nat} {L : List (Int × Int)} (hN : N ≤ 4) (h : L.Sublist (primesL N B)) : coverB N L = true := by
  unfold coverB
  rw [decide_eq_true (by omega), decide_eq_true (Nat.le_trans h.length_le (primes_few N B hN)), Bool.true_and, Bool.true_and, List.all_eq_true]
  intro c hc
  obtain ⟨X, Y, rfl, hX, hY, hp⟩ := primes_mem.1 (h.subset hc)
  rw [cubeB_nat hN hX hY, prime_val hp]; rfl
theorem erase_comm {α : Type} : ∀ (L : List α) (k j : Nat), k ≤ j → (L.eraseIdx k).eraseIdx j = (L.eraseIdx (j + 1)).eraseIdx k
  | [], k, j, _ => by simp
  | x :: L, 0, j, _ => by simp
  | x :: L, k + 1, 0, h => absurd h (by omega)
  | x :: L, k + 1, j + 1, h => by
    simp only [List.eraseIdx_cons_succ]
    rw [erase_comm L k j (by omega)]
/-- A cover that is part of another one has part of its indexes. -/
theorem tab_mono {N : Nat} {L M K : List (Int × Int)} {B : Nat} (h : L.Sublist M) (k : M.Sublist K) (h1 : tabN N L = B) (h2 : tabN N K = B) : tabN N M = B := by
  apply Nat.eq_of_testBit_eq
  intro i
  cases hb : B.testBit i
  · rw [← h2, testBit_tab] at hb
    rw [testBit_tab]
    cases hd : decide (i < 2 ^ N)
    · rfl
    · rw [hd, Bool.true_and, List.any_eq_false] at hb
      rw [Bool.true_and, List.any_eq_false]
      exact fun c hc => hb c (k.subset hc)
  · rw [← h1, testBit_tab, Bool.and_eq_true, List.any_eq_true] at hb
    obtain ⟨hd, c, hc, hi⟩ := hb
    rw [testBit_tab, hd, Bool.true_and, List.any_eq_true]
    exact ⟨c, h.subset hc, hi⟩
theorem min_needs (N B : Nat) : ∀ (k : Nat) (L : List (Int × Int)), tabN N L = B → (∀ j, k ≤ j → j < L.length → tabN N (L.eraseIdx j) ≠ B) →
    tabN N (minK N B k L) = B ∧ ∀ j, j < (minK N B k L).length → tabN N ((minK N B k L).eraseIdx j) ≠ B
  | 0, L, h1, h2 => ⟨h1, fun j hj => h2 j (Nat.zero_le _) hj⟩
  | k + 1, L, h1, h2 => by
    simp only [minK]
    rw [minB_tab]
    by_cases he : tabN N (L.eraseIdx k) = B
    · rw [if_pos he]
      refine min_needs N B k _ he fun j hj hl hB => ?_
      have hlt : j + 1 < L.length := by
        rw [List.length_eraseIdx] at hl
        split at hl <;> omega
      refine h2 (j + 1) (by omega) hlt ?_
      have hs : ((L.eraseIdx k).eraseIdx j) = (L.eraseIdx (j + 1)).eraseIdx k := erase_comm L k j hj
      rw [hs] at hB
      exact tab_mono (List.eraseIdx_sublist _ k) (List.eraseIdx_sublist L (j + 1)) hB h1
    · rw [if_neg he]
      refine min_needs N B k L h1 fun j hj hl => ?_
      by_cases hjk : j = k
      · subst hjk; exact he
      · exact h2 j (by omega) hl
theorem testBit_lit (X Y k : Nat) (hX : X < 16) (hY : Y < 16) (hk : k < 4) : andNot X (2 ^ k) < 16 ∧ andNot Y (2 ^ k) < 16 := ⟨Nat.lt_of_le_of_lt (andNot_le _ _) hX, Nat.lt_of_le_of_lt (andNot_le _ _) hY⟩
/-- The cube P, Q contains the cube X, Y. -/
def inside (P Q X Y : Nat) : Bool := decide (andNot P X = 0) && decide (Y &&& P = Q)
theorem andNot_and (P X : Nat) (hP : P < 16) (hX : X < 16) : (andNot P X = 0) ↔ (X &&& P = P) := by
  have : ∀ P, P < 16 → ∀ X, X < 16 → ((andNot P X = 0) ↔ (X &&& P = P)) := by decide +kernel
  exact this P hP X hX
theorem and_lit (X k : Nat) (hX : X < 16) (hk : k < 4) : ∀ P, P < 16 → (andNot X (2 ^ k)) &&& P = P → X &&& P = P := by
  have : ∀ X, X < 16 → ∀ k, k < 4 → ∀ P, P < 16 → (andNot X (2 ^ k)) &&& P = P → X &&& P = P := by decide +kernel
  exact this X hX k hk
theorem lit_and (P k : Nat) (hP : P < 16) (hk : k < 4) (hb : P.testBit k = false) : ∀ Y, Y < 16 → (andNot Y (2 ^ k)) &&& P = Y &&& P := by
  have : ∀ P, P < 16 → ∀ k, k < 4 → P.testBit k = false → ∀ Y, Y < 16 → (andNot Y (2 ^ k)) &&& P = Y &&& P := by decide +kernel
  exact this P hP k hk hb
theorem lit_out (X k : Nat) (hX : X < 16) (hk : k < 4) : ∀ P, P < 16 → (andNot X (2 ^ k)) &&& P = P → P.testBit k = false := by
  have : ∀ X, X < 16 → ∀ k, k < 4 → ∀ P, P < 16 → (andNot X (2 ^ k)) &&& P = P → P.testBit k = false := by decide +kernel
  exact this X hX k hk
theorem inside_imp {N B P Q X Y : Nat} (hN : N ≤ 4) (hP : P < 2 ^ N) (hX : X < 2 ^ N) (h : inside P Q X Y = true) (hi : impB N B P Q = true) : impB N B X Y = true := by
  have h16 := pow16 N hN
  unfold inside at h
  rw [Bool.and_eq_true, decide_eq_true_eq, decide_eq_true_eq] at h
  rw [imp_iff] at hi ⊢
  intro i hil he
  refine hi i hil ?_
  have hx := (andNot_and P X (by omega) (by omega)).1 h.1
  rw [← h.2, ← he, Nat.and_assoc, hx]
theorem imp_inside (N B : Nat) (hN : N ≤ 4) : ∀ (m X Y : Nat), X ≤ m → X < 2 ^ N → Y < 2 ^ N → andNot Y X = 0 → impB N B X Y = true → ∃ P Q, P < 2 ^ N ∧ Q < 2 ^ N ∧ primeB N B P Q = true ∧ inside P Q X Y = true := by
  have h16 := pow16 N hN
  intro m
  induction m with
  | zero =>
    intro X Y hm hX hY hv hi
    obtain rfl : X = 0 := by omega
    refine ⟨0, Y, hX, hY, ?_, ?_⟩
    · unfold primeB
      rw [decide_eq_true hv, hi]
      unfold priK
      rw [Bool.true_and, Bool.true_and, List.all_eq_true]
      intro k _; simp
    · unfold inside
      have := val_le 0 Y (by omega) (by omega) hv
      obtain rfl : Y = 0 := by omega
      decide
  | succ m ih =>
    intro X Y hm hX hY hv hi
    by_cases hp : primeB N B X Y = true
    · refine ⟨X, Y, hX, hY, hp, ?_⟩
      unfold inside
      have h1 := (andNot_and Y X (by omega) (by omega)).1 hv
      rw [Nat.and_comm] at h1
      rw [h1, decide_eq_true rfl, decide_eq_true ((andNot_and X X (by omega) (by omega)).2 (Nat.and_self X))]; rfl
    · unfold primeB at hp
      rw [decide_eq_true hv, hi, Bool.true_and, Bool.true_and, Bool.not_eq_true] at hp
      unfold priK at hp
      obtain ⟨k, hk, h⟩ := List.all_eq_false.1 hp
      have hk := List.mem_range.1 hk
      simp only [Bool.not_eq_true, Bool.not_eq_false', Bool.and_eq_true] at h
      obtain ⟨hb, hi2⟩ := h
      have hlt : andNot X (2 ^ k) < X := by
        refine Nat.lt_of_le_of_ne (andNot_le _ _) fun e => ?_
        rw [lit_same X k (by omega) (by omega), hb] at e; cases e
      have hly := andNot_le Y (2 ^ k)
      obtain ⟨P, Q, hP, hQ, hpr, hin⟩ := ih (andNot X (2 ^ k)) (andNot Y (2 ^ k)) (by omega) (by omega) (by omega) (lit_val X Y k (by omega) (by omega) (by omega) hv).2 hi2
      refine ⟨P, Q, hP, hQ, hpr, ?_⟩
      unfold inside at hin ⊢
      rw [Bool.and_eq_true, decide_eq_true_eq, decide_eq_true_eq] at hin
      have ha := (andNot_and P _ (by omega) (by omega)).1 hin.1
      have hbk := lit_out X k (by omega) (by omega) P (by omega) ha
      rw [lit_and P k (by omega) (by omega) hbk Y (by omega)] at hin
      rw [hin.2, decide_eq_true rfl, decide_eq_true ((andNot_and P X (by omega) (by omega)).2 (and_lit X k (by omega) (by omega) P (by omega) ha))]; rfl
/-- A cube lies in a prime exactly if it is an implicant. -/
theorem in_prime (N B X Y : Nat) (hN : N ≤ 4) (hX : X < 2 ^ N) (hY : Y < 2 ^ N) (hv : andNot Y X = 0) :
    ((primesL N B).any fun c => inside c.1.toNat c.2.toNat X Y) = impB N B X Y := by
  rw [Bool.eq_iff_iff, List.any_eq_true]
  constructor
  · rintro ⟨c, hc, h⟩
    obtain ⟨P, Q, rfl, hP, hQ, hp⟩ := primes_mem.1 hc
    exact inside_imp hN hP hX h (prime_imp hp)
  · intro h
    obtain ⟨P, Q, hP, hQ, hp, hin⟩ := imp_inside N B hN X X Y (Nat.le_refl _) hX hY hv h
    exact ⟨_, primes_mem.2 ⟨P, Q, rfl, hP, hQ, hp⟩, hin⟩
theorem full_and (N i : Nat) (hN : N ≤ 4) (hi : i < 2 ^ N) : i &&& (2 ^ N - 1) = i ∧ andNot i (2 ^ N - 1) = 0 := by
  have h1 : ∀ N, N < 5 → ∀ i, i < 2 ^ N → i &&& (2 ^ N - 1) = i := by decide +kernel
  have h2 : ∀ N, N < 5 → ∀ i, i < 2 ^ N → andNot i (2 ^ N - 1) = 0 := by decide +kernel
  exact ⟨h1 N (by omega) i hi, h2 N (by omega) i hi⟩
theorem primes_tab (N B : Nat) (hN : N ≤ 4) (hB : B < 2 ^ 2 ^ N) : tabN N (primesL N B) = B := by
  have hp0 : 0 < 2 ^ N := Nat.pow_pos (by omega)
  apply Nat.eq_of_testBit_eq
  intro i
  rw [testBit_tab]
  by_cases hi : i < 2 ^ N
  · rw [decide_eq_true hi, Bool.true_and]
    obtain ⟨f1, f2⟩ := full_and N i hN hi
    have h := in_prime N B (2 ^ N - 1) i hN (by omega) hi f2
    have hb : impB N B (2 ^ N - 1) i = B.testBit i := by
      rw [Bool.eq_iff_iff, imp_iff]
      constructor
      · intro h; exact h i hi f1
      · intro h j hj he
        rw [(full_and N j hN hj).1] at he
        rw [he]; exact h
    rw [← hb, ← h, Bool.eq_iff_iff, List.any_eq_true, List.any_eq_true]
    constructor
    · rintro ⟨c, hc, h⟩
      refine ⟨c, hc, ?_⟩
      obtain ⟨P, Q, rfl, hP, hQ, hp⟩ := primes_mem.1 hc
      have h16 := pow16 N hN
      unfold inside
      have h' : i &&& P = Q := by simpa [hasN] using h
      rw [Bool.and_eq_true]
      refine ⟨decide_eq_true ?_, by simpa using h'⟩
      rw [Int.toNat_natCast, andNot_and P _ (by omega) (by omega), Nat.and_comm]
      exact (full_and N P hN hP).1
    · rintro ⟨c, hc, h⟩
      refine ⟨c, hc, ?_⟩
      unfold inside at h
      rw [Bool.and_eq_true] at h
      exact h.2
  · rw [decide_eq_false hi, Nat.testBit_lt_two_pow (Nat.lt_of_lt_of_le hB (Nat.pow_le_pow_right (by omega) (by omega)))]; rfl
theorem minL_spec (N B : Nat) (hN : N ≤ 4) (hB : B < 2 ^ 2 ^ N) : tabN N (minL N B) = B ∧ ∀ j, j < (minL N B).length → tabN N ((minL N B).eraseIdx j) ≠ B :=
  min_needs N B _ _ (primes_tab N B hN hB) fun j h1 h2 => absurd h2 (by omega)
theorem minL_mem {N B : Nat} {c : Int × Int} (h : c ∈ minL N B) : c ∈ primesL N B := (minL_sub N B).subset h
/-- With a literal less a cube of the cover has too many indexes. -/
theorem wide_more {N B X Y k : Nat} (hN : N ≤ 4) (hp : primeB N B X Y = true) (hk : k < N) (hb : X.testBit k = true) (L : List (Int × Int)) :
    tabN N (L ++ [(((andNot X (2 ^ k) : Nat) : Int), ((andNot Y (2 ^ k) : Nat) : Int))]) ≠ B := by
  intro h
  have hf := prime_lit hp k hk hb
  have : impB N B (andNot X (2 ^ k)) (andNot Y (2 ^ k)) = true := by
    rw [imp_iff]
    intro i hi he
    rw [← h, testBit_tab, decide_eq_true hi, Bool.true_and, List.any_append, Bool.or_eq_true]
    right
    simp [hasN, he]
  rw [hf] at this; cases this
/-- The bits of a number below m. -/
def popK (X : Nat) : Nat → Nat
  | 0 => 0
  | m + 1 => popK X m + (X.testBit m).toNat
theorem popK_le (X : Nat) : ∀ m, popK X m ≤ m
  | 0 => Nat.le_refl _
  | m + 1 => by have := popK_le X m; simp only [popK]; cases X.testBit m <;> simp <;> omega
def litL (N : Nat) (L : List (Int × Int)) : Nat := (L.map fun c => popK c.1.toNat N).sum
theorem litL_snoc (N : Nat) (L : List (Int × Int)) (c : Int × Int) : litL N (L ++ [c]) = litL N L + popK c.1.toNat N := by
  unfold litL; simp
theorem litL_le (N : Nat) (L : List (Int × Int)) : litL N L ≤ L.length * N := by
  induction L with
  | nil => simp [litL]
  | cons c L ih =>
    have := popK_le c.1.toNat N
    simp only [litL, List.map_cons, List.sum_cons, List.length_cons, Nat.succ_mul] at ih ⊢
    omega
theorem litL_sub (N : Nat) {L M : List (Int × Int)} (h : L.Sublist M) : litL N L ≤ litL N M := by
  induction h with
  | slnil => exact Nat.le_refl _
  | cons c _ ih => simp only [litL, List.map_cons, List.sum_cons] at ih ⊢; omega
  | cons_cons c _ ih => simp only [litL, List.map_cons, List.sum_cons] at ih ⊢; omega
theorem pop4 (N X : Nat) (hN : N ≤ 4) (hX : X < 2 ^ N) : popK X 4 = popK X N := by
  have : ∀ N, N < 5 → ∀ X, X < 2 ^ N → popK X 4 = popK X N := by decide +kernel
  exact this N (by omega) X hX
end Go.Proofs.Ytjibjnkabfmgaaa
