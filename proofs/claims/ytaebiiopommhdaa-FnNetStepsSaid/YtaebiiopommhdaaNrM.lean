/-
  Runs of graphs: the plain part (stage 9).
-/
import Derived.Test.YtaebiiopommhdaaNetM
namespace Go.Proofs.Ytaebiiopommhdaa
open Go.RowKit
set_option linter.unusedVariables false
set_option linter.unusedSimpArgs false

/-- What a memory of value v shows next for the inputs x (its four bits). -/
def ramI (v x : Int) : Int :=
  let a : Nat := (x % 4).toNat + 1
  let nx : Int := v - v % 2 + v / 2 ^ a % 2
  if x / 8 % 2 = 1 then nx - nx / 2 ^ a % 2 * 2 ^ a + x / 4 % 2 * 2 ^ a else nx
def seqI (k v x : Int) : Int := if k = 0 ∧ 0 ≤ v ∧ v ≤ 1 then x % 2 else if k = 1 ∧ 0 ≤ v ∧ v ≤ 31 then ramI v x else -1
theorem ramI_mod (v x : Int) : ramI v x = ramI v (x % 16) := by
  have h4 : x % 16 % 4 = x % 4 := by omega
  have h8 : x % 16 / 8 % 2 = x / 8 % 2 := by omega
  have h2 : x % 16 / 4 % 2 = x / 4 % 2 := by omega
  unfold ramI
  rw [h4, h8, h2]
set_option maxRecDepth 100000 in
theorem ramI_all : ∀ (v : Fin 32) (y : Fin 16), 0 ≤ ramI ((v.val : Nat) : Int) ((y.val : Nat) : Int) ∧ ramI ((v.val : Nat) : Int) ((y.val : Nat) : Int) ≤ 31 := by decide
theorem ramI_in {v : Int} (h0 : 0 ≤ v) (h1 : v ≤ 31) (x : Int) : 0 ≤ ramI v x ∧ ramI v x ≤ 31 := by
  rw [ramI_mod]
  have h := ramI_all ⟨v.toNat, by omega⟩ ⟨(x % 16).toNat, by omega⟩
  rw [show (((⟨v.toNat, by omega⟩ : Fin 32).val : Nat) : Int) = v from Int.toNat_of_nonneg h0, show (((⟨(x % 16).toNat, by omega⟩ : Fin 16).val : Nat) : Int) = x % 16 from Int.toNat_of_nonneg (by omega)] at h
  exact h
/-- A value that an element of kind k may have. -/
def valB (k v : Int) : Bool := decide ((k = 0 ∧ 0 ≤ v ∧ v ≤ 1) ∨ (k = 1 ∧ 0 ≤ v ∧ v ≤ 31))
theorem seqI_ok {k v : Int} (h : valB k v = true) (x : Int) : valB k (seqI k v x) = true ∧ 0 ≤ seqI k v x := by
  have h := of_decide_eq_true h
  unfold seqI
  rcases h with ⟨rfl, h0, h1⟩ | ⟨rfl, h0, h1⟩
  · rw [if_pos ⟨rfl, h0, h1⟩]
    exact ⟨decide_eq_true (Or.inl ⟨rfl, by omega, by omega⟩), by omega⟩
  · rw [if_neg (by omega), if_pos ⟨rfl, h0, h1⟩]
    have h2 := ramI_in h0 h1 x
    exact ⟨decide_eq_true (Or.inr ⟨rfl, h2.1, h2.2⟩), h2.1⟩
theorem seqI_no {k v : Int} (h : valB k v = false) (x : Int) : seqI k v x = -1 := by
  have h := of_decide_eq_false h
  unfold seqI
  rw [if_neg (fun c => h (Or.inl c)), if_neg (fun c => h (Or.inr c))]
theorem seqI_neg (k v x : Int) : decide (seqI k v x < 0) = !valB k v := by
  cases h : valB k v with
  | true => exact decide_eq_false (by have := (seqI_ok h x).2; omega)
  | false => rw [seqI_no h]; rfl
/-- The first k values fit their elements. -/
def stK (n : DNet) (st : List Int) (k : Nat) : Bool := (List.range k).all fun i => valB ((n.2.1[i]?.map (·.1)).getD 0) (st.getD i 0)
def stateB (n : DNet) (st : List Int) : Bool := netB n && (decide (st.length = n.2.1.length) && stK n st n.2.1.length)
theorem stK_step {n : DNet} {st : List Int} {k : Nat} {s : DSeq} {v : Int} (hs : n.2.1[k]? = some s) (hv : st.getD k 0 = v) : stK n st (k + 1) = (stK n st k && valB s.1 v) := by
  unfold stK; rw [List.range_succ, List.all_append]; simp [hs, ← hv]
structure StateP (n : DNet) (st : List Int) : Prop where
  net : netB n = true
  len : st.length = n.2.1.length
  val : ∀ (k : Nat) (s : DSeq), n.2.1[k]? = some s → valB s.1 (st.getD k 0) = true
theorem stateP_of {n : DNet} {st : List Int} (h : stateB n st = true) : StateP n st := by
  unfold stateB at h
  simp only [Bool.and_eq_true] at h
  refine ⟨h.1, of_decide_eq_true h.2.1, fun k s hs => ?_⟩
  have hk := (List.getElem?_eq_some_iff.1 hs).1
  have := List.all_eq_true.1 h.2.2 k (List.mem_range.2 hk)
  simpa [hs] using this
theorem stateB_of {n : DNet} {st : List Int} (h : StateP n st) : stateB n st = true := by
  unfold stateB
  rw [h.net, decide_eq_true h.len]
  simp only [Bool.true_and]
  unfold stK
  refine List.all_eq_true.2 fun k hk => ?_
  have hk := List.mem_range.1 hk
  have := h.val k _ (List.getElem?_eq_getElem hk)
  simpa [List.getElem?_eq_getElem hk] using this
/-- The value of a literal. -/
def bitV (V : List Int) (l : Nat) : Int := (V.getD (l / 2) 0 + (l : Int)) % 2
theorem bitV_in (V : List Int) (l : Nat) : 0 ≤ bitV V l ∧ bitV V l ≤ 1 := by unfold bitV; omega
def insK (n : DNet) (x : Int) : Nat → List Int
  | 0 => List.replicate (netN n) 0
  | k + 1 => (insK n x k).set (1 + k) (x / 2 ^ k % 2)
def regK (n : DNet) (st : List Int) (x : Int) : Nat → List Int
  | 0 => insK n x n.1.toNat
  | k + 1 => (regK n st x k).set (1 + n.1.toNat + k) (st.getD k 0 % 2)
def valK (n : DNet) (st : List Int) (x : Int) : Nat → List Int
  | 0 => regK n st x n.2.1.length
  | k + 1 => match n.2.2.1[k]? with
    | some a => (valK n st x k).set (firN n + k) (bitV (valK n st x k) a.1.toNat * bitV (valK n st x k) a.2.toNat)
    | none => valK n st x k
def valO (n : DNet) (st : List Int) (x : Int) : List Int := if stateB n st then valK n st x n.2.2.1.length else []
theorem insK_len (n : DNet) (x : Int) : ∀ k, (insK n x k).length = netN n
  | 0 => by simp [insK]
  | k + 1 => by unfold insK; rw [List.length_set]; exact insK_len n x k
theorem regK_len (n : DNet) (st : List Int) (x : Int) : ∀ k, (regK n st x k).length = netN n
  | 0 => insK_len n x _
  | k + 1 => by unfold regK; rw [List.length_set]; exact regK_len n st x k
theorem valK_len (n : DNet) (st : List Int) (x : Int) : ∀ k, (valK n st x k).length = netN n
  | 0 => regK_len n st x _
  | k + 1 => by
    unfold valK
    split
    · rw [List.length_set]; exact valK_len n st x k
    · exact valK_len n st x k
theorem insK_in (n : DNet) (x : Int) : ∀ k j, 0 ≤ (insK n x k).getD j 0 ∧ (insK n x k).getD j 0 ≤ 1
  | 0, j => by
    simp only [insK, List.getD_eq_getElem?_getD, List.getElem?_replicate]
    split <;> simp
  | k + 1, j => by
    have ih := insK_in n x k j
    unfold insK
    rw [getD_set]
    split
    · omega
    · exact ih
theorem regK_in (n : DNet) (st : List Int) (x : Int) : ∀ k j, 0 ≤ (regK n st x k).getD j 0 ∧ (regK n st x k).getD j 0 ≤ 1
  | 0, j => insK_in n x _ j
  | k + 1, j => by
    have ih := regK_in n st x k j
    unfold regK
    rw [getD_set]
    split
    · omega
    · exact ih
theorem bit_mul {a b : Int} (ha : 0 ≤ a ∧ a ≤ 1) (hb : 0 ≤ b ∧ b ≤ 1) : 0 ≤ a * b ∧ a * b ≤ 1 := by
  have h1 : a = 0 ∨ a = 1 := by omega
  rcases h1 with rfl | rfl <;> omega
theorem valK_in (n : DNet) (st : List Int) (x : Int) : ∀ k j, 0 ≤ (valK n st x k).getD j 0 ∧ (valK n st x k).getD j 0 ≤ 1
  | 0, j => regK_in n st x _ j
  | k + 1, j => by
    have ih := valK_in n st x k j
    unfold valK
    split
    · rw [getD_set]
      split
      · exact bit_mul (bitV_in _ _) (bitV_in _ _)
      · exact ih
    · exact ih
/-- The values of the first k literals of L as one number. -/
def maskS (V : List Int) (L : List Int) : Nat → Int
  | 0 => 0
  | k + 1 => maskS V L k + bitV V (L.getD k 0).toNat * 2 ^ k
def maskV (V L : List Int) : Int := maskS V L L.length
theorem maskS_in (V L : List Int) : ∀ k, 0 ≤ maskS V L k ∧ maskS V L k < 2 ^ k
  | 0 => by unfold maskS; decide
  | k + 1 => by
    have ih := maskS_in V L k
    have hb := bitV_in V (L.getD k 0).toNat
    unfold maskS
    have h1 : bitV V (L.getD k 0).toNat = 0 ∨ bitV V (L.getD k 0).toNat = 1 := by omega
    rw [Int.pow_succ]
    have hp : (0 : Int) < 2 ^ k := Int.pow_pos (by decide)
    rcases h1 with h1 | h1 <;> rw [h1] <;> omega
def nextL (n : DNet) (st V : List Int) (k : Nat) : List Int := (List.range k).map fun i => seqI ((n.2.1[i]?.map (·.1)).getD 0) (st.getD i 0) (maskV V ((n.2.1[i]?.map (·.2.2)).getD []))
def stepO (n : DNet) (st : List Int) (x : Int) : List Int × Int := if stateB n st then (nextL n st (valO n st x) n.2.1.length, maskV (valO n st x) n.2.2.2) else ([], 0)
def startO (n : DNet) : List Int := if netB n then n.2.1.map (·.2.1) else []
/-- The state before cycle t. -/
def stAt (n : DNet) (xs : List Int) : Nat → List Int
  | 0 => startO n
  | t + 1 => (stepO n (stAt n xs t) (xs.getD t 0)).1
def runO (n : DNet) (xs : List Int) : List Int := if netB n = true ∧ xs.length ≤ 16 then (List.range xs.length).map fun t => (stepO n (stAt n xs t) (xs.getD t 0)).2 else []
theorem start_ok {n : DNet} (h : netB n = true) : StateP n (startO n) := by
  have hP := netP_of h
  unfold startO
  rw [if_pos h]
  refine ⟨h, by simp, fun k s hs => ?_⟩
  have hk := (List.getElem?_eq_some_iff.1 hs).1
  have hm := hP.seq s (List.mem_of_getElem? hs)
  have e : (n.2.1.map (·.2.1)).getD k 0 = s.2.1 := by
    rw [List.getD_eq_getElem?_getD, List.getElem?_map, hs]; rfl
  rw [e]
  have hm := of_decide_eq_true hm
  exact decide_eq_true (by omega)
theorem step_ok {n : DNet} {st : List Int} (h : StateP n st) (x : Int) : StateP n (stepO n st x).1 := by
  unfold stepO
  rw [if_pos (stateB_of h)]
  refine ⟨h.net, by unfold nextL; simp, fun k s hs => ?_⟩
  have hk := (List.getElem?_eq_some_iff.1 hs).1
  have hv := h.val k s hs
  dsimp only
  have e : (nextL n st (valO n st x) n.2.1.length).getD k 0 = seqI s.1 (st.getD k 0) (maskV (valO n st x) s.2.2) := by
    unfold nextL
    rw [List.getD_eq_getElem?_getD, List.getElem?_map, List.getElem?_range hk]
    simp [hs]
  rw [e]
  exact (seqI_ok hv _).1
theorem stAt_ok {n : DNet} (h : netB n = true) (xs : List Int) : ∀ t, StateP n (stAt n xs t)
  | 0 => start_ok h
  | t + 1 => step_ok (stAt_ok h xs t) _
theorem bit_mod (x : Int) {k m : Nat} (h : k < m) : x % 2 ^ m / 2 ^ k % 2 = x / 2 ^ k % 2 := by
  obtain ⟨d, rfl⟩ : ∃ d, m = k + 1 + d := ⟨m - (k + 1), by omega⟩
  have hp : (2 : Int) ^ k ≠ 0 := Int.ne_of_gt (Int.pow_pos (by decide))
  have hx := Int.emod_add_mul_ediv x (2 ^ (k + 1 + d))
  have e : (2 : Int) ^ (k + 1 + d) * (x / 2 ^ (k + 1 + d)) = (2 * (2 ^ d * (x / 2 ^ (k + 1 + d)))) * 2 ^ k := by
    generalize x / 2 ^ (k + 1 + d) = q
    rw [Int.pow_add, Int.pow_succ, Int.mul_assoc, Int.mul_assoc, Int.mul_comm]
  have h2 : x / 2 ^ k = x % 2 ^ (k + 1 + d) / 2 ^ k + 2 * (2 ^ d * (x / 2 ^ (k + 1 + d))) := by
    conv => lhs; rw [← hx]
    rw [e, Int.add_mul_ediv_right _ _ hp]
  rw [h2]
  omega
theorem insK_low (n : DNet) (x : Int) {m : Nat} : ∀ k, k ≤ m → insK n (x % 2 ^ m) k = insK n x k
  | 0, _ => rfl
  | k + 1, h => by
    unfold insK
    rw [insK_low n x k (by omega), bit_mod x (by omega)]
theorem regK_low (n : DNet) (st : List Int) (x : Int) : ∀ k, regK n st (x % 2 ^ n.1.toNat) k = regK n st x k
  | 0 => insK_low n x _ (Nat.le_refl _)
  | k + 1 => by unfold regK; rw [regK_low n st x k]
theorem valK_low (n : DNet) (st : List Int) (x : Int) : ∀ k, valK n st (x % 2 ^ n.1.toNat) k = valK n st x k
  | 0 => regK_low n st x _
  | k + 1 => by unfold valK; rw [valK_low n st x k]
theorem stepO_low (n : DNet) (st : List Int) (x : Int) : stepO n st (x % 2 ^ n.1.toNat) = stepO n st x := by
  unfold stepO valO; rw [valK_low]
theorem stAt_low (n : DNet) (xs : List Int) : ∀ t, t ≤ xs.length → stAt n (xs.map fun x => x % 2 ^ n.1.toNat) t = stAt n xs t
  | 0, _ => rfl
  | t + 1, h => by
    unfold stAt
    rw [stAt_low n xs t (by omega)]
    have e : (xs.map fun x => x % 2 ^ n.1.toNat).getD t 0 = xs.getD t 0 % 2 ^ n.1.toNat := by
      rw [List.getD_eq_getElem?_getD, List.getD_eq_getElem?_getD, List.getElem?_map, List.getElem?_eq_getElem (by omega)]; rfl
    rw [e, stepO_low]
theorem runO_low (n : DNet) (xs : List Int) : runO n (xs.map fun x => x % 2 ^ n.1.toNat) = runO n xs := by
  unfold runO
  rw [List.length_map]
  split
  · refine List.map_congr_left fun t ht => ?_
    have ht := List.mem_range.1 ht
    rw [stAt_low n xs t (by omega)]
    have e : (xs.map fun x => x % 2 ^ n.1.toNat).getD t 0 = xs.getD t 0 % 2 ^ n.1.toNat := by
      rw [List.getD_eq_getElem?_getD, List.getD_eq_getElem?_getD, List.getElem?_map, List.getElem?_eq_getElem (by omega)]; rfl
    rw [e, stepO_low]
  · rfl
/-- A memory shows what was stored last at the address, one cycle after it was read. -/
def ramReads (s a d : Int) : Bool :=
  let wr := ramI s (a + 4 * d + 8); let rd := ramI wr a; let ot := ramI wr ((a + 1) % 4); let pl := ramI s ((a + 1) % 4)
  decide (wr % 2 = s / 2 ^ (a.toNat + 1) % 2 ∧ rd % 2 = d ∧ ot % 2 = pl % 2 ∧ rd / 2 = wr / 2)
set_option maxRecDepth 100000 in
theorem ramReads_all : ∀ (s : Fin 32) (a : Fin 4) (d : Fin 2), ramReads ((s.val : Nat) : Int) ((a.val : Nat) : Int) ((d.val : Nat) : Int) = true := by decide
end Go.Proofs.Ytaebiiopommhdaa
