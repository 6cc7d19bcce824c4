/-
  NrM, BitI, Nr1, NrN, NrP, NrQ, NrR as one text.
-/
import Derived.Test.YtiejilmgchmppaaNeA
import Derived.Test.YtiejilmgchmppaaBits64
import Derived.BigQuiet
import Derived.Deep.QuietTactic
/- NrM: Runs of graphs: the plain part (stage 9). -/
namespace Go.Proofs.Ytiejilmgchmppaa
open Go.RowKit
set_option linter.unusedVariables false
set_option linter.unusedSimpArgs false

/-- What a memory of value v shows next for the inputs x (its four bits). -/
def ramI (v x : Int) : Int :=
  let a : Nat := (x % 4).toNat + 1
  let nx : Int := v - v % 2 + v / 2 ^ a % 2
  if x / 8 % 2 = 1 then nx - nx / 2 ^ a % 2 * 2 ^ a + x / 4 % 2 * 2 ^ a else nx
def seqI (k v x : Int) : Int := if k = 0 ∧ 0 ≤ v ∧ v ≤ 1 then x % 2 else if k = 1 ∧ 0 ≤ v ∧ v ≤ 31 then ramI v x else -1
theorem ramI_mod (v x : Int) : ramI v x = ramI v (x % 16) := by
  have h4 : x % 16 % 4 = x % 4 := by omega
  have h8 : x % 16 / 8 % 2 = x / 8 % 2 := by omega
  have h2 : x % 16 / 4 % 2 = x / 4 % 2 := by omega
  unfold ramI
  rw [h4, h8, h2]
set_option maxRecDepth 100000 in
theorem ramI_all : ∀ (v : Fin 32) (y : Fin 16), 0 ≤ ramI ((v.val : Nat) : Int) ((y.val : Nat) : Int) ∧ ramI ((v.val : Nat) : Int) ((y.val : Nat) : Int) ≤ 31 := by decide
theorem ramI_in {v : Int} (h0 : 0 ≤ v) (h1 : v ≤ 31) (x : Int) : 0 ≤ ramI v x ∧ ramI v x ≤ 31 := by
  rw [ramI_mod]
  have h := ramI_all ⟨v.toNat, by omega⟩ ⟨(x % 16).toNat, by omega⟩
  rw [show (((⟨v.toNat, by omega⟩ : Fin 32).val : Nat) : Int) = v from Int.toNat_of_nonneg h0, show (((⟨(x % 16).toNat, by omega⟩ : Fin 16).val : Nat) : Int) = x % 16 from Int.toNat_of_nonneg (by omega)] at h
  exact h
/-- A value that an element of kind k may have. -/
def valB (k v : Int) : Bool := decide ((k = 0 ∧ 0 ≤ v ∧ v ≤ 1) ∨ (k = 1 ∧ 0 ≤ v ∧ v ≤ 31))
theorem seqI_ok {k v : Int} (h : valB k v = true) (x : Int) : valB k (seqI k v x) = true ∧ 0 ≤ seqI k v x := by
  have h := of_decide_eq_true h
  unfold seqI
  rcases h with ⟨rfl, h0, h1⟩ | ⟨rfl, h0, h1⟩
  · rw [if_pos ⟨rfl, h0, h1⟩]
    exact ⟨decide_eq_true (Or.inl ⟨rfl, by omega, by omega⟩), by omega⟩
  · rw [if_neg (by omega), if_pos ⟨rfl, h0, h1⟩]
    have h2 := ramI_in h0 h1 x
    exact ⟨decide_eq_true (Or.inr ⟨rfl, h2.1, h2.2⟩), h2.1⟩
theorem seqI_no {k v : Int} (h : valB k v = false) (x : Int) : seqI k v x = -1 := by
  have h := of_decide_eq_false h
  unfold seqI
  rw [if_neg (fun c => h (Or.inl c)), if_neg (fun c => h (Or.inr c))]
theorem seqI_neg (k v x : Int) : decide (seqI k v x < 0) = !valB k v := by
  cases h : valB k v with
  | true => exact decide_eq_false (by have := (seqI_ok h x).2; omega)
  | false => rw [seqI_no h]; rfl
/-- The first k values fit their elements. -/
def stK (n : DNet) (st : List Int) (k : Nat) : Bool := (List.range k).all fun i => valB ((n.2.1[i]?.map (·.1)).getD 0) (st.getD i 0)
def stateB (n : DNet) (st : List Int) : Bool := netB n && (decide (st.length = n.2.1.length) && stK n st n.2.1.length)
theorem stK_step {n : DNet} {st : List Int} {k : Nat} {s : DSeq} {v : Int} (hs : n.2.1[k]? = some s) (hv : st.getD k 0 = v) : stK n st (k + 1) = (stK n st k && valB s.1 v) := by
  unfold stK; rw [List.range_succ, List.all_append]; simp [hs, ← hv]
structure StateP (n : DNet) (st : List Int) : Prop where
  net : netB n = true
  len : st.length = n.2.1.length
  val : ∀ (k : Nat) (s : DSeq), n.2.1[k]? = some s → valB s.1 (st.getD k 0) = true
theorem stateP_of {n : DNet} {st : List Int} (h : stateB n st = true) : StateP n st := by
  unfold stateB at h
  simp only [Bool.and_eq_true] at h
  refine ⟨h.1, of_decide_eq_true h.2.1, fun k s hs => ?_⟩
  have hk := (List.getElem?_eq_some_iff.1 hs).1
  have := List.all_eq_true.1 h.2.2 k (List.mem_range.2 hk)
  simpa [hs] using this
theorem stateB_of {n : DNet} {st : List Int} (h : StateP n st) : stateB n st = true := by
  unfold stateB
  rw [h.net, decide_eq_true h.len]
  simp only [Bool.true_and]
  unfold stK
  refine List.all_eq_true.2 fun k hk => ?_
  have hk := List.mem_range.1 hk
  have := h.val k _ (List.getElem?_eq_getElem hk)
  simpa [List.getElem?_eq_getElem hk] using this
/-- The value of a literal. -/
def bitV (V : List Int) (l : Nat) : Int := (V.getD (l / 2) 0 + (l : Int)) % 2
theorem bitV_in (V : List Int) (l : Nat) : 0 ≤ bitV V l ∧ bitV V l ≤ 1 := by unfold bitV; omega
def insK (n : DNet) (x : Int) : Nat → List Int
  | 0 => List.replicate (netN n) 0
  | k + 1 => (insK n x k).set (1 + k) (x / 2 ^ k % 2)
def regK (n : DNet) (st : List Int) (x : Int) : Nat → List Int
  | 0 => insK n x n.1.toNat
  | k + 1 => (regK n st x k).set (1 + n.1.toNat + k) (st.getD k 0 % 2)
def valK (n : DNet) (st : List Int) (x : Int) : Nat → List Int
  | 0 => regK n st x n.2.1.length
  | k + 1 => match n.2.2.1[k]? with
    | some a => (valK n st x k).set (firN n + k) (bitV (valK n st x k) a.1.toNat * bitV (valK n st x k) a.2.toNat)
    | none => valK n st x k
def valO (n : DNet) (st : List Int) (x : Int) : List Int := if stateB n st then valK n st x n.2.2.1.length else []
theorem insK_len (n : DNet) (x : Int) : ∀ k, (insK n x k).length = netN n
  | 0 => by simp [insK]
  | k + 1 => by unfold insK; rw [List.length_set]; exact insK_len n x k
theorem regK_len (n : DNet) (st : List Int) (x : Int) : ∀ k, (regK n st x k).length = netN n
  | 0 => insK_len n x _
  | k + 1 => by unfold regK; rw [List.length_set]; exact regK_len n st x k
theorem valK_len (n : DNet) (st : List Int) (x : Int) : ∀ k, (valK n st x k).length = netN n
  | 0 => regK_len n st x _
  | k + 1 => by
    unfold valK
    split
    · rw [List.length_set]; exact valK_len n st x k
    · exact valK_len n st x k
theorem insK_in (n : DNet) (x : Int) : ∀ k j, 0 ≤ (insK n x k).getD j 0 ∧ (insK n x k).getD j 0 ≤ 1
  | 0, j => by
    simp only [insK, List.getD_eq_getElem?_getD, List.getElem?_replicate]
    split <;> simp
  | k + 1, j => by
    have ih := insK_in n x k j
    unfold insK
    rw [getD_set]
    split
    · omega
    · exact ih
theorem regK_in (n : DNet) (st : List Int) (x : Int) : ∀ k j, 0 ≤ (regK n st x k).getD j 0 ∧ (regK n st x k).getD j 0 ≤ 1
  | 0, j => insK_in n x _ j
  | k + 1, j => by
    have ih := regK_in n st x k j
    unfold regK
    rw [getD_set]
    split
    · omega
    · exact ih
theorem bit_mul {a b : Int} (ha : 0 ≤ a ∧ a ≤ 1) (hb : 0 ≤ b ∧ b ≤ 1) : 0 ≤ a * b ∧ a * b ≤ 1 := by
  have h1 : a = 0 ∨ a = 1 := by omega
  rcases h1 with rfl | rfl <;> omega
theorem valK_in (n : DNet) (st : List Int) (x : Int) : ∀ k j, 0 ≤ (valK n st x k).getD j 0 ∧ (valK n st x k).getD j 0 ≤ 1
  | 0, j => regK_in n st x _ j
  | k + 1, j => by
    have ih := valK_in n st x k j
    unfold valK
    split
    · rw [getD_set]
      split
      · exact bit_mul (bitV_in _ _) (bitV_in _ _)
      · exact ih
    · exact ih
/-- The values of the first k literals of L as one number. -/
def maskS (V : List Int) (L : List Int) : Nat → Int
  | 0 => 0
  | k + 1 => maskS V L k + bitV V (L.getD k 0).toNat * 2 ^ k
def maskV (V L : List Int) : Int := maskS V L L.length
theorem maskS_in (V L : List Int) : ∀ k, 0 ≤ maskS V L k ∧ maskS V L k < 2 ^ k
  | 0 => by unfold maskS; decide
  | k + 1 => by
    have ih := maskS_in V L k
    have hb := bitV_in V (L.getD k 0).toNat
    unfold maskS
    have h1 : bitV V (L.getD k 0).toNat = 0 ∨ bitV V (L.getD k 0).toNat = 1 := by omega
    rw [Int.pow_succ]
    have hp : (0 : Int) < 2 ^ k := Int.pow_pos (by decide)
    rcases h1 with h1 | h1 <;> rw [h1] <;> omega
def nextL (n : DNet) (st V : List Int) (k : Nat) : List Int := (List.range k).map fun i => seqI ((n.2.1[i]?.map (·.1)).getD 0) (st.getD i 0) (maskV V ((n.2.1[i]?.map (·.2.2)).getD []))
def stepO (n : DNet) (st : List Int) (x : Int) : List Int × Int := if stateB n st then (nextL n st (valO n st x) n.2.1.length, maskV (valO n st x) n.2.2.2) else ([], 0)
def startO (n : DNet) : List Int := if netB n then n.2.1.map (·.2.1) else []
/-- The state before cycle t. -/
def stAt (n : DNet) (xs : List Int) : Nat → List Int
  | 0 => startO n
  | t + 1 => (stepO n (stAt n xs t) (xs.getD t 0)).1
def runO (n : DNet) (xs : List Int) : List Int := if netB n = true ∧ xs.length ≤ 16 then (List.range xs.length).map fun t => (stepO n (stAt n xs t) (xs.getD t 0)).2 else []
theorem start_ok {n : DNet} (h : netB n = true) : StateP n (startO n) := by
  have hP := netP_of h
  unfold startO
  rw [if_pos h]
  refine ⟨h, by simp, fun k s hs => ?_⟩
  have hk := (List.getElem?_eq_some_iff.1 hs).1
  have hm := hP.seq s (List.mem_of_getElem? hs)
  have e : (n.2.1.map (·.2.1)).getD k 0 = s.2.1 := by
    rw [List.getD_eq_getElem?_getD, List.getElem?_map, hs]; rfl
  rw [e]
  have hm := of_decide_eq_true hm
  exact decide_eq_true (by omega)
theorem step_ok {n : DNet} {st : List Int} (h : StateP n st) (x : Int) : StateP n (stepO n st x).1 := by
  unfold stepO
  rw [if_pos (stateB_of h)]
  refine ⟨h.net, by unfold nextL; simp, fun k s hs => ?_⟩
  have hk := (List.getElem?_eq_some_iff.1 hs).1
  have hv := h.val k s hs
  dsimp only
  have e : (nextL n st (valO n st x) n.2.1.length).getD k 0 = seqI s.1 (st.getD k 0) (maskV (valO n st x) s.2.2) := by
    unfold nextL
    rw [List.getD_eq_getElem?_getD, List.getElem?_map, List.getElem?_range hk]
    simp [hs]
  rw [e]
  exact (seqI_ok hv _).1
theorem stAt_ok {n : DNet} (h : netB n = true) (xs : List Int) : ∀ t, StateP n (stAt n xs t)
  | 0 => start_ok h
  | t + 1 => step_ok (stAt_ok h xs t) _
theorem bit_mod (x : Int) {k m : Nat} (h : k < m) : x % 2 ^ m / 2 ^ k % 2 = x / 2 ^ k % 2 := by
  obtain ⟨d, rfl⟩ : ∃ d, m = k + 1 + d := ⟨m - (k + 1), by omega⟩
  have hp : (2 : Int) ^ k ≠ 0 := Int.ne_of_gt (Int.pow_pos (by decide))
  have hx := Int.emod_add_mul_ediv x (2 ^ (k + 1 + d))
  have e : (2 : Int) ^ (k + 1 + d) * (x / 2 ^ (k + 1 + d)) = (2 * (2 ^ d * (x / 2 ^ (k + 1 + d)))) * 2 ^ k := by
    generalize x / 2 ^ (k + 1 + d) = q
    rw [Int.pow_add, Int.pow_succ, Int.mul_assoc, Int.mul_assoc, Int.mul_comm]
  have h2 : x / 2 ^ k = x % 2 ^ (k + 1 + d) / 2 ^ k + 2 * (2 ^ d * (x / 2 ^ (k + 1 + d))) := by
    conv => lhs; rw [← hx]
    rw [e, Int.add_mul_ediv_right _ _ hp]
  rw [h2]
  omega
theorem insK_low (n : DNet) (x : Int) {m : Nat} : ∀ k, k ≤ m → insK n (x % 2 ^ m) k = insK n x k
  | 0, _ => rfl
  | k + 1, h => by
    unfold insK
    rw [insK_low n x k (by omega), bit_mod x (by omega)]
theorem regK_low (n : DNet) (st : List Int) (x : Int) : ∀ k, regK n st (x % 2 ^ n.1.toNat) k = regK n st x k
  | 0 => insK_low n x _ (Nat.le_refl _)
  | k + 1 => by unfold regK; rw [regK_low n st x k]
theorem valK_low (n : DNet) (st : List Int) (x : Int) : ∀ k, valK n st (x % 2 ^ n.1.toNat) k = valK n st x k
  | 0 => regK_low n st x _
  | k + 1 => by unfold valK; rw [valK_low n st x k]
theorem stepO_low (n : DNet) (st : List Int) (x : Int) : stepO n st (x % 2 ^ n.1.toNat) = stepO n st x := by
  unfold stepO valO; rw [valK_low]
theorem stAt_low (n : DNet) (xs : List Int) : ∀ t, t ≤ xs.length → stAt n (xs.map fun x => x % 2 ^ n.1.toNat) t = stAt n xs t
  | 0, _ => rfl
  | t + 1, h => by
    unfold stAt
    rw [stAt_low n xs t (by omega)]
    have e : (xs.map fun x => x % 2 ^ n.1.toNat).getD t 0 = xs.getD t 0 % 2 ^ n.1.toNat := by
      rw [List.getD_eq_getElem?_getD, List.getD_eq_getElem?_getD, List.getElem?_map, List.getElem?_eq_getElem (by omega)]; rfl
    rw [e, stepO_low]
theorem runO_low (n : DNet) (xs : List Int) : runO n (xs.map fun x => x % 2 ^ n.1.toNat) = runO n xs := by
  unfold runO
  rw [List.length_map]
  split
  · refine List.map_congr_left fun t ht => ?_
    have ht := List.mem_range.1 ht
    rw [stAt_low n xs t (by omega)]
    have e : (xs.map fun x => x % 2 ^ n.1.toNat).getD t 0 = xs.getD t 0 % 2 ^ n.1.toNat := by
      rw [List.getD_eq_getElem?_getD, List.getD_eq_getElem?_getD, List.getElem?_map, List.getElem?_eq_getElem (by omega)]; rfl
    rw [e, stepO_low]
  · rfl
/-- A memory shows what was stored last at the address, one cycle after it was read. -/
def ramReads (s a d : Int) : Bool :=
  let wr := ramI s (a + 4 * d + 8); let rd := ramI wr a; let ot := ramI wr ((a + 1) % 4); let pl := ramI s ((a + 1) % 4)
  decide (wr % 2 = s / 2 ^ (a.toNat + 1) % 2 ∧ rd % 2 = d ∧ ot % 2 = pl % 2 ∧ rd / 2 = wr / 2)
set_option maxRecDepth 100000 in
theorem ramReads_all : ∀ (s : Fin 32) (a : Fin 4) (d : Fin 2), ramReads ((s.val : Nat) : Int) ((a.val : Nat) : Int) ((d.val : Nat) : Int) = true := by decide
end Go.Proofs.Ytiejilmgchmppaa
/- BitI: Bits of numbers that may be negative. -/
namespace Go.Proofs.Ytiejilmgchmppaa
open Go.RowKit
set_option linter.unusedVariables false
set_option linter.unusedSimpArgs false

/-- A number and a mask of W ones. -/
theorem and_low (n : Int) (W M : Nat) (hW : W ≤ 60) (hM : M + 1 = 2 ^ W) : bits .and .i64 n (M : Int) = n % ((2 ^ W : Nat) : Int) := by
  have h60 : 2 ^ W ≤ 2 ^ 60 := Nat.pow_le_pow_right (by omega) hW
  have h1 : 1 ≤ 2 ^ W := Nat.pow_pos (by omega)
  show IntKind.i64.wrap ((BitVec.ofInt 64 n &&& BitVec.ofInt 64 (M : Int)).toNat : Int) = _
  rw [BitVec.toNat_and, ofInt_u64 M (by omega)]
  have eM : M = 2 ^ W - 1 := by omega
  rw [eM, Nat.and_two_pow_sub_one_eq_mod, BitVec.toNat_ofInt]
  have hlt : (n % ((2 ^ 64 : Nat) : Int)).toNat % 2 ^ W < 2 ^ W := Nat.mod_lt _ h1
  rw [wrap64_small _ (by omega)]
  have h0 : 0 ≤ n % ((2 ^ 64 : Nat) : Int) := Int.emod_nonneg _ (by decide)
  rw [Int.natCast_emod, Int.toNat_of_nonneg h0]
  refine Int.emod_emod_of_dvd _ ?_
  rw [Int.natCast_dvd_natCast]
  exact Nat.pow_dvd_pow 2 (by omega)
theorem and_one (n : Int) : bits .and .i64 n 1 = n % 2 := and_low n 1 1 (by omega) (by decide)
theorem and_three (n : Int) : bits .and .i64 n 3 = n % 4 := and_low n 2 3 (by omega) (by decide)
end Go.Proofs.Ytiejilmgchmppaa
/- Nr1: The next state of one element, both sides. -/
namespace Go.Proofs.Ytiejilmgchmppaa
open Go.RowKit
set_option linter.unusedVariables false
set_option linter.unusedSimpArgs false

theorem bitOf_at (n : Int) (k : Nat) (hk : k ≤ 63) {r : Int} (w : World) (hr : n / 2 ^ k % 2 = r) :
    Calls Try.prog 36 #[.int .i64 n, .int .i64 (k : Int)] w fun e w' => e = .returned (.int .i64 r) ∧ w = w' := by
  have e1 : n / 2 ^ min (k : Int).toNat 64 = n / 2 ^ k := by rw [show min (k : Int).toNat 64 = k by omega]
  have e2 := and_one (n / 2 ^ k)
  rw [hr] at e2
  clear hr
  go_enter Try.func36, Try.ntmps36
  go_wp2
  go_ret
  exact ⟨rfl, rfl⟩
theorem valB_st (k v : Int) : valB k v = decide (0 ≤ v ∧ v < stI k) := by
  unfold valB stI
  apply decide_eq_decide.2
  by_cases h0 : k = 0
  · simp [h0] <;> omega
  · by_cases h1 : k = 1
    · simp [h1] <;> omega
    · simp [h0, h1] <;> omega
set_option maxRecDepth 100000 in
theorem ram_or1 : ∀ (s : Fin 16) (a : Fin 4) (d o : Fin 2), bits .or .i64 ((s.val - s.val / 2 ^ a.val % 2 * 2 ^ a.val : Nat) : Int) ((d.val : Int) * 2 ^ a.val) = ((s.val - s.val / 2 ^ a.val % 2 * 2 ^ a.val + d.val * 2 ^ a.val : Nat) : Int) ∧ s.val - s.val / 2 ^ a.val % 2 * 2 ^ a.val + d.val * 2 ^ a.val < 16 := by decide
set_option maxRecDepth 100000 in
theorem ram_not1 : ∀ (s : Fin 16) (a : Fin 4), bits .andNot .i64 (s.val : Int) (2 ^ a.val) = ((s.val - s.val / 2 ^ a.val % 2 * 2 ^ a.val : Nat) : Int) := by decide
set_option maxRecDepth 100000 in
theorem ram_or2 : ∀ (s : Fin 16) (o : Fin 2), bits .or .i64 ((s.val : Int) * 2) (o.val : Int) = ((s.val * 2 + o.val : Nat) : Int) := by decide
/-- What the program makes of a memory. -/
def ramP (v a c d : Nat) : Nat :=
  let s := v / 2
  (if c = 1 then s - s / 2 ^ a % 2 * 2 ^ a + d * 2 ^ a else s) * 2 + s / 2 ^ a % 2
set_option maxRecDepth 100000 in
theorem ramP_eq : ∀ (v : Fin 32) (y : Fin 16), ramI ((v.val : Nat) : Int) ((y.val : Nat) : Int) = (ramP v.val (y.val % 4) (y.val / 8 % 2) (y.val / 4 % 2) : Int) := by decide
theorem ramP_of {v : Nat} (hv : v < 32) (x : Int) {a c d : Nat} (ha : x % 4 = (a : Int)) (hc : x / 8 % 2 = (c : Int)) (hd : x / 4 % 2 = (d : Int)) : ramI (v : Int) x = (ramP v a c d : Int) := by
  rw [ramI_mod]
  obtain ⟨y, hy⟩ : ∃ y : Nat, x % 16 = (y : Int) := ⟨(x % 16).toNat, by omega⟩
  have h := ramP_eq ⟨v, hv⟩ ⟨y, by omega⟩
  rw [hy]
  rw [h]
  dsimp only
  rw [show y % 4 = a by omega, show y / 8 % 2 = c by omega, show y / 4 % 2 = d by omega]
set_option maxRecDepth 100000 in
theorem ram_sp1 : ∀ (v : Fin 32), bits .andNot .i64 (v.val : Int) 1 = ((v.val - v.val % 2 : Nat) : Int) := by decide
set_option maxRecDepth 100000 in
theorem ram_sp2 : ∀ (n : Fin 32) (a : Fin 4), bits .andNot .i64 (n.val : Int) (2 ^ (a.val + 1)) = ((n.val - n.val / 2 ^ (a.val + 1) % 2 * 2 ^ (a.val + 1) : Nat) : Int) := by decide
/-- What the specification makes of a memory. -/
def ramS (v a c d : Nat) : Nat :=
  let n := v - v % 2 + v / 2 ^ (a + 1) % 2
  if c = 1 then n - n / 2 ^ (a + 1) % 2 * 2 ^ (a + 1) + d * 2 ^ (a + 1) else n
set_option maxRecDepth 100000 in
theorem ramS_eq : ∀ (v : Fin 32) (y : Fin 16), ramI ((v.val : Nat) : Int) ((y.val : Nat) : Int) = (ramS v.val (y.val % 4) (y.val / 8 % 2) (y.val / 4 % 2) : Int) := by decide
theorem ramS_of {v : Nat} (hv : v < 32) (x : Int) {a c d : Nat} (ha : x % 4 = (a : Int)) (hc : x / 8 % 2 = (c : Int)) (hd : x / 4 % 2 = (d : Int)) : ramI (v : Int) x = (ramS v a c d : Int) := by
  rw [ramI_mod]
  obtain ⟨y, hy⟩ : ∃ y : Nat, x % 16 = (y : Int) := ⟨(x % 16).toNat, by omega⟩
  have h := ramS_eq ⟨v, hv⟩ ⟨y, by omega⟩
  rw [hy]
  rw [h]
  dsimp only
  rw [show y % 4 = a by omega, show y / 8 % 2 = c by omega, show y / 4 % 2 = d by omega]
theorem specSeq_at (k v x : Int) {r : Int} (w : World) (hr : seqI k v x = r) :
    Calls Try.prog 49 #[.int .i64 k, .int .i64 v, .int .i64 x] w fun e w' => e = .returned (.int .i64 r) ∧ Below w.heap.size w w' := by
  have HR := Lib.hid hr
  clear hr
  by_cases k0 : k = 0
  · subst k0
    by_cases h1 : 0 ≤ v ∧ v ≤ 1
    · have HQ := Lib.hid (show decide ((0 : Int) ≤ v ∧ v ≤ 1) = true from decide_eq_true h1)
      have e1 := and_one x
      have HE := Lib.hid (show x % 2 = r by rw [← HR.out]; unfold seqI; rw [if_pos ⟨rfl, h1⟩])
      rw [HE.out] at e1
      go_enter Try.func49, Try.ntmps49
      go_wp2_with fail
      refine (specIn_at _ _ _ _ HQ.out).mono ?_
      rintro e w1 ⟨rfl, hb⟩
      have HB := Lib.hid hb
      clear hb
      go_wp2
      go_ret
      exact ⟨rfl, HB.out⟩
    · have HQ := Lib.hid (show decide ((0 : Int) ≤ v ∧ v ≤ 1) = false from decide_eq_false h1)
      have HE : r = -1 := by rw [← HR.out]; unfold seqI; rw [if_neg (fun c => h1 c.2), if_neg (by omega)]
      subst HE
      clear h1
      go_enter Try.func49, Try.ntmps49
      go_wp2_with fail
      refine (specIn_at _ _ _ _ HQ.out).mono ?_
      rintro e w1 ⟨rfl, hb⟩
      have HB := Lib.hid hb
      clear hb
      go_wp2
      go_ret
      exact ⟨rfl, HB.out⟩
  have b0 : (k == 0) = false := by simp [k0]
  by_cases k1 : k = 1
  · subst k1
    by_cases h1 : 0 ≤ v ∧ v ≤ 31
    · have HQ := Lib.hid (show decide ((0 : Int) ≤ v ∧ v ≤ 31) = true from decide_eq_true h1)
      obtain ⟨u, rfl⟩ := Int.eq_ofNat_of_zero_le h1.1
      have hu : u < 32 := by omega
      have HE : ramI (u : Int) x = r := by rw [← HR.out]; unfold seqI; rw [if_neg (by omega), if_pos ⟨rfl, h1⟩]
      obtain ⟨a, ha, ha4⟩ : ∃ a : Nat, x % 4 = (a : Int) ∧ a < 4 := ⟨(x % 4).toNat, by omega, by omega⟩
      obtain ⟨c, hc, hc2⟩ : ∃ c : Nat, x / 8 % 2 = (c : Int) ∧ c < 2 := ⟨(x / 8 % 2).toNat, by omega, by omega⟩
      obtain ⟨d, hd, hd2⟩ : ∃ d : Nat, x / 4 % 2 = (d : Int) ∧ d < 2 := ⟨(x / 4 % 2).toNat, by omega, by omega⟩
      have hR := (ramS_of hu x ha hc hd).symm.trans HE
      have n1 := ram_sp1 ⟨u, hu⟩
      dsimp only at n1
      obtain ⟨m, hm⟩ : ∃ m : Nat, u - u % 2 = m := ⟨_, rfl⟩
      rw [hm] at n1
      obtain ⟨z, hz, hz2⟩ : ∃ z : Nat, u / 2 ^ (a + 1) % 2 = z ∧ z < 2 := ⟨_, rfl, by omega⟩
      have zi : (u : Int) / 2 ^ (a + 1) % 2 = (z : Int) := by rw [← hz, Int.natCast_emod, Int.natCast_ediv, Int.natCast_pow]; rfl
      have hmz : m + z < 32 := by omega
      have n2 := ram_sp2 ⟨m + z, hmz⟩ ⟨a, ha4⟩
      dsimp only at n2
      obtain ⟨q, hq⟩ : ∃ q : Nat, m + z - (m + z) / 2 ^ (a + 1) % 2 * 2 ^ (a + 1) = q := ⟨_, rfl⟩
      rw [hq] at n2
      have hq32 : q < 32 := by omega
      have eA := and_three x
      rw [ha] at eA
      have eC := and_one (x / 8)
      rw [hc] at eC
      have eD := and_one (x / 4)
      rw [hd] at eD
      have HM := Lib.hid hm
      have HZ := Lib.hid hz
      have HQQ := Lib.hid hq
      have HRR := Lib.hid hR
      have hm32 : m < 32 := by omega
      clear ha hc hd hm hz hq hR HE h1
      rcases (by omega : a = 0 ∨ a = 1 ∨ a = 2 ∨ a = 3) with rfl | rfl | rfl | rfl
      · have e3 : bits .andNot .i64 ((m : Int) + (z : Int)) 2 = (q : Int) := n2
        have e5 := and_one ((u : Int) / 2)
        have e6 : (u : Int) / 2 % 2 = (z : Int) := zi
        rw [e6] at e5
        clear n2 zi e6
        rcases (by omega : c = 0 ∨ c = 1) with rfl | rfl
        · have hF : ((m + z : Nat) : Int) = r := by rw [← HRR.out]; simp only [ramS]; rw [if_neg (by decide), HM.out, HZ.out]
          clear e3
          go_enter Try.func49, Try.ntmps49
          go_wp2_with fail
          refine (specIn_at _ _ _ _ HQ.out).mono ?_
          rintro e w1 ⟨rfl, hb⟩
          have HB := Lib.hid hb
          clear hb
          go_wp2
          go_ret
          refine ⟨ret_i64 ?_, HB.out⟩
          rw [← hF]
          go_num
        · have hF : ((q + d * 2 : Nat) : Int) = r := by rw [← HRR.out]; simp only [ramS, ↓reduceIte, HM.out, HZ.out, HQQ.out]
          go_enter Try.func49, Try.ntmps49
          go_wp2_with fail
          refine (specIn_at _ _ _ _ HQ.out).mono ?_
          rintro e w1 ⟨rfl, hb⟩
          have HB := Lib.hid hb
          clear hb
          go_wp2_with fail
          go_quiet (fail)
          go_wp2
          go_ret
          refine ⟨ret_i64 ?_, bDrewN HB.out _⟩
          rw [← hF]
          go_num
      · have e3 : bits .andNot .i64 ((m : Int) + (z : Int)) 4 = (q : Int) := n2
        have e5 := and_one ((u : Int) / 4)
        have e6 : (u : Int) / 4 % 2 = (z : Int) := zi
        rw [e6] at e5
        clear n2 zi e6
        rcases (by omega : c = 0 ∨ c = 1) with rfl | rfl
        · have hF : ((m + z : Nat) : Int) = r := by rw [← HRR.out]; simp only [ramS]; rw [if_neg (by decide), HM.out, HZ.out]
          clear e3
          go_enter Try.func49, Try.ntmps49
          go_wp2_with fail
          refine (specIn_at _ _ _ _ HQ.out).mono ?_
          rintro e w1 ⟨rfl, hb⟩
          have HB := Lib.hid hb
          clear hb
          go_wp2
          go_ret
          refine ⟨ret_i64 ?_, HB.out⟩
          rw [← hF]
          go_num
        · have hF : ((q + d * 4 : Nat) : Int) = r := by rw [← HRR.out]; simp only [ramS, ↓reduceIte, HM.out, HZ.out, HQQ.out]
          go_enter Try.func49, Try.ntmps49
          go_wp2_with fail
          refine (specIn_at _ _ _ _ HQ.out).mono ?_
          rintro e w1 ⟨rfl, hb⟩
          have HB := Lib.hid hb
          clear hb
          go_wp2_with fail
          go_quiet (fail)
          go_wp2
          go_ret
          refine ⟨ret_i64 ?_, bDrewN HB.out _⟩
          rw [← hF]
          go_num
      · have e3 : bits .andNot .i64 ((m : Int) + (z : Int)) 8 = (q : Int) := n2
        have e5 := and_one ((u : Int) / 8)
        have e6 : (u : Int) / 8 % 2 = (z : Int) := zi
        rw [e6] at e5
        clear n2 zi e6
        rcases (by omega : c = 0 ∨ c = 1) with rfl | rfl
        · have hF : ((m + z : Nat) : Int) = r := by rw [← HRR.out]; simp only [ramS]; rw [if_neg (by decide), HM.out, HZ.out]
          clear e3
          go_enter Try.func49, Try.ntmps49
          go_wp2_with fail
          refine (specIn_at _ _ _ _ HQ.out).mono ?_
          rintro e w1 ⟨rfl, hb⟩
          have HB := Lib.hid hb
          clear hb
          go_wp2
          go_ret
          refine ⟨ret_i64 ?_, HB.out⟩
          rw [← hF]
          go_num
        · have hF : ((q + d * 8 : Nat) : Int) = r := by rw [← HRR.out]; simp only [ramS, ↓reduceIte, HM.out, HZ.out, HQQ.out]
          go_enter Try.func49, Try.ntmps49
          go_wp2_with fail
          refine (specIn_at _ _ _ _ HQ.out).mono ?_
          rintro e w1 ⟨rfl, hb⟩
          have HB := Lib.hid hb
          clear hb
          go_wp2_with fail
          go_quiet (fail)
          go_wp2
          go_ret
          refine ⟨ret_i64 ?_, bDrewN HB.out _⟩
          rw [← hF]
          go_num
      · have e3 : bits .andNot .i64 ((m : Int) + (z : Int)) 16 = (q : Int) := n2
        have e5 := and_one ((u : Int) / 16)
        have e6 : (u : Int) / 16 % 2 = (z : Int) := zi
        rw [e6] at e5
        clear n2 zi e6
        rcases (by omega : c = 0 ∨ c = 1) with rfl | rfl
        · have hF : ((m + z : Nat) : Int) = r := by rw [← HRR.out]; simp only [ramS]; rw [if_neg (by decide), HM.out, HZ.out]
          clear e3
          go_enter Try.func49, Try.ntmps49
          go_wp2_with fail
          refine (specIn_at _ _ _ _ HQ.out).mono ?_
          rintro e w1 ⟨rfl, hb⟩
          have HB := Lib.hid hb
          clear hb
          go_wp2
          go_ret
          refine ⟨ret_i64 ?_, HB.out⟩
          rw [← hF]
          go_num
        · have hF : ((q + d * 16 : Nat) : Int) = r := by rw [← HRR.out]; simp only [ramS, ↓reduceIte, HM.out, HZ.out, HQQ.out]
          go_enter Try.func49, Try.ntmps49
          go_wp2_with fail
          refine (specIn_at _ _ _ _ HQ.out).mono ?_
          rintro e w1 ⟨rfl, hb⟩
          have HB := Lib.hid hb
          clear hb
          go_wp2_with fail
          go_quiet (fail)
          go_wp2
          go_ret
          refine ⟨ret_i64 ?_, bDrewN HB.out _⟩
          rw [← hF]
          go_num
    · have HQ := Lib.hid (show decide ((0 : Int) ≤ v ∧ v ≤ 31) = false from decide_eq_false h1)
      have HE : r = -1 := by rw [← HR.out]; unfold seqI; rw [if_neg (by omega), if_neg (fun c => h1 c.2)]
      subst HE
      clear h1
      go_enter Try.func49, Try.ntmps49
      go_wp2_with fail
      refine (specIn_at _ _ _ _ HQ.out).mono ?_
      rintro e w1 ⟨rfl, hb⟩
      have HB := Lib.hid hb
      clear hb
      go_wp2
      go_ret
      exact ⟨rfl, HB.out⟩
  · have b1 : (k == 1) = false := by simp [k1]
    have HE : r = -1 := by rw [← HR.out]; unfold seqI; rw [if_neg (fun c => k0 c.1), if_neg (fun c => k1 c.1)]
    subst HE
    go_enter Try.func49, Try.ntmps49
    go_wp2
    go_ret
    exact ⟨rfl, by (repeat' (first | assumption | exact Below.refl _ _ | refine bDrewN ?_ _ | refine Below.drew ?_ | refine bAlloc ?_ (Nat.le_refl _) _ | refine bSet ?_ (by first | exact Nat.le_refl _ | omega | (simp <;> omega)) _))⟩
end Go.Proofs.Ytiejilmgchmppaa
/- NrN: The values of nodes: what needs no walk. -/
namespace Go.Proofs.Ytiejilmgchmppaa
open Go.RowKit
set_option linter.unusedVariables false
set_option linter.unusedSimpArgs false

theorem vals_no {n : DNet} {st : List Int} {x : Int} (h : stateB n st = false) : valO n st x = [] := by unfold valO; rw [h]; rfl
theorem vals_yes {n : DNet} {st : List Int} {x : Int} (h : stateB n st = true) : valO n st x = valK n st x n.2.2.1.length := by unfold valO; rw [if_pos h]
theorem fit_01 {L : List Int} (h : ∀ j, 0 ≤ L.getD j 0 ∧ L.getD j 0 ≤ 1) : ∀ x ∈ L, Fit x := fun x hx => by
  obtain ⟨j, hj, rfl⟩ := List.getElem_of_mem hx
  have := h j
  rw [List.getD_eq_getElem?_getD, List.getElem?_eq_getElem hj] at this
  unfold Fit
  simp only [Option.getD_some] at this
  omega
theorem get_of_len {L : List Int} {j N : Nat} (hl : L.length = N) (h : j < N) : L[j]? = some (L.getD j 0) := by
  rw [List.getD_eq_getElem?_getD, List.getElem?_eq_getElem (by omega)]; rfl
theorem and_bit : ∀ (a b : Fin 2), bits .and .i64 (a.val : Int) (b.val : Int) = ((a.val * b.val : Nat) : Int) := by decide
theorem and_01 {a b : Int} (ha : 0 ≤ a ∧ a ≤ 1) (hb : 0 ≤ b ∧ b ≤ 1) : bits .and .i64 a b = a * b := by
  obtain ⟨p, rfl⟩ := Int.eq_ofNat_of_zero_le ha.1
  obtain ⟨q, rfl⟩ := Int.eq_ofNat_of_zero_le hb.1
  have := and_bit ⟨p, by omega⟩ ⟨q, by omega⟩
  dsimp only at this
  rw [this, Int.natCast_mul]
theorem shr_var (x : Int) {k : Nat} (h : k ≤ 64) : x / 2 ^ min (k : Int).toNat 64 = x / 2 ^ k := by rw [show min (k : Int).toNat 64 = k by omega]
theorem regK_step {n : DNet} {st : List Int} {xv x : Int} {k : Nat} (hx : st[k]? = some x) : regK n st xv (k + 1) = (regK n st xv k).set (1 + n.1.toNat + k) (x % 2) := by
  conv => lhs; unfold regK
  rw [List.getD_eq_getElem?_getD, hx]
  rfl
theorem valK_step {n : DNet} {st : List Int} {x : Int} {k p q : Nat} (ha : n.2.2.1[k]? = some ((p : Int), (q : Int))) : valK n st x (k + 1) = (valK n st x k).set (firN n + k) (bitV (valK n st x k) p * bitV (valK n st x k) q) := by
  conv => lhs; unfold valK
  rw [ha]
  rfl
def LitsIn (V L : List Int) : Prop := ∀ r ∈ L, ∃ x : Nat, r = (x : Int) ∧ x / 2 < V.length
theorem mask_step {V L : List Int} {k x : Nat} (h : L[k]? = some (x : Int)) : maskS V L (k + 1) = maskS V L k + bitV V x * 2 ^ k := by
  conv => lhs; unfold maskS
  rw [List.getD_eq_getElem?_getD, h]
  simp
theorem start_no {n : DNet} (h : netB n = false) : startO n = [] := by unfold startO; rw [h]; rfl
theorem start_yes {n : DNet} (h : netB n = true) : startO n = n.2.1.map (·.2.1) := by unfold startO; rw [if_pos h]
end Go.Proofs.Ytiejilmgchmppaa
/- NrP: The values of nodes as lists that grow: the plain part. -/
namespace Go.Proofs.Ytiejilmgchmppaa
open Go.RowKit
set_option linter.unusedVariables false
set_option linter.unusedSimpArgs false

def insA (x : Int) (k : Nat) : List Int := 0 :: (List.range k).map fun i => x / 2 ^ i % 2
def regA (st : List Int) (x : Int) (I k : Nat) : List Int := insA x I ++ (st.take k).map (· % 2)
def valA (n : DNet) (st : List Int) (x : Int) : Nat → List Int
  | 0 => regA st x n.1.toNat n.2.1.length
  | k + 1 => match n.2.2.1[k]? with
    | some a => valA n st x k ++ [bitV (valA n st x k) a.1.toNat * bitV (valA n st x k) a.2.toNat]
    | none => valA n st x k
theorem insA_len (x : Int) (k : Nat) : (insA x k).length = 1 + k := by simp [insA]; omega
theorem insA_step (x : Int) (k : Nat) : insA x (k + 1) = insA x k ++ [x / 2 ^ k % 2] := by simp [insA, List.range_succ]
theorem regA_zero (st : List Int) (x : Int) (I : Nat) : regA st x I 0 = insA x I := by simp [regA]
theorem regA_step {st : List Int} {x y : Int} {I k : Nat} (h : st[k]? = some y) : regA st x I (k + 1) = regA st x I k ++ [y % 2] := by
  unfold regA
  rw [List.take_add_one, h]
  simp
theorem regA_len {st : List Int} (x : Int) {I k : Nat} (h : k ≤ st.length) : (regA st x I k).length = 1 + I + k := by
  unfold regA
  rw [List.length_append, insA_len, List.length_map, List.length_take]
  omega
theorem valA_step {n : DNet} {st : List Int} {x : Int} {k p q : Nat} (ha : n.2.2.1[k]? = some ((p : Int), (q : Int))) : valA n st x (k + 1) = valA n st x k ++ [bitV (valA n st x k) p * bitV (valA n st x k) q] := by
  conv => lhs; unfold valA
  rw [ha]
  rfl
theorem set_app (A : List Int) (m : Nat) (y : Int) {i : Nat} (h : A.length = i) : (A ++ List.replicate (m + 1) 0).set i y = (A ++ [y]) ++ List.replicate m 0 := by
  subst h
  rw [List.set_append_right _ _ (Nat.le_refl _), Nat.sub_self, List.replicate_succ, List.set_cons_zero, List.append_assoc]
  rfl
theorem bitV_app (A B : List Int) {l : Nat} (h : l / 2 < A.length) : bitV (A ++ B) l = bitV A l := by
  unfold bitV
  rw [List.getD_eq_getElem?_getD, List.getD_eq_getElem?_getD, List.getElem?_append_left h]
theorem insK_app (n : DNet) (x : Int) (hN : 1 + n.1.toNat ≤ netN n) : ∀ k, k ≤ n.1.toNat → insK n x k = insA x k ++ List.replicate (netN n - (1 + k)) 0
  | 0, _ => by
    obtain ⟨m, hm⟩ : ∃ m, netN n = m + 1 := ⟨netN n - 1, by omega⟩
    unfold insK
    rw [hm, List.replicate_succ]
    simp [insA]
  | k + 1, h => by
    obtain ⟨m, hm⟩ : ∃ m, netN n - (1 + k) = m + 1 := ⟨netN n - (1 + k) - 1, by omega⟩
    unfold insK
    rw [insK_app n x hN k (by omega), hm, set_app _ _ _ (insA_len x k), insA_step]
    rw [show netN n - (1 + (k + 1)) = m by omega]
theorem regK_app (n : DNet) (st : List Int) (x : Int) (hN : 1 + n.1.toNat + n.2.1.length ≤ netN n) (hl : st.length = n.2.1.length) : ∀ k, k ≤ n.2.1.length → regK n st x k = regA st x n.1.toNat k ++ List.replicate (netN n - (1 + n.1.toNat + k)) 0
  | 0, _ => by unfold regK; rw [insK_app n x (by omega) _ (Nat.le_refl _), regA_zero]; rfl
  | k + 1, h => by
    obtain ⟨m, hm⟩ : ∃ m, netN n - (1 + n.1.toNat + k) = m + 1 := ⟨netN n - (1 + n.1.toNat + k) - 1, by omega⟩
    have hx : st[k]? = some (st.getD k 0) := get_of_len rfl (by omega)
    rw [regK_step hx, regK_app n st x hN hl k (by omega), hm, set_app _ _ _ (regA_len x (by omega)), regA_step hx]
    rw [show netN n - (1 + n.1.toNat + (k + 1)) = m by omega]
theorem valK_app {n : DNet} {st : List Int} (x : Int) (hP : NetP n) (hl : st.length = n.2.1.length) : ∀ k, k ≤ n.2.2.1.length → valK n st x k = valA n st x k ++ List.replicate (n.2.2.1.length - k) 0 ∧ (valA n st x k).length = firN n + k
  | 0, _ => by
    have e : netN n = 1 + n.1.toNat + n.2.1.length + n.2.2.1.length := by unfold netN firN; omega
    unfold valK valA
    rw [regK_app n st x (by omega) hl _ (Nat.le_refl _), regA_len x (by omega), e]
    refine ⟨?_, by unfold firN; omega⟩
    rw [show 1 + n.1.toNat + n.2.1.length + n.2.2.1.length - (1 + n.1.toNat + n.2.1.length) = n.2.2.1.length - 0 by omega]
  | k + 1, h => by
    obtain ⟨ih, il⟩ := valK_app x hP hl k (by omega)
    obtain ⟨m, hm⟩ : ∃ m, n.2.2.1.length - k = m + 1 := ⟨n.2.2.1.length - k - 1, by omega⟩
    obtain ⟨a, ha⟩ : ∃ a, n.2.2.1[k]? = some a := ⟨_, List.getElem?_eq_getElem (by omega)⟩
    obtain ⟨p, q, rfl, hp, hq⟩ := hP.and_ k a ha
    rw [valK_step ha, valA_step ha, ih, hm, bitV_app _ _ (by omega), bitV_app _ _ (by omega), set_app _ _ _ il]
    rw [show n.2.2.1.length - (k + 1) = m by omega]
    exact ⟨rfl, by rw [List.length_append, il]; rfl⟩
theorem valO_app {n : DNet} {st : List Int} (x : Int) (h : StateP n st) : valO n st x = valA n st x n.2.2.1.length := by
  rw [vals_yes (stateB_of h), (valK_app x (netP_of h.net) h.len _ (Nat.le_refl _)).1, Nat.sub_self]
  simp
theorem valA_in {n : DNet} {st : List Int} (x : Int) (hP : NetP n) (hl : st.length = n.2.1.length) {k : Nat} (hk : k ≤ n.2.2.1.length) (j : Nat) : 0 ≤ (valA n st x k).getD j 0 ∧ (valA n st x k).getD j 0 ≤ 1 := by
  obtain ⟨e, el⟩ := valK_app x hP hl k hk
  by_cases h : j < (valA n st x k).length
  · have := valK_in n st x k j
    rw [e, List.getD_eq_getElem?_getD, List.getElem?_append_left h, ← List.getD_eq_getElem?_getD] at this
    exact this
  · rw [List.getD_eq_getElem?_getD, List.getElem?_eq_none (by omega)]
    simp
theorem rd_own_small {L : List Int} (h : ∀ x ∈ L, 0 ≤ x ∧ x ≤ 1) : ∀ x ∈ L, Fit x := fun x hx => by have := h x hx; unfold Fit; omega
end Go.Proofs.Ytiejilmgchmppaa
/- NrQ: One cycle: the plain part, and what an owned slice keeps. -/
namespace Go.Proofs.Ytiejilmgchmppaa
open Go.RowKit
set_option linter.unusedVariables false
set_option linter.unusedSimpArgs false

theorem valO_lenN {n : DNet} {st : List Int} (x : Int) (h : StateP n st) : (valO n st x).length = netN n := by
  rw [vals_yes (stateB_of h), valK_len]
theorem valO_01 {n : DNet} {st : List Int} (x : Int) (h : StateP n st) (j : Nat) : 0 ≤ (valO n st x).getD j 0 ∧ (valO n st x).getD j 0 ≤ 1 := by
  rw [vals_yes (stateB_of h)]; exact valK_in n st x _ j
theorem lits_seq {n : DNet} {V : List Int} {s : DSeq} {k : Nat} (hP : NetP n) (hV : V.length = netN n) (hs : n.2.1[k]? = some s) : LitsIn V s.2.2 := fun r hr => by
  have hm : r ∈ rootsL n := by
    unfold rootsL
    exact List.mem_append.2 (.inr (List.mem_flatMap.2 ⟨s, List.mem_of_getElem? hs, hr⟩))
  obtain ⟨x, e, hx⟩ := hP.root r hm
  exact ⟨x, e, by rw [hV]; exact hx⟩
theorem lits_out {n : DNet} {V : List Int} (hP : NetP n) (hV : V.length = netN n) : LitsIn V n.2.2.2 := fun r hr => by
  have hm : r ∈ rootsL n := by
    unfold rootsL
    exact List.mem_append.2 (.inl hr)
  obtain ⟨x, e, hx⟩ := hP.root r hm
  exact ⟨x, e, by rw [hV]; exact hx⟩
theorem next_zero (n : DNet) (st V : List Int) : nextL n st V 0 = [] := by simp [nextL]
theorem next_len (n : DNet) (st V : List Int) (k : Nat) : (nextL n st V k).length = k := by simp [nextL]
theorem next_step {n : DNet} {st V : List Int} {k : Nat} {s : DSeq} {x : Int} (hs : n.2.1[k]? = some s) (hx : st[k]? = some x) : nextL n st V (k + 1) = nextL n st V k ++ [seqI s.1 x (maskV V s.2.2)] := by
  unfold nextL
  rw [List.range_succ, List.map_append]
  simp [hs, hx]
theorem step_no {n : DNet} {st : List Int} {x : Int} (h : stateB n st = false) : stepO n st x = ([], 0) := by unfold stepO; rw [h]; rfl
theorem step_yes {n : DNet} {st : List Int} {x : Int} (h : stateB n st = true) : stepO n st x = (nextL n st (valO n st x) n.2.1.length, maskV (valO n st x) n.2.2.2) := by unfold stepO; rw [if_pos h]
theorem own_blk {w : World} {B : Nat} {v : Value} {L : List Int} (h : OwnsI w B v L) (hl : 0 < L.length) : ∃ g cap, v = .slice (some ⟨g, 0, none⟩) L.length cap ∧ B ≤ g ∧ g < w.heap.size := by
  rcases h.2 with ⟨rfl, h0⟩ | ⟨g, cap, cur, rfl, e2, e3, e4, e5, e6⟩
  · omega
  · exact ⟨g, cap, rfl, e2, (Array.getElem?_eq_some_iff.1 e3).1⟩
theorem ownI_kept {w w' : World} {B g n c : Nat} {L : List Int} {row : Option Nat} (h : OwnsI w B (.slice (some ⟨g, 0, none⟩) n c) L) (hg : w.grownBy w' row) (hne : row ≠ some g) : OwnsI w' B (.slice (some ⟨g, 0, none⟩) n c) L := by
  unfold OwnsI at h ⊢
  exact World.ownsRow.kept h hg (.inr (fun e => hne e.symm))
/-- The values of a slice that stays behind an append of another. -/
theorem keep_grown {w w' : World} {row : Option Nat} (h : w.grownBy w' row) {b o : Nat} {v : Value} (hc : w.cell? ⟨b, o, none⟩ = some v) (hne : row ≠ some b) : w'.cell? ⟨b, o, none⟩ = some v := grownC h hc hne
theorem own_int {w' : World} {B : Nat} {A' : Option Addr} {c' : Nat} {L : List Int} {x : Int} (h : w'.ownsRow B 3 1 (.slice A' (L.length + 1) c') (L.length + 1) (L.map vI ++ [.int .i64 x])) : OwnsI w' B (.slice A' (L.length + 1) c') (L ++ [x]) := by
  unfold OwnsI
  rw [List.length_append, List.map_append]
  exact h
end Go.Proofs.Ytiejilmgchmppaa
/- NrR: Runs: the plain part. -/
namespace Go.Proofs.Ytiejilmgchmppaa
open Go.RowKit
set_option linter.unusedVariables false
set_option linter.unusedSimpArgs false

def outsK (n : DNet) (xs : List Int) (k : Nat) : List Int := (List.range k).map fun t => (stepO n (stAt n xs t) (xs.getD t 0)).2
theorem outs_zero (n : DNet) (xs : List Int) : outsK n xs 0 = [] := rfl
theorem outs_len (n : DNet) (xs : List Int) (k : Nat) : (outsK n xs k).length = k := by simp [outsK]
theorem outs_step {n : DNet} {xs S : List Int} {x o : Int} {k : Nat} (hx : xs[k]? = some x) (h : stepO n (stAt n xs k) x = (S, o)) : outsK n xs (k + 1) = outsK n xs k ++ [o] ∧ stAt n xs (k + 1) = S := by
  have e : xs.getD k 0 = x := by rw [List.getD_eq_getElem?_getD, hx]; rfl
  constructor
  · unfold outsK
    rw [List.range_succ, List.map_append, List.map_cons, List.map_nil, e, h]
  · conv => lhs; unfold stAt
    rw [e, h]
theorem run_no {n : DNet} {xs : List Int} (h : ¬ (netB n = true ∧ xs.length ≤ 16)) : runO n xs = [] := by unfold runO; rw [if_neg h]
theorem run_yes {n : DNet} {xs : List Int} (h : netB n = true) (hl : xs.length ≤ 16) : runO n xs = outsK n xs xs.length := by unfold runO; rw [if_pos ⟨h, hl⟩]; rfl
theorem state_fit {n : DNet} {st : List Int} (h : StateP n st) : ∀ y ∈ st, Fit y := fun y hy => by
  obtain ⟨j, hj, rfl⟩ := List.getElem_of_mem hy
  have h3 := h.val j _ (List.getElem?_eq_getElem (by rw [← h.len]; exact hj))
  rw [List.getD_eq_getElem?_getD, List.getElem?_eq_getElem hj, Option.getD_some] at h3
  have h4 := of_decide_eq_true h3
  unfold Fit
  omega
theorem step_out {n : DNet} {st : List Int} {x : Int} (h : StateP n st) : 0 ≤ (stepO n st x).2 ∧ (stepO n st x).2 < 65536 := by
  rw [step_yes (stateB_of h)]
  dsimp only
  have h1 := maskS_in (valO n st x) n.2.2.2 n.2.2.2.length
  have h2 : (2 : Nat) ^ n.2.2.2.length ≤ 2 ^ 16 := Nat.pow_le_pow_right (by omega) (netP_of h.net).sz.o16
  have h3 : ((2 : Int) ^ n.2.2.2.length) = ((2 ^ n.2.2.2.length : Nat) : Int) := by rw [Int.natCast_pow]; rfl
  unfold maskV
  omega
theorem outs_fit {n : DNet} {xs : List Int} (h : netB n = true) (k : Nat) : ∀ y ∈ outsK n xs k, Fit y := fun y hy => by
  obtain ⟨t, _, rfl⟩ := List.mem_map.1 hy
  have := step_out (x := xs.getD t 0) (stAt_ok h xs t)
  unfold Fit
  omega
theorem ownI_stays {w w' : World} {B : Nat} {v : Value} {L : List Int} {row : Option Nat} (h : OwnsI w B v L) (hg : w.grownBy w' row) (hne : v.ownBlock = none ∨ v.ownBlock ≠ row) : OwnsI w' B v L := by
  unfold OwnsI at h ⊢
  exact World.ownsRow.kept h hg hne
/-- What was made behind a world shares no block with what was there. -/
theorem own_apart {w w' : World} {B : Nat} {v u : Value} {L K : List Int} (h : OwnsI w B v L) (h' : OwnsI w' w.heap.size u K) : u.ownBlock = none ∨ u.ownBlock ≠ v.ownBlock := by
  cases e : u.ownBlock with
  | none => exact .inl rfl
  | some g =>
    refine .inr fun e2 => ?_
    have h1 := (h'.lt g e).1
    have h2 := (h.lt g e2.symm).2
    omega
theorem own_apart2 {w' : World} {B N : Nat} {u v v2 : Value} {L : List Int} (h' : OwnsI w' B u L) (hne : u.ownBlock = none ∨ u.ownBlock ≠ v.ownBlock) (hat : v2.ownBlock = v.ownBlock ∨ v2.ownBlock = some N) (hN : w'.heap.size ≤ N) : u.ownBlock = none ∨ u.ownBlock ≠ v2.ownBlock := by
  rcases hat with e | e
  · rw [e]; exact hne
  · cases e2 : u.ownBlock with
    | none => exact .inl rfl
    | some g =>
      refine .inr fun e3 => ?_
      rw [e] at e3
      injection e3 with e3
      have := (h'.lt g e2).2
      omega
end Go.Proofs.Ytiejilmgchmppaa
