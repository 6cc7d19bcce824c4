/-
  NrM, BitI, Nr1, Nr2, Nr3, Nr4, NrP, Nr5, Nr6, Nr7, NrQ, NrR as one text.
-/
import Derived.Test.YtedamhkcblemdaaNeA
import Derived.Test.YtedamhkcblemdaaBits64
import Derived.BigQuiet
import Derived.Deep.QuietTactic
import Derived.Deep.RegionHeld3
import Derived.Test.YtedamhkcblemdaaNeB
/- NrM: Runs of graphs: the plain part (stage 9). -/
namespace Go.Proofs.Ytedamhkcblemdaa
open Go.RowKit
set_option linter.unusedVariables false
set_option linter.unusedSimpArgs false

/-- What a memory of value v shows next for the inputs x (its four bits). -/
def ramI (v x : Int) : Int :=
  let a : Nat := (x % 4).toNat + 1
  let nx : Int := v - v % 2 + v / 2 ^ a % 2
  if x / 8 % 2 = 1 then nx - nx / 2 ^ a % 2 * 2 ^ a + x / 4 % 2 * 2 ^ a else nx
def seqI (k v x : Int) : Int := if k = 0 ∧ 0 ≤ v ∧ v ≤ 1 then x % 2 else if k = 1 ∧ 0 ≤ v ∧ v ≤ 31 then ramI v x else -1
theorem ramI_mod (v x : Int) : ramI v x = ramI v (x % 16) := by
  have h4 : x % 16 % 4 = x % 4 := by omega
  have h8 : x % 16 / 8 % 2 = x / 8 % 2 := by omega
  have h2 : x % 16 / 4 % 2 = x / 4 % 2 := by omega
  unfold ramI
  rw [h4, h8, h2]
set_option maxRecDepth 100000 in
theorem ramI_all : ∀ (v : Fin 32) (y : Fin 16), 0 ≤ ramI ((v.val : Nat) : Int) ((y.val : Nat) : Int) ∧ ramI ((v.val : Nat) : Int) ((y.val : Nat) : Int) ≤ 31 := by decide
theorem ramI_in {v : Int} (h0 : 0 ≤ v) (h1 : v ≤ 31) (x : Int) : 0 ≤ ramI v x ∧ ramI v x ≤ 31 := by
  rw [ramI_mod]
  have h := ramI_all ⟨v.toNat, by omega⟩ ⟨(x % 16).toNat, by omega⟩
  rw [show (((⟨v.toNat, by omega⟩ : Fin 32).val : Nat) : Int) = v from Int.toNat_of_nonneg h0, show (((⟨(x % 16).toNat, by omega⟩ : Fin 16).val : Nat) : Int) = x % 16 from Int.toNat_of_nonneg (by omega)] at h
  exact h
/-- A value that an element of kind k may have. -/
def valB (k v : Int) : Bool := decide ((k = 0 ∧ 0 ≤ v ∧ v ≤ 1) ∨ (k = 1 ∧ 0 ≤ v ∧ v ≤ 31))
theorem seqI_ok {k v : Int} (h : valB k v = true) (x : Int) : valB k (seqI k v x) = true ∧ 0 ≤ seqI k v x := by
  have h := of_decide_eq_true h
  unfold seqI
  rcases h with ⟨rfl, h0, h1⟩ | ⟨rfl, h0, h1⟩
  · rw [if_pos ⟨rfl, h0, h1⟩]
    exact ⟨decide_eq_true (Or.inl ⟨rfl, by omega, by omega⟩), by omega⟩
  · rw [if_neg (by omega), if_pos ⟨rfl, h0, h1⟩]
    have h2 := ramI_in h0 h1 x
    exact ⟨decide_eq_true (Or.inr ⟨rfl, h2.1, h2.2⟩), h2.1⟩
theorem seqI_no {k v : Int} (h : valB k v = false) (x : Int) : seqI k v x = -1 := by
  have h := of_decide_eq_false h
  unfold seqI
  rw [if_neg (fun c => h (Or.inl c)), if_neg (fun c => h (Or.inr c))]
theorem seqI_neg (k v x : Int) : decide (seqI k v x < 0) = !valB k v := by
  cases h : valB k v with
  | true => exact decide_eq_false (by have := (seqI_ok h x).2; omega)
  | false => rw [seqI_no h]; rfl
/-- The first k values fit their elements. -/
def stK (n : DNet) (st : List Int) (k : Nat) : Bool := (List.range k).all fun i => valB ((n.2.1[i]?.map (·.1)).getD 0) (st.getD i 0)
def stateB (n : DNet) (st : List Int) : Bool := netB n && (decide (st.length = n.2.1.length) && stK n st n.2.1.length)
theorem stK_step {n : DNet} {st : List Int} {k : Nat} {s : DSeq} {v : Int} (hs : n.2.1[k]? = some s) (hv : st.getD k 0 = v) : stK n st (k + 1) = (stK n st k && valB s.1 v) := by
  unfold stK; rw [List.range_succ, List.all_append]; simp [hs, ← hv]
structure StateP (n : DNet) (st : List Int) : Prop where
  net : netB n = true
  len : st.length = n.2.1.length
  val : ∀ (k : Nat) (s : DSeq), n.2.1[k]? = some s → valB s.1 (st.getD k 0) = true
theorem stateP_of {n : DNet} {st : List Int} (h : stateB n st = true) : StateP n st := by
  unfold stateB at h
  simp only [Bool.and_eq_true] at h
  refine ⟨h.1, of_decide_eq_true h.2.1, fun k s hs => ?_⟩
  have hk := (List.getElem?_eq_some_iff.1 hs).1
  have := List.all_eq_true.1 h.2.2 k (List.mem_range.2 hk)
  simpa [hs] using this
theorem stateB_of {n : DNet} {st : List Int} (h : StateP n st) : stateB n st = true := by
  unfold stateB
  rw [h.net, decide_eq_true h.len]
  simp only [Bool.true_and]
  unfold stK
  refine List.all_eq_true.2 fun k hk => ?_
  have hk := List.mem_range.1 hk
  have := h.val k _ (List.getElem?_eq_getElem hk)
  simpa [List.getElem?_eq_getElem hk] using this
/-- The value of a literal. -/
def bitV (V : List Int) (l : Nat) : Int := (V.getD (l / 2) 0 + (l : Int)) % 2
theorem bitV_in (V : List Int) (l : Nat) : 0 ≤ bitV V l ∧ bitV V l ≤ 1 := by unfold bitV; omega
def insK (n : DNet) (x : Int) : Nat → List Int
  | 0 => List.replicate (netN n) 0
  | k + 1 => (insK n x k).set (1 + k) (x / 2 ^ k % 2)
def regK (n : DNet) (st : List Int) (x : Int) : Nat → List Int
  | 0 => insK n x n.1.toNat
  | k + 1 => (regK n st x k).set (1 + n.1.toNat + k) (st.getD k 0 % 2)
def valK (n : DNet) (st : List Int) (x : Int) : Nat → List Int
  | 0 => regK n st x n.2.1.length
  | k + 1 => match n.2.2.1[k]? with
    | some a => (valK n st x k).set (firN n + k) (bitV (valK n st x k) a.1.toNat * bitV (valK n st x k) a.2.toNat)
    | none => valK n st x k
def valO (n : DNet) (st : List Int) (x : Int) : List Int := if stateB n st then valK n st x n.2.2.1.length else []
theorem insK_len (n : DNet) (x : Int) : ∀ k, (insK n x k).length = netN n
  | 0 => by simp [insK]
  | k + 1 => by unfold insK; rw [List.length_set]; exact insK_len n x k
theorem regK_len (n : DNet) (st : List Int) (x : Int) : ∀ k, (regK n st x k).length = netN n
  | 0 => insK_len n x _
  | k + 1 => by unfold regK; rw [List.length_set]; exact regK_len n st x k
theorem valK_len (n : DNet) (st : List Int) (x : Int) : ∀ k, (valK n st x k).length = netN n
  | 0 => regK_len n st x _
  | k + 1 => by
    unfold valK
    split
    · rw [List.length_set]; exact valK_len n st x k
    · exact valK_len n st x k
theorem insK_in (n : DNet) (x : Int) : ∀ k j, 0 ≤ (insK n x k).getD j 0 ∧ (insK n x k).getD j 0 ≤ 1
  | 0, j => by
    simp only [insK, List.getD_eq_getElem?_getD, List.getElem?_replicate]
    split <;> simp
  | k + 1, j => by
    have ih := insK_in n x k j
    unfold insK
    rw [getD_set]
    split
    · omega
    · exact ih
theorem regK_in (n : DNet) (st : List Int) (x : Int) : ∀ k j, 0 ≤ (regK n st x k).getD j 0 ∧ (regK n st x k).getD j 0 ≤ 1
  | 0, j => insK_in n x _ j
  | k + 1, j => by
    have ih := regK_in n st x k j
    unfold regK
    rw [getD_set]
    split
    · omega
    · exact ih
theorem bit_mul {a b : Int} (ha : 0 ≤ a ∧ a ≤ 1) (hb : 0 ≤ b ∧ b ≤ 1) : 0 ≤ a * b ∧ a * b ≤ 1 := by
  have h1 : a = 0 ∨ a = 1 := by omega
  rcases h1 with rfl | rfl <;> omega
theorem valK_in (n : DNet) (st : List Int) (x : Int) : ∀ k j, 0 ≤ (valK n st x k).getD j 0 ∧ (valK n st x k).getD j 0 ≤ 1
  | 0, j => regK_in n st x _ j
  | k + 1, j => by
    have ih := valK_in n st x k j
    unfold valK
    split
    · rw [getD_set]
      split
      · exact bit_mul (bitV_in _ _) (bitV_in _ _)
      · exact ih
    · exact ih
/-- The values of the first k literals of L as one number. -/
def maskS (V : List Int) (L : List Int) : Nat → Int
  | 0 => 0
  | k + 1 => maskS V L k + bitV V (L.getD k 0).toNat * 2 ^ k
def maskV (V L : List Int) : Int := maskS V L L.length
theorem maskS_in (V L : List Int) : ∀ k, 0 ≤ maskS V L k ∧ maskS V L k < 2 ^ k
  | 0 => by unfold maskS; decide
  | k + 1 => by
    have ih := maskS_in V L k
    have hb := bitV_in V (L.getD k 0).toNat
    unfold maskS
    have h1 : bitV V (L.getD k 0).toNat = 0 ∨ bitV V (L.getD k 0).toNat = 1 := by omega
    rw [Int.pow_succ]
    have hp : (0 : Int) < 2 ^ k := Int.pow_pos (by decide)
    rcases h1 with h1 | h1 <;> rw [h1] <;> omega
def nextL (n : DNet) (st V : List Int) (k : Nat) : List Int := (List.range k).map fun i => seqI ((n.2.1[i]?.map (·.1)).getD 0) (st.getD i 0) (maskV V ((n.2.1[i]?.map (·.2.2)).getD []))
def stepO (n : DNet) (st : List Int) (x : Int) : List Int × Int := if stateB n st then (nextL n st (valO n st x) n.2.1.length, maskV (valO n st x) n.2.2.2) else ([], 0)
def startO (n : DNet) : List Int := if netB n then n.2.1.map (·.2.1) else []
/-- The state before cycle t. -/
def stAt (n : DNet) (xs : List Int) : Nat → List Int
  | 0 => startO n
  | t + 1 => (stepO n (stAt n xs t) (xs.getD t 0)).1
def runO (n : DNet) (xs : List Int) : List Int := if netB n = true ∧ xs.length ≤ 16 then (List.range xs.length).map fun t => (stepO n (stAt n xs t) (xs.getD t 0)).2 else []
theorem start_ok {n : DNet} (h : netB n = true) : StateP n (startO n) := by
  have hP := netP_of h
  unfold startO
  rw [if_pos h]
  refine ⟨h, by simp, fun k s hs => ?_⟩
  have hk := (List.getElem?_eq_some_iff.1 hs).1
  have hm := hP.seq s (List.mem_of_getElem? hs)
  have e : (n.2.1.map (·.2.1)).getD k 0 = s.2.1 := by
    rw [List.getD_eq_getElem?_getD, List.getElem?_map, hs]; rfl
  rw [e]
  have hm := of_decide_eq_true hm
  exact decide_eq_true (by omega)
theorem step_ok {n : DNet} {st : List Int} (h : StateP n st) (x : Int) : StateP n (stepO n st x).1 := by
  unfold stepO
  rw [if_pos (stateB_of h)]
  refine ⟨h.net, by unfold nextL; simp, fun k s hs => ?_⟩
  have hk := (List.getElem?_eq_some_iff.1 hs).1
  have hv := h.val k s hs
  dsimp only
  have e : (nextL n st (valO n st x) n.2.1.length).getD k 0 = seqI s.1 (st.getD k 0) (maskV (valO n st x) s.2.2) := by
    unfold nextL
    rw [List.getD_eq_getElem?_getD, List.getElem?_map, List.getElem?_range hk]
    simp [hs]
  rw [e]
  exact (seqI_ok hv _).1
theorem stAt_ok {n : DNet} (h : netB n = true) (xs : List Int) : ∀ t, StateP n (stAt n xs t)
  | 0 => start_ok h
  | t + 1 => step_ok (stAt_ok h xs t) _
theorem bit_mod (x : Int) {k m : Nat} (h : k < m) : x % 2 ^ m / 2 ^ k % 2 = x / 2 ^ k % 2 := by
  obtain ⟨d, rfl⟩ : ∃ d, m = k + 1 + d := ⟨m - (k + 1), by omega⟩
  have hp : (2 : Int) ^ k ≠ 0 := Int.ne_of_gt (Int.pow_pos (by decide))
  have hx := Int.emod_add_mul_ediv x (2 ^ (k + 1 + d))
  have e : (2 : Int) ^ (k + 1 + d) * (x / 2 ^ (k + 1 + d)) = (2 * (2 ^ d * (x / 2 ^ (k + 1 + d)))) * 2 ^ k := by
    generalize x / 2 ^ (k + 1 + d) = q
    rw [Int.pow_add, Int.pow_succ, Int.mul_assoc, Int.mul_assoc, Int.mul_comm]
  have h2 : x / 2 ^ k = x % 2 ^ (k + 1 + d) / 2 ^ k + 2 * (2 ^ d * (x / 2 ^ (k + 1 + d))) := by
    conv => lhs; rw [← hx]
    rw [e, Int.add_mul_ediv_right _ _ hp]
  rw [h2]
  omega
theorem insK_low (n : DNet) (x : Int) {m : Nat} : ∀ k, k ≤ m → insK n (x % 2 ^ m) k = insK n x k
  | 0, _ => rfl
  | k + 1, h => by
    unfold insK
    rw [insK_low n x k (by omega), bit_mod x (by omega)]
theorem regK_low (n : DNet) (st : List Int) (x : Int) : ∀ k, regK n st (x % 2 ^ n.1.toNat) k = regK n st x k
  | 0 => insK_low n x _ (Nat.le_refl _)
  | k + 1 => by unfold regK; rw [regK_low n st x k]
theorem valK_low (n : DNet) (st : List Int) (x : Int) : ∀ k, valK n st (x % 2 ^ n.1.toNat) k = valK n st x k
  | 0 => regK_low n st x _
  | k + 1 => by unfold valK; rw [valK_low n st x k]
theorem stepO_low (n : DNet) (st : List Int) (x : Int) : stepO n st (x % 2 ^ n.1.toNat) = stepO n st x := by
  unfold stepO valO; rw [valK_low]
theorem stAt_low (n : DNet) (xs : List Int) : ∀ t, t ≤ xs.length → stAt n (xs.map fun x => x % 2 ^ n.1.toNat) t = stAt n xs t
  | 0, _ => rfl
  | t + 1, h => by
    unfold stAt
    rw [stAt_low n xs t (by omega)]
    have e : (xs.map fun x => x % 2 ^ n.1.toNat).getD t 0 = xs.getD t 0 % 2 ^ n.1.toNat := by
      rw [List.getD_eq_getElem?_getD, List.getD_eq_getElem?_getD, List.getElem?_map, List.getElem?_eq_getElem (by omega)]; rfl
    rw [e, stepO_low]
theorem runO_low (n : DNet) (xs : List Int) : runO n (xs.map fun x => x % 2 ^ n.1.toNat) = runO n xs := by
  unfold runO
  rw [List.length_map]
  split
  · refine List.map_congr_left fun t ht => ?_
    have ht := List.mem_range.1 ht
    rw [stAt_low n xs t (by omega)]
    have e : (xs.map fun x => x % 2 ^ n.1.toNat).getD t 0 = xs.getD t 0 % 2 ^ n.1.toNat := by
      rw [List.getD_eq_getElem?_getD, List.getD_eq_getElem?_getD, List.getElem?_map, List.getElem?_eq_getElem (by omega)]; rfl
    rw [e, stepO_low]
  · rfl
/-- A memory shows what was stored last at the address, one cycle after it was read. -/
def ramReads (s a d : Int) : Bool :=
  let wr := ramI s (a + 4 * d + 8); let rd := ramI wr a; let ot := ramI wr ((a + 1) % 4); let pl := ramI s ((a + 1) % 4)
  decide (wr % 2 = s / 2 ^ (a.toNat + 1) % 2 ∧ rd % 2 = d ∧ ot % 2 = pl % 2 ∧ rd / 2 = wr / 2)
set_option maxRecDepth 100000 in
theorem ramReads_all : ∀ (s : Fin 32) (a : Fin 4) (d : Fin 2), ramReads ((s.val : Nat) : Int) ((a.val : Nat) : Int) ((d.val : Nat) : Int) = true := by decide
end Go.Proofs.Ytedamhkcblemdaa
/- BitI: Bits of numbers that may be negative. -/
namespace Go.Proofs.Ytedamhkcblemdaa
open Go.RowKit
set_option linter.unusedVariables false
set_option linter.unusedSimpArgs false

/-- A number and a mask of W ones. -/
theorem and_low (n : Int) (W M : Nat) (hW : W ≤ 60) (hM : M + 1 = 2 ^ W) : bits .and .i64 n (M : Int) = n % ((2 ^ W : Nat) : Int) := by
  have h60 : 2 ^ W ≤ 2 ^ 60 := Nat.pow_le_pow_right (by omega) hW
  have h1 : 1 ≤ 2 ^ W := Nat.pow_pos (by omega)
  show IntKind.i64.wrap ((BitVec.ofInt 64 n &&& BitVec.ofInt 64 (M : Int)).toNat : Int) = _
  rw [BitVec.toNat_and, ofInt_u64 M (by omega)]
  have eM : M = 2 ^ W - 1 := by omega
  rw [eM, Nat.and_two_pow_sub_one_eq_mod, BitVec.toNat_ofInt]
  have hlt : (n % ((2 ^ 64 : Nat) : Int)).toNat % 2 ^ W < 2 ^ W := Nat.mod_lt _ h1
  rw [wrap64_small _ (by omega)]
  have h0 : 0 ≤ n % ((2 ^ 64 : Nat) : Int) := Int.emod_nonneg _ (by decide)
  rw [Int.natCast_emod, Int.toNat_of_nonneg h0]
  refine Int.emod_emod_of_dvd _ ?_
  rw [Int.natCast_dvd_natCast]
  exact Nat.pow_dvd_pow 2 (by omega)
theorem and_one (n : Int) : bits .and .i64 n 1 = n % 2 := and_low n 1 1 (by omega) (by decide)
theorem and_three (n : Int) : bits .and .i64 n 3 = n % 4 := and_low n 2 3 (by omega) (by decide)
end Go.Proofs.Ytedamhkcblemdaa
/- Nr1: The next state of one element, both sides. -/
namespace Go.Proofs.Ytedamhkcblemdaa
open Go.RowKit
set_option linter.unusedVariables false
set_option linter.unusedSimpArgs false

theorem bitOf_at (n : Int) (k : Nat) (hk : k ≤ 63) {r : Int} (w : World) (hr : n / 2 ^ k % 2 = r) :
    Calls Try.prog 106 #[.int .i64 n, .int .i64 (k : Int)] w fun e w' => e = .returned (.int .i64 r) ∧ w = w' := by
  have e1 : n / 2 ^ min (k : Int).toNat 64 = n / 2 ^ k := by rw [show min (k : Int).toNat 64 = k by omega]
  have e2 := and_one (n / 2 ^ k)
  rw [hr] at e2
  clear hr
  go_enter Try.func106, Try.ntmps106
  go_wp2
  go_ret
  exact ⟨rfl, rfl⟩
theorem valB_st (k v : Int) : valB k v = decide (0 ≤ v ∧ v < stI k) := by
  unfold valB stI
  apply decide_eq_decide.2
  by_cases h0 : k = 0
  · simp [h0] <;> omega
  · by_cases h1 : k = 1
    · simp [h1] <;> omega
    · simp [h0, h1] <;> omega
theorem seqVal_at (k v : Int) {r : Bool} (w : World) (hr : valB k v = r) :
    Calls Try.prog 132 #[.int .i64 k, .int .i64 v] w fun e w' => e = .returned (.bool r) ∧ Below w.heap.size w w' := by
  rw [valB_st] at hr
  have HR := Lib.hid hr
  clear hr
  by_cases h0 : v < 0
  · go_enter Try.func132, Try.ntmps132
    go_wp2
    go_ret
    refine ⟨ret_bool ?_, by (repeat' (first | assumption | exact Below.refl _ _ | refine bDrewN ?_ _ | refine Below.drew ?_ | refine bAlloc ?_ (Nat.le_refl _) _ | refine bSet ?_ (by first | exact Nat.le_refl _ | omega | (simp <;> omega)) _))⟩
    rw [← HR.out]
    exact (decide_eq_false (by omega)).symm
  · obtain ⟨q, hq⟩ : ∃ q, stI k = q := ⟨_, rfl⟩
    have HQ := Lib.hid hq
    clear hq
    go_enter Try.func132, Try.ntmps132
    go_wp2_with fail
    refine (seqStates_at k _ HQ.out).mono ?_
    rintro e w1 ⟨rfl, hb⟩
    have HB := Lib.hid hb
    clear hb
    go_wp2
    go_ret
    refine ⟨ret_bool ?_, HB.out⟩
    rw [← HR.out, HQ.out]
    apply decide_eq_decide.2
    omega
theorem trunc2_at (n : Int) {r : Int} (w : World) (hr : n % 4 = r) :
    Calls Try.prog 45 #[.int .i64 n, .int .i64 2] w fun e w' => e = .returned (.int .i64 r) ∧ w = w' := by
  have e1 := and_three n
  rw [hr] at e1
  clear hr
  go_enter Try.func45, Try.ntmps45
  go_wp2
  go_ret
  exact ⟨rfl, rfl⟩
-- GEN
set_option maxRecDepth 100000 in
theorem ram_or1 : ∀ (s : Fin 16) (a : Fin 4) (d o : Fin 2), bits .or .i64 ((s.val - s.val / 2 ^ a.val % 2 * 2 ^ a.val : Nat) : Int) ((d.val : Int) * 2 ^ a.val) = ((s.val - s.val / 2 ^ a.val % 2 * 2 ^ a.val + d.val * 2 ^ a.val : Nat) : Int) ∧ s.val - s.val / 2 ^ a.val % 2 * 2 ^ a.val + d.val * 2 ^ a.val < 16 := by decide
set_option maxRecDepth 100000 in
theorem ram_not1 : ∀ (s : Fin 16) (a : Fin 4), bits .andNot .i64 (s.val : Int) (2 ^ a.val) = ((s.val - s.val / 2 ^ a.val % 2 * 2 ^ a.val : Nat) : Int) := by decide
set_option maxRecDepth 100000 in
theorem ram_or2 : ∀ (s : Fin 16) (o : Fin 2), bits .or .i64 ((s.val : Int) * 2) (o.val : Int) = ((s.val * 2 + o.val : Nat) : Int) := by decide
/-- What the program makes of a memory. -/
def ramP (v a c d : Nat) : Nat :=
  let s := v / 2
  (if c = 1 then s - s / 2 ^ a % 2 * 2 ^ a + d * 2 ^ a else s) * 2 + s / 2 ^ a % 2
set_option maxRecDepth 100000 in
theorem ramP_eq : ∀ (v : Fin 32) (y : Fin 16), ramI ((v.val : Nat) : Int) ((y.val : Nat) : Int) = (ramP v.val (y.val % 4) (y.val / 8 % 2) (y.val / 4 % 2) : Int) := by decide
theorem ramP_of {v : Nat} (hv : v < 32) (x : Int) {a c d : Nat} (ha : x % 4 = (a : Int)) (hc : x / 8 % 2 = (c : Int)) (hd : x / 4 % 2 = (d : Int)) : ramI (v : Int) x = (ramP v a c d : Int) := by
  rw [ramI_mod]
  obtain ⟨y, hy⟩ : ∃ y : Nat, x % 16 = (y : Int) := ⟨(x % 16).toNat, by omega⟩
  have h := ramP_eq ⟨v, hv⟩ ⟨y, by omega⟩
  rw [hy]
  rw [h]
  dsimp only
  rw [show y % 4 = a by omega, show y / 8 % 2 = c by omega, show y / 4 % 2 = d by omega]
theorem ramNext_at (v : Nat) (hv : v < 32) (x : Int) {r : Int} (w : World) (hr : ramI (v : Int) x = r) :
    Calls Try.prog 133 #[.int .i64 (v : Int), .int .i64 x] w fun e w' => e = .returned (.int .i64 r) ∧ Below w.heap.size w w' := by
  obtain ⟨s, hs, hs16⟩ : ∃ s : Nat, v / 2 = s ∧ s < 16 := ⟨_, rfl, by omega⟩
  have es : (v : Int) / 2 = (s : Int) := by omega
  obtain ⟨a, ha, ha4⟩ : ∃ a : Nat, x % 4 = (a : Int) ∧ a < 4 := ⟨(x % 4).toNat, by omega, by omega⟩
  obtain ⟨c, hc, hc2⟩ : ∃ c : Nat, x / 8 % 2 = (c : Int) ∧ c < 2 := ⟨(x / 8 % 2).toNat, by omega, by omega⟩
  obtain ⟨d, hd, hd2⟩ : ∃ d : Nat, x / 4 % 2 = (d : Int) ∧ d < 2 := ⟨(x / 4 % 2).toNat, by omega, by omega⟩
  obtain ⟨ov, ho, ho2⟩ : ∃ ov : Nat, (s : Int) / 2 ^ a % 2 = (ov : Int) ∧ ov < 2 := ⟨s / 2 ^ a % 2, by rw [Int.natCast_emod, Int.natCast_ediv, Int.natCast_pow]; rfl, by omega⟩
  have hon : s / 2 ^ a % 2 = ov := by
    have : ((s / 2 ^ a % 2 : Nat) : Int) = (ov : Int) := by rw [← ho, Int.natCast_emod, Int.natCast_ediv, Int.natCast_pow]; rfl
    omega
  have hR := (ramP_of hv x ha hc hd).symm.trans hr
  have HC := Lib.hid (show x / 2 ^ 3 % 2 = (c : Int) from hc)
  have HD := Lib.hid (show x / 2 ^ 2 % 2 = (d : Int) from hd)
  have HA := Lib.hid ha
  have HO := Lib.hid ho
  have n1 := ram_not1 ⟨s, hs16⟩ ⟨a, ha4⟩
  have n2 := ram_or1 ⟨s, hs16⟩ ⟨a, ha4⟩ ⟨d, hd2⟩ ⟨0, by omega⟩
  dsimp only at n1 n2
  have hp : (s - s / 2 ^ a % 2 * 2 ^ a) + d * 2 ^ a < 16 := n2.2
  have n2 := n2.1
  rcases (by omega : c = 0 ∨ c = 1) with rfl | rfl
  · have e2 := ram_or2 ⟨s, hs16⟩ ⟨ov, ho2⟩
    dsimp only at e2
    have hR2 : ((s * 2 + ov : Nat) : Int) = r := by rw [← hR]; simp only [ramP, hs, hon]; rw [if_neg (by decide)]
    rw [hR2] at e2
    clear hR hR2 hr hc hd ha ho n1 n2 hp hon hs
    go_enter Try.func133, Try.ntmps133
    go_wp2_with fail
    refine (trunc2_at x _ HA.out).mono ?_
    rintro e w1 ⟨rfl, rfl⟩
    go_wp2_with fail
    refine (bitOf_at _ a (by omega) _ HO.out).mono ?_
    rintro e w1 ⟨rfl, rfl⟩
    go_wp2_with fail
    refine (bitOf_at x 3 (by omega) _ HC.out).mono ?_
    rintro e w1 ⟨rfl, rfl⟩
    go_wp2
    go_ret
    exact ⟨rfl, by (repeat' (first | assumption | exact Below.refl _ _ | refine bDrewN ?_ _ | refine Below.drew ?_ | refine bAlloc ?_ (Nat.le_refl _) _ | refine bSet ?_ (by first | exact Nat.le_refl _ | omega | (simp <;> omega)) _))⟩
  · obtain ⟨m, hm⟩ : ∃ m : Nat, s - s / 2 ^ a % 2 * 2 ^ a = m := ⟨_, rfl⟩
    rw [hm] at n1 n2 hp
    obtain ⟨q, hq⟩ : ∃ q : Nat, m + d * 2 ^ a = q := ⟨_, rfl⟩
    rw [hq] at n2 hp
    have e2 := ram_or2 ⟨q, hp⟩ ⟨ov, ho2⟩
    dsimp only at e2
    have hR2 : ((q * 2 + ov : Nat) : Int) = r := by rw [← hR]; simp only [ramP, hs, ↓reduceIte, hm, hq]; rw [hon]
    rw [hR2] at e2
    have hm16 : m < 16 := by omega
    clear hR hR2 hr hc hd ha ho hon hs hm hq
    rcases (by omega : a = 0 ∨ a = 1 ∨ a = 2 ∨ a = 3) with rfl | rfl | rfl | rfl
    · have e3 : bits .andNot .i64 (s : Int) 1 = (m : Int) := n1
      have e4 : bits .or .i64 (m : Int) (d : Int) = (q : Int) := by rw [← n2]; simp
      have wq : wrap64 ((q : Int) * 2) = (q : Int) * 2 := by unfold wrap64; omega
      clear n1 n2
      go_enter Try.func133, Try.ntmps133
      go_wp2_with fail
      refine (trunc2_at x _ HA.out).mono ?_
      rintro e w1 ⟨rfl, rfl⟩
      go_wp2_with fail
      refine (bitOf_at _ 0 (by omega) _ HO.out).mono ?_
      rintro e w1 ⟨rfl, rfl⟩
      go_wp2_with fail
      refine (bitOf_at x 3 (by omega) _ HC.out).mono ?_
      rintro e w1 ⟨rfl, rfl⟩
      go_wp2_with fail
      go_quiet (first | (go_at_call 106; refine quietly (bitOf_at x 2 (by omega) _ HD.out)))
      go_wp2
      go_ret
      exact ⟨rfl, by (repeat' (first | assumption | exact Below.refl _ _ | refine bDrewN ?_ _ | refine Below.drew ?_ | refine bAlloc ?_ (Nat.le_refl _) _ | refine bSet ?_ (by first | exact Nat.le_refl _ | omega | (simp <;> omega)) _))⟩
    · have e3 : bits .andNot .i64 (s : Int) 2 = (m : Int) := n1
      have e4 : bits .or .i64 (m : Int) ((d : Int) * 2) = (q : Int) := n2
      have wq : wrap64 ((q : Int) * 2) = (q : Int) * 2 := by unfold wrap64; omega
      clear n1 n2
      go_enter Try.func133, Try.ntmps133
      go_wp2_with fail
      refine (trunc2_at x _ HA.out).mono ?_
      rintro e w1 ⟨rfl, rfl⟩
      go_wp2_with fail
      refine (bitOf_at _ 1 (by omega) _ HO.out).mono ?_
      rintro e w1 ⟨rfl, rfl⟩
      go_wp2_with fail
      refine (bitOf_at x 3 (by omega) _ HC.out).mono ?_
      rintro e w1 ⟨rfl, rfl⟩
      go_wp2_with fail
      go_quiet (first | (go_at_call 106; refine quietly (bitOf_at x 2 (by omega) _ HD.out)))
      go_wp2
      go_ret
      exact ⟨rfl, by (repeat' (first | assumption | exact Below.refl _ _ | refine bDrewN ?_ _ | refine Below.drew ?_ | refine bAlloc ?_ (Nat.le_refl _) _ | refine bSet ?_ (by first | exact Nat.le_refl _ | omega | (simp <;> omega)) _))⟩
    · have e3 : bits .andNot .i64 (s : Int) 4 = (m : Int) := n1
      have e4 : bits .or .i64 (m : Int) ((d : Int) * 4) = (q : Int) := n2
      have wq : wrap64 ((q : Int) * 2) = (q : Int) * 2 := by unfold wrap64; omega
      clear n1 n2
      go_enter Try.func133, Try.ntmps133
      go_wp2_with fail
      refine (trunc2_at x _ HA.out).mono ?_
      rintro e w1 ⟨rfl, rfl⟩
      go_wp2_with fail
      refine (bitOf_at _ 2 (by omega) _ HO.out).mono ?_
      rintro e w1 ⟨rfl, rfl⟩
      go_wp2_with fail
      refine (bitOf_at x 3 (by omega) _ HC.out).mono ?_
      rintro e w1 ⟨rfl, rfl⟩
      go_wp2_with fail
      go_quiet (first | (go_at_call 106; refine quietly (bitOf_at x 2 (by omega) _ HD.out)))
      go_wp2
      go_ret
      exact ⟨rfl, by (repeat' (first | assumption | exact Below.refl _ _ | refine bDrewN ?_ _ | refine Below.drew ?_ | refine bAlloc ?_ (Nat.le_refl _) _ | refine bSet ?_ (by first | exact Nat.le_refl _ | omega | (simp <;> omega)) _))⟩
    · have e3 : bits .andNot .i64 (s : Int) 8 = (m : Int) := n1
      have e4 : bits .or .i64 (m : Int) ((d : Int) * 8) = (q : Int) := n2
      have wq : wrap64 ((q : Int) * 2) = (q : Int) * 2 := by unfold wrap64; omega
      clear n1 n2
      go_enter Try.func133, Try.ntmps133
      go_wp2_with fail
      refine (trunc2_at x _ HA.out).mono ?_
      rintro e w1 ⟨rfl, rfl⟩
      go_wp2_with fail
      refine (bitOf_at _ 3 (by omega) _ HO.out).mono ?_
      rintro e w1 ⟨rfl, rfl⟩
      go_wp2_with fail
      refine (bitOf_at x 3 (by omega) _ HC.out).mono ?_
      rintro e w1 ⟨rfl, rfl⟩
      go_wp2_with fail
      go_quiet (first | (go_at_call 106; refine quietly (bitOf_at x 2 (by omega) _ HD.out)))
      go_wp2
      go_ret
      exact ⟨rfl, by (repeat' (first | assumption | exact Below.refl _ _ | refine bDrewN ?_ _ | refine Below.drew ?_ | refine bAlloc ?_ (Nat.le_refl _) _ | refine bSet ?_ (by first | exact Nat.le_refl _ | omega | (simp <;> omega)) _))⟩
theorem implSeq_at (k v x : Int) {r : Int} (w : World) (hr : seqI k v x = r) :
    Calls Try.prog 109 #[.int .i64 k, .int .i64 v, .int .i64 x] w fun e w' => e = .returned (.int .i64 r) ∧ Below w.heap.size w w' := by
  obtain ⟨b, hb⟩ : ∃ b, valB k v = b := ⟨_, rfl⟩
  have HV := Lib.hid hb
  cases b with
  | false =>
    rw [seqI_no hb] at hr
    subst hr
    clear hb
    go_enter Try.func109, Try.ntmps109
    go_wp2_with fail
    refine (seqVal_at k v _ HV.out).mono ?_
    rintro e w1 ⟨rfl, hb⟩
    have HB := Lib.hid hb
    clear hb
    go_wp2
    go_ret
    exact ⟨rfl, HB.out⟩
  | true =>
    have hK := of_decide_eq_true hb
    have HR := Lib.hid hr
    clear hb hr
    rcases hK with ⟨rfl, h0, h1⟩ | ⟨rfl, h0, h1⟩
    · have HQ := Lib.hid (show x / 2 ^ 0 % 2 = r by rw [← HR.out]; unfold seqI; rw [if_pos ⟨rfl, h0, h1⟩]; simp)
      go_enter Try.func109, Try.ntmps109
      go_wp2_with fail
      refine (seqVal_at 0 v _ HV.out).mono ?_
      rintro e w1 ⟨rfl, hb⟩
      have HB := Lib.hid hb
      clear hb
      go_wp2_with fail
      refine (bitOf_at x 0 (by omega) _ HQ.out).mono ?_
      rintro e w1 ⟨rfl, rfl⟩
      go_wp2
      go_ret
      exact ⟨rfl, HB.out⟩
    · obtain ⟨u, rfl⟩ := Int.eq_ofNat_of_zero_le h0
      have hu : u < 32 := by omega
      have HQ := Lib.hid (show ramI (u : Int) x = r by rw [← HR.out]; unfold seqI; rw [if_neg (by omega), if_pos ⟨rfl, h0, h1⟩])
      go_enter Try.func109, Try.ntmps109
      go_wp2_with fail
      refine (seqVal_at 1 u _ HV.out).mono ?_
      rintro e w1 ⟨rfl, hb⟩
      have HB := Lib.hid hb
      clear hb
      go_wp2_with fail
      refine (ramNext_at u hu x _ HQ.out).mono ?_
      rintro e w2 ⟨rfl, hb⟩
      replace HB := Lib.hid (bThen HB.out hb)
      clear hb
      go_wp2
      go_ret
      exact ⟨rfl, HB.out⟩
set_option maxRecDepth 100000 in
theorem ram_sp1 : ∀ (v : Fin 32), bits .andNot .i64 (v.val : Int) 1 = ((v.val - v.val % 2 : Nat) : Int) := by decide
set_option maxRecDepth 100000 in
theorem ram_sp2 : ∀ (n : Fin 32) (a : Fin 4), bits .andNot .i64 (n.val : Int) (2 ^ (a.val + 1)) = ((n.val - n.val / 2 ^ (a.val + 1) % 2 * 2 ^ (a.val + 1) : Nat) : Int) := by decide
/-- What the specification makes of a memory. -/
def ramS (v a c d : Nat) : Nat :=
  let n := v - v % 2 + v / 2 ^ (a + 1) % 2
  if c = 1 then n - n / 2 ^ (a + 1) % 2 * 2 ^ (a + 1) + d * 2 ^ (a + 1) else n
set_option maxRecDepth 100000 in
theorem ramS_eq : ∀ (v : Fin 32) (y : Fin 16), ramI ((v.val : Nat) : Int) ((y.val : Nat) : Int) = (ramS v.val (y.val % 4) (y.val / 8 % 2) (y.val / 4 % 2) : Int) := by decide
theorem ramS_of {v : Nat} (hv : v < 32) (x : Int) {a c d : Nat} (ha : x % 4 = (a : Int)) (hc : x / 8 % 2 = (c : Int)) (hd : x / 4 % 2 = (d : Int)) : ramI (v : Int) x = (ramS v a c d : Int) := by
  rw [ramI_mod]
  obtain ⟨y, hy⟩ : ∃ y : Nat, x % 16 = (y : Int) := ⟨(x % 16).toNat, by omega⟩
  have h := ramS_eq ⟨v, hv⟩ ⟨y, by omega⟩
  rw [hy]
  rw [h]
  dsimp only
  rw [show y % 4 = a by omega, show y / 8 % 2 = c by omega, show y / 4 % 2 = d by omega]
theorem specSeq_at (k v x : Int) {r : Int} (w : World) (hr : seqI k v x = r) :
    Calls Try.prog 114 #[.int .i64 k, .int .i64 v, .int .i64 x] w fun e w' => e = .returned (.int .i64 r) ∧ Below w.heap.size w w' := by
  have HR := Lib.hid hr
  clear hr
  by_cases k0 : k = 0
  · subst k0
    by_cases h1 : 0 ≤ v ∧ v ≤ 1
    · have HQ := Lib.hid (show decide ((0 : Int) ≤ v ∧ v ≤ 1) = true from decide_eq_true h1)
      have e1 := and_one x
      have HE := Lib.hid (show x % 2 = r by rw [← HR.out]; unfold seqI; rw [if_pos ⟨rfl, h1⟩])
      rw [HE.out] at e1
      go_enter Try.func114, Try.ntmps114
      go_wp2_with fail
      refine (specIn_at _ _ _ _ HQ.out).mono ?_
      rintro e w1 ⟨rfl, hb⟩
      have HB := Lib.hid hb
      clear hb
      go_wp2
      go_ret
      exact ⟨rfl, HB.out⟩
    · have HQ := Lib.hid (show decide ((0 : Int) ≤ v ∧ v ≤ 1) = false from decide_eq_false h1)
      have HE : r = -1 := by rw [← HR.out]; unfold seqI; rw [if_neg (fun c => h1 c.2), if_neg (by omega)]
      subst HE
      clear h1
      go_enter Try.func114, Try.ntmps114
      go_wp2_with fail
      refine (specIn_at _ _ _ _ HQ.out).mono ?_
      rintro e w1 ⟨rfl, hb⟩
      have HB := Lib.hid hb
      clear hb
      go_wp2
      go_ret
      exact ⟨rfl, HB.out⟩
  have b0 : (k == 0) = false := by simp [k0]
  by_cases k1 : k = 1
  · subst k1
    by_cases h1 : 0 ≤ v ∧ v ≤ 31
    · have HQ := Lib.hid (show decide ((0 : Int) ≤ v ∧ v ≤ 31) = true from decide_eq_true h1)
      obtain ⟨u, rfl⟩ := Int.eq_ofNat_of_zero_le h1.1
      have hu : u < 32 := by omega
      have HE : ramI (u : Int) x = r := by rw [← HR.out]; unfold seqI; rw [if_neg (by omega), if_pos ⟨rfl, h1⟩]
      obtain ⟨a, ha, ha4⟩ : ∃ a : Nat, x % 4 = (a : Int) ∧ a < 4 := ⟨(x % 4).toNat, by omega, by omega⟩
      obtain ⟨c, hc, hc2⟩ : ∃ c : Nat, x / 8 % 2 = (c : Int) ∧ c < 2 := ⟨(x / 8 % 2).toNat, by omega, by omega⟩
      obtain ⟨d, hd, hd2⟩ : ∃ d : Nat, x / 4 % 2 = (d : Int) ∧ d < 2 := ⟨(x / 4 % 2).toNat, by omega, by omega⟩
      have hR := (ramS_of hu x ha hc hd).symm.trans HE
      have n1 := ram_sp1 ⟨u, hu⟩
      dsimp only at n1
      obtain ⟨m, hm⟩ : ∃ m : Nat, u - u % 2 = m := ⟨_, rfl⟩
      rw [hm] at n1
      obtain ⟨z, hz, hz2⟩ : ∃ z : Nat, u / 2 ^ (a + 1) % 2 = z ∧ z < 2 := ⟨_, rfl, by omega⟩
      have zi : (u : Int) / 2 ^ (a + 1) % 2 = (z : Int) := by rw [← hz, Int.natCast_emod, Int.natCast_ediv, Int.natCast_pow]; rfl
      have hmz : m + z < 32 := by omega
      have n2 := ram_sp2 ⟨m + z, hmz⟩ ⟨a, ha4⟩
      dsimp only at n2
      obtain ⟨q, hq⟩ : ∃ q : Nat, m + z - (m + z) / 2 ^ (a + 1) % 2 * 2 ^ (a + 1) = q := ⟨_, rfl⟩
      rw [hq] at n2
      have hq32 : q < 32 := by omega
      have eA := and_three x
      rw [ha] at eA
      have eC := and_one (x / 8)
      rw [hc] at eC
      have eD := and_one (x / 4)
      rw [hd] at eD
      have HM := Lib.hid hm
      have HZ := Lib.hid hz
      have HQQ := Lib.hid hq
      have HRR := Lib.hid hR
      have hm32 : m < 32 := by omega
      clear ha hc hd hm hz hq hR HE h1
      rcases (by omega : a = 0 ∨ a = 1 ∨ a = 2 ∨ a = 3) with rfl | rfl | rfl | rfl
      · have e3 : bits .andNot .i64 ((m : Int) + (z : Int)) 2 = (q : Int) := n2
        have e5 := and_one ((u : Int) / 2)
        have e6 : (u : Int) / 2 % 2 = (z : Int) := zi
        rw [e6] at e5
        clear n2 zi e6
        rcases (by omega : c = 0 ∨ c = 1) with rfl | rfl
        · have hF : ((m + z : Nat) : Int) = r := by rw [← HRR.out]; simp only [ramS]; rw [if_neg (by decide), HM.out, HZ.out]
          clear e3
          go_enter Try.func114, Try.ntmps114
          go_wp2_with fail
          refine (specIn_at _ _ _ _ HQ.out).mono ?_
          rintro e w1 ⟨rfl, hb⟩
          have HB := Lib.hid hb
          clear hb
          go_wp2
          go_ret
          refine ⟨ret_i64 ?_, HB.out⟩
          rw [← hF]
          go_num
        · have hF : ((q + d * 2 : Nat) : Int) = r := by rw [← HRR.out]; simp only [ramS, ↓reduceIte, HM.out, HZ.out, HQQ.out]
          go_enter Try.func114, Try.ntmps114
          go_wp2_with fail
          refine (specIn_at _ _ _ _ HQ.out).mono ?_
          rintro e w1 ⟨rfl, hb⟩
          have HB := Lib.hid hb
          clear hb
          go_wp2_with fail
          go_quiet (fail)
          go_wp2
          go_ret
          refine ⟨ret_i64 ?_, bDrewN HB.out _⟩
          rw [← hF]
          go_num
      · have e3 : bits .andNot .i64 ((m : Int) + (z : Int)) 4 = (q : Int) := n2
        have e5 := and_one ((u : Int) / 4)
        have e6 : (u : Int) / 4 % 2 = (z : Int) := zi
        rw [e6] at e5
        clear n2 zi e6
        rcases (by omega : c = 0 ∨ c = 1) with rfl | rfl
        · have hF : ((m + z : Nat) : Int) = r := by rw [← HRR.out]; simp only [ramS]; rw [if_neg (by decide), HM.out, HZ.out]
          clear e3
          go_enter Try.func114, Try.ntmps114
          go_wp2_with fail
          refine (specIn_at _ _ _ _ HQ.out).mono ?_
          rintro e w1 ⟨rfl, hb⟩
          have HB := Lib.hid hb
          clear hb
          go_wp2
          go_ret
          refine ⟨ret_i64 ?_, HB.out⟩
          rw [← hF]
          go_num
        · have hF : ((q + d * 4 : Nat) : Int) = r := by rw [← HRR.out]; simp only [ramS, ↓reduceIte, HM.out, HZ.out, HQQ.out]
          go_enter Try.func114, Try.ntmps114
          go_wp2_with fail
          refine (specIn_at _ _ _ _ HQ.out).mono ?_
          rintro e w1 ⟨rfl, hb⟩
          have HB := Lib.hid hb
          clear hb
          go_wp2_with fail
          go_quiet (fail)
          go_wp2
          go_ret
          refine ⟨ret_i64 ?_, bDrewN HB.out _⟩
          rw [← hF]
          go_num
      · have e3 : bits .andNot .i64 ((m : Int) + (z : Int)) 8 = (q : Int) := n2
        have e5 := and_one ((u : Int) / 8)
        have e6 : (u : Int) / 8 % 2 = (z : Int) := zi
        rw [e6] at e5
        clear n2 zi e6
        rcases (by omega : c = 0 ∨ c = 1) with rfl | rfl
        · have hF : ((m + z : Nat) : Int) = r := by rw [← HRR.out]; simp only [ramS]; rw [if_neg (by decide), HM.out, HZ.out]
          clear e3
          go_enter Try.func114, Try.ntmps114
          go_wp2_with fail
          refine (specIn_at _ _ _ _ HQ.out).mono ?_
          rintro e w1 ⟨rfl, hb⟩
          have HB := Lib.hid hb
          clear hb
          go_wp2
          go_ret
          refine ⟨ret_i64 ?_, HB.out⟩
          rw [← hF]
          go_num
        · have hF : ((q + d * 8 : Nat) : Int) = r := by rw [← HRR.out]; simp only [ramS, ↓reduceIte, HM.out, HZ.out, HQQ.out]
          go_enter Try.func114, Try.ntmps114
          go_wp2_with fail
          refine (specIn_at _ _ _ _ HQ.out).mono ?_
          rintro e w1 ⟨rfl, hb⟩
          have HB := Lib.hid hb
          clear hb
          go_wp2_with fail
          go_quiet (fail)
          go_wp2
          go_ret
          refine ⟨ret_i64 ?_, bDrewN HB.out _⟩
          rw [← hF]
          go_num
      · have e3 : bits .andNot .i64 ((m : Int) + (z : Int)) 16 = (q : Int) := n2
        have e5 := and_one ((u : Int) / 16)
        have e6 : (u : Int) / 16 % 2 = (z : Int) := zi
        rw [e6] at e5
        clear n2 zi e6
        rcases (by omega : c = 0 ∨ c = 1) with rfl | rfl
        · have hF : ((m + z : Nat) : Int) = r := by rw [← HRR.out]; simp only [ramS]; rw [if_neg (by decide), HM.out, HZ.out]
          clear e3
          go_enter Try.func114, Try.ntmps114
          go_wp2_with fail
          refine (specIn_at _ _ _ _ HQ.out).mono ?_
          rintro e w1 ⟨rfl, hb⟩
          have HB := Lib.hid hb
          clear hb
          go_wp2
          go_ret
          refine ⟨ret_i64 ?_, HB.out⟩
          rw [← hF]
          go_num
        · have hF : ((q + d * 16 : Nat) : Int) = r := by rw [← HRR.out]; simp only [ramS, ↓reduceIte, HM.out, HZ.out, HQQ.out]
          go_enter Try.func114, Try.ntmps114
          go_wp2_with fail
          refine (specIn_at _ _ _ _ HQ.out).mono ?_
          rintro e w1 ⟨rfl, hb⟩
          have HB := Lib.hid hb
          clear hb
          go_wp2_with fail
          go_quiet (fail)
          go_wp2
          go_ret
          refine ⟨ret_i64 ?_, bDrewN HB.out _⟩
          rw [← hF]
          go_num
    · have HQ := Lib.hid (show decide ((0 : Int) ≤ v ∧ v ≤ 31) = false from decide_eq_false h1)
      have HE : r = -1 := by rw [← HR.out]; unfold seqI; rw [if_neg (by omega), if_neg (fun c => h1 c.2)]
      subst HE
      clear h1
      go_enter Try.func114, Try.ntmps114
      go_wp2_with fail
      refine (specIn_at _ _ _ _ HQ.out).mono ?_
      rintro e w1 ⟨rfl, hb⟩
      have HB := Lib.hid hb
      clear hb
      go_wp2
      go_ret
      exact ⟨rfl, HB.out⟩
  · have b1 : (k == 1) = false := by simp [k1]
    have HE : r = -1 := by rw [← HR.out]; unfold seqI; rw [if_neg (fun c => k0 c.1), if_neg (fun c => k1 c.1)]
    subst HE
    go_enter Try.func114, Try.ntmps114
    go_wp2
    go_ret
    exact ⟨rfl, by (repeat' (first | assumption | exact Below.refl _ _ | refine bDrewN ?_ _ | refine Below.drew ?_ | refine bAlloc ?_ (Nat.le_refl _) _ | refine bSet ?_ (by first | exact Nat.le_refl _ | omega | (simp <;> omega)) _))⟩
end Go.Proofs.Ytedamhkcblemdaa
/- Nr2: The value of a literal, both sides. -/
namespace Go.Proofs.Ytedamhkcblemdaa
open Go.RowKit
set_option linter.unusedVariables false
set_option linter.unusedSimpArgs false

theorem xor_bit : ∀ (a b : Fin 2), bits .xor .i64 (a.val : Int) (b.val : Int) = (((a.val + b.val) % 2 : Nat) : Int) := by decide
theorem bitV_of {V : List Int} {l x m : Nat} (hx : V[l / 2]? = some (x : Int)) (hm : l % 2 = m) : bitV V l = (((x + m) % 2 : Nat) : Int) := by
  unfold bitV
  rw [List.getD_eq_getElem?_getD, hx]
  simp only [Option.getD_some]
  omega
/-- What LitValue answers. -/
def litO (V : List Int) (l : Int) : Int := if 0 ≤ l ∧ ((l.toNat / 2 : Nat) : Int) < V.length ∧ 0 ≤ V.getD (l.toNat / 2) 0 ∧ V.getD (l.toNat / 2) 0 ≤ 1 then bitV V l.toNat else -1
theorem litO_neg {V : List Int} {l : Int} (h : l < 0) : litO V l = -1 := if_neg (by omega)
theorem litO_out {V : List Int} {l : Nat} (h : V.length ≤ l / 2) : litO V (l : Int) = -1 := if_neg (by rw [Int.toNat_natCast]; omega)
theorem litO_bad {V : List Int} {l : Nat} {x : Int} (hx : V[l / 2]? = some x) (h : ¬ (0 ≤ x ∧ x ≤ 1)) : litO V (l : Int) = -1 := if_neg (by rw [Int.toNat_natCast, List.getD_eq_getElem?_getD, hx, Option.getD_some]; omega)
theorem litO_good {V : List Int} {l : Nat} {x : Int} (hx : V[l / 2]? = some x) (h0 : 0 ≤ x) (h1 : x ≤ 1) : litO V (l : Int) = bitV V l := by
  have := (List.getElem?_eq_some_iff.1 hx).1
  unfold litO
  rw [Int.toNat_natCast]
  refine if_pos ⟨by omega, by omega, ?_⟩
  rw [List.getD_eq_getElem?_getD, hx, Option.getD_some]
  exact ⟨h0, h1⟩
theorem specBit_at (V : List Int) (l : Nat) (hl : l ≤ 9223372036854775807) (v : Value) {B T : Nat} (w : World) (hv : rdIntS B T w [v] V) (hT : T ≤ w.heap.size) {x : Int} (hx : V[l / 2]? = some x) (h0 : 0 ≤ x) (h1 : x ≤ 1) {r : Int} (hr : bitV V l = r) :
    Calls Try.prog 134 #[v, .int .i64 (l : Int)] w fun e w' => e = .returned (.int .i64 r) ∧ Below w.heap.size w w' := by
  obtain ⟨vA, vc, rfl, vm, -⟩ := slice_of hv
  obtain ⟨u, rfl⟩ := Int.eq_ofNat_of_zero_le h0
  have hu : u < 2 := by omega
  obtain ⟨m, hm⟩ : ∃ m, l % 2 = m := ⟨_, rfl⟩
  have hF := (bitV_of hx hm).symm.trans hr
  obtain ⟨p, hp⟩ : ∃ p, l / 2 = p := ⟨_, rfl⟩
  rw [hp] at hx
  have hpV := (List.getElem?_eq_some_iff.1 hx).1
  obtain ⟨b, q, rfl, -, xc, -⟩ := at_Int hv hx
  have e1 := and_one (l : Int)
  rw [show (l : Int) % 2 = (m : Int) by omega] at e1
  have e2 := xor_bit ⟨u, hu⟩ ⟨m, by omega⟩
  dsimp only at e2
  rw [hF] at e2
  have e3 : (l : Int).tdiv 2 = (p : Int) := by rw [tdiv2, hp]
  have e4 : (l : Int) / 2 = (p : Int) := by omega
  clear hv hx hr hF h0 h1 hp hm
  go_enter Try.func134, Try.ntmps134
  go_wp2
  go_ret
  exact ⟨rfl, by (repeat' (first | assumption | exact Below.refl _ _ | refine bDrewN ?_ _ | refine Below.drew ?_ | refine bAlloc ?_ (Nat.le_refl _) _ | refine bSet ?_ (by first | exact Nat.le_refl _ | omega | (simp <;> omega)) _))⟩
theorem rd_lit1 {w : World} {g : Nat} {x : Int} (h : w.heap[g]? = some (.cells #[.int .i64 x] 3 (0, 0))) (hx : Fit x) : rdIntS g (g + 1) w [.slice (some ⟨g, 0, none⟩) 1 1] [x] := by
  refine ⟨_, _, rfl, by simp [maxLen], fun j hj => ⟨g, 0, rfl, Nat.le_refl _, Nat.lt_succ_self _, ?_⟩⟩
  match j, hj with
  | 0, _ => exact ⟨[.int .i64 x], rfl, fun i u hu => (by match i, hu with | 0, hu => (injection hu with hu; subst hu; exact box_cell h 0 _ rfl)), rfl, hx⟩
theorem implLitV_at (V : List Int) (l : Int) (hl : Fit l) (v : Value) {B T : Nat} (w : World) (hv : rdIntS B T w [v] V) (hT : T ≤ w.heap.size) {r : Int} (hr : litO V l = r) :
    Calls Try.prog 131 #[v, .int .i64 l] w fun e w' => e = .returned (.int .i64 r) ∧ Below w.heap.size w w' := by
  have HR := Lib.hid hr
  clear hr
  have HV := Lib.hid hv
  have hl' := hl
  unfold Fit at hl'
  obtain ⟨vA, vc, rfl, vm, -⟩ := slice_of hv
  obtain ⟨c, hc⟩ : ∃ c, [l].all (litB (V.length : Int)) = c := ⟨_, rfl⟩
  have HC := Lib.hid hc
  have HL := Lib.hid hl
  clear hc hv hl
  go_enter Try.func131, Try.ntmps131
  go_wp2_with fail
  obtain ⟨W0, hV⟩ : ∃ W0, W0 = w.alloc (.cells #[.int .i64 l] 3) := ⟨_, rfl⟩
  rw [← hV]
  have gN := eqbox1 hV
  have HG := Lib.hid (good_IntS.wider (rd_lit1 gN.1 HL.out) (Nat.zero_le _) (show w.heap.size + 1 ≤ W0.heap.size by rw [hV]; simp))
  have HB0 := Lib.hid gN.2
  clear hV gN
  refine (litsOk_at [l] _ _ _ HG.out (Nat.le_refl _) HC.out).mono ?_
  rintro e w1 ⟨rfl, hb⟩
  have HB := Lib.hid (bThen HB0.out hb)
  clear hb
  cases c with
  | false =>
    have HE : r = -1 := by
      rw [← HR.out]
      have hc := HC.out
      simp only [List.all_cons, List.all_nil, Bool.and_true] at hc
      by_cases h0 : l < 0
      · exact litO_neg h0
      · obtain ⟨k, rfl⟩ := Int.eq_ofNat_of_zero_le (show 0 ≤ l by omega)
        have := of_decide_eq_false hc
        rw [tdiv2] at this
        exact litO_out (by omega)
    subst HE
    go_wp2
    go_ret
    exact ⟨rfl, HB.out⟩
  | true =>
    have hc := HC.out
    simp only [List.all_cons, List.all_nil, Bool.and_true] at hc
    have hc := of_decide_eq_true hc
    obtain ⟨k, rfl⟩ := Int.eq_ofNat_of_zero_le hc.1
    have hk := hc.2
    rw [tdiv2] at hk
    obtain ⟨p, hp⟩ : ∃ p, k / 2 = p := ⟨_, rfl⟩
    have HP := Lib.hid hp
    have hpV : p < V.length := by omega
    obtain ⟨x, hx⟩ : ∃ x, V[p]? = some x := ⟨_, List.getElem?_eq_getElem hpV⟩
    have HX := Lib.hid (show V[k / 2]? = some x by rw [hp]; exact hx)
    obtain ⟨b, q, rfl, hbT, xc, xf⟩ := at_Int HV.out hx
    replace xc := keep HB.out xc
    clear hc hk hx
    go_wp2_with fail
    refine (nodeOf_at k _ (by omega)).mono ?_
    rintro e w2 ⟨rfl, hb⟩
    rw [hp]
    replace xc := keep hb xc
    replace HB := Lib.hid (bThen HB.out hb)
    clear hb hp
    have hpi : (p : Int) < (V.length : Int) := by omega
    go_wp2_with fail
    obtain ⟨y, hy⟩ : ∃ y, x / 2 ^ 0 % 2 = y := ⟨_, rfl⟩
    have HY := Lib.hid hy
    have hy2 : x % 2 = y := by rw [← hy]; simp
    refine (bitOf_at x 0 (by omega) _ HY.out).mono ?_
    rintro e w3 ⟨rfl, rfl⟩
    clear hy
    by_cases hxy : x = y
    · have h0 : 0 ≤ x ∧ x ≤ 1 := by omega
      have HF := Lib.hid ((litO_good HX.out h0.1 h0.2).symm.trans HR.out)
      subst hxy
      clear hy2 HY
      obtain ⟨u, rfl⟩ := Int.eq_ofNat_of_zero_le h0.1
      obtain ⟨m, hm⟩ : ∃ m, k % 2 = m := ⟨_, rfl⟩
      have hF := (bitV_of HX.out hm).symm.trans HF.out
      have HM := Lib.hid (show (k : Int) / 2 ^ 0 % 2 = (m : Int) by rw [show (k : Int) / 2 ^ 0 = k by simp]; omega)
      have e2 := xor_bit ⟨u, by omega⟩ ⟨m, by omega⟩
      dsimp only at e2
      rw [hF] at e2
      clear hF hm
      go_wp2_with fail
      refine (bitOf_at k 0 (by omega) _ HM.out).mono ?_
      rintro e w3 ⟨rfl, rfl⟩
      go_wp2
      go_ret
      exact ⟨rfl, HB.out⟩
    · have HF : r = -1 := (HR.out).symm.trans (litO_bad HX.out (by omega))
      subst HF
      go_wp2
      go_ret
      exact ⟨rfl, HB.out⟩
end Go.Proofs.Ytedamhkcblemdaa
/- Nr3: StateOk, both sides. -/
namespace Go.Proofs.Ytedamhkcblemdaa
open Go.RowKit
set_option linter.unusedVariables false
set_option linter.unusedSimpArgs false

theorem stK_zero (n : DNet) (st : List Int) : stK n st 0 = true := by simp [stK]
theorem stK_miss {n : DNet} {st : List Int} {k : Nat} {s : DSeq} {x : Int} (hs : n.2.1[k]? = some s) (hx : st[k]? = some x) (hq : valB s.1 x = false) : stateB n st = false := by
  have hk := (List.getElem?_eq_some_iff.1 hs).1
  have : stK n st n.2.1.length = false := by
    unfold stK
    rw [List.all_eq_false]
    exact ⟨k, List.mem_range.2 hk, by simp [hs, hx, hq]⟩
  unfold stateB
  rw [this]
  simp
theorem stK_yes {n : DNet} {st : List Int} {k : Nat} {s : DSeq} {x : Int} (hs : n.2.1[k]? = some s) (hx : st[k]? = some x) (hq : valB s.1 x = true) (h0 : stK n st k = true) : stK n st (k + 1) = true := by
  rw [stK_step (v := x) hs (by rw [List.getD_eq_getElem?_getD, hx]; rfl), h0, hq]; rfl
theorem state_no {n : DNet} {st : List Int} (h : netB n = false) : stateB n st = false := by unfold stateB; rw [h]; rfl
theorem state_len {n : DNet} {st : List Int} (h : ¬ st.length = n.2.1.length) : stateB n st = false := by unfold stateB; rw [decide_eq_false h]; simp
theorem state_end {n : DNet} {st : List Int} (h : netB n = true) (h1 : st.length = n.2.1.length) (h2 : stK n st n.2.1.length = true) : stateB n st = true := by unfold stateB; rw [h, decide_eq_true h1, h2]; rfl
set_option maxRecDepth 100000 in
set_option maxHeartbeats 6400000 in
theorem specState_at (n : DNet) (st : List Int) (us : List Value) (v : Value) (w : World) (h : rdNet 0 w.heap.size w us n) (hv : rdIntS 0 w.heap.size w [v] st) {r : Bool} (hr : stateB n st = r) :
    Calls Try.prog 112 #[.agg us.toArray, v] w fun e w' => e = .returned (.bool r) ∧ Below w.heap.size w w' := by
  have HD := Lib.hid h
  have HV := Lib.hid hv
  obtain ⟨f, hf⟩ : ∃ f, netB n = f := ⟨_, rfl⟩
  have HF := Lib.hid hf
  have HR := Lib.hid hr
  obtain ⟨vA, vc, rfl, vm, -⟩ := slice_of hv
  clear hf hr hv
  obtain ⟨mu0, mu1, mu2, mu3, rfl, mh0, mh1, mh2, mh3⟩ := h
  obtain ⟨me0, -⟩ := mh0
  injection me0 with me0
  subst me0
  obtain ⟨mA1, mc1, me1, mm1, -⟩ := slice_of mh1
  subst me1
  have mR1 := Lib.hid mh1
  clear mh1
  obtain ⟨mA2, mc2, me2, mm2, -⟩ := slice_of mh2
  subst me2
  have mR2 := Lib.hid mh2
  clear mh2
  obtain ⟨mA3, mc3, me3, mm3, -⟩ := slice_of mh3
  subst me3
  have mR3 := Lib.hid mh3
  clear mh3
  go_enter Try.func112, Try.ntmps112
  go_wp2_with fail
  obtain ⟨W0, hV⟩ : ∃ W0, W0 = (w.alloc (.cells #[.int .i64 n.1, .slice mA1 (n.2.1).length mc1, .slice mA2 (n.2.2.1).length mc2, .slice mA3 (n.2.2.2).length mc3] 36)) := ⟨_, rfl⟩
  rw [← hV]
  have gN := eqbox1 hV
  have d0 : W0.cell? ⟨w.heap.size, 0, none⟩ = some (.int .i64 n.1) := box_cell gN.1 0 _ rfl
  have d1 : W0.cell? ⟨w.heap.size, 1, none⟩ = some (.slice mA1 (n.2.1).length mc1) := box_cell gN.1 1 _ rfl
  have d2 : W0.cell? ⟨w.heap.size, 2, none⟩ = some (.slice mA2 (n.2.2.1).length mc2) := box_cell gN.1 2 _ rfl
  have d3 : W0.cell? ⟨w.heap.size, 3, none⟩ = some (.slice mA3 (n.2.2.2).length mc3) := box_cell gN.1 3 _ rfl
  have sW0 : W0.heap.size = w.heap.size + 1 := by rw [hV]; simp
  have HW0 := Lib.hid gN.2
  clear hV gN
  refine (specNetOk_at n _ _ (rdUp good_Net HD.out HW0.out) HF.out).mono ?_
  rintro e w1 ⟨rfl, hb⟩
  replace d0 := keep hb d0
  replace d1 := keep hb d1
  replace d2 := keep hb d2
  replace d3 := keep hb d3
  have HB := Lib.hid (bThen HW0.out hb)
  clear hb
  cases f with
  | false =>
    have HE := Lib.hid ((state_no HF.out).symm.trans HR.out)
    go_wp2
    go_ret
    exact ⟨ret_bool HE.out, HB.out⟩
  | true =>
    have hs12 := (netP_of HF.out).sz.s12
    by_cases hl : st.length = n.2.1.length
    case neg =>
      have HE := Lib.hid ((state_len hl).symm.trans HR.out)
      have hl2 : ((st.length : Int) != (n.2.1.length : Int)) = true := by simp; omega
      go_wp2
      go_ret
      exact ⟨ret_bool HE.out, HB.out⟩
    have hl2 : ((st.length : Int) != (n.2.1.length : Int)) = false := by simp; omega
    have HL := Lib.hid hl
    go_wp2
    go_loopw [5] (fun x wr => ∃ k : Nat, k ≤ n.2.1.length ∧ x = .int .i64 (k : Int) ∧ stK n st k = true ∧ Below w1.heap.size w1 wr) (fun x _ => n.2.1.length - (intOf x).toNat)
    case atStart => exact ⟨0, Nat.zero_le _, rfl, stK_zero _ _, by (repeat' (first | assumption | exact Below.refl _ _ | refine bDrewN ?_ _ | refine Below.drew ?_ | refine bAlloc ?_ (Nat.le_refl _) _ | refine bSet ?_ (by first | exact Nat.le_refl _ | omega | (simp <;> omega)) _))⟩
    case round =>
      obtain ⟨k, hk, rfl, hall, hb⟩ := hrel
      obtain ⟨w2, rfl⟩ : ∃ w2, w2 = wr := ⟨_, rfl⟩
      have HB2 := Lib.hid (bThen HB.out hb)
      have HA := Lib.hid hall
      replace d0 := keep hb d0
      replace d1 := keep hb d1
      replace d2 := keep hb d2
      replace d3 := keep hb d3
      have HB12 := Lib.hid hb
      clear hb hall
      have tl : (st.length : Int) = (n.2.1.length : Int) := by have := HL.out; omega
      by_cases hlt : k < n.2.1.length
      · obtain ⟨s, hs⟩ : ∃ s, n.2.1[k]? = some s := ⟨_, List.getElem?_eq_getElem hlt⟩
        obtain ⟨x, hx⟩ : ∃ x, st[k]? = some x := ⟨_, List.getElem?_eq_getElem (by have := HL.out; omega)⟩
        have HS := Lib.hid hs
        have HX := Lib.hid hx
        obtain ⟨sb, sq, sA, sc, rfl, sb1, x0, -, x1, -, x2, sR⟩ := at_Seq (good_SeqS.below mR1.out (Nat.le_refl _) HB2.out) hs
        obtain ⟨vb, vq, rfl, vb1, xc, -⟩ := at_Int (good_IntS.below HV.out (Nat.le_refl _) HB2.out) hx
        have sb2 := Nat.lt_of_lt_of_le sb1 HB2.out.size
        have vb2 := Nat.lt_of_lt_of_le vb1 HB2.out.size
        have tk : (k : Int) < (n.2.1.length : Int) := by omega
        have tk2 : (k : Int) < (st.length : Int) := by omega
        obtain ⟨q, hq⟩ : ∃ q, valB s.1 x = q := ⟨_, rfl⟩
        have HQ := Lib.hid hq
        clear hs hx sR sb1 vb1 x1 x2
        go_wp2_with fail
        have hS0 : (fun w' => Below w2.heap.size w2 w' ∧ w'.cell? ⟨w.heap.size, 0, none⟩ = some (.int .i64 n.1) ∧ w'.cell? ⟨w.heap.size, 1, none⟩ = some (.slice (some ⟨sb, sq, none⟩) (n.2.1).length mc1) ∧ w'.cell? ⟨w.heap.size, 2, none⟩ = some (.slice mA2 (n.2.2.1).length mc2) ∧ w'.cell? ⟨w.heap.size, 3, none⟩ = some (.slice mA3 (n.2.2.2).length mc3) ∧ w'.cell? ⟨sb, sq + k * 3, none⟩ = some (.int .i64 s.1) ∧ w'.cell? ⟨vb, vq + k, none⟩ = some (.int .i64 x)) w2 := ⟨Below.refl _ _, d0, d1, d2, d3, x0, xc⟩
        have hS : ∀ {w0 w' : World}, (fun w' => Below w2.heap.size w2 w' ∧ w'.cell? ⟨w.heap.size, 0, none⟩ = some (.int .i64 n.1) ∧ w'.cell? ⟨w.heap.size, 1, none⟩ = some (.slice (some ⟨sb, sq, none⟩) (n.2.1).length mc1) ∧ w'.cell? ⟨w.heap.size, 2, none⟩ = some (.slice mA2 (n.2.2.1).length mc2) ∧ w'.cell? ⟨w.heap.size, 3, none⟩ = some (.slice mA3 (n.2.2.2).length mc3) ∧ w'.cell? ⟨sb, sq + k * 3, none⟩ = some (.int .i64 s.1) ∧ w'.cell? ⟨vb, vq + k, none⟩ = some (.int .i64 x)) w0 → Below w0.heap.size w0 w' → (fun w' => Below w2.heap.size w2 w' ∧ w'.cell? ⟨w.heap.size, 0, none⟩ = some (.int .i64 n.1) ∧ w'.cell? ⟨w.heap.size, 1, none⟩ = some (.slice (some ⟨sb, sq, none⟩) (n.2.1).length mc1) ∧ w'.cell? ⟨w.heap.size, 2, none⟩ = some (.slice mA2 (n.2.2.1).length mc2) ∧ w'.cell? ⟨w.heap.size, 3, none⟩ = some (.slice mA3 (n.2.2.2).length mc3) ∧ w'.cell? ⟨sb, sq + k * 3, none⟩ = some (.int .i64 s.1) ∧ w'.cell? ⟨vb, vq + k, none⟩ = some (.int .i64 x)) w' := fun h hb => ⟨bThen h.1 hb, keep hb h.2.1, keep hb h.2.2.1, keep hb h.2.2.2.1, keep hb h.2.2.2.2.1, keep hb h.2.2.2.2.2.1, keep hb h.2.2.2.2.2.2⟩
        dsimp only at hS0 hS
        refine wp_region_noPanic ?_
        refine wp_region_kept 10 12 (fun w' => Below w2.heap.size w2 w' ∧ w'.cell? ⟨w.heap.size, 0, none⟩ = some (.int .i64 n.1) ∧ w'.cell? ⟨w.heap.size, 1, none⟩ = some (.slice (some ⟨sb, sq, none⟩) (n.2.1).length mc1) ∧ w'.cell? ⟨w.heap.size, 2, none⟩ = some (.slice mA2 (n.2.2.1).length mc2) ∧ w'.cell? ⟨w.heap.size, 3, none⟩ = some (.slice mA3 (n.2.2.2).length mc3) ∧ w'.cell? ⟨sb, sq + k * 3, none⟩ = some (.int .i64 s.1) ∧ w'.cell? ⟨vb, vq + k, none⟩ = some (.int .i64 x)) (by kernel_rfl) rfl (hS hS0 (Below.drew (Below.refl _ _))) (fun hK0 => ?_)
        refine Kept.take (v := ?va0) 0 (by kernel_rfl) rfl (by kernel_rfl) (fun _ _ _ h => h) (Or.inl ⟨by rfl, ?hya0⟩) hK0 ?resta0
        case hya0 =>
          intro w0 hSw
          (try dsimp only at hSw)
          go_simp
          all_goals (with_reducible rfl)
        (try simp only [Act.put, List.setIfInBounds_toArray, List.set_cons_zero, List.set_cons_succ])
        refine Kept.take (v := ?va1) 1 (by kernel_rfl) rfl (by kernel_rfl) (fun _ _ _ h => h) (Or.inl ⟨by rfl, ?hya1⟩) hK0 ?resta1
        case hya1 =>
          intro w0 hSw
          (try dsimp only at hSw)
          go_simp
          all_goals (with_reducible rfl)
        (try simp only [Act.put, List.setIfInBounds_toArray, List.set_cons_zero, List.set_cons_succ])
        refine Kept.take (v := ?va2) 2 (by kernel_rfl) rfl (by kernel_rfl) (fun _ _ _ h => h) (Or.inl ⟨by rfl, ?hya2⟩) hK0 ?resta2
        case hya2 =>
          intro w0 hSw
          (try dsimp only at hSw)
          go_simp
          all_goals (with_reducible rfl)
        (try simp only [Act.put, List.setIfInBounds_toArray, List.set_cons_zero, List.set_cons_succ])
        refine Kept.take (v := ?va3) 3 (by kernel_rfl) rfl (by kernel_rfl) (fun _ _ _ h => h) (Or.inl ⟨by rfl, ?hya3⟩) hK0 ?resta3
        case hya3 =>
          intro w0 hSw
          (try dsimp only at hSw)
          go_simp
          all_goals (with_reducible rfl)
        (try simp only [Act.put, List.setIfInBounds_toArray, List.set_cons_zero, List.set_cons_succ])
        refine Kept.take (v := ?va4) 4 (by kernel_rfl) rfl (by kernel_rfl) (fun _ _ _ h => h) (Or.inl ⟨by rfl, ?hya4⟩) hK0 ?resta4
        case hya4 =>
          intro w0 hSw
          (try dsimp only at hSw)
          go_simp
          all_goals (with_reducible rfl)
        (try simp only [Act.put, List.setIfInBounds_toArray, List.set_cons_zero, List.set_cons_succ])
        refine Kept.take (v := ?va5) 5 (by kernel_rfl) rfl (by kernel_rfl) (fun _ _ _ h => h) (Or.inl ⟨by rfl, ?hya5⟩) hK0 ?resta5
        case hya5 =>
          intro w0 hSw
          (try dsimp only at hSw)
          go_simp
          all_goals (with_reducible rfl)
        (try simp only [Act.put, List.setIfInBounds_toArray, List.set_cons_zero, List.set_cons_succ])
        refine Kept.take (v := ?va6) 6 (by kernel_rfl) rfl (by kernel_rfl) (fun _ _ _ h => h) (Or.inl ⟨by rfl, ?hya6⟩) hK0 ?resta6
        case hya6 =>
          intro w0 hSw
          (try dsimp only at hSw)
          go_simp
          all_goals (with_reducible rfl)
        (try simp only [Act.put, List.setIfInBounds_toArray, List.set_cons_zero, List.set_cons_succ])
        refine Kept.take (v := ?va7) 7 (by kernel_rfl) rfl (by kernel_rfl) (fun _ _ _ h => h) (Or.inl ⟨by rfl, ?hya7⟩) hK0 ?resta7
        case hya7 =>
          intro w0 hSw
          (try dsimp only at hSw)
          go_simp
          all_goals (with_reducible rfl)
        (try simp only [Act.put, List.setIfInBounds_toArray, List.set_cons_zero, List.set_cons_succ])
        refine Kept.take (v := ?va8) 8 (by kernel_rfl) rfl (by kernel_rfl) (fun _ _ _ h => h) (Or.inl ⟨by rfl, ?hya8⟩) hK0 ?resta8
        case hya8 =>
          intro w0 hSw
          (try dsimp only at hSw)
          go_simp
          all_goals (with_reducible rfl)
        (try simp only [Act.put, List.setIfInBounds_toArray, List.set_cons_zero, List.set_cons_succ])
        refine Kept.take (v := ?va9) 9 (by kernel_rfl) rfl (by kernel_rfl) (fun _ _ _ h => h) (Or.inl ⟨by rfl, ?hya9⟩) hK0 ?resta9
        case hya9 =>
          intro w0 hSw
          (try dsimp only at hSw)
          go_simp
          all_goals (with_reducible rfl)
        (try simp only [Act.put, List.setIfInBounds_toArray, List.set_cons_zero, List.set_cons_succ])
        refine Kept.tail (by rfl) (by kernel_rfl) ?_
        simp only [List.drop_succ_cons, List.drop_zero]
        obtain ⟨z, hz⟩ : ∃ z, seqI s.1 x 0 = z := ⟨_, rfl⟩
        have HZ := Lib.hid hz
        have hzq : decide (z < 0) = !q := by rw [← hz, seqI_neg, hq]
        clear hz hq
        go_wp2_with fail
        refine (specSeq_at s.1 x 0 _ HZ.out).mono ?_
        rintro e w3 ⟨rfl, hb⟩
        have HB4 := Lib.hid (bThen HB2.out (bThen hK0.1 hb))
        have HB5 := Lib.hid (bThen HB12.out (bThen hK0.1 hb))
        clear hb hK0 hS0 hS x0 xc d0 d1 d2 d3
        go_wp2
        refine NoPanic.normal ?_
        clear hzq
        cases q with
        | false =>
          have HE := Lib.hid ((stK_miss HS.out HX.out HQ.out).symm.trans HR.out)
          go_wp2
          go_ret
          exact ⟨ret_bool HE.out, HB4.out⟩
        | true =>
          have HY := Lib.hid (stK_yes HS.out HX.out HQ.out HA.out)
          go_wp2
          go_roundw
          case rel => exact ⟨k + 1, by omega, by go_num, HY.out, HB5.out⟩
          case measure => simp [intOf]; omega
      · obtain rfl : k = n.2.1.length := by omega
        have HE := Lib.hid ((state_end HF.out HL.out HA.out).symm.trans HR.out)
        go_wp2
        go_ret
        exact ⟨ret_bool HE.out, HB2.out⟩
end Go.Proofs.Ytedamhkcblemdaa
/- Nr4: NodeValues: the specification. -/
namespace Go.Proofs.Ytedamhkcblemdaa
open Go.RowKit
set_option linter.unusedVariables false
set_option linter.unusedSimpArgs false

theorem vals_no {n : DNet} {st : List Int} {x : Int} (h : stateB n st = false) : valO n st x = [] := by unfold valO; rw [h]; rfl
theorem vals_yes {n : DNet} {st : List Int} {x : Int} (h : stateB n st = true) : valO n st x = valK n st x n.2.2.1.length := by unfold valO; rw [if_pos h]
theorem fit_01 {L : List Int} (h : ∀ j, 0 ≤ L.getD j 0 ∧ L.getD j 0 ≤ 1) : ∀ x ∈ L, Fit x := fun x hx => by
  obtain ⟨j, hj, rfl⟩ := List.getElem_of_mem hx
  have := h j
  rw [List.getD_eq_getElem?_getD, List.getElem?_eq_getElem hj] at this
  unfold Fit
  simp only [Option.getD_some] at this
  omega
theorem get_of_len {L : List Int} {j N : Nat} (hl : L.length = N) (h : j < N) : L[j]? = some (L.getD j 0) := by
  rw [List.getD_eq_getElem?_getD, List.getElem?_eq_getElem (by omega)]; rfl
theorem and_bit : ∀ (a b : Fin 2), bits .and .i64 (a.val : Int) (b.val : Int) = ((a.val * b.val : Nat) : Int) := by decide
theorem and_01 {a b : Int} (ha : 0 ≤ a ∧ a ≤ 1) (hb : 0 ≤ b ∧ b ≤ 1) : bits .and .i64 a b = a * b := by
  obtain ⟨p, rfl⟩ := Int.eq_ofNat_of_zero_le ha.1
  obtain ⟨q, rfl⟩ := Int.eq_ofNat_of_zero_le hb.1
  have := and_bit ⟨p, by omega⟩ ⟨q, by omega⟩
  dsimp only at this
  rw [this, Int.natCast_mul]
theorem shr_var (x : Int) {k : Nat} (h : k ≤ 64) : x / 2 ^ min (k : Int).toNat 64 = x / 2 ^ k := by rw [show min (k : Int).toNat 64 = k by omega]
theorem regK_step {n : DNet} {st : List Int} {xv x : Int} {k : Nat} (hx : st[k]? = some x) : regK n st xv (k + 1) = (regK n st xv k).set (1 + n.1.toNat + k) (x % 2) := by
  conv => lhs; unfold regK
  rw [List.getD_eq_getElem?_getD, hx]
  rfl
theorem valK_step {n : DNet} {st : List Int} {x : Int} {k p q : Nat} (ha : n.2.2.1[k]? = some ((p : Int), (q : Int))) : valK n st x (k + 1) = (valK n st x k).set (firN n + k) (bitV (valK n st x k) p * bitV (valK n st x k) q) := by
  conv => lhs; unfold valK
  rw [ha]
  rfl
set_option maxRecDepth 100000 in
set_option maxHeartbeats 12800000 in
theorem specVals_at (n : DNet) (st : List Int) (xv : Int) (us : List Value) (v : Value) (w : World) (h : rdNet 0 w.heap.size w us n) (hv : rdIntS 0 w.heap.size w [v] st) {L : List Int} (hL : valO n st xv = L) :
    Calls Try.prog 113 #[.agg us.toArray, v, .int .i64 xv] w fun e w' => ∃ v', e = .returned v' ∧ OwnsI w' w.heap.size v' L ∧ Below w.heap.size w w' := by
  obtain ⟨i0, hi, hz0, hz1, hz2⟩ := info_parts infoI
  have HD := Lib.hid h
  have HV := Lib.hid hv
  obtain ⟨f, hf⟩ : ∃ f, stateB n st = f := ⟨_, rfl⟩
  have HF := Lib.hid hf
  have HX := Lib.hid hL
  obtain ⟨vA, vc, rfl, vm, -⟩ := slice_of hv
  clear hf hL hv
  obtain ⟨mu0, mu1, mu2, mu3, rfl, mh0, mh1, mh2, mh3⟩ := h
  obtain ⟨me0, -⟩ := mh0
  injection me0 with me0
  subst me0
  obtain ⟨mA1, mc1, me1, mm1, -⟩ := slice_of mh1
  subst me1
  have mR1 := Lib.hid mh1
  clear mh1
  obtain ⟨mA2, mc2, me2, mm2, -⟩ := slice_of mh2
  subst me2
  have mR2 := Lib.hid mh2
  clear mh2
  obtain ⟨mA3, mc3, me3, mm3, -⟩ := slice_of mh3
  subst me3
  have mR3 := Lib.hid mh3
  clear mh3
  go_enter Try.func113, Try.ntmps113
  go_wp2_with fail
  obtain ⟨W0, hV⟩ : ∃ W0, W0 = (w.alloc (.cells #[.int .i64 n.1, .slice mA1 (n.2.1).length mc1, .slice mA2 (n.2.2.1).length mc2, .slice mA3 (n.2.2.2).length mc3] 36)) := ⟨_, rfl⟩
  rw [← hV]
  have gN := eqbox1 hV
  have d0 : W0.cell? ⟨w.heap.size, 0, none⟩ = some (.int .i64 n.1) := box_cell gN.1 0 _ rfl
  have d1 : W0.cell? ⟨w.heap.size, 1, none⟩ = some (.slice mA1 (n.2.1).length mc1) := box_cell gN.1 1 _ rfl
  have d2 : W0.cell? ⟨w.heap.size, 2, none⟩ = some (.slice mA2 (n.2.2.1).length mc2) := box_cell gN.1 2 _ rfl
  have d3 : W0.cell? ⟨w.heap.size, 3, none⟩ = some (.slice mA3 (n.2.2.2).length mc3) := box_cell gN.1 3 _ rfl
  have sW0 : W0.heap.size = w.heap.size + 1 := by rw [hV]; simp
  have HW0 := Lib.hid gN.2
  clear hV gN
  have HE0 := Lib.hid d0
  have HE1 := Lib.hid d1
  have HE2 := Lib.hid d2
  have HE3 := Lib.hid d3
  refine (specState_at n st _ _ _ (rdUp good_Net HD.out HW0.out) (rdUp good_IntS HV.out HW0.out) HF.out).mono ?_
  rintro e w0 ⟨rfl, hb⟩
  replace d0 := keep hb d0
  replace d1 := keep hb d1
  replace d2 := keep hb d2
  replace d3 := keep hb d3
  have HB := Lib.hid (bThen HW0.out hb)
  have HB00 := Lib.hid hb
  clear hb
  cases f with
  | false =>
    have HE := Lib.hid ((vals_no HF.out).symm.trans HX.out)
    go_wp2
    go_ret
    refine ⟨_, rfl, ?_, bAlloc HB.out (Nat.le_refl _) _⟩
    rw [← HE.out]
    exact own_newI _ _ HB.out.size
  | true =>
    have HE := Lib.hid ((vals_yes HF.out).symm.trans HX.out)
    have hT := stateP_of HF.out
    have hP := netP_of hT.net
    have HP := Lib.hid hP
    have HSP := Lib.hid hP.sz
    have a300 := hP.sz.a300
    have s12 := hP.sz.s12
    have hsl := hT.len
    have HST := Lib.hid hT
    obtain ⟨N, hN⟩ : ∃ N : Nat, netN n = N := ⟨_, rfl⟩
    have hN3 : N ≤ 333 := by rw [← hN]; exact hP.sz.net_le.1
    have HNC := Lib.hid (show ncI n = (N : Int) by rw [hP.sz.nc, hN])
    have HN := Lib.hid hN
    obtain ⟨I, hI⟩ : ∃ I : Nat, n.1.toNat = I := ⟨_, rfl⟩
    have hi0 : n.1 = (I : Int) := by rw [← hI]; exact hP.sz.i0
    have i20 : I ≤ 20 := by rw [← hI]; exact hP.sz.i20
    have hfN1 : 1 + I + n.2.1.length + n.2.2.1.length = N := by rw [← hN, ← hI]; unfold netN firN; omega
    have HI := Lib.hid hI
    have HI0 := Lib.hid hi0
    have HFN1 := Lib.hid hfN1
    clear hP hN hT hI hi0 hfN1
    go_wp2_with fail
    refine (specNc_at n _ _ (rdUp good_Net HD.out HB.out) (Nat.le_refl _) HNC.out).mono ?_
    rintro e w1 ⟨rfl, hb⟩
    replace d0 := keep hb d0
    replace d1 := keep hb d1
    replace d2 := keep hb d2
    replace d3 := keep hb d3
    have HB01 := Lib.hid (bThen HB00.out hb)
    clear hb HB00 HB
    go_wp2_with (at_make; refine wpList_make_full _ rfl _ _ 24 rfl w1.heap.size 3 i0 (.int .i64 0) 1 Try.underlying24 hi hz0 hz1 .i64 .i64 (N : Int) (N : Int) N rfl rfl rfl rfl (by rw [hz2]; omega) (by unfold maxLen; omega) (Nat.le_refl _) ?_; intro w2 hown1 hgrow1; replace d0 := grownC hgrow1 d0 (by intro e; cases e); replace d1 := grownC hgrow1 d1 (by intro e; cases e); replace d2 := grownC hgrow1 d2 (by intro e; cases e); replace d3 := grownC hgrow1 d3 (by intro e; cases e))
    have hO := own_makeI hown1
    have hb : Below w1.heap.size w1 w2 := (Below.refl _ _).grown hgrow1 (Nat.le_refl _) (by intro g hg; cases hg)
    obtain ⟨G, hG⟩ : ∃ G, w1.heap.size = G := ⟨_, rfl⟩
    have hGW : W0.heap.size ≤ G := by rw [← hG]; exact HB01.out.size
    have HO := Lib.hid (show OwnsI w2 W0.heap.size (.slice (some ⟨G, 0, none⟩) N N) (List.replicate N 0) by rw [← hG]; exact hO.lower HB01.out.size)
    have HB02 := Lib.hid (bThen HB01.out hb)
    rw [hG]
    clear hown1 hgrow1 hO hb hG
    clear d0 d1 d2 d3
    go_loopw [8] (fun z wr => ∃ k : Nat, k ≤ I ∧ z = .int .i64 (k : Int) ∧ OwnsI wr W0.heap.size (.slice (some ⟨G, 0, none⟩) N N) (insK n xv k) ∧ Below W0.heap.size W0 wr) (fun z _ => I - (intOf z).toNat)
    case atStart => exact ⟨0, Nat.zero_le _, rfl, by unfold insK; rw [HN.out]; exact HO.out, HB02.out⟩
    case round =>
      obtain ⟨k, hk, rfl, hown, hb⟩ := hrel
      obtain ⟨w3, rfl⟩ : ∃ w3, w3 = wr := ⟨_, rfl⟩
      clear HO HB02
      have HO := Lib.hid hown
      have HB0 := Lib.hid hb
      have HB := Lib.hid (bThen HW0.out hb)
      have c0 := keep hb HE0.out
      have c1 := keep hb HE1.out
      have c2 := keep hb HE2.out
      have c3 := keep hb HE3.out
      clear hown hb
      rw [HI0.out] at c0
      by_cases hlt : k < I
      · obtain ⟨f, hf⟩ : ∃ f, 1 + k = f := ⟨_, rfl⟩
        have hfN : f < N := by have := HFN1.out; omega
        have tl : (f : Int) < (N : Int) := by omega
        have tk : (k : Int) < (I : Int) := by omega
        have ef : (1 : Int) + (k : Int) = (f : Int) := by omega
        have ew : IntKind.i64.wrap ((1 : Int) + (k : Int)) = (f : Int) := by rw [wrap64_int _ (by omega) (by omega)]; omega
        obtain ⟨y, hy⟩ : ∃ y, xv / 2 ^ k % 2 = y := ⟨_, rfl⟩
        have e1 := shr_var xv (show k ≤ 64 by omega)
        have e2 := and_one (xv / 2 ^ k)
        rw [hy] at e2
        have HLEN := Lib.hid ((insK_len n xv k).trans HN.out)
        have HNW := Lib.hid (show (insK n xv k).set f y = insK n xv (k + 1) by rw [← hf, ← hy]; rfl)
        have HB4 := Lib.hid (Below.refl w3.heap.size w3)
        clear hf hy
        have HQ3 := Lib.hid (HO.out.below HB4.out)
        have gf := ownI_cell HQ3.out HLEN.out hfN
        have t0 := gf.1
        have t1 := gf.2
        have gB := (HQ3.out.lt G rfl).1
        clear gf
        clear c1 c2 c3
        go_wp2
        go_roundw
        case rel =>
          have h3 := ownI_set HQ3.out HLEN.out hfN (y)
          rw [HNW.out] at h3
          exact ⟨k + 1, by omega, by go_num, h3, bSet (p := ⟨G, f, none⟩) (bThen HB0.out HB4.out) hGW _⟩
        case measure => simp [intOf]; omega
      · obtain rfl : I = k := by omega
        have HOI := Lib.hid (show OwnsI w3 W0.heap.size (.slice (some ⟨G, 0, none⟩) N N) (regK n st xv 0) by unfold regK; rw [HI.out]; exact HO.out)
        have HBI := Lib.hid HB0.out
        clear hlt HB0 HO HB c1 c2 c3
        go_wp2
        clear c0
        have HO := Lib.hid HOI.out
        have HB02 := Lib.hid HBI.out
        clear HOI HBI
        go_loopw [9] (fun z wr => ∃ k : Nat, k ≤ n.2.1.length ∧ z = .int .i64 (k : Int) ∧ OwnsI wr W0.heap.size (.slice (some ⟨G, 0, none⟩) N N) (regK n st xv k) ∧ Below W0.heap.size W0 wr) (fun z _ => n.2.1.length - (intOf z).toNat)
        case atStart => exact ⟨0, Nat.zero_le _, rfl, HO.out, HB02.out⟩
        case round =>
          obtain ⟨k, hk, rfl, hown, hb⟩ := hrel
          obtain ⟨w3, rfl⟩ : ∃ w3, w3 = wr := ⟨_, rfl⟩
          clear HO HB02
          have HO := Lib.hid hown
          have HB0 := Lib.hid hb
          have HB := Lib.hid (bThen HW0.out hb)
          have c0 := keep hb HE0.out
          have c1 := keep hb HE1.out
          have c2 := keep hb HE2.out
          have c3 := keep hb HE3.out
          clear hown hb
          have tl0 : (st.length : Int) = (n.2.1.length : Int) := by have := HST.out.len; omega
          by_cases hlt : k < n.2.1.length
          · rw [HI0.out] at c0
            obtain ⟨x, hx⟩ : ∃ x, st[k]? = some x := ⟨_, List.getElem?_eq_getElem (by have := HST.out.len; omega)⟩
            obtain ⟨vb, vq, rfl, vb1, xc, -⟩ := at_Int (good_IntS.below HV.out (Nat.le_refl _) HB.out) hx
            have vb2 := Nat.lt_of_lt_of_le vb1 HB.out.size
            obtain ⟨f, hf⟩ : ∃ f, 1 + I + k = f := ⟨_, rfl⟩
            have hfN : f < N := by have := HFN1.out; omega
            have tl : (f : Int) < (N : Int) := by omega
            have tk : (k : Int) < (n.2.1.length : Int) := by omega
            have ef : (1 : Int) + (I : Int) + (k : Int) = (f : Int) := by omega
            have ew : IntKind.i64.wrap ((1 : Int) + (I : Int) + (k : Int)) = (f : Int) := by rw [wrap64_int _ (by omega) (by omega)]; omega
            have ew1 : IntKind.i64.wrap ((1 : Int) + (I : Int)) = (1 : Int) + (I : Int) := wrap64_int _ (by omega) (by omega)
            obtain ⟨y, hy⟩ : ∃ y, x % 2 = y := ⟨_, rfl⟩
            have e2 := and_one x
            rw [hy] at e2
            have HLEN := Lib.hid ((regK_len n st xv k).trans HN.out)
            have HNW := Lib.hid (show (regK n st xv k).set f y = regK n st xv (k + 1) by rw [regK_step hx, HI.out, hf, hy])
            clear hf hy hx vb1
            go_wp2_with fail
            have hS0 : (fun w' => Below w3.heap.size w3 w' ∧ w'.cell? ⟨w.heap.size, 0, none⟩ = some (.int .i64 (I : Int)) ∧ w'.cell? ⟨w.heap.size, 1, none⟩ = some (.slice mA1 (n.2.1).length mc1) ∧ w'.cell? ⟨w.heap.size, 2, none⟩ = some (.slice mA2 (n.2.2.1).length mc2) ∧ w'.cell? ⟨w.heap.size, 3, none⟩ = some (.slice mA3 (n.2.2.2).length mc3) ∧ w'.cell? ⟨vb, vq + k, none⟩ = some (.int .i64 x)) w3 := ⟨Below.refl _ _, c0, c1, c2, c3, xc⟩
            have hS : ∀ {w0 w' : World}, (fun w' => Below w3.heap.size w3 w' ∧ w'.cell? ⟨w.heap.size, 0, none⟩ = some (.int .i64 (I : Int)) ∧ w'.cell? ⟨w.heap.size, 1, none⟩ = some (.slice mA1 (n.2.1).length mc1) ∧ w'.cell? ⟨w.heap.size, 2, none⟩ = some (.slice mA2 (n.2.2.1).length mc2) ∧ w'.cell? ⟨w.heap.size, 3, none⟩ = some (.slice mA3 (n.2.2.2).length mc3) ∧ w'.cell? ⟨vb, vq + k, none⟩ = some (.int .i64 x)) w0 → Below w0.heap.size w0 w' → (fun w' => Below w3.heap.size w3 w' ∧ w'.cell? ⟨w.heap.size, 0, none⟩ = some (.int .i64 (I : Int)) ∧ w'.cell? ⟨w.heap.size, 1, none⟩ = some (.slice mA1 (n.2.1).length mc1) ∧ w'.cell? ⟨w.heap.size, 2, none⟩ = some (.slice mA2 (n.2.2.1).length mc2) ∧ w'.cell? ⟨w.heap.size, 3, none⟩ = some (.slice mA3 (n.2.2.2).length mc3) ∧ w'.cell? ⟨vb, vq + k, none⟩ = some (.int .i64 x)) w' := fun h hb => ⟨bThen h.1 hb, keep hb h.2.1, keep hb h.2.2.1, keep hb h.2.2.2.1, keep hb h.2.2.2.2.1, keep hb h.2.2.2.2.2⟩
            dsimp only at hS0 hS
            refine wp_region_noPanic ?_
            refine wp_region_kept 11 13 (fun w' => Below w3.heap.size w3 w' ∧ w'.cell? ⟨w.heap.size, 0, none⟩ = some (.int .i64 (I : Int)) ∧ w'.cell? ⟨w.heap.size, 1, none⟩ = some (.slice mA1 (n.2.1).length mc1) ∧ w'.cell? ⟨w.heap.size, 2, none⟩ = some (.slice mA2 (n.2.2.1).length mc2) ∧ w'.cell? ⟨w.heap.size, 3, none⟩ = some (.slice mA3 (n.2.2.2).length mc3) ∧ w'.cell? ⟨vb, vq + k, none⟩ = some (.int .i64 x)) (by kernel_rfl) rfl (hS hS0 (Below.drew (Below.refl _ _))) (fun hK0 => ?_)
            refine Kept.take (v := ?vb0) 0 (by kernel_rfl) rfl (by kernel_rfl) (fun _ _ _ h => h) (Or.inl ⟨by rfl, ?hyb0⟩) hK0 ?restb0
            case hyb0 =>
              intro w0 hSw
              (try dsimp only at hSw)
              go_simp
              all_goals (with_reducible rfl)
            (try simp only [Act.put, List.setIfInBounds_toArray, List.set_cons_zero, List.set_cons_succ])
            refine Kept.take (v := ?vb1) 1 (by kernel_rfl) rfl (by kernel_rfl) (fun _ _ _ h => h) (Or.inl ⟨by rfl, ?hyb1⟩) hK0 ?restb1
            case hyb1 =>
              intro w0 hSw
              (try dsimp only at hSw)
              go_simp
              all_goals (with_reducible rfl)
            (try simp only [Act.put, List.setIfInBounds_toArray, List.set_cons_zero, List.set_cons_succ])
            refine Kept.take (v := ?vb2) 2 (by kernel_rfl) rfl (by kernel_rfl) (fun _ _ _ h => h) (Or.inl ⟨by rfl, ?hyb2⟩) hK0 ?restb2
            case hyb2 =>
              intro w0 hSw
              (try dsimp only at hSw)
              go_simp
              all_goals (with_reducible rfl)
            (try simp only [Act.put, List.setIfInBounds_toArray, List.set_cons_zero, List.set_cons_succ])
            refine Kept.take (v := ?vb3) 3 (by kernel_rfl) rfl (by kernel_rfl) (fun _ _ _ h => h) (Or.inl ⟨by rfl, ?hyb3⟩) hK0 ?restb3
            case hyb3 =>
              intro w0 hSw
              (try dsimp only at hSw)
              go_simp
              all_goals (with_reducible rfl)
            (try simp only [Act.put, List.setIfInBounds_toArray, List.set_cons_zero, List.set_cons_succ])
            refine Kept.take (v := ?vb4) 4 (by kernel_rfl) rfl (by kernel_rfl) (fun _ _ _ h => h) (Or.inl ⟨by rfl, ?hyb4⟩) hK0 ?restb4
            case hyb4 =>
              intro w0 hSw
              (try dsimp only at hSw)
              go_simp
              all_goals (with_reducible rfl)
            (try simp only [Act.put, List.setIfInBounds_toArray, List.set_cons_zero, List.set_cons_succ])
            refine Kept.take (v := ?vb5) 5 (by kernel_rfl) rfl (by kernel_rfl) (fun _ _ _ h => h) (Or.inl ⟨by rfl, ?hyb5⟩) hK0 ?restb5
            case hyb5 =>
              intro w0 hSw
              (try dsimp only at hSw)
              go_simp
              all_goals (with_reducible rfl)
            (try simp only [Act.put, List.setIfInBounds_toArray, List.set_cons_zero, List.set_cons_succ])
            refine Kept.take (v := ?vb6) 6 (by kernel_rfl) rfl (by kernel_rfl) (fun _ _ _ h => h) (Or.inl ⟨by rfl, ?hyb6⟩) hK0 ?restb6
            case hyb6 =>
              intro w0 hSw
              (try dsimp only at hSw)
              go_simp
              all_goals (with_reducible rfl)
            (try simp only [Act.put, List.setIfInBounds_toArray, List.set_cons_zero, List.set_cons_succ])
            refine Kept.take (v := ?vb7) 7 (by kernel_rfl) rfl (by kernel_rfl) (fun _ _ _ h => h) (Or.inl ⟨by rfl, ?hyb7⟩) hK0 ?restb7
            case hyb7 =>
              intro w0 hSw
              (try dsimp only at hSw)
              go_simp
              all_goals (with_reducible rfl)
            (try simp only [Act.put, List.setIfInBounds_toArray, List.set_cons_zero, List.set_cons_succ])
            refine Kept.take (v := ?vb8) 8 (by kernel_rfl) rfl (by kernel_rfl) (fun _ _ _ h => h) (Or.inl ⟨by rfl, ?hyb8⟩) hK0 ?restb8
            case hyb8 =>
              intro w0 hSw
              (try dsimp only at hSw)
              go_simp
              all_goals (with_reducible rfl)
            (try simp only [Act.put, List.setIfInBounds_toArray, List.set_cons_zero, List.set_cons_succ])
            refine Kept.take (v := ?vb9) 9 (by kernel_rfl) rfl (by kernel_rfl) (fun _ _ _ h => h) (Or.inl ⟨by rfl, ?hyb9⟩) hK0 ?restb9
            case hyb9 =>
              intro w0 hSw
              (try dsimp only at hSw)
              go_simp
              all_goals (with_reducible rfl)
            (try simp only [Act.put, List.setIfInBounds_toArray, List.set_cons_zero, List.set_cons_succ])
            refine Kept.take (v := ?vb10) 10 (by kernel_rfl) rfl (by kernel_rfl) (fun _ _ _ h => h) (Or.inl ⟨by rfl, ?hyb10⟩) hK0 ?restb10
            case hyb10 =>
              intro w0 hSw
              (try dsimp only at hSw)
              go_simp
              all_goals (with_reducible rfl)
            (try simp only [Act.put, List.setIfInBounds_toArray, List.set_cons_zero, List.set_cons_succ])
            refine Kept.tail (by rfl) (by kernel_rfl) ?_
            simp only [List.drop_succ_cons, List.drop_zero]
            have HB4 := Lib.hid hK0.1
            have HQ3 := Lib.hid (HO.out.below HB4.out)
            have gf := ownI_cell HQ3.out HLEN.out hfN
            have t0 := gf.1
            have t1 := gf.2
            have gB := (HQ3.out.lt G rfl).1
            clear gf
            clear c0 c1 c2 c3 xc hS0 hS hK0
            go_wp2
            refine NoPanic.normal ?_
            go_wp2
            go_roundw
            case rel =>
              have h3 := ownI_set HQ3.out HLEN.out hfN (y)
              rw [HNW.out] at h3
              exact ⟨k + 1, by omega, by go_num, h3, bSet (p := ⟨G, f, none⟩) (bThen HB0.out HB4.out) hGW _⟩
            case measure => simp [intOf]; omega
          · obtain rfl : k = n.2.1.length := by omega
            have HOI := Lib.hid (show OwnsI w3 W0.heap.size (.slice (some ⟨G, 0, none⟩) N N) (valK n st xv 0) by unfold valK; exact HO.out)
            have HBI := Lib.hid HB0.out
            clear hlt HB0 HO HB c0 c1 c2 c3
            go_wp2
            have HO := Lib.hid HOI.out
            have HB02 := Lib.hid HBI.out
            clear HOI HBI
            go_loopw [10] (fun z wr => ∃ k : Nat, k ≤ n.2.2.1.length ∧ z = .int .i64 (k : Int) ∧ OwnsI wr W0.heap.size (.slice (some ⟨G, 0, none⟩) N N) (valK n st xv k) ∧ Below W0.heap.size W0 wr) (fun z _ => n.2.2.1.length - (intOf z).toNat)
            case atStart => exact ⟨0, Nat.zero_le _, rfl, HO.out, HB02.out⟩
            case round =>
              obtain ⟨k, hk, rfl, hown, hb⟩ := hrel
              obtain ⟨w3, rfl⟩ : ∃ w3, w3 = wr := ⟨_, rfl⟩
              clear HO HB02
              have HO := Lib.hid hown
              have HB0 := Lib.hid hb
              have HB := Lib.hid (bThen HW0.out hb)
              have c0 := keep hb HE0.out
              have c1 := keep hb HE1.out
              have c2 := keep hb HE2.out
              have c3 := keep hb HE3.out
              clear hown hb
              by_cases hlt : k < n.2.2.1.length
              · obtain ⟨a, ha⟩ : ∃ a, n.2.2.1[k]? = some a := ⟨_, List.getElem?_eq_getElem hlt⟩
                obtain ⟨x, y, rfl, hx, hy⟩ := HP.out.and_ k a ha
                obtain ⟨ab, aq, rfl, ab1, x0, xf, x1, yf⟩ := at_And (good_AndS.below mR2.out (Nat.le_refl _) HB.out) ha
                have ab2 := Nat.lt_of_lt_of_le ab1 HB.out.size
                unfold Fit at xf yf
                dsimp only at x0 x1 xf yf
                have hx63 : x ≤ 9223372036854775807 := by omega
                have hy63 : y ≤ 9223372036854775807 := by omega
                have hf33 := HSP.out.fir_le
                have hfk : firN n + k < N := by rw [← HN.out]; unfold netN; omega
                obtain ⟨f, hf⟩ : ∃ f, firN n + k = f := ⟨_, rfl⟩
                obtain ⟨V3, hV3⟩ : ∃ V3, valK n st xv k = V3 := ⟨_, rfl⟩
                have hlen : V3.length = N := by rw [← hV3, valK_len, HN.out]
                have hin := valK_in n st xv k
                rw [hV3] at hin
                obtain ⟨u, hu⟩ : ∃ u, V3.getD (x / 2) 0 = u := ⟨_, rfl⟩
                obtain ⟨v, hv⟩ : ∃ v, V3.getD (y / 2) 0 = v := ⟨_, rfl⟩
                have hu2 := hin (x / 2)
                have hv2 := hin (y / 2)
                rw [hu] at hu2
                rw [hv] at hv2
                have HXV := Lib.hid (show V3[x / 2]? = some u by rw [← hu]; exact get_of_len hlen (by omega))
                have HYV := Lib.hid (show V3[y / 2]? = some v by rw [← hv]; exact get_of_len hlen (by omega))
                obtain ⟨bx, hbx⟩ : ∃ bx, bitV V3 x = bx := ⟨_, rfl⟩
                obtain ⟨byy, hby⟩ : ∃ byy, bitV V3 y = byy := ⟨_, rfl⟩
                have HBX := Lib.hid hbx
                have HBY := Lib.hid hby
                have bx2 := bitV_in V3 x
                have by2 := bitV_in V3 y
                rw [hbx] at bx2
                rw [hby] at by2
                obtain ⟨y9, hy9⟩ : ∃ y9, bx * byy = y9 := ⟨_, rfl⟩
                have e2 := and_01 bx2 by2
                rw [hy9] at e2
                have HFT := Lib.hid (fit_01 hin)
                rw [hf] at hfk
                have hfN : f < N := hfk
                have tl : (f : Int) < (N : Int) := by omega
                have tk : (k : Int) < (n.2.2.1.length : Int) := by omega
                have hEw : IntKind.i64.wrap ((firN n : Int) + (k : Int)) = (f : Int) := by rw [wrap64_int _ (by omega) (by omega)]; omega
                have HLEN := Lib.hid hlen
                have HNW := Lib.hid (show V3.set f y9 = valK n st xv (k + 1) by rw [valK_step ha, hV3, hf, hbx, hby, hy9])
                rw [hV3] at HO
                clear ha hx hy hf hV3 hlen hin hu hv hbx hby hy9 xf yf ab1 hfk bx2 by2 hf33
                go_wp2_with fail
                have hS0 : (fun w' => Below w3.heap.size w3 w' ∧ w'.cell? ⟨w.heap.size, 0, none⟩ = some (.int .i64 n.1) ∧ w'.cell? ⟨w.heap.size, 1, none⟩ = some (.slice mA1 (n.2.1).length mc1) ∧ w'.cell? ⟨w.heap.size, 2, none⟩ = some (.slice (some ⟨ab, aq, none⟩) (n.2.2.1).length mc2) ∧ w'.cell? ⟨w.heap.size, 3, none⟩ = some (.slice mA3 (n.2.2.2).length mc3) ∧ w'.cell? ⟨ab, aq + k * 2, none⟩ = some (.int .i64 (x : Int)) ∧ w'.cell? ⟨ab, aq + k * 2 + 1, none⟩ = some (.int .i64 (y : Int))) w3 := ⟨Below.refl _ _, c0, c1, c2, c3, x0, x1⟩
                have hS : ∀ {w0 w' : World}, (fun w' => Below w3.heap.size w3 w' ∧ w'.cell? ⟨w.heap.size, 0, none⟩ = some (.int .i64 n.1) ∧ w'.cell? ⟨w.heap.size, 1, none⟩ = some (.slice mA1 (n.2.1).length mc1) ∧ w'.cell? ⟨w.heap.size, 2, none⟩ = some (.slice (some ⟨ab, aq, none⟩) (n.2.2.1).length mc2) ∧ w'.cell? ⟨w.heap.size, 3, none⟩ = some (.slice mA3 (n.2.2.2).length mc3) ∧ w'.cell? ⟨ab, aq + k * 2, none⟩ = some (.int .i64 (x : Int)) ∧ w'.cell? ⟨ab, aq + k * 2 + 1, none⟩ = some (.int .i64 (y : Int))) w0 → Below w0.heap.size w0 w' → (fun w' => Below w3.heap.size w3 w' ∧ w'.cell? ⟨w.heap.size, 0, none⟩ = some (.int .i64 n.1) ∧ w'.cell? ⟨w.heap.size, 1, none⟩ = some (.slice mA1 (n.2.1).length mc1) ∧ w'.cell? ⟨w.heap.size, 2, none⟩ = some (.slice (some ⟨ab, aq, none⟩) (n.2.2.1).length mc2) ∧ w'.cell? ⟨w.heap.size, 3, none⟩ = some (.slice mA3 (n.2.2.2).length mc3) ∧ w'.cell? ⟨ab, aq + k * 2, none⟩ = some (.int .i64 (x : Int)) ∧ w'.cell? ⟨ab, aq + k * 2 + 1, none⟩ = some (.int .i64 (y : Int))) w' := fun h hb => ⟨bThen h.1 hb, keep hb h.2.1, keep hb h.2.2.1, keep hb h.2.2.2.1, keep hb h.2.2.2.2.1, keep hb h.2.2.2.2.2.1, keep hb h.2.2.2.2.2.2⟩
                dsimp only at hS0 hS
                refine wp_region_noPanic ?_
                refine wp_region_kept 22 24 (fun w' => Below w3.heap.size w3 w' ∧ w'.cell? ⟨w.heap.size, 0, none⟩ = some (.int .i64 n.1) ∧ w'.cell? ⟨w.heap.size, 1, none⟩ = some (.slice mA1 (n.2.1).length mc1) ∧ w'.cell? ⟨w.heap.size, 2, none⟩ = some (.slice (some ⟨ab, aq, none⟩) (n.2.2.1).length mc2) ∧ w'.cell? ⟨w.heap.size, 3, none⟩ = some (.slice mA3 (n.2.2.2).length mc3) ∧ w'.cell? ⟨ab, aq + k * 2, none⟩ = some (.int .i64 (x : Int)) ∧ w'.cell? ⟨ab, aq + k * 2 + 1, none⟩ = some (.int .i64 (y : Int))) (by kernel_rfl) rfl (hS hS0 (Below.drew (Below.refl _ _))) (fun hK0 => ?_)
                refine Kept.take (v := ?vc0) 0 (by kernel_rfl) rfl (by kernel_rfl) (fun _ _ _ h => h) (Or.inl ⟨by rfl, ?hyc0⟩) hK0 ?restc0
                case hyc0 =>
                  intro w0 hSw
                  (try dsimp only at hSw)
                  go_simp
                  all_goals (with_reducible rfl)
                (try simp only [Act.put, List.setIfInBounds_toArray, List.set_cons_zero, List.set_cons_succ])
                refine Kept.take (v := ?vc1) 1 (by kernel_rfl) rfl (by kernel_rfl) (fun _ _ _ h => h) (Or.inl ⟨by rfl, ?hyc1⟩) hK0 ?restc1
                case hyc1 =>
                  intro w0 hSw
                  (try dsimp only at hSw)
                  go_simp
                  all_goals (with_reducible rfl)
                (try simp only [Act.put, List.setIfInBounds_toArray, List.set_cons_zero, List.set_cons_succ])
                refine Kept.take (v := ?vc3) 3 (by kernel_rfl) rfl (by kernel_rfl) (fun _ _ _ h => h) (Or.inl ⟨by rfl, ?hyc3⟩) hK0 ?restc3
                case hyc3 =>
                  intro w0 hSw
                  (try dsimp only at hSw)
                  go_simp
                  all_goals (with_reducible rfl)
                (try simp only [Act.put, List.setIfInBounds_toArray, List.set_cons_zero, List.set_cons_succ])
                refine Kept.take (v := ?vc5) 5 (by kernel_rfl) rfl (by kernel_rfl) (fun _ _ _ h => h) (Or.inl ⟨by rfl, ?hyc5⟩) hK0 ?restc5
                case hyc5 =>
                  intro w0 hSw
                  (try dsimp only at hSw)
                  go_simp
                  all_goals (with_reducible rfl)
                (try simp only [Act.put, List.setIfInBounds_toArray, List.set_cons_zero, List.set_cons_succ])
                refine Kept.take (v := ?vc6) 6 (by kernel_rfl) rfl (by kernel_rfl) (fun _ _ _ h => h) (Or.inl ⟨by rfl, ?hyc6⟩) hK0 ?restc6
                case hyc6 =>
                  intro w0 hSw
                  (try dsimp only at hSw)
                  go_simp
                  all_goals (with_reducible rfl)
                (try simp only [Act.put, List.setIfInBounds_toArray, List.set_cons_zero, List.set_cons_succ])
                refine Kept.take (v := ?vc7) 7 (by kernel_rfl) rfl (by kernel_rfl) (fun _ _ _ h => h) (Or.inl ⟨by rfl, ?hyc7⟩) hK0 ?restc7
                case hyc7 =>
                  intro w0 hSw
                  (try dsimp only at hSw)
                  go_simp
                  all_goals (with_reducible rfl)
                (try simp only [Act.put, List.setIfInBounds_toArray, List.set_cons_zero, List.set_cons_succ])
                refine Kept.take (v := ?vc8) 8 (by kernel_rfl) rfl (by kernel_rfl) (fun _ _ _ h => h) (Or.inl ⟨by rfl, ?hyc8⟩) hK0 ?restc8
                case hyc8 =>
                  intro w0 hSw
                  (try dsimp only at hSw)
                  go_simp
                  all_goals (with_reducible rfl)
                (try simp only [Act.put, List.setIfInBounds_toArray, List.set_cons_zero, List.set_cons_succ])
                refine Kept.take (v := ?vc9) 9 (by kernel_rfl) rfl (by kernel_rfl) (fun _ _ _ h => h) (Or.inl ⟨by rfl, ?hyc9⟩) hK0 ?restc9
                case hyc9 =>
                  intro w0 hSw
                  (try dsimp only at hSw)
                  go_simp
                  all_goals (with_reducible rfl)
                (try simp only [Act.put, List.setIfInBounds_toArray, List.set_cons_zero, List.set_cons_succ])
                refine Kept.take (v := ?vc10) 10 (by kernel_rfl) rfl (by kernel_rfl) (fun _ _ _ h => h) (Or.inl ⟨by rfl, ?hyc10⟩) hK0 ?restc10
                case hyc10 =>
                  intro w0 hSw
                  (try dsimp only at hSw)
                  go_simp
                  all_goals (with_reducible rfl)
                (try simp only [Act.put, List.setIfInBounds_toArray, List.set_cons_zero, List.set_cons_succ])
                refine Kept.take (v := ?vc11) 11 (by kernel_rfl) rfl (by kernel_rfl) (fun _ _ _ h => h) (Or.inl ⟨by rfl, ?hyc11⟩) hK0 ?restc11
                case hyc11 =>
                  intro w0 hSw
                  (try dsimp only at hSw)
                  go_simp
                  all_goals (with_reducible rfl)
                (try simp only [Act.put, List.setIfInBounds_toArray, List.set_cons_zero, List.set_cons_succ])
                refine Kept.take (v := ?vc13) 13 (by kernel_rfl) rfl (by kernel_rfl) (fun _ _ _ h => h) (Or.inl ⟨by rfl, ?hyc13⟩) hK0 ?restc13
                case hyc13 =>
                  intro w0 hSw
                  (try dsimp only at hSw)
                  go_simp
                  all_goals (with_reducible rfl)
                (try simp only [Act.put, List.setIfInBounds_toArray, List.set_cons_zero, List.set_cons_succ])
                refine Kept.take (v := ?vc14) 14 (by kernel_rfl) rfl (by kernel_rfl) (fun _ _ _ h => h) (Or.inl ⟨by rfl, ?hyc14⟩) hK0 ?restc14
                case hyc14 =>
                  intro w0 hSw
                  (try dsimp only at hSw)
                  go_simp
                  all_goals (with_reducible rfl)
                (try simp only [Act.put, List.setIfInBounds_toArray, List.set_cons_zero, List.set_cons_succ])
                refine Kept.take (v := ?vc15) 15 (by kernel_rfl) rfl (by kernel_rfl) (fun _ _ _ h => h) (Or.inl ⟨by rfl, ?hyc15⟩) hK0 ?restc15
                case hyc15 =>
                  intro w0 hSw
                  (try dsimp only at hSw)
                  go_simp
                  all_goals (with_reducible rfl)
                (try simp only [Act.put, List.setIfInBounds_toArray, List.set_cons_zero, List.set_cons_succ])
                refine Kept.take (v := ?vc16) 16 (by kernel_rfl) rfl (by kernel_rfl) (fun _ _ _ h => h) (Or.inl ⟨by rfl, ?hyc16⟩) hK0 ?restc16
                case hyc16 =>
                  intro w0 hSw
                  (try dsimp only at hSw)
                  go_simp
                  all_goals (with_reducible rfl)
                (try simp only [Act.put, List.setIfInBounds_toArray, List.set_cons_zero, List.set_cons_succ])
                refine Kept.take (v := ?vc17) 17 (by kernel_rfl) rfl (by kernel_rfl) (fun _ _ _ h => h) (Or.inl ⟨by rfl, ?hyc17⟩) hK0 ?restc17
                case hyc17 =>
                  intro w0 hSw
                  (try dsimp only at hSw)
                  go_simp
                  all_goals (with_reducible rfl)
                (try simp only [Act.put, List.setIfInBounds_toArray, List.set_cons_zero, List.set_cons_succ])
                refine Kept.take (v := ?vc18) 18 (by kernel_rfl) rfl (by kernel_rfl) (fun _ _ _ h => h) (Or.inl ⟨by rfl, ?hyc18⟩) hK0 ?restc18
                case hyc18 =>
                  intro w0 hSw
                  (try dsimp only at hSw)
                  go_simp
                  all_goals (with_reducible rfl)
                (try simp only [Act.put, List.setIfInBounds_toArray, List.set_cons_zero, List.set_cons_succ])
                refine Kept.take (v := ?vc19) 19 (by kernel_rfl) rfl (by kernel_rfl) (fun _ _ _ h => h) (Or.inl ⟨by rfl, ?hyc19⟩) hK0 ?restc19
                case hyc19 =>
                  intro w0 hSw
                  (try dsimp only at hSw)
                  go_simp
                  all_goals (with_reducible rfl)
                (try simp only [Act.put, List.setIfInBounds_toArray, List.set_cons_zero, List.set_cons_succ])
                refine Kept.one 2 (by kernel_rfl) rfl (fun K hK => ?_)
                go_simp
                go_at_call 94
                refine (specFirst_at n _ _ (rdUp good_Net HD.out (bThen HB.out hK0.1)) (Nat.le_refl _) HSP.out).mono ?_
                rintro e wr0 ⟨rfl, hbr0⟩
                go_simp
                refine hK.out _ _ (hS hK0 hbr0) (fun hK1 => ?_)
                clear hK K hK0
                (try simp only [Act.put, List.setIfInBounds_toArray, List.set_cons_zero, List.set_cons_succ])
                refine Kept.take (v := ?vc4) 4 (by kernel_rfl) rfl (by kernel_rfl) (fun _ _ _ h => h) (Or.inl ⟨by rfl, ?hyc4⟩) hK1 ?restc4
                case hyc4 =>
                  intro w0 hSw
                  (try dsimp only at hSw)
                  go_simp
                  all_goals (with_reducible rfl)
                (try simp only [Act.put, List.setIfInBounds_toArray, List.set_cons_zero, List.set_cons_succ])
                refine Kept.one 12 (by kernel_rfl) rfl (fun K hK => ?_)
                go_simp
                go_at_call 134
                refine (specBit_at V3 x hx63 _ _ (good_IntS.below (ownI_rd HO.out HFT.out) (Nat.le_refl _) hK1.1) hK1.1.size HXV.out hu2.1 hu2.2 HBX.out).mono ?_
                rintro e wr1 ⟨rfl, hbr1⟩
                go_simp
                refine hK.out _ _ (hS hK1 hbr1) (fun hK2 => ?_)
                clear hK K hK1
                (try simp only [Act.put, List.setIfInBounds_toArray, List.set_cons_zero, List.set_cons_succ])
                refine Kept.one 20 (by kernel_rfl) rfl (fun K hK => ?_)
                go_simp
                go_at_call 134
                refine (specBit_at V3 y hy63 _ _ (good_IntS.below (ownI_rd HO.out HFT.out) (Nat.le_refl _) hK2.1) hK2.1.size HYV.out hv2.1 hv2.2 HBY.out).mono ?_
                rintro e wr2 ⟨rfl, hbr2⟩
                go_simp
                refine hK.out _ _ (hS hK2 hbr2) (fun hK3 => ?_)
                clear hK K hK2
                (try simp only [Act.put, List.setIfInBounds_toArray, List.set_cons_zero, List.set_cons_succ])
                refine Kept.take (v := ?vc21) 21 (by kernel_rfl) rfl (by kernel_rfl) (fun _ _ _ h => h) (Or.inl ⟨by rfl, ?hyc21⟩) hK3 ?restc21
                case hyc21 =>
                  intro w0 hSw
                  (try dsimp only at hSw)
                  go_simp
                  all_goals (with_reducible rfl)
                (try simp only [Act.put, List.setIfInBounds_toArray, List.set_cons_zero, List.set_cons_succ])
                refine Kept.tail (by rfl) (by kernel_rfl) ?_
                simp only [List.drop_succ_cons, List.drop_zero]
                have HB4 := Lib.hid hK3.1
                have HQ3 := Lib.hid (HO.out.below HB4.out)
                have gf := ownI_cell HQ3.out HLEN.out hfN
                have t0 := gf.1
                have t1 := gf.2
                have gB := (HQ3.out.lt G rfl).1
                clear gf
                clear c0 c1 c2 c3 x0 x1 hS0 hS hK3 hEw
                go_wp2
                refine NoPanic.normal ?_
                go_wp2
                go_roundw
                case rel =>
                  have h3 := ownI_set HQ3.out HLEN.out hfN (y9)
                  rw [HNW.out] at h3
                  exact ⟨k + 1, by omega, by go_num, h3, bSet (p := ⟨G, f, none⟩) (bThen HB0.out HB4.out) hGW _⟩
                case measure => simp [intOf]; omega
              · obtain rfl : k = n.2.2.1.length := by omega
                clear hlt
                go_wp2
                go_ret
                rw [← HE.out]
                exact ⟨_, rfl, HO.out.lower HW0.out.size, HB.out⟩
end Go.Proofs.Ytedamhkcblemdaa
/- NrP: The values of nodes as lists that grow: the plain part. -/
namespace Go.Proofs.Ytedamhkcblemdaa
open Go.RowKit
set_option linter.unusedVariables false
set_option linter.unusedSimpArgs false

def insA (x : Int) (k : Nat) : List Int := 0 :: (List.range k).map fun i => x / 2 ^ i % 2
def regA (st : List Int) (x : Int) (I k : Nat) : List Int := insA x I ++ (st.take k).map (· % 2)
def valA (n : DNet) (st : List Int) (x : Int) : Nat → List Int
  | 0 => regA st x n.1.toNat n.2.1.length
  | k + 1 => match n.2.2.1[k]? with
    | some a => valA n st x k ++ [bitV (valA n st x k) a.1.toNat * bitV (valA n st x k) a.2.toNat]
    | none => valA n st x k
theorem insA_len (x : Int) (k : Nat) : (insA x k).length = 1 + k := by simp [insA]; omega
theorem insA_step (x : Int) (k : Nat) : insA x (k + 1) = insA x k ++ [x / 2 ^ k % 2] := by simp [insA, List.range_succ]
theorem regA_zero (st : List Int) (x : Int) (I : Nat) : regA st x I 0 = insA x I := by simp [regA]
theorem regA_step {st : List Int} {x y : Int} {I k : Nat} (h : st[k]? = some y) : regA st x I (k + 1) = regA st x I k ++ [y % 2] := by
  unfold regA
  rw [List.take_add_one, h]
  simp
theorem regA_len {st : List Int} (x : Int) {I k : Nat} (h : k ≤ st.length) : (regA st x I k).length = 1 + I + k := by
  unfold regA
  rw [List.length_append, insA_len, List.length_map, List.length_take]
  omega
theorem valA_step {n : DNet} {st : List Int} {x : Int} {k p q : Nat} (ha : n.2.2.1[k]? = some ((p : Int), (q : Int))) : valA n st x (k + 1) = valA n st x k ++ [bitV (valA n st x k) p * bitV (valA n st x k) q] := by
  conv => lhs; unfold valA
  rw [ha]
  rfl
theorem set_app (A : List Int) (m : Nat) (y : Int) {i : Nat} (h : A.length = i) : (A ++ List.replicate (m + 1) 0).set i y = (A ++ [y]) ++ List.replicate m 0 := by
  subst h
  rw [List.set_append_right _ _ (Nat.le_refl _), Nat.sub_self, List.replicate_succ, List.set_cons_zero, List.append_assoc]
  rfl
theorem bitV_app (A B : List Int) {l : Nat} (h : l / 2 < A.length) : bitV (A ++ B) l = bitV A l := by
  unfold bitV
  rw [List.getD_eq_getElem?_getD, List.getD_eq_getElem?_getD, List.getElem?_append_left h]
theorem insK_app (n : DNet) (x : Int) (hN : 1 + n.1.toNat ≤ netN n) : ∀ k, k ≤ n.1.toNat → insK n x k = insA x k ++ List.replicate (netN n - (1 + k)) 0
  | 0, _ => by
    obtain ⟨m, hm⟩ : ∃ m, netN n = m + 1 := ⟨netN n - 1, by omega⟩
    unfold insK
    rw [hm, List.replicate_succ]
    simp [insA]
  | k + 1, h => by
    obtain ⟨m, hm⟩ : ∃ m, netN n - (1 + k) = m + 1 := ⟨netN n - (1 + k) - 1, by omega⟩
    unfold insK
    rw [insK_app n x hN k (by omega), hm, set_app _ _ _ (insA_len x k), insA_step]
    rw [show netN n - (1 + (k + 1)) = m by omega]
theorem regK_app (n : DNet) (st : List Int) (x : Int) (hN : 1 + n.1.toNat + n.2.1.length ≤ netN n) (hl : st.length = n.2.1.length) : ∀ k, k ≤ n.2.1.length → regK n st x k = regA st x n.1.toNat k ++ List.replicate (netN n - (1 + n.1.toNat + k)) 0
  | 0, _ => by unfold regK; rw [insK_app n x (by omega) _ (Nat.le_refl _), regA_zero]; rfl
  | k + 1, h => by
    obtain ⟨m, hm⟩ : ∃ m, netN n - (1 + n.1.toNat + k) = m + 1 := ⟨netN n - (1 + n.1.toNat + k) - 1, by omega⟩
    have hx : st[k]? = some (st.getD k 0) := get_of_len rfl (by omega)
    rw [regK_step hx, regK_app n st x hN hl k (by omega), hm, set_app _ _ _ (regA_len x (by omega)), regA_step hx]
    rw [show netN n - (1 + n.1.toNat + (k + 1)) = m by omega]
theorem valK_app {n : DNet} {st : List Int} (x : Int) (hP : NetP n) (hl : st.length = n.2.1.length) : ∀ k, k ≤ n.2.2.1.length → valK n st x k = valA n st x k ++ List.replicate (n.2.2.1.length - k) 0 ∧ (valA n st x k).length = firN n + k
  | 0, _ => by
    have e : netN n = 1 + n.1.toNat + n.2.1.length + n.2.2.1.length := by unfold netN firN; omega
    unfold valK valA
    rw [regK_app n st x (by omega) hl _ (Nat.le_refl _), regA_len x (by omega), e]
    refine ⟨?_, by unfold firN; omega⟩
    rw [show 1 + n.1.toNat + n.2.1.length + n.2.2.1.length - (1 + n.1.toNat + n.2.1.length) = n.2.2.1.length - 0 by omega]
  | k + 1, h => by
    obtain ⟨ih, il⟩ := valK_app x hP hl k (by omega)
    obtain ⟨m, hm⟩ : ∃ m, n.2.2.1.length - k = m + 1 := ⟨n.2.2.1.length - k - 1, by omega⟩
    obtain ⟨a, ha⟩ : ∃ a, n.2.2.1[k]? = some a := ⟨_, List.getElem?_eq_getElem (by omega)⟩
    obtain ⟨p, q, rfl, hp, hq⟩ := hP.and_ k a ha
    rw [valK_step ha, valA_step ha, ih, hm, bitV_app _ _ (by omega), bitV_app _ _ (by omega), set_app _ _ _ il]
    rw [show n.2.2.1.length - (k + 1) = m by omega]
    exact ⟨rfl, by rw [List.length_append, il]; rfl⟩
theorem valO_app {n : DNet} {st : List Int} (x : Int) (h : StateP n st) : valO n st x = valA n st x n.2.2.1.length := by
  rw [vals_yes (stateB_of h), (valK_app x (netP_of h.net) h.len _ (Nat.le_refl _)).1, Nat.sub_self]
  simp
theorem valA_in {n : DNet} {st : List Int} (x : Int) (hP : NetP n) (hl : st.length = n.2.1.length) {k : Nat} (hk : k ≤ n.2.2.1.length) (j : Nat) : 0 ≤ (valA n st x k).getD j 0 ∧ (valA n st x k).getD j 0 ≤ 1 := by
  obtain ⟨e, el⟩ := valK_app x hP hl k hk
  by_cases h : j < (valA n st x k).length
  · have := valK_in n st x k j
    rw [e, List.getD_eq_getElem?_getD, List.getElem?_append_left h, ← List.getD_eq_getElem?_getD] at this
    exact this
  · rw [List.getD_eq_getElem?_getD, List.getElem?_eq_none (by omega)]
    simp
theorem rd_own_small {L : List Int} (h : ∀ x ∈ L, 0 ≤ x ∧ x ≤ 1) : ∀ x ∈ L, Fit x := fun x hx => by have := h x hx; unfold Fit; omega
end Go.Proofs.Ytedamhkcblemdaa
/- Nr5: NodeValues: the program. -/
namespace Go.Proofs.Ytedamhkcblemdaa
open Go.RowKit
set_option linter.unusedVariables false
set_option linter.unusedSimpArgs false

theorem litO_nat {V : List Int} {l : Nat} {x : Int} (hx : V[l / 2]? = some x) (h : 0 ≤ x ∧ x ≤ 1) : litO V (l : Int) = bitV V l := litO_good hx h.1 h.2
set_option maxRecDepth 100000 in
set_option maxHeartbeats 12800000 in
theorem implRunVals_at (n : DNet) (st : List Int) (xv : Int) (rb : Nat) (us : List Value) (v : Value) (w : World) (h : rdNet 0 w.heap.size w us n) (hv : rdIntS 0 w.heap.size w [v] st)
    (hc : ∀ (i : Nat) (u : Value), us[i]? = some u → w.cell? ⟨rb, i, none⟩ = some u) (hc4 : w.cell? ⟨rb, 4, none⟩ = some v) (hT : StateP n st) {L : List Int} (hL : valO n st xv = L) :
    Calls Try.prog 108 #[.pointer (some ⟨rb, 0, none⟩), .int .i64 xv] w fun e w' => ∃ v', e = .returned v' ∧ OwnsI w' w.heap.size v' L ∧ Below w.heap.size w w' := by
  obtain ⟨i0, hi, hz0, hz1, hz2⟩ := info_parts infoI
  have HD := Lib.hid h
  have HV := Lib.hid hv
  have hP := netP_of hT.net
  have HE := Lib.hid ((valO_app xv hT).symm.trans hL)
  have HP := Lib.hid hP
  have HST := Lib.hid hT
  have a300 := hP.sz.a300
  have s12 := hP.sz.s12
  obtain ⟨I, hI⟩ : ∃ I : Nat, n.1.toNat = I := ⟨_, rfl⟩
  have HI0 := Lib.hid (show n.1 = (I : Int) by rw [← hI]; exact hP.sz.i0)
  have i20 : I ≤ 20 := by rw [← hI]; exact hP.sz.i20
  have HI := Lib.hid hI
  obtain ⟨vA, vc, rfl, vm, -⟩ := slice_of hv
  obtain ⟨mu0, mu1, mu2, mu3, rfl, mh0, mh1, mh2, mh3⟩ := h
  obtain ⟨me0, -⟩ := mh0
  injection me0 with me0
  subst me0
  obtain ⟨mA1, mc1, me1, mm1, -⟩ := slice_of mh1
  subst me1
  have mR1 := Lib.hid mh1
  clear mh1
  obtain ⟨mA2, mc2, me2, mm2, -⟩ := slice_of mh2
  subst me2
  have mR2 := Lib.hid mh2
  clear mh2
  obtain ⟨mA3, mc3, me3, mm3, -⟩ := slice_of mh3
  subst me3
  have mR3 := Lib.hid mh3
  clear mh3
  have HE0 := Lib.hid (hc 0 _ rfl)
  have HE1 := Lib.hid (hc 1 _ rfl)
  have HE2 := Lib.hid (hc 2 _ rfl)
  have HE3 := Lib.hid (hc 3 _ rfl)
  have HE4 := Lib.hid hc4
  have d0 := HE0.out
  rw [HI0.out] at d0
  replace d0 : (w.alloc (.cells #[.int .i64 0] 3)).cell? ⟨rb, 0, none⟩ = some (.int .i64 (I : Int)) := keep (bAlloc (Below.refl _ _) (Nat.le_refl _) _) d0
  clear hc hc4 hL hP hT hI hv
  go_enter Try.func108, Try.ntmps108
  go_wp2
  have HO := Lib.hid (show OwnsI (w.alloc (.cells #[.int .i64 0] 3)) w.heap.size (.slice (some ⟨w.heap.size, 0, none⟩) 1 1) (insA xv 0) from World.ownsRow_lit w #[.int .i64 0] 1 (Nat.le_refl _) (by unfold maxLen; omega) rfl)
  have HB := Lib.hid (show Below w.heap.size w (w.alloc (.cells #[.int .i64 0] 3)) from bAlloc (Below.refl _ _) (Nat.le_refl _) _)
  clear d0
  go_loopw [5, 17] (fun s z wr => ∃ (k : Nat) (A : Option Addr) (c : Nat), k ≤ I ∧ z = .int .i64 (k : Int) ∧ s = .slice A (insA xv k).length c ∧ OwnsI wr w.heap.size (.slice A (insA xv k).length c) (insA xv k) ∧ Below w.heap.size w wr) (fun _ z _ => I - (intOf z).toNat)
  case atStart => exact ⟨0, _, _, Nat.zero_le _, rfl, rfl, HO.out, HB.out⟩
  case round =>
    obtain ⟨k, A, c, hk, rfl, rfl, hown, hb⟩ := hrel
    obtain ⟨w3, rfl⟩ : ∃ w3, w3 = wr := ⟨_, rfl⟩
    clear HO HB
    have HO := Lib.hid hown
    have HB := Lib.hid hb
    have c0 := keep hb HE0.out
    have c1 := keep hb HE1.out
    have c2 := keep hb HE2.out
    have c3 := keep hb HE3.out
    have c4 := keep hb HE4.out
    clear hown hb
    rw [HI0.out] at c0
    by_cases hlt : k < I
    · obtain ⟨KL, hK⟩ : ∃ KL, insA xv k = KL := ⟨_, rfl⟩
      have hlen : KL.length ≤ 21 := by rw [← hK, insA_len]; omega
      have HKS := Lib.hid (show insA xv (k + 1) = KL ++ [xv / 2 ^ k % 2] by rw [insA_step, hK])
      rw [hK] at HO ⊢
      obtain ⟨y, hy⟩ : ∃ y, xv / 2 ^ k % 2 = y := ⟨_, rfl⟩
      rw [hy] at HKS
      have HY := Lib.hid hy
      have tk : (k : Int) < (I : Int) := by omega
      clear hK hy
      go_wp2_with fail
      refine (bitOf_at xv k (by omega) _ HY.out).mono ?_
      rintro e w4 ⟨rfl, rfl⟩
      have HBA := Lib.hid (show Below w3.heap.size w3 (w3.alloc (.cells #[.int .i64 y] 3)) from bAlloc (Below.refl _ _) (Nat.le_refl _) _)
      have HBB := Lib.hid (bThen HB.out HBA.out)
      have hsz := HBB.out.size
      have HOA := Lib.hid (HO.out.below HBA.out)
      clear c0 c1 c2 c3 c4
      go_wp2_with (at_builtin; refine wpList_append_all (by rfl) _ _ 24 (by rfl) w.heap.size 3 i0 (.int .i64 0) 1 8 Try.underlying24 hi hz0 hz1 hz2 rfl (by omega) (.slice A KL.length c) KL.length (KL.map vI) (by rfl) HOA.out (some ⟨w3.heap.size, 0, none⟩) 1 1 [.int .i64 y] (by rfl) (by rfl) (.inr ⟨_, rfl, World.news_of_block (heap_alloc_new _ _)⟩) (by simp [Value.oneCell']) (by unfold maxLen; omega) (by omega) hsz ?_; intro A' c' w7 hown7 hgrow7 hkeep7 hat7)
      have HB7 := Lib.hid ((HBB.out.grown hgrow7 HBB.out.size (fun g hg => (HO.out.lt g hg).1)))
      have HO7 := Lib.hid (show OwnsI w7 w.heap.size (.slice A' (KL.length + 1) c') (KL ++ [y]) from (by unfold OwnsI; rw [List.length_append, List.map_append]; exact hown7))
      clear hown7 hgrow7 hkeep7 hat7 hsz
      go_roundw
      case rel => exact ⟨k + 1, A', c', by omega, by go_num, by rw [HKS.out, List.length_append]; rfl, by rw [HKS.out, List.length_append]; exact HO7.out, HB7.out⟩
      case measure => simp [intOf] <;> omega
    · obtain rfl : I = k := by omega
      have HO2 := Lib.hid (show OwnsI w3 w.heap.size (.slice A (regA st xv I 0).length c) (regA st xv I 0) by rw [regA_zero]; exact HO.out)
      rw [show insA xv I = regA st xv I 0 from (regA_zero _ _ _).symm]
      clear hlt HO
      have HO := Lib.hid HO2.out
      clear HO2
      go_wp2
      go_loopw [5, 32] (fun s z wr => ∃ (k : Nat) (A : Option Addr) (c : Nat), k ≤ st.length ∧ z = .int .i64 (k : Int) ∧ s = .slice A (regA st xv I k).length c ∧ OwnsI wr w.heap.size (.slice A (regA st xv I k).length c) (regA st xv I k) ∧ Below w.heap.size w wr) (fun _ z _ => st.length - (intOf z).toNat)
      case atStart => exact ⟨0, A, c, Nat.zero_le _, rfl, rfl, HO.out, HB.out⟩
      case round =>
        clear c0 c1 c2 c3 c4
        obtain ⟨k, A, c, hk, rfl, rfl, hown, hb⟩ := hrel
        obtain ⟨w3, rfl⟩ : ∃ w3, w3 = wr := ⟨_, rfl⟩
        clear HO HB
        have HO := Lib.hid hown
        have HB := Lib.hid hb
        have c0 := keep hb HE0.out
        have c1 := keep hb HE1.out
        have c2 := keep hb HE2.out
        have c3 := keep hb HE3.out
        have c4 := keep hb HE4.out
        clear hown hb
        have hsl : st.length ≤ 12 := by have := HST.out.len; omega
        by_cases hlt : k < st.length
        · obtain ⟨x, hx⟩ : ∃ x, st[k]? = some x := ⟨_, List.getElem?_eq_getElem hlt⟩
          obtain ⟨vb, vq, rfl, vb1, xc, -⟩ := at_Int (good_IntS.below HV.out (Nat.le_refl _) HB.out) hx
          have vb2 := Nat.lt_of_lt_of_le vb1 HB.out.size
          obtain ⟨KL, hK⟩ : ∃ KL, regA st xv I k = KL := ⟨_, rfl⟩
          have hlen : KL.length ≤ 33 := by rw [← hK, regA_len xv (by omega)]; omega
          have HKS := Lib.hid (show regA st xv I (k + 1) = KL ++ [x % 2] by rw [regA_step hx, hK])
          rw [hK] at HO ⊢
          obtain ⟨y, hy⟩ : ∃ y, x % 2 = y := ⟨_, rfl⟩
          rw [hy] at HKS
          have HY := Lib.hid (show x / 2 ^ 0 % 2 = y by rw [← hy]; simp)
          have tk2 : (k : Int) < (st.length : Int) := by omega
          clear hK hy hx vb1 hsl
          go_wp2_with fail
          refine (bitOf_at x 0 (by omega) _ HY.out).mono ?_
          rintro e w4 ⟨rfl, rfl⟩
          have HBA := Lib.hid (show Below w3.heap.size w3 (w3.alloc (.cells #[.int .i64 y] 3)) from bAlloc (Below.refl _ _) (Nat.le_refl _) _)
          have HBB := Lib.hid (bThen HB.out HBA.out)
          have hsz := HBB.out.size
          have HOA := Lib.hid (HO.out.below HBA.out)
          clear c0 c1 c2 c3 c4 xc
          go_wp2_with (at_builtin; refine wpList_append_all (by rfl) _ _ 24 (by rfl) w.heap.size 3 i0 (.int .i64 0) 1 8 Try.underlying24 hi hz0 hz1 hz2 rfl (by omega) (.slice A KL.length c) KL.length (KL.map vI) (by rfl) HOA.out (some ⟨w3.heap.size, 0, none⟩) 1 1 [.int .i64 y] (by rfl) (by rfl) (.inr ⟨_, rfl, World.news_of_block (heap_alloc_new _ _)⟩) (by simp [Value.oneCell']) (by unfold maxLen; omega) (by omega) hsz ?_; intro A' c' w7 hown7 hgrow7 hkeep7 hat7)
          have HB7 := Lib.hid ((HBB.out.grown hgrow7 HBB.out.size (fun g hg => (HO.out.lt g hg).1)))
          have HO7 := Lib.hid (show OwnsI w7 w.heap.size (.slice A' (KL.length + 1) c') (KL ++ [y]) from (by unfold OwnsI; rw [List.length_append, List.map_append]; exact hown7))
          clear hown7 hgrow7 hkeep7 hat7 hsz
          go_roundw
          case rel => exact ⟨k + 1, A', c', by omega, by go_num, by rw [HKS.out, List.length_append]; rfl, by rw [HKS.out, List.length_append]; exact HO7.out, HB7.out⟩
          case measure => simp [intOf] <;> omega
        · obtain rfl : k = st.length := by omega
          have e0 : regA st xv I st.length = valA n st xv 0 := by unfold valA; rw [HI.out, HST.out.len]
          rw [e0] at HO ⊢
          clear hlt e0 hsl
          go_wp2
          go_loopw [5, 48] (fun s z wr => ∃ (k : Nat) (A : Option Addr) (c : Nat), k ≤ n.2.2.1.length ∧ z = .int .i64 (k : Int) ∧ s = .slice A (valA n st xv k).length c ∧ OwnsI wr w.heap.size (.slice A (valA n st xv k).length c) (valA n st xv k) ∧ Below w.heap.size w wr) (fun _ z _ => n.2.2.1.length - (intOf z).toNat)
          case atStart => exact ⟨0, A, c, Nat.zero_le _, rfl, rfl, HO.out, HB.out⟩
          case round =>
            clear c0 c1 c2 c3 c4
            obtain ⟨k, A, c, hk, rfl, rfl, hown, hb⟩ := hrel
            obtain ⟨w3, rfl⟩ : ∃ w3, w3 = wr := ⟨_, rfl⟩
            clear HO HB
            have HO := Lib.hid hown
            have HB := Lib.hid hb
            have c0 := keep hb HE0.out
            have c1 := keep hb HE1.out
            have c2 := keep hb HE2.out
            have c3 := keep hb HE3.out
            have c4 := keep hb HE4.out
            clear hown hb
            by_cases hlt : k < n.2.2.1.length
            · obtain ⟨a, ha⟩ : ∃ a, n.2.2.1[k]? = some a := ⟨_, List.getElem?_eq_getElem hlt⟩
              obtain ⟨x, y, rfl, hx, hy⟩ := HP.out.and_ k a ha
              obtain ⟨ab, aq, rfl, ab1, x0, xf, x1, yf⟩ := at_And (good_AndS.below mR2.out (Nat.le_refl _) HB.out) ha
              have ab2 := Nat.lt_of_lt_of_le ab1 HB.out.size
              dsimp only at x0 x1 xf yf
              have HFX := Lib.hid (And.intro xf yf)
              obtain ⟨KL, hK⟩ : ∃ KL, valA n st xv k = KL := ⟨_, rfl⟩
              have hlen0 : KL.length = firN n + k := by rw [← hK]; exact (valK_app xv HP.out HST.out.len k hk).2
              have hf33 := HP.out.sz.fir_le
              have hlen : KL.length ≤ 333 := by omega
              have hin := fun j => valA_in xv HP.out HST.out.len hk j
              rw [hK] at hin
              have hxK := hin (x / 2)
              have hyK := hin (y / 2)
              obtain ⟨bx, hbx⟩ : ∃ bx, bitV KL x = bx := ⟨_, rfl⟩
              obtain ⟨byy, hby⟩ : ∃ byy, bitV KL y = byy := ⟨_, rfl⟩
              have HBX := Lib.hid (show litO KL (x : Int) = bx by rw [← hbx]; exact litO_nat (get_of_len rfl (by omega)) hxK)
              have HBY := Lib.hid (show litO KL (y : Int) = byy by rw [← hby]; exact litO_nat (get_of_len rfl (by omega)) hyK)
              have bx2 := bitV_in KL x
              have by2 := bitV_in KL y
              rw [hbx] at bx2
              rw [hby] at by2
              obtain ⟨y9, hy9⟩ : ∃ y9, bx * byy = y9 := ⟨_, rfl⟩
              have e2 := and_01 bx2 by2
              rw [hy9] at e2
              have HKS := Lib.hid (show valA n st xv (k + 1) = KL ++ [y9] by rw [valA_step ha, hK, hbx, hby, hy9])
              have HFT := Lib.hid (fit_01 hin)
              rw [hK] at HO ⊢
              have tk : (k : Int) < (n.2.2.1.length : Int) := by omega
              clear ha hx hy hK hlen0 hf33 hin hxK hyK hbx hby hy9 xf yf ab1 bx2 by2
              go_wp2_with fail
              obtain ⟨V, hV⟩ : ∃ V, V = w3.alloc (.cells #[.int .i64 (x : Int), .int .i64 (y : Int)] 67) := ⟨_, rfl⟩
              rw [← hV]
              have gN := eqbox1 hV
              have y0 : V.cell? ⟨w3.heap.size, 0, none⟩ = some (.int .i64 (x : Int)) := box_cell gN.1 0 _ rfl
              have y1 : V.cell? ⟨w3.heap.size, 1, none⟩ = some (.int .i64 (y : Int)) := box_cell gN.1 1 _ rfl
              replace c0 := keep gN.2 c0
              replace c1 := keep gN.2 c1
              replace c2 := keep gN.2 c2
              replace c3 := keep gN.2 c3
              replace c4 := keep gN.2 c4
              have HBV := Lib.hid (bThen HB.out gN.2)
              have HOV := Lib.hid (HO.out.below gN.2)
              have HRV := Lib.hid (ownI_rd HOV.out HFT.out)
              clear hV gN x0 x1
              have hS0 : (fun w' => Below V.heap.size V w' ∧ w'.cell? ⟨rb, 0, none⟩ = some (.int .i64 n.1) ∧ w'.cell? ⟨rb, 1, none⟩ = some (.slice mA1 (n.2.1).length mc1) ∧ w'.cell? ⟨rb, 2, none⟩ = some (.slice (some ⟨ab, aq, none⟩) (n.2.2.1).length mc2) ∧ w'.cell? ⟨rb, 3, none⟩ = some (.slice mA3 (n.2.2.2).length mc3) ∧ w'.cell? ⟨w3.heap.size, 0, none⟩ = some (.int .i64 (x : Int)) ∧ w'.cell? ⟨w3.heap.size, 1, none⟩ = some (.int .i64 (y : Int))) V := ⟨Below.refl _ _, c0, c1, c2, c3, y0, y1⟩
              have hS : ∀ {w0 w' : World}, (fun w' => Below V.heap.size V w' ∧ w'.cell? ⟨rb, 0, none⟩ = some (.int .i64 n.1) ∧ w'.cell? ⟨rb, 1, none⟩ = some (.slice mA1 (n.2.1).length mc1) ∧ w'.cell? ⟨rb, 2, none⟩ = some (.slice (some ⟨ab, aq, none⟩) (n.2.2.1).length mc2) ∧ w'.cell? ⟨rb, 3, none⟩ = some (.slice mA3 (n.2.2.2).length mc3) ∧ w'.cell? ⟨w3.heap.size, 0, none⟩ = some (.int .i64 (x : Int)) ∧ w'.cell? ⟨w3.heap.size, 1, none⟩ = some (.int .i64 (y : Int))) w0 → Below w0.heap.size w0 w' → (fun w' => Below V.heap.size V w' ∧ w'.cell? ⟨rb, 0, none⟩ = some (.int .i64 n.1) ∧ w'.cell? ⟨rb, 1, none⟩ = some (.slice mA1 (n.2.1).length mc1) ∧ w'.cell? ⟨rb, 2, none⟩ = some (.slice (some ⟨ab, aq, none⟩) (n.2.2.1).length mc2) ∧ w'.cell? ⟨rb, 3, none⟩ = some (.slice mA3 (n.2.2.2).length mc3) ∧ w'.cell? ⟨w3.heap.size, 0, none⟩ = some (.int .i64 (x : Int)) ∧ w'.cell? ⟨w3.heap.size, 1, none⟩ = some (.int .i64 (y : Int))) w' := fun h hb => ⟨bThen h.1 hb, keep hb h.2.1, keep hb h.2.2.1, keep hb h.2.2.2.1, keep hb h.2.2.2.2.1, keep hb h.2.2.2.2.2.1, keep hb h.2.2.2.2.2.2⟩
              dsimp only at hS0 hS
              refine wp_region_noPanic ?_
              refine wp_region_kept 11 13 (fun w' => Below V.heap.size V w' ∧ w'.cell? ⟨rb, 0, none⟩ = some (.int .i64 n.1) ∧ w'.cell? ⟨rb, 1, none⟩ = some (.slice mA1 (n.2.1).length mc1) ∧ w'.cell? ⟨rb, 2, none⟩ = some (.slice (some ⟨ab, aq, none⟩) (n.2.2.1).length mc2) ∧ w'.cell? ⟨rb, 3, none⟩ = some (.slice mA3 (n.2.2.2).length mc3) ∧ w'.cell? ⟨w3.heap.size, 0, none⟩ = some (.int .i64 (x : Int)) ∧ w'.cell? ⟨w3.heap.size, 1, none⟩ = some (.int .i64 (y : Int))) (by kernel_rfl) rfl (hS hS0 (Below.drew (Below.refl _ _))) (fun hK0 => ?_)
              refine Kept.take (v := ?vc0) 0 (by kernel_rfl) rfl (by kernel_rfl) (fun _ _ _ h => h) (Or.inl ⟨by rfl, ?hyc0⟩) hK0 ?restc0
              case hyc0 =>
                intro w0 hSw
                (try dsimp only at hSw)
                go_simp
                all_goals (with_reducible rfl)
              (try simp only [Act.put, List.setIfInBounds_toArray, List.set_cons_zero, List.set_cons_succ])
              refine Kept.take (v := ?vc1) 1 (by kernel_rfl) rfl (by kernel_rfl) (fun _ _ _ h => h) (Or.inl ⟨by rfl, ?hyc1⟩) hK0 ?restc1
              case hyc1 =>
                intro w0 hSw
                (try dsimp only at hSw)
                go_simp
                all_goals (with_reducible rfl)
              (try simp only [Act.put, List.setIfInBounds_toArray, List.set_cons_zero, List.set_cons_succ])
              refine Kept.take (v := ?vc2) 2 (by kernel_rfl) rfl (by kernel_rfl) (fun _ _ _ h => h) (Or.inl ⟨by rfl, ?hyc2⟩) hK0 ?restc2
              case hyc2 =>
                intro w0 hSw
                (try dsimp only at hSw)
                go_simp
                all_goals (with_reducible rfl)
              (try simp only [Act.put, List.setIfInBounds_toArray, List.set_cons_zero, List.set_cons_succ])
              refine Kept.take (v := ?vc3) 3 (by kernel_rfl) rfl (by kernel_rfl) (fun _ _ _ h => h) (Or.inl ⟨by rfl, ?hyc3⟩) hK0 ?restc3
              case hyc3 =>
                intro w0 hSw
                (try dsimp only at hSw)
                go_simp
                all_goals (with_reducible rfl)
              (try simp only [Act.put, List.setIfInBounds_toArray, List.set_cons_zero, List.set_cons_succ])
              refine Kept.take (v := ?vc5) 5 (by kernel_rfl) rfl (by kernel_rfl) (fun _ _ _ h => h) (Or.inl ⟨by rfl, ?hyc5⟩) hK0 ?restc5
              case hyc5 =>
                intro w0 hSw
                (try dsimp only at hSw)
                go_simp
                all_goals (with_reducible rfl)
              (try simp only [Act.put, List.setIfInBounds_toArray, List.set_cons_zero, List.set_cons_succ])
              refine Kept.take (v := ?vc6) 6 (by kernel_rfl) rfl (by kernel_rfl) (fun _ _ _ h => h) (Or.inl ⟨by rfl, ?hyc6⟩) hK0 ?restc6
              case hyc6 =>
                intro w0 hSw
                (try dsimp only at hSw)
                go_simp
                all_goals (with_reducible rfl)
              (try simp only [Act.put, List.setIfInBounds_toArray, List.set_cons_zero, List.set_cons_succ])
              refine Kept.take (v := ?vc7) 7 (by kernel_rfl) rfl (by kernel_rfl) (fun _ _ _ h => h) (Or.inl ⟨by rfl, ?hyc7⟩) hK0 ?restc7
              case hyc7 =>
                intro w0 hSw
                (try dsimp only at hSw)
                go_simp
                all_goals (with_reducible rfl)
              (try simp only [Act.put, List.setIfInBounds_toArray, List.set_cons_zero, List.set_cons_succ])
              refine Kept.one 4 (by kernel_rfl) rfl (fun K hK => ?_)
              go_simp
              go_at_call 131
              refine (implLitV_at KL (x : Int) HFX.out.1 _ _ (good_IntS.below HRV.out (Nat.le_refl _) hK0.1) hK0.1.size HBX.out).mono ?_
              rintro e wr0 ⟨rfl, hbr0⟩
              go_simp
              refine hK.out _ _ (hS hK0 hbr0) (fun hK1 => ?_)
              clear hK K hK0
              (try simp only [Act.put, List.setIfInBounds_toArray, List.set_cons_zero, List.set_cons_succ])
              refine Kept.one 8 (by kernel_rfl) rfl (fun K hK => ?_)
              go_simp
              go_at_call 131
              refine (implLitV_at KL (y : Int) HFX.out.2 _ _ (good_IntS.below HRV.out (Nat.le_refl _) hK1.1) hK1.1.size HBY.out).mono ?_
              rintro e wr1 ⟨rfl, hbr1⟩
              go_simp
              refine hK.out _ _ (hS hK1 hbr1) (fun hK2 => ?_)
              clear hK K hK1
              (try simp only [Act.put, List.setIfInBounds_toArray, List.set_cons_zero, List.set_cons_succ])
              refine Kept.take (v := ?vc9) 9 (by kernel_rfl) rfl (by kernel_rfl) (fun _ _ _ h => h) (Or.inl ⟨by rfl, ?hyc9⟩) hK2 ?restc9
              case hyc9 =>
                intro w0 hSw
                (try dsimp only at hSw)
                go_simp
                all_goals (with_reducible rfl)
              (try simp only [Act.put, List.setIfInBounds_toArray, List.set_cons_zero, List.set_cons_succ])
              refine Kept.one 10 (by kernel_rfl) rfl (fun K hK => ?_)
              go_simp
              refine hK.out _ _ (hS hK2 (bAlloc (Below.refl _ _) (Nat.le_refl _) _)) (fun hK3 => ?_)
              clear hK K hK2
              (try simp only [Act.put, List.setIfInBounds_toArray, List.set_cons_zero, List.set_cons_succ])
              refine Kept.tail (by rfl) (by kernel_rfl) ?_
              simp only [List.drop_succ_cons, List.drop_zero]
              have HBA := Lib.hid (show Below V.heap.size V (wr1.alloc (.cells #[.int .i64 y9] 3)) from hK3.1)
              have HBB := Lib.hid (bThen HBV.out HBA.out)
              have hsz := HBB.out.size
              have HOA := Lib.hid (HOV.out.below HBA.out)
              clear c0 c1 c2 c3 c4 y0 y1 hS0 hS hK3
              go_wp2_with (at_builtin; refine wpList_append_all (by rfl) _ _ 24 (by rfl) w.heap.size 3 i0 (.int .i64 0) 1 8 Try.underlying24 hi hz0 hz1 hz2 rfl (by omega) (.slice A KL.length c) KL.length (KL.map vI) (by rfl) HOA.out (some ⟨wr1.heap.size, 0, none⟩) 1 1 [.int .i64 y9] (by rfl) (by rfl) (.inr ⟨_, rfl, World.news_of_block (heap_alloc_new _ _)⟩) (by simp [Value.oneCell']) (by unfold maxLen; omega) (by omega) hsz ?_; intro A' c' w7 hown7 hgrow7 hkeep7 hat7)
              refine NoPanic.normal ?_
              have HB7 := Lib.hid ((HBB.out.grown hgrow7 HBB.out.size (fun g hg => (HOV.out.lt g hg).1)))
              have HO7 := Lib.hid (show OwnsI w7 w.heap.size (.slice A' (KL.length + 1) c') (KL ++ [y9]) from (by unfold OwnsI; rw [List.length_append, List.map_append]; exact hown7))
              clear hown7 hgrow7 hkeep7 hat7 hsz
              go_wp2
              go_roundw
              case rel => exact ⟨k + 1, A', c', by omega, by go_num, by rw [HKS.out, List.length_append]; rfl, by rw [HKS.out, List.length_append]; exact HO7.out, HB7.out⟩
              case measure => simp [intOf] <;> omega
            · obtain rfl : k = n.2.2.1.length := by omega
              clear hlt c0 c1 c2 c3 c4
              rw [HE.out] at HO ⊢
              go_wp2
              go_ret
              exact ⟨_, rfl, HO.out, HB.out⟩
end Go.Proofs.Ytedamhkcblemdaa
/- Nr6: NodeValues of the program; literals packed to a number, both sides. -/
namespace Go.Proofs.Ytedamhkcblemdaa
open Go.RowKit
set_option linter.unusedVariables false
set_option linter.unusedSimpArgs false

/-- The cells of a running net that has just been made. -/
theorem cells5 {W : World} {b : Nat} {x0 x1 x2 x3 x4 : Value} (h : W.heap[b]? = some (.cells #[x0, x1, x2, x3, x4] 75 (0, 0))) : ∀ (i : Nat) (u : Value), [x0, x1, x2, x3][i]? = some u → W.cell? ⟨b, i, none⟩ = some u := by
  intro i u hu
  match i, hu with
  | 0, hu => injection hu with hu; subst hu; exact box_cell h 0 _ rfl
  | 1, hu => injection hu with hu; subst hu; exact box_cell h 1 _ rfl
  | 2, hu => injection hu with hu; subst hu; exact box_cell h 2 _ rfl
  | 3, hu => injection hu with hu; subst hu; exact box_cell h 3 _ rfl
/-- Literals of nodes that there are. -/
def LitsIn (V L : List Int) : Prop := ∀ r ∈ L, ∃ x : Nat, r = (x : Int) ∧ x / 2 < V.length
theorem mask_step {V L : List Int} {k x : Nat} (h : L[k]? = some (x : Int)) : maskS V L (k + 1) = maskS V L k + bitV V x * 2 ^ k := by
  conv => lhs; unfold maskS
  rw [List.getD_eq_getElem?_getD, h]
  simp
theorem or_low {a b k : Nat} (ha : a < 2 ^ k) (hb : b < 2) (hk : k ≤ 16) : bits .or .i64 (a : Int) ((b * 2 ^ k : Nat) : Int) = ((a + b * 2 ^ k : Nat) : Int) := by
  have h16 : 2 ^ k ≤ 2 ^ 16 := Nat.pow_le_pow_right (by omega) hk
  have hb1 : b * 2 ^ k ≤ 2 ^ 16 := by
    have : b * 2 ^ k ≤ 1 * 2 ^ k := Nat.mul_le_mul_right _ (by omega)
    omega
  rw [i64_or a (b * 2 ^ k) (by omega) (by omega), ← Nat.shiftLeft_eq, Nat.or_comm, ← Nat.shiftLeft_add_eq_or_of_lt ha, Nat.add_comm]
/-- One more bit. -/
theorem mask_parts {V L : List Int} {k x : Nat} (h : L[k]? = some (x : Int)) (hk : k < 16) : ∃ a b c d : Nat, maskS V L k = (a : Int) ∧ bitV V x = (b : Int) ∧ b < 2 ∧ (b : Int) * 2 ^ k = (c : Int) ∧ bits .or .i64 (a : Int) (c : Int) = (d : Int) ∧ a + c = d ∧ d ≤ 65536 ∧ maskS V L (k + 1) = (d : Int) := by
  have h1 := maskS_in V L k
  have h2 := maskS_in V L (k + 1)
  have h3 := bitV_in V x
  obtain ⟨a, ha⟩ := Int.eq_ofNat_of_zero_le h1.1
  obtain ⟨b, hb⟩ := Int.eq_ofNat_of_zero_le h3.1
  have hs := mask_step (V := V) h
  rw [ha, hb] at hs
  have e : (b : Int) * 2 ^ k = ((b * 2 ^ k : Nat) : Int) := by rw [Int.natCast_mul, Int.natCast_pow]; rfl
  have hlt : a < 2 ^ k := by
    have := h1.2
    rw [ha] at this
    have e2 : ((2 : Int) ^ k) = ((2 ^ k : Nat) : Int) := by rw [Int.natCast_pow]; rfl
    omega
  have h16 : (2 : Nat) ^ (k + 1) ≤ 2 ^ 16 := Nat.pow_le_pow_right (by omega) (by omega)
  have hd : maskS V L (k + 1) = ((a + b * 2 ^ k : Nat) : Int) := by rw [hs, e]; omega
  have hd2 : a + b * 2 ^ k ≤ 65536 := by
    have := h2.2
    rw [hd] at this
    have e2 : ((2 : Int) ^ (k + 1)) = ((2 ^ (k + 1) : Nat) : Int) := by rw [Int.natCast_pow]; rfl
    omega
  refine ⟨a, b, b * 2 ^ k, a + b * 2 ^ k, ha, hb, by omega, e, or_low hlt (by omega) (by omega), rfl, hd2, hd⟩

set_option maxRecDepth 100000 in
set_option maxHeartbeats 6400000 in
theorem implBits_at (V L : List Int) (v l : Value) {B T B' T' : Nat} (w : World) (hv : rdIntS B T w [v] V) (hT : T ≤ w.heap.size) (hl : rdIntS B' T' w [l] L) (hT' : T' ≤ w.heap.size) (h01 : ∀ j, 0 ≤ V.getD j 0 ∧ V.getD j 0 ≤ 1) (hlit : LitsIn V L) (hln : L.length ≤ 16) {r : Int} (hr : maskV V L = r) :
    Calls Try.prog 110 #[v, l] w fun e w' => e = .returned (.int .i64 r) ∧ Below w.heap.size w w' := by
  have HV := Lib.hid hv
  have HL := Lib.hid hl
  have HR := Lib.hid hr
  have H01 := Lib.hid h01
  have HLT := Lib.hid hlit
  obtain ⟨vA, vc, rfl, vm, -⟩ := slice_of hv
  obtain ⟨lA, lc, rfl, lm, -⟩ := slice_of hl
  clear hv hl hr h01 hlit
  go_enter Try.func110, Try.ntmps110
  go_wp2
  go_loopw [5, 10] (fun s z wr => ∃ k : Nat, k ≤ L.length ∧ z = .int .i64 (k : Int) ∧ s = .int .i64 (maskS V L k) ∧ Below w.heap.size w wr) (fun _ z _ => L.length - (intOf z).toNat)
  case atStart => exact ⟨0, Nat.zero_le _, rfl, rfl, Below.refl _ _⟩
  case round =>
    obtain ⟨k, hk, rfl, rfl, hb⟩ := hrel
    obtain ⟨w3, rfl⟩ : ∃ w3, w3 = wr := ⟨_, rfl⟩
    have HB := Lib.hid hb
    clear hb
    by_cases hlt : k < L.length
    · obtain ⟨x0, hx0⟩ : ∃ x0, L[k]? = some x0 := ⟨_, List.getElem?_eq_getElem hlt⟩
      obtain ⟨x, rfl, hxV⟩ := HLT.out x0 (List.mem_of_getElem? hx0)
      obtain ⟨lb, lq, rfl, lb1, xc, xf⟩ := at_Int (good_IntS.below HL.out hT' HB.out) hx0
      have lb2 := Nat.lt_of_lt_of_le lb1 (Nat.le_trans hT' HB.out.size)
      obtain ⟨a, b, c, d, ha, hbv, hb2, e1, e2, hacd, hd, hst⟩ := mask_parts (V := V) hx0 (by omega)
      have e0 : (b : Int) * 2 ^ min (k : Int).toNat 64 = (c : Int) := by rw [show min (k : Int).toNat 64 = k by omega]; exact e1
      have HST := Lib.hid hst
      have HBV := Lib.hid hbv
      have hx63 : x ≤ 9223372036854775807 := by unfold Fit at xf; omega
      have hu := H01.out (x / 2)
      have HG := Lib.hid (get_of_len (L := V) rfl hxV)
      have HF := Lib.hid xf
      have tk : (k : Int) < (L.length : Int) := by omega
      rw [ha]
      clear hx0 ha hbv hst lb1 xf
      go_wp2_with fail
      refine (implLitV_at V (x : Int) HF.out _ _ (good_IntS.below HV.out hT HB.out) (Nat.le_trans hT HB.out.size) ((litO_nat HG.out hu).trans HBV.out)).mono ?_
      rintro e w4 ⟨rfl, hb⟩
      have HB4 := Lib.hid (bThen HB.out hb)
      clear hb xc
      have hc : (c : Int) ≤ 65536 := by omega
      go_wp2
      go_roundw
      case rel => exact ⟨k + 1, by omega, by go_num, by rw [HST.out] <;> go_num, HB4.out⟩
      case measure => simp [intOf] <;> omega
    · obtain rfl : k = L.length := by omega
      have HE := Lib.hid (show maskS V L L.length = r from HR.out)
      go_wp2
      go_ret
      exact ⟨ret_i64 HE.out, HB.out⟩

set_option maxRecDepth 100000 in
set_option maxHeartbeats 6400000 in
theorem specMask_at (V L : List Int) (v l : Value) {B T B' T' : Nat} (w : World) (hv : rdIntS B T w [v] V) (hT : T ≤ w.heap.size) (hl : rdIntS B' T' w [l] L) (hT' : T' ≤ w.heap.size) (h01 : ∀ j, 0 ≤ V.getD j 0 ∧ V.getD j 0 ≤ 1) (hlit : LitsIn V L) (hln : L.length ≤ 16) {r : Int} (hr : maskV V L = r) :
    Calls Try.prog 115 #[v, l] w fun e w' => e = .returned (.int .i64 r) ∧ Below w.heap.size w w' := by
  have HV := Lib.hid hv
  have HL := Lib.hid hl
  have HR := Lib.hid hr
  have H01 := Lib.hid h01
  have HLT := Lib.hid hlit
  obtain ⟨vA, vc, rfl, vm, -⟩ := slice_of hv
  obtain ⟨lA, lc, rfl, lm, -⟩ := slice_of hl
  clear hv hl hr h01 hlit
  go_enter Try.func115, Try.ntmps115
  go_wp2
  go_loopw [5, 6] (fun s z wr => ∃ k : Nat, k ≤ L.length ∧ z = .int .i64 (k : Int) ∧ s = .int .i64 (maskS V L k) ∧ Below w.heap.size w wr) (fun _ z _ => L.length - (intOf z).toNat)
  case atStart => exact ⟨0, Nat.zero_le _, rfl, rfl, Below.refl _ _⟩
  case round =>
    obtain ⟨k, hk, rfl, rfl, hb⟩ := hrel
    obtain ⟨w3, rfl⟩ : ∃ w3, w3 = wr := ⟨_, rfl⟩
    have HB := Lib.hid hb
    clear hb
    by_cases hlt : k < L.length
    · obtain ⟨x0, hx0⟩ : ∃ x0, L[k]? = some x0 := ⟨_, List.getElem?_eq_getElem hlt⟩
      obtain ⟨x, rfl, hxV⟩ := HLT.out x0 (List.mem_of_getElem? hx0)
      obtain ⟨lb, lq, rfl, lb1, xc, xf⟩ := at_Int (good_IntS.below HL.out hT' HB.out) hx0
      have lb2 := Nat.lt_of_lt_of_le lb1 (Nat.le_trans hT' HB.out.size)
      obtain ⟨a, b, c, d, ha, hbv, hb2, e1, e2, hacd, hd, hst⟩ := mask_parts (V := V) hx0 (by omega)
      have e0 : (b : Int) * 2 ^ min (k : Int).toNat 64 = (c : Int) := by rw [show min (k : Int).toNat 64 = k by omega]; exact e1
      have HST := Lib.hid hst
      have HBV := Lib.hid hbv
      have hx63 : x ≤ 9223372036854775807 := by unfold Fit at xf; omega
      have hu := H01.out (x / 2)
      have HG := Lib.hid (get_of_len (L := V) rfl hxV)
      have HF := Lib.hid xf
      have tk : (k : Int) < (L.length : Int) := by omega
      rw [ha]
      clear hx0 ha hbv hst lb1 xf
      go_wp2_with fail
      refine (specBit_at V x hx63 _ _ (good_IntS.below HV.out hT HB.out) (Nat.le_trans hT HB.out.size) HG.out hu.1 hu.2 HBV.out).mono ?_
      rintro e w4 ⟨rfl, hb⟩
      have HB4 := Lib.hid (bThen HB.out hb)
      clear hb xc
      have hc : (c : Int) ≤ 65536 := by omega
      go_wp2
      go_roundw
      case rel => exact ⟨k + 1, by omega, by go_num, by rw [HST.out] <;> go_num, HB4.out⟩
      case measure => simp [intOf] <;> omega
    · obtain rfl : k = L.length := by omega
      have HE := Lib.hid (show maskS V L L.length = r from HR.out)
      go_wp2
      go_ret
      exact ⟨ret_i64 HE.out, HB.out⟩
end Go.Proofs.Ytedamhkcblemdaa
/- Nr7: NetStart, both sides. -/
namespace Go.Proofs.Ytedamhkcblemdaa
open Go.RowKit
set_option linter.unusedVariables false
set_option linter.unusedSimpArgs false

theorem start_no {n : DNet} (h : netB n = false) : startO n = [] := by unfold startO; rw [h]; rfl
theorem start_yes {n : DNet} (h : netB n = true) : startO n = n.2.1.map (·.2.1) := by unfold startO; rw [if_pos h]
def stL (n : DNet) (k : Nat) : List Int := (n.2.1.take k).map (·.2.1)
theorem stL_step {n : DNet} {k : Nat} {s : DSeq} (h : n.2.1[k]? = some s) : stL n (k + 1) = stL n k ++ [s.2.1] := by
  unfold stL; rw [List.take_add_one, h]; simp
theorem stL_all (n : DNet) : stL n n.2.1.length = n.2.1.map (·.2.1) := by unfold stL; rw [List.take_length]
set_option maxRecDepth 100000 in
set_option maxHeartbeats 6400000 in
theorem implStart_at (n : DNet) (us : List Value) (w : World) (h : rdNet 0 w.heap.size w us n) {L : List Int} (hL : startO n = L) :
    Calls Try.prog 56 #[.agg us.toArray] w fun e w' => ∃ v', e = .returned v' ∧ OwnsI w' w.heap.size v' L ∧ Below w.heap.size w w' := by
  obtain ⟨i0, hi, hz0, hz1, hz2⟩ := info_parts infoI
  have HD := Lib.hid h
  obtain ⟨f, hf⟩ : ∃ f, netB n = f := ⟨_, rfl⟩
  have HF := Lib.hid hf
  have HX := Lib.hid hL
  clear hf hL
  obtain ⟨mu0, mu1, mu2, mu3, rfl, mh0, mh1, mh2, mh3⟩ := h
  obtain ⟨me0, -⟩ := mh0
  injection me0 with me0
  subst me0
  obtain ⟨mA1, mc1, me1, mm1, -⟩ := slice_of mh1
  subst me1
  have mR1 := Lib.hid mh1
  clear mh1
  obtain ⟨mA2, mc2, me2, mm2, -⟩ := slice_of mh2
  subst me2
  have mR2 := Lib.hid mh2
  clear mh2
  obtain ⟨mA3, mc3, me3, mm3, -⟩ := slice_of mh3
  subst me3
  have mR3 := Lib.hid mh3
  clear mh3
  go_enter Try.func56, Try.ntmps56
  go_wp2_with fail
  obtain ⟨W0, hV⟩ : ∃ W0, W0 = (w.alloc (.cells #[.int .i64 n.1, .slice mA1 (n.2.1).length mc1, .slice mA2 (n.2.2.1).length mc2, .slice mA3 (n.2.2.2).length mc3] 36)) := ⟨_, rfl⟩
  rw [← hV]
  have gN := eqbox1 hV
  have d0 : W0.cell? ⟨w.heap.size, 0, none⟩ = some (.int .i64 n.1) := box_cell gN.1 0 _ rfl
  have d1 : W0.cell? ⟨w.heap.size, 1, none⟩ = some (.slice mA1 (n.2.1).length mc1) := box_cell gN.1 1 _ rfl
  have d2 : W0.cell? ⟨w.heap.size, 2, none⟩ = some (.slice mA2 (n.2.2.1).length mc2) := box_cell gN.1 2 _ rfl
  have d3 : W0.cell? ⟨w.heap.size, 3, none⟩ = some (.slice mA3 (n.2.2.2).length mc3) := box_cell gN.1 3 _ rfl
  have sW0 : W0.heap.size = w.heap.size + 1 := by rw [hV]; simp
  have HW0 := Lib.hid gN.2
  clear hV gN
  have HE0 := Lib.hid d0
  have HE1 := Lib.hid d1
  have HE2 := Lib.hid d2
  have HE3 := Lib.hid d3
  refine (implNetOk_at n _ _ (rdUp good_Net HD.out HW0.out) HF.out).mono ?_
  rintro e w1 ⟨rfl, hb⟩
  replace d0 := keep hb d0
  replace d1 := keep hb d1
  replace d2 := keep hb d2
  replace d3 := keep hb d3
  have HB02 := Lib.hid hb
  clear hb
  cases f with
  | false =>
    have HE := Lib.hid ((start_no HF.out).symm.trans HX.out)
    go_wp2
    go_ret
    refine ⟨_, rfl, ?_, bThen HW0.out HB02.out⟩
    rw [← HE.out]
    exact own_nilI _ _
  | true =>
    have HE := Lib.hid ((start_yes HF.out).symm.trans HX.out)
    have hs12 := (netP_of HF.out).sz.s12
    have HO := Lib.hid (own_nilI w1 W0.heap.size)
    go_wp2
    clear d0 d1 d2 d3
    go_loopw [3, 12] (fun s z wr => ∃ (k : Nat) (A : Option Addr) (c : Nat), k ≤ n.2.1.length ∧ z = .int .i64 (k : Int) ∧ s = .slice A (stL n k).length c ∧ OwnsI wr W0.heap.size (.slice A (stL n k).length c) (stL n k) ∧ Below W0.heap.size W0 wr) (fun _ z _ => n.2.1.length - (intOf z).toNat)
    case atStart => exact ⟨0, none, 0, Nat.zero_le _, rfl, rfl, HO.out, HB02.out⟩
    case round =>
      obtain ⟨k, A, c, hk, rfl, rfl, hown, hb⟩ := hrel
      obtain ⟨w3, rfl⟩ : ∃ w3, w3 = wr := ⟨_, rfl⟩
      clear HO HB02
      have HO := Lib.hid hown
      have HB0 := Lib.hid hb
      have HB := Lib.hid (bThen HW0.out hb)
      have c0 := keep hb HE0.out
      have c1 := keep hb HE1.out
      have c2 := keep hb HE2.out
      have c3 := keep hb HE3.out
      clear hown hb
      by_cases hlt : k < n.2.1.length
      · obtain ⟨s, hs⟩ : ∃ s, n.2.1[k]? = some s := ⟨_, List.getElem?_eq_getElem hlt⟩
        obtain ⟨sb, sq, sA, sc, rfl, sb1, x0, -, x1, -, x2, sR⟩ := at_Seq (good_SeqS.below mR1.out (Nat.le_refl _) HB.out) hs
        have sb2 := Nat.lt_of_lt_of_le sb1 HB.out.size
        have tk : (k : Int) < (n.2.1.length : Int) := by omega
        obtain ⟨KL, hK⟩ : ∃ KL, stL n k = KL := ⟨_, rfl⟩
        have hlen : KL.length ≤ 12 := by rw [← hK]; unfold stL; rw [List.length_map, List.length_take]; omega
        obtain ⟨y, hy⟩ : ∃ y, s.2.1 = y := ⟨_, rfl⟩
        have HKS := Lib.hid (show stL n (k + 1) = KL ++ [y] by rw [stL_step hs, hK, hy])
        rw [hy] at x1
        rw [hK] at HO ⊢
        obtain ⟨it, hit⟩ : ∃ it : Int, s.1 = it := ⟨_, rfl⟩
        rw [hit] at x0
        clear hs hK hy sb1 sR hit
        have gN := eqbox2 (show (w3.alloc (.cells #[.int .i64 it, .int .i64 y, .slice sA s.2.2.length sc] 103)).alloc (.cells #[.int .i64 y] 3) = (w3.alloc (.cells #[.int .i64 it, .int .i64 y, .slice sA s.2.2.length sc] 103)).alloc (.cells #[.int .i64 y] 3) from rfl)
        have HBA := Lib.hid (show Below w3.heap.size w3 ((w3.alloc (.cells #[.int .i64 it, .int .i64 y, .slice sA s.2.2.length sc] 103)).alloc (.cells #[.int .i64 y] 3)) from bAlloc (bAlloc (Below.refl _ _) (Nat.le_refl _) _) (Nat.le_refl _) _)
        have HBX := Lib.hid (bThen HB0.out HBA.out)
        have hsz := HBX.out.size
        have HOA := Lib.hid (HO.out.below HBA.out)
        have hbx := gN.2.1
        have HNB := Lib.hid (show ((w3.alloc (.cells #[.int .i64 it, .int .i64 y, .slice sA s.2.2.length sc] 103)).alloc (.cells #[.int .i64 y] 3)).heap[w3.heap.size + 1]? = some (.cells #[.int .i64 y] 3 (0, 0)) from gN.2.1)
        clear c0 c2 c3 hbx gN
        go_wp2_with (at_builtin; refine wpList_append_all (by rfl) _ _ 24 (by rfl) W0.heap.size 3 i0 (.int .i64 0) 1 8 Try.underlying24 hi hz0 hz1 hz2 rfl (by omega) (.slice A KL.length c) KL.length (KL.map vI) (by rfl) HOA.out (some ⟨w3.heap.size + 1, 0, none⟩) 1 1 [.int .i64 y] (by rfl) (by rfl) (.inr ⟨_, rfl, World.news_of_block HNB.out⟩) (by simp [Value.oneCell']) (by unfold maxLen; omega) (by omega) hsz ?_; intro A' c' w7 hown7 hgrow7 hkeep7 hat7)
        have HB7 := Lib.hid ((HBX.out.grown hgrow7 HBX.out.size (fun g hg => (HO.out.lt g hg).1)))
        have HO7 := Lib.hid (show OwnsI w7 W0.heap.size (.slice A' (KL.length + 1) c') (KL ++ [y]) from (by unfold OwnsI; rw [List.length_append, List.map_append]; exact hown7))
        clear hown7 hgrow7 hkeep7 hat7 hsz
        go_roundw
        case rel => exact ⟨k + 1, A', c', by omega, by go_num, by rw [HKS.out, List.length_append]; rfl, by rw [HKS.out, List.length_append]; exact HO7.out, HB7.out⟩
        case measure => simp [intOf] <;> omega
      · obtain rfl : k = n.2.1.length := by omega
        clear hlt c0 c1 c2 c3
        rw [stL_all, HE.out] at HO ⊢
        go_wp2
        go_ret
        exact ⟨_, rfl, HO.out.lower HW0.out.size, HB.out⟩
set_option maxRecDepth 100000 in
set_option maxHeartbeats 6400000 in
theorem specStart_at (n : DNet) (us : List Value) (w : World) (h : rdNet 0 w.heap.size w us n) {L : List Int} (hL : startO n = L) :
    Calls Try.prog 59 #[.agg us.toArray] w fun e w' => ∃ v', e = .returned v' ∧ OwnsI w' w.heap.size v' L ∧ Below w.heap.size w w' := by
  obtain ⟨i0, hi, hz0, hz1, hz2⟩ := info_parts infoI
  have HD := Lib.hid h
  obtain ⟨f, hf⟩ : ∃ f, netB n = f := ⟨_, rfl⟩
  have HF := Lib.hid hf
  have HX := Lib.hid hL
  clear hf hL
  obtain ⟨mu0, mu1, mu2, mu3, rfl, mh0, mh1, mh2, mh3⟩ := h
  obtain ⟨me0, -⟩ := mh0
  injection me0 with me0
  subst me0
  obtain ⟨mA1, mc1, me1, mm1, -⟩ := slice_of mh1
  subst me1
  have mR1 := Lib.hid mh1
  clear mh1
  obtain ⟨mA2, mc2, me2, mm2, -⟩ := slice_of mh2
  subst me2
  have mR2 := Lib.hid mh2
  clear mh2
  obtain ⟨mA3, mc3, me3, mm3, -⟩ := slice_of mh3
  subst me3
  have mR3 := Lib.hid mh3
  clear mh3
  go_enter Try.func59, Try.ntmps59
  go_wp2_with fail
  obtain ⟨W0, hV⟩ : ∃ W0, W0 = ((w.alloc (.cells #[.int .i64 n.1, .slice mA1 (n.2.1).length mc1, .slice mA2 (n.2.2.1).length mc2, .slice mA3 (n.2.2.2).length mc3] 36)).alloc (.cells #[] 3)) := ⟨_, rfl⟩
  have hO0 : OwnsI ((w.alloc (.cells #[.int .i64 n.1, .slice mA1 (n.2.1).length mc1, .slice mA2 (n.2.2.1).length mc2, .slice mA3 (n.2.2.2).length mc3] 36)).alloc (.cells #[] 3)) (w.heap.size + 1) (.slice (some ⟨w.heap.size + 1, 0, none⟩) 0 0) [] := by have := own_newI (w.alloc (.cells #[.int .i64 n.1, .slice mA1 (n.2.1).length mc1, .slice mA2 (n.2.2.1).length mc2, .slice mA3 (n.2.2.2).length mc3] 36)) (w.heap.size + 1) (by simp); simpa using this
  rw [← hV] at hO0 ⊢
  have gN := eqbox2 hV
  have HO := Lib.hid hO0
  have d0 : W0.cell? ⟨w.heap.size, 0, none⟩ = some (.int .i64 n.1) := box_cell gN.1 0 _ rfl
  have d1 : W0.cell? ⟨w.heap.size, 1, none⟩ = some (.slice mA1 (n.2.1).length mc1) := box_cell gN.1 1 _ rfl
  have d2 : W0.cell? ⟨w.heap.size, 2, none⟩ = some (.slice mA2 (n.2.2.1).length mc2) := box_cell gN.1 2 _ rfl
  have d3 : W0.cell? ⟨w.heap.size, 3, none⟩ = some (.slice mA3 (n.2.2.2).length mc3) := box_cell gN.1 3 _ rfl
  have sW0 : W0.heap.size = w.heap.size + 2 := by rw [hV]; simp
  have HW0 := Lib.hid gN.2.2
  clear hV gN hO0
  have HE0 := Lib.hid d0
  have HE1 := Lib.hid d1
  have HE2 := Lib.hid d2
  have HE3 := Lib.hid d3
  refine (specNetOk_at n _ _ (rdUp good_Net HD.out HW0.out) HF.out).mono ?_
  rintro e w1 ⟨rfl, hb⟩
  replace d0 := keep hb d0
  replace d1 := keep hb d1
  replace d2 := keep hb d2
  replace d3 := keep hb d3
  have HB02 := Lib.hid hb
  replace HO := Lib.hid (HO.out.below hb)
  clear hb
  cases f with
  | false =>
    have HE := Lib.hid ((start_no HF.out).symm.trans HX.out)
    go_wp2
    go_ret
    refine ⟨_, rfl, ?_, bThen HW0.out HB02.out⟩
    rw [← HE.out]
    exact HO.out.lower (by omega)
  | true =>
    have HE := Lib.hid ((start_yes HF.out).symm.trans HX.out)
    have hs12 := (netP_of HF.out).sz.s12
    go_wp2
    clear d0 d1 d2 d3
    go_loopw [3, 4] (fun s z wr => ∃ (k : Nat) (A : Option Addr) (c : Nat), k ≤ n.2.1.length ∧ z = .int .i64 (k : Int) ∧ s = .slice A (stL n k).length c ∧ OwnsI wr (w.heap.size + 1) (.slice A (stL n k).length c) (stL n k) ∧ Below (w.heap.size + 1) W0 wr) (fun _ z _ => n.2.1.length - (intOf z).toNat)
    case atStart => exact ⟨0, some ⟨w.heap.size + 1, 0, none⟩, 0, Nat.zero_le _, rfl, rfl, HO.out, HB02.out.mono (by omega)⟩
    case round =>
      obtain ⟨k, A, c, hk, rfl, rfl, hown, hb⟩ := hrel
      obtain ⟨w3, rfl⟩ : ∃ w3, w3 = wr := ⟨_, rfl⟩
      clear HO HB02
      have HO := Lib.hid hown
      have HB0 := Lib.hid hb
      have HB := Lib.hid (show Below w.heap.size w w3 from HW0.out.trans (hb.mono (by omega)))
      have c1 : w3.cell? ⟨w.heap.size, 1, none⟩ = some (.slice mA1 (n.2.1).length mc1) := (hb.cell (p := ⟨w.heap.size, 1, none⟩) (by dsimp only; omega)).trans HE1.out
      have c0 := True.intro
      have c2 := True.intro
      have c3 := True.intro
      clear hown hb
      by_cases hlt : k < n.2.1.length
      · obtain ⟨s, hs⟩ : ∃ s, n.2.1[k]? = some s := ⟨_, List.getElem?_eq_getElem hlt⟩
        obtain ⟨sb, sq, sA, sc, rfl, sb1, x0, -, x1, -, x2, sR⟩ := at_Seq (good_SeqS.below mR1.out (Nat.le_refl _) HB.out) hs
        have sb2 := Nat.lt_of_lt_of_le sb1 HB.out.size
        have tk : (k : Int) < (n.2.1.length : Int) := by omega
        obtain ⟨KL, hK⟩ : ∃ KL, stL n k = KL := ⟨_, rfl⟩
        have hlen : KL.length ≤ 12 := by rw [← hK]; unfold stL; rw [List.length_map, List.length_take]; omega
        obtain ⟨y, hy⟩ : ∃ y, s.2.1 = y := ⟨_, rfl⟩
        have HKS := Lib.hid (show stL n (k + 1) = KL ++ [y] by rw [stL_step hs, hK, hy])
        rw [hy] at x1
        rw [hK] at HO ⊢
        obtain ⟨it, hit⟩ : ∃ it : Int, s.1 = it := ⟨_, rfl⟩
        rw [hit] at x0
        clear hs hK hy sb1 sR hit
        have HBA := Lib.hid (show Below w3.heap.size w3 (w3.alloc (.cells #[.int .i64 y] 3)) from bAlloc (Below.refl _ _) (Nat.le_refl _) _)
        have HBX := Lib.hid (show Below (w.heap.size + 1) W0 (w3.alloc (.cells #[.int .i64 y] 3)) from HB0.out.trans (HBA.out.mono (by have := HB0.out.size; omega)))
        have hsz := Lib.hid (show w.heap.size + 1 ≤ (w3.alloc (.cells #[.int .i64 y] 3)).heap.size by have := HBX.out.size; omega)
        have HOA := Lib.hid (HO.out.below HBA.out)
        clear c0 c2 c3
        go_wp2_with (at_builtin; refine wpList_append_all (by rfl) _ _ 24 (by rfl) (w.heap.size + 1) 3 i0 (.int .i64 0) 1 8 Try.underlying24 hi hz0 hz1 hz2 rfl (by omega) (.slice A KL.length c) KL.length (KL.map vI) (by rfl) HOA.out (some ⟨w3.heap.size, 0, none⟩) 1 1 [.int .i64 y] (by rfl) (by rfl) (.inr ⟨_, rfl, World.news_of_block (heap_alloc_new _ _)⟩) (by simp [Value.oneCell']) (by unfold maxLen; omega) (by omega) hsz.out ?_; intro A' c' w7 hown7 hgrow7 hkeep7 hat7)
        have HB7 := Lib.hid ((HBX.out.grown hgrow7 hsz.out (fun g hg => (HO.out.lt g hg).1)))
        have HO7 := Lib.hid (show OwnsI w7 (w.heap.size + 1) (.slice A' (KL.length + 1) c') (KL ++ [y]) from (by unfold OwnsI; rw [List.length_append, List.map_append]; exact hown7))
        clear hown7 hgrow7 hkeep7 hat7 hsz
        go_roundw
        case rel => exact ⟨k + 1, A', c', by omega, by go_num, by rw [HKS.out, List.length_append]; rfl, by rw [HKS.out, List.length_append]; exact HO7.out, HB7.out⟩
        case measure => simp [intOf] <;> omega
      · obtain rfl : k = n.2.1.length := by omega
        clear hlt c0 c2 c3
        rw [stL_all, HE.out] at HO ⊢
        go_wp2
        go_ret
        exact ⟨_, rfl, HO.out.lower (by omega), HB.out⟩
end Go.Proofs.Ytedamhkcblemdaa
/- NrQ: One cycle: the plain part, and what an owned slice keeps. -/
namespace Go.Proofs.Ytedamhkcblemdaa
open Go.RowKit
set_option linter.unusedVariables false
set_option linter.unusedSimpArgs false

theorem valO_lenN {n : DNet} {st : List Int} (x : Int) (h : StateP n st) : (valO n st x).length = netN n := by
  rw [vals_yes (stateB_of h), valK_len]
theorem valO_01 {n : DNet} {st : List Int} (x : Int) (h : StateP n st) (j : Nat) : 0 ≤ (valO n st x).getD j 0 ∧ (valO n st x).getD j 0 ≤ 1 := by
  rw [vals_yes (stateB_of h)]; exact valK_in n st x _ j
theorem lits_seq {n : DNet} {V : List Int} {s : DSeq} {k : Nat} (hP : NetP n) (hV : V.length = netN n) (hs : n.2.1[k]? = some s) : LitsIn V s.2.2 := fun r hr => by
  have hm : r ∈ rootsL n := by
    unfold rootsL
    exact List.mem_append.2 (.inr (List.mem_flatMap.2 ⟨s, List.mem_of_getElem? hs, hr⟩))
  obtain ⟨x, e, hx⟩ := hP.root r hm
  exact ⟨x, e, by rw [hV]; exact hx⟩
theorem lits_out {n : DNet} {V : List Int} (hP : NetP n) (hV : V.length = netN n) : LitsIn V n.2.2.2 := fun r hr => by
  have hm : r ∈ rootsL n := by
    unfold rootsL
    exact List.mem_append.2 (.inl hr)
  obtain ⟨x, e, hx⟩ := hP.root r hm
  exact ⟨x, e, by rw [hV]; exact hx⟩
theorem next_zero (n : DNet) (st V : List Int) : nextL n st V 0 = [] := by simp [nextL]
theorem next_len (n : DNet) (st V : List Int) (k : Nat) : (nextL n st V k).length = k := by simp [nextL]
theorem next_step {n : DNet} {st V : List Int} {k : Nat} {s : DSeq} {x : Int} (hs : n.2.1[k]? = some s) (hx : st[k]? = some x) : nextL n st V (k + 1) = nextL n st V k ++ [seqI s.1 x (maskV V s.2.2)] := by
  unfold nextL
  rw [List.range_succ, List.map_append]
  simp [hs, hx]
theorem step_no {n : DNet} {st : List Int} {x : Int} (h : stateB n st = false) : stepO n st x = ([], 0) := by unfold stepO; rw [h]; rfl
theorem step_yes {n : DNet} {st : List Int} {x : Int} (h : stateB n st = true) : stepO n st x = (nextL n st (valO n st x) n.2.1.length, maskV (valO n st x) n.2.2.2) := by unfold stepO; rw [if_pos h]
theorem own_blk {w : World} {B : Nat} {v : Value} {L : List Int} (h : OwnsI w B v L) (hl : 0 < L.length) : ∃ g cap, v = .slice (some ⟨g, 0, none⟩) L.length cap ∧ B ≤ g ∧ g < w.heap.size := by
  rcases h.2 with ⟨rfl, h0⟩ | ⟨g, cap, cur, rfl, e2, e3, e4, e5, e6⟩
  · omega
  · exact ⟨g, cap, rfl, e2, (Array.getElem?_eq_some_iff.1 e3).1⟩
theorem ownI_kept {w w' : World} {B g n c : Nat} {L : List Int} {row : Option Nat} (h : OwnsI w B (.slice (some ⟨g, 0, none⟩) n c) L) (hg : w.grownBy w' row) (hne : row ≠ some g) : OwnsI w' B (.slice (some ⟨g, 0, none⟩) n c) L := by
  unfold OwnsI at h ⊢
  exact World.ownsRow.kept h hg (.inr (fun e => hne e.symm))
/-- The values of a slice that stays behind an append of another. -/
theorem keep_grown {w w' : World} {row : Option Nat} (h : w.grownBy w' row) {b o : Nat} {v : Value} (hc : w.cell? ⟨b, o, none⟩ = some v) (hne : row ≠ some b) : w'.cell? ⟨b, o, none⟩ = some v := grownC h hc hne
theorem own_int {w' : World} {B : Nat} {A' : Option Addr} {c' : Nat} {L : List Int} {x : Int} (h : w'.ownsRow B 3 1 (.slice A' (L.length + 1) c') (L.length + 1) (L.map vI ++ [.int .i64 x])) : OwnsI w' B (.slice A' (L.length + 1) c') (L ++ [x]) := by
  unfold OwnsI
  rw [List.length_append, List.map_append]
  exact h
end Go.Proofs.Ytedamhkcblemdaa
/- NrR: Runs: the plain part. -/
namespace Go.Proofs.Ytedamhkcblemdaa
open Go.RowKit
set_option linter.unusedVariables false
set_option linter.unusedSimpArgs false

def outsK (n : DNet) (xs : List Int) (k : Nat) : List Int := (List.range k).map fun t => (stepO n (stAt n xs t) (xs.getD t 0)).2
theorem outs_zero (n : DNet) (xs : List Int) : outsK n xs 0 = [] := rfl
theorem outs_len (n : DNet) (xs : List Int) (k : Nat) : (outsK n xs k).length = k := by simp [outsK]
theorem outs_step {n : DNet} {xs S : List Int} {x o : Int} {k : Nat} (hx : xs[k]? = some x) (h : stepO n (stAt n xs k) x = (S, o)) : outsK n xs (k + 1) = outsK n xs k ++ [o] ∧ stAt n xs (k + 1) = S := by
  have e : xs.getD k 0 = x := by rw [List.getD_eq_getElem?_getD, hx]; rfl
  constructor
  · unfold outsK
    rw [List.range_succ, List.map_append, List.map_cons, List.map_nil, e, h]
  · conv => lhs; unfold stAt
    rw [e, h]
theorem run_no {n : DNet} {xs : List Int} (h : ¬ (netB n = true ∧ xs.length ≤ 16)) : runO n xs = [] := by unfold runO; rw [if_neg h]
theorem run_yes {n : DNet} {xs : List Int} (h : netB n = true) (hl : xs.length ≤ 16) : runO n xs = outsK n xs xs.length := by unfold runO; rw [if_pos ⟨h, hl⟩]; rfl
theorem state_fit {n : DNet} {st : List Int} (h : StateP n st) : ∀ y ∈ st, Fit y := fun y hy => by
  obtain ⟨j, hj, rfl⟩ := List.getElem_of_mem hy
  have h3 := h.val j _ (List.getElem?_eq_getElem (by rw [← h.len]; exact hj))
  rw [List.getD_eq_getElem?_getD, List.getElem?_eq_getElem hj, Option.getD_some] at h3
  have h4 := of_decide_eq_true h3
  unfold Fit
  omega
theorem step_out {n : DNet} {st : List Int} {x : Int} (h : StateP n st) : 0 ≤ (stepO n st x).2 ∧ (stepO n st x).2 < 65536 := by
  rw [step_yes (stateB_of h)]
  dsimp only
  have h1 := maskS_in (valO n st x) n.2.2.2 n.2.2.2.length
  have h2 : (2 : Nat) ^ n.2.2.2.length ≤ 2 ^ 16 := Nat.pow_le_pow_right (by omega) (netP_of h.net).sz.o16
  have h3 : ((2 : Int) ^ n.2.2.2.length) = ((2 ^ n.2.2.2.length : Nat) : Int) := by rw [Int.natCast_pow]; rfl
  unfold maskV
  omega
theorem outs_fit {n : DNet} {xs : List Int} (h : netB n = true) (k : Nat) : ∀ y ∈ outsK n xs k, Fit y := fun y hy => by
  obtain ⟨t, _, rfl⟩ := List.mem_map.1 hy
  have := step_out (x := xs.getD t 0) (stAt_ok h xs t)
  unfold Fit
  omega
theorem ownI_stays {w w' : World} {B : Nat} {v : Value} {L : List Int} {row : Option Nat} (h : OwnsI w B v L) (hg : w.grownBy w' row) (hne : v.ownBlock = none ∨ v.ownBlock ≠ row) : OwnsI w' B v L := by
  unfold OwnsI at h ⊢
  exact World.ownsRow.kept h hg hne
/-- What was made behind a world shares no block with what was there. -/
theorem own_apart {w w' : World} {B : Nat} {v u : Value} {L K : List Int} (h : OwnsI w B v L) (h' : OwnsI w' w.heap.size u K) : u.ownBlock = none ∨ u.ownBlock ≠ v.ownBlock := by
  cases e : u.ownBlock with
  | none => exact .inl rfl
  | some g =>
    refine .inr fun e2 => ?_
    have h1 := (h'.lt g e).1
    have h2 := (h.lt g e2.symm).2
    omega
theorem own_apart2 {w' : World} {B N : Nat} {u v v2 : Value} {L : List Int} (h' : OwnsI w' B u L) (hne : u.ownBlock = none ∨ u.ownBlock ≠ v.ownBlock) (hat : v2.ownBlock = v.ownBlock ∨ v2.ownBlock = some N) (hN : w'.heap.size ≤ N) : u.ownBlock = none ∨ u.ownBlock ≠ v2.ownBlock := by
  rcases hat with e | e
  · rw [e]; exact hne
  · cases e2 : u.ownBlock with
    | none => exact .inl rfl
    | some g =>
      refine .inr fun e3 => ?_
      rw [e] at e3
      injection e3 with e3
      have := (h'.lt g e2).2
      omega
end Go.Proofs.Ytedamhkcblemdaa
