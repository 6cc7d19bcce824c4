/-
  Packed words: the plain part.
-/
import Derived.Test.YtedamhkcblemdaaOwN
import Derived.Test.YtedamhkcblemdaaNrA
namespace Go.Proofs.Ytedamhkcblemdaa
open Go.RowKit
set_option linter.unusedVariables false
set_option linter.unusedSimpArgs false
/-- n cut to its low W bits. -/
def lowI (n : Int) (W : Nat) : Int := n % ((2 ^ W : Nat) : Int)
theorem lowI_lo (n : Int) (W : Nat) : 0 ≤ lowI n W := Int.emod_nonneg _ (by have := Nat.pow_pos (n := W) (show 0 < 2 by omega); omega)
theorem lowI_hi (n : Int) (W : Nat) : lowI n W < ((2 ^ W : Nat) : Int) := Int.emod_lt_of_pos _ (by have := Nat.pow_pos (n := W) (show 0 < 2 by omega); omega)
theorem lowI_low (n : Int) (W : Nat) : lowI (lowI n W) W = lowI n W := Int.emod_eq_of_lt (lowI_lo n W) (lowI_hi n W)
theorem p16 (W : Nat) (h : W ≤ 4) : 2 ^ W ≤ 16 := by
  rcases (by omega : W = 0 ∨ W = 1 ∨ W = 2 ∨ W = 3 ∨ W = 4) with rfl | rfl | rfl | rfl | rfl <;> decide
theorem p20 (W : Nat) (h : W ≤ 20) : 2 ^ W ≤ 1048576 := Nat.le_trans (Nat.pow_le_pow_right (by omega) h) (by decide)
theorem p1 (W : Nat) : 1 ≤ 2 ^ W := Nat.pow_pos (by omega)
theorem pc (N : Nat) : (2 : Int) ^ N = ((2 ^ N : Nat) : Int) := by simp
theorem lowI_16 (n : Int) {W : Nat} (h : W ≤ 4) : lowI n W < 16 := by have := lowI_hi n W; have := p16 W h; omega
/-- The width at place k. -/
def wdA (W : List Int) (k : Nat) : Nat := (W.getD k 0).toNat
/-- The bits below place k. -/
def plc (W : List Int) : Nat → Nat
  | 0 => 0
  | k + 1 => plc W k + wdA W k
def badW (x : Int) : Bool := decide (x < 1 ∨ 4 < x)
def widB (W : List Int) : Bool := !(W.any badW) && decide (plc W W.length ≤ 20)
def packN (W X : List Int) : Nat → Nat
  | 0 => 0
  | k + 1 => packN W X k + (lowI (X.getD k 0) (wdA W k)).toNat * 2 ^ plc W k
def packO (W X : List Int) : Int := if W.length = X.length ∧ widB W = true then (packN W X W.length : Int) else -1
def unpI (W : List Int) (x : Int) (k : Nat) : List Int := (List.range k).map fun i => lowI (x / ((2 ^ plc W i : Nat) : Int)) (wdA W i)
def unpO (W : List Int) (x : Int) : List Int := if widB W = true then unpI W x W.length else []
section
variable {W X : List Int} {k : Nat}
theorem any_take {f : Int → Bool} {L : List Int} (h : L.any f = false) : ∀ {k : Nat} {x : Int}, L[k]? = some x → f x = false := by
  intro k x hx
  have hm := List.mem_of_getElem? hx
  cases hf : f x with
  | false => rfl
  | true => exact absurd (List.any_eq_true.2 ⟨x, hm, hf⟩) (by rw [h]; decide)
theorem badW_no {x : Int} (h : badW x = false) : 1 ≤ x ∧ x ≤ 4 := by
  have := of_decide_eq_false h
  omega
theorem wdA_of {x : Int} (h : W[k]? = some x) : wdA W k = x.toNat := by unfold wdA; rw [List.getD_eq_getElem?_getD, h]; rfl
theorem plc_mono (W : List Int) : ∀ {a b : Nat}, a ≤ b → plc W a ≤ plc W b
  | a, 0, h => by have : a = 0 := by omega
                  subst this; exact Nat.le_refl _
  | a, b + 1, h => by
    rcases Nat.lt_or_ge b a with h1 | h1
    · have : a = b + 1 := by omega
      subst this; exact Nat.le_refl _
    · exact Nat.le_trans (plc_mono W h1) (Nat.le_add_right _ _)
theorem widB_no (h : widB W = true) : W.any badW = false ∧ plc W W.length ≤ 20 := by
  unfold widB at h
  rw [Bool.and_eq_true, Bool.not_eq_true', decide_eq_true_eq] at h
  exact h
theorem wd_in (h : W.any badW = false) {x : Int} (hx : W[k]? = some x) : 1 ≤ x ∧ x ≤ 4 := badW_no (any_take h hx)
theorem wdA_in (h : W.any badW = false) (hk : k < W.length) : 1 ≤ wdA W k ∧ wdA W k ≤ 4 := by
  have := wd_in h (List.getElem?_eq_getElem hk)
  rw [wdA_of (List.getElem?_eq_getElem hk)]
  omega
theorem plc_len (h : W.any badW = false) : ∀ {k : Nat}, k ≤ W.length → k ≤ plc W k ∧ plc W k ≤ 4 * k
  | 0, _ => ⟨Nat.zero_le _, Nat.zero_le _⟩
  | k + 1, hk => by
    have h1 := plc_len h (show k ≤ W.length by omega)
    have h2 := wdA_in h (show k < W.length by omega)
    unfold plc
    omega
theorem widB_len (h : widB W = true) : W.length ≤ 20 := by
  have h1 := widB_no h
  have := (plc_len h1.1 (Nat.le_refl _)).1
  omega
theorem plc_20 (h : widB W = true) (hk : k ≤ W.length) : plc W k ≤ 20 := Nat.le_trans (plc_mono W hk) (widB_no h).2
theorem low_nat (x : Int) (w : Nat) : ∃ t : Nat, lowI x w = (t : Int) ∧ t < 2 ^ w ∧ (lowI x w).toNat = t := by
  have h0 := lowI_lo x w
  have h1 := lowI_hi x w
  exact ⟨(lowI x w).toNat, by omega, by omega, rfl⟩
theorem step_lt {a p t w : Nat} (ha : a < 2 ^ p) (ht : t < 2 ^ w) : a + t * 2 ^ p < 2 ^ (p + w) := by
  rw [Nat.pow_add]
  have h1 : (t + 1) * 2 ^ p ≤ 2 ^ w * 2 ^ p := Nat.mul_le_mul_right _ ht
  rw [Nat.add_mul, Nat.one_mul] at h1
  rw [Nat.mul_comm (2 ^ p)]
  omega
theorem packN_lt (W X : List Int) : ∀ k, packN W X k < 2 ^ plc W k
  | 0 => by unfold packN plc; decide
  | k + 1 => by
    obtain ⟨t, -, ht, he⟩ := low_nat (X.getD k 0) (wdA W k)
    show packN W X k + (lowI (X.getD k 0) (wdA W k)).toNat * 2 ^ plc W k < 2 ^ (plc W k + wdA W k)
    rw [he]
    exact step_lt (packN_lt W X k) ht
theorem or_shift {a t p : Nat} (ha : a < 2 ^ p) : a ||| t * 2 ^ p = a + t * 2 ^ p := by
  have h := Nat.shiftLeft_add_eq_or_of_lt ha t
  rw [Nat.shiftLeft_eq] at h
  rw [Nat.or_comm, ← h]; omega
theorem packN_step {w : Int} {x : Int} (hw : W[k]? = some w) (hx : X[k]? = some x) : packN W X (k + 1) = packN W X k + (lowI x w.toNat).toNat * 2 ^ plc W k := by
  show packN W X k + _ = _
  rw [wdA_of hw, List.getD_eq_getElem?_getD, hx]; rfl
theorem plc_step {w : Int} (hw : W[k]? = some w) : plc W (k + 1) = plc W k + w.toNat := by
  show plc W k + _ = _
  rw [wdA_of hw]
theorem packO_no (h : ¬ (W.length = X.length ∧ widB W = true)) : packO W X = -1 := if_neg h
theorem packO_yes (h : W.length = X.length) (h2 : widB W = true) : packO W X = (packN W X W.length : Int) := if_pos ⟨h, h2⟩
theorem packO_fit (W X : List Int) : -1 ≤ packO W X ∧ packO W X < 1048576 := by
  unfold packO
  split
  · rename_i h
    have h1 := packN_lt W X W.length
    have h2 := p20 _ (widB_no h.2).2
    omega
  · omega
theorem unpI_step {w : Int} (x : Int) (hw : W[k]? = some w) : unpI W x (k + 1) = unpI W x k ++ [lowI (x / ((2 ^ plc W k : Nat) : Int)) w.toNat] := by
  unfold unpI
  rw [List.range_succ, List.map_append, ← wdA_of hw]; rfl
theorem unpI_len (W : List Int) (x : Int) (k : Nat) : (unpI W x k).length = k := by unfold unpI; simp
theorem unpI_at (W : List Int) (x : Int) {k i : Nat} (h : i < k) : (unpI W x k)[i]? = some (lowI (x / ((2 ^ plc W i : Nat) : Int)) (wdA W i)) := by
  unfold unpI
  rw [List.getElem?_map, List.getElem?_range h]; rfl
theorem unpI_fit (h : W.any badW = false) {x : Int} {k : Nat} (hk : k ≤ W.length) : ∀ y ∈ unpI W x k, Fit y := by
  intro y hy
  unfold unpI at hy
  obtain ⟨i, hi, rfl⟩ := List.mem_map.1 hy
  rw [List.mem_range] at hi
  have h1 := lowI_lo (x / ((2 ^ plc W i : Nat) : Int)) (wdA W i)
  have h2 := lowI_16 (x / ((2 ^ plc W i : Nat) : Int)) (wdA_in h (show i < W.length by omega)).2
  unfold Fit; omega
theorem unpO_in (W : List Int) (x : Int) : (unpO W x).length ≤ 20 ∧ ∀ y ∈ unpO W x, Fit y := by
  unfold unpO
  split
  · rename_i h
    exact ⟨by rw [unpI_len]; exact widB_len h, unpI_fit (widB_no h).1 (Nat.le_refl _)⟩
  · exact ⟨by simp, fun y hy => by cases hy⟩
theorem div_step (x : Int) (a b : Nat) : x / ((2 ^ a : Nat) : Int) / ((2 ^ b : Nat) : Int) = x / ((2 ^ (a + b) : Nat) : Int) := by
  rw [Int.ediv_ediv_of_nonneg (Int.natCast_nonneg _), Nat.pow_add, Int.natCast_mul]
theorem packN_low : ∀ {n k : Nat}, k < n → packN W X n % 2 ^ plc W (k + 1) = packN W X (k + 1)
  | 0, k, h => by omega
  | n + 1, k, h => by
    rcases Nat.lt_or_ge k n with h1 | h1
    · have e : packN W X (n + 1) = packN W X n + (lowI (X.getD n 0) (wdA W n)).toNat * 2 ^ plc W n := rfl
      obtain ⟨d, hd⟩ := Nat.le.dest (plc_mono W (show k + 1 ≤ n by omega))
      rw [e, ← hd, Nat.pow_add, Nat.mul_left_comm, Nat.add_mul_mod_self_left]
      exact packN_low h1
    · have : k = n := by omega
      subst this
      exact Nat.mod_eq_of_lt (packN_lt W X (k + 1))
theorem unp_pack {n : Nat} (h : k < n) : lowI ((packN W X n : Int) / ((2 ^ plc W k : Nat) : Int)) (wdA W k) = lowI (X.getD k 0) (wdA W k) := by
  obtain ⟨t, e, ht, he⟩ := low_nat (X.getD k 0) (wdA W k)
  rw [e]
  unfold lowI
  rw [← Int.natCast_ediv, ← Int.natCast_emod]
  congr 1
  rw [← Nat.mod_mul_right_div_self, ← Nat.pow_add]
  have h1 : packN W X n % 2 ^ (plc W k + wdA W k) = packN W X (k + 1) := packN_low h
  rw [h1]
  show (packN W X k + _ * _) / _ = _
  rw [he, Nat.add_mul_div_right _ _ (p1 _), Nat.div_eq_of_lt (packN_lt W X k), Nat.zero_add]
theorem packN_congr {X Y : List Int} : ∀ {k : Nat}, (∀ i, i < k → lowI (X.getD i 0) (wdA W i) = lowI (Y.getD i 0) (wdA W i)) → packN W X k = packN W Y k
  | 0, _ => rfl
  | k + 1, h => by
    show packN W X k + _ = packN W Y k + _
    rw [packN_congr (fun i hi => h i (by omega)), h k (by omega)]
/-- Unpacked words are the words, cut; packed again they give the number. -/
theorem pack_round (hl : W.length = X.length) (h : widB W = true) {x : Int} (hx : packO W X = x) : unpO W x = unpI W x W.length ∧ (∀ k, k < W.length → (unpO W x)[k]? = some (lowI (X.getD k 0) (wdA W k))) ∧ packO W (unpO W x) = x := by
  have e : unpO W x = unpI W x W.length := if_pos h
  rw [packO_yes hl h] at hx
  have hat : ∀ k, k < W.length → (unpO W x)[k]? = some (lowI (X.getD k 0) (wdA W k)) := fun k hk => by
    rw [e, unpI_at W x hk, ← hx, unp_pack hk]
  refine ⟨e, hat, ?_⟩
  rw [packO_yes (by rw [e, unpI_len]) h, ← hx]
  congr 1
  refine packN_congr fun i hi => ?_
  rw [List.getD_eq_getElem?_getD, hx, hat i hi, Option.getD_some, lowI_low]
end
end Go.Proofs.Ytedamhkcblemdaa
