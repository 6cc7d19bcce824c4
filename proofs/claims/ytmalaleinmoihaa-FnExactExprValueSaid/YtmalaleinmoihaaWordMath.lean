/-
  The values of expressions: the plain part.
-/
import Derived.Test.YtmalaleinmoihaaFlatMath
import Derived.Test.YtmalaleinmoihaaBits64
namespace Go.Proofs.Ytmalaleinmoihaa
open Go.RowKit
set_option linter.unusedVariables false

theorem powc (N : Nat) : (2 : Int) ^ N = ((2 ^ N : Nat) : Int) := by simp
theorem bit_one (B I : Nat) (hB : B ≤ 65535) (hI : I ≤ 16) : bits .and .i64 ((B : Int) / 2 ^ I) 1 = ((B.testBit I).toNat : Int) := by
  have e : (B : Int) / 2 ^ I = ((B >>> I : Nat) : Int) := by
    rw [Nat.shiftRight_eq_div_pow, Int.natCast_ediv, Int.natCast_pow]; rfl
  have h1 := i64_and (B >>> I) 1 (by have := Nat.shiftRight_le B I; omega) (by omega)
  rw [e]
  exact h1.trans (by rw [bit01])
/-- n cut to W bits. -/
def cutI (n : Int) (W : Nat) : Int := n % ((2 ^ W : Nat) : Int)
theorem cutI_lo (n : Int) (W : Nat) : 0 ≤ cutI n W := Int.emod_nonneg _ (by have := Nat.pow_pos (n := W) (show 0 < 2 by omega); omega)
theorem cutI_hi (n : Int) (W : Nat) : cutI n W < ((2 ^ W : Nat) : Int) := Int.emod_lt_of_pos _ (by have := Nat.pow_pos (n := W) (show 0 < 2 by omega); omega)
theorem cutI_in {n : Int} {W : Nat} (h0 : 0 ≤ n) (h : n < ((2 ^ W : Nat) : Int)) : cutI n W = n := Int.emod_eq_of_lt h0 h
theorem pow16 (W : Nat) (h : W ≤ 4) : 2 ^ W ≤ 16 := by
  rcases (by omega : W = 0 ∨ W = 1 ∨ W = 2 ∨ W = 3 ∨ W = 4) with rfl | rfl | rfl | rfl | rfl <;> decide
theorem pow1 (W : Nat) : 1 ≤ 2 ^ W := Nat.pow_pos (by omega)
/-- A number and a mask of W ones. -/
theorem and_mask (n : Int) (W M : Nat) (hW : W ≤ 4) (hM : M + 1 = 2 ^ W) : bits .and .i64 n (M : Int) = cutI n W := by
  have h16 := pow16 W hW
  show IntKind.i64.wrap ((BitVec.ofInt 64 n &&& BitVec.ofInt 64 (M : Int)).toNat : Int) = _
  rw [BitVec.toNat_and, ofInt_u64 M (by omega)]
  have eM : M = 2 ^ W - 1 := by omega
  rw [eM, Nat.and_two_pow_sub_one_eq_mod, BitVec.toNat_ofInt]
  have hlt : (n % ((2 ^ 64 : Nat) : Int)).toNat % 2 ^ W < 2 ^ W := Nat.mod_lt _ (pow1 W)
  rw [wrap64_small _ (by omega)]
  unfold cutI
  have h0 : 0 ≤ n % ((2 ^ 64 : Nat) : Int) := Int.emod_nonneg _ (by decide)
  rw [Int.natCast_emod, Int.toNat_of_nonneg h0]
  refine Int.emod_emod_of_dvd _ ?_
  rw [Int.natCast_dvd_natCast]
  exact Nat.pow_dvd_pow 2 (by omega)
/-- All bits of a number turned. -/
theorem xor_not (a : Nat) (ha : a < 9223372036854775808) : bits .xor .i64 (-1) (a : Int) = -(a : Int) - 1 := by
  show IntKind.i64.wrap ((BitVec.ofInt 64 (-1) ^^^ BitVec.ofInt 64 (a : Int)).toNat : Int) = _
  have e : BitVec.ofInt 64 (-1) ^^^ BitVec.ofInt 64 (a : Int) = ~~~BitVec.ofInt 64 (a : Int) := by
    rw [show BitVec.ofInt 64 (-1) = BitVec.allOnes 64 from by decide, BitVec.allOnes_xor]
  rw [e, BitVec.toNat_not, ofInt_u64 a (by omega)]
  have e2 : ((2 ^ 64 - 1 - a : Nat) : Int) = 18446744073709551615 - (a : Int) := by omega
  rw [e2]
  have e3 : (18446744073709551615 - (a : Int)) % 2 ^ 64 = 18446744073709551615 - (a : Int) := Int.emod_eq_of_lt (by omega) (by omega)
  simp only [IntKind.wrap, IntKind.bits, IntKind.signed, e3]
  rw [if_pos]
  · omega
  · simp; omega
def valAt (V : List Int) (i : Int) : Int := V.getD i.toNat 0
def arN (o : DOp) : Nat := (arityI o.1).toNat
/-- The value of an operator, not yet cut. -/
def opV (V : List Int) (o : DOp) (A : List Int) : Int :=
  if o.1 = 0 then o.2.1
  else if o.1 = 2 then valAt V o.2.1
  else if o.1 = 3 then (((valAt V o.2.1).toNat.testBit o.2.2.toNat).toNat : Int)
  else if o.1 = 4 then -(A.getD 0 0) - 1
  else if o.1 = 5 then (((A.getD 0 0).toNat &&& (A.getD 1 0).toNat : Nat) : Int)
  else if o.1 = 6 then (((A.getD 0 0).toNat ||| (A.getD 1 0).toNat : Nat) : Int)
  else if o.1 = 7 then (((A.getD 0 0).toNat ^^^ (A.getD 1 0).toNat : Nat) : Int)
  else if o.1 = 8 then A.getD 0 0 + A.getD 1 0
  else if o.1 = 9 then A.getD 0 0 - A.getD 1 0
  else if o.1 = 10 then (if A.getD 0 0 = A.getD 1 0 then 1 else 0)
  else if o.1 = 11 then (if A.getD 0 0 < A.getD 1 0 then 1 else 0)
  else if A.getD 0 0 = 0 then A.getD 2 0 else A.getD 1 0
/-- n expressions, one behind another. -/
def argsP (e : Nat → Option (Int × Nat)) : Nat → Nat → Option (List Int × Nat)
  | 0, p => some ([], p)
  | n + 1, p => (e p).bind fun r => (argsP e n r.2).map fun s => (r.1 :: s.1, s.2)
/-- The expression at place p: its value and the place behind it. -/
def evP (L : List DOp) (V : List Int) (W : Nat) : Nat → Nat → Option (Int × Nat)
  | 0, _ => none
  | f + 1, p => (L[p]?).bind fun o => (argsP (evP L V W f) (arN o) (p + 1)).map fun s => (cutI (opV V o s.1) W, s.2)
def exprV (L : List DOp) (V : List Int) (W : Nat) : Int := ((evP L V W 16 0).map (·.1)).getD 0
section
variable {L : List DOp} {V : List Int} {W f p p' : Nat} {v : Int}
theorem evP_rng (h : evP L V W f p = some (v, p')) : 0 ≤ v ∧ v < ((2 ^ W : Nat) : Int) := by
  cases f with
  | zero => cases h
  | succ f =>
    unfold evP at h
    rw [Option.bind_eq_some_iff] at h
    obtain ⟨o, _, h⟩ := h
    rw [Option.map_eq_some_iff] at h
    obtain ⟨s, _, h⟩ := h
    injection h with h _
    rw [← h]
    exact ⟨cutI_lo _ _, cutI_hi _ _⟩
/-- What an operator's operands are. -/
theorem evP_op (h : evP L V W (f + 1) p = some (v, p')) : ∃ o A, L[p]? = some o ∧ argsP (evP L V W f) (arN o) (p + 1) = some (A, p') ∧ v = cutI (opV V o A) W := by
  unfold evP at h
  rw [Option.bind_eq_some_iff] at h
  obtain ⟨o, ho, h⟩ := h
  rw [Option.map_eq_some_iff] at h
  obtain ⟨⟨A, q⟩, hs, h⟩ := h
  injection h with h1 h2
  dsimp only at h1 h2
  subst h2
  exact ⟨o, A, ho, hs, h1.symm⟩
theorem argsP_zero {e : Nat → Option (Int × Nat)} {A : List Int} (h : argsP e 0 p = some (A, p')) : A = [] ∧ p' = p := by
  unfold argsP at h
  injection h with h
  injection h with h1 h2
  exact ⟨h1.symm, h2.symm⟩
theorem argsP_succ {e : Nat → Option (Int × Nat)} {n : Nat} {A : List Int} (h : argsP e (n + 1) p = some (A, p')) : ∃ a q A', e p = some (a, q) ∧ argsP e n q = some (A', p') ∧ A = a :: A' := by
  unfold argsP at h
  rw [Option.bind_eq_some_iff] at h
  obtain ⟨⟨a, q⟩, h0, h⟩ := h
  rw [Option.map_eq_some_iff] at h
  obtain ⟨⟨A', q'⟩, hs, h⟩ := h
  injection h with h1 h2
  dsimp only at h1 h2 hs
  subst h1 h2
  exact ⟨a, q, A', h0, hs, rfl⟩
theorem argsP_len {e : Nat → Option (Int × Nat)} : ∀ {n p : Nat} {A : List Int}, argsP e n p = some (A, p') → A.length = n
  | 0, _, _, h => by rw [(argsP_zero h).1]; rfl
  | n + 1, _, _, h => by
    obtain ⟨a, q, A', _, h2, rfl⟩ := argsP_succ h
    rw [List.length_cons, argsP_len h2]
/-- Operators of a valid expression without parameters. -/
def OpsIn (n : Nat) (L : List DOp) : Prop := L.length ≤ 15 ∧ ∀ o ∈ L, opB n o = true ∧ o.1 ≠ 1
def ValsIn (V : List Int) : Prop := V.length ≤ 30 ∧ ∀ x ∈ V, 0 ≤ x ∧ x ≤ 15
theorem opsIn_of {n : Nat} (h : opsB n L = true) (h1 : (L.all fun o => !decide (o.1 = 1)) = true) : OpsIn n L := by
  refine ⟨(opsB_all h).1, fun o ho => ⟨(opsB_all h).2 o ho, ?_⟩⟩
  have := List.all_eq_true.1 h1 o ho
  simpa using this
/-- The kinds of operators, each with what its operands are. -/
theorem op_cases {n : Nat} {o : DOp} (h : opB n o = true) (h1 : o.1 ≠ 1) :
    (∃ a : Nat, o = (0, (a : Int), 0) ∧ a ≤ 15) ∨ (∃ a : Nat, o = (2, (a : Int), 0) ∧ a < n) ∨ (∃ a b : Nat, o = (3, (a : Int), (b : Int)) ∧ a < n ∧ b ≤ 3) ∨ ∃ k : Int, o = (k, 0, 0) ∧ 4 ≤ k ∧ k ≤ 12 := by
  obtain ⟨k, a, b⟩ := o
  unfold opB at h
  dsimp only at h h1
  by_cases k0 : k = 0
  · subst k0
    simp at h
    left
    exact ⟨a.toNat, by rw [Int.toNat_of_nonneg h.1.1, h.2], by omega⟩
  · rw [if_neg k0] at h
    by_cases k2 : k = 2
    · subst k2
      simp at h
      right; left
      exact ⟨a.toNat, by rw [Int.toNat_of_nonneg h.1.1, h.2], by omega⟩
    · rw [if_neg k2] at h
      by_cases k3 : k = 3
      · subst k3
        simp at h
        right; right; left
        exact ⟨a.toNat, b.toNat, by rw [Int.toNat_of_nonneg h.1.1, Int.toNat_of_nonneg h.2.1], by omega, by omega⟩
      · rw [if_neg k3] at h
        simp at h
        right; right; right
        refine ⟨k, by rw [h.1.2, h.2], ?_⟩
        have h0 := h.1.1
        unfold arityI at h0
        split at h0 <;> omega
theorem valAt_in (hV : ValsIn V) (i : Nat) (hi : i < V.length) : ∃ x : Nat, valAt V i = x ∧ x ≤ 15 ∧ V[i] = (x : Int) := by
  have h := hV.2 V[i] (List.getElem_mem hi)
  refine ⟨V[i].toNat, ?_, by omega, by omega⟩
  unfold valAt
  rw [List.getD_eq_getElem?_getD, Int.toNat_natCast, List.getElem?_eq_getElem hi]
  simp only [Option.getD_some]
  omega
/-- A valid expression has a value. -/
theorem args_some {n : Nat} (ih : ∀ (p : Nat) (q : Int), L.length - p < f → p ≤ L.length → 1 ≤ q → runOps n q (L.drop p) = true → ∃ v p', evP L V W f p = some (v, p') ∧ p < p' ∧ p' ≤ L.length ∧ runOps n (q - 1) (L.drop p') = true) :
    ∀ (k p : Nat) (q : Int), L.length - p < f → p ≤ L.length → 0 ≤ q → runOps n (q + k) (L.drop p) = true → ∃ A p', argsP (evP L V W f) k p = some (A, p') ∧ p ≤ p' ∧ p' ≤ L.length ∧ runOps n q (L.drop p') = true
  | 0, p, q, h1, h2, h3, h4 => ⟨[], p, rfl, Nat.le_refl _, h2, by simpa using h4⟩
  | k + 1, p, q, h1, h2, h3, h4 => by
    obtain ⟨v, p1, e1, l1, l2, r1⟩ := ih p (q + (k + 1 : Nat)) h1 h2 (by omega) h4
    obtain ⟨A, p2, e2, l3, l4, r2⟩ := args_some ih k p1 q (by omega) l2 h3 (by rw [show q + ((k : Nat) : Int) = q + ((k + 1 : Nat) : Int) - 1 by omega]; exact r1)
    refine ⟨v :: A, p2, ?_, by omega, l4, r2⟩
    unfold argsP
    rw [e1]
    simp [e2]
theorem evP_some {n : Nat} : ∀ (f p : Nat) (q : Int), L.length - p < f → p ≤ L.length → 1 ≤ q → runOps n q (L.drop p) = true → ∃ v p', evP L V W f p = some (v, p') ∧ p < p' ∧ p' ≤ L.length ∧ runOps n (q - 1) (L.drop p') = true := by
  intro f
  induction f with
  | zero => intro p q h; omega
  | succ f ih =>
    intro p q h1 h2 h3 h4
    by_cases hp : p < L.length
    · rw [runOps_step n q L p hp, if_neg (by omega), Bool.and_eq_true] at h4
      have har := opB_ar h4.1
      have e0 : arityI L[p].1 = ((arN L[p] : Nat) : Int) := by unfold arN; omega
      obtain ⟨A, p2, e2, l3, l4, r2⟩ := args_some (L := L) (V := V) (W := W) (n := n) ih (arN L[p]) (p + 1) (q - 1) (by omega) (by omega) (by omega) (by rw [← e0]; exact h4.2)
      refine ⟨cutI (opV V L[p] A) W, p2, ?_, by omega, l4, r2⟩
      unfold evP
      rw [List.getElem?_eq_getElem hp]
      simp [e2]
    · have hd : L.drop p = [] := List.drop_eq_nil_of_le (by omega)
      rw [hd] at h4
      unfold runOps at h4
      simp at h4
      omega
theorem expr_some {n : Nat} (h : opsB n L = true) : ∃ v, evP L V W 16 0 = some (v, L.length) ∧ exprV L V W = v := by
  unfold opsB at h
  rw [Bool.and_eq_true, decide_eq_true_eq] at h
  obtain ⟨v, p', e, l1, l2, r⟩ := evP_some (L := L) (V := V) (W := W) (n := n) 16 0 1 (by omega) (by omega) (by omega) (by simpa using h.2)
  have : p' = L.length := by
    apply Nat.le_antisymm l2
    apply Nat.le_of_not_lt
    intro hlt
    rw [show (1 : Int) - 1 = 0 by omega, runOps_step n 0 L p' hlt, if_pos rfl] at r
    cases r
  subst this
  exact ⟨v, e, by unfold exprV; rw [e]; rfl⟩
end
end Go.Proofs.Ytmalaleinmoihaa
