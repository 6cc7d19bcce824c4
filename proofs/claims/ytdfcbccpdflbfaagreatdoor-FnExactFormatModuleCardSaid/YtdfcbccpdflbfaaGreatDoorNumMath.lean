/-
  Plain facts: the decimal numeral of a number is parsed to it.
-/
import Derived.Test.YtdfcbccpdflbfaaGreatDoorFmtAll
import Derived.Lib.Atoi
import Derived.Lib.AtoiAll
import Derived.Lib.AtoiTie
namespace Go.Proofs.YtdfcbccpdflbfaaGreatDoor
open Go.RowKit

theorem decFrom_snoc (b : UInt8) (d : Nat) (hd : Lib.digitVal b = some d) : ∀ (l : List UInt8) (acc n : Nat), Lib.decFrom acc l = some n → Lib.decFrom acc (l ++ [b]) = some (n * 10 + d)
  | [], acc, n, h => by
    simp only [Lib.decFrom, Option.some.injEq] at h
    subst h
    simp [Lib.decFrom, hd]
  | a :: r, acc, n, h => by
    simp only [Lib.decFrom, List.cons_append] at h ⊢
    cases ha : Lib.digitVal a with
    | none => rw [ha] at h; cases h
    | some e => rw [ha] at h; exact decFrom_snoc b d hd r _ n h
theorem digitVal_of (u : Nat) (h : u < 10) : Lib.digitVal (UInt8.ofNat (48 + u)) = some u := by
  have e : (UInt8.ofNat (48 + u)).toNat = 48 + u := by simp; omega
  unfold Lib.digitVal
  rw [if_pos (by omega), e]
  congr 1
  omega
theorem decFrom_digits (u : Nat) : Lib.decFrom 0 (Lib.decDigits u) = some u := by
  induction u using Nat.strongRecOn with
  | ind u ih =>
    by_cases h : u < 10
    · rw [Lib.decDigits_one h]
      simp only [Lib.decFrom]
      rw [digitVal_of u h]
      simp
    · rw [Lib.decDigits, dif_neg h, decFrom_snoc _ _ (digitVal_of (u % 10) (by omega)) _ _ _ (ih (u / 10) (by omega))]
      congr 1
      omega
theorem decDigits_head (u : Nat) : ∃ b r, Lib.decDigits u = b :: r ∧ 48 ≤ b.toNat ∧ b.toNat ≤ 57 := by
  have h := decFrom_digits u
  cases hl : Lib.decDigits u with
  | nil =>
    have h3 := Lib.decDigits_length u
    have h4 := Lib.nDigits_pos u
    rw [hl, List.length_nil] at h3
    omega
  | cons b r =>
    obtain ⟨d, hd⟩ := Lib.digit_of_decFrom _ _ _ h 0 b (by rw [hl]; rfl)
    have := Lib.digitVal_eq hd
    exact ⟨b, r, rfl, this.1, this.2.1⟩
theorem nd_le : ∀ k v : Nat, v < 10 ^ (k + 1) → Lib.nDigits v ≤ k + 1 := by
  intro k
  induction k with
  | zero => intro v hv; rw [Lib.nDigits_small (by simpa using hv)]; omega
  | succ k ih =>
    intro v hv
    by_cases h9 : v < 10
    · rw [Lib.nDigits_small h9]; omega
    · rw [Lib.nDigits_big h9]
      have := ih (v / 10) (by rw [Nat.pow_succ] at hv; omega)
      omega
theorem atoi_digits (u : Nat) (h : u ≤ 1000000000) : Lib.atoiAll (Lib.decDigits u) = .ok (u : Int) := by
  have hlen : (Lib.decDigits u).length ≤ 18 := by
    rw [Lib.decDigits_length]
    have := nd_le 9 u (by have : (10 : Nat) ^ 10 = 10000000000 := by decide
                          omega)
    omega
  rw [Lib.atoiAll_short _ hlen]
  obtain ⟨b, r, e, h1, h2⟩ := decDigits_head u
  have hd := decFrom_digits u
  rw [e] at hd ⊢
  have hb1 : (b == 45) = false := by rw [beq_eq_false_iff_ne]; rintro rfl; revert h1; decide
  have hb2 : (b == 43) = false := by rw [beq_eq_false_iff_ne]; rintro rfl; revert h1; decide
  simp [Lib.atoi, hb1, hb2, Lib.decNat, hd, Lib.NumEnd.ofOption]
/-- l is the numeral of n, which is in the range. -/
def IsNum (l : List UInt8) (n : Int) : Prop := 0 ≤ n ∧ n ≤ 1000000000 ∧ Lib.itoa n = l
theorem IsNum.atoi {l : List UInt8} {n : Int} (h : IsNum l n) : Lib.atoiAll l = .ok n := by
  obtain ⟨h0, h1, rfl⟩ := h
  obtain ⟨u, rfl⟩ : ∃ u : Nat, n = u := ⟨n.toNat, by omega⟩
  unfold Lib.itoa
  rw [if_neg (by omega), Int.toNat_natCast]
  exact atoi_digits u (by omega)
theorem IsNum.dec {l : List UInt8} {n : Int} (h : IsNum l n) : Lib.decFrom 0 l = some n.toNat := by
  obtain ⟨h0, h1, rfl⟩ := h
  unfold Lib.itoa
  rw [if_neg (by omega)]
  exact decFrom_digits _
theorem IsNum.len {l : List UInt8} {n : Int} (h : IsNum l n) : l.length ≤ 10 := by
  obtain ⟨h0, h1, rfl⟩ := h
  obtain ⟨u, rfl⟩ : ∃ u : Nat, n = u := ⟨n.toNat, by omega⟩
  unfold Lib.itoa
  rw [if_neg (by omega), Int.toNat_natCast, Lib.decDigits_length]
  exact nd_le 9 u (by have : (10 : Nat) ^ 10 = 10000000000 := by decide
                      omega)
/-- What parsing gives: the number and true, or 0 and false. -/
def Parsed (l : List UInt8) (x : Int) (ok : Bool) : Prop := (ok = true ∧ IsNum l x) ∨ (ok = false ∧ x = 0 ∧ ∀ n, ¬ IsNum l n)
theorem IsNum.uniq {l : List UInt8} {m n : Int} (h : IsNum l m) (k : IsNum l n) : m = n := by
  have := h.atoi.symm.trans k.atoi
  injection this
theorem Parsed.uniq {l : List UInt8} {x y : Int} {a b : Bool} (h : Parsed l x a) (k : Parsed l y b) : x = y ∧ a = b := by
  rcases h with ⟨rfl, h⟩ | ⟨rfl, rfl, h⟩ <;> rcases k with ⟨rfl, k⟩ | ⟨rfl, rfl, k⟩
  · exact ⟨h.uniq k, rfl⟩
  · exact absurd h (k _)
  · exact absurd k (h _)
  · exact ⟨rfl, rfl⟩
/-- The post of a parsing function. -/
def ParsedPost (l : List UInt8) (w : World) (e : Ending) (w' : World) : Prop := ∃ x ok, e = .returned (.tuple #[.int .i64 x, .bool ok]) ∧ Parsed l x ok ∧ Below w.heap.size w w'
theorem string_eq_list (s : ByteArray) (l : List UInt8) : (s = ⟨l.toArray⟩) ↔ s.data.toList = l := by
  constructor
  · rintro rfl; rfl
  · intro h; exact bytes_eq (by rw [h])
end Go.Proofs.YtdfcbccpdflbfaaGreatDoor
