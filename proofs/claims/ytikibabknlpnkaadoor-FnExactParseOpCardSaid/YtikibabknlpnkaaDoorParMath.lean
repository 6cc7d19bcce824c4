/-
  Plain facts: which operator a word is the text of.
-/
import Derived.Test.YtikibabknlpnkaaDoorOpTx
import Derived.Lib.IndexMore
import Derived.Lib.IndexBytes
import Derived.Lib.IndexLaws
namespace Go.Proofs.YtikibabknlpnkaaDoor
open Go.RowKit
set_option linter.unusedVariables false
set_option linter.unusedSimpArgs false

theorem itoa_digit {n : Int} (h0 : 0 ≤ n) {x : UInt8} (h : x ∈ Lib.itoa n) : 48 ≤ x.toNat ∧ x.toNat ≤ 57 := by
  obtain ⟨u, rfl⟩ : ∃ u : Nat, n = u := ⟨n.toNat, by omega⟩
  unfold Lib.itoa at h
  rw [if_neg (by omega), Int.toNat_natCast] at h
  obtain ⟨i, hi, rfl⟩ := List.getElem_of_mem h
  obtain ⟨d, hd⟩ := Lib.digit_of_decFrom _ _ _ (decFrom_digits u) i _ (List.getElem?_eq_getElem hi)
  have := Lib.digitVal_eq hd
  exact ⟨this.1, this.2.1⟩
theorem itoa_cons {n : Int} (h0 : 0 ≤ n) : ∃ c r, Lib.itoa n = c :: r := by
  obtain ⟨u, rfl⟩ : ∃ u : Nat, n = u := ⟨n.toNat, by omega⟩
  unfold Lib.itoa
  rw [if_neg (by omega), Int.toNat_natCast]
  obtain ⟨b, r, e, _, _⟩ := decDigits_head u
  exact ⟨b, r, e⟩
theorem itoa_one {n : Int} (h0 : 0 ≤ n) (h1 : n < 10) : Lib.itoa n = [UInt8.ofNat (48 + n.toNat)] := by
  unfold Lib.itoa
  rw [if_neg (by omega)]
  exact Lib.decDigits_one (by omega)
/-- The signs of the operators from 4 to 12. -/
def signL : List UInt8 := [126, 38, 124, 94, 43, 45, 61, 60, 63]
/-- The word l is the text of the valid operator o. -/
def IsOp (o : DOp) (l : List UInt8) : Prop := opB 30 o = true ∧ opTextL o = l
theorem IsOp.cases {k a b : Int} {l : List UInt8} (h : IsOp (k, a, b) l) :
    (k = 0 ∧ 0 ≤ a ∧ a ≤ 15 ∧ b = 0 ∧ l = Lib.itoa a) ∨ (k = 1 ∧ a = 0 ∧ b = 0 ∧ l = [87]) ∨ (k = 2 ∧ 0 ≤ a ∧ a < 30 ∧ b = 0 ∧ l = 115 :: Lib.itoa a) ∨
    (k = 3 ∧ 0 ≤ a ∧ a < 30 ∧ 0 ≤ b ∧ b ≤ 3 ∧ l = 115 :: (Lib.itoa a ++ [46, UInt8.ofNat (48 + b.toNat)])) ∨
    (∃ i : Nat, ∃ c, i < 9 ∧ k = 4 + i ∧ a = 0 ∧ b = 0 ∧ signL[i]? = some c ∧ l = [c]) := by
  obtain ⟨h0, rfl⟩ := h
  rcases opB_kinds h0 with ⟨rfl, h1, h2, rfl⟩ | ⟨rfl, h1, h2, rfl⟩ | ⟨rfl, h1, h2, h3, h4⟩ | ⟨hk, rfl, rfl⟩
  · exact .inl ⟨rfl, h1, h2, rfl, rfl⟩
  · exact .inr (.inr (.inl ⟨rfl, h1, h2, rfl, rfl⟩))
  · refine .inr (.inr (.inr (.inl ⟨rfl, h1, h2, h3, h4, ?_⟩)))
    show 115 :: (Lib.itoa a ++ 46 :: Lib.itoa b) = _
    rw [itoa_one h3 (by omega)]
  · rcases hk with rfl | rfl | rfl | rfl | rfl | rfl | rfl | rfl | rfl | rfl
    · exact .inr (.inl ⟨rfl, rfl, rfl, rfl⟩)
    · exact .inr (.inr (.inr (.inr ⟨0, _, by omega, rfl, rfl, rfl, rfl, rfl⟩)))
    · exact .inr (.inr (.inr (.inr ⟨1, _, by omega, rfl, rfl, rfl, rfl, rfl⟩)))
    · exact .inr (.inr (.inr (.inr ⟨2, _, by omega, rfl, rfl, rfl, rfl, rfl⟩)))
    · exact .inr (.inr (.inr (.inr ⟨3, _, by omega, rfl, rfl, rfl, rfl, rfl⟩)))
    · exact .inr (.inr (.inr (.inr ⟨4, _, by omega, rfl, rfl, rfl, rfl, rfl⟩)))
    · exact .inr (.inr (.inr (.inr ⟨5, _, by omega, rfl, rfl, rfl, rfl, rfl⟩)))
    · exact .inr (.inr (.inr (.inr ⟨6, _, by omega, rfl, rfl, rfl, rfl, rfl⟩)))
    · exact .inr (.inr (.inr (.inr ⟨7, _, by omega, rfl, rfl, rfl, rfl, rfl⟩)))
    · exact .inr (.inr (.inr (.inr ⟨8, _, by omega, rfl, rfl, rfl, rfl, rfl⟩)))
/-- The sign at a place is no digit, no letter. -/
theorem sign_at {i : Nat} {c : UInt8} (h : signL[i]? = some c) : c ≠ 87 ∧ c ≠ 115 ∧ ¬ (48 ≤ c.toNat ∧ c.toNat ≤ 57) ∧ Lib.index signL [c] = i := by
  have hi : i < 9 := by
    rcases Nat.lt_or_ge i 9 with h9 | h9
    · exact h9
    · rw [List.getElem?_eq_none (by simpa [signL] using h9)] at h; cases h
  rcases (by omega : i = 0 ∨ i = 1 ∨ i = 2 ∨ i = 3 ∨ i = 4 ∨ i = 5 ∨ i = 6 ∨ i = 7 ∨ i = 8) with rfl | rfl | rfl | rfl | rfl | rfl | rfl | rfl | rfl
  all_goals
    simp [signL] at h
    subst h
    decide
/-- A candidate for the operator of a word: it is the one if there is one. -/
def Cand (l : List UInt8) (o : DOp) : Prop := ∀ o', IsOp o' l → o = o'
theorem cand_W : Cand [87] (1, 0, 0) := by
  rintro ⟨k, a, b⟩ h
  rcases h.cases with ⟨_, h0, _, _, e⟩ | ⟨rfl, rfl, rfl, _⟩ | ⟨_, h0, _, _, e⟩ | ⟨_, h0, _, _, _, e⟩ | ⟨i, c, _, _, _, _, hc, e⟩
  · have := itoa_digit h0 (x := 87) (by rw [← e]; simp)
    simp at this
  · rfl
  · injection e with e _; exact absurd e (by decide)
  · injection e with e _; exact absurd e (by decide)
  · injection e with e _; exact absurd e.symm (sign_at hc).1
theorem indexByte_no {c : UInt8} : ∀ {l : List UInt8}, (∀ x ∈ l, x ≠ c) → Lib.indexByte l c = -1
  | [], _ => rfl
  | b :: l, h => by
    have hb : (b == c) = false := by rw [beq_eq_false_iff_ne]; exact h b (by simp)
    have ih := indexByte_no (l := l) (fun x hx => h x (by simp [hx]))
    simp [Lib.indexByte, hb, ih]
theorem indexByte_at {c : UInt8} {r : List UInt8} : ∀ {l : List UInt8}, (∀ x ∈ l, x ≠ c) → Lib.indexByte (l ++ c :: r) c = l.length
  | [], _ => by simp [Lib.indexByte]
  | b :: l, h => by
    have hb : (b == c) = false := by rw [beq_eq_false_iff_ne]; exact h b (by simp)
    have ih := indexByte_at (r := r) (l := l) (fun x hx => h x (by simp [hx]))
    have hne : ((l.length : Int) == -1) = false := by rw [beq_eq_false_iff_ne]; omega
    simp only [List.cons_append, Lib.indexByte, hb, ih, hne]
    simp
theorem dig46 {n : Int} (h0 : 0 ≤ n) : ∀ x ∈ Lib.itoa n, x ≠ 46 := fun x hx e => by have := itoa_digit h0 hx; subst e; simp at this
theorem no46 {n : Int} (h0 : 0 ≤ n) : Lib.indexByte (Lib.itoa n) 46 = -1 := indexByte_no (dig46 h0)
theorem cut46 {n : Int} (h0 : 0 ≤ n) (d : UInt8) : Lib.cut (Lib.itoa n ++ [46, d]) [46] = (Lib.itoa n, [d], true) := by
  have hi : Lib.index (Lib.itoa n ++ [46, d]) [46] = (Lib.itoa n).length := by rw [Lib.index_one]; exact indexByte_at (dig46 h0)
  unfold Lib.cut
  rw [hi, if_pos (by omega)]
  simp [List.take_append, List.drop_append]
/-- A word that begins with 's' and has a period behind it. -/
theorem cand_bit {t : List UInt8} {x y : Int} {p q : Bool} {u v : List UInt8} (hc : Lib.cut t [46] = (u, v, true)) (hx : Parsed u x p) (hy : Parsed v y q) : Cand (115 :: t) (3, x, y) := by
  rintro ⟨k, a, b⟩ h
  have hi : 0 ≤ Lib.index t [46] := by
    unfold Lib.cut at hc
    split at hc
    · assumption
    · injection hc with _ hc; injection hc with _ hc; cases hc
  rcases h.cases with ⟨_, h0, _, _, e⟩ | ⟨rfl, rfl, rfl, e⟩ | ⟨_, h0, _, _, e⟩ | ⟨rfl, h0, h1, h2, h3, e⟩ | ⟨i, c, _, _, _, _, hc, e⟩
  · have := itoa_digit h0 (x := 115) (by rw [← e]; simp)
    simp at this
  · injection e with e _; exact absurd e (by decide)
  · injection e with _ e
    have : Lib.index t [46] = -1 := by
      rw [Lib.index_one, e]
      exact no46 h0
    omega
  · injection e with _ e
    have hcut := cut46 h0 (UInt8.ofNat (48 + b.toNat))
    rw [← e, hc] at hcut
    injection hcut with hu hv
    injection hv with hv _
    have ex : x = a := by
      rcases hx with ⟨_, hx⟩ | ⟨_, _, hx⟩
      · exact hx.uniq ⟨h0, by omega, hu.symm⟩
      · exact absurd ⟨h0, by omega, hu.symm⟩ (hx a)
    have ey : y = b := by
      have hn : IsNum v b := ⟨h2, by omega, by rw [itoa_one h2 (by omega), hv]⟩
      rcases hy with ⟨_, hy⟩ | ⟨_, _, hy⟩
      · exact hy.uniq hn
      · exact absurd hn (hy b)
    rw [ex, ey]
  · injection e with e _; exact absurd e.symm (sign_at hc).2.1
/-- A word that begins with 's' and has no period. -/
theorem cand_sig {t : List UInt8} {x : Int} {p : Bool} (hn : Lib.index t [46] < 0) (hx : Parsed t x p) : Cand (115 :: t) (2, x, 0) := by
  rintro ⟨k, a, b⟩ h
  rcases h.cases with ⟨_, h0, _, _, e⟩ | ⟨rfl, rfl, rfl, e⟩ | ⟨rfl, h0, h1, rfl, e⟩ | ⟨rfl, h0, h1, h2, h3, e⟩ | ⟨i, c, _, _, _, _, hc, e⟩
  · have := itoa_digit h0 (x := 115) (by rw [← e]; simp)
    simp at this
  · injection e with e _; exact absurd e (by decide)
  · injection e with _ e
    rcases hx with ⟨_, hx⟩ | ⟨_, _, hx⟩
    · rw [hx.uniq ⟨h0, by omega, e.symm⟩]
    · exact absurd ⟨h0, by omega, e.symm⟩ (hx a)
  · injection e with _ e
    rw [Lib.index_one, e, indexByte_at (dig46 h0)] at hn
    omega
  · injection e with e _; exact absurd e.symm (sign_at hc).2.1
/-- A word that begins otherwise and lies in the signs. -/
theorem cand_sign {l : List UInt8} (h87 : l ≠ [87]) (h115 : ∀ t, l ≠ 115 :: t) (hi : 0 ≤ Lib.index signL l) : Cand l (4 + Lib.index signL l, 0, 0) := by
  rintro ⟨k, a, b⟩ h
  rcases h.cases with ⟨_, h0, _, _, e⟩ | ⟨rfl, rfl, rfl, e⟩ | ⟨rfl, h0, h1, rfl, e⟩ | ⟨rfl, h0, h1, h2, h3, e⟩ | ⟨i, c, _, rfl, rfl, rfl, hc, e⟩
  · obtain ⟨c, r, hcr⟩ := itoa_cons h0
    have hd := itoa_digit h0 (x := c) (by rw [hcr]; simp)
    rw [e, hcr] at hi
    rw [Lib.index_none (s := signL) (sub := c :: r) (fun j hj => by
      cases ho : Lib.occAt signL (c :: r) j with
      | false => rfl
      | true =>
        have := Lib.occAt_head rfl ho
        exact absurd hd (sign_at this).2.2.1)] at hi
    omega
  · exact absurd e h87
  · exact absurd e (h115 _)
  · exact absurd e (h115 _)
  · subst e; rw [(sign_at hc).2.2.2]
/-- A word that begins otherwise and does not lie in the signs. -/
theorem cand_con {l : List UInt8} {x : Int} {p : Bool} (h87 : l ≠ [87]) (h115 : ∀ t, l ≠ 115 :: t) (hi : ∀ (i : Nat) (c : UInt8), signL[i]? = some c → l ≠ [c]) (hx : Parsed l x p) : Cand l (0, x, 0) := by
  rintro ⟨k, a, b⟩ h
  rcases h.cases with ⟨rfl, h0, h1, rfl, e⟩ | ⟨rfl, rfl, rfl, e⟩ | ⟨rfl, h0, h1, rfl, e⟩ | ⟨rfl, h0, h1, h2, h3, e⟩ | ⟨i, c, _, rfl, rfl, rfl, hc, e⟩
  · rcases hx with ⟨_, hx⟩ | ⟨_, _, hx⟩
    · rw [hx.uniq ⟨h0, by omega, e.symm⟩]
    · exact absurd ⟨h0, by omega, e.symm⟩ (hx a)
  · exact absurd e h87
  · exact absurd e (h115 _)
  · exact absurd e (h115 _)
  · exact absurd e (hi i c hc)
theorem sign_op {i : Nat} {c : UInt8} (h : signL[i]? = some c) : opTextS (4 + i, 0, 0) = tx [c] ∧ opB 30 (4 + i, 0, 0) = true ∧ opTextL (4 + i, 0, 0) = [c] := by
  have hi : i < 9 := by
    rcases Nat.lt_or_ge i 9 with h9 | h9
    · exact h9
    · rw [List.getElem?_eq_none (by simpa [signL] using h9)] at h; cases h
  rcases (by omega : i = 0 ∨ i = 1 ∨ i = 2 ∨ i = 3 ∨ i = 4 ∨ i = 5 ∨ i = 6 ∨ i = 7 ∨ i = 8) with rfl | rfl | rfl | rfl | rfl | rfl | rfl | rfl | rfl
  all_goals
    simp [signL] at h
    subst h
    exact ⟨opTextS_ok rfl, rfl, rfl⟩
theorem itoa_pos {n : Int} (h0 : 0 ≤ n) : 1 ≤ (Lib.itoa n).length := by obtain ⟨c, r, e⟩ := itoa_cons h0; rw [e]; simp
/-- The reference's reading of 's', a number, a period and a figure. -/
theorem cand_bit2 {l : List UInt8} {x y : Int} {d : UInt8} (h0 : l[0]? = some 115) (hl : 3 < l.length) (hp : l[l.length - 2]? = some 46) (hd : l[l.length - 1]? = some d)
    (hx : ∀ n, IsNum ((l.take (l.length - 2)).drop 1) n → x = n) (hy : y = (d.toNat : Int) - 48) : Cand l (3, x, y) := by
  rintro ⟨k, a, b⟩ h
  rcases h.cases with ⟨_, h1, _, _, e⟩ | ⟨rfl, rfl, rfl, e⟩ | ⟨_, h1, _, _, e⟩ | ⟨rfl, h1, h2, h3, h4, e⟩ | ⟨i, c, _, _, _, _, hc, e⟩
  · have := itoa_digit h1 (x := 115) (by rw [← e]; exact List.mem_of_getElem? h0)
    simp at this
  · subst e; simp at h0
  · subst e
    rw [List.getElem?_cons, if_neg (by omega)] at hp
    have := itoa_digit h1 (x := 46) (List.mem_of_getElem? hp)
    simp at this
  · have hn : l.length = (Lib.itoa a).length + 3 := by rw [e]; simp
    have e2 : (l.take (l.length - 2)).drop 1 = Lib.itoa a := by
      rw [hn, e]
      simp [List.take_append]
    have e3 : d = UInt8.ofNat (48 + b.toNat) := by
      rw [hn, e, show (Lib.itoa a).length + 3 - 1 = ((Lib.itoa a).length + 1) + 1 from by omega] at hd
      rw [List.getElem?_cons_succ, List.getElem?_append_right (by omega)] at hd
      rw [show (Lib.itoa a).length + 1 - (Lib.itoa a).length = 1 from by omega] at hd
      exact (Option.some.inj hd).symm
    have hb : b = y := by
      subst e3
      rw [hy]
      have : (UInt8.ofNat (48 + b.toNat)).toNat = 48 + b.toNat := by simp; omega
      omega
    rw [hx a (by rw [e2]; exact ⟨h1, by omega, rfl⟩), hb]
  · subst e; simp at hl
theorem cand_sig2 {l : List UInt8} {x : Int} (h0 : l[0]? = some 115) (hl : ¬ (3 < l.length ∧ l[l.length - 2]? = some 46))
    (hx : ∀ n, IsNum (l.drop 1) n → x = n) : Cand l (2, x, 0) := by
  rintro ⟨k, a, b⟩ h
  rcases h.cases with ⟨_, h1, _, _, e⟩ | ⟨rfl, rfl, rfl, e⟩ | ⟨rfl, h1, h2, rfl, e⟩ | ⟨rfl, h1, h2, h3, h4, e⟩ | ⟨i, c, _, _, _, _, hc, e⟩
  · have := itoa_digit h1 (x := 115) (by rw [← e]; exact List.mem_of_getElem? h0)
    simp at this
  · subst e; simp at h0
  · rw [hx a (by rw [e]; exact ⟨h1, by omega, rfl⟩)]
  · have hn : l.length = (Lib.itoa a).length + 3 := by rw [e]; simp
    have := itoa_pos h1
    refine absurd ⟨by omega, ?_⟩ hl
    rw [hn, e, show (Lib.itoa a).length + 3 - 2 = (Lib.itoa a).length + 1 from by omega, List.getElem?_cons_succ, List.getElem?_append_right (by omega)]
    simp
  · subst e
    simp at h0
    exact absurd h0 (sign_at hc).2.1
theorem no_num_nil {n : Int} : ¬ IsNum [] n := fun h => by have := itoa_pos h.1; rw [h.2.2] at this; simp at this
theorem no_sign {l : List UInt8} (h : Lib.index signL l < 0) (i : Nat) (c : UInt8) (hc : signL[i]? = some c) : l ≠ [c] := by
  rintro rfl
  rw [(sign_at hc).2.2.2] at h
  omega
/-- What the reference and the program give for a word. -/
def ParsedOp (l : List UInt8) (o : DOp) (ok : Bool) : Prop := (ok = true ∧ IsOp o l) ∨ (ok = false ∧ o = (0, 0, 0) ∧ ∀ o', ¬ IsOp o' l)
theorem ParsedOp.uniq {l : List UInt8} {o o' : DOp} {p p' : Bool} (h : ParsedOp l o p) (h' : ParsedOp l o' p') (hc : ∃ q, Cand l q) : o = o' ∧ p = p' := by
  obtain ⟨q, hq⟩ := hc
  rcases h with ⟨rfl, h⟩ | ⟨rfl, rfl, h⟩ <;> rcases h' with ⟨rfl, h'⟩ | ⟨rfl, rfl, h'⟩
  · exact ⟨(hq _ h).symm.trans (hq _ h'), rfl⟩
  · exact absurd h (h' _)
  · exact absurd h' (h _)
  · exact ⟨rfl, rfl⟩
end Go.Proofs.YtikibabknlpnkaaDoor
