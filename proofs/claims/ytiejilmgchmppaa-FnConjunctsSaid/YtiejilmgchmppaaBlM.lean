/-
  Balancing: marks of literals as ordered lists; the conjuncts of an AND node.
-/
import Derived.Test.YtiejilmgchmppaaHsA
namespace Go.Proofs.Ytiejilmgchmppaa
open Go.RowKit
set_option linter.unusedVariables false
set_option linter.unusedSimpArgs false

/-- Two strictly ordered lists with the same elements are the same. -/
theorem ord_ext {r : Int → Int → Prop} (hr : ∀ a b, r a b → ¬ r b a) : ∀ {A B : List Int}, A.Pairwise r → B.Pairwise r → (∀ x, x ∈ A ↔ x ∈ B) → A = B
  | [], [], _, _, _ => rfl
  | [], b :: B, _, _, h => absurd ((h b).2 (List.mem_cons_self ..)) (by simp)
  | a :: A, [], _, _, h => absurd ((h a).1 (List.mem_cons_self ..)) (by simp)
  | a :: A, b :: B, hA, hB, h => by
    rw [List.pairwise_cons] at hA hB
    have e : a = b := by
      have h1 := (h a).1 (List.mem_cons_self ..)
      have h2 := (h b).2 (List.mem_cons_self ..)
      rcases List.mem_cons.1 h1 with h1 | h1
      · exact h1
      rcases List.mem_cons.1 h2 with h2 | h2
      · exact h2.symm
      exact absurd (hB.1 a h1) (hr _ _ (hA.1 b h2))
    subst e
    congr 1
    refine ord_ext hr hA.2 hB.2 fun x => ⟨fun hm => ?_, fun hm => ?_⟩
    · rcases List.mem_cons.1 ((h x).1 (List.mem_cons_of_mem _ hm)) with e | e
      · subst e; exact absurd (hA.1 x hm) (hr _ _ (hA.1 x hm))
      · exact e
    · rcases List.mem_cons.1 ((h x).2 (List.mem_cons_of_mem _ hm)) with e | e
      · subst e; exact absurd (hB.1 x hm) (hr _ _ (hB.1 x hm))
      · exact e
theorem asc_ext {A B : List Int} (hA : A.Pairwise (· < ·)) (hB : B.Pairwise (· < ·)) (h : ∀ x, x ∈ A ↔ x ∈ B) : A = B := ord_ext (fun a b h => by omega) hA hB h
theorem cone_mem {M : List Bool} {k : Nat} {x : Int} : x ∈ coneK M k ↔ ∃ i : Nat, x = (i : Int) ∧ i < k ∧ M.getD i false = true := by
  unfold coneK
  simp only [List.mem_map, List.mem_filter, List.mem_range]
  constructor
  · rintro ⟨i, ⟨h1, h2⟩, h3⟩; exact ⟨i, h3.symm, h1, h2⟩
  · rintro ⟨i, h1, h2, h3⟩; exact ⟨i, ⟨h2, h3⟩, h1.symm⟩
theorem cone_nat {M : List Bool} {k i : Nat} : (i : Int) ∈ coneK M k ↔ i < k ∧ M.getD i false = true := by
  rw [cone_mem]
  constructor
  · rintro ⟨j, e, h1, h2⟩; have : i = j := by omega
    subst this; exact ⟨h1, h2⟩
  · rintro ⟨h1, h2⟩; exact ⟨i, rfl, h1, h2⟩
theorem cone_asc (M : List Bool) (k : Nat) : (coneK M k).Pairwise (· < ·) := by
  unfold coneK
  rw [List.pairwise_map]
  exact ((List.pairwise_lt_range (n := k)).filter _).imp fun h => by omega
theorem asc_at {L : List Int} (h : L.Pairwise (· < ·)) {i j : Nat} {x y : Int} (hij : i < j) (hi : L[i]? = some x) (hj : L[j]? = some y) : x < y := by
  obtain ⟨h1, rfl⟩ := List.getElem?_eq_some_iff.1 hi
  obtain ⟨h2, rfl⟩ := List.getElem?_eq_some_iff.1 hj
  exact List.pairwise_iff_getElem.1 h i j h1 h2 hij
/-- The place of x in an ordered list. -/
structure PlaceI (r : Int → Int → Prop) (L : List Int) (x : Int) (p : Nat) : Prop where
  le : p ≤ L.length
  low : ∀ y ∈ L.take p, r y x
  high : ∀ y ∈ L.drop p, ¬ r y x
theorem pw_take_drop {r : Int → Int → Prop} {L : List Int} (h : L.Pairwise r) (p : Nat) : (L.take p).Pairwise r ∧ (L.drop p).Pairwise r ∧ ∀ a ∈ L.take p, ∀ b ∈ L.drop p, r a b := by
  rw [← List.take_append_drop p L] at h
  exact List.pairwise_append.1 h
theorem ins_mem {L : List Int} {x y : Int} {p : Nat} : y ∈ L.take p ++ x :: L.drop p ↔ y = x ∨ y ∈ L := by
  rw [List.mem_append, List.mem_cons]
  conv => rhs; rw [← List.take_append_drop p L, List.mem_append]
  constructor
  · rintro (h | h | h)
    · exact .inr (.inl h)
    · exact .inl h
    · exact .inr (.inr h)
  · rintro (h | h | h)
    · exact .inr (.inl h)
    · exact .inl h
    · exact .inr (.inr h)
theorem ins_pw {r : Int → Int → Prop} (ht : ∀ a b c, r a b → r b c → r a c) (hc : ∀ a b, a ≠ b → ¬ r a b → r b a) {L : List Int} (h : L.Pairwise r) {x : Int} {p : Nat} (hp : PlaceI r L x p) (hx : x ∉ L) : (L.take p ++ x :: L.drop p).Pairwise r := by
  obtain ⟨h1, h2, h3⟩ := pw_take_drop h p
  have hg : ∀ b ∈ L.drop p, r x b := fun b hb => hc b x (fun e => hx (e ▸ List.mem_of_mem_drop hb)) (hp.high b hb)
  refine List.pairwise_append.2 ⟨h1, List.pairwise_cons.2 ⟨hg, h2⟩, fun a ha b hb => ?_⟩
  rcases List.mem_cons.1 hb with e | hb
  · rw [e]; exact hp.low a ha
  · exact h3 a ha b hb
/-- Adding a mark is putting its number in its place. -/
theorem cone_ins {M : List Bool} {k i p : Nat} (hi : i < k) (hM : k ≤ M.length) (hp : PlaceI (· < ·) (coneK M k) (i : Int) p) (hn : (i : Int) ∉ coneK M k) : (coneK M k).take p ++ (i : Int) :: (coneK M k).drop p = coneK (M.set i true) k := by
  refine asc_ext (ins_pw (fun a b c h1 h2 => by omega) (fun a b h1 h2 => by omega) (cone_asc M k) hp hn) (cone_asc _ _) fun x => ?_
  rw [ins_mem]
  constructor
  · rintro (rfl | h)
    · exact cone_nat.2 ⟨hi, by rw [getD_set, if_pos ⟨rfl, by omega⟩]⟩
    · obtain ⟨j, rfl, hj, hm⟩ := cone_mem.1 h
      refine cone_nat.2 ⟨hj, ?_⟩
      rw [getD_set]
      split
      · rfl
      · exact hm
  · intro h
    obtain ⟨j, rfl, hj, hm⟩ := cone_mem.1 h
    rw [getD_set] at hm
    by_cases e : i = j
    · subst e; exact .inl rfl
    · rw [if_neg (fun c => e c.1)] at hm
      exact .inr (cone_nat.2 ⟨hj, hm⟩)
theorem cone_old {M : List Bool} {k i : Nat} (h : (i : Int) ∈ coneK M k) : coneK (M.set i true) k = coneK M k := by
  refine asc_ext (cone_asc _ _) (cone_asc _ _) fun x => ?_
  rw [cone_mem, cone_mem]
  have hi := (cone_nat.1 h).2
  constructor
  · rintro ⟨j, rfl, hj, hm⟩
    refine ⟨j, rfl, hj, ?_⟩
    rw [getD_set] at hm
    split at hm
    · rename_i c; rw [← c.1]; exact hi
    · exact hm
  · rintro ⟨j, rfl, hj, hm⟩
    refine ⟨j, rfl, hj, ?_⟩
    rw [getD_set]
    split
    · rfl
    · exact hm
/-- Removing a mark is removing its number. -/
theorem cone_del {M : List Bool} {k i p : Nat} (hp : PlaceI (· < ·) (coneK M k) (i : Int) p) (hm : (i : Int) ∈ coneK M k) : (coneK M k).take p ++ (coneK M k).drop (p + 1) = coneK (M.set i false) k := by
  have hA := cone_asc M k
  generalize hL : coneK M k = L at hA hp hm
  have hat : L[p]? = some (i : Int) := by
    rw [← List.take_append_drop p L, List.mem_append] at hm
    rcases hm with hm | hm
    · have := hp.low _ hm; omega
    · cases hd : L.drop p with
      | nil => rw [hd] at hm; cases hm
      | cons y R =>
        have hy : L[p]? = some y := by
          have e0 : (L.drop p)[0]? = some y := by rw [hd]; rfl
          rw [List.getElem?_drop, Nat.add_zero] at e0
          exact e0
        rw [hd] at hm
        rcases List.mem_cons.1 hm with e | hm
        · rw [hy, e]
        · obtain ⟨_, h2, _⟩ := pw_take_drop hA p
          rw [hd, List.pairwise_cons] at h2
          have h3 := h2.1 _ hm
          have h4 := hp.high y (by rw [hd]; exact List.mem_cons_self ..)
          omega
  have hlen := (List.getElem?_eq_some_iff.1 hat).1
  have hd : L.drop p = (i : Int) :: L.drop (p + 1) := by
    rw [List.drop_eq_getElem_cons hlen]
    congr 1
    have := (List.getElem?_eq_some_iff.1 hat).2
    exact this
  obtain ⟨h1, h2, h3⟩ := pw_take_drop hA p
  rw [hd, List.pairwise_cons] at h2
  refine asc_ext (List.pairwise_append.2 ⟨h1, h2.2, fun a ha b hb => h3 a ha b (by rw [hd]; exact List.mem_cons_of_mem _ hb)⟩) (cone_asc _ _) fun x => ?_
  have hsplit : x ∈ L ↔ x ∈ L.take p ∨ x = (i : Int) ∨ x ∈ L.drop (p + 1) := by
    conv => lhs; rw [← List.take_append_drop p L, hd, List.mem_append, List.mem_cons]
  rw [List.mem_append]
  constructor
  · intro h
    have hx : x ∈ coneK M k := by rw [hL, hsplit]; rcases h with h | h; exact .inl h; exact .inr (.inr h)
    have hne : x ≠ (i : Int) := by
      rcases h with h | h
      · have := hp.low _ h; omega
      · have := h2.1 _ h; omega
    obtain ⟨j, rfl, hj, hm⟩ := cone_mem.1 hx
    refine cone_nat.2 ⟨hj, ?_⟩
    rw [getD_set, if_neg (fun c => hne (by rw [c.1]))]
    exact hm
  · intro h
    obtain ⟨j, rfl, hj, hmj⟩ := cone_mem.1 h
    rw [getD_set] at hmj
    have hne : j ≠ i := by
      intro e
      subst e
      split at hmj
      · cases hmj
      · rename_i c
        have : ¬ j < M.length := fun h => c ⟨rfl, h⟩
        rw [List.getD_eq_getElem?_getD, List.getElem?_eq_none (by omega)] at hmj
        cases hmj
    rw [if_neg (fun c => hne c.1.symm)] at hmj
    have hx : (j : Int) ∈ L := by rw [← hL]; exact cone_nat.2 ⟨hj, hmj⟩
    rcases hsplit.1 hx with h | h | h
    · exact .inl h
    · omega
    · exact .inr h

/-- The marks of the literals, j AND nodes seen, the first of which is the node itself. -/
def cjK (n : DNet) (t : Nat) : Nat → List Bool
  | 0 => oneL (2 * netN n) (2 * (firN n + t))
  | j + 1 => match n.2.2.1[t - j]? with
    | some a => if (cjK n t j).getD (2 * (firN n + (t - j))) false = true then (((cjK n t j).set (2 * (firN n + (t - j))) false).set a.1.toNat true).set a.2.toNat true else cjK n t j
    | none => cjK n t j
def cjL (n : DNet) (t : Nat) : List Int := coneK (cjK n t (t + 1)) (2 * netN n)
def conjO (n : DNet) (v : Int) : List Int := if netB n = true ∧ (firN n : Int) ≤ v ∧ v < (netN n : Int) then cjL n (v.toNat - firN n) else []
theorem cjK_len (n : DNet) (t : Nat) : ∀ j, (cjK n t j).length = 2 * netN n
  | 0 => by unfold cjK oneL; simp
  | j + 1 => by
    unfold cjK
    split
    · split
      · rw [List.length_set, List.length_set, List.length_set]; exact cjK_len n t j
      · exact cjK_len n t j
    · exact cjK_len n t j
theorem cjK_yes {n : DNet} {t j p q : Nat} (h : n.2.2.1[t - j]? = some ((p : Int), (q : Int))) (hm : (cjK n t j).getD (2 * (firN n + (t - j))) false = true) : cjK n t (j + 1) = (((cjK n t j).set (2 * (firN n + (t - j))) false).set p true).set q true := by
  conv => lhs; unfold cjK
  rw [h]
  dsimp only
  rw [if_pos hm]
  rfl
theorem cjK_no {n : DNet} {t j : Nat} (hm : (cjK n t j).getD (2 * (firN n + (t - j))) false = false) : cjK n t (j + 1) = cjK n t j := by
  conv => lhs; unfold cjK
  split
  · rw [if_neg (by rw [hm]; decide)]
  · rfl
theorem oneL_get {N k i : Nat} (hk : k < N) : (oneL N k).getD i false = decide (i = k) := by
  unfold oneL
  rw [getD_set, List.length_replicate]
  by_cases e : k = i
  · subst e; rw [if_pos ⟨rfl, hk⟩]; simp
  · rw [if_neg (fun c => e c.1), List.getD_eq_getElem?_getD, List.getElem?_replicate]
    have : ¬ i = k := fun c => e c.symm
    rw [decide_eq_false this]
    split <;> rfl
theorem set_ne {L : List Bool} {i j : Nat} {v : Bool} (h : i ≠ j) : (L.set i v).getD j false = L.getD j false := by rw [getD_set, if_neg (fun c => h c.1)]
theorem set_eq {L : List Bool} {i : Nat} {v : Bool} (h : i < L.length) : (L.set i v).getD i false = v := by rw [getD_set, if_pos ⟨rfl, h⟩]
/-- The weight of the marks. -/
def wS (f : Nat → Nat) (M : List Bool) : Nat → Nat
  | 0 => 0
  | k + 1 => wS f M k + if M.getD k false then f k else 0
theorem wS_far (f : Nat → Nat) (M : List Bool) {i : Nat} (b : Bool) : ∀ k, k ≤ i → wS f (M.set i b) k = wS f M k
  | 0, _ => rfl
  | k + 1, h => by
    unfold wS
    rw [wS_far f M b k (by omega), set_ne (by omega)]
theorem wS_true (f : Nat → Nat) (M : List Bool) {i : Nat} : ∀ k, wS f (M.set i true) k ≤ wS f M k + f i
  | 0 => by unfold wS; omega
  | k + 1 => by
    unfold wS
    by_cases e : i = k
    · subst e
      rw [wS_far f M true i (Nat.le_refl _)]
      split <;> split <;> omega
    · rw [set_ne e]
      have := wS_true f M (i := i) k
      omega
theorem wS_false (f : Nat → Nat) (M : List Bool) {i : Nat} (hi : M.getD i false = true) : ∀ k, i < k → wS f (M.set i false) k + f i = wS f M k
  | 0, h => by omega
  | k + 1, h => by
    have hil : i < M.length := by
      by_cases c : i < M.length
      · exact c
      · rw [List.getD_eq_getElem?_getD, List.getElem?_eq_none (by omega)] at hi; cases hi
    unfold wS
    by_cases e : i = k
    · subst e
      rw [wS_far f M false i (Nat.le_refl _), set_eq hil, hi]
      simp
    · have := wS_false f M hi k (by omega)
      rw [set_ne e]
      omega
theorem wS_one (f : Nat → Nat) {N i : Nat} (hi : i < N) : ∀ k, wS f (oneL N i) k = if i < k then f i else 0
  | 0 => by unfold wS; simp
  | k + 1 => by
    unfold wS
    rw [wS_one f hi k, oneL_get hi]
    by_cases e : k = i
    · subst e; simp
    · rw [decide_eq_false e]
      by_cases h : i < k
      · have h2 : i < k + 1 := by omega
        simp [h, h2]
      · have h2 : ¬ i < k + 1 := by omega
        simp [h, h2]
/-- 2 to the level of the node of a literal. -/
def wt (n : DNet) (l : Nat) : Nat := 2 ^ (lev n (l / 2)).toNat
/-- What the marks are like. -/
structure CInv (n : DNet) (t j : Nat) (M : List Bool) : Prop where
  len : M.length = 2 * netN n
  top : ∀ l, M.getD l false = true → l / 2 ≤ firN n + t
  low : ∀ l, M.getD l false = true → l / 2 < firN n + t ∨ (j = 0 ∧ l = 2 * (firN n + t))
  odd : ∀ i, t + 1 - j ≤ i → M.getD (2 * (firN n + i)) false = false
  some_ : ∃ l, M.getD l false = true
  val : ∀ (st : List Int) (x : Int), st.length = n.2.1.length → ((∀ l, M.getD l false = true → bitV (allV n st x) l = 1) ↔ (allV n st x).getD (firN n + t) 0 = 1)
  lev : wS (wt n) M (2 * netN n) ≤ 2 ^ (Go.Proofs.Ytiejilmgchmppaa.lev n (firN n + t)).toNat
theorem cinv_zero {n : DNet} (hP : NetP n) {t : Nat} (ht : t < n.2.2.1.length) : CInv n t 0 (cjK n t 0) := by
  have hN : 2 * (firN n + t) < 2 * netN n := by unfold netN; omega
  have e : cjK n t 0 = oneL (2 * netN n) (2 * (firN n + t)) := rfl
  rw [e]
  refine ⟨by rw [← e]; exact cjK_len n t 0, fun l hl => ?_, fun l hl => .inr ⟨rfl, by rw [oneL_get hN] at hl; exact of_decide_eq_true hl⟩, fun i hi => ?_, ⟨2 * (firN n + t), by rw [oneL_get hN]; simp⟩, fun st x hl => ?_, ?_⟩
  · rw [oneL_get hN] at hl
    have := of_decide_eq_true hl
    omega
  · rw [oneL_get hN]
    exact decide_eq_false (by omega)
  · have hb := bit_even (allV_01 (st := st) x hP hl (firN n + t))
    constructor
    · intro h
      rw [← hb]
      exact h _ (by rw [oneL_get hN]; simp)
    · intro h l hm
      rw [oneL_get hN] at hm
      have := of_decide_eq_true hm
      rw [this, hb, h]
  · rw [wS_one _ hN, if_pos hN]
    unfold wt
    rw [show 2 * (firN n + t) / 2 = firN n + t by omega]
    exact Nat.le_refl _
theorem lev_nat {n : DNet} (hP : NetP n) {k p q : Nat} (h : n.2.2.1[k]? = some ((p : Int), (q : Int))) : wt n p + wt n q ≤ 2 ^ (lev n (firN n + k)).toNat := by
  have e := lev_and hP h
  have h1 := lev_pos n (p / 2)
  have h2 := lev_pos n (q / 2)
  unfold wt
  obtain ⟨a, ha⟩ : ∃ a, (lev n (p / 2)).toNat = a := ⟨_, rfl⟩
  obtain ⟨b, hb⟩ : ∃ b, (lev n (q / 2)).toNat = b := ⟨_, rfl⟩
  have e2 : (lev n (firN n + k)).toNat = max a b + 1 := by omega
  rw [ha, hb, e2, Nat.pow_succ]
  have h3 := Nat.pow_le_pow_right (show 2 > 0 by omega) (Nat.le_max_left a b)
  have h4 := Nat.pow_le_pow_right (show 2 > 0 by omega) (Nat.le_max_right a b)
  omega
theorem cinv_step {n : DNet} (hP : NetP n) {t j : Nat} (ht : t < n.2.2.1.length) (hj : j ≤ t) (h : CInv n t j (cjK n t j)) : CInv n t (j + 1) (cjK n t (j + 1)) := by
  obtain ⟨a, ha⟩ : ∃ a, n.2.2.1[t - j]? = some a := ⟨_, List.getElem?_eq_getElem (by omega)⟩
  obtain ⟨p, q, rfl, hp, hq⟩ := hP.and_ _ a ha
  have hN : firN n + t < netN n := by unfold netN; omega
  cases hm : (cjK n t j).getD (2 * (firN n + (t - j))) false with
  | false =>
    rw [cjK_no hm]
    refine ⟨h.len, h.top, fun l hl => ?_, fun i hi => ?_, h.some_, h.val, h.lev⟩
    · rcases h.low l hl with c | ⟨c1, c2⟩
      · exact .inl c
      · subst c1
        have hm2 : (cjK n t 0).getD (2 * (firN n + t)) false = false := hm
        rw [c2, hm2] at hl
        cases hl
    by_cases e : i = t - j
    · rw [e]; exact hm
    · exact h.odd i (by omega)
  | true =>
    have hl := h.len
    have htop := h.top _ hm
    obtain ⟨M, hM⟩ : ∃ M, cjK n t j = M := ⟨_, rfl⟩
    obtain ⟨z, hz⟩ : ∃ z, 2 * (firN n + (t - j)) = z := ⟨_, rfl⟩
    have hzN : z < 2 * netN n := by omega
    have hpN : p < 2 * netN n := by omega
    have hqN : q < 2 * netN n := by omega
    have hpz : p ≠ z := by omega
    have hqz : q ≠ z := by omega
    rw [cjK_yes ha hm]
    rw [hM, hz] at hm ⊢
    rw [hM] at h hl
    have key : ∀ l, (((M.set z false).set p true).set q true).getD l false = if l = p ∨ l = q then true else if l = z then false else M.getD l false := fun l => by
      rw [getD_set, getD_set, getD_set]
      simp only [List.length_set, hl]
      by_cases c1 : q = l
      · subst c1; rw [if_pos ⟨rfl, hqN⟩, if_pos (.inr rfl)]
      · rw [if_neg (fun c => c1 c.1)]
        by_cases c2 : p = l
        · subst c2; rw [if_pos ⟨rfl, hpN⟩, if_pos (.inl rfl)]
        · have c12 : ¬ (l = p ∨ l = q) := by omega
          rw [if_neg (fun c => c2 c.1), if_neg c12]
          by_cases c3 : l = z
          · have c4 : z = l ∧ l < 2 * netN n := ⟨c3.symm, by omega⟩
            rw [if_pos c4, if_pos c3]
          · have c4 : ¬ (z = l ∧ l < 2 * netN n) := fun c => c3 c.1.symm
            rw [if_neg c4, if_neg c3]
    refine ⟨by rw [List.length_set, List.length_set, List.length_set]; exact hl, fun l hlm => ?_, fun l hlm => ?_, fun i hi => ?_, ⟨q, by rw [key, if_pos (.inr rfl)]⟩, fun st x hst => ?_, ?_⟩
    · rw [key] at hlm
      split at hlm
      · rename_i c; omega
      · split at hlm
        · cases hlm
        · exact h.top l hlm
    · rw [key] at hlm
      split at hlm
      · rename_i c; exact .inl (by omega)
      · split at hlm
        · cases hlm
        · rename_i c
          rcases h.low l hlm with c2 | ⟨c1, c2⟩
          · exact .inl c2
          · exact absurd (show l = z by rw [c2, ← hz, c1, Nat.sub_zero]) c
    · rw [key, if_neg (by omega)]
      by_cases e : i = t - j
      · rw [if_pos (by omega)]
      · rw [if_neg (by omega)]
        exact h.odd i (by omega)
    · have hv := and_val (st := st) x hP hst ha
      have hb := bit_even (allV_01 (st := st) x hP hst (firN n + (t - j)))
      rw [hz, hv] at hb
      rw [← h.val st x hst]
      have b1 := bitV_in (allV n st x) p
      have b2 := bitV_in (allV n st x) q
      have m1 : bitV (allV n st x) p = 1 ∧ bitV (allV n st x) q = 1 ↔ bitV (allV n st x) z = 1 := by
        rw [hb]
        rcases (mul_cases b1 b2).1 with h1 | h1 <;> rcases (mul_cases b1 b2).2 with h2 | h2 <;> rw [h1, h2] <;> decide
      constructor
      · intro hall l hlm
        by_cases e : l = z
        · rw [e, ← m1]
          exact ⟨hall p (by rw [key, if_pos (.inl rfl)]), hall q (by rw [key, if_pos (.inr rfl)])⟩
        · refine hall l ?_
          rw [key]
          split
          · rfl
          · first
            | exact hlm
            | (rw [if_neg e]; exact hlm)
      · intro hall l hlm
        rw [key] at hlm
        have hz1 := m1.2 (hall z hm)
        split at hlm
        · rename_i c
          rcases c with c | c
          · rw [c]; exact hz1.1
          · rw [c]; exact hz1.2
        · split at hlm
          · cases hlm
          · exact hall l hlm
    · have h1 := wS_true (wt n) ((M.set z false).set p true) (i := q) (2 * netN n)
      have h2 := wS_true (wt n) (M.set z false) (i := p) (2 * netN n)
      have h3 := wS_false (wt n) M hm (2 * netN n) hzN
      have h4 := lev_nat hP ha
      have h5 : wt n z = 2 ^ (lev n (firN n + (t - j))).toNat := by unfold wt; rw [show z / 2 = firN n + (t - j) by omega]
      have h6 := h.lev
      omega
theorem cinv_all {n : DNet} (hP : NetP n) {t : Nat} (ht : t < n.2.2.1.length) : ∀ j, j ≤ t + 1 → CInv n t j (cjK n t j)
  | 0, _ => cinv_zero hP ht
  | j + 1, hj => cinv_step hP ht (by omega) (cinv_all hP ht j (by omega))
/-- The conjuncts of AND node t. -/
structure ConjP (n : DNet) (t : Nat) (L : List Int) : Prop where
  asc : L.Pairwise (· < ·)
  lit : ∀ x ∈ L, ∃ l : Nat, x = (l : Int) ∧ l / 2 < firN n + t ∧ (l % 2 = 0 → l / 2 < firN n)
  ne : L ≠ []
  val : ∀ (st : List Int) (x : Int), st.length = n.2.1.length → ((∀ y ∈ L, bitV (allV n st x) y.toNat = 1) ↔ (allV n st x).getD (firN n + t) 0 = 1)
  lev : (L.map fun y => wt n y.toNat).sum ≤ 2 ^ (Go.Proofs.Ytiejilmgchmppaa.lev n (firN n + t)).toNat
theorem cone_sum (f : Nat → Nat) (M : List Bool) : ∀ k, ((coneK M k).map fun y => f y.toNat).sum = wS f M k
  | 0 => rfl
  | k + 1 => by
    have ih := cone_sum f M k
    unfold wS
    cases h : M.getD k false with
    | true => rw [coneK_yes h, List.map_append, List.sum_append, ih]; simp
    | false => rw [coneK_no h, ih]; simp
theorem conj_all {n : DNet} (hP : NetP n) {t : Nat} (ht : t < n.2.2.1.length) : ConjP n t (cjL n t) := by
  have h := cinv_all hP ht (t + 1) (Nat.le_refl _)
  have hN : ∀ l, (cjK n t (t + 1)).getD l false = true → l < 2 * netN n := fun l hl => by
    by_cases c : l < 2 * netN n
    · exact c
    · rw [List.getD_eq_getElem?_getD, List.getElem?_eq_none (by rw [h.len]; omega)] at hl; cases hl
  unfold cjL
  refine ⟨cone_asc _ _, fun x hx => ?_, fun e => ?_, fun st x hl => ?_, ?_⟩
  · obtain ⟨l, rfl, hl, hm⟩ := cone_mem.1 hx
    refine ⟨l, rfl, by rcases h.low l hm with c | c <;> omega, fun h2 => ?_⟩
    by_cases c : l / 2 < firN n
    · exact c
    · have ho := h.odd (l / 2 - firN n) (by omega)
      rw [show 2 * (firN n + (l / 2 - firN n)) = l by omega, hm] at ho
      cases ho
  · obtain ⟨l, hl⟩ := h.some_
    have := cone_nat.2 ⟨hN l hl, hl⟩
    rw [e] at this
    cases this
  · rw [← h.val st x hl]
    constructor
    · intro hall l hm
      have := hall l (cone_nat.2 ⟨hN l hm, hm⟩)
      rwa [Int.toNat_natCast] at this
    · intro hall y hy
      obtain ⟨l, rfl, _, hm⟩ := cone_mem.1 hy
      rw [Int.toNat_natCast]
      exact hall l hm
  · rw [cone_sum]; exact h.lev
end Go.Proofs.Ytiejilmgchmppaa
