/-
  NetP, HsM, HsG, HsH, HsS, HsL, HsD, HsE as one text.
-/
import Derived.Test.YtiejilmgchmppaaNeA
import Derived.Test.YtiejilmgchmppaaNrA
/- NetP: Nets: levels rise along edges; marks spread along edges; the marks of a union are the union of the marks. -/
namespace Go.Proofs.Ytiejilmgchmppaa
open Go.RowKit
set_option linter.unusedVariables false
set_option linter.unusedSimpArgs false

theorem levK_keep (n : DNet) {k j : Nat} (hj : j < firN n + k) : ∀ d, (levK n (k + d)).getD j 0 = (levK n k).getD j 0
  | 0 => rfl
  | d + 1 => by
    have ih := levK_keep n hj d
    rw [← Nat.add_assoc]
    conv => lhs; unfold levK
    split
    · rw [getD_set, if_neg (by omega)]; exact ih
    · exact ih
theorem levK_edge {n : DNet} (hP : NetP n) {k x y : Nat} (h : n.2.2.1[k]? = some ((x : Int), (y : Int))) {A : Nat} (hk : k < A) (hA : firN n + k < netN n) :
    (levK n A).getD (firN n + k) 0 = 1 + max ((levK n A).getD (x / 2) 0) ((levK n A).getD (y / 2) 0) := by
  obtain ⟨x', y', e, hx, hy⟩ := hP.and_ k _ h
  injection e with ex ey
  have ex : x = x' := by omega
  have ey : y = y' := by omega
  subst ex ey
  obtain ⟨d, rfl⟩ : ∃ d, A = k + 1 + d := ⟨A - (k + 1), by omega⟩
  rw [levK_keep n (k := k + 1) (j := firN n + k) (by omega) d, levK_keep n (k := k + 1) (j := x / 2) (by omega) d, levK_keep n (k := k + 1) (j := y / 2) (by omega) d]
  rw [levK_keep n (k := k) (j := x / 2) hx 1, levK_keep n (k := k) (j := y / 2) hy 1]
  rw [← levK_step h rfl rfl, getD_set, if_pos ⟨rfl, by rw [levK_len]; exact hA⟩]
theorem getD_ext {A B : List Bool} (hl : A.length = B.length) (h : ∀ i, i < A.length → A.getD i false = B.getD i false) : A = B := by
  refine List.ext_getElem hl fun i h1 h2 => ?_
  have := h i h1
  rw [List.getD_eq_getElem?_getD, List.getD_eq_getElem?_getD, List.getElem?_eq_getElem h1, List.getElem?_eq_getElem h2] at this
  exact this
theorem markK_or {n : DNet} {M M1 M2 : List Bool} (hl1 : M1.length = M.length) (hl2 : M2.length = M.length) (h : ∀ i, M.getD i false = (M1.getD i false || M2.getD i false)) :
    ∀ j i, (markK n M j).getD i false = ((markK n M1 j).getD i false || (markK n M2 j).getD i false)
  | 0, i => h i
  | j + 1, i => by
    have ih := markK_or (n := n) hl1 hl2 h j
    have e := ih (firN n + (n.2.2.1.length - 1 - j))
    have L0 := markK_len n M j
    have L1 := markK_len n M1 j
    have L2 := markK_len n M2 j
    rw [hl1] at L1
    rw [hl2] at L2
    have ia := ih i
    simp only [markK]
    cases hA : n.2.2.1[n.2.2.1.length - 1 - j]? with
    | none => exact ia
    | some a =>
      dsimp only
      rw [e]
      generalize (markK n M j) = Z at *
      generalize (markK n M1 j) = Z1 at *
      generalize (markK n M2 j) = Z2 at *
      by_cases c1 : a.1.toNat / 2 = i ∧ i < M.length <;> by_cases c2 : a.2.toNat / 2 = i ∧ i < M.length <;>
        cases h1 : Z1.getD (firN n + (n.2.2.1.length - 1 - j)) false <;> cases h2 : Z2.getD (firN n + (n.2.2.1.length - 1 - j)) false <;>
        simp only [Bool.or_false, Bool.or_true, Bool.or_self, Bool.false_eq_true, if_true, if_false, getD_set, List.length_set, L0, L1, L2, c1, c2, and_self, ia, Bool.true_or, ite_self]
theorem markK_mono {n : DNet} {M : List Bool} {i : Nat} {j : Nat} (h : (markK n M j).getD i false = true) : ∀ d, (markK n M (j + d)).getD i false = true
  | 0 => h
  | d + 1 => by
    have ih := markK_mono h d
    rw [← Nat.add_assoc]
    unfold markK
    split
    · split
      · rw [getD_set, getD_set]
        split
        · rfl
        · split
          · rfl
          · exact ih
      · exact ih
    · exact ih
theorem markK_far {n : DNet} (hP : NetP n) {M : List Bool} {p : Nat} {j : Nat} (hp : firN n + (n.2.2.1.length - 1 - j) ≤ p) : ∀ d, (markK n M (j + d)).getD p false = (markK n M j).getD p false
  | 0 => rfl
  | d + 1 => by
    have ih := markK_far (M := M) hP hp d
    rw [← Nat.add_assoc]
    conv => lhs; unfold markK
    split
    · rename_i a ha
      obtain ⟨x, y, rfl, hx, hy⟩ := hP.and_ _ _ ha
      split
      · simp only [Int.toNat_natCast]
        rw [getD_set, getD_set, if_neg (by omega), if_neg (by omega)]
        exact ih
      · exact ih
    · exact ih
theorem markL_edge {n : DNet} (hP : NetP n) {M : List Bool} (hM : M.length = netN n) {k x y : Nat} (h : n.2.2.1[k]? = some ((x : Int), (y : Int))) (hN : firN n + k < netN n) (ht : (markL n M).getD (firN n + k) false = true) :
    (markL n M).getD (x / 2) false = true ∧ (markL n M).getD (y / 2) false = true := by
  have hk := (List.getElem?_eq_some_iff.1 h).1
  obtain ⟨x', y', e, hx, hy⟩ := hP.and_ k _ h
  injection e with ex ey
  have ex : x = x' := by omega
  have ey : y = y' := by omega
  subst ex ey
  unfold markL at ht ⊢
  obtain ⟨j, hj⟩ : ∃ j, n.2.2.1.length = j + 1 + k := ⟨n.2.2.1.length - 1 - k, by omega⟩
  have hjk : n.2.2.1.length - 1 - j = k := by omega
  have e1 : n.2.2.1.length = j + (1 + k) := by omega
  have h0 : (markK n M j).getD (firN n + k) false = true := by
    rw [← markK_far hP (p := firN n + k) (j := j) (by omega) (1 + k), ← e1]; exact ht
  have h1 : (markK n M (j + 1)).getD (x / 2) false = true ∧ (markK n M (j + 1)).getD (y / 2) false = true := by
    unfold markK
    rw [hjk, h]
    dsimp only
    rw [if_pos h0]
    simp only [Int.toNat_natCast]
    constructor
    · rw [getD_set]
      split
      · rfl
      · rw [getD_set, if_pos ⟨rfl, by rw [markK_len]; omega⟩]
    · rw [getD_set, if_pos ⟨rfl, by rw [List.length_set, markK_len]; omega⟩]
  rw [hj]
  exact ⟨markK_mono h1.1 k, markK_mono h1.2 k⟩
/-- The marks M and those of the list L. -/
def orL (M : List Bool) (L : List Int) : List Bool := L.foldl (fun M r => M.set r.toNat true) M
theorem orL_len (M : List Bool) (L : List Int) : (orL M L).length = M.length := by
  unfold orL
  induction L generalizing M with
  | nil => rfl
  | cons r L ih => rw [List.foldl_cons, ih, List.length_set]
theorem orL_step {M : List Bool} {L : List Int} {k x : Nat} (h : L[k]? = some (x : Int)) : orL M (L.take (k + 1)) = (orL M (L.take k)).set x true := by
  unfold orL
  rw [List.take_add_one, h, List.foldl_append]
  simp
theorem orL_get (M : List Bool) (L : List Int) (t : Nat) (ht : t < M.length) (hL : ∀ x ∈ L, 0 ≤ x) : (orL M L).getD t false = (M.getD t false || decide ((t : Int) ∈ L)) := by
  unfold orL
  induction L generalizing M with
  | nil => simp
  | cons r L ih =>
    rw [List.foldl_cons, ih _ (by rw [List.length_set]; exact ht) (fun x hx => hL x (List.mem_cons_of_mem _ hx)), getD_set]
    have hr := hL r (List.mem_cons_self ..)
    by_cases e : r.toNat = t
    · have e2 : (t : Int) = r := by omega
      rw [if_pos ⟨e, ht⟩, decide_eq_true (by rw [e2]; exact List.mem_cons_self .. : (t : Int) ∈ r :: L)]
      simp
    · have e2 : ¬ (t : Int) = r := by omega
      rw [if_neg (fun h => e h.1)]
      simp [e2]
theorem mem_coneK {M : List Bool} {k t : Nat} : (t : Int) ∈ coneK M k ↔ t < k ∧ M.getD t false = true := by
  unfold coneK
  rw [List.mem_map]
  constructor
  · rintro ⟨i, hi, e⟩
    have e2 : i = t := by omega
    subst e2
    rw [List.mem_filter, List.mem_range] at hi
    exact hi
  · intro h
    exact ⟨t, by rw [List.mem_filter, List.mem_range]; exact h, rfl⟩
theorem coneK_at {M : List Bool} {k : Nat} {v : Int} (h : v ∈ coneK M k) : ∃ t : Nat, v = (t : Int) ∧ t < k := by
  unfold coneK at h
  rw [List.mem_map] at h
  obtain ⟨i, hi, e⟩ := h
  exact ⟨i, e.symm, List.mem_range.1 (List.mem_filter.1 hi).1⟩
/-- One more root: its cone is added. -/
theorem markL_root {n : DNet} {R : List Int} {k x : Nat} (h : R[k]? = some (x : Int)) : orL (markL n (seenL (netN n) (R.take k))) (coneK (markL n (oneL (netN n) (x / 2))) (netN n)) = markL n (seenL (netN n) (R.take (k + 1))) := by
  have l0 : (seenL (netN n) (R.take (k + 1))).length = netN n := seenL_len _ _
  have l1 : (seenL (netN n) (R.take k)).length = netN n := seenL_len _ _
  have l2 : (oneL (netN n) (x / 2)).length = netN n := by unfold oneL; simp
  have hor := markK_or (n := n) (M := seenL (netN n) (R.take (k + 1))) (M1 := seenL (netN n) (R.take k)) (M2 := oneL (netN n) (x / 2)) (by rw [l0, l1]) (by rw [l0, l2]) (fun i => by
    rw [seenL_step h, getD_set, l1]
    unfold oneL
    rw [getD_set, List.length_replicate]
    have hz : (List.replicate (netN n) false).getD i false = false := by
      rw [List.getD_eq_getElem?_getD, List.getElem?_replicate]; split <;> rfl
    rw [hz]
    split <;> simp) n.2.2.1.length
  refine getD_ext (by rw [orL_len]; unfold markL; rw [markK_len, markK_len, l0, l1]) fun t ht => ?_
  have htN : t < netN n := by rw [orL_len] at ht; unfold markL at ht; rw [markK_len, l1] at ht; exact ht
  have htM : t < (markL n (seenL (netN n) (R.take k))).length := by unfold markL; rw [markK_len, l1]; exact htN
  rw [orL_get _ _ t htM (fun v hv => by obtain ⟨t, e, _⟩ := coneK_at hv; omega)]
  unfold markL at hor ⊢
  rw [hor t]
  congr 1
  cases hb : (markK n (oneL (netN n) (x / 2)) n.2.2.1.length).getD t false with
  | true => exact decide_eq_true (mem_coneK.2 ⟨htN, hb⟩)
  | false => exact decide_eq_false fun hm => by have := (mem_coneK.1 hm).2; rw [hb] at this; cases this
theorem markL_nil (n : DNet) : markL n (seenL (netN n) ([] : List Int)) = List.replicate (netN n) false := by
  have hz : ∀ i, (List.replicate (netN n) false).getD i false = false := fun i => by
    rw [List.getD_eq_getElem?_getD, List.getElem?_replicate]; split <;> rfl
  suffices ∀ j, markK n (List.replicate (netN n) false) j = List.replicate (netN n) false from this _
  intro j
  induction j with
  | zero => rfl
  | succ j ih =>
    unfold markK
    split
    · rw [ih, hz]; rfl
    · exact ih
end Go.Proofs.Ytiejilmgchmppaa
/- HsM: Structural hashing: gates as pure functions, and what they compute. -/
namespace Go.Proofs.Ytiejilmgchmppaa
open Go.RowKit
set_option linter.unusedVariables false
set_option linter.unusedSimpArgs false

/-- The complement of a literal; what is no literal stays none. -/
def notI (a : Int) : Int := if a < 0 then -2 else if a % 2 = 0 then a + 1 else a - 1
theorem notI_nat (p : Nat) : ∃ q : Nat, notI (p : Int) = (q : Int) ∧ q / 2 = p / 2 ∧ q % 2 = 1 - p % 2 := by
  unfold notI
  rw [if_neg (by omega)]
  by_cases h : p % 2 = 0
  · rw [if_pos (by omega)]; exact ⟨p + 1, by omega, by omega, by omega⟩
  · rw [if_neg (by omega)]; exact ⟨p - 1, by omega, by omega, by omega⟩
theorem notI_neg {a : Int} (h : a < 0) : notI a = -2 := if_pos h
theorem notI_twice (p : Nat) : notI (notI (p : Int)) = (p : Int) := by
  obtain ⟨q, e, h1, h2⟩ := notI_nat p
  obtain ⟨r, e2, h3, h4⟩ := notI_nat q
  rw [e, e2]; omega
/-- The first place of x. -/
def idxG (x : DAnd) : List DAnd → Nat → Option Nat
  | [], _ => none
  | a :: L, k => if a = x then some k else idxG x L (k + 1)
theorem idxG_some {x : DAnd} : ∀ {L : List DAnd} {k i : Nat}, idxG x L k = some i → k ≤ i ∧ L[i - k]? = some x ∧ ∀ j : Nat, k ≤ j → j < i → L[j - k]? ≠ some x
  | [], k, i, h => by cases h
  | a :: L, k, i, h => by
    unfold idxG at h
    split at h
    · rename_i e
      injection h with h
      subst h
      exact ⟨Nat.le_refl _, by rw [Nat.sub_self]; simp [e], fun j h1 h2 => by omega⟩
    · rename_i e
      obtain ⟨h1, h2, h3⟩ := idxG_some h
      refine ⟨by omega, ?_, fun j hj1 hj2 => ?_⟩
      · rw [show i - k = (i - (k + 1)) + 1 by omega, List.getElem?_cons_succ]; exact h2
      · by_cases hjk : j = k
        · subst hjk; rw [Nat.sub_self]; simp; exact e
        · rw [show j - k = (j - (k + 1)) + 1 by omega, List.getElem?_cons_succ]; exact h3 j (by omega) hj2
theorem idxG_none {x : DAnd} : ∀ {L : List DAnd} {k : Nat}, idxG x L k = none → ∀ j : Nat, L[j]? ≠ some x
  | [], k, _, j => by simp
  | a :: L, k, h, j => by
    unfold idxG at h
    split at h
    · cases h
    · rename_i e
      cases j with
      | zero => simp; exact e
      | succ j => rw [List.getElem?_cons_succ]; exact idxG_none h j
theorem idxG_first {x : DAnd} {L : List DAnd} {i : Nat} (hi : L[i]? = some x) (hf : ∀ j, j < i → L[j]? ≠ some x) : idxG x L 0 = some i := by
  cases h : idxG x L 0 with
  | none => exact absurd hi (idxG_none h i)
  | some q =>
    obtain ⟨_, h2, h3⟩ := idxG_some h
    rw [Nat.sub_zero] at h2
    rcases Nat.lt_trichotomy q i with h4 | h4 | h4
    · exact absurd h2 (hf q h4)
    · rw [h4]
    · exact absurd hi (by have := h3 i (Nat.zero_le _) h4; rwa [Nat.sub_zero] at this)
theorem idxG_miss {x : DAnd} {L : List DAnd} (hf : ∀ j, j < L.length → L[j]? ≠ some x) : idxG x L 0 = none := by
  cases h : idxG x L 0 with
  | none => rfl
  | some q =>
    obtain ⟨_, h2, _⟩ := idxG_some h
    rw [Nat.sub_zero] at h2
    exact absurd h2 (hf q (List.getElem?_eq_some_iff.1 h2).1)
def addN (n : DNet) (x : DAnd) : DNet := (n.1, n.2.1, n.2.2.1 ++ [x], n.2.2.2)
/-- What AddAnd answers. -/
def andO (n : DNet) (a b : Int) : DNet × Int :=
  if ¬ (netB n = true ∧ litB (ncI n) a = true ∧ litB (ncI n) b = true) then (n, -1)
  else if a = 0 ∨ b = 0 ∨ a = notI b then (n, 0)
  else if a = 1 ∨ a = b then (n, b)
  else if b = 1 then (n, a)
  else match idxG (min a b, max a b) n.2.2.1 0 with
    | some i => (n, 2 * ((firN n + i : Nat) : Int))
    | none => if n.2.2.1.length = 300 then (n, -1) else (addN n (min a b, max a b), 2 * (netN n : Int))
def orO (n : DNet) (a b : Int) : DNet × Int := if (andO n (notI a) (notI b)).2 < 0 then (n, -1) else ((andO n (notI a) (notI b)).1, notI (andO n (notI a) (notI b)).2)
def joinO (n m : DNet) (p q : Int) : DNet × Int := if (orO m p q).2 < 0 then (n, -1) else orO m p q
def xorO (n : DNet) (a b : Int) : DNet × Int := joinO n (andO (andO n a (notI b)).1 (notI a) b).1 (andO n a (notI b)).2 (andO (andO n a (notI b)).1 (notI a) b).2
def muxO (n : DNet) (s a b : Int) : DNet × Int :=
  if ¬ (netB n = true ∧ litB (ncI n) s = true ∧ litB (ncI n) a = true ∧ litB (ncI n) b = true) then (n, -1)
  else joinO n (andO (andO n s a).1 (notI s) b).1 (andO n s a).2 (andO (andO n s a).1 (notI s) b).2

theorem lit_nat {e l : Nat} (h : l / 2 < e) : litB (e : Int) (l : Int) = true := decide_eq_true (by rw [tdiv2]; omega)
theorem netB_of {n : DNet} (h : NetP n) : netB n = true := by
  unfold netB
  rw [h.sz.yes, Bool.true_and, Bool.and_eq_true, Bool.and_eq_true]
  refine ⟨List.all_eq_true.2 h.seq, List.all_eq_true.2 fun k hk => ?_, List.all_eq_true.2 fun r hr => ?_⟩
  · have hk := List.mem_range.1 hk
    obtain ⟨a, ha⟩ : ∃ a, n.2.2.1[k]? = some a := ⟨_, List.getElem?_eq_getElem hk⟩
    obtain ⟨x, y, rfl, hx, hy⟩ := h.and_ k a ha
    rw [ha]
    simp only [Option.any_some, andAt, h.sz.fir]
    rw [show ((firN n : Int) + (k : Int)) = ((firN n + k : Nat) : Int) by omega, lit_nat hx, lit_nat hy]; rfl
  · obtain ⟨x, rfl, hx⟩ := h.root r hr
    rw [h.sz.nc]; exact lit_nat hx
/-- m has the inputs, the elements and the outputs of n, and its AND nodes first. -/
structure Ext (n m : DNet) : Prop where
  i : m.1 = n.1
  s : m.2.1 = n.2.1
  o : m.2.2.2 = n.2.2.2
  a : ∃ L, m.2.2.1 = n.2.2.1 ++ L
  net : NetP n → NetP m
theorem Ext.refl (n : DNet) : Ext n n := ⟨rfl, rfl, rfl, ⟨[], by simp⟩, fun h => h⟩
theorem Ext.trans {n m k : DNet} (h : Ext n m) (g : Ext m k) : Ext n k := by
  obtain ⟨L, e⟩ := h.a
  obtain ⟨K, e2⟩ := g.a
  exact ⟨g.i.trans h.i, g.s.trans h.s, g.o.trans h.o, ⟨L ++ K, by rw [e2, e, List.append_assoc]⟩, fun hn => g.net (h.net hn)⟩
theorem Ext.fir {n m : DNet} (h : Ext n m) : firN m = firN n := by unfold firN; rw [h.i, h.s]
theorem Ext.len {n m : DNet} (h : Ext n m) : n.2.2.1.length ≤ m.2.2.1.length := by obtain ⟨L, e⟩ := h.a; rw [e, List.length_append]; omega
theorem Ext.netN {n m : DNet} (h : Ext n m) : netN n ≤ netN m := by unfold Go.Proofs.Ytiejilmgchmppaa.netN; rw [h.fir]; have := h.len; omega
theorem Ext.at {n m : DNet} (h : Ext n m) {k : Nat} (hk : k < n.2.2.1.length) : m.2.2.1[k]? = n.2.2.1[k]? := by
  obtain ⟨L, e⟩ := h.a; rw [e, List.getElem?_append_left hk]
theorem addN_net {n : DNet} {p q : Nat} (hP : NetP n) (hp : p / 2 < netN n) (hq : q / 2 < netN n) (h300 : n.2.2.1.length < 300) : NetP (addN n ((p : Int), (q : Int))) := by
  have hf : firN (addN n ((p : Int), (q : Int))) = firN n := rfl
  have hn : netN (addN n ((p : Int), (q : Int))) = netN n + 1 := by unfold netN addN firN; simp; omega
  refine ⟨⟨hP.sz.i0, hP.sz.i20, hP.sz.s12, by unfold addN; simp; omega, hP.sz.o16⟩, hP.seq, fun k a ha => ?_, fun r hr => ?_⟩
  · rw [hf]
    have ha' : (n.2.2.1 ++ [((p : Int), (q : Int))])[k]? = some a := ha
    by_cases hk : k < n.2.2.1.length
    · rw [List.getElem?_append_left hk] at ha'
      exact hP.and_ k a ha'
    · have hk2 := (List.getElem?_eq_some_iff.1 ha').1
      rw [List.length_append, List.length_singleton] at hk2
      have hke : k = n.2.2.1.length := by omega
      subst hke
      rw [List.getElem?_append_right (Nat.le_refl _), Nat.sub_self] at ha'
      injection ha' with ha'
      refine ⟨p, q, ha'.symm, ?_, ?_⟩
      · unfold netN at hp; exact hp
      · unfold netN at hq; exact hq
  · obtain ⟨x, e, hx⟩ := hP.root r hr
    exact ⟨x, e, by rw [hn]; omega⟩
theorem addN_ext {n : DNet} {p q : Nat} (hp : p / 2 < netN n) (hq : q / 2 < netN n) (h300 : n.2.2.1.length < 300) : Ext n (addN n ((p : Int), (q : Int))) :=
  ⟨rfl, rfl, rfl, ⟨[((p : Int), (q : Int))], rfl⟩, fun h => addN_net h hp hq h300⟩

/-- The values of all nodes. -/
def allV (n : DNet) (st : List Int) (x : Int) : List Int := valA n st x n.2.2.1.length
theorem valA_ext {n m : DNet} (h : Ext n m) (st : List Int) (x : Int) : ∀ k, k ≤ n.2.2.1.length → valA m st x k = valA n st x k
  | 0, _ => by unfold valA; rw [h.i, h.s]
  | k + 1, hk => by
    have ih := valA_ext h st x k (by omega)
    unfold valA
    rw [h.at (by omega), ih]
theorem valA_some {n : DNet} {st : List Int} {x : Int} {k : Nat} {a : DAnd} (h : n.2.2.1[k]? = some a) : valA n st x (k + 1) = valA n st x k ++ [bitV (valA n st x k) a.1.toNat * bitV (valA n st x k) a.2.toNat] := by
  conv => lhs; unfold valA
  rw [h]
theorem valA_none {n : DNet} {st : List Int} {x : Int} {k : Nat} (h : n.2.2.1[k]? = none) : valA n st x (k + 1) = valA n st x k := by
  conv => lhs; unfold valA
  rw [h]
theorem valA_pre (n : DNet) (st : List Int) (x : Int) (k : Nat) : ∀ d, ∃ L, valA n st x (k + d) = valA n st x k ++ L
  | 0 => ⟨[], by simp⟩
  | d + 1 => by
    obtain ⟨L, e⟩ := valA_pre n st x k d
    rw [← Nat.add_assoc]
    cases h : n.2.2.1[k + d]? with
    | none => exact ⟨L, by rw [valA_none h, e]⟩
    | some a => exact ⟨L ++ [_], by rw [valA_some h, ← List.append_assoc, ← e]⟩
theorem valA_len {n : DNet} {st : List Int} (x : Int) (hl : st.length = n.2.1.length) : ∀ k, k ≤ n.2.2.1.length → (valA n st x k).length = firN n + k
  | 0, _ => by unfold valA; rw [regA_len x (by omega)]; unfold firN; omega
  | k + 1, hk => by
    have ih := valA_len x hl k (by omega)
    unfold valA
    rw [List.getElem?_eq_getElem (show k < n.2.2.1.length by omega)]
    simp only [List.length_append, List.length_singleton, ih]
    omega
theorem allV_len {n : DNet} {st : List Int} (x : Int) (hl : st.length = n.2.1.length) : (allV n st x).length = netN n := by unfold allV netN; exact valA_len x hl _ (Nat.le_refl _)
theorem allV_ext {n m : DNet} (h : Ext n m) (st : List Int) (x : Int) : ∃ L, allV m st x = allV n st x ++ L := by
  unfold allV
  obtain ⟨d, hd⟩ : ∃ d, m.2.2.1.length = n.2.2.1.length + d := ⟨m.2.2.1.length - n.2.2.1.length, by have := h.len; omega⟩
  rw [hd]
  obtain ⟨L, e⟩ := valA_pre m st x n.2.2.1.length d
  exact ⟨L, by rw [e, valA_ext h st x _ (Nat.le_refl _)]⟩
theorem bit_ext {n m : DNet} (h : Ext n m) {st : List Int} (x : Int) (hl : st.length = n.2.1.length) {l : Nat} (hn : l / 2 < netN n) : bitV (allV m st x) l = bitV (allV n st x) l := by
  obtain ⟨L, e⟩ := allV_ext h st x
  rw [e, bitV_app _ _ (by rw [allV_len x hl]; exact hn)]
theorem allV_01 {n : DNet} {st : List Int} (x : Int) (hP : NetP n) (hl : st.length = n.2.1.length) (j : Nat) : 0 ≤ (allV n st x).getD j 0 ∧ (allV n st x).getD j 0 ≤ 1 := valA_in x hP hl (Nat.le_refl _) j
theorem allV_zero (n : DNet) (st : List Int) (x : Int) : (allV n st x).getD 0 0 = 0 := by
  unfold allV
  obtain ⟨L, e⟩ := valA_pre n st x 0 n.2.2.1.length
  rw [Nat.zero_add] at e
  rw [e]
  unfold valA regA insA
  rfl
theorem bit_zero (n : DNet) (st : List Int) (x : Int) : bitV (allV n st x) 0 = 0 := by unfold bitV; rw [show 0 / 2 = 0 from rfl, allV_zero]; rfl
theorem bit_one0 (n : DNet) (st : List Int) (x : Int) : bitV (allV n st x) 1 = 1 := by unfold bitV; rw [show 1 / 2 = 0 from rfl, allV_zero]; rfl
theorem bit_not (V : List Int) {p q : Nat} (h1 : q / 2 = p / 2) (h2 : q % 2 = 1 - p % 2) : bitV V q = 1 - bitV V p := by
  unfold bitV; rw [h1]; omega
theorem bit_even {V : List Int} {j : Nat} (h : 0 ≤ V.getD j 0 ∧ V.getD j 0 ≤ 1) : bitV V (2 * j) = V.getD j 0 := by
  unfold bitV; rw [show 2 * j / 2 = j by omega]; omega
/-- The value of an AND node. -/
theorem and_val {n : DNet} {st : List Int} (x : Int) (hP : NetP n) (hl : st.length = n.2.1.length) {k p q : Nat} (ha : n.2.2.1[k]? = some ((p : Int), (q : Int))) : (allV n st x).getD (firN n + k) 0 = bitV (allV n st x) p * bitV (allV n st x) q := by
  have hk := (List.getElem?_eq_some_iff.1 ha).1
  obtain ⟨p', q', e, hp, hq⟩ := hP.and_ k _ ha
  injection e with e1 e2
  have e1 : p = p' := by omega
  have e2 : q = q' := by omega
  subst e1 e2
  have hlk := valA_len x hl k (by omega)
  obtain ⟨d, hd⟩ : ∃ d, n.2.2.1.length = (k + 1) + d := ⟨n.2.2.1.length - (k + 1), by omega⟩
  obtain ⟨L, eL⟩ := valA_pre n st x (k + 1) d
  unfold allV
  rw [hd, eL, valA_step ha, List.append_assoc]
  rw [bitV_app _ _ (by rw [hlk]; exact hp), bitV_app _ _ (by rw [hlk]; exact hq)]
  rw [List.getD_eq_getElem?_getD, List.getElem?_append_right (by omega), hlk, Nat.sub_self]
  rfl
theorem mul_cases {a b : Int} (ha : 0 ≤ a ∧ a ≤ 1) (hb : 0 ≤ b ∧ b ≤ 1) : (a = 0 ∨ a = 1) ∧ (b = 0 ∨ b = 1) := by omega
/-- What a gate gives: an extension, and a literal of it with this value. -/
structure Gate (n : DNet) (r : DNet × Int) (f : List Int → Int) : Prop where
  ext : Ext n r.1
  lit : ∃ z : Nat, r.2 = (z : Int) ∧ z / 2 < netN r.1 ∧ ∀ (st : List Int) (x : Int), st.length = n.2.1.length → bitV (allV r.1 st x) z = f (allV n st x)
theorem min_nat (p q : Nat) : min (p : Int) (q : Int) = ((min p q : Nat) : Int) := by omega
theorem max_nat (p q : Nat) : max (p : Int) (q : Int) = ((max p q : Nat) : Int) := by omega
theorem mul_min_max (V : List Int) (p q : Nat) : bitV V (min p q) * bitV V (max p q) = bitV V p * bitV V q := by
  by_cases h : p ≤ q
  · rw [Nat.min_eq_left h, Nat.max_eq_right h]
  · rw [Nat.min_eq_right (by omega), Nat.max_eq_left (by omega), Int.mul_comm]
theorem andO_gate {n : DNet} {p q : Nat} (hP : NetP n) (hp : p / 2 < netN n) (hq : q / 2 < netN n) (h0 : 0 ≤ (andO n p q).2) : Gate n (andO n p q) fun V => bitV V p * bitV V q := by
  have hv : netB n = true ∧ litB (ncI n) (p : Int) = true ∧ litB (ncI n) (q : Int) = true := ⟨netB_of hP, by rw [hP.sz.nc]; exact lit_nat hp, by rw [hP.sz.nc]; exact lit_nat hq⟩
  have hb := fun (st : List Int) (x : Int) (l : Nat) => bitV_in (allV n st x) l
  revert h0
  unfold andO
  rw [if_neg (by simpa using hv)]
  by_cases c1 : (p : Int) = 0 ∨ (q : Int) = 0 ∨ (p : Int) = notI (q : Int)
  · rw [if_pos c1]
    intro _
    refine ⟨Ext.refl _, 0, rfl, by have := hP.sz.net_le; dsimp only; omega, fun st x hl => ?_⟩
    show bitV (allV n st x) 0 = bitV (allV n st x) p * bitV (allV n st x) q
    rw [bit_zero]
    rcases c1 with c | c | c
    · have : p = 0 := by omega
      rw [this, bit_zero, Int.zero_mul]
    · have : q = 0 := by omega
      rw [this, bit_zero, Int.mul_zero]
    · obtain ⟨r, e, h1, h2⟩ := notI_nat q
      have : p = r := by omega
      subst this
      rw [bit_not _ h1 h2]
      rcases (mul_cases (hb st x q) (hb st x q)).1 with h | h <;> rw [h] <;> rfl
  rw [if_neg c1]
  by_cases c2 : (p : Int) = 1 ∨ (p : Int) = (q : Int)
  · rw [if_pos c2]
    intro _
    refine ⟨Ext.refl _, q, rfl, hq, fun st x hl => ?_⟩
    show bitV (allV n st x) q = bitV (allV n st x) p * bitV (allV n st x) q
    rcases c2 with c | c
    · have : p = 1 := by omega
      rw [this, bit_one0, Int.one_mul]
    · have : p = q := by omega
      rw [this]
      rcases (mul_cases (hb st x q) (hb st x q)).1 with h | h <;> rw [h] <;> rfl
  rw [if_neg c2]
  by_cases c3 : (q : Int) = 1
  · rw [if_pos c3]
    intro _
    refine ⟨Ext.refl _, p, rfl, hp, fun st x hl => ?_⟩
    show bitV (allV n st x) p = bitV (allV n st x) p * bitV (allV n st x) q
    have : q = 1 := by omega
    rw [this, bit_one0, Int.mul_one]
  rw [if_neg c3, min_nat, max_nat]
  cases hi : idxG (((min p q : Nat) : Int), ((max p q : Nat) : Int)) n.2.2.1 0 with
  | some i =>
    obtain ⟨_, h2, _⟩ := idxG_some hi
    rw [Nat.sub_zero] at h2
    have hik := (List.getElem?_eq_some_iff.1 h2).1
    intro _
    refine ⟨Ext.refl _, 2 * (firN n + i), by dsimp only; omega, by dsimp only; unfold netN; omega, fun st x hl => ?_⟩
    show bitV (allV n st x) (2 * (firN n + i)) = bitV (allV n st x) p * bitV (allV n st x) q
    rw [bit_even (allV_01 x hP hl _), and_val x hP hl h2, mul_min_max]
  | none =>
    dsimp only
    by_cases c4 : n.2.2.1.length = 300
    · rw [if_pos c4]
      intro h0
      dsimp only at h0
      omega
    rw [if_neg c4]
    intro _
    have a300 := hP.sz.a300
    have hmn : min p q / 2 < netN n := by omega
    have hmx : max p q / 2 < netN n := by omega
    have hE := addN_ext (n := n) hmn hmx (by omega)
    have hPm := hE.net hP
    refine ⟨hE, 2 * netN n, by dsimp only; omega, by dsimp only; unfold netN addN firN; simp, fun st x hl => ?_⟩
    dsimp only
    have ha : (addN n (((min p q : Nat) : Int), ((max p q : Nat) : Int))).2.2.1[n.2.2.1.length]? = some (((min p q : Nat) : Int), ((max p q : Nat) : Int)) := by unfold addN; simp
    have hvv := and_val (st := st) x hPm (by rw [hE.s]; exact hl) ha
    rw [hE.fir] at hvv
    rw [bit_even (allV_01 x hPm (by rw [hE.s]; exact hl) _)]
    unfold netN
    rw [hvv, bit_ext hE x hl hmn, bit_ext hE x hl hmx, mul_min_max]
end Go.Proofs.Ytiejilmgchmppaa
/- HsG: Structural hashing: the other gates; the copies of a net under construction. -/
namespace Go.Proofs.Ytiejilmgchmppaa
open Go.RowKit
set_option linter.unusedVariables false
set_option linter.unusedSimpArgs false

theorem notI_lit {p e : Nat} (hp : p / 2 < e) : ∃ q : Nat, notI (p : Int) = (q : Int) ∧ q / 2 < e ∧ ∀ V, bitV V q = 1 - bitV V p := by
  obtain ⟨q, e, h1, h2⟩ := notI_nat p
  exact ⟨q, e, by omega, fun V => bit_not V h1 h2⟩
theorem andO_bad {n : DNet} {a b : Int} (h : a < 0 ∨ b < 0) : andO n a b = (n, -1) := by
  unfold andO
  rw [if_pos]
  rintro ⟨_, h1, h2⟩
  have h1 := of_decide_eq_true h1
  have h2 := of_decide_eq_true h2
  omega
/-- The answer of a gate that is no literal is -1, with an unchanged net. -/
theorem andO_none {n : DNet} {a b : Int} (h : (andO n a b).2 < 0) : andO n a b = (n, -1) := by
  revert h
  unfold andO
  by_cases c0 : ¬ (netB n = true ∧ litB (ncI n) a = true ∧ litB (ncI n) b = true)
  · rw [if_pos c0]; intro _; rfl
  rw [if_neg c0]
  have c0 := Decidable.not_not.1 c0
  have h1 := of_decide_eq_true c0.2.1
  have h2 := of_decide_eq_true c0.2.2
  by_cases c1 : a = 0 ∨ b = 0 ∨ a = notI b
  · rw [if_pos c1]; intro h; dsimp only at h; omega
  rw [if_neg c1]
  by_cases c2 : a = 1 ∨ a = b
  · rw [if_pos c2]; intro h; dsimp only at h; omega
  rw [if_neg c2]
  by_cases c3 : b = 1
  · rw [if_pos c3]; intro h; dsimp only at h; omega
  rw [if_neg c3]
  split
  · intro h; dsimp only at h; omega
  · split
    · intro _; rfl
    · intro h; dsimp only at h; omega
theorem andO_room {n : DNet} {p q : Nat} (hP : NetP n) (hp : p / 2 < netN n) (hq : q / 2 < netN n) (h : n.2.2.1.length < 300) : 0 ≤ (andO n p q).2 := by
  unfold andO
  rw [if_neg (fun c => c ⟨netB_of hP, by rw [hP.sz.nc]; exact lit_nat hp, by rw [hP.sz.nc]; exact lit_nat hq⟩)]
  split
  · exact Int.le_refl _
  split
  · dsimp only; omega
  split
  · dsimp only; omega
  split
  · dsimp only; omega
  · rw [if_neg (by omega)]
    dsimp only; omega
theorem andO_len {n : DNet} {a b : Int} : (andO n a b).1.2.2.1.length ≤ n.2.2.1.length + 1 := by
  unfold andO
  split
  · simp
  split
  · simp
  split
  · simp
  split
  · simp
  split
  · simp
  · split
    · simp
    · unfold addN; simp
theorem orO_gate {n : DNet} {p q : Nat} (hP : NetP n) (hp : p / 2 < netN n) (hq : q / 2 < netN n) (h0 : 0 ≤ (orO n p q).2) : Gate n (orO n p q) fun V => 1 - (1 - bitV V p) * (1 - bitV V q) := by
  obtain ⟨p', ep, hp', vp⟩ := notI_lit hp
  obtain ⟨q', eq, hq', vq⟩ := notI_lit hq
  revert h0
  unfold orO
  rw [ep, eq]
  by_cases c : (andO n p' q').2 < 0
  · rw [if_pos c]; intro h; dsimp only at h; omega
  rw [if_neg c]
  intro _
  have hg := andO_gate hP hp' hq' (by omega)
  obtain ⟨z, ez, hz, vz⟩ := hg.lit
  obtain ⟨z', ez', hz', vz'⟩ := notI_lit hz
  refine ⟨hg.ext, z', by dsimp only; rw [ez, ez'], hz', fun st x hl => ?_⟩
  dsimp only
  rw [vz', vz st x hl, vp, vq]
theorem joinO_gate {n m : DNet} {p q : Nat} (hE : Ext n m) (hP : NetP n) (hp : p / 2 < netN m) (hq : q / 2 < netN m) {f g : List Int → Int}
    (hf : ∀ st x, st.length = n.2.1.length → bitV (allV m st x) p = f (allV n st x)) (hg : ∀ st x, st.length = n.2.1.length → bitV (allV m st x) q = g (allV n st x)) (h0 : 0 ≤ (joinO n m p q).2) :
    Gate n (joinO n m p q) fun V => 1 - (1 - f V) * (1 - g V) := by
  revert h0
  unfold joinO
  by_cases c : (orO m p q).2 < 0
  · rw [if_pos c]; intro h; dsimp only at h; omega
  rw [if_neg c]
  intro _
  have hG := orO_gate (hE.net hP) hp hq (by omega)
  obtain ⟨z, ez, hz, vz⟩ := hG.lit
  refine ⟨hE.trans hG.ext, z, ez, hz, fun st x hl => ?_⟩
  rw [vz st x (by rw [hE.s]; exact hl), hf st x hl, hg st x hl]
theorem joinO_neg {n m : DNet} {p q : Int} (h : p < 0 ∨ q < 0) : joinO n m p q = (n, -1) := by
  unfold joinO
  rw [if_pos]
  unfold orO
  rw [if_pos]
  · dsimp only; omega
  rw [andO_bad]
  · dsimp only; omega
  · rcases h with h | h
    · left; rw [notI_neg h]; omega
    · right; rw [notI_neg h]; omega
theorem xorO_gate {n : DNet} {p q : Nat} (hP : NetP n) (hp : p / 2 < netN n) (hq : q / 2 < netN n) (h0 : 0 ≤ (xorO n p q).2) : Gate n (xorO n p q) fun V => 1 - (1 - bitV V p * (1 - bitV V q)) * (1 - (1 - bitV V p) * bitV V q) := by
  obtain ⟨p', ep, hp', vp⟩ := notI_lit hp
  obtain ⟨q', eq, hq', vq⟩ := notI_lit hq
  revert h0
  unfold xorO
  rw [ep, eq]
  by_cases c1 : (andO n p q').2 < 0
  · rw [joinO_neg (.inl c1)]; intro h; dsimp only at h; omega
  have g1 := andO_gate hP hp hq' (by omega)
  obtain ⟨u, eu, hu, vu⟩ := g1.lit
  by_cases c2 : (andO (andO n p q').1 p' q).2 < 0
  · rw [joinO_neg (.inr c2)]; intro h; dsimp only at h; omega
  have hE := g1.ext
  have hN := hE.netN
  have g2 := andO_gate (hE.net hP) (p := p') (q := q) (by omega) (by omega) (by omega)
  obtain ⟨v, ev, hv, vv⟩ := g2.lit
  rw [eu, ev]
  intro h0
  refine joinO_gate (f := fun V => bitV V p * (1 - bitV V q)) (g := fun V => (1 - bitV V p) * bitV V q) (hE.trans g2.ext) hP (by have := g2.ext.netN; omega) hv (fun st x hl => ?_) (fun st x hl => ?_) h0
  · rw [bit_ext g2.ext x (by rw [hE.s]; exact hl) hu, vu st x hl, vq]
  · rw [vv st x (by rw [hE.s]; exact hl), bit_ext hE x hl hp', bit_ext hE x hl hq, vp]
theorem muxO_gate {n : DNet} {s p q : Nat} (hP : NetP n) (hs : s / 2 < netN n) (hp : p / 2 < netN n) (hq : q / 2 < netN n) (h0 : 0 ≤ (muxO n s p q).2) : Gate n (muxO n s p q) fun V => 1 - (1 - bitV V s * bitV V p) * (1 - (1 - bitV V s) * bitV V q) := by
  obtain ⟨s', es, hs', vs⟩ := notI_lit hs
  revert h0
  unfold muxO
  rw [if_neg (fun c => c ⟨netB_of hP, by rw [hP.sz.nc]; exact lit_nat hs, by rw [hP.sz.nc]; exact lit_nat hp, by rw [hP.sz.nc]; exact lit_nat hq⟩), es]
  by_cases c1 : (andO n s p).2 < 0
  · rw [joinO_neg (.inl c1)]; intro h; dsimp only at h; omega
  have g1 := andO_gate hP hs hp (by omega)
  obtain ⟨u, eu, hu, vu⟩ := g1.lit
  by_cases c2 : (andO (andO n s p).1 s' q).2 < 0
  · rw [joinO_neg (.inr c2)]; intro h; dsimp only at h; omega
  have hE := g1.ext
  have hN := hE.netN
  have g2 := andO_gate (hE.net hP) (p := s') (q := q) (by omega) (by omega) (by omega)
  obtain ⟨v, ev, hv, vv⟩ := g2.lit
  rw [eu, ev]
  intro h0
  refine joinO_gate (f := fun V => bitV V s * bitV V p) (g := fun V => (1 - bitV V s) * bitV V q) (hE.trans g2.ext) hP (by have := g2.ext.netN; omega) hv (fun st x hl => ?_) (fun st x hl => ?_) h0
  · rw [bit_ext g2.ext x (by rw [hE.s]; exact hl) hu, vu st x hl]
  · rw [vv st x (by rw [hE.s]; exact hl), bit_ext hE x hl hs', bit_ext hE x hl hq, vs]

/-- The literal of the copy. -/
def mapI (to : List Int) (l : Int) : Int := if l % 2 = 0 then to.getD (l.toNat / 2) 0 else notI (to.getD (l.toNat / 2) 0)
def emptyN (n : DNet) : DNet := (n.1, n.2.1.map (fun s => (s.1, s.2.1, List.replicate s.2.2.length 0)), [], [])
def toK0 (n : DNet) : List Int := (List.range (firN n)).map fun k : Nat => 2 * (k : Int)
/-- The first k AND nodes are added. -/
def hashK (n : DNet) : Nat → DNet × List Int
  | 0 => (emptyN n, toK0 n)
  | k + 1 => match n.2.2.1[k]? with
    | none => hashK n k
    | some a => ((andO (hashK n k).1 (mapI (hashK n k).2 a.1) (mapI (hashK n k).2 a.2)).1, (hashK n k).2 ++ [(andO (hashK n k).1 (mapI (hashK n k).2 a.1) (mapI (hashK n k).2 a.2)).2])
/-- The roots of n, by the literals of the copies, over the AND nodes A. -/
def rootsTo (n : DNet) (A : List DAnd) (to : List Int) : DNet := (n.1, n.2.1.map (fun s => (s.1, s.2.1, s.2.2.map (mapI to))), A, n.2.2.2.map (mapI to))
/-- The AND nodes that are kept, and the literals of the copies. -/
def sweepK (n : DNet) (keep : List Bool) : Nat → List DAnd × List Int
  | 0 => ([], toK0 n)
  | k + 1 => match n.2.2.1[k]? with
    | none => sweepK n keep k
    | some a => if keep.getD (firN n + k) false then ((sweepK n keep k).1 ++ [(mapI (sweepK n keep k).2 a.1, mapI (sweepK n keep k).2 a.2)], (sweepK n keep k).2 ++ [2 * ((firN n + (sweepK n keep k).1.length : Nat) : Int)]) else ((sweepK n keep k).1, (sweepK n keep k).2 ++ [0])
def zeroN : DNet := (0, [], [], [])
def sweepO (n : DNet) : DNet := if netB n then rootsTo n (sweepK n (reachO n) n.2.2.1.length).1 (sweepK n (reachO n) n.2.2.1.length).2 else zeroN
def hashO (n : DNet) : DNet := if netB n then sweepO (rootsTo n (hashK n n.2.2.1.length).1.2.2.1 (hashK n n.2.2.1.length).2) else zeroN
theorem mapI_nat {to : List Int} {l z : Nat} (h : to[l / 2]? = some (z : Int)) : ∃ q : Nat, mapI to (l : Int) = (q : Int) ∧ q / 2 = z / 2 ∧ ∀ V, bitV V q = if l % 2 = 0 then bitV V z else 1 - bitV V z := by
  have e : to.getD ((l : Int).toNat / 2) 0 = (z : Int) := by rw [Int.toNat_natCast, List.getD_eq_getElem?_getD, h]; rfl
  unfold mapI
  rw [e]
  by_cases hl : l % 2 = 0
  · rw [if_pos (by omega)]
    exact ⟨z, rfl, rfl, fun V => by rw [if_pos hl]⟩
  · rw [if_neg (by omega)]
    obtain ⟨q, e2, h1, h2⟩ := notI_nat z
    exact ⟨q, e2, h1, fun V => by rw [if_neg hl]; exact bit_not V h1 h2⟩
/-- The copies have the values of their nodes. -/
theorem mapI_val {to : List Int} {l z : Nat} {V W : List Int} (h : to[l / 2]? = some (z : Int)) (hv : bitV W z = V.getD (l / 2) 0) (h01 : 0 ≤ V.getD (l / 2) 0 ∧ V.getD (l / 2) 0 ≤ 1) {q : Nat} (hq : mapI to (l : Int) = (q : Int)) : bitV W q = bitV V l := by
  obtain ⟨q', e, _, hb⟩ := mapI_nat h
  have : q = q' := by omega
  subst this
  rw [hb W, hv]
  unfold bitV
  by_cases hl : l % 2 = 0
  · rw [if_pos hl]; omega
  · rw [if_neg hl]; omega
end Go.Proofs.Ytiejilmgchmppaa
/- HsH: Structural hashing: the copies under construction, and runs over copied roots. -/
namespace Go.Proofs.Ytiejilmgchmppaa
open Go.RowKit
set_option linter.unusedVariables false
set_option linter.unusedSimpArgs false

theorem toK0_at {n : DNet} {j : Nat} (h : j < firN n) : (toK0 n)[j]? = some (((2 * j : Nat) : Nat) : Int) := by
  unfold toK0
  rw [List.getElem?_map, List.getElem?_range h]
  simp
theorem toK0_len (n : DNet) : (toK0 n).length = firN n := by simp [toK0]
theorem empty_fir (n : DNet) : firN (emptyN n) = firN n := by unfold firN emptyN; simp
theorem empty_net {n : DNet} (h : NetP n) : NetP (emptyN n) := by
  have hf := h.sz.fir_le
  have hN : 1 ≤ netN (emptyN n) := by unfold netN; rw [empty_fir]; omega
  refine ⟨⟨h.sz.i0, h.sz.i20, by unfold emptyN; simp; exact h.sz.s12, by unfold emptyN; simp, by unfold emptyN; simp⟩, fun s hs => ?_, fun k a ha => ?_, fun r hr => ?_⟩
  · obtain ⟨t, ht, rfl⟩ := List.mem_map.1 hs
    have := h.seq t ht
    unfold seqB at this ⊢
    simpa using this
  · unfold emptyN at ha; cases ha
  · unfold rootsL emptyN at hr
    simp only [List.nil_append, List.mem_flatMap, List.mem_map] at hr
    obtain ⟨s, ⟨t, _, rfl⟩, hr⟩ := hr
    have := List.eq_of_mem_replicate hr
    exact ⟨0, by rw [this]; rfl, by omega⟩
theorem getD_pre {A L : List Int} {j : Nat} (h : j < A.length) : (A ++ L).getD j 0 = A.getD j 0 := by
  rw [List.getD_eq_getElem?_getD, List.getD_eq_getElem?_getD, List.getElem?_append_left h]
theorem allV_pre (n : DNet) (st : List Int) (x : Int) {k : Nat} (hk : k ≤ n.2.2.1.length) : ∃ L, allV n st x = valA n st x k ++ L := by
  unfold allV
  obtain ⟨d, hd⟩ : ∃ d, n.2.2.1.length = k + d := ⟨n.2.2.1.length - k, by omega⟩
  rw [hd]; exact valA_pre n st x k d
/-- What the copies are like when k AND nodes are added. -/
structure HInv (n : DNet) (k : Nat) (out : DNet) (to : List Int) : Prop where
  net : NetP out
  i : out.1 = n.1
  s : out.2.1 = (emptyN n).2.1
  o : out.2.2.2 = []
  alen : out.2.2.1.length ≤ k
  tlen : to.length = firN n + k
  lit : ∀ j, j < firN n + k → ∃ z : Nat, to[j]? = some (z : Int) ∧ z / 2 < netN out
  val : ∀ (st : List Int) (x : Int), st.length = n.2.1.length → ∀ (j z : Nat), j < firN n + k → to[j]? = some (z : Int) → bitV (allV out st x) z = (allV n st x).getD j 0
theorem HInv.fir {n : DNet} {k : Nat} {out : DNet} {to : List Int} (h : HInv n k out to) : firN out = firN n := by
  unfold firN; rw [h.i, h.s]; unfold emptyN; simp
theorem HInv.slen {n : DNet} {k : Nat} {out : DNet} {to : List Int} (h : HInv n k out to) : out.2.1.length = n.2.1.length := by rw [h.s]; unfold emptyN; simp
theorem hinv_zero {n : DNet} (h : NetP n) : HInv n 0 (hashK n 0).1 (hashK n 0).2 := by
  have hf := h.sz.fir_le
  refine ⟨empty_net h, rfl, rfl, rfl, by unfold hashK emptyN; simp, by unfold hashK; rw [toK0_len]; rfl, fun j hj => ⟨2 * j, toK0_at (by omega), ?_⟩, fun st x hl j z hj hz => ?_⟩
  · have : firN n ≤ netN (emptyN n) := by unfold netN; rw [empty_fir]; omega
    show 2 * j / 2 < netN (emptyN n)
    omega
  · have hz' : (toK0 n)[j]? = some (z : Int) := hz
    rw [toK0_at (by omega)] at hz'
    injection hz' with hz'
    have : z = 2 * j := by omega
    subst this
    show bitV (allV (emptyN n) st x) (2 * j) = _
    have hle : st.length = (emptyN n).2.1.length := by unfold emptyN; simp; exact hl
    rw [bit_even (allV_01 x (empty_net h) hle j)]
    obtain ⟨L, e⟩ := allV_pre n st x (Nat.zero_le n.2.2.1.length)
    have h0 := valA_len x hl 0 (Nat.zero_le _)
    rw [e, getD_pre (by rw [h0]; exact hj)]
    have e2 : allV (emptyN n) st x = valA n st x 0 := by unfold allV valA emptyN; simp
    rw [e2]
theorem hashK_step {n : DNet} {k : Nat} {a : DAnd} (h : n.2.2.1[k]? = some a) : hashK n (k + 1) = ((andO (hashK n k).1 (mapI (hashK n k).2 a.1) (mapI (hashK n k).2 a.2)).1, (hashK n k).2 ++ [(andO (hashK n k).1 (mapI (hashK n k).2 a.1) (mapI (hashK n k).2 a.2)).2]) := by
  conv => lhs; unfold hashK
  rw [h]
theorem hinv_map {n out : DNet} {to : List Int} {k l : Nat} (h : HInv n k out to) (hP : NetP n) (hk : k ≤ n.2.2.1.length) (hl : l / 2 < firN n + k) : ∃ q : Nat, mapI to (l : Int) = (q : Int) ∧ q / 2 < netN out ∧ ∀ (st : List Int) (x : Int), st.length = n.2.1.length → bitV (allV out st x) q = bitV (allV n st x) l := by
  obtain ⟨z, hz, hzN⟩ := h.lit _ hl
  obtain ⟨q, e, hq, _⟩ := mapI_nat hz
  exact ⟨q, e, by omega, fun st x hs => mapI_val hz (h.val st x hs _ _ hl hz) (allV_01 x hP hs _) e⟩
theorem hinv_step {n : DNet} (hP : NetP n) {k : Nat} (hk : k < n.2.2.1.length) (h : HInv n k (hashK n k).1 (hashK n k).2) : HInv n (k + 1) (hashK n (k + 1)).1 (hashK n (k + 1)).2 := by
  obtain ⟨a, ha⟩ : ∃ a, n.2.2.1[k]? = some a := ⟨_, List.getElem?_eq_getElem hk⟩
  obtain ⟨p, q, rfl, hp, hq⟩ := hP.and_ k a ha
  rw [hashK_step ha]
  have a300 := hP.sz.a300
  have hal := h.alen
  obtain ⟨P, eP, hPN, vP⟩ := hinv_map h hP (by omega) hp
  obtain ⟨Q, eQ, hQN, vQ⟩ := hinv_map h hP (by omega) hq
  dsimp only
  rw [eP, eQ]
  have g := andO_gate h.net hPN hQN (andO_room h.net hPN hQN (by omega))
  obtain ⟨z, ez, hz, vz⟩ := g.lit
  have hE := g.ext
  have hnn := hE.netN
  have hln := andO_len (n := (hashK n k).1) (a := P) (b := Q)
  rw [ez]
  refine ⟨hE.net h.net, hE.i.trans h.i, hE.s.trans h.s, hE.o.trans h.o, by omega, by rw [List.length_append, h.tlen]; rfl, fun j hj => ?_, fun st x hl j y hj hy => ?_⟩
  · by_cases hjk : j < firN n + k
    · obtain ⟨y, hy, hyN⟩ := h.lit j hjk
      exact ⟨y, by rw [List.getElem?_append_left (by rw [h.tlen]; exact hjk)]; exact hy, by omega⟩
    · refine ⟨z, ?_, hz⟩
      rw [List.getElem?_append_right (by rw [h.tlen]; omega), h.tlen, show j - (firN n + k) = 0 by omega]
      rfl
  · have hls : st.length = (hashK n k).1.2.1.length := by rw [h.slen]; exact hl
    by_cases hjk : j < firN n + k
    · rw [List.getElem?_append_left (by rw [h.tlen]; exact hjk)] at hy
      obtain ⟨y', hy', hyN⟩ := h.lit j hjk
      rw [hy] at hy'
      injection hy' with hy'
      have : y = y' := by omega
      subst this
      rw [bit_ext hE x hls hyN]
      exact h.val st x hl j y hjk hy
    · rw [List.getElem?_append_right (by rw [h.tlen]; omega), h.tlen, show j - (firN n + k) = 0 by omega] at hy
      have hy2 : some (z : Int) = some (y : Int) := hy
      injection hy2 with hy2
      have : y = z := by omega
      subst this
      rw [vz st x hls, vP st x hl, vQ st x hl, show j = firN n + k by omega, and_val x hP hl ha]
theorem hinv_all {n : DNet} (hP : NetP n) : ∀ k, k ≤ n.2.2.1.length → HInv n k (hashK n k).1 (hashK n k).2
  | 0, _ => hinv_zero hP
  | k + 1, hk => hinv_step hP (by omega) (hinv_all hP k (by omega))

/-- The values depend on the inputs, the number of elements and the AND nodes alone. -/
theorem valA_same {n m : DNet} (hi : m.1 = n.1) (hs : m.2.1.length = n.2.1.length) (ha : m.2.2.1 = n.2.2.1) (st : List Int) (x : Int) : ∀ k, valA m st x k = valA n st x k
  | 0 => by unfold valA; rw [hi, hs]
  | k + 1 => by
    have ih := valA_same hi hs ha st x k
    unfold valA
    rw [ha, ih]
theorem allV_same {n m : DNet} (hi : m.1 = n.1) (hs : m.2.1.length = n.2.1.length) (ha : m.2.2.1 = n.2.2.1) (st : List Int) (x : Int) : allV m st x = allV n st x := by
  unfold allV; rw [ha]; exact valA_same hi hs ha st x _
theorem valO_all {n : DNet} {st : List Int} (x : Int) (h : StateP n st) : valO n st x = allV n st x := valO_app x h
/-- Literals whose copies have their values. -/
def Copies (V W : List Int) (to L : List Int) : Prop := ∀ r ∈ L, ∃ l q : Nat, r = (l : Int) ∧ mapI to r = (q : Int) ∧ bitV W q = bitV V l
theorem mask_copy {V W to : List Int} : ∀ (L : List Int), Copies V W to L → ∀ k, k ≤ L.length → maskS W (L.map (mapI to)) k = maskS V L k
  | L, h, 0, _ => rfl
  | L, h, k + 1, hk => by
    have ih := mask_copy L h k (by omega)
    obtain ⟨r, hr⟩ : ∃ r, L[k]? = some r := ⟨_, List.getElem?_eq_getElem (by omega)⟩
    obtain ⟨l, q, rfl, eq, hb⟩ := h r (List.mem_of_getElem? hr)
    have e1 : (L.map (mapI to))[k]? = some (q : Int) := by rw [List.getElem?_map, hr, Option.map_some, eq]
    rw [mask_step e1, mask_step hr, ih, hb]
theorem maskV_copy {V W to L : List Int} (h : Copies V W to L) : maskV W (L.map (mapI to)) = maskV V L := by
  unfold maskV; rw [List.length_map]; exact mask_copy L h _ (Nat.le_refl _)
theorem rootsTo_seq {n : DNet} {A : List DAnd} {to : List Int} {k : Nat} {s : DSeq} (h : n.2.1[k]? = some s) : (rootsTo n A to).2.1[k]? = some (s.1, s.2.1, s.2.2.map (mapI to)) := by
  unfold rootsTo
  simp only [List.getElem?_map, h, Option.map_some]
theorem state_copy {n : DNet} {A : List DAnd} {to st : List Int} (hm : NetP (rootsTo n A to)) (h : StateP n st) : StateP (rootsTo n A to) st := by
  refine ⟨netB_of hm, by rw [h.len]; unfold rootsTo; simp, fun k s hs => ?_⟩
  have hk : k < n.2.1.length := by
    have := (List.getElem?_eq_some_iff.1 hs).1
    unfold rootsTo at this
    simpa using this
  obtain ⟨t, ht⟩ : ∃ t, n.2.1[k]? = some t := ⟨_, List.getElem?_eq_getElem hk⟩
  rw [rootsTo_seq ht] at hs
  injection hs with hs
  rw [← hs]
  exact h.val k t ht
/-- A net with the same elements, in which each root's copy has its value, has the same runs. -/
theorem copy_step {n : DNet} {A : List DAnd} {to st : List Int} {x : Int} (hP : NetP n) (hm : NetP (rootsTo n A to)) (h : StateP n st)
    (hc : Copies (allV n st x) (allV (rootsTo n A to) st x) to (rootsL n)) : stepO (rootsTo n A to) st x = stepO n st x := by
  have hm2 := state_copy hm h
  rw [step_yes (stateB_of h), step_yes (stateB_of hm2), valO_all x h, valO_all x hm2]
  have hlen : (rootsTo n A to).2.1.length = n.2.1.length := by unfold rootsTo; simp
  have ho : Copies (allV n st x) (allV (rootsTo n A to) st x) to n.2.2.2 := fun r hr => hc r (by unfold rootsL; exact List.mem_append.2 (.inl hr))
  refine Prod.ext ?_ ?_
  · dsimp only
    rw [hlen]
    unfold nextL
    refine List.map_congr_left fun k hk => ?_
    have hk := List.mem_range.1 hk
    obtain ⟨s, hs⟩ : ∃ s, n.2.1[k]? = some s := ⟨_, List.getElem?_eq_getElem hk⟩
    rw [rootsTo_seq hs, hs]
    simp only [Option.map_some, Option.getD_some]
    rw [maskV_copy (fun r hr => hc r (by unfold rootsL; exact List.mem_append.2 (.inr (List.mem_flatMap.2 ⟨s, List.mem_of_getElem? hs, hr⟩))))]
  · dsimp only
    exact maskV_copy ho
theorem start_copy {n : DNet} {A : List DAnd} {to : List Int} (hP : NetP n) (hm : NetP (rootsTo n A to)) : startO (rootsTo n A to) = startO n := by
  rw [start_yes (netB_of hP), start_yes (netB_of hm)]
  unfold rootsTo
  simp
theorem run_copy {n : DNet} {A : List DAnd} {to : List Int} (hP : NetP n) (hm : NetP (rootsTo n A to))
    (hc : ∀ (st : List Int) (x : Int), st.length = n.2.1.length → Copies (allV n st x) (allV (rootsTo n A to) st x) to (rootsL n)) (xs : List Int) : runO (rootsTo n A to) xs = runO n xs := by
  have hst : ∀ t, stAt (rootsTo n A to) xs t = stAt n xs t := by
    intro t
    induction t with
    | zero => exact start_copy hP hm
    | succ t ih =>
      have hS := stAt_ok (netB_of hP) xs t
      unfold stAt
      rw [ih, copy_step hP hm hS (hc _ _ hS.len)]
  by_cases hl : xs.length ≤ 16
  · rw [run_yes (netB_of hP) hl, run_yes (netB_of hm) hl]
    unfold outsK
    refine List.map_congr_left fun t _ => ?_
    have hS := stAt_ok (netB_of hP) xs t
    rw [hst, copy_step hP hm hS (hc _ _ hS.len)]
  · rw [run_no (fun c => hl c.2), run_no (fun c => hl c.2)]
end Go.Proofs.Ytiejilmgchmppaa
/- HsS: Structural hashing: the net before it is swept; sweeping; both keep the runs. -/
namespace Go.Proofs.Ytiejilmgchmppaa
open Go.RowKit
set_option linter.unusedVariables false
set_option linter.unusedSimpArgs false

theorem rootsTo_roots (n : DNet) (A : List DAnd) (to : List Int) : rootsL (rootsTo n A to) = (rootsL n).map (mapI to) := by
  unfold rootsL rootsTo
  simp only [List.map_append, List.map_flatMap]
  congr 1
  induction n.2.1 with
  | nil => rfl
  | cons s L ih => rw [List.map_cons, List.flatMap_cons, List.flatMap_cons, ih]
theorem rootsTo_fir (n : DNet) (A : List DAnd) (to : List Int) : firN (rootsTo n A to) = firN n := by unfold firN rootsTo; simp
theorem rootsTo_net {n : DNet} {A : List DAnd} {to : List Int} (hP : NetP n) (hA : A.length ≤ 300)
    (ha : ∀ (k : Nat) (a : DAnd), A[k]? = some a → ∃ x y : Nat, a = ((x : Int), (y : Int)) ∧ x / 2 < firN n + k ∧ y / 2 < firN n + k)
    (hr : ∀ r ∈ rootsL n, ∃ q : Nat, mapI to r = (q : Int) ∧ q / 2 < firN n + A.length) : NetP (rootsTo n A to) := by
  refine ⟨⟨hP.sz.i0, hP.sz.i20, by unfold rootsTo; simp; exact hP.sz.s12, hA, by unfold rootsTo; simp; exact hP.sz.o16⟩, fun s hs => ?_, fun k a h => ?_, fun r h => ?_⟩
  · obtain ⟨t, ht, rfl⟩ := List.mem_map.1 hs
    have := hP.seq t ht
    unfold seqB at this ⊢
    simpa using this
  · rw [rootsTo_fir]; exact ha k a h
  · rw [rootsTo_roots] at h
    obtain ⟨r0, h0, rfl⟩ := List.mem_map.1 h
    obtain ⟨q, e, hq⟩ := hr r0 h0
    refine ⟨q, e, ?_⟩
    unfold netN
    rw [rootsTo_fir]
    exact hq
/-- The net before it is swept. -/
def preN (n : DNet) : DNet := rootsTo n (hashK n n.2.2.1.length).1.2.2.1 (hashK n n.2.2.1.length).2
theorem preN_net {n : DNet} (hP : NetP n) : NetP (preN n) := by
  have h := hinv_all hP _ (Nat.le_refl _)
  have a300 := hP.sz.a300
  have hal := h.alen
  refine rootsTo_net hP (by omega) (fun k a ha => ?_) (fun r hr => ?_)
  · have := h.net.and_ k a ha
    rw [h.fir] at this
    exact this
  · obtain ⟨l, rfl, hl⟩ := hP.root r hr
    obtain ⟨q, e, hq, _⟩ := hinv_map h hP (Nat.le_refl _) hl
    refine ⟨q, e, ?_⟩
    unfold netN at hq
    rw [h.fir] at hq
    exact hq
theorem preN_vals {n : DNet} (hP : NetP n) (st : List Int) (x : Int) : allV (preN n) st x = allV (hashK n n.2.2.1.length).1 st x := by
  have h := hinv_all hP _ (Nat.le_refl _)
  exact allV_same (n := (hashK n n.2.2.1.length).1) (m := preN n) h.i.symm (by rw [h.slen]; unfold preN rootsTo; simp) rfl st x
theorem preN_run {n : DNet} (hP : NetP n) (xs : List Int) : runO (preN n) xs = runO n xs := by
  have h := hinv_all hP _ (Nat.le_refl _)
  refine run_copy hP (preN_net hP) (fun st x hl r hr => ?_) xs
  obtain ⟨l, rfl, hlN⟩ := hP.root r hr
  obtain ⟨q, e, hq, hv⟩ := hinv_map h hP (Nat.le_refl _) hlN
  refine ⟨l, q, rfl, e, ?_⟩
  have e2 := preN_vals hP st x
  unfold preN at e2
  rw [e2]
  exact hv st x hl

/-- Marks that are closed: the roots, and what marked nodes need. -/
structure Closed (n : DNet) (keep : List Bool) : Prop where
  root : ∀ l : Nat, (l : Int) ∈ rootsL n → keep.getD (l / 2) false = true
  edge : ∀ (k p q : Nat), n.2.2.1[k]? = some ((p : Int), (q : Int)) → keep.getD (firN n + k) false = true → keep.getD (p / 2) false = true ∧ keep.getD (q / 2) false = true
theorem seenL_mem (N : Nat) {R : List Int} {l : Nat} (h : (l : Int) ∈ R) (hl : l / 2 < N) : (seenL N R).getD (l / 2) false = true := by
  unfold seenL
  suffices ∀ (R : List Int) (M : List Bool), l / 2 < M.length → ((l : Int) ∈ R ∨ M.getD (l / 2) false = true) → (R.foldl (fun M r => M.set (r.toNat / 2) true) M).getD (l / 2) false = true from
    this R _ (by simpa using hl) (.inl h)
  intro R
  induction R with
  | nil =>
    intro M _ h
    rcases h with h | h
    · cases h
    · exact h
  | cons r R ih =>
    intro M hM h
    rw [List.foldl_cons]
    refine ih _ (by rw [List.length_set]; exact hM) ?_
    rcases h with h | h
    · rcases List.mem_cons.1 h with h | h
      · right
        rw [getD_set, if_pos ⟨by rw [← h]; simp, hM⟩]
      · exact .inl h
    · right
      rw [getD_set]
      split
      · rfl
      · exact h
theorem reach_closed {n : DNet} (hP : NetP n) : Closed n (reachO n) := by
  have e : reachO n = markL n (seenL (netN n) (rootsL n)) := by unfold reachO; rw [if_pos (netB_of hP)]
  rw [e]
  refine ⟨fun l hl => ?_, fun k p q ha ht => ?_⟩
  · obtain ⟨x, ex, hx⟩ := hP.root _ hl
    have : l = x := by omega
    subst this
    have h0 := seenL_mem (netN n) hl hx
    have := markK_mono (n := n) (M := seenL (netN n) (rootsL n)) (j := 0) h0 n.2.2.1.length
    rw [Nat.zero_add] at this
    exact this
  · have hk := (List.getElem?_eq_some_iff.1 ha).1
    exact markL_edge hP (seenL_len _ _) ha (by unfold netN; omega) ht
def outN (n : DNet) (A : List DAnd) : DNet := (n.1, (emptyN n).2.1, A, [])
def Live (n : DNet) (keep : List Bool) (j : Nat) : Prop := j < firN n ∨ keep.getD j false = true
/-- What the copies are like when k AND nodes are swept. -/
structure SInv (n : DNet) (keep : List Bool) (k : Nat) (A : List DAnd) (to : List Int) : Prop where
  net : NetP (outN n A)
  alen : A.length ≤ k
  tlen : to.length = firN n + k
  lit : ∀ j, j < firN n + k → Live n keep j → ∃ z : Nat, to[j]? = some ((2 * z : Nat) : Int) ∧ z < firN n + A.length
  val : ∀ (st : List Int) (x : Int), st.length = n.2.1.length → ∀ (j z : Nat), j < firN n + k → Live n keep j → to[j]? = some (z : Int) → bitV (allV (outN n A) st x) z = (allV n st x).getD j 0
  mono : ∀ (i j y z : Nat), i < j → j < firN n + k → Live n keep i → Live n keep j → to[i]? = some (y : Int) → to[j]? = some (z : Int) → y < z
  low : ∀ j, j < firN n → to[j]? = some ((2 * j : Nat) : Int)
  sur : ∀ (t : Nat) (a : DAnd), A[t]? = some a → ∃ i p q : Nat, i < k ∧ n.2.2.1[i]? = some ((p : Int), (q : Int)) ∧ keep.getD (firN n + i) false = true ∧ to[firN n + i]? = some ((2 * (firN n + t) : Nat) : Int) ∧ a = (mapI to p, mapI to q)
  from_ : ∀ i, i < k → keep.getD (firN n + i) false = true → ∃ t, t < A.length ∧ to[firN n + i]? = some ((2 * (firN n + t) : Nat) : Int)
theorem outN_fir (n : DNet) (A : List DAnd) : firN (outN n A) = firN n := by unfold firN outN emptyN; simp
theorem outN_len (n : DNet) (A : List DAnd) : netN (outN n A) = firN n + A.length := by unfold netN; rw [outN_fir]; rfl
theorem sinv_zero {n : DNet} (hP : NetP n) (keep : List Bool) : SInv n keep 0 (sweepK n keep 0).1 (sweepK n keep 0).2 := by
  have h := hinv_zero hP
  refine ⟨empty_net hP, Nat.le_refl _, toK0_len n, fun j hj _ => ⟨j, toK0_at (by omega), by have : ([] : List DAnd).length = 0 := rfl; show j < firN n + 0; omega⟩, fun st x hl j z hj _ hz => h.val st x hl j z hj hz, fun i j y z hij hj _ _ hy hz => ?_, fun j hj => toK0_at hj, fun t a h => (by cases h), fun i hi => (by omega)⟩
  have hy' : (toK0 n)[i]? = some (y : Int) := hy
  have hz' : (toK0 n)[j]? = some (z : Int) := hz
  rw [toK0_at (by omega)] at hy' hz'
  injection hy' with hy'
  injection hz' with hz'
  omega
theorem sweepK_yes {n : DNet} {keep : List Bool} {k : Nat} {a : DAnd} (h : n.2.2.1[k]? = some a) (hk : keep.getD (firN n + k) false = true) : sweepK n keep (k + 1) = ((sweepK n keep k).1 ++ [(mapI (sweepK n keep k).2 a.1, mapI (sweepK n keep k).2 a.2)], (sweepK n keep k).2 ++ [2 * ((firN n + (sweepK n keep k).1.length : Nat) : Int)]) := by
  conv => lhs; unfold sweepK
  rw [h]
  dsimp only
  rw [if_pos hk]
theorem sweepK_no {n : DNet} {keep : List Bool} {k : Nat} {a : DAnd} (h : n.2.2.1[k]? = some a) (hk : keep.getD (firN n + k) false = false) : sweepK n keep (k + 1) = ((sweepK n keep k).1, (sweepK n keep k).2 ++ [0]) := by
  conv => lhs; unfold sweepK
  rw [h]
  dsimp only
  rw [if_neg (by rw [hk]; decide)]
theorem mapI_app {to L : List Int} {l : Nat} (h : l / 2 < to.length) : mapI (to ++ L) (l : Int) = mapI to (l : Int) := by
  unfold mapI
  rw [Int.toNat_natCast, getD_pre h]
theorem app_at {to : List Int} {x z : Int} {j N : Nat} (hl : to.length = N) (hj : j < N + 1) (h : (to ++ [x])[j]? = some z) : (j < N ∧ to[j]? = some z) ∨ (j = N ∧ x = z) := by
  by_cases hjn : j < N
  · rw [List.getElem?_append_left (by omega)] at h; exact .inl ⟨hjn, h⟩
  · rw [List.getElem?_append_right (by omega), hl, show j - N = 0 by omega] at h
    injection h with h
    exact .inr ⟨by omega, h⟩
theorem app_low {to : List Int} {x z : Int} {j : Nat} (h : to[j]? = some z) : (to ++ [x])[j]? = some z := by
  have := (List.getElem?_eq_some_iff.1 h).1
  rw [List.getElem?_append_left this]; exact h
theorem app_end {to : List Int} {x : Int} {N : Nat} (hl : to.length = N) : (to ++ [x])[N]? = some x := by
  rw [List.getElem?_append_right (by omega), hl, Nat.sub_self]; rfl
/-- The copy of a literal of a live node. -/
theorem sinv_map {n : DNet} {keep : List Bool} {k l : Nat} {A : List DAnd} {to : List Int} (hP : NetP n) (h : SInv n keep k A to) (hl : l / 2 < firN n + k) (hv : Live n keep (l / 2)) : ∃ q z : Nat, to[l / 2]? = some ((2 * z : Nat) : Int) ∧ mapI to (l : Int) = (q : Int) ∧ q = 2 * z + l % 2 ∧ z < firN n + A.length ∧ ∀ (st : List Int) (x : Int), st.length = n.2.1.length → bitV (allV (outN n A) st x) q = bitV (allV n st x) l := by
  obtain ⟨z, hz, hzN⟩ := h.lit _ hl hv
  obtain ⟨q, e, hq, _⟩ := mapI_nat hz
  refine ⟨q, z, hz, e, ?_, hzN, fun st x hs => mapI_val hz (h.val st x hs _ _ hl hv hz) (allV_01 x hP hs _) e⟩
  have e2 : to.getD ((l : Int).toNat / 2) 0 = ((2 * z : Nat) : Int) := by rw [Int.toNat_natCast, List.getD_eq_getElem?_getD, hz]; rfl
  unfold mapI at e
  rw [e2] at e
  split at e
  · omega
  · unfold notI at e
    rw [if_neg (by omega), if_pos (by omega)] at e
    omega
theorem sinv_step {n : DNet} {keep : List Bool} (hP : NetP n) (hC : Closed n keep) {k : Nat} (hk : k < n.2.2.1.length) (h : SInv n keep k (sweepK n keep k).1 (sweepK n keep k).2) : SInv n keep (k + 1) (sweepK n keep (k + 1)).1 (sweepK n keep (k + 1)).2 := by
  obtain ⟨a, ha⟩ : ∃ a, n.2.2.1[k]? = some a := ⟨_, List.getElem?_eq_getElem hk⟩
  obtain ⟨p, q, rfl, hp, hq⟩ := hP.and_ k a ha
  have a300 := hP.sz.a300
  have hal := h.alen
  have htl := h.tlen
  cases hkp : keep.getD (firN n + k) false with
  | false =>
    rw [sweepK_no ha hkp]
    have dead : ∀ j, j < firN n + (k + 1) → Live n keep j → j < firN n + k := fun j hj hv => by
      by_cases e : j = firN n + k
      · subst e
        rcases hv with hv | hv
        · omega
        · rw [hkp] at hv; cases hv
      · omega
    refine ⟨h.net, by dsimp only; omega, by rw [List.length_append, htl]; rfl, fun j hj hv => ?_, fun st x hl j z hj hv hz => ?_, fun i j y z hij hj hvi hvj hy hz => ?_, fun j hj => app_low (h.low j hj), fun t a' hta => ?_, fun i hi hki => ?_⟩
    · obtain ⟨z, hz, hzN⟩ := h.lit j (dead j hj hv) hv
      exact ⟨z, app_low hz, hzN⟩
    · have hd := dead j hj hv
      rcases app_at htl (by omega) hz with ⟨_, hz⟩ | ⟨e, _⟩
      · exact h.val st x hl j z hd hv hz
      · omega
    · have hdi := dead i (by omega) hvi
      have hdj := dead j hj hvj
      rcases app_at htl (by omega) hy with ⟨_, hy⟩ | ⟨e, _⟩ <;> rcases app_at htl (by omega) hz with ⟨_, hz⟩ | ⟨e2, _⟩
      · exact h.mono i j y z hij hdj hvi hvj hy hz
      · omega
      · omega
      · omega
    · obtain ⟨i, p', q', hi, hia, hik, hit, ea⟩ := h.sur t a' hta
      obtain ⟨x1, y1, e1, hx1, hy1⟩ := hP.and_ i _ hia
      injection e1 with e1 e2
      have e1 : p' = x1 := by omega
      have e2 : q' = y1 := by omega
      subst e1 e2
      exact ⟨i, p', q', by omega, hia, hik, app_low hit, by dsimp only; rw [mapI_app (by omega), mapI_app (by omega)]; exact ea⟩
    · have : i < k := by
        by_cases e : i = k
        · subst e; rw [hkp] at hki; cases hki
        · omega
      obtain ⟨t, ht, hit⟩ := h.from_ i this hki
      exact ⟨t, ht, app_low hit⟩
  | true =>
    rw [sweepK_yes ha hkp]
    obtain ⟨he1, he2⟩ := hC.edge k p q ha hkp
    obtain ⟨P, zp, hzp, eP, hPz, hPN, vP⟩ := sinv_map hP h hp (.inr he1)
    obtain ⟨Q, zq, hzq, eQ, hQz, hQN, vQ⟩ := sinv_map hP h hq (.inr he2)
    dsimp only
    rw [eP, eQ]
    obtain ⟨A, hA⟩ : ∃ A, (sweepK n keep k).1 = A := ⟨_, rfl⟩
    obtain ⟨to, hto⟩ : ∃ to, (sweepK n keep k).2 = to := ⟨_, rfl⟩
    rw [hA, hto] at h
    rw [hA] at hal hPN hQN vP vQ ⊢
    rw [hto] at htl hzp hzq eP eQ ⊢
    have hoN := outN_len n A
    have hE := addN_ext (n := outN n A) (p := P) (q := Q) (by rw [hoN]; omega) (by rw [hoN]; omega) (by show A.length < 300; omega)
    have hNet : NetP (outN n (A ++ [((P : Int), (Q : Int))])) := hE.net h.net
    have hex : ∀ (st : List Int) (x : Int), st.length = n.2.1.length → ∀ l : Nat, l / 2 < firN n + A.length → bitV (allV (outN n (A ++ [((P : Int), (Q : Int))])) st x) l = bitV (allV (outN n A) st x) l := fun st x hl l hlN =>
      bit_ext hE x (by unfold outN emptyN; simp; exact hl) (by rw [hoN]; exact hlN)
    refine ⟨hNet, by rw [List.length_append, List.length_singleton]; omega, by rw [List.length_append, htl]; rfl, fun j hj hv => ?_, fun st x hl j z hj hv hz => ?_, fun i j y z hij hj hvi hvj hy hz => ?_, fun j hj => app_low (h.low j hj), fun t a' hta => ?_, fun i hi hki => ?_⟩
    · by_cases hjk : j < firN n + k
      · obtain ⟨z, hz, hzN⟩ := h.lit j hjk hv
        exact ⟨z, app_low hz, by rw [List.length_append]; omega⟩
      · have e : j = firN n + k := by omega
        subst e
        exact ⟨firN n + A.length, by rw [app_end htl]; congr 1, by rw [List.length_append, List.length_singleton]; omega⟩
    · rcases app_at htl (by omega) hz with ⟨hjk, hz⟩ | ⟨e, ez⟩
      · obtain ⟨z', hz', hzN⟩ := h.lit j hjk hv
        rw [hz] at hz'
        injection hz' with hz'
        rw [hex st x hl z (by omega)]
        exact h.val st x hl j z hjk hv hz
      · have e2 : z = 2 * (firN n + A.length) := by omega
        subst e e2
        have hls : st.length = (outN n (A ++ [((P : Int), (Q : Int))])).2.1.length := by unfold outN emptyN; simp; exact hl
        rw [bit_even (allV_01 x hNet hls _)]
        have hat : (outN n (A ++ [((P : Int), (Q : Int))])).2.2.1[A.length]? = some ((P : Int), (Q : Int)) := by
          show (A ++ [((P : Int), (Q : Int))])[A.length]? = _
          rw [List.getElem?_append_right (Nat.le_refl _), Nat.sub_self]; rfl
        have hvv := and_val (st := st) x hNet hls hat
        rw [outN_fir] at hvv
        rw [hvv, hex st x hl P (by omega), hex st x hl Q (by omega), vP st x hl, vQ st x hl, and_val x hP hl ha]
    · rcases app_at htl (by omega) hz with ⟨hjk, hz⟩ | ⟨e, ez⟩
      · rcases app_at htl (by omega) hy with ⟨hik, hy⟩ | ⟨e, _⟩
        · exact h.mono i j y z hij hjk hvi hvj hy hz
        · omega
      · rcases app_at htl (by omega) hy with ⟨hik, hy⟩ | ⟨e2, _⟩
        · obtain ⟨y', hy', hyN⟩ := h.lit i hik hvi
          rw [hy] at hy'
          injection hy' with hy'
          omega
        · omega
    · by_cases ht : t < A.length
      · rw [List.getElem?_append_left ht] at hta
        obtain ⟨i, p', q', hi, hia, hik, hit, ea⟩ := h.sur t a' hta
        obtain ⟨x1, y1, e1, hx1, hy1⟩ := hP.and_ i _ hia
        injection e1 with e1 e2
        have e1 : p' = x1 := by omega
        have e2 : q' = y1 := by omega
        subst e1 e2
        exact ⟨i, p', q', by omega, hia, hik, app_low hit, by rw [mapI_app (by omega), mapI_app (by omega)]; exact ea⟩
      · have hlt := (List.getElem?_eq_some_iff.1 hta).1
        rw [List.length_append, List.length_singleton] at hlt
        have e : t = A.length := by omega
        subst e
        rw [List.getElem?_append_right (Nat.le_refl _), Nat.sub_self] at hta
        injection hta with hta
        exact ⟨k, p, q, by omega, ha, hkp, app_end htl, by rw [← hta, mapI_app (by omega), mapI_app (by omega), eP, eQ]⟩
    · by_cases e : i = k
      · subst e
        exact ⟨A.length, by rw [List.length_append, List.length_singleton]; omega, app_end htl⟩
      · obtain ⟨t, ht, hit⟩ := h.from_ i (by omega) hki
        exact ⟨t, by rw [List.length_append]; omega, app_low hit⟩
theorem sinv_all {n : DNet} {keep : List Bool} (hP : NetP n) (hC : Closed n keep) : ∀ k, k ≤ n.2.2.1.length → SInv n keep k (sweepK n keep k).1 (sweepK n keep k).2
  | 0, _ => sinv_zero hP keep
  | k + 1, hk => sinv_step hP hC (by omega) (sinv_all hP hC k (by omega))
theorem sweep_yes {n : DNet} (h : netB n = true) : sweepO n = rootsTo n (sweepK n (reachO n) n.2.2.1.length).1 (sweepK n (reachO n) n.2.2.1.length).2 := by unfold sweepO; rw [if_pos h]
theorem sweep_root {n : DNet} (hP : NetP n) {r : Int} (hr : r ∈ rootsL n) : ∃ l q z : Nat, r = (l : Int) ∧ mapI (sweepK n (reachO n) n.2.2.1.length).2 r = (q : Int) ∧ q = 2 * z + l % 2 ∧ z < firN n + (sweepK n (reachO n) n.2.2.1.length).1.length ∧ (sweepK n (reachO n) n.2.2.1.length).2[l / 2]? = some ((2 * z : Nat) : Int) ∧
    ∀ (st : List Int) (x : Int), st.length = n.2.1.length → bitV (allV (outN n (sweepK n (reachO n) n.2.2.1.length).1) st x) q = bitV (allV n st x) l := by
  have hC := reach_closed hP
  have h := sinv_all hP hC _ (Nat.le_refl _)
  obtain ⟨l, rfl, hl⟩ := hP.root r hr
  obtain ⟨q, z, hz, e, hq, hzN, hv⟩ := sinv_map hP h hl (.inr (hC.root l hr))
  exact ⟨l, q, z, rfl, e, hq, hzN, hz, hv⟩
theorem sweep_net {n : DNet} (hP : NetP n) : NetP (sweepO n) := by
  have hC := reach_closed hP
  have h := sinv_all hP hC _ (Nat.le_refl _)
  rw [sweep_yes (netB_of hP)]
  have a300 := hP.sz.a300
  have hal := h.alen
  refine rootsTo_net hP (by omega) (fun k a ha => ?_) (fun r hr => ?_)
  · have := h.net.and_ k a ha
    rw [outN_fir] at this
    exact this
  · obtain ⟨l, q, z, _, e, hq, hz, _⟩ := sweep_root hP hr
    exact ⟨q, e, by omega⟩
theorem sweep_run {n : DNet} (hP : NetP n) (xs : List Int) : runO (sweepO n) xs = runO n xs := by
  have hN := sweep_net hP
  rw [sweep_yes (netB_of hP)] at hN ⊢
  refine run_copy hP hN (fun st x hl r hr => ?_) xs
  obtain ⟨l, q, z, e0, e, hq, hz, _, hv⟩ := sweep_root hP hr
  refine ⟨l, q, e0, e, ?_⟩
  rw [← hv st x hl]
  congr 1
  exact allV_same (n := outN n (sweepK n (reachO n) n.2.2.1.length).1) (m := rootsTo n (sweepK n (reachO n) n.2.2.1.length).1 (sweepK n (reachO n) n.2.2.1.length).2) rfl (by unfold rootsTo outN emptyN; simp) rfl st x
theorem hash_yes {n : DNet} (h : netB n = true) : hashO n = sweepO (preN n) := by unfold hashO; rw [if_pos h]; rfl
theorem hash_net {n : DNet} (hP : NetP n) : NetP (hashO n) := by rw [hash_yes (netB_of hP)]; exact sweep_net (preN_net hP)
theorem hash_run {n : DNet} (hP : NetP n) (xs : List Int) : runO (hashO n) xs = runO n xs := by rw [hash_yes (netB_of hP), sweep_run (preN_net hP), preN_run hP]
theorem sweep_ands {n : DNet} (hP : NetP n) : (sweepO n).2.2.1.length ≤ n.2.2.1.length := by
  rw [sweep_yes (netB_of hP)]
  exact (sinv_all hP (reach_closed hP) _ (Nat.le_refl _)).alen
theorem hash_ands {n : DNet} (hP : NetP n) : (hashO n).2.2.1.length ≤ n.2.2.1.length := by
  rw [hash_yes (netB_of hP)]
  exact Nat.le_trans (sweep_ands (preN_net hP)) (hinv_all hP _ (Nat.le_refl _)).alen
end Go.Proofs.Ytiejilmgchmppaa
/- HsL: Structural hashing: it deepens no net. -/
namespace Go.Proofs.Ytiejilmgchmppaa
open Go.RowKit
set_option linter.unusedVariables false
set_option linter.unusedSimpArgs false

/-- The level of a node. -/
def lev (n : DNet) (j : Nat) : Int := (levK n n.2.2.1.length).getD j 0
theorem lev_pos (n : DNet) (j : Nat) : 0 ≤ lev n j := (levK_in n _ j).1
theorem lev_low {n : DNet} {j : Nat} (h : j < firN n) : lev n j = 0 := by
  have e := levK_keep n (k := 0) (j := j) (by omega) n.2.2.1.length
  rw [Nat.zero_add] at e
  unfold lev
  rw [e]
  unfold levK
  rw [List.getD_eq_getElem?_getD, List.getElem?_replicate]
  split <;> rfl
theorem lev_and {n : DNet} (hP : NetP n) {k p q : Nat} (h : n.2.2.1[k]? = some ((p : Int), (q : Int))) : lev n (firN n + k) = 1 + max (lev n (p / 2)) (lev n (q / 2)) := by
  have hk := (List.getElem?_eq_some_iff.1 h).1
  exact levK_edge hP h hk (by unfold netN; omega)
theorem lev_ext {n m : DNet} (hP : NetP n) (hm : NetP m) (h : Ext n m) : ∀ j, j < netN n → lev m j = lev n j := by
  intro j
  induction j using Nat.strongRecOn with
  | _ j ih =>
    intro hj
    by_cases hf : j < firN n
    · rw [lev_low hf, lev_low (by rw [h.fir]; exact hf)]
    · obtain ⟨k, rfl⟩ : ∃ k, j = firN n + k := ⟨j - firN n, by omega⟩
      have hk : k < n.2.2.1.length := by unfold netN at hj; omega
      obtain ⟨a, ha⟩ : ∃ a, n.2.2.1[k]? = some a := ⟨_, List.getElem?_eq_getElem hk⟩
      obtain ⟨p, q, rfl, hp, hq⟩ := hP.and_ k a ha
      rw [lev_and hP ha]
      have e := lev_and hm ((h.at hk).trans ha)
      rw [h.fir] at e
      rw [e, ih _ hp (by omega), ih _ hq (by omega)]
theorem lev_same {n m : DNet} (hf : firN m = firN n) (ha : m.2.2.1 = n.2.2.1) (j : Nat) : lev m j = lev n j := by
  have hN : netN m = netN n := by unfold netN; rw [hf, ha]
  have : ∀ k, levK m k = levK n k := by
    intro k
    induction k with
    | zero => unfold levK; rw [hN]
    | succ k ih => unfold levK; rw [ha, ih, hf]
  unfold lev
  rw [ha, this]
theorem andO_lev {n : DNet} {p q : Nat} (hP : NetP n) (hp : p / 2 < netN n) (hq : q / 2 < netN n) (h300 : n.2.2.1.length < 300) {z : Nat} (hz : (andO n p q).2 = (z : Int)) : lev (andO n p q).1 (z / 2) ≤ 1 + max (lev n (p / 2)) (lev n (q / 2)) := by
  have hv : netB n = true ∧ litB (ncI n) (p : Int) = true ∧ litB (ncI n) (q : Int) = true := ⟨netB_of hP, by rw [hP.sz.nc]; exact lit_nat hp, by rw [hP.sz.nc]; exact lit_nat hq⟩
  have l1 := lev_pos n (p / 2)
  have l2 := lev_pos n (q / 2)
  revert hz
  unfold andO
  rw [if_neg (fun c => c hv)]
  by_cases c1 : (p : Int) = 0 ∨ (q : Int) = 0 ∨ (p : Int) = notI (q : Int)
  · rw [if_pos c1]
    intro hz
    dsimp only at hz ⊢
    have : z = 0 := by omega
    subst this
    have := hP.sz.fir_le
    rw [show 0 / 2 = 0 from rfl, lev_low (by omega)]
    omega
  rw [if_neg c1]
  by_cases c2 : (p : Int) = 1 ∨ (p : Int) = (q : Int)
  · rw [if_pos c2]
    intro hz
    dsimp only at hz ⊢
    have : z = q := by omega
    subst this
    omega
  rw [if_neg c2]
  by_cases c3 : (q : Int) = 1
  · rw [if_pos c3]
    intro hz
    dsimp only at hz ⊢
    have : z = p := by omega
    subst this
    omega
  rw [if_neg c3, min_nat, max_nat]
  have hmm : max (lev n (min p q / 2)) (lev n (max p q / 2)) = max (lev n (p / 2)) (lev n (q / 2)) := by
    by_cases h : p ≤ q
    · rw [Nat.min_eq_left h, Nat.max_eq_right h]
    · rw [Nat.min_eq_right (by omega), Nat.max_eq_left (by omega)]; omega
  cases hi : idxG (((min p q : Nat) : Int), ((max p q : Nat) : Int)) n.2.2.1 0 with
  | some i =>
    obtain ⟨_, h2, _⟩ := idxG_some hi
    rw [Nat.sub_zero] at h2
    intro hz
    dsimp only at hz ⊢
    have : z = 2 * (firN n + i) := by omega
    subst this
    rw [show 2 * (firN n + i) / 2 = firN n + i by omega, lev_and hP h2, hmm]
    exact Int.le_refl _
  | none =>
    dsimp only
    rw [if_neg (by omega)]
    intro hz
    dsimp only at hz ⊢
    have : z = 2 * netN n := by omega
    subst this
    have hmn : min p q / 2 < netN n := by omega
    have hmx : max p q / 2 < netN n := by omega
    have hE := addN_ext (n := n) hmn hmx (by omega)
    have hPm := hE.net hP
    have ha : (addN n (((min p q : Nat) : Int), ((max p q : Nat) : Int))).2.2.1[n.2.2.1.length]? = some (((min p q : Nat) : Int), ((max p q : Nat) : Int)) := by unfold addN; simp
    have e := lev_and hPm ha
    rw [hE.fir] at e
    rw [show 2 * netN n / 2 = netN n by omega]
    unfold netN
    rw [e, lev_ext hP hPm hE _ hmn, lev_ext hP hPm hE _ hmx, hmm]
    exact Int.le_refl _
/-- The copies are not deeper than their nodes. -/
def LevIn (n out : DNet) (to : List Int) (N : Nat) : Prop := ∀ j z : Nat, j < N → to[j]? = some (z : Int) → lev out (z / 2) ≤ lev n j
theorem hash_lev {n : DNet} (hP : NetP n) : ∀ k, k ≤ n.2.2.1.length → LevIn n (hashK n k).1 (hashK n k).2 (firN n + k)
  | 0, _ => fun j z hj hz => by
    have hz' : (toK0 n)[j]? = some (z : Int) := hz
    rw [toK0_at (by omega)] at hz'
    injection hz' with hz'
    have : z = 2 * j := by omega
    subst this
    show lev (emptyN n) (2 * j / 2) ≤ lev n j
    rw [show 2 * j / 2 = j by omega, lev_low (by rw [empty_fir]; exact hj)]
    exact lev_pos n j
  | k + 1, hk => fun j z hj hz => by
    have ih := hash_lev hP k (by omega)
    have h := hinv_all hP k (by omega)
    obtain ⟨a, ha⟩ : ∃ a, n.2.2.1[k]? = some a := ⟨_, List.getElem?_eq_getElem (by omega)⟩
    obtain ⟨p, q, rfl, hp, hq⟩ := hP.and_ k a ha
    have a300 := hP.sz.a300
    have hal := h.alen
    obtain ⟨zp, hzp, hzpN⟩ := h.lit _ hp
    obtain ⟨zq, hzq, hzqN⟩ := h.lit _ hq
    obtain ⟨P, eP, hP2, _⟩ := mapI_nat (l := p) hzp
    obtain ⟨Q, eQ, hQ2, _⟩ := mapI_nat (l := q) hzq
    rw [hashK_step ha] at hz ⊢
    dsimp only at hz ⊢
    rw [eP, eQ] at hz ⊢
    have hPN : P / 2 < netN (hashK n k).1 := by omega
    have hQN : Q / 2 < netN (hashK n k).1 := by omega
    have g := andO_gate h.net hPN hQN (andO_room h.net hPN hQN (by omega))
    rcases app_at h.tlen (by omega) hz with ⟨hjk, hz⟩ | ⟨e, ez⟩
    · obtain ⟨z', hz', hzN⟩ := h.lit j hjk
      rw [hz] at hz'
      injection hz' with hz'
      rw [lev_ext h.net (g.ext.net h.net) g.ext _ (by omega)]
      exact ih j z hjk hz
    · have h1 := andO_lev h.net hPN hQN (by omega) ez
      have h2 := ih (p / 2) zp hp hzp
      have h3 := ih (q / 2) zq hq hzq
      rw [e, lev_and hP ha]
      rw [hP2, hQ2] at h1
      omega
theorem sweep_lev {n : DNet} {keep : List Bool} (hP : NetP n) (hC : Closed n keep) : ∀ k, k ≤ n.2.2.1.length → ∀ j z : Nat, j < firN n + k → Live n keep j → (sweepK n keep k).2[j]? = some (z : Int) → lev (outN n (sweepK n keep k).1) (z / 2) ≤ lev n j
  | 0, _ => fun j z hj _ hz => by
    have hz' : (toK0 n)[j]? = some (z : Int) := hz
    rw [toK0_at (by omega)] at hz'
    injection hz' with hz'
    have : z = 2 * j := by omega
    subst this
    rw [show 2 * j / 2 = j by omega, lev_low (by rw [outN_fir]; exact hj)]
    exact lev_pos n j
  | k + 1, hk => fun j z hj hv hz => by
    have ih := sweep_lev hP hC k (by omega)
    have h := sinv_all hP hC k (by omega)
    obtain ⟨a, ha⟩ : ∃ a, n.2.2.1[k]? = some a := ⟨_, List.getElem?_eq_getElem (by omega)⟩
    obtain ⟨p, q, rfl, hp, hq⟩ := hP.and_ k a ha
    have a300 := hP.sz.a300
    have hal := h.alen
    cases hkp : keep.getD (firN n + k) false with
    | false =>
      rw [sweepK_no ha hkp] at hz ⊢
      rcases app_at h.tlen (by omega) hz with ⟨hjk, hz⟩ | ⟨e, ez⟩
      · exact ih j z hjk hv hz
      · rcases hv with hv | hv
        · omega
        · rw [e, hkp] at hv; cases hv
    | true =>
      rw [sweepK_yes ha hkp] at hz ⊢
      dsimp only at hz ⊢
      obtain ⟨he1, he2⟩ := hC.edge k p q ha hkp
      obtain ⟨P, zp, hzp, eP, hPz, hPN, _⟩ := sinv_map hP h hp (.inr he1)
      obtain ⟨Q, zq, hzq, eQ, hQz, hQN, _⟩ := sinv_map hP h hq (.inr he2)
      rw [eP, eQ]
      have hoN := outN_len n (sweepK n keep k).1
      have hE := addN_ext (n := outN n (sweepK n keep k).1) (p := P) (q := Q) (by rw [hoN]; omega) (by rw [hoN]; omega) (by show (sweepK n keep k).1.length < 300; omega)
      have hNet : NetP (outN n ((sweepK n keep k).1 ++ [((P : Int), (Q : Int))])) := hE.net h.net
      have hex : ∀ i, i < firN n + (sweepK n keep k).1.length → lev (outN n ((sweepK n keep k).1 ++ [((P : Int), (Q : Int))])) i = lev (outN n (sweepK n keep k).1) i := fun i hi => lev_ext h.net hNet hE i (by rw [hoN]; exact hi)
      rcases app_at h.tlen (by omega) hz with ⟨hjk, hz⟩ | ⟨e, ez⟩
      · obtain ⟨z', hz', hzN⟩ := h.lit j hjk hv
        rw [hz] at hz'
        injection hz' with hz'
        rw [hex _ (by omega)]
        exact ih j z hjk hv hz
      · have e2 : z / 2 = firN n + (sweepK n keep k).1.length := by omega
        have hat : (outN n ((sweepK n keep k).1 ++ [((P : Int), (Q : Int))])).2.2.1[(sweepK n keep k).1.length]? = some ((P : Int), (Q : Int)) := by
          show ((sweepK n keep k).1 ++ [((P : Int), (Q : Int))])[(sweepK n keep k).1.length]? = _
          rw [List.getElem?_append_right (Nat.le_refl _), Nat.sub_self]; rfl
        have hl := lev_and hNet hat
        rw [outN_fir] at hl
        have h2 := ih (p / 2) (2 * zp) hp (.inr he1) (by rw [hzp])
        have h3 := ih (q / 2) (2 * zq) hq (.inr he2) (by rw [hzq])
        rw [e2, hl, hex _ (by omega), hex _ (by omega), e, lev_and hP ha]
        rw [show 2 * zp / 2 = P / 2 by omega] at h2
        rw [show 2 * zq / 2 = Q / 2 by omega] at h3
        omega
theorem dep_map {L L' : List Int} {f : Int → Int} : ∀ (R : List Int) (d d' : Int), d' ≤ d → (∀ r ∈ R, L'.getD ((f r).toNat / 2) 0 ≤ L.getD (r.toNat / 2) 0) →
    (R.map f).foldl (fun d r => max d (L'.getD (r.toNat / 2) 0)) d' ≤ R.foldl (fun d r => max d (L.getD (r.toNat / 2) 0)) d
  | [], d, d', h, _ => h
  | r :: R, d, d', h, hr => by
    rw [List.map_cons, List.foldl_cons, List.foldl_cons]
    have h1 := hr r (List.mem_cons_self ..)
    exact dep_map R _ _ (by omega) fun s hs => hr s (List.mem_cons_of_mem _ hs)
theorem dep_lev {n : DNet} (hP : NetP n) : depO n = depL (levK n n.2.2.1.length) (rootsL n) := by unfold depO levO; rw [if_pos (netB_of hP), if_pos (netB_of hP)]
theorem dep_copy {n : DNet} {A : List DAnd} {to : List Int} (hP : NetP n) (hm : NetP (rootsTo n A to)) (h : ∀ r ∈ rootsL n, lev (rootsTo n A to) ((mapI to r).toNat / 2) ≤ lev n (r.toNat / 2)) : depO (rootsTo n A to) ≤ depO n := by
  rw [dep_lev hP, dep_lev hm, rootsTo_roots]
  unfold depL
  exact dep_map _ _ _ (Int.le_refl _) h
theorem pre_dep {n : DNet} (hP : NetP n) : depO (preN n) ≤ depO n := by
  refine dep_copy hP (preN_net hP) fun r hr => ?_
  have h := hinv_all hP _ (Nat.le_refl _)
  obtain ⟨l, rfl, hl⟩ := hP.root r hr
  obtain ⟨z, hz, hzN⟩ := h.lit _ hl
  obtain ⟨q, e, hq, _⟩ := mapI_nat (l := l) hz
  rw [e, Int.toNat_natCast, Int.toNat_natCast, hq]
  rw [lev_same (n := (hashK n n.2.2.1.length).1) (m := rootsTo n (hashK n n.2.2.1.length).1.2.2.1 (hashK n n.2.2.1.length).2) (by rw [rootsTo_fir, h.fir]) rfl]
  exact hash_lev hP _ (Nat.le_refl _) _ _ hl hz
theorem sweep_dep {n : DNet} (hP : NetP n) : depO (sweepO n) ≤ depO n := by
  have hN := sweep_net hP
  rw [sweep_yes (netB_of hP)] at hN ⊢
  refine dep_copy hP hN fun r hr => ?_
  have hC := reach_closed hP
  obtain ⟨l, q, z, e0, e, hq, hz, hat, _⟩ := sweep_root hP hr
  subst e0
  obtain ⟨x, ex, hlN⟩ := hP.root _ hr
  have : l = x := by omega
  subst this
  rw [e, Int.toNat_natCast, Int.toNat_natCast]
  rw [lev_same (n := outN n (sweepK n (reachO n) n.2.2.1.length).1) (m := rootsTo n (sweepK n (reachO n) n.2.2.1.length).1 (sweepK n (reachO n) n.2.2.1.length).2) (by rw [rootsTo_fir, outN_fir]) rfl]
  have := sweep_lev hP hC _ (Nat.le_refl _) (l / 2) (2 * z) hlN (.inr (hC.root l hr)) hat
  rw [show q / 2 = 2 * z / 2 by omega]
  exact this
theorem hash_dep {n : DNet} (hP : NetP n) : depO (hashO n) ≤ depO n := by
  rw [hash_yes (netB_of hP)]
  exact Int.le_trans (sweep_dep (preN_net hP)) (pre_dep hP)
end Go.Proofs.Ytiejilmgchmppaa
/- HsD: Structural hashing: a hashed net has nothing redundant, and is its own hash. -/
namespace Go.Proofs.Ytiejilmgchmppaa
open Go.RowKit
set_option linter.unusedVariables false
set_option linter.unusedSimpArgs false

/-- AND nodes without trivial or equal ones. -/
structure Norm (A : List DAnd) : Prop where
  shape : ∀ (k p q : Nat), A[k]? = some ((p : Int), (q : Int)) → 2 ≤ p ∧ p < q ∧ ¬ (p % 2 = 0 ∧ q = p + 1)
  dist : ∀ (i j : Nat) (a : DAnd), i < j → A[j]? = some a → A[i]? ≠ some a
theorem norm_nil : Norm [] := ⟨fun k p q h => (by cases h), fun i j a _ h => (by cases h)⟩
theorem norm_add {A : List DAnd} {p q : Nat} (h : Norm A) (h2 : 2 ≤ p ∧ p < q ∧ ¬ (p % 2 = 0 ∧ q = p + 1)) (hn : ∀ j : Nat, A[j]? ≠ some ((p : Int), (q : Int))) : Norm (A ++ [((p : Int), (q : Int))]) := by
  have key : ∀ (k : Nat) (a : DAnd), (A ++ [((p : Int), (q : Int))])[k]? = some a → (k < A.length ∧ A[k]? = some a) ∨ (k = A.length ∧ a = ((p : Int), (q : Int))) := fun k a hk => by
    by_cases hl : k < A.length
    · rw [List.getElem?_append_left hl] at hk; exact .inl ⟨hl, hk⟩
    · have := (List.getElem?_eq_some_iff.1 hk).1
      rw [List.length_append, List.length_singleton] at this
      rw [List.getElem?_append_right (by omega), show k - A.length = 0 by omega] at hk
      injection hk with hk
      exact .inr ⟨by omega, hk.symm⟩
  refine ⟨fun k x y hk => ?_, fun i j a hij hj hi => ?_⟩
  · rcases key k _ hk with ⟨_, hk⟩ | ⟨_, e⟩
    · exact h.shape k x y hk
    · injection e with e1 e2
      have e1 : x = p := by omega
      have e2 : y = q := by omega
      subst e1 e2
      exact h2
  · rcases key j _ hj with ⟨hjl, hj⟩ | ⟨e, ea⟩
    · rcases key i _ hi with ⟨_, hi⟩ | ⟨e2, _⟩
      · exact h.dist i j a hij hj hi
      · omega
    · rcases key i _ hi with ⟨_, hi⟩ | ⟨e2, _⟩
      · exact hn i (by rw [← ea]; exact hi)
      · omega
theorem andO_norm {n : DNet} {p q : Nat} (h : Norm n.2.2.1) : Norm (andO n p q).1.2.2.1 := by
  unfold andO
  split
  · exact h
  split
  · exact h
  rename_i c1
  split
  · exact h
  rename_i c2
  split
  · exact h
  rename_i c3
  rw [min_nat, max_nat]
  split
  · exact h
  · rename_i hi
    split
    · exact h
    · have hc : ¬ ((p : Int) = notI (q : Int)) := fun e => c1 (.inr (.inr e))
      obtain ⟨r, e, hr1, hr2⟩ := notI_nat q
      rw [e] at hc
      have p0 : ¬ (p : Int) = 0 := fun e => c1 (.inl e)
      have q0 : ¬ (q : Int) = 0 := fun e => c1 (.inr (.inl e))
      have p1 : ¬ (p : Int) = 1 := fun e => c2 (.inl e)
      have pq : ¬ (p : Int) = (q : Int) := fun e => c2 (.inr e)
      refine norm_add h ⟨by omega, by omega, ?_⟩ (idxG_none hi)
      rintro ⟨h1, h2⟩
      omega
theorem hash_norm {n : DNet} (hP : NetP n) : ∀ k, k ≤ n.2.2.1.length → Norm (hashK n k).1.2.2.1
  | 0, _ => norm_nil
  | k + 1, hk => by
    have ih := hash_norm hP k (by omega)
    have h := hinv_all hP k (by omega)
    obtain ⟨a, ha⟩ : ∃ a, n.2.2.1[k]? = some a := ⟨_, List.getElem?_eq_getElem (by omega)⟩
    obtain ⟨p, q, rfl, hp, hq⟩ := hP.and_ k a ha
    obtain ⟨P, eP, _, _⟩ := hinv_map h hP (by omega) hp
    obtain ⟨Q, eQ, _, _⟩ := hinv_map h hP (by omega) hq
    rw [hashK_step ha]
    dsimp only
    rw [eP, eQ]
    exact andO_norm ih
theorem pre_norm {n : DNet} (hP : NetP n) : Norm (preN n).2.2.1 := hash_norm hP _ (Nat.le_refl _)
section
variable {n : DNet} {keep : List Bool} {k : Nat} {A : List DAnd} {to : List Int}
/-- Copies of live literals keep their order. -/
theorem sinv_order (hP : NetP n) (h : SInv n keep k A to) {l m : Nat} (hl : l / 2 < firN n + k) (hm : m / 2 < firN n + k) (vl : Live n keep (l / 2)) (vm : Live n keep (m / 2)) {q r : Nat} (eq : mapI to (l : Int) = (q : Int)) (er : mapI to (m : Int) = (r : Int)) :
    (l / 2 = m / 2 → q / 2 = r / 2) ∧ (l / 2 < m / 2 → q / 2 < r / 2) ∧ q % 2 = l % 2 ∧ r % 2 = m % 2 := by
  obtain ⟨q', z, hz, e1, hq, _⟩ := sinv_map hP h hl vl
  obtain ⟨r', y, hy, e2, hr, _⟩ := sinv_map hP h hm vm
  have : q = q' := by omega
  have : r = r' := by omega
  subst q' r'
  refine ⟨fun e => ?_, fun e => ?_, by omega, by omega⟩
  · rw [e] at hz
    rw [hz] at hy
    injection hy with hy
    omega
  · have := h.mono _ _ _ _ e hm vl vm hz hy
    omega
theorem sinv_inj (hP : NetP n) (h : SInv n keep k A to) {l m : Nat} (hl : l / 2 < firN n + k) (hm : m / 2 < firN n + k) (vl : Live n keep (l / 2)) (vm : Live n keep (m / 2)) (e : mapI to (l : Int) = mapI to (m : Int)) : l = m := by
  obtain ⟨q, _, _, e1, _⟩ := sinv_map hP h hl vl
  obtain ⟨r, _, _, e2, _⟩ := sinv_map hP h hm vm
  have o1 := sinv_order hP h hl hm vl vm e1 e2
  have o2 := sinv_order hP h hm hl vm vl e2 e1
  have : q = r := by omega
  subst this
  rcases Nat.lt_trichotomy (l / 2) (m / 2) with c | c | c
  · have := o1.2.1 c; omega
  · omega
  · have := o2.2.1 c; omega
theorem sinv_two (hP : NetP n) (h : SInv n keep k A to) {l : Nat} (hl : l / 2 < firN n + k) (vl : Live n keep (l / 2)) (h2 : 2 ≤ l) {q : Nat} (eq : mapI to (l : Int) = (q : Int)) : 2 ≤ q := by
  have hf := hP.sz.fir_le
  have v0 : Live n keep (0 / 2) := .inl (by omega)
  obtain ⟨r, z, hz, er, hr, _⟩ := sinv_map hP h (l := 0) (by omega) v0
  have o := sinv_order hP h (l := 0) (by omega) hl v0 vl er eq
  have := o.2.1 (by omega)
  omega
theorem sweep_norm (hP : NetP n) (hC : Closed n keep) (hN : Norm n.2.2.1) (h : SInv n keep k A to) (hk : k ≤ n.2.2.1.length) : Norm A := by
  have parts : ∀ (t : Nat) (a : DAnd), A[t]? = some a → ∃ i p q P Q : Nat, i < k ∧ n.2.2.1[i]? = some ((p : Int), (q : Int)) ∧ to[firN n + i]? = some ((2 * (firN n + t) : Nat) : Int) ∧ keep.getD (firN n + i) false = true ∧ p / 2 < firN n + k ∧ q / 2 < firN n + k ∧ Live n keep (p / 2) ∧ Live n keep (q / 2) ∧ mapI to (p : Int) = (P : Int) ∧ mapI to (q : Int) = (Q : Int) ∧ a = ((P : Int), (Q : Int)) := fun t a ht => by
    obtain ⟨i, p, q, hi, hia, hik, hit, ea⟩ := h.sur t a ht
    obtain ⟨x, y, e, hx, hy⟩ := hP.and_ i _ hia
    injection e with e1 e2
    have e1 : p = x := by omega
    have e2 : q = y := by omega
    subst e1 e2
    obtain ⟨c1, c2⟩ := hC.edge i p q hia hik
    obtain ⟨P, _, _, eP, _⟩ := sinv_map hP h (l := p) (by omega) (.inr c1)
    obtain ⟨Q, _, _, eQ, _⟩ := sinv_map hP h (l := q) (by omega) (.inr c2)
    exact ⟨i, p, q, P, Q, hi, hia, hit, hik, by omega, by omega, .inr c1, .inr c2, eP, eQ, by rw [ea, eP, eQ]⟩
  refine ⟨fun t x y ht => ?_, fun s t a hst ht hs => ?_⟩
  · obtain ⟨i, p, q, P, Q, hi, hia, hit, hik, hp, hq, vp, vq, eP, eQ, ea⟩ := parts t _ ht
    injection ea with e1 e2
    have e1 : x = P := by omega
    have e2 : y = Q := by omega
    subst e1 e2
    obtain ⟨s1, s2, s3⟩ := hN.shape i p q hia
    have o := sinv_order hP h hp hq vp vq eP eQ
    have h2 := sinv_two hP h hp vp s1 eP
    have hlt : p / 2 < q / 2 := by omega
    have := o.2.1 hlt
    exact ⟨h2, by omega, by omega⟩
  · obtain ⟨i, p, q, P, Q, hi, hia, hit, hik, hp, hq, vp, vq, eP, eQ, ea⟩ := parts t _ ht
    obtain ⟨i', p', q', P', Q', hi', hia', hit', hik', hp', hq', vp', vq', eP', eQ', ea'⟩ := parts s _ hs
    rw [ea] at ea'
    injection ea' with e1 e2
    have ep : p = p' := sinv_inj hP h hp hp' vp vp' (by rw [eP, eP', e1])
    have eq : q = q' := sinv_inj hP h hq hq' vq vq' (by rw [eQ, eQ', e2])
    subst ep eq
    rcases Nat.lt_trichotomy i i' with c | c | c
    · exact hN.dist i i' _ c hia' hia
    · subst c
      rw [hit] at hit'
      injection hit' with hit'
      omega
    · exact hN.dist i' i _ c hia hia'
end
theorem seenL_inv (N : Nat) {R : List Int} {j : Nat} (h : (seenL N R).getD j false = true) : ∃ r ∈ R, r.toNat / 2 = j := by
  unfold seenL at h
  suffices ∀ (R : List Int) (M : List Bool), (R.foldl (fun M r => M.set (r.toNat / 2) true) M).getD j false = true → (∃ r ∈ R, r.toNat / 2 = j) ∨ M.getD j false = true by
    rcases this R _ h with h | h
    · exact h
    · rw [List.getD_eq_getElem?_getD, List.getElem?_replicate] at h
      split at h <;> simp at h
  intro R
  induction R with
  | nil => intro M h; exact .inr h
  | cons r R ih =>
    intro M h
    rw [List.foldl_cons] at h
    rcases ih _ h with ⟨s, hs, e⟩ | h
    · exact .inl ⟨s, List.mem_cons_of_mem _ hs, e⟩
    · rw [getD_set] at h
      split at h
      · rename_i c
        exact .inl ⟨r, List.mem_cons_self .., c.1⟩
      · exact .inr h
/-- All AND nodes of a swept net are reached. -/
theorem sweep_reached {n : DNet} (hP : NetP n) : ∀ t, t < (sweepO n).2.2.1.length → (reachO (sweepO n)).getD (firN (sweepO n) + t) false = true := by
  have hC := reach_closed hP
  have h := sinv_all hP hC _ (Nat.le_refl _)
  have hN := sweep_net hP
  have hC' := reach_closed hN
  have ek : reachO n = markL n (seenL (netN n) (rootsL n)) := by unfold reachO; rw [if_pos (netB_of hP)]
  obtain ⟨M', hM'⟩ : ∃ M', reachO (sweepO n) = M' := ⟨_, rfl⟩
  rw [hM'] at hC' ⊢
  rw [sweep_yes (netB_of hP)] at hC' ⊢
  obtain ⟨A, hA⟩ : ∃ A, (sweepK n (reachO n) n.2.2.1.length).1 = A := ⟨_, rfl⟩
  obtain ⟨to, hto⟩ : ∃ to, (sweepK n (reachO n) n.2.2.1.length).2 = to := ⟨_, rfl⟩
  rw [hA, hto] at h hC' ⊢
  rw [rootsTo_fir]
  have claim : ∀ s, s ≤ n.2.2.1.length → ∀ j z : Nat, (markK n (seenL (netN n) (rootsL n)) s).getD j false = true → to[j]? = some ((2 * z : Nat) : Int) → M'.getD z false = true := by
    intro s
    induction s with
    | zero =>
      intro _ j z hj hz
      obtain ⟨r, hr, e⟩ := seenL_inv (netN n) hj
      obtain ⟨l, rfl, hl⟩ := hP.root r hr
      rw [Int.toNat_natCast] at e
      obtain ⟨q, z', hz', eq, hq, _⟩ := sinv_map hP h hl (.inr (hC.root l hr))
      rw [e, hz] at hz'
      injection hz' with hz'
      have hm : ((q : Nat) : Int) ∈ rootsL (rootsTo n A to) := by rw [rootsTo_roots, ← eq]; exact List.mem_map.2 ⟨_, hr, rfl⟩
      have := hC'.root q hm
      rw [show q / 2 = z by omega] at this
      exact this
    | succ s ih =>
      intro hs j z hj hz
      have ih := ih (by omega)
      obtain ⟨k, hk⟩ : ∃ k, n.2.2.1.length - 1 - s = k := ⟨_, rfl⟩
      have hkl : k < n.2.2.1.length := by omega
      obtain ⟨a, ha⟩ : ∃ a, n.2.2.1[k]? = some a := ⟨_, List.getElem?_eq_getElem hkl⟩
      obtain ⟨p, q, rfl, hp, hq⟩ := hP.and_ k a ha
      unfold markK at hj
      rw [hk, ha] at hj
      dsimp only at hj
      cases hm : (markK n (seenL (netN n) (rootsL n)) s).getD (firN n + k) false with
      | false =>
        rw [hm, if_neg (by decide)] at hj
        exact ih j z hj hz
      | true =>
        rw [hm, if_pos rfl] at hj
        -- the node is kept; its copy is reached
        have hkeep : (reachO n).getD (firN n + k) false = true := by
          rw [ek]
          have := markK_mono hm (n.2.2.1.length - s)
          rw [show s + (n.2.2.1.length - s) = n.2.2.1.length by omega] at this
          exact this
        obtain ⟨t, ht, hit⟩ := h.from_ k hkl hkeep
        have hMt := ih (firN n + k) (firN n + t) hm hit
        obtain ⟨b, hb⟩ : ∃ b, A[t]? = some b := ⟨_, List.getElem?_eq_getElem ht⟩
        obtain ⟨i, p', q', hi, hia, hik, hit', ea⟩ := h.sur t b hb
        have eik : i = k := by
          rcases Nat.lt_trichotomy i k with c | c | c
          · have := h.mono _ _ _ _ (show firN n + i < firN n + k by omega) (by omega) (.inr hik) (.inr hkeep) hit' hit
            omega
          · exact c
          · have := h.mono _ _ _ _ (show firN n + k < firN n + i by omega) (by omega) (.inr hkeep) (.inr hik) hit hit'
            omega
        subst eik
        rw [ha] at hia
        injection hia with hia
        injection hia with e1 e2
        have e1 : p = p' := by omega
        have e2 : q = q' := by omega
        subst e1 e2
        obtain ⟨c1, c2⟩ := hC.edge i p q ha hkeep
        obtain ⟨P, zp, hzp, eP, hPz, _⟩ := sinv_map hP h (l := p) (by omega) (.inr c1)
        obtain ⟨Q, zq, hzq, eQ, hQz, _⟩ := sinv_map hP h (l := q) (by omega) (.inr c2)
        rw [ea, eP, eQ] at hb
        have he := hC'.edge t P Q hb (by rw [rootsTo_fir]; exact hMt)
        rw [getD_set] at hj
        split at hj
        · rename_i cj
          rw [Int.toNat_natCast] at cj
          rw [← cj.1, hzq] at hz
          injection hz with hz
          rw [show z = Q / 2 by omega]
          exact he.2
        · rw [getD_set] at hj
          split at hj
          · rename_i cj
            rw [Int.toNat_natCast] at cj
            rw [← cj.1, hzp] at hz
            injection hz with hz
            rw [show z = P / 2 by omega]
            exact he.1
          · exact ih j z hj hz
  intro t ht
  obtain ⟨b, hb⟩ : ∃ b, A[t]? = some b := ⟨_, List.getElem?_eq_getElem ht⟩
  obtain ⟨i, p, q, hi, hia, hik, hit, ea⟩ := h.sur t b hb
  refine claim n.2.2.1.length (Nat.le_refl _) (firN n + i) (firN n + t) ?_ hit
  rw [ek] at hik
  exact hik
end Go.Proofs.Ytiejilmgchmppaa
/- HsE: Structural hashing: what is hashed is its own hash. -/
namespace Go.Proofs.Ytiejilmgchmppaa
open Go.RowKit
set_option linter.unusedVariables false
set_option linter.unusedSimpArgs false

def idTo (n : DNet) (k : Nat) : List Int := (List.range (firN n + k)).map fun j : Nat => 2 * (j : Int)
theorem idTo_at {n : DNet} {k j : Nat} (h : j < firN n + k) : (idTo n k)[j]? = some ((2 * j : Nat) : Int) := by
  unfold idTo
  rw [List.getElem?_map, List.getElem?_range h]
  simp
theorem idTo_len (n : DNet) (k : Nat) : (idTo n k).length = firN n + k := by simp [idTo]
theorem idTo_zero (n : DNet) : toK0 n = idTo n 0 := rfl
theorem idTo_step (n : DNet) (k : Nat) : idTo n k ++ [2 * ((firN n + k : Nat) : Int)] = idTo n (k + 1) := by
  unfold idTo
  rw [← Nat.add_assoc, List.range_succ, List.map_append]
  rfl
theorem mapI_id {n : DNet} {k l : Nat} (h : l / 2 < firN n + k) : mapI (idTo n k) (l : Int) = (l : Int) := by
  have e : (idTo n k).getD ((l : Int).toNat / 2) 0 = ((2 * (l / 2) : Nat) : Int) := by rw [Int.toNat_natCast, List.getD_eq_getElem?_getD, idTo_at h]; rfl
  unfold mapI
  rw [e]
  split
  · omega
  · unfold notI
    rw [if_neg (by omega), if_pos (by omega)]
    omega
theorem take_step {A : List DAnd} {k : Nat} {a : DAnd} (h : A[k]? = some a) : A.take k ++ [a] = A.take (k + 1) := by
  rw [List.take_add_one, h]; rfl
theorem self_hash {n : DNet} (hP : NetP n) (hN : Norm n.2.2.1) : ∀ k, k ≤ n.2.2.1.length → hashK n k = (outN n (n.2.2.1.take k), idTo n k)
  | 0, _ => rfl
  | k + 1, hk => by
    have ih := self_hash hP hN k (by omega)
    have h := hinv_all hP k (by omega)
    rw [ih] at h
    have hNet := h.net
    dsimp only at hNet
    obtain ⟨a, ha⟩ : ∃ a, n.2.2.1[k]? = some a := ⟨_, List.getElem?_eq_getElem (by omega)⟩
    obtain ⟨p, q, rfl, hp, hq⟩ := hP.and_ k a ha
    obtain ⟨s1, s2, s3⟩ := hN.shape k p q ha
    have a300 := hP.sz.a300
    have htl : (n.2.2.1.take k).length = k := by rw [List.length_take]; omega
    have hoN : netN (outN n (n.2.2.1.take k)) = firN n + k := by rw [outN_len, htl]
    rw [hashK_step ha, ih]
    dsimp only
    rw [mapI_id hp, mapI_id hq]
    have e : andO (outN n (n.2.2.1.take k)) (p : Int) (q : Int) = (addN (outN n (n.2.2.1.take k)) ((p : Int), (q : Int)), 2 * (netN (outN n (n.2.2.1.take k)) : Int)) := by
      unfold andO
      rw [if_neg (fun c => c ⟨netB_of hNet, by rw [hNet.sz.nc]; exact lit_nat (by rw [hoN]; exact hp), by rw [hNet.sz.nc]; exact lit_nat (by rw [hoN]; exact hq)⟩)]
      have c1 : ¬ ((p : Int) = 0 ∨ (q : Int) = 0 ∨ (p : Int) = notI (q : Int)) := by
        rintro (c | c | c)
        · omega
        · omega
        · obtain ⟨r, er, h1, h2⟩ := notI_nat q
          omega
      rw [if_neg c1, if_neg (by omega), if_neg (by omega), min_nat, max_nat, Nat.min_eq_left (by omega), Nat.max_eq_right (by omega)]
      have hi : idxG ((p : Int), (q : Int)) (outN n (n.2.2.1.take k)).2.2.1 0 = none := idxG_miss fun j hj hjx => by
        have hj2 : j < k := by
          have hj' : j < (n.2.2.1.take k).length := hj
          rw [htl] at hj'; exact hj'
        have hjx' : (n.2.2.1.take k)[j]? = some ((p : Int), (q : Int)) := hjx
        rw [List.getElem?_take_of_lt hj2] at hjx'
        exact hN.dist j k _ hj2 ha hjx'
      rw [hi]
      dsimp only
      rw [if_neg (by show ¬ (n.2.2.1.take k).length = 300; rw [htl]; omega)]
    rw [e]
    dsimp only
    rw [hoN, idTo_step]
    have e2 : addN (outN n (n.2.2.1.take k)) ((p : Int), (q : Int)) = outN n (n.2.2.1.take (k + 1)) := by
      rw [← take_step ha]; rfl
    rw [e2]
theorem map_self {L : List Int} {f : Int → Int} (h : ∀ r ∈ L, f r = r) : L.map f = L := by
  conv => rhs; rw [← List.map_id L]
  exact List.map_congr_left h
theorem roots_self {n : DNet} (hP : NetP n) : rootsTo n n.2.2.1 (idTo n n.2.2.1.length) = n := by
  have hid : ∀ r ∈ rootsL n, mapI (idTo n n.2.2.1.length) r = r := fun r hr => by
    obtain ⟨l, rfl, hl⟩ := hP.root r hr
    exact mapI_id hl
  have e1 : n.2.2.2.map (mapI (idTo n n.2.2.1.length)) = n.2.2.2 := map_self fun r hr => hid r (by unfold rootsL; exact List.mem_append.2 (.inl hr))
  have e2 : n.2.1.map (fun s => (s.1, s.2.1, s.2.2.map (mapI (idTo n n.2.2.1.length)))) = n.2.1 := by
    conv => rhs; rw [← List.map_id n.2.1]
    refine List.map_congr_left fun s hs => ?_
    have : s.2.2.map (mapI (idTo n n.2.2.1.length)) = s.2.2 := map_self fun r hr => hid r (by unfold rootsL; exact List.mem_append.2 (.inr (List.mem_flatMap.2 ⟨s, hs, hr⟩)))
    rw [this]
    rfl
  unfold rootsTo
  rw [e1, e2]
theorem pre_self {n : DNet} (hP : NetP n) (hN : Norm n.2.2.1) : preN n = n := by
  unfold preN
  rw [self_hash hP hN _ (Nat.le_refl _)]
  show rootsTo n (n.2.2.1.take n.2.2.1.length) (idTo n n.2.2.1.length) = n
  rw [List.take_length]
  exact roots_self hP
theorem self_sweep {n : DNet} {keep : List Bool} (hP : NetP n) (hR : ∀ t, t < n.2.2.1.length → keep.getD (firN n + t) false = true) : ∀ k, k ≤ n.2.2.1.length → sweepK n keep k = (n.2.2.1.take k, idTo n k)
  | 0, _ => rfl
  | k + 1, hk => by
    have ih := self_sweep hP hR k (by omega)
    obtain ⟨a, ha⟩ : ∃ a, n.2.2.1[k]? = some a := ⟨_, List.getElem?_eq_getElem (by omega)⟩
    obtain ⟨p, q, rfl, hp, hq⟩ := hP.and_ k a ha
    have htl : (n.2.2.1.take k).length = k := by rw [List.length_take]; omega
    rw [sweepK_yes ha (hR k (by omega)), ih]
    dsimp only
    rw [mapI_id hp, mapI_id hq, htl, idTo_step, take_step ha]
theorem sweep_self {n : DNet} (hP : NetP n) (hR : ∀ t, t < n.2.2.1.length → (reachO n).getD (firN n + t) false = true) : sweepO n = n := by
  rw [sweep_yes (netB_of hP), self_sweep hP hR _ (Nat.le_refl _)]
  show rootsTo n (n.2.2.1.take n.2.2.1.length) (idTo n n.2.2.1.length) = n
  rw [List.take_length]
  exact roots_self hP
theorem hash_self {n : DNet} (hP : NetP n) (hN : Norm n.2.2.1) (hR : ∀ t, t < n.2.2.1.length → (reachO n).getD (firN n + t) false = true) : hashO n = n := by
  rw [hash_yes (netB_of hP), pre_self hP hN, sweep_self hP hR]
/-- A hashed net is normal, and all its AND nodes are reached. -/
theorem hash_good {n : DNet} (hP : NetP n) : Norm (hashO n).2.2.1 ∧ ∀ t, t < (hashO n).2.2.1.length → (reachO (hashO n)).getD (firN (hashO n) + t) false = true := by
  have hQ := preN_net hP
  rw [hash_yes (netB_of hP)]
  refine ⟨?_, sweep_reached hQ⟩
  have hC := reach_closed hQ
  have h := sinv_all hQ hC _ (Nat.le_refl _)
  rw [sweep_yes (netB_of hQ)]
  exact sweep_norm hQ hC (pre_norm hP) h (Nat.le_refl _)
theorem hash_again {n : DNet} (hP : NetP n) : hashO (hashO n) = hashO n ∧ sweepO (hashO n) = hashO n := by
  have hg := hash_good hP
  have hN := hash_net hP
  exact ⟨hash_self hN hg.1 hg.2, sweep_self hN hg.2⟩
theorem hash_ins {n : DNet} (hP : NetP n) : (hashO n).1 = n.1 ∧ (hashO n).2.2.2.length = n.2.2.2.length := by
  have hQ := preN_net hP
  rw [hash_yes (netB_of hP), sweep_yes (netB_of hQ)]
  unfold rootsTo
  dsimp only
  rw [List.length_map]
  unfold preN rootsTo
  simp
/-- What IsHashed asks of an AND node. -/
def shapeB (a : DAnd) : Bool := decide (2 ≤ a.1 ∧ a.1 < a.2 ∧ ¬ (a.1 % 2 = 0 ∧ a.2 = a.1 + 1))
def freshB (A : List DAnd) (i : Nat) (a : DAnd) : Bool := (List.range i).all fun k => !decide (A[k]? = some a)
def hashAt (n : DNet) (keep : List Bool) (i : Nat) : Bool := match n.2.2.1[i]? with
  | some a => keep.getD (firN n + i) false && (shapeB a && freshB n.2.2.1 i a)
  | none => true
/-- What IsHashed answers. -/
def hashedB (n : DNet) : Bool := netB n && (List.range n.2.2.1.length).all (hashAt n (reachO n))
theorem hashed_of {n : DNet} (hP : NetP n) (hN : Norm n.2.2.1) (hR : ∀ t, t < n.2.2.1.length → (reachO n).getD (firN n + t) false = true) : hashedB n = true := by
  unfold hashedB
  rw [netB_of hP, Bool.true_and]
  refine List.all_eq_true.2 fun i hi => ?_
  have hi := List.mem_range.1 hi
  obtain ⟨a, ha⟩ : ∃ a, n.2.2.1[i]? = some a := ⟨_, List.getElem?_eq_getElem hi⟩
  obtain ⟨p, q, rfl, hp, hq⟩ := hP.and_ i a ha
  obtain ⟨s1, s2, s3⟩ := hN.shape i p q ha
  unfold hashAt
  rw [ha]
  dsimp only
  rw [hR i hi, Bool.true_and]
  have e1 : shapeB ((p : Int), (q : Int)) = true := decide_eq_true ⟨by dsimp only; omega, by dsimp only; omega, by dsimp only; omega⟩
  have e2 : freshB n.2.2.1 i ((p : Int), (q : Int)) = true := List.all_eq_true.2 fun k hk => by
    rw [decide_eq_false (hN.dist k i _ (List.mem_range.1 hk) ha)]; rfl
  rw [e1, e2]; rfl
theorem hash_hashed {n : DNet} (hP : NetP n) : hashedB (hashO n) = true := by
  have hg := hash_good hP
  exact hashed_of (hash_net hP) hg.1 hg.2
end Go.Proofs.Ytiejilmgchmppaa
