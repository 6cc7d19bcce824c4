/-
  Balancing: lists ordered by level, and the trees of conjunctions over them.
-/
import Derived.Test.YtiejilmgchmppaaBlM
namespace Go.Proofs.Ytiejilmgchmppaa
open Go.RowKit
set_option linter.unusedVariables false
set_option linter.unusedSimpArgs false

/-- The level of the node of a literal. -/
def lvI (n : DNet) (x : Int) : Int := lev n (x.toNat / 2)
def ltL (n : DNet) (a b : Int) : Prop := lvI n a < lvI n b ∨ (lvI n a = lvI n b ∧ a < b)
instance decLt (n : DNet) (a b : Int) : Decidable (ltL n a b) := inferInstanceAs (Decidable (lvI n a < lvI n b ∨ (lvI n a = lvI n b ∧ a < b)))
theorem ltL_asym (n : DNet) (a b : Int) (h : ltL n a b) : ¬ ltL n b a := by unfold ltL at *; omega
theorem ltL_trans (n : DNet) (a b c : Int) (h : ltL n a b) (g : ltL n b c) : ltL n a c := by unfold ltL at *; omega
theorem ltL_tot (n : DNet) (a b : Int) (h : a ≠ b) (g : ¬ ltL n a b) : ltL n b a := by unfold ltL at *; omega
/-- x before the first element that is greater. -/
def binK (n : DNet) (x : Int) : List Int → List Int
  | [] => [x]
  | y :: L => if ltL n x y then x :: y :: L else y :: binK n x L
def binL (n : DNet) (L : List Int) (x : Int) : List Int := if x ∈ L then L else binK n x L
theorem binK_len (n : DNet) (x : Int) : ∀ L, (binK n x L).length = L.length + 1
  | [] => rfl
  | y :: L => by
    unfold binK
    split
    · rfl
    · rw [List.length_cons, binK_len n x L, List.length_cons]
theorem binK_mem {n : DNet} {x y : Int} : ∀ {L : List Int}, y ∈ binK n x L ↔ y = x ∨ y ∈ L
  | [] => by simp [binK]
  | z :: L => by
    unfold binK
    split
    · rw [List.mem_cons]
    · rw [List.mem_cons, binK_mem, List.mem_cons]
      constructor
      · rintro (h | h | h)
        · exact .inr (.inl h)
        · exact .inl h
        · exact .inr (.inr h)
      · rintro (h | h | h)
        · exact .inr (.inl h)
        · exact .inl h
        · exact .inr (.inr h)
theorem binK_pw {n : DNet} {x : Int} : ∀ {L : List Int}, L.Pairwise (ltL n) → x ∉ L → (binK n x L).Pairwise (ltL n)
  | [], _, _ => by simp [binK]
  | y :: L, h, hx => by
    unfold binK
    rw [List.pairwise_cons] at h
    split
    · rename_i c
      refine List.pairwise_cons.2 ⟨fun b hb => ?_, List.pairwise_cons.2 h⟩
      rcases List.mem_cons.1 hb with e | hb
      · rw [e]; exact c
      · exact ltL_trans n _ _ _ c (h.1 b hb)
    · rename_i c
      refine List.pairwise_cons.2 ⟨fun b hb => ?_, binK_pw h.2 fun hm => hx (List.mem_cons_of_mem _ hm)⟩
      rcases binK_mem.1 hb with e | hb
      · rw [e]; exact ltL_tot n _ _ (fun e => hx (e ▸ List.mem_cons_self ..)) c
      · exact h.1 b hb
theorem binK_place {n : DNet} {L : List Int} {x : Int} {p : Nat} (h : L.Pairwise (ltL n)) (hp : PlaceI (ltL n) L x p) (hx : x ∉ L) : L.take p ++ x :: L.drop p = binK n x L :=
  ord_ext (ltL_asym n) (ins_pw (ltL_trans n) (ltL_tot n) h hp hx) (binK_pw h hx) fun y => by rw [ins_mem, binK_mem]
theorem binL_len (n : DNet) (L : List Int) (x : Int) : (binL n L x).length ≤ L.length + 1 ∧ L.length ≤ (binL n L x).length := by
  unfold binL
  split
  · omega
  · rw [binK_len]; omega
theorem binL_mem {n : DNet} {L : List Int} {x y : Int} : y ∈ binL n L x ↔ y = x ∨ y ∈ L := by
  unfold binL
  split
  · rename_i c
    constructor
    · exact .inr
    · rintro (h | h)
      · rw [h]; exact c
      · exact h
  · exact binK_mem
theorem binL_ne {n : DNet} {L : List Int} {x : Int} : binL n L x ≠ [] := fun e => by
  have := (binL_mem (n := n) (L := L) (x := x) (y := x)).2 (.inl rfl)
  rw [e] at this; cases this
theorem binL_pw {n : DNet} {L : List Int} {x : Int} (h : L.Pairwise (ltL n)) : (binL n L x).Pairwise (ltL n) := by
  unfold binL
  split
  · exact h
  · rename_i c; exact binK_pw h c
/-! the insertion, element by element -/
theorem binK_first {n : DNet} {x y : Int} : ∀ {A : List Int}, (∀ z ∈ A, ¬ ltL n x z) → ltL n x y → binK n x (A ++ [y]) = A ++ [x, y]
  | [], _, h => by unfold binK; rw [List.nil_append]; dsimp only; rw [if_pos h]; rfl
  | a :: A, ha, h => by
    rw [List.cons_append]
    unfold binK
    rw [if_neg (ha a (List.mem_cons_self ..)), binK_first (fun z hz => ha z (List.mem_cons_of_mem _ hz)) h]
    rfl
theorem binK_last {n : DNet} {x : Int} : ∀ {A : List Int}, (∀ z ∈ A, ¬ ltL n x z) → binK n x A = A ++ [x]
  | [], _ => rfl
  | a :: A, ha => by
    unfold binK
    rw [if_neg (ha a (List.mem_cons_self ..)), binK_last (fun z hz => ha z (List.mem_cons_of_mem _ hz))]
    rfl
theorem binK_app {n : DNet} {x : Int} : ∀ {A B : List Int}, (∃ z ∈ A, ltL n x z) → binK n x (A ++ B) = binK n x A ++ B
  | [], B, h => by obtain ⟨z, hz, _⟩ := h; cases hz
  | a :: A, B, h => by
    rw [List.cons_append]
    unfold binK
    by_cases c : ltL n x a
    · rw [if_pos c, if_pos c]; rfl
    · rw [if_neg c, if_neg c, List.cons_append, binK_app]
      obtain ⟨z, hz, hl⟩ := h
      rcases List.mem_cons.1 hz with e | hz
      · exact absurd (e ▸ hl) c
      · exact ⟨z, hz, hl⟩
/-- The list and whether x is in it, k elements seen. -/
def binS (n : DNet) (L : List Int) (x : Int) (k : Nat) : List Int × Bool :=
  if ∃ z ∈ L.take k, ltL n x z then (binK n x (L.take k), true) else (L.take k, false)
theorem binS_zero (n : DNet) (L : List Int) (x : Int) : binS n L x 0 = ([], false) := by
  unfold binS; rw [if_neg (by rintro ⟨z, hz, _⟩; simp at hz)]; simp
theorem binS_step {n : DNet} {L : List Int} {x y : Int} {k : Nat} (h : L[k]? = some y) : binS n L x (k + 1) = (if (binS n L x k).2 = false ∧ ltL n x y then (binS n L x k).1 ++ [x, y] else (binS n L x k).1 ++ [y], (binS n L x k).2 || decide (ltL n x y)) := by
  have e : L.take (k + 1) = L.take k ++ [y] := by rw [List.take_add_one, h]; rfl
  unfold binS
  rw [e]
  by_cases c : ∃ z ∈ L.take k, ltL n x z
  · have c' : ∃ z ∈ L.take k ++ [y], ltL n x z := by obtain ⟨z, hz, hl⟩ := c; exact ⟨z, List.mem_append.2 (.inl hz), hl⟩
    rw [if_pos c, if_pos c', if_neg (by rintro ⟨h, _⟩; cases h), binK_app c]
    rfl
  · rw [if_neg c]
    have hno : ∀ z ∈ L.take k, ¬ ltL n x z := fun z hz hl => c ⟨z, hz, hl⟩
    by_cases d : ltL n x y
    · have c' : ∃ z ∈ L.take k ++ [y], ltL n x z := ⟨y, by simp, d⟩
      rw [if_pos c', if_pos ⟨rfl, d⟩, binK_first hno d, decide_eq_true d]; rfl
    · have c' : ¬ ∃ z ∈ L.take k ++ [y], ltL n x z := by
        rintro ⟨z, hz, hl⟩
        rcases List.mem_append.1 hz with hz | hz
        · exact c ⟨z, hz, hl⟩
        · rw [List.mem_singleton] at hz; exact d (hz ▸ hl)
      rw [if_neg c', if_neg (fun c => d c.2), decide_eq_false d]; rfl
theorem binS_end {n : DNet} {L : List Int} {x : Int} (hx : x ∉ L) : (if (binS n L x L.length).2 = true then (binS n L x L.length).1 else (binS n L x L.length).1 ++ [x]) = binL n L x := by
  unfold binL binS
  rw [if_neg hx, List.take_length]
  by_cases c : ∃ z ∈ L, ltL n x z
  · rw [if_pos c, if_pos rfl]
  · rw [if_neg c, if_neg (by simp), binK_last fun z hz hl => c ⟨z, hz, hl⟩]
theorem binS_len (n : DNet) (L : List Int) (x : Int) (k : Nat) (hk : k ≤ L.length) : (binS n L x k).1.length ≤ k + 1 ∧ ∀ y ∈ (binS n L x k).1, y = x ∨ y ∈ L := by
  unfold binS
  split
  · refine ⟨by rw [binK_len, List.length_take]; omega, fun y hy => ?_⟩
    rcases binK_mem.1 hy with h | h
    · exact .inl h
    · exact .inr (List.mem_of_mem_take h)
  · exact ⟨by rw [List.length_take]; omega, fun y hy => .inr (List.mem_of_mem_take hy)⟩
/-! weights -/
def wsum (n : DNet) (L : List Int) : Nat := (L.map fun y => wt n y.toNat).sum
theorem wsum_cons (n : DNet) (a : Int) (L : List Int) : wsum n (a :: L) = wt n a.toNat + wsum n L := by unfold wsum; rw [List.map_cons, List.sum_cons]
theorem wsum_binK (n : DNet) (x : Int) : ∀ L, wsum n (binK n x L) = wsum n L + wt n x.toNat
  | [] => by unfold binK; rw [wsum_cons]; unfold wsum; simp
  | y :: L => by
    unfold binK
    split
    · rw [wsum_cons]; omega
    · rw [wsum_cons, wsum_binK n x L, wsum_cons]; omega
theorem wsum_binL (n : DNet) (L : List Int) (x : Int) : wsum n (binL n L x) ≤ wsum n L + wt n x.toNat := by
  unfold binL
  split
  · omega
  · rw [wsum_binK]; exact Nat.le_refl _
theorem wt_pos (n : DNet) (l : Nat) : 0 < wt n l := Nat.pow_pos (by omega)
theorem wt_le {n : DNet} {a b : Int} (h : lvI n a ≤ lvI n b) : wt n a.toNat ≤ wt n b.toNat := by
  unfold wt lvI at *
  exact Nat.pow_le_pow_right (by omega) (by omega)
/-- Elements whose levels are not less have weights that are multiples. -/
theorem wsum_dvd {n : DNet} {b : Int} : ∀ {L : List Int}, (∀ y ∈ L, lvI n b ≤ lvI n y) → ∃ K, wsum n L = wt n b.toNat * K
  | [], _ => ⟨0, by unfold wsum; simp⟩
  | y :: L, h => by
    obtain ⟨K, hK⟩ := wsum_dvd (L := L) fun z hz => h z (List.mem_cons_of_mem _ hz)
    have h1 := h y (List.mem_cons_self ..)
    have h0 := lev_pos n (b.toNat / 2)
    unfold lvI at h1
    obtain ⟨d, hd⟩ : ∃ d, (lev n (y.toNat / 2)).toNat = (lev n (b.toNat / 2)).toNat + d := ⟨(lev n (y.toNat / 2)).toNat - (lev n (b.toNat / 2)).toNat, by omega⟩
    refine ⟨2 ^ d + K, ?_⟩
    rw [wsum_cons, hK, Nat.mul_add]
    congr 1
    unfold wt
    rw [hd, Nat.pow_add]
/-- Joining the two least leaves room. -/
theorem wsum_join {n : DNet} {a b : Int} {R : List Int} {T : Nat} (h : (a :: b :: R).Pairwise (ltL n)) (hw : wsum n (a :: b :: R) ≤ 2 ^ T) : wsum n R + 2 * wt n b.toNat ≤ 2 ^ T := by
  rw [List.pairwise_cons, List.pairwise_cons] at h
  rw [wsum_cons, wsum_cons] at hw
  have hge : ∀ y ∈ R, lvI n b ≤ lvI n y := fun y hy => by have := h.2.1 y hy; unfold ltL at this; omega
  obtain ⟨K, hK⟩ := wsum_dvd hge
  have ha := wt_pos n a.toNat
  have hb : wt n b.toNat = 2 ^ (lev n (b.toNat / 2)).toNat := rfl
  generalize (lev n (b.toNat / 2)).toNat = B at hb
  rw [hb] at hw hK ⊢
  have hBT : B ≤ T := by
    by_cases c : B ≤ T
    · exact c
    · have := Nat.pow_lt_pow_right (show 1 < 2 by omega) (show T < B by omega); omega
  obtain ⟨d, rfl⟩ : ∃ d, T = B + d := ⟨T - B, by omega⟩
  rw [Nat.pow_add] at hw ⊢
  rw [hK] at hw ⊢
  have h1 : 2 ^ B * (K + 1) < 2 ^ B * 2 ^ d := by rw [Nat.mul_add]; omega
  have h2 := Nat.lt_of_mul_lt_mul_left h1
  have h3 : 2 ^ B * (K + 2) ≤ 2 ^ B * 2 ^ d := Nat.mul_le_mul_left _ (by omega)
  rw [Nat.mul_add] at h3
  omega
/-! the tree -/
def LitN (n : DNet) (a : Int) : Prop := ∃ p : Nat, a = (p : Int) ∧ p / 2 < netN n
def treeF : Nat → DNet → List Int → Option (DNet × Int)
  | 0, _, _ => none
  | f + 1, m, L => match L with
    | [] => none
    | [a] => some (m, a)
    | a :: b :: R => if (andO m a b).2 < 0 then none else treeF f (andO m a b).1 (binL (andO m a b).1 R (andO m a b).2)
theorem treeF_one (f : Nat) (m : DNet) (a : Int) : treeF (f + 1) m [a] = some (m, a) := rfl
theorem treeF_two (f : Nat) (m : DNet) (a b : Int) (R : List Int) : treeF (f + 1) m (a :: b :: R) = if (andO m a b).2 < 0 then none else treeF f (andO m a b).1 (binL (andO m a b).1 R (andO m a b).2) := rfl
structure TreeP (m : DNet) (L : List Int) (T : Nat) (P : List Int → Int → Prop) : Prop where
  net : NetP m
  lit : ∀ a ∈ L, LitN m a
  ne : L ≠ []
  pw : L.Pairwise (ltL m)
  val : ∀ (st : List Int) (x : Int), st.length = m.2.1.length → ((∀ a ∈ L, bitV (allV m st x) a.toNat = 1) ↔ P st x)
  wt : wsum m L ≤ 2 ^ T
theorem lvI_ext {n m : DNet} (hP : NetP n) (hm : NetP m) (h : Ext n m) {a : Int} (ha : LitN n a) : lvI m a = lvI n a := by
  obtain ⟨p, rfl, hp⟩ := ha
  unfold lvI
  rw [Int.toNat_natCast]
  exact lev_ext hP hm h _ hp
theorem ltL_ext {n m : DNet} (hP : NetP n) (hm : NetP m) (h : Ext n m) {a b : Int} (ha : LitN n a) (hb : LitN n b) : ltL m a b ↔ ltL n a b := by
  unfold ltL; rw [lvI_ext hP hm h ha, lvI_ext hP hm h hb]
theorem wsum_ext {n m : DNet} (hP : NetP n) (hm : NetP m) (h : Ext n m) : ∀ {L : List Int}, (∀ a ∈ L, LitN n a) → wsum m L = wsum n L
  | [], _ => rfl
  | a :: L, hl => by
    rw [wsum_cons, wsum_cons, wsum_ext hP hm h fun b hb => hl b (List.mem_cons_of_mem _ hb)]
    have := lvI_ext hP hm h (hl a (List.mem_cons_self ..))
    unfold Go.Proofs.Ytiejilmgchmppaa.wt lvI at *
    rw [this]
theorem pw_ext {n m : DNet} (hP : NetP n) (hm : NetP m) (h : Ext n m) {L : List Int} (hl : ∀ a ∈ L, LitN n a) (hp : L.Pairwise (ltL n)) : L.Pairwise (ltL m) := by
  induction L with
  | nil => exact List.Pairwise.nil
  | cons a L ih =>
    rw [List.pairwise_cons] at hp ⊢
    exact ⟨fun b hb => (ltL_ext hP hm h (hl a (List.mem_cons_self ..)) (hl b (List.mem_cons_of_mem _ hb))).2 (hp.1 b hb), ih (fun b hb => hl b (List.mem_cons_of_mem _ hb)) hp.2⟩
/-- The level of a gate that fits. -/
theorem andO_lv {n : DNet} {p q : Nat} (hP : NetP n) (hp : p / 2 < netN n) (hq : q / 2 < netN n) {z : Nat} (hz : (andO n p q).2 = (z : Int)) : lev (andO n p q).1 (z / 2) ≤ 1 + max (lev n (p / 2)) (lev n (q / 2)) := by
  by_cases h300 : n.2.2.1.length < 300
  · exact andO_lev hP hp hq h300 hz
  have hv : netB n = true ∧ litB (ncI n) (p : Int) = true ∧ litB (ncI n) (q : Int) = true := ⟨netB_of hP, by rw [hP.sz.nc]; exact lit_nat hp, by rw [hP.sz.nc]; exact lit_nat hq⟩
  have l1 := lev_pos n (p / 2)
  have l2 := lev_pos n (q / 2)
  have a300 := hP.sz.a300
  revert hz
  unfold andO
  rw [if_neg (fun c => c hv)]
  by_cases c1 : (p : Int) = 0 ∨ (q : Int) = 0 ∨ (p : Int) = notI (q : Int)
  · rw [if_pos c1]
    intro hz
    dsimp only at hz ⊢
    have : z = 0 := by omega
    subst this
    have := hP.sz.fir_le
    rw [show 0 / 2 = 0 from rfl, lev_low (by omega)]
    omega
  rw [if_neg c1]
  by_cases c2 : (p : Int) = 1 ∨ (p : Int) = (q : Int)
  · rw [if_pos c2]
    intro hz
    dsimp only at hz ⊢
    have : z = q := by omega
    subst this
    omega
  rw [if_neg c2]
  by_cases c3 : (q : Int) = 1
  · rw [if_pos c3]
    intro hz
    dsimp only at hz ⊢
    have : z = p := by omega
    subst this
    omega
  rw [if_neg c3, min_nat, max_nat]
  have hmm : max (lev n (min p q / 2)) (lev n (max p q / 2)) = max (lev n (p / 2)) (lev n (q / 2)) := by
    by_cases h : p ≤ q
    · rw [Nat.min_eq_left h, Nat.max_eq_right h]
    · rw [Nat.min_eq_right (by omega), Nat.max_eq_left (by omega)]; omega
  cases hi : idxG (((min p q : Nat) : Int), ((max p q : Nat) : Int)) n.2.2.1 0 with
  | some i =>
    obtain ⟨_, h2, _⟩ := idxG_some hi
    rw [Nat.sub_zero] at h2
    intro hz
    dsimp only at hz ⊢
    have : z = 2 * (firN n + i) := by omega
    subst this
    rw [show 2 * (firN n + i) / 2 = firN n + i by omega, lev_and hP h2, hmm]
    exact Int.le_refl _
  | none =>
    dsimp only
    rw [if_pos (by omega)]
    intro hz
    dsimp only at hz
    omega
theorem tree_step {m : DNet} {a b : Int} {R : List Int} {T : Nat} {P : List Int → Int → Prop} (h : TreeP m (a :: b :: R) T P) (h0 : 0 ≤ (andO m a b).2) : Ext m (andO m a b).1 ∧ LitN (andO m a b).1 (andO m a b).2 ∧ TreeP (andO m a b).1 (binL (andO m a b).1 R (andO m a b).2) T P := by
  obtain ⟨p, rfl, hp⟩ := h.lit a (List.mem_cons_self ..)
  obtain ⟨q, rfl, hq⟩ := h.lit b (by simp)
  have hR : ∀ c ∈ R, LitN m c := fun c hc => h.lit c (by simp [hc])
  have g := andO_gate h.net hp hq h0
  obtain ⟨z, ez, hz, vz⟩ := g.lit
  have hE := g.ext
  have hm := hE.net h.net
  have hlv := andO_lv h.net hp hq ez
  have hpw := h.pw
  have hww := wsum_join hpw h.wt
  have hlt : ltL m (p : Int) (q : Int) := by rw [List.pairwise_cons] at hpw; exact hpw.1 _ (by simp)
  rw [List.pairwise_cons, List.pairwise_cons] at hpw
  refine ⟨hE, ⟨z, ez, hz⟩, hm, fun c hc => ?_, binL_ne, binL_pw (pw_ext h.net hm hE hR hpw.2.2), fun st x hl => ?_, ?_⟩
  · rcases binL_mem.1 hc with e | hc
    · rw [e]; exact ⟨z, ez, hz⟩
    · obtain ⟨r, e, hr⟩ := hR c hc
      exact ⟨r, e, by have := hE.netN; omega⟩
  · have hl' : st.length = m.2.1.length := by rw [← hE.s]; exact hl
    rw [← h.val st x hl']
    have b1 := bitV_in (allV m st x) p
    have b2 := bitV_in (allV m st x) q
    have hz1 : bitV (allV (andO m p q).1 st x) z = 1 ↔ bitV (allV m st x) p = 1 ∧ bitV (allV m st x) q = 1 := by
      rw [vz st x hl']
      rcases (mul_cases b1 b2).1 with h1 | h1 <;> rcases (mul_cases b1 b2).2 with h2 | h2 <;> rw [h1, h2] <;> decide
    have hold : ∀ c ∈ R, bitV (allV (andO m p q).1 st x) c.toNat = bitV (allV m st x) c.toNat := fun c hc => by
      obtain ⟨r, rfl, hr⟩ := hR c hc
      rw [Int.toNat_natCast]
      exact bit_ext hE x hl' hr
    constructor
    · intro hall c hc
      have hzz := hz1.1 (by have := hall _ (binL_mem.2 (.inl rfl)); rw [ez, Int.toNat_natCast] at this; exact this)
      rcases List.mem_cons.1 hc with e | hc
      · rw [e, Int.toNat_natCast]; exact hzz.1
      rcases List.mem_cons.1 hc with e | hc
      · rw [e, Int.toNat_natCast]; exact hzz.2
      · rw [← hold c hc]; exact hall c (binL_mem.2 (.inr hc))
    · intro hall c hc
      rcases binL_mem.1 hc with e | hc
      · rw [e, ez, Int.toNat_natCast]
        refine hz1.2 ⟨?_, ?_⟩
        · have := hall (p : Int) (List.mem_cons_self ..); rwa [Int.toNat_natCast] at this
        · have := hall (q : Int) (by simp); rwa [Int.toNat_natCast] at this
      · rw [hold c hc]; exact hall c (by simp [hc])
  · have h1 := wsum_binL (andO m p q).1 R (andO m p q).2
    rw [wsum_ext h.net hm hE hR] at h1
    have hle : lev m (p / 2) ≤ lev m (q / 2) := by unfold ltL lvI at hlt; rw [Int.toNat_natCast, Int.toNat_natCast] at hlt; omega
    have l2 := lev_pos m (q / 2)
    have hw : Go.Proofs.Ytiejilmgchmppaa.wt (andO m p q).1 (andO m p q).2.toNat ≤ 2 * Go.Proofs.Ytiejilmgchmppaa.wt m (q : Int).toNat := by
      rw [ez, Int.toNat_natCast, Int.toNat_natCast]
      unfold Go.Proofs.Ytiejilmgchmppaa.wt
      rw [show 2 * 2 ^ (lev m (q / 2)).toNat = 2 ^ ((lev m (q / 2)).toNat + 1) by rw [Nat.pow_succ]; omega]
      exact Nat.pow_le_pow_right (by omega) (by omega)
    omega
/-- What a tree gives. -/
theorem tree_all {T : Nat} {P : List Int → Int → Prop} : ∀ (f : Nat) {m : DNet} {L : List Int}, TreeP m L T P → ∀ {m' : DNet} {x : Int}, treeF f m L = some (m', x) →
    Ext m m' ∧ NetP m' ∧ LitN m' x ∧ lev m' (x.toNat / 2) ≤ T ∧ ∀ (st : List Int) (y : Int), st.length = m.2.1.length → (bitV (allV m' st y) x.toNat = 1 ↔ P st y)
  | 0, m, L, _, m', x, e => by cases e
  | f + 1, m, L, h, m', x, e => by
    match L, h, e with
    | [], h, e => exact absurd rfl h.ne
    | [a], h, e =>
      rw [treeF_one] at e
      injection e with e
      injection e with e1 e2
      subst e1 e2
      refine ⟨Ext.refl _, h.net, h.lit a (by simp), ?_, fun st y hl => ?_⟩
      · have h1 := h.wt
        rw [wsum_cons] at h1
        have h2 : Go.Proofs.Ytiejilmgchmppaa.wt m a.toNat = 2 ^ (lev m (a.toNat / 2)).toNat := rfl
        have h3 := lev_pos m (a.toNat / 2)
        by_cases c : (lev m (a.toNat / 2)).toNat ≤ T
        · omega
        · have := Nat.pow_lt_pow_right (show 1 < 2 by omega) (show T < (lev m (a.toNat / 2)).toNat by omega)
          omega
      · rw [← h.val st y hl]
        simp
    | a :: b :: R, h, e =>
      rw [treeF_two] at e
      by_cases c : (andO m a b).2 < 0
      · rw [if_pos c] at e; cases e
      rw [if_neg c] at e
      obtain ⟨hE, _, hT⟩ := tree_step h (by omega)
      obtain ⟨g1, g2, g3, g4, g5⟩ := tree_all f hT e
      exact ⟨hE.trans g1, g2, g3, g4, fun st y hl => g5 st y (by rw [hE.s]; exact hl)⟩
end Go.Proofs.Ytiejilmgchmppaa
