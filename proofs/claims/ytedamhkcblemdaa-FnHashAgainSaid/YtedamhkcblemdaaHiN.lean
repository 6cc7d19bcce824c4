/-
  HiM, MaG, HiA, HiB, HiC as one text.
-/
import Derived.Test.YtedamhkcblemdaaHsA
import Derived.Test.YtedamhkcblemdaaHcP
import Derived.Maps.OwnSet
import Derived.DeepKeys4
import Derived.BigQuiet
import Derived.Deep.QuietTactic
import Derived.Deep.RegionHeld3
/- HiM: Structural hashing: the program's gates as pure functions, and that they answer as the document's. -/
namespace Go.Proofs.Ytedamhkcblemdaa
open Go.RowKit
set_option linter.unusedVariables false
set_option linter.unusedSimpArgs false

/-- The complement, as the program takes it. -/
def cI (a : Int) : Int := if a % 2 = 0 then a + 1 else a - 1
theorem cI_notI {a : Int} (h : 0 ≤ a) : cI a = notI a := by
  unfold cI notI
  rw [if_neg (show ¬ a < 0 by omega)]
theorem cI_neg1 : cI (-1) = -2 := by decide
theorem cI_neg2 : cI (-2) = -1 := by decide
theorem cI_twice (a : Int) : cI (cI a) = a := by unfold cI; split <;> split <;> omega
theorem cI_low {a : Int} (h : a < 0) : cI a < 0 := by unfold cI; split <;> omega
theorem cI_high {a : Int} (h : 0 ≤ a) : 0 ≤ cI a := by unfold cI; split <;> omega
/-- What the program's `and` does to the AND nodes A, the first of which is node F, and what it answers. -/
def andG (F : Nat) (A : List DAnd) (a b : Int) : List DAnd × Int :=
  if min a b < 0 then (A, -1)
  else if min a b = 0 ∨ min a b = cI (max a b) then (A, 0)
  else if min a b = 1 ∨ min a b = max a b then (A, max a b)
  else match idxG (min a b, max a b) A 0 with
    | some i => (A, 2 * ((F + i : Nat) : Int))
    | none => if A.length = 300 then (A, -1) else (A ++ [(min a b, max a b)], 2 * ((F + A.length : Nat) : Int))
def orG (F : Nat) (A : List DAnd) (a b : Int) : List DAnd × Int := ((andG F A (cI a) (cI b)).1, cI (andG F A (cI a) (cI b)).2)
def xorG (F : Nat) (A : List DAnd) (a b : Int) : List DAnd × Int := orG F (andG F (andG F A a (cI b)).1 (cI a) b).1 (andG F A a (cI b)).2 (andG F (andG F A a (cI b)).1 (cI a) b).2
def muxG (F : Nat) (A : List DAnd) (s a b : Int) : List DAnd × Int := orG F (andG F (andG F A s a).1 (cI s) b).1 (andG F A s a).2 (andG F (andG F A s a).1 (cI s) b).2
def withA (n : DNet) (A : List DAnd) : DNet := (n.1, n.2.1, A, n.2.2.2)
/-- The net and the literal of a gate; what does not fit leaves the net. -/
def gateO (n : DNet) (r : List DAnd × Int) : DNet × Int := if r.2 < 0 then (n, -1) else (withA n r.1, r.2)
theorem withA_self (n : DNet) : withA n n.2.2.1 = n := rfl
theorem andG_low {F : Nat} {A : List DAnd} {a b : Int} (h : a < 0 ∨ b < 0) : andG F A a b = (A, -1) := by
  unfold andG; rw [if_pos (by omega)]
theorem andG_none {F : Nat} {A : List DAnd} {a b : Int} (h : (andG F A a b).2 < 0) : andG F A a b = (A, -1) := by
  by_cases hm : min a b < 0
  · unfold andG; rw [if_pos hm]
  revert h
  unfold andG
  rw [if_neg hm]
  split
  · intro h; dsimp only at h; omega
  split
  · intro h; dsimp only at h; omega
  split
  · intro h; dsimp only at h; omega
  · split
    · intro _; rfl
    · intro h; dsimp only at h; omega
def LitIn (n : DNet) (a : Int) : Prop := ∃ p : Nat, a = (p : Int) ∧ p / 2 < netN n
theorem litIn_of {n : DNet} {a : Int} (hP : NetP n) (h : litB (ncI n) a = true) : LitIn n a := by
  obtain ⟨p, e, hp, _⟩ := lit_of (hP.sz.nc ▸ h)
  exact ⟨p, e, hp⟩
theorem LitIn.ok {n : DNet} {a : Int} (hP : NetP n) (h : LitIn n a) : litB (ncI n) a = true := by
  obtain ⟨p, rfl, hp⟩ := h
  rw [hP.sz.nc]; exact lit_nat hp
theorem LitIn.pos {n : DNet} {a : Int} (h : LitIn n a) : 0 ≤ a := by obtain ⟨p, rfl, _⟩ := h; omega
theorem LitIn.not {n : DNet} {a : Int} (h : LitIn n a) : LitIn n (notI a) := by
  obtain ⟨p, rfl, hp⟩ := h
  obtain ⟨q, e, hq, _⟩ := notI_lit hp
  exact ⟨q, e, hq⟩
theorem LitIn.c {n : DNet} {a : Int} (h : LitIn n a) : LitIn n (cI a) := by rw [cI_notI h.pos]; exact h.not
theorem LitIn.mono {n m : DNet} {a : Int} (h : LitIn n a) (hN : netN n ≤ netN m) : LitIn m a := by obtain ⟨p, e, hp⟩ := h; exact ⟨p, e, by omega⟩
theorem andO_eqG {n : DNet} {a b : Int} (hP : NetP n) (ha : LitIn n a) (hb : LitIn n b) : andO n a b = (withA n (andG (firN n) n.2.2.1 a b).1, (andG (firN n) n.2.2.1 a b).2) := by
  have v := And.intro (netB_of hP) (And.intro (ha.ok hP) (hb.ok hP))
  have a0 := ha.pos
  have b0 := hb.pos
  have key : (a = 0 ∨ b = 0 ∨ a = notI b) ↔ (min a b = 0 ∨ min a b = cI (max a b)) := by
    rw [← cI_notI b0]
    unfold cI
    by_cases hab : a ≤ b
    · rw [Int.min_eq_left hab, Int.max_eq_right hab]
      split <;> omega
    · rw [Int.min_eq_right (by omega), Int.max_eq_left (by omega)]
      split <;> split <;> omega
  unfold andG
  rw [if_neg (by omega)]
  by_cases c1 : a = 0 ∨ b = 0 ∨ a = notI b
  · rw [andO_zero v c1, if_pos (key.1 c1)]; rfl
  rw [if_neg (fun c => c1 (key.2 c))]
  by_cases c2 : a = 1 ∨ a = b
  · rw [andO_right v c1 c2, if_pos (by omega)]
    rw [withA_self]
    refine Prod.ext rfl ?_
    dsimp only; omega
  by_cases c3 : b = 1
  · rw [andO_left v c1 c2 c3, if_pos (by omega)]
    rw [withA_self]
    refine Prod.ext rfl ?_
    dsimp only; omega
  rw [if_neg (by omega)]
  cases hi : idxG (min a b, max a b) n.2.2.1 0 with
  | some i => rw [andO_find v c1 c2 c3 hi]; rfl
  | none =>
    dsimp only
    by_cases c4 : n.2.2.1.length = 300
    · rw [andO_full v c1 c2 c3 hi c4, if_pos c4]; rfl
    · rw [andO_add v c1 c2 c3 hi c4, if_neg c4]; rfl
/-- One step: the net stays valid, and the answer is a literal of it or -1. -/
theorem and_step {n : DNet} {a b : Int} (hP : NetP n) (ha : a < 0 ∨ LitIn n a) (hb : b < 0 ∨ LitIn n b) :
    andO n a b = (withA n (andG (firN n) n.2.2.1 a b).1, (andG (firN n) n.2.2.1 a b).2) ∧ NetP (withA n (andG (firN n) n.2.2.1 a b).1) ∧ netN n ≤ netN (withA n (andG (firN n) n.2.2.1 a b).1) ∧ ((andG (firN n) n.2.2.1 a b).2 = -1 ∨ LitIn (withA n (andG (firN n) n.2.2.1 a b).1) (andG (firN n) n.2.2.1 a b).2) := by
  by_cases hl : a < 0 ∨ b < 0
  · rw [andG_low hl]
    exact ⟨andO_bad hl, by rw [withA_self]; exact hP, by rw [withA_self]; exact Nat.le_refl _, .inl rfl⟩
  have ha : LitIn n a := ha.resolve_left (fun h => hl (.inl h))
  have hb : LitIn n b := hb.resolve_left (fun h => hl (.inr h))
  have e := andO_eqG hP ha hb
  refine ⟨e, ?_⟩
  by_cases hr : (andG (firN n) n.2.2.1 a b).2 < 0
  · rw [andG_none hr]
    exact ⟨by rw [withA_self]; exact hP, by rw [withA_self]; exact Nat.le_refl _, .inl rfl⟩
  obtain ⟨p, rfl, hp⟩ := ha
  obtain ⟨q, rfl, hq⟩ := hb
  have g := andO_gate hP hp hq (by rw [e]; dsimp only; omega)
  obtain ⟨z, ez, hz, -⟩ := g.lit
  rw [e] at g ez hz
  exact ⟨g.ext.net hP, g.ext.netN, .inr ⟨z, ez, hz⟩⟩
theorem orO_eqG {n : DNet} {a b : Int} (hP : NetP n) (ha : a = -1 ∨ LitIn n a) (hb : b = -1 ∨ LitIn n b) : orO n a b = gateO n (orG (firN n) n.2.2.1 a b) := by
  have c : ∀ {x : Int}, (x = -1 ∨ LitIn n x) → notI x = cI x ∧ (cI x < 0 ∨ LitIn n (cI x)) := fun {x} h => by
    rcases h with rfl | h
    · exact ⟨rfl, .inl (by decide)⟩
    · exact ⟨(cI_notI h.pos).symm, .inr h.c⟩
  have s := (and_step hP (c ha).2 (c hb).2)
  unfold orO orG gateO
  rw [(c ha).1, (c hb).1, s.1]
  dsimp only
  by_cases h : (andG (firN n) n.2.2.1 (cI a) (cI b)).2 < 0
  · rw [if_pos h, if_pos (cI_low h)]
  · have hc : ¬ cI (andG (firN n) n.2.2.1 (cI a) (cI b)).2 < 0 := by have := cI_high (a := (andG (firN n) n.2.2.1 (cI a) (cI b)).2) (by omega); omega
    rw [if_neg h, if_neg hc, cI_notI (a := (andG (firN n) n.2.2.1 (cI a) (cI b)).2) (by omega)]
theorem joinO_eqG {n m : DNet} {a b : Int} (hP : NetP m) (hm : ∀ A, withA m A = withA n A) (ha : a = -1 ∨ LitIn m a) (hb : b = -1 ∨ LitIn m b) : joinO n m a b = gateO n (orG (firN m) m.2.2.1 a b) := by
  unfold joinO
  rw [orO_eqG hP ha hb]
  unfold gateO
  by_cases h : (orG (firN m) m.2.2.1 a b).2 < 0
  · rw [if_pos h, if_pos (by dsimp only; omega), if_pos h]
  · rw [if_neg h, if_neg (by dsimp only; omega), if_neg h, hm]
theorem xorO_eqG {n : DNet} {a b : Int} (hP : NetP n) (ha : LitIn n a) (hb : LitIn n b) : xorO n a b = gateO n (xorG (firN n) n.2.2.1 a b) := by
  unfold xorO xorG
  rw [← cI_notI ha.pos, ← cI_notI hb.pos]
  obtain ⟨e1, p1, n1, l1⟩ := and_step hP (.inr ha) (.inr hb.c)
  rw [e1]
  dsimp only
  obtain ⟨e2, p2, n2, l2⟩ := and_step p1 (a := cI a) (b := b) (.inr (ha.c.mono n1)) (.inr (hb.mono n1))
  rw [show firN (withA n (andG (firN n) n.2.2.1 a (cI b)).1) = firN n from rfl, show (withA n (andG (firN n) n.2.2.1 a (cI b)).1).2.2.1 = (andG (firN n) n.2.2.1 a (cI b)).1 from rfl] at e2 p2 n2 l2
  rw [e2]
  dsimp only
  exact joinO_eqG p2 (fun A => rfl) (l1.imp id (fun h => h.mono n2)) l2
theorem muxO_eqG {n : DNet} {s a b : Int} (hP : NetP n) (hs : LitIn n s) (ha : LitIn n a) (hb : LitIn n b) : muxO n s a b = gateO n (muxG (firN n) n.2.2.1 s a b) := by
  unfold muxO muxG
  rw [if_neg (fun c => c ⟨netB_of hP, hs.ok hP, ha.ok hP, hb.ok hP⟩)]
  rw [← cI_notI hs.pos]
  obtain ⟨e1, p1, n1, l1⟩ := and_step hP (.inr hs) (.inr ha)
  rw [e1]
  dsimp only
  obtain ⟨e2, p2, n2, l2⟩ := and_step p1 (a := cI s) (b := b) (.inr (hs.c.mono n1)) (.inr (hb.mono n1))
  rw [show firN (withA n (andG (firN n) n.2.2.1 s a).1) = firN n from rfl, show (withA n (andG (firN n) n.2.2.1 s a).1).2.2.1 = (andG (firN n) n.2.2.1 s a).1 from rfl] at e2 p2 n2 l2
  rw [e2]
  dsimp only
  exact joinO_eqG p2 (fun A => rfl) (l1.imp id (fun h => h.mono n2)) l2
theorem andO_gateO {n : DNet} {a b : Int} (hP : NetP n) (ha : LitIn n a) (hb : LitIn n b) : andO n a b = gateO n (andG (firN n) n.2.2.1 a b) := by
  rw [andO_eqG hP ha hb]
  unfold gateO
  by_cases h : (andG (firN n) n.2.2.1 a b).2 < 0
  · rw [if_pos h, andG_none h]; rfl
  · rw [if_neg h]
/-! what is no literal -/
def okL (n : DNet) (L : List Int) : Bool := netB n && L.all (litB (ncI n))
theorem notI_bad {n : DNet} {a : Int} (h : litB (ncI n) a = false) : litB (ncI n) (notI a) = false := by
  unfold litB at h ⊢
  have h := of_decide_eq_false h
  refine decide_eq_false fun c => h ?_
  obtain ⟨c1, c2⟩ := c
  unfold notI at c1 c2
  by_cases ha : a < 0
  · rw [if_pos ha] at c1; omega
  · rw [if_neg ha] at c1 c2
    refine ⟨by omega, ?_⟩
    obtain ⟨p, rfl⟩ : ∃ p : Nat, a = (p : Int) := ⟨a.toNat, by omega⟩
    rw [tdiv2]
    by_cases hp : (p : Int) % 2 = 0
    · rw [if_pos hp, show ((p : Int) + 1) = ((p + 1 : Nat) : Int) by omega, tdiv2] at c2; omega
    · rw [if_neg hp, show ((p : Int) - 1) = ((p - 1 : Nat) : Int) by omega, tdiv2] at c2; omega
theorem okL_two {n : DNet} {a b : Int} : okL n [a, b] = true ↔ (netB n = true ∧ litB (ncI n) a = true ∧ litB (ncI n) b = true) := by
  unfold okL; simp [and_assoc]
theorem okL_three {n : DNet} {s a b : Int} : okL n [s, a, b] = true ↔ (netB n = true ∧ litB (ncI n) s = true ∧ litB (ncI n) a = true ∧ litB (ncI n) b = true) := by
  unfold okL; simp [and_assoc]
theorem andO_no {n : DNet} {a b : Int} (h : okL n [a, b] = false) : andO n a b = (n, -1) := andA_bad (fun c => by rw [okL_two.2 c] at h; cases h)
theorem orO_no {n : DNet} {a b : Int} (h : okL n [a, b] = false) : orO n a b = (n, -1) := by
  unfold orO
  rw [if_pos]
  rw [andA_bad]
  · dsimp only; omega
  · rintro ⟨c1, c2, c3⟩
    have h2 : ¬ (netB n = true ∧ litB (ncI n) a = true ∧ litB (ncI n) b = true) := fun c => by rw [okL_two.2 c] at h; cases h
    refine h2 ⟨c1, ?_, ?_⟩
    · cases ha : litB (ncI n) a with
      | true => rfl
      | false => rw [notI_bad ha] at c2; cases c2
    · cases hb : litB (ncI n) b with
      | true => rfl
      | false => rw [notI_bad hb] at c3; cases c3
theorem xorO_no {n : DNet} {a b : Int} (h : okL n [a, b] = false) : xorO n a b = (n, -1) := by
  have h2 : ¬ (netB n = true ∧ litB (ncI n) a = true ∧ litB (ncI n) b = true) := fun c => by rw [okL_two.2 c] at h; cases h
  unfold xorO
  rw [andA_bad (n := n) (a := a) (b := notI b)]
  · exact joinO_neg (.inl (by dsimp only; omega))
  · rintro ⟨c1, c2, c3⟩
    refine h2 ⟨c1, c2, ?_⟩
    cases hb : litB (ncI n) b with
    | true => rfl
    | false => rw [notI_bad hb] at c3; cases c3
theorem muxO_no {n : DNet} {s a b : Int} (h : okL n [s, a, b] = false) : muxO n s a b = (n, -1) := by
  unfold muxO
  rw [if_pos (fun c => by rw [okL_three.2 c] at h; cases h)]
theorem okL_net {n : DNet} {L : List Int} (h : okL n L = true) : NetP n := by
  unfold okL at h
  rw [Bool.and_eq_true] at h
  exact netP_of h.1
theorem okL_lit {n : DNet} {L : List Int} (h : okL n L = true) {a : Int} (ha : a ∈ L) : LitIn n a := by
  have hP := okL_net h
  unfold okL at h
  rw [Bool.and_eq_true] at h
  exact litIn_of hP (List.all_eq_true.1 h.2 a ha)
/-! Hash -/
theorem hash_stepG {n : DNet} (hP : NetP n) {k : Nat} {a : DAnd} (ha : n.2.2.1[k]? = some a) :
    (hashK n (k + 1)).1.2.2.1 = (andG (firN n) (hashK n k).1.2.2.1 (mapI (hashK n k).2 a.1) (mapI (hashK n k).2 a.2)).1 ∧ (hashK n (k + 1)).2 = (hashK n k).2 ++ [(andG (firN n) (hashK n k).1.2.2.1 (mapI (hashK n k).2 a.1) (mapI (hashK n k).2 a.2)).2] := by
  have hk := (List.getElem?_eq_some_iff.1 ha).1
  have h := hinv_all hP k (by omega)
  obtain ⟨p, q, rfl, hp, hq⟩ := hP.and_ k a ha
  obtain ⟨P, eP, hPN, -⟩ := hinv_map h hP (by omega) hp
  obtain ⟨Q, eQ, hQN, -⟩ := hinv_map h hP (by omega) hq
  rw [hashK_step ha]
  dsimp only
  have e := andO_eqG h.net (a := mapI (hashK n k).2 (p : Int)) (b := mapI (hashK n k).2 (q : Int)) ⟨P, eP, hPN⟩ ⟨Q, eQ, hQN⟩
  rw [h.fir] at e
  rw [e]
  exact ⟨rfl, rfl⟩
/-! Sweep, with -1 for what is not reached -/
def sweepI (n : DNet) (keep : List Bool) : Nat → List DAnd × List Int
  | 0 => ([], toK0 n)
  | k + 1 => match n.2.2.1[k]? with
    | none => sweepI n keep k
    | some a => if keep.getD (firN n + k) false then ((sweepI n keep k).1 ++ [(mapI ((sweepI n keep k).2 ++ [2 * ((firN n + (sweepI n keep k).1.length : Nat) : Int)]) a.1, mapI ((sweepI n keep k).2 ++ [2 * ((firN n + (sweepI n keep k).1.length : Nat) : Int)]) a.2)], (sweepI n keep k).2 ++ [2 * ((firN n + (sweepI n keep k).1.length : Nat) : Int)]) else ((sweepI n keep k).1, (sweepI n keep k).2 ++ [-1])
theorem sweepI_yes {n : DNet} {keep : List Bool} {k : Nat} {a : DAnd} (h : n.2.2.1[k]? = some a) (hk : keep.getD (firN n + k) false = true) : sweepI n keep (k + 1) = ((sweepI n keep k).1 ++ [(mapI ((sweepI n keep k).2 ++ [2 * ((firN n + (sweepI n keep k).1.length : Nat) : Int)]) a.1, mapI ((sweepI n keep k).2 ++ [2 * ((firN n + (sweepI n keep k).1.length : Nat) : Int)]) a.2)], (sweepI n keep k).2 ++ [2 * ((firN n + (sweepI n keep k).1.length : Nat) : Int)]) := by
  conv => lhs; unfold sweepI
  rw [h]
  dsimp only
  rw [if_pos hk]
theorem sweepI_no {n : DNet} {keep : List Bool} {k : Nat} {a : DAnd} (h : n.2.2.1[k]? = some a) (hk : keep.getD (firN n + k) false = false) : sweepI n keep (k + 1) = ((sweepI n keep k).1, (sweepI n keep k).2 ++ [-1]) := by
  conv => lhs; unfold sweepI
  rw [h]
  dsimp only
  rw [if_neg (by rw [hk]; decide)]
theorem mapI_getD {to to' : List Int} {l : Nat} (h : to.getD (l / 2) 0 = to'.getD (l / 2) 0) : mapI to (l : Int) = mapI to' (l : Int) := by
  unfold mapI
  rw [Int.toNat_natCast, h]
/-- The same AND nodes; the same copies of what is live. -/
theorem sweepI_same {n : DNet} {keep : List Bool} (hP : NetP n) (hC : Closed n keep) : ∀ k, k ≤ n.2.2.1.length → (sweepI n keep k).1 = (sweepK n keep k).1 ∧ (sweepI n keep k).2.length = firN n + k ∧ ∀ j, j < firN n + k → Live n keep j → (sweepI n keep k).2.getD j 0 = (sweepK n keep k).2.getD j 0
  | 0, _ => ⟨rfl, toK0_len n, fun j _ _ => rfl⟩
  | k + 1, hk => by
    obtain ⟨i1, i2, i3⟩ := sweepI_same hP hC k (by omega)
    have hS := sinv_all hP hC k (by omega)
    have htl := hS.tlen
    obtain ⟨a, ha⟩ : ∃ a, n.2.2.1[k]? = some a := ⟨_, List.getElem?_eq_getElem (by omega)⟩
    obtain ⟨p, q, rfl, hp, hq⟩ := hP.and_ k a ha
    have last : ∀ {to : List Int} {x : Int}, to.length = firN n + k → (to ++ [x]).getD (firN n + k) 0 = x := fun {to x} e => by
      rw [List.getD_eq_getElem?_getD, List.getElem?_append_right (by omega), e, Nat.sub_self]; rfl
    cases hkp : keep.getD (firN n + k) false with
    | true =>
      have hE := hC.edge k p q ha hkp
      rw [sweepI_yes ha hkp, sweepK_yes ha hkp, i1]
      refine ⟨?_, by dsimp only; rw [List.length_append, i2]; rfl, fun j hj hl => ?_⟩
      · dsimp only
        rw [mapI_app (to := (sweepI n keep k).2) (l := p) (by omega), mapI_app (to := (sweepI n keep k).2) (l := q) (by omega)]
        rw [mapI_getD (i3 _ hp (.inr hE.1)), mapI_getD (i3 _ hq (.inr hE.2))]
      · dsimp only
        by_cases hjk : j < firN n + k
        · rw [getD_pre (by omega), getD_pre (by omega)]; exact i3 j hjk hl
        · obtain rfl : j = firN n + k := by omega
          rw [last i2, last htl]
    | false =>
      rw [sweepI_no ha hkp, sweepK_no ha hkp]
      refine ⟨i1, by dsimp only; rw [List.length_append, i2]; rfl, fun j hj hl => ?_⟩
      dsimp only
      by_cases hjk : j < firN n + k
      · rw [getD_pre (by omega), getD_pre (by omega)]; exact i3 j hjk hl
      · obtain rfl : j = firN n + k := by omega
        rcases hl with hl | hl
        · omega
        · rw [hkp] at hl; cases hl
theorem sweepO_I {n : DNet} (hP : NetP n) : sweepO n = rootsTo n (sweepI n (reachO n) n.2.2.1.length).1 (sweepI n (reachO n) n.2.2.1.length).2 := by
  have hC := reach_closed hP
  obtain ⟨i1, i2, i3⟩ := sweepI_same hP hC _ (Nat.le_refl _)
  rw [sweep_yes (netB_of hP), i1]
  have key : ∀ r ∈ rootsL n, mapI (sweepK n (reachO n) n.2.2.1.length).2 r = mapI (sweepI n (reachO n) n.2.2.1.length).2 r := fun r hr => by
    obtain ⟨l, rfl, hl⟩ := hP.root r hr
    exact mapI_getD (i3 _ hl (.inr (hC.root l hr))).symm
  unfold rootsTo
  have h1 : n.2.1.map (fun s => (s.1, s.2.1, s.2.2.map (mapI (sweepK n (reachO n) n.2.2.1.length).2))) = n.2.1.map (fun s => (s.1, s.2.1, s.2.2.map (mapI (sweepI n (reachO n) n.2.2.1.length).2))) := by
    refine List.map_congr_left fun s hs => ?_
    have : s.2.2.map (mapI (sweepK n (reachO n) n.2.2.1.length).2) = s.2.2.map (mapI (sweepI n (reachO n) n.2.2.1.length).2) := List.map_congr_left fun r hr => key r (by unfold rootsL; exact List.mem_append.2 (.inr (List.mem_flatMap.2 ⟨s, hs, hr⟩)))
    rw [this]
  have h2 : n.2.2.2.map (mapI (sweepK n (reachO n) n.2.2.1.length).2) = n.2.2.2.map (mapI (sweepI n (reachO n) n.2.2.1.length).2) := List.map_congr_left fun r hr => key r (by unfold rootsL; exact List.mem_append.2 (.inl hr))
  rw [h1, h2]
end Go.Proofs.Ytedamhkcblemdaa
/- MaG: The map from the pairs of literals to the first AND nodes that have them. -/
namespace Go.Proofs.Ytedamhkcblemdaa
open Go.RowKit Go.Maps
set_option linter.unusedVariables false
set_option linter.unusedSimpArgs false

theorem laidOutP : laidOutB Try.prog = true := by kernel_rfl
theorem rowAndK : 67 < Try.prog.types.size := of_decide_eq_true (by kernel_rfl)
theorem wideAndK : (match Try.prog.underlying 67 with | some (.array _ _) | some (.struct _) => true | _ => false) = true := by rw [Try.underlying67]
set_option maxRecDepth 100000 in
theorem keyAt2K : Try.prog.keyTypeAt 2 67 = true := by kernel_rfl
set_option maxRecDepth 100000 in
theorem lawAnd : Keyed Try.prog 67 := Keyed.of_law (deep_law_laid laidOutP (m := 2) (by omega) rowAndK keyAt2K wideAndK)
theorem undMap : Try.prog.underlying 70 = some (.map 67 3) := Try.underlying70
theorem undIntK : Try.prog.underlying 3 = some (.int .i64) := Try.underlying3
theorem zeroIntK (w : World) : (zeroValue 3).run Try.prog w = .ok (.int .i64 0) w := by kernel_rfl
def kV (x : DAnd) : Value := .agg #[.int .i64 x.1, .int .i64 x.2]
def FitA (x : DAnd) : Prop := Fit x.1 ∧ Fit x.2
theorem fit_wfK {a : Int} (h : Fit a) : (Lit.int .i64 a).wf = true := by
  unfold Fit at h
  exact WalkArith.wf_i64 (by omega)
theorem keyTypeK : Try.prog.keyType 67 = true := by kernel_rfl
def kL (x : DAnd) : Lit := .string (keyBytes [.int .i64 x.1, .int .i64 x.2])
theorem keyOf_two {P : Program} {k e : TypeId} {f1 f2 : Field} (hu : P.underlying k = some (.struct #[f1, f2])) (n1 : (f1.name != "_") = true) (n2 : (f2.name != "_") = true) (t1 : f1.type = e) (t2 : f2.type = e) (o1 : f1.offset = 0) (o2 : f2.offset = 1)
    (hi : P.underlying e = some (.int .i64)) (ck : P.cellsOf k = 2) (ce : P.cellsOf e = 1) (hk : P.keyType k = true) {d : Nat} (hs : P.types.size + 1 = d + 2) {a b : Int} (wa : (Lit.int .i64 a).wf = true) (wb : (Lit.int .i64 b).wf = true) :
    keyOf P k (.agg #[.int .i64 a, .int .i64 b]) = some (.string (keyBytes [.int .i64 a, .int .i64 b])) := by
  unfold keyOf
  rw [hu]
  have hs2 : P.types.size = d + 1 := by omega
  simp [hk, Value.formed, hu, ck, hs2, Program.keyLits, hi, ce, Value.cells, wa, wb, n1, n2, t1, t2, o1, o2]
theorem key_ok (x : DAnd) (h : FitA x) : keyOf Try.prog 67 (kV x) = some (kL x) := by
  obtain ⟨d, hd⟩ : ∃ d, Try.prog.types.size + 1 = d + 2 := ⟨Try.prog.types.size - 1, by have := Nat.lt_of_le_of_lt (Nat.zero_le _) rowAndK; omega⟩
  exact keyOf_two Try.underlying67 (by decide) (by decide) rfl rfl rfl rfl undIntK (by kernel_rfl) (by kernel_rfl) keyTypeK hd (fit_wfK h.1) (fit_wfK h.2)
theorem kL_inj {x y : DAnd} (hx : FitA x) (hy : FitA y) (h : kL x = kL y) : x = y := by
  have e := lawAnd.inj (key_ok x hx) (h ▸ key_ok y hy)
  unfold kV at e
  injection e with e
  simp at e
  exact Prod.ext e.1 e.2
theorem kL_key {x : DAnd} (hx : FitA x) : WideAt.IsKeyLit (kL x) := lawAnd.key (key_ok x hx)
/-! the first place, one element more -/
theorem idxG_shift {x : DAnd} : ∀ {L : List DAnd} {k : Nat}, idxG x L k = (idxG x L 0).map (· + k)
  | [], k => rfl
  | a :: L, k => by
    unfold idxG
    by_cases h : a = x
    · rw [if_pos h, if_pos h]; simp
    · rw [if_neg h, if_neg h, idxG_shift (L := L) (k := k + 1), idxG_shift (L := L) (k := 0 + 1)]
      cases idxG x L 0 with
      | none => rfl
      | some i => simp; omega
theorem idxG_snoc {x y : DAnd} {L : List DAnd} : idxG x (L ++ [y]) 0 = match idxG x L 0 with | some i => some i | none => if y = x then some L.length else none := by
  induction L with
  | nil => simp [idxG]
  | cons a L ih =>
    simp only [List.cons_append, idxG]
    by_cases h : a = x
    · simp [h]
    · rw [if_neg h, if_neg h, idxG_shift (k := 0 + 1), idxG_shift (L := L) (k := 0 + 1), ih]
      cases idxG x L 0 with
      | some i => rfl
      | none =>
        by_cases h2 : y = x
        · simp [h2]
        · simp [h2]
/-- Block M of w is a map of at most A.length entries, from the pairs of A to the literals of the first of F + 0, F + 1 .. that have them. -/
structure MapD (w : World) (M F : Nat) (A : List DAnd) (Dm : DataW Unit) : Prop where
  own : w.ownsMap Try.prog 67 (plainElem (H := Unit) Try.prog 3) M A.length Dm
  no : ∀ x, FitA x → idxG x A 0 = none → Maps.has Dm (kL x) = false
  yes : ∀ x i, FitA x → idxG x A 0 = some i → Maps.has Dm (kL x) = true ∧ Dm.atKey (kL x) (.lit (.int .i64 0)) = .lit (.int .i64 ((2 * (F + i) : Nat) : Int))
theorem mapD_made (w : World) (F : Nat) : MapD (w.alloc (.map #[] 0)) w.heap.size F [] (.map []) :=
  ⟨World.ownsMap_made _ _ _ _, fun x _ _ => rfl, fun x i _ h => (by cases h)⟩
section
variable {w w' : World} {M F : Nat} {A : List DAnd} {Dm : DataW Unit}
theorem MapD.lt (h : MapD w M F A Dm) : M < w.heap.size := h.own.lt
theorem MapD.at (h : MapD w M F A Dm) (e : w'.heap[M]? = w.heap[M]?) : MapD w' M F A Dm := by
  obtain ⟨es, clock, hb, r⟩ := h.own
  exact ⟨⟨es, clock, e.trans hb, r⟩, h.no, h.yes⟩
theorem MapD.below (h : MapD w M F A Dm) (hb : Below w.heap.size w w') : MapD w' M F A Dm := h.at (hb.block M h.lt)
/-- An element that is there already. -/
theorem MapD.same (h : MapD w M F A Dm) {x : DAnd} {i : Nat} (hi : idxG x A 0 = some i) : MapD w M F (A ++ [x]) Dm := by
  refine ⟨h.own.mono (by simp), fun y hy hn => ?_, fun y j hy hj => ?_⟩
  · rw [idxG_snoc] at hn
    cases hq : idxG y A 0 with
    | none => exact h.no y hy hq
    | some q => rw [hq] at hn; cases hn
  · rw [idxG_snoc] at hj
    cases hq : idxG y A 0 with
    | some q => rw [hq] at hj; injection hj with hj; subst hj; exact h.yes y q hy hq
    | none =>
      rw [hq] at hj
      dsimp only at hj
      by_cases e : x = y
      · subst e; rw [hi] at hq; cases hq
      · rw [if_neg e] at hj; cases hj
/-- A store of an element that is not there. -/
theorem MapD.put {Dn : DataW Unit} (h : MapD w M F A Dm) {x : DAnd} (hx : FitA x) (hi : idxG x A 0 = none) (hw : w'.ownsMap Try.prog 67 (plainElem (H := Unit) Try.prog 3) M (A.length + 1) Dn) (hn : Dn = Dm.put (kL x) (.lit (.int .i64 ((2 * (F + A.length) : Nat) : Int)))) : MapD w' M F (A ++ [x]) Dn := by
  have hD := h.own.isMap
  subst hn
  refine ⟨by rw [List.length_append]; exact hw, fun y hy hn => ?_, fun y j hy hj => ?_⟩
  · rw [idxG_snoc] at hn
    cases hq : idxG y A 0 with
    | some q => rw [hq] at hn; cases hn
    | none =>
      rw [hq] at hn
      dsimp only at hn
      by_cases e : x = y
      · rw [if_pos e] at hn; cases hn
      · rw [has_put_other (fun c => e (kL_inj hy hx c).symm)]
        exact h.no y hy hq
  · rw [idxG_snoc] at hj
    cases hq : idxG y A 0 with
    | some q =>
      rw [hq] at hj
      injection hj with hj
      subst hj
      have e : y ≠ x := fun e => by subst e; rw [hi] at hq; cases hq
      rw [has_put_other (fun c => e (kL_inj hy hx c)), atKey_put_other (fun c => e (kL_inj hy hx c))]
      exact h.yes y q hy hq
    | none =>
      rw [hq] at hj
      dsimp only at hj
      by_cases e : x = y
      · subst e
        rw [if_pos rfl] at hj
        injection hj with hj
        subst hj
        exact ⟨has_put_same hD (kL_key hx) _, atKey_put_same hD (kL_key hx) _ _⟩
      · rw [if_neg e] at hj; cases hj
theorem MapD.size_put (h : MapD w M F A Dm) {x : DAnd} (hx : FitA x) (hi : idxG x A 0 = none) (d : DataW Unit) : Maps.size (Dm.put (kL x) d) = Maps.size Dm + 1 := by
  rw [Maps.size_put (h.own.tidy lawAnd), h.no x hx hi]; rfl
set_option maxRecDepth 100000 in
theorem MapD.look_yes (h : MapD w M F A Dm) {x : DAnd} {i : Nat} (hx : FitA x) (hi : idxG x A 0 = some i) :
    (Instr.lookup 70 (.map (some M)) (.agg #[.int .i64 x.1, .int .i64 x.2]) true).run Try.prog w = .ok (.tuple #[.int .i64 ((2 * (F + i) : Nat) : Int), .bool true]) w := by
  obtain ⟨v, ps, hrun, hv⟩ := h.own.look_ok lawAnd undMap (zeroIntK w) (plainElem_int undIntK (by decide)) (key_ok x hx)
  rw [(h.yes x i hx hi).2] at hv
  obtain ⟨c, rfl, hc, _⟩ := plainElem_int_inv undIntK hv
  have hc := congrArg Prod.fst hc
  injection hc with hc
  injection hc with _ hc
  subst hc
  rw [(h.yes x i hx hi).1] at hrun
  unfold kV at hrun
  exact hrun
set_option maxRecDepth 100000 in
theorem MapD.look_no (h : MapD w M F A Dm) {x : DAnd} (hx : FitA x) (hi : idxG x A 0 = none) :
    (Instr.lookup 70 (.map (some M)) (.agg #[.int .i64 x.1, .int .i64 x.2]) true).run Try.prog w = .ok (.tuple #[.int .i64 0, .bool false]) w := by
  obtain ⟨v, ps, hrun, hv⟩ := h.own.look_ok lawAnd undMap (zeroIntK w) (plainElem_int undIntK (by decide)) (key_ok x hx)
  have hh := h.no x hx hi
  rw [atKey_of_not_has hh] at hv
  obtain ⟨c, rfl, hc, _⟩ := plainElem_int_inv undIntK hv
  have hc := congrArg Prod.fst hc
  injection hc with hc
  injection hc with _ hc
  subst hc
  rw [hh] at hrun
  unfold kV at hrun
  exact hrun
/-- What a store runs to. -/
theorem MapD.store (h : MapD w M F A Dm) {x : DAnd} (hx : FitA x) (hi : idxG x A 0 = none) (hl : A.length ≤ 1000000) {v : Int} (hv : v = ((2 * (F + A.length) : Nat) : Int)) (hF : F ≤ 1000000) :
    ∃ w' Dn, (Instr.mapUpdate 70 (.map (some M)) (.agg #[.int .i64 x.1, .int .i64 x.2]) (.int .i64 v)).run Try.prog w = .ok () w' ∧ MapD w' M F (A ++ [x]) Dn ∧ Maps.size Dn = Maps.size Dm + 1 ∧ w.grownBy w' (some M) := by
  obtain ⟨w', hrun, ho, hg⟩ := h.own.update lawAnd undMap (by unfold maxLen; omega) (key_ok x hx) (plainElem_int (H := Unit) undIntK (a := v) (by subst hv; exact WalkArith.wf_i64 (by omega)))
  refine ⟨w', _, hrun, h.put hx hi ho (by rw [hv]), h.size_put hx hi _, hg⟩
end
section
variable {P : Program} {w w' : World} {ops : Array Oper} {rest : List Oper} {o : Oper} {a : Act} {Q : Exit → Act → World → Prop} {t : TypeId} {m x v : Operand} {mv xv vv : Value}
theorem wpList_look (hg : o.guard = none) (hop : o.op = Op.lookup t m x true) (hm : a.eval m = mv) (hx : a.eval x = xv) (hrun : (Instr.lookup t mv xv true).run P w = .ok vv w) (hK : wpList P ops Q rest (a.put o.dst vv) w) : wpList P ops Q (o :: rest) a w := by
  refine wpList_plain hg fun K' hK' => ?_
  unfold Oper.wp
  simp [execOp, hop, hm, hx, hrun, Result.andThen]
  exact hK' _ _ hK
theorem wpList_store (hg : o.guard = none) (hop : o.op = Op.mapUpdate t m x v) (hm : a.eval m = mv) (hx : a.eval x = xv) (hv : a.eval v = vv) (hrun : (Instr.mapUpdate t mv xv vv).run P w = .ok () w') (hK : wpList P ops Q rest (a.put o.dst undef) w') : wpList P ops Q (o :: rest) a w := by
  refine wpList_plain hg fun K' hK' => ?_
  unfold Oper.wp
  simp [execOp, hop, hm, hx, hv, hrun, Result.andThen]
  exact hK' _ _ hK
theorem step_look {K : Act → World → Prop} {E : Prop} (hg : o.guard = none) (hop : o.op = Op.lookup t m x true) (hm : a.eval m = mv) (hx : a.eval x = xv) (hrun : (Instr.lookup t mv xv true).run P w = .ok vv w) (hK : K (a.put o.dst vv) w) :
    if Region.wanted o (yielded ops a.tmps) = true then Oper.wp P o a w K Q else E := by
  have hw : Region.wanted o (yielded ops a.tmps) = true := by simp [Region.wanted, hg]
  rw [if_pos hw]
  unfold Oper.wp
  simp [execOp, hop, hm, hx, hrun, Result.andThen]
  exact hK
end
end Go.Proofs.Ytedamhkcblemdaa
/- HiA: Small functions of the program. -/
namespace Go.Proofs.Ytedamhkcblemdaa
open Go.RowKit
set_option linter.unusedVariables false
set_option linter.unusedSimpArgs false

theorem copyAndR {L : List DAnd} {B T B' : Nat} {w w' : World} {u v : Value} (h : rdS 2 rdAnd B T w [u] L) (hr : w'.ownsRow B' 67 2 v L.length (L.flatMap fAnd)) : GrR fAnd 2 67 owAnd B' [] w' v L L :=
  gr_flat hr fun x hx => owAnd_of (ands_fit h x hx).1 (ands_fit h x hx).2 _
theorem compl_bits {a : Int} (ha : -2 ≤ a) (hf : a < 9223372036854775808) : bits .xor .i64 a 1 = cI a := by
  by_cases h : 0 ≤ a
  · obtain ⟨p, rfl⟩ : ∃ p : Nat, a = (p : Int) := ⟨a.toNat, by omega⟩
    rw [not_bits p (by omega), cI_notI (by omega)]
  · rcases (show a = -1 ∨ a = -2 by omega) with rfl | rfl
    · decide
    · decide
theorem compl_at (a : Int) (ha : -2 ≤ a) (hf : a < 9223372036854775808) (w : World) {r : Int} (hr : cI a = r) :
    Calls Try.prog 121 #[.int .i64 a] w fun e w' => e = .returned (.int .i64 r) ∧ w = w' := by
  have e1 := (compl_bits ha hf).trans hr
  clear hr
  go_enter Try.func121, Try.ntmps121
  go_wp2
  go_ret
  exact ⟨rfl, rfl⟩
theorem litOf_at (k : Nat) (hk : k ≤ 1000000) (w : World) :
    Calls Try.prog 78 #[.int .i64 (k : Int)] w fun e w' => e = .returned (.int .i64 ((2 * k : Nat) : Int)) ∧ w = w' := by
  go_enter Try.func78, Try.ntmps78
  go_wp2
  go_ret
  exact ⟨ret_i64 (by go_num), rfl⟩
theorem ord_at (a b p q : Int) (hp : min a b = p) (hq : max a b = q) (w : World) :
    Calls Try.prog 74 #[.int .i64 a, .int .i64 b] w fun e w' => e = .returned (.agg #[.int .i64 p, .int .i64 q]) ∧ Below w.heap.size w w' := by
  have HP := Lib.hid hp
  have HQ := Lib.hid hq
  clear hp hq
  by_cases h1 : a < b
  · obtain rfl : a = p := by have := HP.out; omega
    obtain rfl : b = q := by have := HQ.out; omega
    have h2 : ¬ b < a := by omega
    go_enter Try.func74, Try.ntmps74
    go_wp2
    ((try simp only [Exit.inBlock, Exit.then]); refine bodyPost_ret (v := (.agg #[.int .i64 a, .int .i64 b])) (by rw [results_cell1 rfl]; go_simp) rfl ?_)
    exact ⟨rfl, by (repeat' (first | assumption | exact Below.refl _ _ | refine bDrewN ?_ _ | refine Below.drew ?_ | refine bAlloc ?_ (Nat.le_refl _) _ | refine bSet ?_ (by first | exact Nat.le_refl _ | omega | (simp <;> omega)) _))⟩
  · obtain rfl : b = p := by have := HP.out; omega
    obtain rfl : a = q := by have := HQ.out; omega
    by_cases h2 : b < a
    · go_enter Try.func74, Try.ntmps74
      go_wp2
      ((try simp only [Exit.inBlock, Exit.then]); refine bodyPost_ret (v := (.agg #[.int .i64 b, .int .i64 a])) (by rw [results_cell1 rfl]; go_simp) rfl ?_)
      exact ⟨rfl, by (repeat' (first | assumption | exact Below.refl _ _ | refine bDrewN ?_ _ | refine Below.drew ?_ | refine bAlloc ?_ (Nat.le_refl _) _ | refine bSet ?_ (by first | exact Nat.le_refl _ | omega | (simp <;> omega)) _))⟩
    · obtain rfl : b = a := by omega
      go_enter Try.func74, Try.ntmps74
      go_wp2
      ((try simp only [Exit.inBlock, Exit.then]); refine bodyPost_ret (v := (.agg #[.int .i64 b, .int .i64 b])) (by rw [results_cell1 rfl]; go_simp) rfl ?_)
      exact ⟨rfl, by (repeat' (first | assumption | exact Below.refl _ _ | refine bDrewN ?_ _ | refine Below.drew ?_ | refine bAlloc ?_ (Nat.le_refl _) _ | refine bSet ?_ (by first | exact Nat.le_refl _ | omega | (simp <;> omega)) _))⟩
def trivO (p q : Int) : Int × Bool := if p = 0 ∨ p = cI q then (0, true) else if p = 1 ∨ p = q then (q, true) else (0, false)
theorem compl_b (a : Int) (ha : -2 ≤ a) (hf : a < 9223372036854775808) (w : World) {r : Int} (hr : cI a = r) :
    Calls Try.prog 121 #[.int .i64 a] w fun e w' => e = .returned (.int .i64 r) ∧ Below w.heap.size w w' :=
  (compl_at a ha hf w hr).mono fun e w' h => ⟨h.1, h.2 ▸ Below.refl _ _⟩
set_option maxRecDepth 100000 in
set_option maxHeartbeats 6400000 in
theorem triv_at (p q : Int) (h0 : 0 ≤ q) (hf : q < 9223372036854775808) (w : World) {r : Int} {f : Bool} (hr : trivO p q = (r, f)) :
    Calls Try.prog 73 #[.agg #[.int .i64 p, .int .i64 q]] w fun e w' => e = .returned (.tuple #[.int .i64 r, .bool f]) ∧ Below w.heap.size w w' := by
  have HR := Lib.hid hr
  obtain ⟨c, hc⟩ : ∃ c, cI q = c := ⟨_, rfl⟩
  have HC := Lib.hid hc
  clear hr hc
  go_enter Try.func73, Try.ntmps73
  go_wp2_with fail
  obtain ⟨V, hV⟩ : ∃ V, V = w.alloc (.cells #[.int .i64 p, .int .i64 q] 67) := ⟨_, rfl⟩
  rw [← hV]
  have gN := eqbox1 hV
  have y0 : ∀ d os, (Sort.grow (redrawn V d) os).cell? ⟨w.heap.size, 0, none⟩ = some (.int .i64 p) := cell_regrown (box_cell gN.1 0 _ rfl)
  have y1 : ∀ d os, (Sort.grow (redrawn V d) os).cell? ⟨w.heap.size, 1, none⟩ = some (.int .i64 q) := cell_regrown (box_cell gN.1 1 _ rfl)
  have HBV := Lib.hid gN.2
  clear hV gN
  by_cases h1 : p = 0
  · obtain ⟨rfl, rfl⟩ := Prod.mk.inj ((show trivO p q = (0, true) by unfold trivO; rw [if_pos (.inl h1)]).symm.trans HR.out)
    subst h1
    refine wp_region_quiet_below (by kernel_rfl) (by kernel_rfl) ?_
    repeat (go_big_quiet_step (first | (go_at_call 121; refine Calls.regrown_of (compl_b q (by omega) hf _ HC.out))))
    refine wpQuiet_nil ?_
    intro _ hw'
    obtain ⟨⟨dq, osq⟩, hw''⟩ := hw'
    subst hw''
    have HBQ := Lib.hid (bThen HBV.out (below_regrown V dq osq))
    go_wp2
    go_ret2
    exact ⟨rfl, HBQ.out⟩
  have b1 : (p == 0) = false := beq_false_of_ne h1
  by_cases h2 : p = c
  · obtain ⟨rfl, rfl⟩ := Prod.mk.inj ((show trivO p q = (0, true) by unfold trivO; rw [if_pos (.inr (by rw [HC.out]; exact h2))]).symm.trans HR.out)
    subst h2
    refine wp_region_quiet_below (by kernel_rfl) (by kernel_rfl) ?_
    repeat (go_big_quiet_step (first | (go_at_call 121; refine Calls.regrown_of (compl_b q (by omega) hf _ HC.out))))
    refine wpQuiet_nil ?_
    intro _ hw'
    obtain ⟨⟨dq, osq⟩, hw''⟩ := hw'
    subst hw''
    have HBQ := Lib.hid (bThen HBV.out (below_regrown V dq osq))
    go_wp2
    go_ret2
    exact ⟨rfl, HBQ.out⟩
  have b2 : (p == c) = false := beq_false_of_ne h2
  have HN := Lib.hid (show ¬ (p = 0 ∨ p = cI q) by rw [HC.out]; exact fun h => h.elim h1 h2)
  by_cases h3 : p = 1
  · obtain ⟨rfl, rfl⟩ := Prod.mk.inj ((show trivO p q = (q, true) by unfold trivO; rw [if_neg HN.out, if_pos (.inl h3)]).symm.trans HR.out)
    subst h3
    refine wp_region_quiet_below (by kernel_rfl) (by kernel_rfl) ?_
    repeat (go_big_quiet_step (first | (go_at_call 121; refine Calls.regrown_of (compl_b q (by omega) hf _ HC.out))))
    refine wpQuiet_nil ?_
    intro _ hw'
    obtain ⟨⟨dq, osq⟩, hw''⟩ := hw'
    subst hw''
    have HBQ := Lib.hid (bThen HBV.out (below_regrown V dq osq))
    go_wp2
    go_ret2
    exact ⟨rfl, HBQ.out⟩
  have b3 : (p == 1) = false := beq_false_of_ne h3
  by_cases h4 : p = q
  · obtain ⟨rfl, rfl⟩ := Prod.mk.inj ((show trivO p q = (q, true) by unfold trivO; rw [if_neg HN.out, if_pos (.inr h4)]).symm.trans HR.out)
    have h5 := h4.symm
    subst h5
    refine wp_region_quiet_below (by kernel_rfl) (by kernel_rfl) ?_
    repeat (go_big_quiet_step (first | (go_at_call 121; refine Calls.regrown_of (compl_b q (by omega) hf _ HC.out))))
    refine wpQuiet_nil ?_
    intro _ hw'
    obtain ⟨⟨dq, osq⟩, hw''⟩ := hw'
    subst hw''
    have HBQ := Lib.hid (bThen HBV.out (below_regrown V dq osq))
    go_wp2
    go_ret2
    exact ⟨rfl, HBQ.out⟩
  have b4 : (p == q) = false := beq_false_of_ne h4
  obtain ⟨rfl, rfl⟩ := Prod.mk.inj ((show trivO p q = (0, false) by unfold trivO; rw [if_neg HN.out, if_neg (fun h => h.elim h3 h4)]).symm.trans HR.out)
  refine wp_region_quiet_below (by kernel_rfl) (by kernel_rfl) ?_
  repeat (go_big_quiet_step (first | (go_at_call 121; refine Calls.regrown_of (compl_b q (by omega) hf _ HC.out))))
  refine wpQuiet_nil ?_
  intro _ hw'
  obtain ⟨⟨dq, osq⟩, hw''⟩ := hw'
  subst hw''
  have HBQ := Lib.hid (bThen HBV.out (below_regrown V dq osq))
  go_wp2
  go_ret2
  exact ⟨rfl, HBQ.out⟩
set_option maxHeartbeats 1600000 in
theorem cloneAnd_at (L : List DAnd) (A : Option Addr) (n c : Nat) {B T : Nat} (w : World) (h : rdS 2 rdAnd B T w [.slice A n c] L) (hm : L.length ≤ 1048576) :
    Calls Try.prog 107 #[.slice A n c] w fun e w' => ∃ A' c', e = .returned (.slice A' L.length c') ∧ GrR fAnd 2 67 owAnd w.heap.size [] w' (.slice A' L.length c') L L ∧ Below w.heap.size w w' := by
  obtain ⟨i0, hi, hz0, hz1, hz2⟩ := info_parts infoA1
  obtain ⟨hn, hnews⟩ := newsAt_of fAnd 2 fAnd_len (by omega) usAnd h
  subst hn
  have hrd := h
  have q0 : ∀ (w : World) (a : Option Addr) (n c n' c' : Nat), (binOp .eql 34 (.slice a n c) (.slice none n' c')).run Try.prog w = .ok (.bool a.isNone) w := fun w a n c n' c' => Lib.run_eql_slice_nil w _ _ a n c n' c' Try.underlying34
  cases A with
  | none =>
    have hL : L = [] := List.eq_nil_of_length_eq_zero (by rcases hnews with ⟨_, h0⟩ | ⟨ad, e, _⟩ <;> first | exact h0 | cases e)
    subst hL
    clear h hnews hrd
    go_enter Try.func107, Try.ntmps107
    go_wp2
    go_ret
    exact ⟨none, 0, rfl, GrR.nil _ _ _ _ _ _, Below.refl _ _⟩
  | some ad =>
    have HN := Lib.hid (show NewsAt (w.alloc (.cells #[] 67)) (some ad) L.length (L.flatMap fAnd) from hnews.below (bAlloc (Below.refl _ _) (Nat.le_refl _) _))
    obtain ⟨A, hA⟩ : ∃ A, A = some ad := ⟨_, rfl⟩
    rw [← hA] at HN
    clear h hnews
    go_enter Try.func107, Try.ntmps107
    go_wp2_with (at_builtin; refine wpList_append_all (by rfl) _ _ 34 (by rfl) w.heap.size 67 i0 (.agg #[.int .i64 0, .int .i64 0]) 2 16 Try.underlying34 hi hz0 hz1 hz2 rfl (by omega) (.slice (some ⟨w.heap.size, 0, none⟩) 0 0) 0 [] (by rfl) (ownR_new fAnd 2 67 w w.heap.size (Nat.le_refl _)) (some ad) L.length c (L.flatMap fAnd) (by rfl) (flat_len fAnd 2 fAnd_len L) (hA ▸ HN.out) (fAnd_one L) (by unfold maxLen; omega) (by omega) (by simp) ?_; intro A' c' w2 hown hgrow hkeep hat)
    have hr := hown
    rw [Nat.zero_add, List.nil_append] at hr
    have HRES := Lib.hid (And.intro (copyAndR hrd hr) (show Below w.heap.size w w2 from (show Below w.heap.size w (w.alloc (.cells #[] 67)) from bAlloc (Below.refl _ _) (Nat.le_refl _) _).grown hgrow (by simp) (by intro g hg; injection hg with hg; dsimp only at hg; omega)))
    clear hown hgrow hkeep hat hr hrd
    go_wp2
    go_ret
    exact ⟨A', c', by first | rfl | rw [Nat.zero_add], HRES.out.1, HRES.out.2⟩
end Go.Proofs.Ytedamhkcblemdaa
/- HiB: The map of the AND nodes: the program. -/
namespace Go.Proofs.Ytedamhkcblemdaa
open Go.RowKit
set_option linter.unusedVariables false
set_option linter.unusedSimpArgs false

/-- How many of the first k pairs are the first of their kind. -/
def cntK (A : List DAnd) : Nat → Nat
  | 0 => 0
  | k + 1 => match A[k]? with
    | none => cntK A k
    | some x => if idxG x (A.take k) 0 = none then cntK A k + 1 else cntK A k
theorem cntK_new {A : List DAnd} {k : Nat} {x : DAnd} (h : A[k]? = some x) (hi : idxG x (A.take k) 0 = none) : cntK A (k + 1) = cntK A k + 1 := by
  conv => lhs; unfold cntK
  rw [h]; dsimp only; rw [if_pos hi]
theorem cntK_old {A : List DAnd} {k i : Nat} {x : DAnd} (h : A[k]? = some x) (hi : idxG x (A.take k) 0 = some i) : cntK A (k + 1) = cntK A k := by
  conv => lhs; unfold cntK
  rw [h]; dsimp only; rw [if_neg (by rw [hi]; simp)]
theorem take_snocA {A : List DAnd} {k : Nat} {x : DAnd} (h : A[k]? = some x) : A.take (k + 1) = A.take k ++ [x] := by rw [List.take_add_one, h]; rfl
theorem grown_keep {w w' : World} {row : Option Nat} (h : w.grownBy w' row) {a : Addr} {u : Value} (hc : w.cell? a = some u) (hne : some a.block ≠ row) : w'.cell? a = some u :=
  (World.cell?_of_block (h.block a.block (World.block_lt_of_cell? w a hc) hne)).trans hc
theorem grown_trans {a b c : World} {row : Option Nat} (h : a.grownBy b row) (k : b.grownBy c row) : a.grownBy c row :=
  ⟨k.os.trans h.os, k.tape.trans h.tape, k.output.trans h.output, Nat.le_trans h.size k.size, fun j hj hne => (k.block j (Nat.lt_of_lt_of_le hj h.size) hne).trans (h.block j hj hne)⟩
theorem grown_belowR {a b c : World} {row : Option Nat} (h : a.grownBy b row) (k : Below b.heap.size b c) : a.grownBy c row :=
  ⟨k.os.trans h.os, k.tape.trans h.tape, k.output.trans h.output, Nat.le_trans h.size k.size, fun j hj hne => (k.block j (Nat.lt_of_lt_of_le hj h.size)).trans (h.block j hj hne)⟩
theorem grown_refl (a : World) (row : Option Nat) : a.grownBy a row := ⟨rfl, rfl, rfl, Nat.le_refl _, fun _ _ _ => rfl⟩
set_option maxRecDepth 100000 in
set_option maxHeartbeats 12800000 in
theorem known_at (n : DNet) (us : List Value) (w : World) (h : rdNet 0 w.heap.size w us n) (hS : SizeP n) :
    Calls Try.prog 75 #[.agg us.toArray] w fun e w' => ∃ Mb Dm, e = .returned (.map (some Mb)) ∧ w.heap.size ≤ Mb ∧ MapD w' Mb (firN n) n.2.2.1 Dm ∧ Maps.size Dm = cntK n.2.2.1 n.2.2.1.length ∧ Below w.heap.size w w' := by
  have HD := Lib.hid h
  have HP := Lib.hid hS
  have a300 := hS.a300
  have i20 := hS.i20
  have s12 := hS.s12
  have hf33 : firN n ≤ 40 := by unfold firN; omega
  have HAF := Lib.hid (net_fit h).2.1
  have hmm := @run_makeMap Try.prog
  obtain ⟨mu0, mu1, mu2, mu3, rfl, mh0, mh1, mh2, mh3⟩ := h
  obtain ⟨me0, -⟩ := mh0
  injection me0 with me0
  subst me0
  obtain ⟨mA1, mc1, me1, mm1, -⟩ := slice_of mh1
  subst me1
  have mR1 := Lib.hid mh1
  clear mh1
  obtain ⟨mA2, mc2, me2, mm2, -⟩ := slice_of mh2
  subst me2
  have mR2 := Lib.hid mh2
  clear mh2
  obtain ⟨mA3, mc3, me3, mm3, -⟩ := slice_of mh3
  subst me3
  have mR3 := Lib.hid mh3
  clear mh3
  go_enter Try.func75, Try.ntmps75
  clear i20 s12
  go_wp2
  obtain ⟨W0, hW0⟩ : ∃ W0, W0 = w.alloc (.cells #[.int .i64 n.1, .slice mA1 (n.2.1).length mc1, .slice mA2 (n.2.2.1).length mc2, .slice mA3 (n.2.2.2).length mc3] 36) := ⟨_, rfl⟩
  rw [← hW0]
  have gN := eqbox1 hW0
  have sW0 : W0.heap.size = w.heap.size + 1 := by rw [hW0]; simp
  obtain ⟨W1, hW1⟩ : ∃ W1, W1 = W0.alloc (.map #[] 0) := ⟨_, rfl⟩
  have hMd := mapD_made W0 (firN n)
  rw [← hW1] at hMd ⊢
  have hB1 : Below W0.heap.size W0 W1 := by rw [hW1]; exact bAlloc (Below.refl _ _) (Nat.le_refl _) _
  have sW1 : W1.heap.size = W0.heap.size + 1 := by rw [hW1]; simp
  obtain ⟨Mb, hMb⟩ : ∃ Mb, Mb = w.heap.size + 1 := ⟨_, rfl⟩
  rw [sW0] at hMd
  rw [← hMb] at hMd ⊢
  have HMD := Lib.hid hMd
  have HW1 := Lib.hid (bThen gN.2 hB1)
  have HW0 := Lib.hid gN.2
  have HE0 := Lib.hid (keep hB1 (box_cell gN.1 0 _ rfl))
  have HE1 := Lib.hid (keep hB1 (box_cell gN.1 1 _ rfl))
  have HE2 := Lib.hid (keep hB1 (box_cell gN.1 2 _ rfl))
  have HE3 := Lib.hid (keep hB1 (box_cell gN.1 3 _ rfl))
  have hMg := Nat.le_of_eq hMb
  have hMl := Nat.le_of_eq hMb.symm
  have s1 := Nat.le_of_eq sW0
  have s2 := Nat.le_of_eq sW0.symm
  have s3 := Nat.le_of_eq sW1
  have s4 := Nat.le_of_eq sW1.symm
  clear hW0 hW1 gN hB1 hMd hMb sW0 sW1
  have HG0 := Lib.hid (grown_refl W1 (some Mb))
  go_loopw [12] (fun z wr => ∃ (k : Nat) (Dm : DataW Unit), k ≤ n.2.2.1.length ∧ z = .int .i64 (k : Int) ∧ MapD wr Mb (firN n) (n.2.2.1.take k) Dm ∧ Maps.size Dm = cntK n.2.2.1 k ∧ W1.grownBy wr (some Mb)) (fun z _ => n.2.2.1.length - (intOf z).toNat)
  case atStart => exact ⟨0, _, Nat.zero_le _, rfl, HMD.out, rfl, HG0.out⟩
  case round =>
    obtain ⟨k, Dm, hk, rfl, hmd, hsz, hg⟩ := hrel
    obtain ⟨w3, rfl⟩ : ∃ w3, w3 = wr := ⟨_, rfl⟩
    clear HMD HG0
    have HMD := Lib.hid hmd
    have HSZ := Lib.hid hsz
    have HG := Lib.hid hg
    have HB3 := Lib.hid (HW1.out.grown hg (Nat.le_trans HW0.out.size (by omega)) (fun g e => by injection e with e; have := HW0.out.size; omega))
    have hwz := hg.size
    have c0 := grown_keep hg HE0.out (by intro e; injection e with e; dsimp only at e; omega)
    have c1 := grown_keep hg HE1.out (by intro e; injection e with e; dsimp only at e; omega)
    have c2 := grown_keep hg HE2.out (by intro e; injection e with e; dsimp only at e; omega)
    have c3 := grown_keep hg HE3.out (by intro e; injection e with e; dsimp only at e; omega)
    clear hmd hsz hg
    by_cases hlt : k < n.2.2.1.length
    · obtain ⟨x, hx⟩ : ∃ x, n.2.2.1[k]? = some x := ⟨_, List.getElem?_eq_getElem hlt⟩
      obtain ⟨ab, aq, rfl, ab1, x0, xf0, x1, xf1⟩ := at_And (good_AndS.below mR2.out (Nat.le_refl _) HB3.out) hx
      have ab2 := Nat.lt_of_lt_of_le ab1 HB3.out.size
      have tk : (k : Int) < (n.2.2.1.length : Int) := by omega
      have hk3 : k ≤ 300 := by omega
      have HFX := Lib.hid (show FitA x from ⟨xf0, xf1⟩)
      have HX := Lib.hid hx
      clear hx xf0 xf1 ab1
      have HMA := Lib.hid (HMD.out.below (show Below w3.heap.size w3 (w3.alloc (.cells #[.int .i64 x.1, .int .i64 x.2] 67)) from bAlloc (Below.refl _ _) (Nat.le_refl _) _))
      cases hi : idxG x (n.2.2.1.take k) 0 with
      | some i =>
        have hrun := HMA.out.look_yes HFX.out hi
        go_wp2_with (at_lookup; refine wpList_look (by rfl) (by rfl) (by rfl) (by rfl) hrun ?_)
        clear hrun
        obtain ⟨V, hV⟩ : ∃ V, V = w3.alloc (.cells #[.int .i64 x.1, .int .i64 x.2] 67) := ⟨_, rfl⟩
        rw [← hV]
        have gN := eqbox1 hV
        have y0 : V.cell? ⟨w3.heap.size, 0, none⟩ = some (.int .i64 x.1) := box_cell gN.1 0 _ rfl
        have y1 : V.cell? ⟨w3.heap.size, 1, none⟩ = some (.int .i64 x.2) := box_cell gN.1 1 _ rfl
        have HBV := Lib.hid gN.2
        have HWV := Lib.hid (bThen HB3.out gN.2)
        have HMV := Lib.hid (HMD.out.below gN.2)
        have HGV := Lib.hid (grown_belowR HG.out gN.2)
        replace c0 := keep gN.2 c0
        replace c1 := keep gN.2 c1
        replace c2 := keep gN.2 c2
        replace c3 := keep gN.2 c3
        clear hV gN x0 x1
        have HMS := Lib.hid (HMV.out.same hi)
        rw [← take_snocA HX.out] at HMS
        have HSS := Lib.hid (HSZ.out.trans (cntK_old HX.out hi).symm)
        clear hi
        go_roundw
        case rel => exact ⟨k + 1, Dm, by omega, by go_num, HMS.out, HSS.out, HGV.out⟩
        case measure => simp [intOf]; omega
      | none =>
        have hrun := HMA.out.look_no HFX.out hi
        go_wp2_with (at_lookup; refine wpList_look (by rfl) (by rfl) (by rfl) (by rfl) hrun ?_)
        clear hrun
        obtain ⟨V, hV⟩ : ∃ V, V = w3.alloc (.cells #[.int .i64 x.1, .int .i64 x.2] 67) := ⟨_, rfl⟩
        rw [← hV]
        have gN := eqbox1 hV
        have y0 : V.cell? ⟨w3.heap.size, 0, none⟩ = some (.int .i64 x.1) := box_cell gN.1 0 _ rfl
        have y1 : V.cell? ⟨w3.heap.size, 1, none⟩ = some (.int .i64 x.2) := box_cell gN.1 1 _ rfl
        have HBV := Lib.hid gN.2
        have HWV := Lib.hid (bThen HB3.out gN.2)
        have HMV := Lib.hid (HMD.out.below gN.2)
        have HGV := Lib.hid (grown_belowR HG.out gN.2)
        replace c0 := keep gN.2 c0
        replace c1 := keep gN.2 c1
        replace c2 := keep gN.2 c2
        replace c3 := keep gN.2 c3
        clear hV gN x0 x1
        have HI := Lib.hid hi
        clear hi
        have hS0 : (fun w' => Below V.heap.size V w' ∧ w'.cell? ⟨w.heap.size, 0, none⟩ = some (.int .i64 n.1) ∧ w'.cell? ⟨w.heap.size, 1, none⟩ = some (.slice mA1 (n.2.1).length mc1) ∧ w'.cell? ⟨w.heap.size, 2, none⟩ = some (.slice (some ⟨ab, aq, none⟩) (n.2.2.1).length mc2) ∧ w'.cell? ⟨w.heap.size, 3, none⟩ = some (.slice mA3 (n.2.2.2).length mc3) ∧ w'.cell? ⟨w3.heap.size, 0, none⟩ = some (.int .i64 x.1) ∧ w'.cell? ⟨w3.heap.size, 1, none⟩ = some (.int .i64 x.2)) V := ⟨Below.refl _ _, c0, c1, c2, c3, y0, y1⟩
        have hS : ∀ {w0 w' : World}, (fun w' => Below V.heap.size V w' ∧ w'.cell? ⟨w.heap.size, 0, none⟩ = some (.int .i64 n.1) ∧ w'.cell? ⟨w.heap.size, 1, none⟩ = some (.slice mA1 (n.2.1).length mc1) ∧ w'.cell? ⟨w.heap.size, 2, none⟩ = some (.slice (some ⟨ab, aq, none⟩) (n.2.2.1).length mc2) ∧ w'.cell? ⟨w.heap.size, 3, none⟩ = some (.slice mA3 (n.2.2.2).length mc3) ∧ w'.cell? ⟨w3.heap.size, 0, none⟩ = some (.int .i64 x.1) ∧ w'.cell? ⟨w3.heap.size, 1, none⟩ = some (.int .i64 x.2)) w0 → Below w0.heap.size w0 w' → (fun w' => Below V.heap.size V w' ∧ w'.cell? ⟨w.heap.size, 0, none⟩ = some (.int .i64 n.1) ∧ w'.cell? ⟨w.heap.size, 1, none⟩ = some (.slice mA1 (n.2.1).length mc1) ∧ w'.cell? ⟨w.heap.size, 2, none⟩ = some (.slice (some ⟨ab, aq, none⟩) (n.2.2.1).length mc2) ∧ w'.cell? ⟨w.heap.size, 3, none⟩ = some (.slice mA3 (n.2.2.2).length mc3) ∧ w'.cell? ⟨w3.heap.size, 0, none⟩ = some (.int .i64 x.1) ∧ w'.cell? ⟨w3.heap.size, 1, none⟩ = some (.int .i64 x.2)) w' := fun h hb => ⟨bThen h.1 hb, keep hb h.2.1, keep hb h.2.2.1, keep hb h.2.2.2.1, keep hb h.2.2.2.2.1, keep hb h.2.2.2.2.2.1, keep hb h.2.2.2.2.2.2⟩
        dsimp only at hS0 hS
        refine wp_region_noPanic ?_
        refine wp_region_kept 6 7 (fun w' => Below V.heap.size V w' ∧ w'.cell? ⟨w.heap.size, 0, none⟩ = some (.int .i64 n.1) ∧ w'.cell? ⟨w.heap.size, 1, none⟩ = some (.slice mA1 (n.2.1).length mc1) ∧ w'.cell? ⟨w.heap.size, 2, none⟩ = some (.slice (some ⟨ab, aq, none⟩) (n.2.2.1).length mc2) ∧ w'.cell? ⟨w.heap.size, 3, none⟩ = some (.slice mA3 (n.2.2.2).length mc3) ∧ w'.cell? ⟨w3.heap.size, 0, none⟩ = some (.int .i64 x.1) ∧ w'.cell? ⟨w3.heap.size, 1, none⟩ = some (.int .i64 x.2)) (by kernel_rfl) rfl (hS hS0 (Below.drew (Below.refl _ _))) (fun hK0 => ?_)
        refine Kept.take (v := ?va0) 0 (by kernel_rfl) rfl (by kernel_rfl) (fun _ _ _ h => h) (Or.inl ⟨by rfl, ?hya0⟩) hK0 ?resta0
        case hya0 =>
          intro w0 hSw
          (try dsimp only at hSw)
          go_simp
          all_goals (with_reducible rfl)
        (try simp only [Act.put, List.setIfInBounds_toArray, List.set_cons_zero, List.set_cons_succ])
        refine Kept.take (v := ?va1) 1 (by kernel_rfl) rfl (by kernel_rfl) (fun _ _ _ h => h) (Or.inl ⟨by rfl, ?hya1⟩) hK0 ?resta1
        case hya1 =>
          intro w0 hSw
          (try dsimp only at hSw)
          go_simp
          all_goals (with_reducible rfl)
        (try simp only [Act.put, List.setIfInBounds_toArray, List.set_cons_zero, List.set_cons_succ])
        refine Kept.take (v := ?va2) 2 (by kernel_rfl) rfl (by kernel_rfl) (fun _ _ _ h => h) (Or.inl ⟨by rfl, ?hya2⟩) hK0 ?resta2
        case hya2 =>
          intro w0 hSw
          (try dsimp only at hSw)
          go_simp
          all_goals (with_reducible rfl)
        (try simp only [Act.put, List.setIfInBounds_toArray, List.set_cons_zero, List.set_cons_succ])
        refine Kept.take (v := ?va3) 3 (by kernel_rfl) rfl (by kernel_rfl) (fun _ _ _ h => h) (Or.inl ⟨by rfl, ?hya3⟩) hK0 ?resta3
        case hya3 =>
          intro w0 hSw
          (try dsimp only at hSw)
          go_simp
          all_goals (with_reducible rfl)
        (try simp only [Act.put, List.setIfInBounds_toArray, List.set_cons_zero, List.set_cons_succ])
        refine Kept.one 4 (by kernel_rfl) rfl (fun K hK => ?_)
        go_simp
        go_at_call 72
        refine (andNode_at n k _ _ (rdUp good_Net HD.out (bThen HWV.out hK0.1)) (Nat.le_refl _) HP.out hk3).mono ?_
        rintro e wr0 ⟨rfl, hbr0⟩
        go_simp
        refine hK.out _ _ (hS hK0 hbr0) (fun hK1 => ?_)
        clear hK K hK0
        (try simp only [Act.put, List.setIfInBounds_toArray, List.set_cons_zero, List.set_cons_succ])
        refine Kept.one 5 (by kernel_rfl) rfl (fun K hK => ?_)
        go_simp
        go_at_call 78
        refine (litOf_at (firN n + k) (by omega) _).mono ?_
        rintro e wr1 ⟨rfl, rfl⟩
        go_simp
        refine hK.out _ _ (hK1) (fun hK2 => ?_)
        clear hK K hK1
        (try simp only [Act.put, List.setIfInBounds_toArray, List.set_cons_zero, List.set_cons_succ])
        refine Kept.tail (by rfl) (by kernel_rfl) ?_
        simp only [List.drop_succ_cons, List.drop_zero]
        obtain ⟨w9, Dn, hst, hmn, hsn, hgn⟩ := (HMV.out.below hK2.1).store HFX.out HI.out (by rw [List.length_take]; omega) (v := ((2 * (firN n + k) : Nat) : Int)) (by rw [List.length_take, Nat.min_eq_left (by omega)]) (by omega)
        have HMN := Lib.hid hmn
        rw [← take_snocA HX.out] at HMN
        have HSN := Lib.hid (hsn.trans ((congrArg (· + 1) HSZ.out).trans (cntK_new HX.out HI.out).symm))
        have HGN := Lib.hid (grown_trans (grown_belowR HGV.out hK2.1) hgn)
        clear hmn hsn hgn hK2 hS hS0 c0 c1 c2 c3 y0 y1
        go_wp2_with (at_mapUpdate; refine wpList_store (by rfl) (by rfl) (by rfl) (by rfl) (by rfl) hst ?_)
        refine NoPanic.normal ?_
        go_wp2
        go_roundw
        case rel => exact ⟨k + 1, Dn, by omega, by go_num, HMN.out, HSN.out, HGN.out⟩
        case measure => simp [intOf]; omega
    · obtain rfl : k = n.2.2.1.length := by omega
      have hm := HMD.out
      rw [List.take_length] at hm
      have HMF := Lib.hid hm
      have hwl := HW0.out.size
      clear hm hlt
      go_wp2
      go_ret
      exact ⟨Mb, Dm, rfl, by omega, HMF.out, HSZ.out, HB3.out⟩
end Go.Proofs.Ytedamhkcblemdaa
/- HiC: Copies of literals: the program; one element more in a copy. -/
namespace Go.Proofs.Ytedamhkcblemdaa
open Go.RowKit
set_option linter.unusedVariables false
set_option linter.unusedSimpArgs false

section
variable {w0 w w' : World} {F G : Nat} {v1 vA v3 : Value} {rows : List V3} {bs : List Nat} {n : DNet}
theorem CopyAt.addS {w6 : World} {k N : Nat} {v1' : Value} {r : V3} {x : DSeq} {cs : List Nat} (h : CopyAt w0 w F G v1 vA v3 rows bs n) (hown : w6.ownsRow (w0.heap.size + 2) TSeq 3 v1' k (rows.flatMap fV3 ++ fV3 r)) (hn : k = rows.length + 1) (hgrow : w.grownBy w6 v1.ownBlock) (hat : v1'.ownBlock = v1.ownBlock ∨ v1'.ownBlock = some w.heap.size)
    (hx : owSeq cs w (fV3 r) x) (hcn : cs.Nodup) (hlo : ∀ b ∈ cs, N ≤ b) (hN : w0.heap.size + 2 ≤ N) (hGN : G < N) (hFN : ∀ b ∈ blkL v1 ++ (bs ++ (blkL vA ++ blkL v3)), b < N) (hsz : w0.heap.size + 2 ≤ w.heap.size) :
    CopyAt w0 (w6.setCell ⟨G, 1, none⟩ v1') F G v1' vA v3 (rows ++ [r]) (bs ++ cs) (n.1, n.2.1 ++ [x], n.2.2.1, n.2.2.2) := by
  have hGlt := h.box.lt
  have hFlt := h.res.lt
  have hF2 := h.hF2
  have hGg := h.hG
  have hcw : ∀ b ∈ cs, b < w.heap.size := gow_Seq.lt _ _ _ _ hx
  have hown0 : ∀ g, v1.ownBlock = some g → w0.heap.size + 2 ≤ g ∧ g ≠ G ∧ g ≠ F := fun g e => by
    have h1 := (h.net.s.own.blk_lt e).2
    exact ⟨h1, h.off g (by simp [mem_blkL.2 e]), by omega⟩
  have hnew : ∀ g, g ∈ blkL v1' → g ∈ blkL v1 ∨ g = w.heap.size := fun g hg => by
    have e := mem_blkL.1 hg
    rcases hat with h1 | h1
    · exact .inl (mem_blkL.2 (h1 ▸ e))
    · rw [h1] at e; injection e with e; exact .inr e.symm
  have hcd : ∀ c ∈ cs, c ∉ blkL v1 ++ bs := fun c hc hm => by
    have h1 := hlo c hc
    have h2 := hFN c (by rcases List.mem_append.1 hm with hm | hm <;> simp [hm])
    omega
  have hin : ∀ b ∈ blkL v1' ++ (bs ++ cs), b ∈ blkL v1 ++ bs ∨ b = w.heap.size ∨ b ∈ cs := fun b hb => by
    rcases List.mem_append.1 hb with hb | hb
    · rcases hnew b hb with h1 | h1
      · exact .inl (List.mem_append.2 (.inl h1))
      · exact .inr (.inl h1)
    · rcases List.mem_append.1 hb with hb | hb
      · exact .inl (List.mem_append.2 (.inr hb))
      · exact .inr (.inr hb)
  have hG1 : ∀ b ∈ blkL v1' ++ (bs ++ cs), b ≠ G := fun b hb => by
    rcases hin b hb with h1 | h1 | h1
    · exact h.off b (by rcases List.mem_append.1 h1 with h1 | h1 <;> simp [h1])
    · omega
    · have := hlo b h1; omega
  have s1 := h.net.s.addV (n := k) (r := r) (x := x) (cs := cs) gow_Seq (Below.refl _ _) hgrow hown hn hat hx (nodup_add h.net.s.nd hcn hcd) (fun b hb => by have := hlo b hb; omega)
  have a1 := h.net.a.keepG gow_And hgrow (fun g e hb => h.net.sa g (List.mem_append.2 (.inl (mem_blkL.2 e))) (by simpa using hb))
  have o1 := h.net.o.keepG owInt_good hgrow (fun g e hb => h.net.so g (List.mem_append.2 (.inl (mem_blkL.2 e))) (by simpa using hb))
  refine ⟨?_, ?_, ⟨GrR.far gow_Seq s1 (fun hb => hG1 G hb rfl), a1.far gow_And (fun hb => h.off G (by simp only [List.append_nil] at hb; simp [hb]) rfl), o1.far owInt_good (fun hb => h.off G (by simp only [List.append_nil] at hb; simp [hb]) rfl), fun b hb => ?_, fun b hb => ?_, h.net.ao, h.net.fit⟩, fun b hb => ?_, ?_, h.hF, h.hF2, h.hG⟩
  · exact (h.box.at (hgrow.block G hGlt (fun e => (hown0 G e.symm).2.1 rfl))).set1 v1'
  · exact h.res.at ((Below.heap_setCell w6 _ _ F (by show F ≠ G; omega)).trans (hgrow.block F hFlt (fun e => (hown0 F e.symm).2.2 rfl)))
  · rcases hin b hb with h1 | h1 | h1
    · exact h.net.sa b h1
    · intro hm; have := (h.net.a.lt gow_And (by simpa using hm)).1; omega
    · intro hm; have := hlo b h1; have := hFN b (by simp [hm]); omega
  · rcases hin b hb with h1 | h1 | h1
    · exact h.net.so b h1
    · intro hm; have := (h.net.o.lt owInt_good (by simpa using hm)).1; omega
    · intro hm; have := hlo b h1; have := hFN b (by simp [hm]); omega
  · rcases List.mem_append.1 hb with hb | hb
    · exact hG1 b (List.mem_append.2 (.inl hb))
    rcases List.mem_append.1 hb with hb | hb
    · exact hG1 b (List.mem_append.2 (.inr hb))
    · exact h.off b (by rcases List.mem_append.1 hb with hb | hb <;> simp [hb])
  · exact bSet (h.chg.grown hgrow (by omega) (fun g e => by have := (hown0 g e).1; omega)) (by show w0.heap.size ≤ G; omega) _
theorem CopyAt.lt (h : CopyAt w0 w F G v1 vA v3 rows bs n) : ∀ b ∈ blkL v1 ++ (bs ++ (blkL vA ++ blkL v3)), b < w.heap.size := fun b hb => (h.net.lt hb).1
end
set_option maxRecDepth 100000 in
set_option maxHeartbeats 6400000 in
theorem of_at (to : List Int) (l t : Nat) (hx : to[l / 2]? = some (t : Int)) (v : Value) (w : World) (hv : rdIntS 0 w.heap.size w [v] to) (hl : Fit (l : Int)) {r : Int} (hr : mapI to (l : Int) = r) :
    Calls Try.prog 53 #[v, .int .i64 (l : Int)] w fun e w' => e = .returned (.int .i64 r) ∧ Below w.heap.size w w' := by
  have htf := rd_fit hv _ (List.mem_of_getElem? hx)
  unfold Fit at htf hl
  have hlt := (List.getElem?_eq_some_iff.1 hx).1
  obtain ⟨tA, tc, rfl, tm, -⟩ := slice_of hv
  obtain ⟨tb, tq, rfl, tb1, x1, -⟩ := at_Int hv hx
  have e3 := (map_bits hx (by omega)).trans hr
  obtain ⟨u, hu⟩ : ∃ u, (l : Int) % 2 = u := ⟨_, rfl⟩
  have HU := Lib.hid (show (l : Int) / 2 ^ 0 % 2 = u by rw [← hu]; simp)
  rw [hu] at e3
  obtain ⟨f, hf⟩ : ∃ f, l / 2 = f := ⟨_, rfl⟩
  rw [hf] at x1 hlt
  have ty : (f : Int) < (to.length : Int) := by omega
  clear hv hx hr hu
  go_enter Try.func53, Try.ntmps53
  go_wp2_with fail
  have hS0 : (fun w' => Below w.heap.size w w' ∧ w'.cell? ⟨tb, tq + f, none⟩ = some (.int .i64 (t : Int))) w := ⟨Below.refl _ _, x1⟩
  have hS : ∀ {w0 w' : World}, (fun w' => Below w.heap.size w w' ∧ w'.cell? ⟨tb, tq + f, none⟩ = some (.int .i64 (t : Int))) w0 → Below w0.heap.size w0 w' → (fun w' => Below w.heap.size w w' ∧ w'.cell? ⟨tb, tq + f, none⟩ = some (.int .i64 (t : Int))) w' := fun h hb => ⟨bThen h.1 hb, keep hb h.2⟩
  dsimp only at hS0 hS
  refine wp_region_noPanic ?_
  refine wp_region_kept 7 9 (fun w' => Below w.heap.size w w' ∧ w'.cell? ⟨tb, tq + f, none⟩ = some (.int .i64 (t : Int))) (by kernel_rfl) rfl (hS hS0 (Below.drew (Below.refl _ _))) (fun hK0 => ?_)
  refine Kept.take (v := ?va0) 0 (by kernel_rfl) rfl (by kernel_rfl) (fun _ _ _ h => h) (Or.inl ⟨by rfl, ?hya0⟩) hK0 ?resta0
  case hya0 =>
    intro w0 hSw
    (try dsimp only at hSw)
    go_simp
    all_goals (with_reducible rfl)
  (try simp only [Act.put, List.setIfInBounds_toArray, List.set_cons_zero, List.set_cons_succ])
  refine Kept.take (v := ?va1) 1 (by kernel_rfl) rfl (by kernel_rfl) (fun _ _ _ h => h) (Or.inl ⟨by rfl, ?hya1⟩) hK0 ?resta1
  case hya1 =>
    intro w0 hSw
    (try dsimp only at hSw)
    go_simp
    all_goals (with_reducible rfl)
  (try simp only [Act.put, List.setIfInBounds_toArray, List.set_cons_zero, List.set_cons_succ])
  refine Kept.take (v := ?va5) 5 (by kernel_rfl) rfl (by kernel_rfl) (fun _ _ _ h => h) (Or.inl ⟨by rfl, ?hya5⟩) hK0 ?resta5
  case hya5 =>
    intro w0 hSw
    (try dsimp only at hSw)
    go_simp
    all_goals (with_reducible rfl)
  (try simp only [Act.put, List.setIfInBounds_toArray, List.set_cons_zero, List.set_cons_succ])
  refine Kept.one 2 (by kernel_rfl) rfl (fun K hK => ?_)
  go_simp
  go_at_call 105
  refine (nodeOf_at l _ (by omega)).mono ?_
  rintro e wr0 ⟨rfl, hbr0⟩
  rw [hf]
  go_simp
  refine hK.out _ _ (hS hK0 hbr0) (fun hK1 => ?_)
  clear hK K hK0
  (try simp only [Act.put, List.setIfInBounds_toArray, List.set_cons_zero, List.set_cons_succ])
  refine Kept.take (v := ?va3) 3 (by kernel_rfl) rfl (by kernel_rfl) (fun _ _ _ h => h) (Or.inl ⟨by rfl, ?hya3⟩) hK1 ?resta3
  case hya3 =>
    intro w0 hSw
    (try dsimp only at hSw)
    go_simp
    all_goals (with_reducible rfl)
  (try simp only [Act.put, List.setIfInBounds_toArray, List.set_cons_zero, List.set_cons_succ])
  refine Kept.take (v := ?va4) 4 (by kernel_rfl) rfl (by kernel_rfl) (fun _ _ _ h => h) (Or.inl ⟨by rfl, ?hya4⟩) hK1 ?resta4
  case hya4 =>
    intro w0 hSw
    (try dsimp only at hSw)
    go_simp
    all_goals (with_reducible rfl)
  (try simp only [Act.put, List.setIfInBounds_toArray, List.set_cons_zero, List.set_cons_succ])
  refine Kept.one 6 (by kernel_rfl) rfl (fun K hK => ?_)
  go_simp
  go_at_call 106
  refine (bitOf_at (l : Int) 0 (by omega) _ HU.out).mono ?_
  rintro e wr1 ⟨rfl, rfl⟩
  go_simp
  refine hK.out _ _ (hK1) (fun hK2 => ?_)
  clear hK K hK1
  (try simp only [Act.put, List.setIfInBounds_toArray, List.set_cons_zero, List.set_cons_succ])
  refine Kept.tail (by rfl) (by kernel_rfl) ?_
  simp only [List.drop_succ_cons, List.drop_zero]
  have HB := Lib.hid hK2.1
  clear hK2 hS hS0 x1
  go_wp2
  refine NoPanic.normal ?_
  go_wp2
  go_ret
  exact ⟨rfl, HB.out⟩
/-- Literals whose nodes have copies. -/
def MapsIn (to lits : List Int) : Prop := ∀ x ∈ lits, ∃ p t : Nat, x = (p : Int) ∧ to[p / 2]? = some (t : Int)
set_option maxRecDepth 100000 in
set_option maxHeartbeats 6400000 in
theorem all_at (to lits : List Int) (v l : Value) (w : World) (hv : rdIntS 0 w.heap.size w [v] to) {B T : Nat} (hl : rdIntS B T w [l] lits) (hT : T ≤ w.heap.size) (hlit : MapsIn to lits) (hn : lits.length ≤ 1048576) :
    Calls Try.prog 55 #[v, l] w fun e w' => ∃ v', e = .returned v' ∧ OwnsI w' w.heap.size v' (lits.map (mapI to)) ∧ Below w.heap.size w w' := by
  obtain ⟨i0, hi, hz0, hz1, hz2⟩ := info_parts infoI
  have HV := Lib.hid hv
  have HL := Lib.hid hl
  have HLIT := Lib.hid hlit
  have HLF := Lib.hid (rd_fit hl)
  obtain ⟨tA, tc, rfl, tm, -⟩ := slice_of hv
  obtain ⟨lA, lc, rfl, lm, -⟩ := slice_of hl
  clear hv hl hlit
  go_enter Try.func55, Try.ntmps55
  go_wp2
  have HO := Lib.hid (own_nilI w w.heap.size)
  have HB := Lib.hid (Below.refl w.heap.size w)
  go_loopw [5, 10] (fun s z wr => ∃ (k : Nat) (A : Option Addr) (c : Nat), k ≤ lits.length ∧ z = .int .i64 (k : Int) ∧ s = .slice A k c ∧ OwnsI wr w.heap.size (.slice A k c) ((lits.take k).map (mapI to)) ∧ Below w.heap.size w wr) (fun _ z _ => lits.length - (intOf z).toNat)
  case atStart => exact ⟨0, none, 0, Nat.zero_le _, rfl, rfl, HO.out, HB.out⟩
  case round =>
    obtain ⟨k, A, c, hk, rfl, rfl, hown, hb⟩ := hrel
    obtain ⟨w3, rfl⟩ : ∃ w3, w3 = wr := ⟨_, rfl⟩
    clear HO HB
    have HO := Lib.hid hown
    have HB := Lib.hid hb
    clear hown hb
    by_cases hlt : k < lits.length
    · obtain ⟨x, hx⟩ : ∃ x, lits[k]? = some x := ⟨_, List.getElem?_eq_getElem hlt⟩
      obtain ⟨p, t, rfl, hp⟩ := HLIT.out x (List.mem_of_getElem? hx)
      obtain ⟨lb, lq, rfl, lb1, x0, -⟩ := at_Int (good_IntS.below HL.out hT HB.out) hx
      have lb2 := Nat.lt_of_lt_of_le lb1 (Nat.le_trans hT HB.out.size)
      have HPT := Lib.hid hp
      have HPF := Lib.hid (HLF.out _ (List.mem_of_getElem? hx))
      have ky : (k : Int) < (lits.length : Int) := by omega
      obtain ⟨y, hy⟩ : ∃ y, mapI to (p : Int) = y := ⟨_, rfl⟩
      have HY := Lib.hid hy
      have HNX := Lib.hid (show (lits.take (k + 1)).map (mapI to) = (lits.take k).map (mapI to) ++ [y] by rw [List.take_add_one, hx, List.map_append, ← hy]; rfl)
      clear hx hy hp lb1
      go_wp2_with fail
      refine (of_at to p t HPT.out _ w3 (rdUp good_IntS HV.out HB.out) HPF.out HY.out).mono ?_
      rintro e w4 ⟨rfl, hb4⟩
      have HB4 := Lib.hid hb4
      obtain ⟨WA, hWA⟩ : ∃ WA, WA = (w4.alloc (.cells #[.int .i64 y] 3)) := ⟨_, rfl⟩
      have HBA := Lib.hid (show Below w3.heap.size w3 WA by rw [hWA]; exact bThen hb4 (bAlloc (Below.refl _ _) (Nat.le_refl _) _))
      have HNBk := Lib.hid (show WA.heap[w4.heap.size]? = some (.cells #[.int .i64 y] 3 (0, 0)) by rw [hWA]; exact heap_alloc_new _ _)
      obtain ⟨KL, hKL⟩ : ∃ KL, (lits.take k).map (mapI to) = KL := ⟨_, rfl⟩
      rw [hKL] at HO HNX
      have HLK := Lib.hid (show KL.length = k by rw [← hKL]; simp; omega)
      have HOA := Lib.hid (HO.out.below HBA.out)
      have hsz := Lib.hid (show w.heap.size ≤ WA.heap.size from Nat.le_trans HB.out.size HBA.out.size)
      have HOR := Lib.hid (show WA.ownsRow w.heap.size 3 1 (.slice A k c) k (KL.map vI) by have h := HOA.out; unfold OwnsI at h; rw [HLK.out] at h; exact h)
      rw [hWA] at HOR HNBk hsz
      clear hKL x0 hb4
      go_wp2_with (at_builtin; refine wpList_append_all (by rfl) _ _ 24 (by rfl) w.heap.size 3 i0 (.int .i64 0) 1 8 Try.underlying24 hi hz0 hz1 hz2 rfl (by omega) (.slice A k c) k (KL.map vI) (by rfl) HOR.out (some ⟨w4.heap.size, 0, none⟩) 1 1 [.int .i64 y] (by rfl) (by rfl) (.inr ⟨_, rfl, World.news_of_block HNBk.out⟩) (by simp [Value.oneCell']) (by unfold maxLen; omega) (by omega) hsz.out ?_; intro A' c' w7 hown7 hgrow7 hkeep7 hat7)
      rw [← hWA] at hgrow7
      rw [← hWA] at hsz
      have HB7 := Lib.hid (((bThen HB.out HBA.out).grown hgrow7 hsz.out (fun g hg => (HO.out.lt g hg).1)))
      have HO7 := Lib.hid (show OwnsI w7 w.heap.size (.slice A' (k + 1) c') (KL ++ [y]) from (by unfold OwnsI; rw [List.length_append, List.map_append, HLK.out]; exact hown7))
      clear hown7 hgrow7 hkeep7 hat7 hsz
      go_roundw
      case rel =>
        refine ⟨k + 1, A', c', by omega, by go_num, ?_, ?_, HB7.out⟩
        · rfl
        · rw [HNX.out]; exact HO7.out
      case measure => simp [intOf] <;> omega
    · obtain rfl : k = lits.length := by omega
      have HO2 := HO.out
      rw [List.take_length] at HO2
      have HO3 := Lib.hid HO2
      clear hlt HO2
      go_wp2
      go_ret
      exact ⟨_, rfl, HO3.out, HB.out⟩
end Go.Proofs.Ytedamhkcblemdaa
