/-
  Own, Num, DoInt, DoSeq, DoAnd, DoNet as one text.
-/
import Derived.Test.YtiejilmgchmppaaDmN
/- Own: Data that a call owns: each slice lies in a block of its own; what changes one element of a slice. -/
namespace Go.Proofs.Ytiejilmgchmppaa
open Go.RowKit
set_option linter.unusedVariables false

/-- How cells read as a datum whose slices lie in the blocks bs. -/
abbrev Ow (α : Type) := List Nat → World → List Value → α → Prop
/-- It hangs on those blocks alone, and they are there. -/
structure Ow.Good {α : Type} (P : Ow α) : Prop where
  frame : ∀ (bs : List Nat) (w w' : World) (vs : List Value) (x : α), P bs w vs x → (∀ b ∈ bs, w'.heap[b]? = w.heap[b]?) → P bs w' vs x
  lt : ∀ (bs : List Nat) (w : World) (vs : List Value) (x : α), P bs w vs x → ∀ b ∈ bs, b < w.heap.size
def owInt : Ow Int := fun bs _ vs x => bs = [] ∧ vs = [.int .i64 x] ∧ Fit x
theorem owInt_good : owInt.Good := ⟨fun _ _ _ _ _ h _ => h, fun _ _ _ _ ⟨h, _⟩ b hb => by rw [h] at hb; cases hb⟩
section
variable {α β γ δ : Type}
def owS (k : Nat) (P : Ow α) : Ow (List α) := fun bs w vs L => ∃ A c, vs = [.slice A L.length c] ∧ (L.length ≤ maxLen ∧ L.length ≤ c) ∧
  ((L = [] ∧ bs = []) ∨ ∃ (g o : Nat) (bf : Nat → List Nat), A = some ⟨g, o, none⟩ ∧ bs = g :: (List.range L.length).flatMap bf ∧ g < w.heap.size ∧
    ∀ j (hj : j < L.length), ∃ us : List Value, us.length = k ∧ (∀ i u, us[i]? = some u → w.cell? ⟨g, o + j * k + i, none⟩ = some u ∧ w.frozen? ⟨g, o + j * k + i, none⟩ = false) ∧ P (bf j) w us L[j])
theorem mem_bf {n : Nat} {bf : Nat → List Nat} {j b : Nat} (hj : j < n) (hb : b ∈ bf j) : b ∈ (List.range n).flatMap bf := List.mem_flatMap.2 ⟨j, List.mem_range.2 hj, hb⟩
theorem owS_good (k : Nat) {P : Ow α} (g : P.Good) : (owS k P).Good := by
  constructor
  · rintro bs w w' vs L ⟨A, c, e, hm, h⟩ hk
    refine ⟨A, c, e, hm, ?_⟩
    rcases h with h | ⟨g0, o, bf, hA, hbs, hg, h⟩
    · exact .inl h
    · subst hbs
      have e0 := hk g0 (List.mem_cons_self ..)
      refine .inr ⟨g0, o, bf, hA, rfl, ?_, fun j hj => ?_⟩
      · apply Nat.lt_of_not_le
        intro hle
        have h1 : w.heap[g0]? = some w.heap[g0] := Array.getElem?_eq_getElem hg
        rw [Array.getElem?_eq_none hle, h1] at e0; cases e0
      · obtain ⟨us, hl, hc, hp⟩ := h j hj
        refine ⟨us, hl, fun i u hu => ⟨?_, ?_⟩, g.frame _ w w' _ _ hp fun b hb => hk b (List.mem_cons_of_mem _ (mem_bf hj hb))⟩
        · exact (World.cell?_of_block (w := w) (w' := w') (a := ⟨g0, o + j * k + i, none⟩) e0).trans (hc i u hu).1
        · exact (World.frozen?_of_block (w := w) (w' := w') (a := ⟨g0, o + j * k + i, none⟩) e0).trans (hc i u hu).2
  · rintro bs w vs L ⟨A, c, e, hm, h⟩ b hb
    rcases h with ⟨_, h⟩ | ⟨g0, o, bf, hA, hbs, hg, h⟩
    · rw [h] at hb; cases hb
    · rw [hbs] at hb
      rcases List.mem_cons.1 hb with rfl | hb
      · exact hg
      · obtain ⟨j, hj, hb⟩ := List.mem_flatMap.1 hb
        obtain ⟨us, hl, hc, hp⟩ := h j (List.mem_range.1 hj)
        exact g.lt _ _ _ _ hp b hb
def ow1 (P : Ow α) : Ow α := fun bs w vs x => ∃ u, vs = [u] ∧ P bs w [u] x
def ow2 (P : Ow α) (Q : Ow β) : Ow (α × β) := fun bs w vs x => ∃ b0 b1 u0 u1, bs = b0 ++ b1 ∧ vs = [u0, u1] ∧ P b0 w [u0] x.1 ∧ Q b1 w [u1] x.2
def ow3 (P : Ow α) (Q : Ow β) (R : Ow γ) : Ow (α × β × γ) := fun bs w vs x => ∃ b0 b1 b2 u0 u1 u2, bs = b0 ++ (b1 ++ b2) ∧ vs = [u0, u1, u2] ∧ P b0 w [u0] x.1 ∧ Q b1 w [u1] x.2.1 ∧ R b2 w [u2] x.2.2
def ow4 (P : Ow α) (Q : Ow β) (R : Ow γ) (S : Ow δ) : Ow (α × β × γ × δ) := fun bs w vs x => ∃ b0 b1 b2 b3 u0 u1 u2 u3, bs = b0 ++ (b1 ++ (b2 ++ b3)) ∧ vs = [u0, u1, u2, u3] ∧ P b0 w [u0] x.1 ∧ Q b1 w [u1] x.2.1 ∧ R b2 w [u2] x.2.2.1 ∧ S b3 w [u3] x.2.2.2
theorem ow1_good {P : Ow α} (g : P.Good) : (ow1 P).Good :=
  ⟨fun bs w w' vs x ⟨u, e, h⟩ hk => ⟨u, e, g.frame _ w w' _ _ h hk⟩, fun bs w vs x ⟨u, e, h⟩ => g.lt _ _ _ _ h⟩
theorem ow2_good {P : Ow α} {Q : Ow β} (g : P.Good) (k : Q.Good) : (ow2 P Q).Good := by
  constructor
  · rintro bs w w' vs x ⟨b0, b1, u0, u1, rfl, e, h0, h1⟩ hk
    exact ⟨b0, b1, u0, u1, rfl, e, g.frame _ w w' _ _ h0 fun b hb => hk b (by simp [hb]), k.frame _ w w' _ _ h1 fun b hb => hk b (by simp [hb])⟩
  · rintro bs w vs x ⟨b0, b1, u0, u1, rfl, e, h0, h1⟩ b hb
    rcases List.mem_append.1 hb with hb | hb
    · exact g.lt _ _ _ _ h0 b hb
    · exact k.lt _ _ _ _ h1 b hb
theorem ow3_good {P : Ow α} {Q : Ow β} {R : Ow γ} (g : P.Good) (k : Q.Good) (m : R.Good) : (ow3 P Q R).Good := by
  constructor
  · rintro bs w w' vs x ⟨b0, b1, b2, u0, u1, u2, rfl, e, h0, h1, h2⟩ hk
    exact ⟨b0, b1, b2, u0, u1, u2, rfl, e, g.frame _ w w' _ _ h0 fun b hb => hk b (by simp [hb]), k.frame _ w w' _ _ h1 fun b hb => hk b (by simp [hb]), m.frame _ w w' _ _ h2 fun b hb => hk b (by simp [hb])⟩
  · rintro bs w vs x ⟨b0, b1, b2, u0, u1, u2, rfl, e, h0, h1, h2⟩ b hb
    rcases List.mem_append.1 hb with hb | hb
    · exact g.lt _ _ _ _ h0 b hb
    · rcases List.mem_append.1 hb with hb | hb
      · exact k.lt _ _ _ _ h1 b hb
      · exact m.lt _ _ _ _ h2 b hb
theorem ow4_good {P : Ow α} {Q : Ow β} {R : Ow γ} {S : Ow δ} (g : P.Good) (k : Q.Good) (m : R.Good) (n : S.Good) : (ow4 P Q R S).Good := by
  constructor
  · rintro bs w w' vs x ⟨b0, b1, b2, b3, u0, u1, u2, u3, rfl, e, h0, h1, h2, h3⟩ hk
    exact ⟨b0, b1, b2, b3, u0, u1, u2, u3, rfl, e, g.frame _ w w' _ _ h0 fun b hb => hk b (by simp [hb]), k.frame _ w w' _ _ h1 fun b hb => hk b (by simp [hb]), m.frame _ w w' _ _ h2 fun b hb => hk b (by simp [hb]), n.frame _ w w' _ _ h3 fun b hb => hk b (by simp [hb])⟩
  · rintro bs w vs x ⟨b0, b1, b2, b3, u0, u1, u2, u3, rfl, e, h0, h1, h2, h3⟩ b hb
    rcases List.mem_append.1 hb with hb | hb
    · exact g.lt _ _ _ _ h0 b hb
    · rcases List.mem_append.1 hb with hb | hb
      · exact k.lt _ _ _ _ h1 b hb
      · rcases List.mem_append.1 hb with hb | hb
        · exact m.lt _ _ _ _ h2 b hb
        · exact n.lt _ _ _ _ h3 b hb
/-- An owned datum, read. -/
def Ow.Rds (P : Ow α) (R : Rd α) : Prop := ∀ (B T : Nat) (bs : List Nat) (w : World) (vs : List Value) (x : α), P bs w vs x → (∀ b ∈ bs, B ≤ b ∧ b < T) → R B T w vs x
theorem owInt_rds : Ow.Rds owInt rdInt := fun _ _ _ _ _ _ ⟨_, h⟩ _ => h
theorem owS_rds (k : Nat) {P : Ow α} {R : Rd α} (g : Ow.Rds P R) : Ow.Rds (owS k P) (rdS k R) := by
  rintro B T bs w vs L ⟨A, c, e, hm, h⟩ hB
  refine ⟨A, c, e, hm, fun j hj => ?_⟩
  rcases h with ⟨rfl, _⟩ | ⟨g0, o, bf, hA, rfl, hg, h⟩
  · exact absurd hj (by simp)
  · obtain ⟨us, hl, hc, hp⟩ := h j hj
    have h0 := hB g0 (List.mem_cons_self ..)
    exact ⟨g0, o, hA, h0.1, h0.2, us, hl, fun i u hu => (hc i u hu).1, g _ _ _ _ _ _ hp fun b hb => hB b (List.mem_cons_of_mem _ (mem_bf hj hb))⟩
theorem ow1_rds {P : Ow α} {R : Rd α} (g : Ow.Rds P R) : Ow.Rds (ow1 P) (rd1 R) := fun B T bs w vs x ⟨u, e, h⟩ hB => ⟨u, e, g _ _ _ _ _ _ h hB⟩
theorem ow2_rds {P : Ow α} {R : Rd α} {Q : Ow β} {S : Rd β} (g : Ow.Rds P R) (k : Ow.Rds Q S) : Ow.Rds (ow2 P Q) (rd2 R S) := by
  rintro B T bs w vs x ⟨b0, b1, u0, u1, rfl, e, h0, h1⟩ hB
  exact ⟨u0, u1, e, g _ _ _ _ _ _ h0 fun b hb => hB b (by simp [hb]), k _ _ _ _ _ _ h1 fun b hb => hB b (by simp [hb])⟩
theorem ow3_rds {P : Ow α} {R : Rd α} {Q : Ow β} {S : Rd β} {U : Ow γ} {V : Rd γ} (g : Ow.Rds P R) (k : Ow.Rds Q S) (m : Ow.Rds U V) : Ow.Rds (ow3 P Q U) (rd3 R S V) := by
  rintro B T bs w vs x ⟨b0, b1, b2, u0, u1, u2, rfl, e, h0, h1, h2⟩ hB
  exact ⟨u0, u1, u2, e, g _ _ _ _ _ _ h0 fun b hb => hB b (by simp [hb]), k _ _ _ _ _ _ h1 fun b hb => hB b (by simp [hb]), m _ _ _ _ _ _ h2 fun b hb => hB b (by simp [hb])⟩
theorem ow4_rds {P : Ow α} {R : Rd α} {Q : Ow β} {S : Rd β} {U : Ow γ} {V : Rd γ} {X : Ow δ} {Y : Rd δ} (g : Ow.Rds P R) (k : Ow.Rds Q S) (m : Ow.Rds U V) (n : Ow.Rds X Y) : Ow.Rds (ow4 P Q U X) (rd4 R S V Y) := by
  rintro B T bs w vs x ⟨b0, b1, b2, b3, u0, u1, u2, u3, rfl, e, h0, h1, h2, h3⟩ hB
  exact ⟨u0, u1, u2, u3, e, g _ _ _ _ _ _ h0 fun b hb => hB b (by simp [hb]), k _ _ _ _ _ _ h1 fun b hb => hB b (by simp [hb]), m _ _ _ _ _ _ h2 fun b hb => hB b (by simp [hb]), n _ _ _ _ _ _ h3 fun b hb => hB b (by simp [hb])⟩
end

/-- From w to w' only blocks of bs have changed, and new blocks have come. -/
structure ChgL (bs : List Nat) (w w' : World) : Prop where
  os : w'.os = w.os
  tape : w'.tape = w.tape
  output : w'.output = w.output
  size : w.heap.size ≤ w'.heap.size
  block : ∀ k, k < w.heap.size → k ∉ bs → w'.heap[k]? = w.heap[k]?
theorem ChgL.refl (bs : List Nat) (w : World) : ChgL bs w w := ⟨rfl, rfl, rfl, Nat.le_refl _, fun _ _ _ => rfl⟩
theorem ChgL.trans {bs : List Nat} {a b c : World} (h : ChgL bs a b) (k : ChgL bs b c) : ChgL bs a c :=
  ⟨k.os.trans h.os, k.tape.trans h.tape, k.output.trans h.output, Nat.le_trans h.size k.size, fun i hi hg => (k.block i (Nat.lt_of_lt_of_le hi h.size) hg).trans (h.block i hi hg)⟩
theorem ChgL.below {bs : List Nat} {a b c : World} (h : ChgL bs a b) (k : Below b.heap.size b c) : ChgL bs a c :=
  h.trans ⟨k.os, k.tape, k.output, k.size, fun i hi _ => k.block i hi⟩
theorem ChgL.set {bs : List Nat} {a b : World} (h : ChgL bs a b) {g : Nat} (hg : g ∈ bs) (o : Nat) (v : Value) : ChgL bs a (b.setCell ⟨g, o, none⟩ v) :=
  h.trans ⟨rfl, rfl, rfl, by simp [World.setCell], fun k _ hk => heap_setCell_other b ⟨g, o, none⟩ k v (fun e => hk (by rw [e]; exact hg))⟩
theorem ChgL.wider {bs cs : List Nat} {a b : World} (h : ChgL bs a b) (hs : ∀ k ∈ bs, k ∈ cs) : ChgL cs a b :=
  ⟨h.os, h.tape, h.output, h.size, fun k hk hn => h.block k hk fun hb => hn (hs k hb)⟩
/-- .. and of block g only the cells lo .. hi - 1. -/
structure Elem (g lo hi : Nat) (bj : List Nat) (w w' : World) : Prop where
  chg : ChgL (g :: bj) w w'
  cell : ∀ off, off < lo ∨ hi ≤ off → w'.cell? ⟨g, off, none⟩ = w.cell? ⟨g, off, none⟩ ∧ w'.frozen? ⟨g, off, none⟩ = w.frozen? ⟨g, off, none⟩
theorem Elem.refl (g lo hi : Nat) (bj : List Nat) (w : World) : Elem g lo hi bj w w := ⟨ChgL.refl _ _, fun _ _ => ⟨rfl, rfl⟩⟩
theorem Elem.set {g lo hi : Nat} {bj : List Nat} {a b : World} (h : Elem g lo hi bj a b) {o : Nat} (h1 : lo ≤ o) (h2 : o < hi) (v : Value) : Elem g lo hi bj a (b.setCell ⟨g, o, none⟩ v) :=
  ⟨h.chg.set (List.mem_cons_self ..) o v, fun off ho => by
    rw [World.cell?_setCell_other b ⟨g, o, none⟩ ⟨g, off, none⟩ v (by intro e; injection e with _ e; omega), World.frozen?_setCell]
    exact h.cell off ho⟩
theorem Elem.sub {g lo hi : Nat} {bj bs : List Nat} {a b c : World} (h : Elem g lo hi bj a b) (k : ChgL bs b c) (hs : ∀ x ∈ bs, x ∈ bj) (hg : g ∉ bs) (hlt : g < a.heap.size) : Elem g lo hi bj a c :=
  ⟨h.chg.trans (k.wider fun x hx => List.mem_cons_of_mem _ (hs x hx)), fun off ho => by
    have e := k.block g (Nat.lt_of_lt_of_le hlt h.chg.size) hg
    exact ⟨(World.cell?_of_block (w := b) (w' := c) (a := ⟨g, off, none⟩) e).trans (h.cell off ho).1, (World.frozen?_of_block (w := b) (w' := c) (a := ⟨g, off, none⟩) e).trans (h.cell off ho).2⟩⟩
theorem nodup_bf {n : Nat} {bf : Nat → List Nat} (h : ((List.range n).flatMap bf).Nodup) {i j : Nat} (hi : i < n) (hj : j < n) (hne : i ≠ j) {b : Nat} (h1 : b ∈ bf i) : b ∉ bf j := by
  intro h2
  induction n with
  | zero => omega
  | succ n ih =>
    rw [List.range_succ, List.flatMap_append, List.nodup_append] at h
    obtain ⟨ha, _, hd⟩ := h
    by_cases hin : i = n
    · subst hin
      exact hd b (mem_bf (by omega) h2) b (by simpa using h1) rfl
    · by_cases hjn : j = n
      · subst hjn
        exact hd b (mem_bf (by omega) h1) b (by simpa using h2) rfl
      · exact ih ha (by omega) (by omega)
theorem nodup_bf1 {n : Nat} {bf : Nat → List Nat} (h : ((List.range n).flatMap bf).Nodup) {j : Nat} (hj : j < n) : (bf j).Nodup := by
  induction n with
  | zero => omega
  | succ n ih =>
    rw [List.range_succ, List.flatMap_append, List.nodup_append] at h
    by_cases hjn : j = n
    · subst hjn; simpa using h.2.1
    · exact ih h.1 (by omega)
/-- One element of an owned slice, and what stands when it alone has changed. -/
theorem owS_elem {α : Type} {k : Nat} {P : Ow α} (good : P.Good) {bs : List Nat} {w : World} {A : Option Addr} {n c : Nat} {M : List α} (h : owS k P bs w [.slice A n c] M) (nd : bs.Nodup) (j : Nat) (hj : j < M.length) :
    ∃ (g o : Nat) (bj : List Nat) (us : List Value), A = some ⟨g, o, none⟩ ∧ g ∈ bs ∧ (∀ b ∈ bj, b ∈ bs) ∧ g < w.heap.size ∧ us.length = k ∧
      (∀ i u, us[i]? = some u → w.cell? ⟨g, o + j * k + i, none⟩ = some u ∧ w.frozen? ⟨g, o + j * k + i, none⟩ = false) ∧ P bj w us M[j] ∧ g ∉ bj ∧ bj.Nodup ∧
      ∀ (w' : World) (us' : List Value) (y : α), Elem g (o + j * k) (o + j * k + k) bj w w' → us'.length = k →
        (∀ i u, us'[i]? = some u → w'.cell? ⟨g, o + j * k + i, none⟩ = some u ∧ w'.frozen? ⟨g, o + j * k + i, none⟩ = false) → P bj w' us' y → owS k P bs w' [.slice A n c] (M.set j y) := by
  obtain ⟨A', c', e, hm, h⟩ := h
  injection e with e
  injection e with e1 e2 e3
  subst e1 e2 e3
  rcases h with ⟨rfl, _⟩ | ⟨g, o, bf, rfl, rfl, hg, h⟩
  · exact absurd hj (by simp)
  · rw [List.nodup_cons] at nd
    obtain ⟨us, hl, hc, hp⟩ := h j hj
    refine ⟨g, o, bf j, us, rfl, List.mem_cons_self .., fun b hb => List.mem_cons_of_mem _ (mem_bf hj hb), hg, hl, hc, hp, fun hb => nd.1 (mem_bf hj hb), nodup_bf1 nd.2 hj, fun w' us' y he hl' hc' hp' => ?_⟩
    refine ⟨_, _, by rw [List.length_set], by rw [List.length_set]; exact hm, .inr ⟨g, o, bf, rfl, by rw [List.length_set], Nat.lt_of_lt_of_le hg he.chg.size, fun i hi => ?_⟩⟩
    rw [List.length_set] at hi
    by_cases hij : i = j
    · subst hij
      exact ⟨us', hl', hc', by rw [List.getElem_set_self]; exact hp'⟩
    · obtain ⟨vs, hvl, hvc, hvp⟩ := h i hi
      refine ⟨vs, hvl, fun t u hu => ?_, ?_⟩
      · have ht : t < k := by rw [← hvl]; exact (List.getElem?_eq_some_iff.1 hu).1
        have hout : o + i * k + t < o + j * k ∨ o + j * k + k ≤ o + i * k + t := by
          rcases Nat.lt_or_gt_of_ne hij with hlt | hgt
          · left
            have := Nat.mul_le_mul_right k (show i + 1 ≤ j from hlt)
            rw [Nat.add_mul] at this; omega
          · right
            have := Nat.mul_le_mul_right k (show j + 1 ≤ i from hgt)
            rw [Nat.add_mul] at this; omega
        exact ⟨(he.cell _ hout).1.trans (hvc t u hu).1, (he.cell _ hout).2.trans (hvc t u hu).2⟩
      · rw [List.getElem_set_ne (Ne.symm hij)]
        refine good.frame _ w w' _ _ hvp fun b hb => he.chg.block b (good.lt _ _ _ _ hvp b hb) fun hmem => ?_
        rcases List.mem_cons.1 hmem with rfl | hmem
        · exact nd.1 (mem_bf hi hb)
        · exact nodup_bf nd.2 hi hj hij hb hmem
end Go.Proofs.Ytiejilmgchmppaa
/- Num: Numbered data; cells behind stores. -/
namespace Go.Proofs.Ytiejilmgchmppaa
open Go.RowKit
set_option linter.unusedVariables false
section
variable {α : Type} (nu : Int → α → α) (cn : α → Nat)
/-- The elements numbered one behind the other. -/
def numG : Int → List α → List α
  | _, [] => []
  | k, x :: xs => nu k x :: numG (k + (cn x : Int)) xs
def cntG (L : List α) : Nat := (L.map cn).sum
theorem numG_len : ∀ (L : List α) (k : Int), (numG nu cn k L).length = L.length
  | [], _ => rfl
  | x :: xs, k => by unfold numG; rw [List.length_cons, List.length_cons, numG_len xs]
theorem numG_append : ∀ (L M : List α) (k : Int), numG nu cn k (L ++ M) = numG nu cn k L ++ numG nu cn (k + (cntG cn L : Int)) M
  | [], M, k => by simp [numG, cntG]
  | x :: xs, M, k => by
    have h := numG_append xs M (k + (cn x : Int))
    have e : (k + (cn x : Int)) + (cntG cn xs : Int) = k + (cntG cn (x :: xs) : Int) := by unfold cntG; rw [List.map_cons, List.sum_cons]; omega
    rw [e] at h
    show nu k x :: numG nu cn (k + (cn x : Int)) (xs ++ M) = _
    rw [h]; rfl
theorem numG_snoc (L : List α) (i : Nat) (x : α) (k : Int) (h : L[i]? = some x) : numG nu cn k (L.take (i + 1)) = numG nu cn k (L.take i) ++ [nu (k + (cntG cn (L.take i) : Int)) x] := by
  rw [List.take_add_one, h]
  show numG nu cn k (L.take i ++ [x]) = _
  rw [numG_append]; rfl
theorem numG_set (L : List α) (i : Nat) (x : α) (k : Int) (h : L[i]? = some x) :
    (numG nu cn k (L.take i) ++ L.drop i).set i (nu (k + (cntG cn (L.take i) : Int)) x) = numG nu cn k (L.take (i + 1)) ++ L.drop (i + 1) := by
  have hi : i < L.length := (List.getElem?_eq_some_iff.1 h).1
  have hl : (numG nu cn k (L.take i)).length = i := by rw [numG_len, List.length_take]; omega
  rw [List.set_append_right _ _ (by omega), hl, Nat.sub_self, List.drop_eq_getElem_cons hi, List.set_cons_zero, numG_snoc nu cn L i x k h, List.append_assoc]; rfl
theorem numG_mid (L : List α) (i : Nat) (x : α) (k : Int) (h : L[i]? = some x) : (numG nu cn k (L.take i) ++ L.drop i)[i]? = some x := by
  have hi : i < L.length := (List.getElem?_eq_some_iff.1 h).1
  have hl : (numG nu cn k (L.take i)).length = i := by rw [numG_len, List.length_take]; omega
  rw [List.getElem?_append_right (by omega), hl, Nat.sub_self, List.getElem?_drop]; simpa using h
theorem numG_get (L : List α) (i : Nat) (x : α) (k : Int) (h : L[i]? = some x) : (numG nu cn k L)[i]? = some (nu (k + (cntG cn (L.take i) : Int)) x) := by
  have hi : i < L.length := (List.getElem?_eq_some_iff.1 h).1
  have hl : (numG nu cn k (L.take (i + 1))).length = i + 1 := by rw [numG_len, List.length_take]; omega
  have e : numG nu cn k L = numG nu cn k (L.take (i + 1)) ++ numG nu cn (k + (cntG cn (L.take (i + 1)) : Int)) (L.drop (i + 1)) := by rw [← numG_append, List.take_append_drop]
  rw [e, List.getElem?_append_left (by omega), numG_snoc nu cn L i x k h, List.getElem?_append_right (by rw [numG_len, List.length_take]; omega), numG_len, List.length_take, show i - min i L.length = 0 by omega]
  rfl
theorem cntG_step (L : List α) (i : Nat) (x : α) (h : L[i]? = some x) : cntG cn (L.take (i + 1)) = cntG cn (L.take i) + cn x := by
  unfold cntG; rw [List.take_add_one, h, List.map_append, List.sum_append]; simp
theorem cntG_le (L : List α) (i : Nat) : cntG cn (L.take i) ≤ cntG cn L := by
  have h := List.take_append_drop i L
  unfold cntG
  rw [← h, List.map_append, List.sum_append, h]; omega
end
theorem set_same {W : World} {b o : Nat} {v u : Value} (h : W.cell? ⟨b, o, none⟩ = some u) : (W.setCell ⟨b, o, none⟩ v).cell? ⟨b, o, none⟩ = some v := World.cell?_setCell_same' W _ _ (by rw [h]; rfl)
theorem set_froz {W : World} {b o o' : Nat} {v : Value} (h : W.frozen? ⟨b, o, none⟩ = false) : (W.setCell ⟨b, o', none⟩ v).frozen? ⟨b, o, none⟩ = false := by rw [World.frozen?_setCell]; exact h
theorem chg_cell {bs : List Nat} {V W : World} {g o : Nat} {u : Value} (h : ChgL bs V W) (hg : g ∉ bs) (hc : V.cell? ⟨g, o, none⟩ = some u) : W.cell? ⟨g, o, none⟩ = some u :=
  (World.cell?_of_block (w := V) (w' := W) (a := ⟨g, o, none⟩) (h.block g (World.block_lt_of_cell? _ _ hc) hg)).trans hc
theorem chg_froz {bs : List Nat} {V W : World} {g o : Nat} {u : Value} (h : ChgL bs V W) (hg : g ∉ bs) (hc : V.cell? ⟨g, o, none⟩ = some u) (hf : V.frozen? ⟨g, o, none⟩ = false) : W.frozen? ⟨g, o, none⟩ = false :=
  (World.frozen?_of_block (w := V) (w' := W) (a := ⟨g, o, none⟩) (h.block g (World.block_lt_of_cell? _ _ hc) hg)).trans hf
abbrev CF (W : World) (g o : Nat) (u : Value) : Prop := W.cell? ⟨g, o, none⟩ = some u ∧ W.frozen? ⟨g, o, none⟩ = false
theorem cells1 {W : World} {g b : Nat} {u0 : Value} (h0 : CF W g b u0) : ∀ (i : Nat) (u : Value), [u0][i]? = some u → CF W g (b + i) u := by
  intro i u hu
  match i, hu with
  | 0, hu => simp at hu; subst hu; exact h0
theorem cells2 {W : World} {g b : Nat} {u0 u1 : Value} (h0 : CF W g b u0) (h1 : CF W g (b + 1) u1) : ∀ (i : Nat) (u : Value), [u0, u1][i]? = some u → CF W g (b + i) u := by
  intro i u hu
  match i, hu with
  | 0, hu => simp at hu; subst hu; exact h0
  | 1, hu => simp at hu; subst hu; exact h1
theorem cells3 {W : World} {g b : Nat} {u0 u1 u2 : Value} (h0 : CF W g b u0) (h1 : CF W g (b + 1) u1) (h2 : CF W g (b + 2) u2) : ∀ (i : Nat) (u : Value), [u0, u1, u2][i]? = some u → CF W g (b + i) u := by
  intro i u hu
  match i, hu with
  | 0, hu => simp at hu; subst hu; exact h0
  | 1, hu => simp at hu; subst hu; exact h1
  | 2, hu => simp at hu; subst hu; exact h2
theorem cells4 {W : World} {g b : Nat} {u0 u1 u2 u3 : Value} (h0 : CF W g b u0) (h1 : CF W g (b + 1) u1) (h2 : CF W g (b + 2) u2) (h3 : CF W g (b + 3) u3) : ∀ (i : Nat) (u : Value), [u0, u1, u2, u3][i]? = some u → CF W g (b + i) u := by
  intro i u hu
  match i, hu with
  | 0, hu => simp at hu; subst hu; exact h0
  | 1, hu => simp at hu; subst hu; exact h1
  | 2, hu => simp at hu; subst hu; exact h2
  | 3, hu => simp at hu; subst hu; exact h3
end Go.Proofs.Ytiejilmgchmppaa
/- DoInt: The type Int as the exact laws' helpers see it. -/
namespace Go.Proofs.Ytiejilmgchmppaa
open Go.RowKit
set_option linter.unusedVariables false
set_option linter.unusedSimpArgs false

abbrev owIntS : Ow (List Int) := owS 1 owInt
theorem gow_IntS : Ow.Good owIntS := owS_good 1 owInt_good
theorem rds_IntS : Ow.Rds owIntS rdIntS := owS_rds 1 owInt_rds
def numInt (k : Int) (_ : Int) : Int := k
def numIntS (k : Int) (L : List Int) : List Int := numG numInt (fun _ => 1) k L
theorem cntG_IntS (L : List Int) : cntG (fun _ : Int => 1) L = cntIntS L := by
  unfold cntG cntIntS
  induction L with
  | nil => rfl
  | cons x xs ih => rw [List.map_cons, List.sum_cons, ih, List.length_cons]; omega
theorem numIntS_set (L : List Int) (i : Nat) (x : Int) (k cc : Int) (h : L[i]? = some x) (hc : (cntIntS (L.take i) : Int) = cc) : (numIntS k (L.take i) ++ L.drop i).set i (numInt (k + cc) x) = numIntS k (L.take (i + 1)) ++ L.drop (i + 1) := by
  have h1 := numG_set numInt (fun _ : Int => 1) L i x k h
  rw [cntG_IntS, hc] at h1; exact h1
theorem numIntS_mid (L : List Int) (i : Nat) (x : Int) (k : Int) (h : L[i]? = some x) : (numIntS k (L.take i) ++ L.drop i)[i]? = some x := numG_mid numInt (fun _ : Int => 1) L i x k h
theorem numIntS_get (L : List Int) (i : Nat) (x : Int) (k cc : Int) (h : L[i]? = some x) (hc : (cntIntS (L.take i) : Int) = cc) : (numIntS k L)[i]? = some (numInt (k + cc) x) := by
  have h1 := numG_get numInt (fun _ : Int => 1) L i x k h
  rw [cntG_IntS, hc] at h1; exact h1
theorem numIntS_len (L : List Int) (k : Int) : (numIntS k L).length = L.length := numG_len numInt (fun _ : Int => 1) L k
theorem numIntS_midlen (L : List Int) (i : Nat) (k : Int) (h : i ≤ L.length) : (numIntS k (L.take i) ++ L.drop i).length = L.length := by
  rw [List.length_append, numIntS_len, List.length_take, List.length_drop]; omega

set_option maxHeartbeats 6400000 in
theorem markIntS_own (L : List Int) (A : Option Addr) (n c : Nat) (bs : List Nat) (k : Int) (w : World) (h : owIntS bs w [.slice A n c] L) (nd : bs.Nodup) (hk0 : 0 ≤ k) (hk : k + (cntIntS L : Int) ≤ 4611686018427387904) :
    Calls Try.prog 19 #[.slice A n c, .int .i64 k] w fun e w' => e = .returned (.int .i64 (k + (cntIntS L : Int))) ∧ owIntS bs w' [.slice A n c] (numIntS k L) ∧ ChgL bs w w' := by
  obtain ⟨A', c', ea, hm, -⟩ := id h
  injection ea with ea
  injection ea with e1 e2 e3
  subst e2
  clear e1 e3
  unfold maxLen at hm
  have HA := Lib.hid h
  have ND := Lib.hid nd
  clear h nd
  go_enter Try.func19, Try.ntmps19
  go_wp2
  go_loopw [1, 5] (fun q v wr => ∃ i : Nat, i ≤ L.length ∧ v = .int .i64 i ∧ q = .int .i64 (k + (cntIntS (L.take i) : Int)) ∧ owIntS bs wr [.slice A L.length c] (numIntS k (L.take i) ++ L.drop i) ∧ ChgL bs w wr) (fun _ v _ => L.length - (intOf v).toNat)
  case atStart => exact ⟨0, Nat.zero_le _, rfl, by simp [cntIntS], by simpa [numIntS, numG] using HA.out, ChgL.refl _ _⟩
  case round =>
    obtain ⟨i, hi, rfl, rfl, hown, hchg⟩ := hrel
    obtain ⟨W, rfl⟩ : ∃ W, W = wr := ⟨_, rfl⟩
    have HO := Lib.hid hown
    have HG := Lib.hid hchg
    have hle := cntIntS_le L i
    clear hown hchg HA
    by_cases hlt : i < L.length
    · obtain ⟨x, hxx⟩ : ∃ x, L[i] = x := ⟨_, rfl⟩
      have hx? : L[i]? = some x := by rw [List.getElem?_eq_getElem hlt, hxx]
      have hil : i < (numIntS k (L.take i) ++ L.drop i).length := by rw [numIntS_midlen L i k (by omega)]; exact hlt
      obtain ⟨g, o, bj, us, rfl, hgb, hbj, hgl, hul, hc, hx, hgn, hnd, hset⟩ := owS_elem owInt_good HO.out ND.out i hil
      have hmx : (numIntS k (L.take i) ++ L.drop i)[i] = x := by have h := numIntS_mid L i x k hx?; rw [List.getElem?_eq_getElem hil] at h; injection h
      rw [hmx] at hx
      have hst := cntIntS_step L i x hx?
      have hle2 := cntIntS_le L (i + 1)
      obtain ⟨cc, hcc⟩ : ∃ c : Int, (cntIntS (L.take i) : Int) = c := ⟨_, rfl⟩
      have hns := numIntS_set L i x k cc hx? hcc
      have HNS := Lib.hid hns
      have HSET := Lib.hid hset
      clear hxx hx? hmx hns hset
      obtain ⟨bj0, e0, fit0⟩ := hx
      subst e0
      subst bj0
      have xc0 : W.cell? ⟨g, o + i, none⟩ = some (.int .i64 x) := by
        have h := (hc 0 _ rfl).1
        rwa [Nat.mul_one, Nat.add_zero] at h
      have xf0 : W.frozen? ⟨g, o + i, none⟩ = false := by
        have h := (hc 0 _ rfl).2
        rwa [Nat.mul_one, Nat.add_zero] at h
      have hst' : (cntIntS (L.take (i + 1)) : Int) = cc + 1 := by omega
      have hbnd : k + (cc + 1) ≤ 4611686018427387904 := by rw [← hst']; omega
      have hcc0 : 0 ≤ cc := by omega
      have HST := Lib.hid hst'
      rw [hcc]
      clear hst hle2 hst' hle hc hul hil hcc  hnd
      go_wp2
      go_roundw
      case rel =>
        refine ⟨i + 1, by omega, by go_num, by rw [HST.out]; exact int_eq (by omega), ?_, ?_⟩
        · rw [← HNS.out]
          exact HSET.out _ [_] _ ((by rw [Nat.mul_one]; exact Elem.set (Elem.refl g (o + i) (o + i + 1) [] W) (by omega) (by omega) _)) rfl (cells1 (b := o + i * 1) (by rw [Nat.mul_one]; exact ⟨(set_same xc0), (set_froz xf0)⟩)) (by show owInt _ _ _ _; exact ⟨rfl, rfl, by unfold Fit numInt; omega⟩)
        · refine HG.out.trans (ChgL.wider (bs := g :: []) (Elem.chg (lo := o + i * 1) (hi := o + i * 1 + 1) ((by rw [Nat.mul_one]; exact Elem.set (Elem.refl g (o + i) (o + i + 1) [] W) (by omega) (by omega) _))) fun b hb => ?_)
          rcases List.mem_cons.1 hb with rfl | hb
          · exact hgb
          · exact hbj b hb
      case measure => simp [intOf]; omega
    · obtain rfl : i = L.length := by omega
      have ho := HO.out
      rw [List.take_length, List.drop_length, List.append_nil] at ho
      have HF := Lib.hid ho
      rw [List.take_length]
      clear hle ho
      go_wp2
      go_ret
      exact ⟨rfl, HF.out, HG.out⟩

set_option maxHeartbeats 3200000 in
theorem heldIntS_num (L : List Int) (v : Value) {B T : Nat} (k : Int) (w : World) (h : rdIntS B T w [v] (numIntS k L)) (hT : T ≤ w.heap.size) (hk0 : 0 ≤ k) (hk : k + (cntIntS L : Int) ≤ 4611686018427387904) :
    Calls Try.prog 20 #[v, .int .i64 k] w fun e w' => e = .returned (.int .i64 (k + (cntIntS L : Int))) ∧ Below w.heap.size w w' := by
  obtain ⟨A, c, ea, hm, hA⟩ := h
  injection ea with ea
  rw [numIntS_len] at ea hm
  subst ea
  unfold maxLen at hm
  have HA := Lib.hid hA
  clear hA
  go_enter Try.func20, Try.ntmps20
  go_wp2
  go_loopw [1, 5] (fun q v wr => ∃ i : Nat, i ≤ L.length ∧ v = .int .i64 i ∧ q = .int .i64 (k + (cntIntS (L.take i) : Int)) ∧ Below w.heap.size w wr) (fun _ v _ => L.length - (intOf v).toNat)
  case atStart => exact ⟨0, Nat.zero_le _, rfl, by simp [cntIntS], Below.refl _ _⟩
  case round =>
    obtain ⟨i, hi, rfl, rfl, hb⟩ := hrel
    obtain ⟨W, rfl⟩ : ∃ W, W = wr := ⟨_, rfl⟩
    have HB := Lib.hid hb
    have hle := cntIntS_le L i
    clear hb
    by_cases hlt : i < L.length
    · obtain ⟨b, o, rfl, _, _, us, hul, hc, hx⟩ := HA.out i (by rw [numIntS_len]; exact hlt)
      obtain ⟨x, hxx⟩ : ∃ x, L[i] = x := ⟨_, rfl⟩
      have hx? : L[i]? = some x := by rw [List.getElem?_eq_getElem hlt, hxx]
      have hst := cntIntS_step L i x hx?
      have hle2 := cntIntS_le L (i + 1)
      obtain ⟨cc, hcc⟩ : ∃ c : Int, (cntIntS (L.take i) : Int) = c := ⟨_, rfl⟩
      have hng := numIntS_get L i x k cc hx? hcc
      have hnx : (numIntS k L)[i]'(by rw [numIntS_len]; exact hlt) = numInt (k + cc) x := by rw [List.getElem?_eq_getElem (by rw [numIntS_len]; exact hlt)] at hng; injection hng
      rw [hnx] at hx
      unfold numInt at hx
      clear hxx hx? hng hnx
      obtain ⟨e0, -⟩ := hx
      subst e0
      have xc0 : W.cell? ⟨b, o + i, none⟩ = some (.int .i64 (k + cc)) := by
        have h := keep HB.out (hc 0 _ rfl)
        rwa [Nat.mul_one, Nat.add_zero] at h
      have hst' : (cntIntS (L.take (i + 1)) : Int) = cc + 1 := by omega
      have hbnd : k + (cc + 1) ≤ 4611686018427387904 := by rw [← hst']; omega
      have hcc0 : 0 ≤ cc := by omega
      have HST := Lib.hid hst'
      rw [hcc]
      clear hst hle2 hst' hle hcc hc hul 
      go_wp2
      go_roundw
      case rel => exact ⟨i + 1, by omega, by go_num, by rw [HST.out]; exact int_eq (by omega), HB.out⟩
      case measure => simp [intOf]; omega
    · obtain rfl : i = L.length := by omega
      rw [List.take_length]
      clear hle
      go_wp2
      go_ret
      exact ⟨rfl, HB.out⟩
end Go.Proofs.Ytiejilmgchmppaa
/- DoSeq: The type Seq as the exact laws' helpers see it. -/
namespace Go.Proofs.Ytiejilmgchmppaa
open Go.RowKit
set_option linter.unusedVariables false
set_option linter.unusedSimpArgs false

abbrev owSeq : Ow DSeq := ow3 owInt owInt owIntS
theorem gow_Seq : Ow.Good owSeq := ow3_good owInt_good owInt_good gow_IntS
theorem rds_Seq : Ow.Rds owSeq rdSeq := ow3_rds owInt_rds owInt_rds rds_IntS
abbrev owSeqS : Ow (List DSeq) := owS 3 owSeq
theorem gow_SeqS : Ow.Good owSeqS := owS_good 3 gow_Seq
theorem rds_SeqS : Ow.Rds owSeqS rdSeqS := owS_rds 3 rds_Seq
def numSeq (k : Int) (x : DSeq) : DSeq := (k, k + 1, numIntS (k + 1 + 1) (x.2.2))
def numSeqS (k : Int) (L : List DSeq) : List DSeq := numG numSeq cntSeq k L
theorem cntG_SeqS (L : List DSeq) : cntG cntSeq L = cntSeqS L := rfl
theorem numSeqS_set (L : List DSeq) (i : Nat) (x : DSeq) (k cc : Int) (h : L[i]? = some x) (hc : (cntSeqS (L.take i) : Int) = cc) : (numSeqS k (L.take i) ++ L.drop i).set i (numSeq (k + cc) x) = numSeqS k (L.take (i + 1)) ++ L.drop (i + 1) := by
  have h1 := numG_set numSeq cntSeq L i x k h
  rw [cntG_SeqS, hc] at h1; exact h1
theorem numSeqS_mid (L : List DSeq) (i : Nat) (x : DSeq) (k : Int) (h : L[i]? = some x) : (numSeqS k (L.take i) ++ L.drop i)[i]? = some x := numG_mid numSeq cntSeq L i x k h
theorem numSeqS_get (L : List DSeq) (i : Nat) (x : DSeq) (k cc : Int) (h : L[i]? = some x) (hc : (cntSeqS (L.take i) : Int) = cc) : (numSeqS k L)[i]? = some (numSeq (k + cc) x) := by
  have h1 := numG_get numSeq cntSeq L i x k h
  rw [cntG_SeqS, hc] at h1; exact h1
theorem numSeqS_len (L : List DSeq) (k : Int) : (numSeqS k L).length = L.length := numG_len numSeq cntSeq L k
theorem numSeqS_midlen (L : List DSeq) (i : Nat) (k : Int) (h : i ≤ L.length) : (numSeqS k (L.take i) ++ L.drop i).length = L.length := by
  rw [List.length_append, numSeqS_len, List.length_take, List.length_drop]; omega

set_option maxHeartbeats 6400000 in
theorem markSeqS_own (L : List DSeq) (A : Option Addr) (n c : Nat) (bs : List Nat) (k : Int) (w : World) (h : owSeqS bs w [.slice A n c] L) (nd : bs.Nodup) (hk0 : 0 ≤ k) (hk : k + (cntSeqS L : Int) ≤ 4611686018427387904) :
    Calls Try.prog 45 #[.slice A n c, .int .i64 k] w fun e w' => e = .returned (.int .i64 (k + (cntSeqS L : Int))) ∧ owSeqS bs w' [.slice A n c] (numSeqS k L) ∧ ChgL bs w w' := by
  obtain ⟨A', c', ea, hm, -⟩ := id h
  injection ea with ea
  injection ea with e1 e2 e3
  subst e2
  clear e1 e3
  unfold maxLen at hm
  have HA := Lib.hid h
  have ND := Lib.hid nd
  clear h nd
  go_enter Try.func45, Try.ntmps45
  go_wp2
  go_loopw [1, 5] (fun q v wr => ∃ i : Nat, i ≤ L.length ∧ v = .int .i64 i ∧ q = .int .i64 (k + (cntSeqS (L.take i) : Int)) ∧ owSeqS bs wr [.slice A L.length c] (numSeqS k (L.take i) ++ L.drop i) ∧ ChgL bs w wr) (fun _ v _ => L.length - (intOf v).toNat)
  case atStart => exact ⟨0, Nat.zero_le _, rfl, by simp [cntSeqS], by simpa [numSeqS, numG] using HA.out, ChgL.refl _ _⟩
  case round =>
    obtain ⟨i, hi, rfl, rfl, hown, hchg⟩ := hrel
    obtain ⟨W, rfl⟩ : ∃ W, W = wr := ⟨_, rfl⟩
    have HO := Lib.hid hown
    have HG := Lib.hid hchg
    have hle := cntSeqS_le L i
    clear hown hchg HA
    by_cases hlt : i < L.length
    · obtain ⟨x, hxx⟩ : ∃ x, L[i] = x := ⟨_, rfl⟩
      have hx? : L[i]? = some x := by rw [List.getElem?_eq_getElem hlt, hxx]
      have hil : i < (numSeqS k (L.take i) ++ L.drop i).length := by rw [numSeqS_midlen L i k (by omega)]; exact hlt
      obtain ⟨g, o, bj, us, rfl, hgb, hbj, hgl, hul, hc, hx, hgn, hnd, hset⟩ := owS_elem gow_Seq HO.out ND.out i hil
      have hmx : (numSeqS k (L.take i) ++ L.drop i)[i] = x := by have h := numSeqS_mid L i x k hx?; rw [List.getElem?_eq_getElem hil] at h; injection h
      rw [hmx] at hx
      have hst := cntSeqS_step L i x hx?
      have hle2 := cntSeqS_le L (i + 1)
      obtain ⟨cc, hcc⟩ : ∃ c : Int, (cntSeqS (L.take i) : Int) = c := ⟨_, rfl⟩
      have hns := numSeqS_set L i x k cc hx? hcc
      have HNS := Lib.hid hns
      have HSET := Lib.hid hset
      clear hxx hx? hmx hns hset
      obtain ⟨b0, b1, b2, u0, u1, u2, rfl, rfl, h0, h1, h2⟩ := hx
      obtain ⟨z0, e0, fit0⟩ := h0
      injection e0 with e0
      subst e0
      subst z0
      obtain ⟨z1, e1, fit1⟩ := h1
      injection e1 with e1
      subst e1
      subst z1
      have q2 := h2
      obtain ⟨xA2, xq2, e2, -⟩ := q2
      injection e2 with e2
      subst e2
      have xc0 : W.cell? ⟨g, o + i * 3, none⟩ = some (.int .i64 x.1) := (hc 0 _ rfl).1
      have xf0 : W.frozen? ⟨g, o + i * 3, none⟩ = false := (hc 0 _ rfl).2
      have xc1 : W.cell? ⟨g, o + i * 3 + 1, none⟩ = some (.int .i64 x.2.1) := (hc 1 _ rfl).1
      have xf1 : W.frozen? ⟨g, o + i * 3 + 1, none⟩ = false := (hc 1 _ rfl).2
      have xc2 : W.cell? ⟨g, o + i * 3 + 2, none⟩ = some (.slice xA2 (x.2.2).length xq2) := (hc 2 _ rfl).1
      have xf2 : W.frozen? ⟨g, o + i * 3 + 2, none⟩ = false := (hc 2 _ rfl).2
      obtain ⟨t2, ht2⟩ : ∃ c : Int, (cntIntS (x.2.2) : Int) = c := ⟨_, rfl⟩
      have hst' : (cntSeqS (L.take (i + 1)) : Int) = cc + 2 + t2 := by unfold cntSeq at hst; omega
      have hbnd : k + (cc + 2 + t2) ≤ 4611686018427387904 := by rw [← hst']; omega
      have hcc0 : 0 ≤ cc := by omega
      have hp2 : 0 ≤ t2 := by omega
      have HC2 := Lib.hid ht2
      have HST := Lib.hid hst'
      rw [hcc]
      have hn2 : b2.Nodup := by simpa using hnd
      have hg2 : g ∉ b2 := fun hb => hgn (by simp [hb])
      clear hst hle2 hst' hle hc hul hil hcc ht2 hnd
      have O2 := Lib.hid h2
      clear h2
      go_wp2_with fail
      refine (markIntS_own (x.2.2) _ _ _ b2 _ _ (gow_IntS.frame _ _ _ _ _ O2.out (fun b hb => ((Elem.set (Elem.set (Elem.refl g (o + i * 3) (o + i * 3 + 3) [] W) (by omega) (by omega) _) (by omega) (by omega) _)).chg.block b (gow_IntS.lt _ _ _ _ O2.out b hb) (fun h => hg2 (by simp at h; exact h ▸ hb)))) hn2 (by omega) (by rw [HC2.out]; omega)).mono ?_
      rintro e W1 ⟨rfl, ho, hch⟩
      rw [HC2.out]
      have yc0 := chg_cell hch hg2 (set_far (set_same xc0) (by omega))
      have yf0 := chg_froz hch hg2 (set_far (set_same xc0) (by omega)) (set_froz (set_froz xf0))
      have yc1 := chg_cell hch hg2 (set_same (set_far xc1 (by omega)))
      have yf1 := chg_froz hch hg2 (set_same (set_far xc1 (by omega))) (set_froz (set_froz xf1))
      have yc2 := chg_cell hch hg2 (set_far (set_far xc2 (by omega)) (by omega))
      have yf2 := chg_froz hch hg2 (set_far (set_far xc2 (by omega)) (by omega)) (set_froz (set_froz xf2))
      have hE : Elem g (o + i * 3) (o + i * 3 + 3) ((([] : List Nat) ++ (([] : List Nat) ++ b2))) W W1 := Elem.sub (Elem.set (Elem.set (Elem.refl g _ _ _ W) (by omega) (by omega) _) (by omega) (by omega) _) hch (fun b hb => by simp [hb]) hg2 hgl
      have HE1 := Lib.hid hE
      replace O2 := Lib.hid ho
      clear hE ho hch  xc0 xf0 xc1 xf1 xc2 xf2
      have xc0 := yc0
      have xf0 := yf0
      have xc1 := yc1
      have xf1 := yf1
      have xc2 := yc2
      have xf2 := yf2
      clear yc0 yf0 yc1 yf1 yc2 yf2
      go_wp2
      go_roundw
      case rel =>
        refine ⟨i + 1, by omega, by go_num, by rw [HST.out]; exact int_eq (by omega), ?_, ?_⟩
        · rw [← HNS.out]
          exact HSET.out _ [_, _, _] _ (HE1.out) rfl (cells3 ⟨xc0, xf0⟩ ⟨xc1, xf1⟩ ⟨xc2, xf2⟩) (by unfold numSeq; (try rw [HC2.out]); exact ⟨[], [], b2, _, _, _, rfl, rfl, ⟨rfl, rfl, by unfold Fit; (try dsimp only); omega⟩, ⟨rfl, rfl, by unfold Fit; (try dsimp only); omega⟩, O2.out⟩)
        · refine HG.out.trans (ChgL.wider (bs := g :: ((([] : List Nat) ++ (([] : List Nat) ++ b2)))) (Elem.chg (lo := o + i * 3) (hi := o + i * 3 + 3) (HE1.out)) fun b hb => ?_)
          rcases List.mem_cons.1 hb with rfl | hb
          · exact hgb
          · exact hbj b hb
      case measure => simp [intOf]; omega
    · obtain rfl : i = L.length := by omega
      have ho := HO.out
      rw [List.take_length, List.drop_length, List.append_nil] at ho
      have HF := Lib.hid ho
      rw [List.take_length]
      clear hle ho
      go_wp2
      go_ret
      exact ⟨rfl, HF.out, HG.out⟩

end Go.Proofs.Ytiejilmgchmppaa
/- DoAnd: The type And as the exact laws' helpers see it. -/
namespace Go.Proofs.Ytiejilmgchmppaa
open Go.RowKit
set_option linter.unusedVariables false
set_option linter.unusedSimpArgs false

abbrev owAnd : Ow DAnd := ow2 owInt owInt
theorem gow_And : Ow.Good owAnd := ow2_good owInt_good owInt_good
theorem rds_And : Ow.Rds owAnd rdAnd := ow2_rds owInt_rds owInt_rds
abbrev owAndS : Ow (List DAnd) := owS 2 owAnd
theorem gow_AndS : Ow.Good owAndS := owS_good 2 gow_And
theorem rds_AndS : Ow.Rds owAndS rdAndS := owS_rds 2 rds_And
def numAnd (k : Int) (x : DAnd) : DAnd := (k, k + 1)
def numAndS (k : Int) (L : List DAnd) : List DAnd := numG numAnd cntAnd k L
theorem cntG_AndS (L : List DAnd) : cntG cntAnd L = cntAndS L := rfl
theorem numAndS_set (L : List DAnd) (i : Nat) (x : DAnd) (k cc : Int) (h : L[i]? = some x) (hc : (cntAndS (L.take i) : Int) = cc) : (numAndS k (L.take i) ++ L.drop i).set i (numAnd (k + cc) x) = numAndS k (L.take (i + 1)) ++ L.drop (i + 1) := by
  have h1 := numG_set numAnd cntAnd L i x k h
  rw [cntG_AndS, hc] at h1; exact h1
theorem numAndS_mid (L : List DAnd) (i : Nat) (x : DAnd) (k : Int) (h : L[i]? = some x) : (numAndS k (L.take i) ++ L.drop i)[i]? = some x := numG_mid numAnd cntAnd L i x k h
theorem numAndS_get (L : List DAnd) (i : Nat) (x : DAnd) (k cc : Int) (h : L[i]? = some x) (hc : (cntAndS (L.take i) : Int) = cc) : (numAndS k L)[i]? = some (numAnd (k + cc) x) := by
  have h1 := numG_get numAnd cntAnd L i x k h
  rw [cntG_AndS, hc] at h1; exact h1
theorem numAndS_len (L : List DAnd) (k : Int) : (numAndS k L).length = L.length := numG_len numAnd cntAnd L k
theorem numAndS_midlen (L : List DAnd) (i : Nat) (k : Int) (h : i ≤ L.length) : (numAndS k (L.take i) ++ L.drop i).length = L.length := by
  rw [List.length_append, numAndS_len, List.length_take, List.length_drop]; omega

set_option maxHeartbeats 6400000 in
theorem markAndS_own (L : List DAnd) (A : Option Addr) (n c : Nat) (bs : List Nat) (k : Int) (w : World) (h : owAndS bs w [.slice A n c] L) (nd : bs.Nodup) (hk0 : 0 ≤ k) (hk : k + (cntAndS L : Int) ≤ 4611686018427387904) :
    Calls Try.prog 46 #[.slice A n c, .int .i64 k] w fun e w' => e = .returned (.int .i64 (k + (cntAndS L : Int))) ∧ owAndS bs w' [.slice A n c] (numAndS k L) ∧ ChgL bs w w' := by
  obtain ⟨A', c', ea, hm, -⟩ := id h
  injection ea with ea
  injection ea with e1 e2 e3
  subst e2
  clear e1 e3
  unfold maxLen at hm
  have HA := Lib.hid h
  have ND := Lib.hid nd
  clear h nd
  go_enter Try.func46, Try.ntmps46
  go_wp2
  go_loopw [1, 5] (fun q v wr => ∃ i : Nat, i ≤ L.length ∧ v = .int .i64 i ∧ q = .int .i64 (k + (cntAndS (L.take i) : Int)) ∧ owAndS bs wr [.slice A L.length c] (numAndS k (L.take i) ++ L.drop i) ∧ ChgL bs w wr) (fun _ v _ => L.length - (intOf v).toNat)
  case atStart => exact ⟨0, Nat.zero_le _, rfl, by simp [cntAndS], by simpa [numAndS, numG] using HA.out, ChgL.refl _ _⟩
  case round =>
    obtain ⟨i, hi, rfl, rfl, hown, hchg⟩ := hrel
    obtain ⟨W, rfl⟩ : ∃ W, W = wr := ⟨_, rfl⟩
    have HO := Lib.hid hown
    have HG := Lib.hid hchg
    have hle := cntAndS_le L i
    clear hown hchg HA
    by_cases hlt : i < L.length
    · obtain ⟨x, hxx⟩ : ∃ x, L[i] = x := ⟨_, rfl⟩
      have hx? : L[i]? = some x := by rw [List.getElem?_eq_getElem hlt, hxx]
      have hil : i < (numAndS k (L.take i) ++ L.drop i).length := by rw [numAndS_midlen L i k (by omega)]; exact hlt
      obtain ⟨g, o, bj, us, rfl, hgb, hbj, hgl, hul, hc, hx, hgn, hnd, hset⟩ := owS_elem gow_And HO.out ND.out i hil
      have hmx : (numAndS k (L.take i) ++ L.drop i)[i] = x := by have h := numAndS_mid L i x k hx?; rw [List.getElem?_eq_getElem hil] at h; injection h
      rw [hmx] at hx
      have hst := cntAndS_step L i x hx?
      have hle2 := cntAndS_le L (i + 1)
      obtain ⟨cc, hcc⟩ : ∃ c : Int, (cntAndS (L.take i) : Int) = c := ⟨_, rfl⟩
      have hns := numAndS_set L i x k cc hx? hcc
      have HNS := Lib.hid hns
      have HSET := Lib.hid hset
      clear hxx hx? hmx hns hset
      obtain ⟨b0, b1, u0, u1, rfl, rfl, h0, h1⟩ := hx
      obtain ⟨z0, e0, fit0⟩ := h0
      injection e0 with e0
      subst e0
      subst z0
      obtain ⟨z1, e1, fit1⟩ := h1
      injection e1 with e1
      subst e1
      subst z1
      have xc0 : W.cell? ⟨g, o + i * 2, none⟩ = some (.int .i64 x.1) := (hc 0 _ rfl).1
      have xf0 : W.frozen? ⟨g, o + i * 2, none⟩ = false := (hc 0 _ rfl).2
      have xc1 : W.cell? ⟨g, o + i * 2 + 1, none⟩ = some (.int .i64 x.2) := (hc 1 _ rfl).1
      have xf1 : W.frozen? ⟨g, o + i * 2 + 1, none⟩ = false := (hc 1 _ rfl).2
      have hst' : (cntAndS (L.take (i + 1)) : Int) = cc + 2 := by unfold cntAnd at hst; omega
      have hbnd : k + (cc + 2) ≤ 4611686018427387904 := by rw [← hst']; omega
      have hcc0 : 0 ≤ cc := by omega
      have HST := Lib.hid hst'
      rw [hcc]
      clear hst hle2 hst' hle hc hul hil hcc  hnd
      go_wp2
      go_roundw
      case rel =>
        refine ⟨i + 1, by omega, by go_num, by rw [HST.out]; exact int_eq (by omega), ?_, ?_⟩
        · rw [← HNS.out]
          exact HSET.out _ [_, _] _ ((Elem.set (Elem.set (Elem.refl g _ _ _ W) (by omega) (by omega) _) (by omega) (by omega) _)) rfl (cells2 ⟨(set_far (set_same xc0) (by omega)), (set_froz (set_froz xf0))⟩ ⟨(set_same (set_far xc1 (by omega))), (set_froz (set_froz xf1))⟩) (by unfold numAnd; exact ⟨[], [], _, _, rfl, rfl, ⟨rfl, rfl, by unfold Fit; (try dsimp only); omega⟩, ⟨rfl, rfl, by unfold Fit; (try dsimp only); omega⟩⟩)
        · refine HG.out.trans (ChgL.wider (bs := g :: ((([] : List Nat) ++ ([] : List Nat)))) (Elem.chg (lo := o + i * 2) (hi := o + i * 2 + 2) ((Elem.set (Elem.set (Elem.refl g _ _ _ W) (by omega) (by omega) _) (by omega) (by omega) _))) fun b hb => ?_)
          rcases List.mem_cons.1 hb with rfl | hb
          · exact hgb
          · exact hbj b hb
      case measure => simp [intOf]; omega
    · obtain rfl : i = L.length := by omega
      have ho := HO.out
      rw [List.take_length, List.drop_length, List.append_nil] at ho
      have HF := Lib.hid ho
      rw [List.take_length]
      clear hle ho
      go_wp2
      go_ret
      exact ⟨rfl, HF.out, HG.out⟩

end Go.Proofs.Ytiejilmgchmppaa
/- DoNet: The type Net as the exact laws' helpers see it. -/
namespace Go.Proofs.Ytiejilmgchmppaa
open Go.RowKit
set_option linter.unusedVariables false
set_option linter.unusedSimpArgs false

abbrev owNet : Ow DNet := ow4 owInt owSeqS owAndS owIntS
theorem gow_Net : Ow.Good owNet := ow4_good owInt_good gow_SeqS gow_AndS gow_IntS
theorem rds_Net : Ow.Rds owNet rdNet := ow4_rds owInt_rds rds_SeqS rds_AndS rds_IntS
abbrev owNetS : Ow (List DNet) := owS 4 owNet
theorem gow_NetS : Ow.Good owNetS := owS_good 4 gow_Net
theorem rds_NetS : Ow.Rds owNetS rdNetS := owS_rds 4 rds_Net
def numNet (k : Int) (x : DNet) : DNet := (k, numSeqS (k + 1) (x.2.1), numAndS (k + 1 + (cntSeqS (x.2.1) : Int)) (x.2.2.1), numIntS (k + 1 + (cntSeqS (x.2.1) : Int) + (cntAndS (x.2.2.1) : Int)) (x.2.2.2))
def numNetS (k : Int) (L : List DNet) : List DNet := numG numNet cntNet k L
theorem cntG_NetS (L : List DNet) : cntG cntNet L = cntNetS L := rfl

/-- Its slices numbered. -/
def numVNet (k : Int) (x : DNet) : DNet := (x.1, numSeqS (k) (x.2.1), numAndS (k + (cntSeqS (x.2.1) : Int)) (x.2.2.1), numIntS (k + (cntSeqS (x.2.1) : Int) + (cntAndS (x.2.2.1) : Int)) (x.2.2.2))
def cntVNet (x : DNet) : Nat := cntSeqS (x.2.1) + cntAndS (x.2.2.1) + cntIntS (x.2.2.2)
set_option maxHeartbeats 6400000 in
theorem markNet_own (x : DNet) (us : List Value) (bs : List Nat) (k : Int) (w : World) (h : owNet bs w us x) (nd : bs.Nodup) (hk0 : 0 ≤ k) (hk : k + (cntVNet x : Int) ≤ 4611686018427387904) :
    Calls Try.prog 18 #[.agg us.toArray, .int .i64 k] w fun e w' => e = .returned (.int .i64 (k + (cntVNet x : Int))) ∧ owNet bs w' us (numVNet k x) ∧ ChgL bs w w' := by
  have hend : k + (cntVNet x : Int) = k + (cntSeqS (x.2.1) : Int) + (cntAndS (x.2.2.1) : Int) + (cntIntS (x.2.2.2) : Int) := by unfold cntVNet; omega
  rw [hend] at hk ⊢
  unfold numVNet
  obtain ⟨b0, b1, b2, b3, u0, u1, u2, u3, rfl, rfl, h0, h1, h2, h3⟩ := h
  obtain ⟨z0, e0, fit0⟩ := h0
  injection e0 with e0
  subst e0
  subst z0
  have q1 := h1
  obtain ⟨xA1, xq1, e1, -⟩ := q1
  injection e1 with e1
  subst e1
  have q2 := h2
  obtain ⟨xA2, xq2, e2, -⟩ := q2
  injection e2 with e2
  subst e2
  have q3 := h3
  obtain ⟨xA3, xq3, e3, -⟩ := q3
  injection e3 with e3
  subst e3
  have hn1 : b1.Nodup := by simp [List.nodup_append] at nd; simp_all
  have hg1 : w.heap.size ∉ b1 := fun hb => Nat.lt_irrefl _ (gow_SeqS.lt _ _ _ _ h1 _ hb)
  have hn2 : b2.Nodup := by simp [List.nodup_append] at nd; simp_all
  have hg2 : w.heap.size ∉ b2 := fun hb => Nat.lt_irrefl _ (gow_AndS.lt _ _ _ _ h2 _ hb)
  have hn3 : b3.Nodup := by simp [List.nodup_append] at nd; simp_all
  have hg3 : w.heap.size ∉ b3 := fun hb => Nat.lt_irrefl _ (gow_IntS.lt _ _ _ _ h3 _ hb)
  have hd21 : ∀ b ∈ b2, b ∉ b1 := by
    simp only [List.nodup_append, List.mem_append, List.nil_append] at nd
    intro b h1 h2
    exact by first | exact absurd rfl (nd.2.2 b h1 b (by simp [h2])) | exact absurd rfl (nd.2.2 b h2 b (by simp [h1])) | exact absurd rfl (nd.2.1.2.2 b h1 b (by simp [h2])) | exact absurd rfl (nd.2.1.2.2 b h2 b (by simp [h1])) | exact absurd rfl (nd.2.1.2.1.2.2 b h1 b (by simp [h2])) | exact absurd rfl (nd.2.1.2.1.2.2 b h2 b (by simp [h1]))
  have hd31 : ∀ b ∈ b3, b ∉ b1 := by
    simp only [List.nodup_append, List.mem_append, List.nil_append] at nd
    intro b h1 h2
    exact by first | exact absurd rfl (nd.2.2 b h1 b (by simp [h2])) | exact absurd rfl (nd.2.2 b h2 b (by simp [h1])) | exact absurd rfl (nd.2.1.2.2 b h1 b (by simp [h2])) | exact absurd rfl (nd.2.1.2.2 b h2 b (by simp [h1])) | exact absurd rfl (nd.2.1.2.1.2.2 b h1 b (by simp [h2])) | exact absurd rfl (nd.2.1.2.1.2.2 b h2 b (by simp [h1]))
  have hd12 : ∀ b ∈ b1, b ∉ b2 := by
    simp only [List.nodup_append, List.mem_append, List.nil_append] at nd
    intro b h1 h2
    exact by first | exact absurd rfl (nd.2.2 b h1 b (by simp [h2])) | exact absurd rfl (nd.2.2 b h2 b (by simp [h1])) | exact absurd rfl (nd.2.1.2.2 b h1 b (by simp [h2])) | exact absurd rfl (nd.2.1.2.2 b h2 b (by simp [h1])) | exact absurd rfl (nd.2.1.2.1.2.2 b h1 b (by simp [h2])) | exact absurd rfl (nd.2.1.2.1.2.2 b h2 b (by simp [h1]))
  have hd32 : ∀ b ∈ b3, b ∉ b2 := by
    simp only [List.nodup_append, List.mem_append, List.nil_append] at nd
    intro b h1 h2
    exact by first | exact absurd rfl (nd.2.2 b h1 b (by simp [h2])) | exact absurd rfl (nd.2.2 b h2 b (by simp [h1])) | exact absurd rfl (nd.2.1.2.2 b h1 b (by simp [h2])) | exact absurd rfl (nd.2.1.2.2 b h2 b (by simp [h1])) | exact absurd rfl (nd.2.1.2.1.2.2 b h1 b (by simp [h2])) | exact absurd rfl (nd.2.1.2.1.2.2 b h2 b (by simp [h1]))
  have hd13 : ∀ b ∈ b1, b ∉ b3 := by
    simp only [List.nodup_append, List.mem_append, List.nil_append] at nd
    intro b h1 h2
    exact by first | exact absurd rfl (nd.2.2 b h1 b (by simp [h2])) | exact absurd rfl (nd.2.2 b h2 b (by simp [h1])) | exact absurd rfl (nd.2.1.2.2 b h1 b (by simp [h2])) | exact absurd rfl (nd.2.1.2.2 b h2 b (by simp [h1])) | exact absurd rfl (nd.2.1.2.1.2.2 b h1 b (by simp [h2])) | exact absurd rfl (nd.2.1.2.1.2.2 b h2 b (by simp [h1]))
  have hd23 : ∀ b ∈ b2, b ∉ b3 := by
    simp only [List.nodup_append, List.mem_append, List.nil_append] at nd
    intro b h1 h2
    exact by first | exact absurd rfl (nd.2.2 b h1 b (by simp [h2])) | exact absurd rfl (nd.2.2 b h2 b (by simp [h1])) | exact absurd rfl (nd.2.1.2.2 b h1 b (by simp [h2])) | exact absurd rfl (nd.2.1.2.2 b h2 b (by simp [h1])) | exact absurd rfl (nd.2.1.2.1.2.2 b h1 b (by simp [h2])) | exact absurd rfl (nd.2.1.2.1.2.2 b h2 b (by simp [h1]))
  obtain ⟨t1, ht1⟩ : ∃ c : Int, (cntSeqS (x.2.1) : Int) = c := ⟨_, rfl⟩
  have hp1 : 0 ≤ t1 := by omega
  have HC1 := Lib.hid ht1
  obtain ⟨t2, ht2⟩ : ∃ c : Int, (cntAndS (x.2.2.1) : Int) = c := ⟨_, rfl⟩
  have hp2 : 0 ≤ t2 := by omega
  have HC2 := Lib.hid ht2
  obtain ⟨t3, ht3⟩ : ∃ c : Int, (cntIntS (x.2.2.2) : Int) = c := ⟨_, rfl⟩
  have hp3 : 0 ≤ t3 := by omega
  have HC3 := Lib.hid ht3
  simp only [ht1, ht2, ht3] at hk ⊢
  clear hend nd ht1 ht2 ht3
  have O1 := Lib.hid h1
  have O2 := Lib.hid h2
  have O3 := Lib.hid h3
  clear h1 h2 h3
  go_enter Try.func18, Try.ntmps18
  go_wp2_with fail
  obtain ⟨V, hV⟩ : ∃ V, V = w.alloc (.cells #[.int .i64 x.1, .slice xA1 (x.2.1).length xq1, .slice xA2 (x.2.2.1).length xq2, .slice xA3 (x.2.2.2).length xq3] 28) := ⟨_, rfl⟩
  rw [← hV]
  have g := eqbox1 hV
  have c0 : V.cell? ⟨w.heap.size, 0, none⟩ = some (.int .i64 x.1) := box_cell g.1 0 _ rfl
  have c1 : V.cell? ⟨w.heap.size, 1, none⟩ = some (.slice xA1 (x.2.1).length xq1) := box_cell g.1 1 _ rfl
  have c2 : V.cell? ⟨w.heap.size, 2, none⟩ = some (.slice xA2 (x.2.2.1).length xq2) := box_cell g.1 2 _ rfl
  have c3 : V.cell? ⟨w.heap.size, 3, none⟩ = some (.slice xA3 (x.2.2.2).length xq3) := box_cell g.1 3 _ rfl
  replace O1 := Lib.hid (gow_SeqS.frame _ _ _ _ _ O1.out fun b hb => g.2.block b (gow_SeqS.lt _ _ _ _ O1.out b hb))
  replace O2 := Lib.hid (gow_AndS.frame _ _ _ _ _ O2.out fun b hb => g.2.block b (gow_AndS.lt _ _ _ _ O2.out b hb))
  replace O3 := Lib.hid (gow_IntS.frame _ _ _ _ _ O3.out fun b hb => g.2.block b (gow_IntS.lt _ _ _ _ O3.out b hb))
  have HG0 := Lib.hid g.2
  clear hV g
  refine (markSeqS_own (x.2.1) _ _ _ b1 _ _ O1.out hn1 (by omega) (by rw [HC1.out]; omega)).mono ?_
  rintro e W1 ⟨rfl, ho, hch⟩
  rw [HC1.out]
  replace c0 := chg_cell hch hg1 c0
  replace c1 := chg_cell hch hg1 c1
  replace c2 := chg_cell hch hg1 c2
  replace c3 := chg_cell hch hg1 c3
  replace O2 := Lib.hid (gow_AndS.frame _ _ _ _ _ O2.out fun b hb => hch.block b (gow_AndS.lt _ _ _ _ O2.out b hb) (hd21 b hb))
  replace O3 := Lib.hid (gow_IntS.frame _ _ _ _ _ O3.out fun b hb => hch.block b (gow_IntS.lt _ _ _ _ O3.out b hb) (hd31 b hb))
  replace O1 := Lib.hid ho
  have hG : ChgL ((([] : List Nat) ++ (b1 ++ (b2 ++ b3)))) w W1 := ChgL.trans (ChgL.below (ChgL.refl ((([] : List Nat) ++ (b1 ++ (b2 ++ b3)))) w) HG0.out) (hch.wider fun b hb => by simp [hb])
  have HG1 := Lib.hid hG
  clear hG ho hch
  go_wp2_with fail
  refine (markAndS_own (x.2.2.1) _ _ _ b2 _ _ O2.out hn2 (by omega) (by rw [HC2.out]; omega)).mono ?_
  rintro e W2 ⟨rfl, ho, hch⟩
  rw [HC2.out]
  replace c0 := chg_cell hch hg2 c0
  replace c1 := chg_cell hch hg2 c1
  replace c2 := chg_cell hch hg2 c2
  replace c3 := chg_cell hch hg2 c3
  replace O1 := Lib.hid (gow_SeqS.frame _ _ _ _ _ O1.out fun b hb => hch.block b (gow_SeqS.lt _ _ _ _ O1.out b hb) (hd12 b hb))
  replace O3 := Lib.hid (gow_IntS.frame _ _ _ _ _ O3.out fun b hb => hch.block b (gow_IntS.lt _ _ _ _ O3.out b hb) (hd32 b hb))
  replace O2 := Lib.hid ho
  have hG : ChgL ((([] : List Nat) ++ (b1 ++ (b2 ++ b3)))) w W2 := ChgL.trans HG1.out (hch.wider fun b hb => by simp [hb])
  have HG2 := Lib.hid hG
  clear hG ho hch
  go_wp2_with fail
  refine (markIntS_own (x.2.2.2) _ _ _ b3 _ _ O3.out hn3 (by omega) (by rw [HC3.out]; omega)).mono ?_
  rintro e W3 ⟨rfl, ho, hch⟩
  rw [HC3.out]
  replace c0 := chg_cell hch hg3 c0
  replace c1 := chg_cell hch hg3 c1
  replace c2 := chg_cell hch hg3 c2
  replace c3 := chg_cell hch hg3 c3
  replace O1 := Lib.hid (gow_SeqS.frame _ _ _ _ _ O1.out fun b hb => hch.block b (gow_SeqS.lt _ _ _ _ O1.out b hb) (hd13 b hb))
  replace O2 := Lib.hid (gow_AndS.frame _ _ _ _ _ O2.out fun b hb => hch.block b (gow_AndS.lt _ _ _ _ O2.out b hb) (hd23 b hb))
  replace O3 := Lib.hid ho
  have hG : ChgL ((([] : List Nat) ++ (b1 ++ (b2 ++ b3)))) w W3 := ChgL.trans HG2.out (hch.wider fun b hb => by simp [hb])
  have HG3 := Lib.hid hG
  clear hG ho hch
  go_wp2
  go_ret
  exact ⟨rfl, ⟨[], b1, b2, b3, _, _, _, _, rfl, rfl, ⟨rfl, rfl, fit0⟩, O1.out, O2.out, O3.out⟩, HG3.out⟩
end Go.Proofs.Ytiejilmgchmppaa
