/-
  Data that a call owns: each slice lies in a block of its own; what changes one element of a slice.
-/
import Derived.Test.YtllddjkdjdohhaaDmInt
namespace Go.Proofs.Ytllddjkdjdohhaa
open Go.RowKit
set_option linter.unusedVariables false

/-- How cells read as a datum whose slices lie in the blocks bs. -/
abbrev Ow (α : Type) := List Nat → World → List Value → α → Prop
/-- It hangs on those blocks alone, and they are there. -/
structure Ow.Good {α : Type} (P : Ow α) : Prop where
  frame : ∀ (bs : List Nat) (w w' : World) (vs : List Value) (x : α), P bs w vs x → (∀ b ∈ bs, w'.heap[b]? = w.heap[b]?) → P bs w' vs x
  lt : ∀ (bs : List Nat) (w : World) (vs : List Value) (x : α), P bs w vs x → ∀ b ∈ bs, b < w.heap.size
def owInt : Ow Int := fun bs _ vs x => bs = [] ∧ vs = [.int .i64 x] ∧ Fit x
theorem owInt_good : owInt.Good := ⟨fun _ _ _ _ _ h _ => h, fun _ _ _ _ ⟨h, _⟩ b hb => by rw [h] at hb; cases hb⟩
section
variable {α β γ δ : Type}
def owS (k : Nat) (P : Ow α) : Ow (List α) := fun bs w vs L => ∃ A c, vs = [.slice A L.length c] ∧ L.length ≤ maxLen ∧
  ((L = [] ∧ bs = []) ∨ ∃ (g o : Nat) (bf : Nat → List Nat), A = some ⟨g, o, none⟩ ∧ bs = g :: (List.range L.length).flatMap bf ∧ g < w.heap.size ∧
    ∀ j (hj : j < L.length), ∃ us : List Value, us.length = k ∧ (∀ i u, us[i]? = some u → w.cell? ⟨g, o + j * k + i, none⟩ = some u ∧ w.frozen? ⟨g, o + j * k + i, none⟩ = false) ∧ P (bf j) w us L[j])
theorem mem_bf {n : Nat} {bf : Nat → List Nat} {j b : Nat} (hj : j < n) (hb : b ∈ bf j) : b ∈ (List.range n).flatMap bf := List.mem_flatMap.2 ⟨j, List.mem_range.2 hj, hb⟩
theorem owS_good (k : Nat) {P : Ow α} (g : P.Good) : (owS k P).Good := by
  constructor
  · rintro bs w w' vs L ⟨A, c, e, hm, h⟩ hk
    refine ⟨A, c, e, hm, ?_⟩
    rcases h with h | ⟨g0, o, bf, hA, hbs, hg, h⟩
    · exact .inl h
    · subst hbs
      have e0 := hk g0 (List.mem_cons_self ..)
      refine .inr ⟨g0, o, bf, hA, rfl, ?_, fun j hj => ?_⟩
      · apply Nat.lt_of_not_le
        intro hle
        have h1 : w.heap[g0]? = some w.heap[g0] := Array.getElem?_eq_getElem hg
        rw [Array.getElem?_eq_none hle, h1] at e0; cases e0
      · obtain ⟨us, hl, hc, hp⟩ := h j hj
        refine ⟨us, hl, fun i u hu => ⟨?_, ?_⟩, g.frame _ w w' _ _ hp fun b hb => hk b (List.mem_cons_of_mem _ (mem_bf hj hb))⟩
        · exact (World.cell?_of_block (w := w) (w' := w') (a := ⟨g0, o + j * k + i, none⟩) e0).trans (hc i u hu).1
        · exact (World.frozen?_of_block (w := w) (w' := w') (a := ⟨g0, o + j * k + i, none⟩) e0).trans (hc i u hu).2
  · rintro bs w vs L ⟨A, c, e, hm, h⟩ b hb
    rcases h with ⟨_, h⟩ | ⟨g0, o, bf, hA, hbs, hg, h⟩
    · rw [h] at hb; cases hb
    · rw [hbs] at hb
      rcases List.mem_cons.1 hb with rfl | hb
      · exact hg
      · obtain ⟨j, hj, hb⟩ := List.mem_flatMap.1 hb
        obtain ⟨us, hl, hc, hp⟩ := h j (List.mem_range.1 hj)
        exact g.lt _ _ _ _ hp b hb
def ow1 (P : Ow α) : Ow α := fun bs w vs x => ∃ u, vs = [u] ∧ P bs w [u] x
def ow2 (P : Ow α) (Q : Ow β) : Ow (α × β) := fun bs w vs x => ∃ b0 b1 u0 u1, bs = b0 ++ b1 ∧ vs = [u0, u1] ∧ P b0 w [u0] x.1 ∧ Q b1 w [u1] x.2
def ow3 (P : Ow α) (Q : Ow β) (R : Ow γ) : Ow (α × β × γ) := fun bs w vs x => ∃ b0 b1 b2 u0 u1 u2, bs = b0 ++ (b1 ++ b2) ∧ vs = [u0, u1, u2] ∧ P b0 w [u0] x.1 ∧ Q b1 w [u1] x.2.1 ∧ R b2 w [u2] x.2.2
def ow4 (P : Ow α) (Q : Ow β) (R : Ow γ) (S : Ow δ) : Ow (α × β × γ × δ) := fun bs w vs x => ∃ b0 b1 b2 b3 u0 u1 u2 u3, bs = b0 ++ (b1 ++ (b2 ++ b3)) ∧ vs = [u0, u1, u2, u3] ∧ P b0 w [u0] x.1 ∧ Q b1 w [u1] x.2.1 ∧ R b2 w [u2] x.2.2.1 ∧ S b3 w [u3] x.2.2.2
theorem ow1_good {P : Ow α} (g : P.Good) : (ow1 P).Good :=
  ⟨fun bs w w' vs x ⟨u, e, h⟩ hk => ⟨u, e, g.frame _ w w' _ _ h hk⟩, fun bs w vs x ⟨u, e, h⟩ => g.lt _ _ _ _ h⟩
theorem ow2_good {P : Ow α} {Q : Ow β} (g : P.Good) (k : Q.Good) : (ow2 P Q).Good := by
  constructor
  · rintro bs w w' vs x ⟨b0, b1, u0, u1, rfl, e, h0, h1⟩ hk
    exact ⟨b0, b1, u0, u1, rfl, e, g.frame _ w w' _ _ h0 fun b hb => hk b (by simp [hb]), k.frame _ w w' _ _ h1 fun b hb => hk b (by simp [hb])⟩
  · rintro bs w vs x ⟨b0, b1, u0, u1, rfl, e, h0, h1⟩ b hb
    rcases List.mem_append.1 hb with hb | hb
    · exact g.lt _ _ _ _ h0 b hb
    · exact k.lt _ _ _ _ h1 b hb
theorem ow3_good {P : Ow α} {Q : Ow β} {R : Ow γ} (g : P.Good) (k : Q.Good) (m : R.Good) : (ow3 P Q R).Good := by
  constructor
  · rintro bs w w' vs x ⟨b0, b1, b2, u0, u1, u2, rfl, e, h0, h1, h2⟩ hk
    exact ⟨b0, b1, b2, u0, u1, u2, rfl, e, g.frame _ w w' _ _ h0 fun b hb => hk b (by simp [hb]), k.frame _ w w' _ _ h1 fun b hb => hk b (by simp [hb]), m.frame _ w w' _ _ h2 fun b hb => hk b (by simp [hb])⟩
  · rintro bs w vs x ⟨b0, b1, b2, u0, u1, u2, rfl, e, h0, h1, h2⟩ b hb
    rcases List.mem_append.1 hb with hb | hb
    · exact g.lt _ _ _ _ h0 b hb
    · rcases List.mem_append.1 hb with hb | hb
      · exact k.lt _ _ _ _ h1 b hb
      · exact m.lt _ _ _ _ h2 b hb
theorem ow4_good {P : Ow α} {Q : Ow β} {R : Ow γ} {S : Ow δ} (g : P.Good) (k : Q.Good) (m : R.Good) (n : S.Good) : (ow4 P Q R S).Good := by
  constructor
  · rintro bs w w' vs x ⟨b0, b1, b2, b3, u0, u1, u2, u3, rfl, e, h0, h1, h2, h3⟩ hk
    exact ⟨b0, b1, b2, b3, u0, u1, u2, u3, rfl, e, g.frame _ w w' _ _ h0 fun b hb => hk b (by simp [hb]), k.frame _ w w' _ _ h1 fun b hb => hk b (by simp [hb]), m.frame _ w w' _ _ h2 fun b hb => hk b (by simp [hb]), n.frame _ w w' _ _ h3 fun b hb => hk b (by simp [hb])⟩
  · rintro bs w vs x ⟨b0, b1, b2, b3, u0, u1, u2, u3, rfl, e, h0, h1, h2, h3⟩ b hb
    rcases List.mem_append.1 hb with hb | hb
    · exact g.lt _ _ _ _ h0 b hb
    · rcases List.mem_append.1 hb with hb | hb
      · exact k.lt _ _ _ _ h1 b hb
      · rcases List.mem_append.1 hb with hb | hb
        · exact m.lt _ _ _ _ h2 b hb
        · exact n.lt _ _ _ _ h3 b hb
/-- An owned datum, read. -/
def Ow.Rds (P : Ow α) (R : Rd α) : Prop := ∀ (B T : Nat) (bs : List Nat) (w : World) (vs : List Value) (x : α), P bs w vs x → (∀ b ∈ bs, B ≤ b ∧ b < T) → R B T w vs x
theorem owInt_rds : Ow.Rds owInt rdInt := fun _ _ _ _ _ _ ⟨_, h⟩ _ => h
theorem owS_rds (k : Nat) {P : Ow α} {R : Rd α} (g : Ow.Rds P R) : Ow.Rds (owS k P) (rdS k R) := by
  rintro B T bs w vs L ⟨A, c, e, hm, h⟩ hB
  refine ⟨A, c, e, hm, fun j hj => ?_⟩
  rcases h with ⟨rfl, _⟩ | ⟨g0, o, bf, hA, rfl, hg, h⟩
  · exact absurd hj (by simp)
  · obtain ⟨us, hl, hc, hp⟩ := h j hj
    have h0 := hB g0 (List.mem_cons_self ..)
    exact ⟨g0, o, hA, h0.1, h0.2, us, hl, fun i u hu => (hc i u hu).1, g _ _ _ _ _ _ hp fun b hb => hB b (List.mem_cons_of_mem _ (mem_bf hj hb))⟩
theorem ow1_rds {P : Ow α} {R : Rd α} (g : Ow.Rds P R) : Ow.Rds (ow1 P) (rd1 R) := fun B T bs w vs x ⟨u, e, h⟩ hB => ⟨u, e, g _ _ _ _ _ _ h hB⟩
theorem ow2_rds {P : Ow α} {R : Rd α} {Q : Ow β} {S : Rd β} (g : Ow.Rds P R) (k : Ow.Rds Q S) : Ow.Rds (ow2 P Q) (rd2 R S) := by
  rintro B T bs w vs x ⟨b0, b1, u0, u1, rfl, e, h0, h1⟩ hB
  exact ⟨u0, u1, e, g _ _ _ _ _ _ h0 fun b hb => hB b (by simp [hb]), k _ _ _ _ _ _ h1 fun b hb => hB b (by simp [hb])⟩
theorem ow3_rds {P : Ow α} {R : Rd α} {Q : Ow β} {S : Rd β} {U : Ow γ} {V : Rd γ} (g : Ow.Rds P R) (k : Ow.Rds Q S) (m : Ow.Rds U V) : Ow.Rds (ow3 P Q U) (rd3 R S V) := by
  rintro B T bs w vs x ⟨b0, b1, b2, u0, u1, u2, rfl, e, h0, h1, h2⟩ hB
  exact ⟨u0, u1, u2, e, g _ _ _ _ _ _ h0 fun b hb => hB b (by simp [hb]), k _ _ _ _ _ _ h1 fun b hb => hB b (by simp [hb]), m _ _ _ _ _ _ h2 fun b hb => hB b (by simp [hb])⟩
theorem ow4_rds {P : Ow α} {R : Rd α} {Q : Ow β} {S : Rd β} {U : Ow γ} {V : Rd γ} {X : Ow δ} {Y : Rd δ} (g : Ow.Rds P R) (k : Ow.Rds Q S) (m : Ow.Rds U V) (n : Ow.Rds X Y) : Ow.Rds (ow4 P Q U X) (rd4 R S V Y) := by
  rintro B T bs w vs x ⟨b0, b1, b2, b3, u0, u1, u2, u3, rfl, e, h0, h1, h2, h3⟩ hB
  exact ⟨u0, u1, u2, u3, e, g _ _ _ _ _ _ h0 fun b hb => hB b (by simp [hb]), k _ _ _ _ _ _ h1 fun b hb => hB b (by simp [hb]), m _ _ _ _ _ _ h2 fun b hb => hB b (by simp [hb]), n _ _ _ _ _ _ h3 fun b hb => hB b (by simp [hb])⟩
end

/-- From w to w' only blocks of bs have changed, and new blocks have come. -/
structure ChgL (bs : List Nat) (w w' : World) : Prop where
  os : w'.os = w.os
  tape : w'.tape = w.tape
  output : w'.output = w.output
  size : w.heap.size ≤ w'.heap.size
  block : ∀ k, k < w.heap.size → k ∉ bs → w'.heap[k]? = w.heap[k]?
theorem ChgL.refl (bs : List Nat) (w : World) : ChgL bs w w := ⟨rfl, rfl, rfl, Nat.le_refl _, fun _ _ _ => rfl⟩
theorem ChgL.trans {bs : List Nat} {a b c : World} (h : ChgL bs a b) (k : ChgL bs b c) : ChgL bs a c :=
  ⟨k.os.trans h.os, k.tape.trans h.tape, k.output.trans h.output, Nat.le_trans h.size k.size, fun i hi hg => (k.block i (Nat.lt_of_lt_of_le hi h.size) hg).trans (h.block i hi hg)⟩
theorem ChgL.below {bs : List Nat} {a b c : World} (h : ChgL bs a b) (k : Below b.heap.size b c) : ChgL bs a c :=
  h.trans ⟨k.os, k.tape, k.output, k.size, fun i hi _ => k.block i hi⟩
theorem ChgL.set {bs : List Nat} {a b : World} (h : ChgL bs a b) {g : Nat} (hg : g ∈ bs) (o : Nat) (v : Value) : ChgL bs a (b.setCell ⟨g, o, none⟩ v) :=
  h.trans ⟨rfl, rfl, rfl, by simp [World.setCell], fun k _ hk => heap_setCell_other b ⟨g, o, none⟩ k v (fun e => hk (by rw [e]; exact hg))⟩
theorem ChgL.wider {bs cs : List Nat} {a b : World} (h : ChgL bs a b) (hs : ∀ k ∈ bs, k ∈ cs) : ChgL cs a b :=
  ⟨h.os, h.tape, h.output, h.size, fun k hk hn => h.block k hk fun hb => hn (hs k hb)⟩
/-- .. and of block g only the cells lo .. hi - 1. -/
structure Elem (g lo hi : Nat) (bj : List Nat) (w w' : World) : Prop where
  chg : ChgL (g :: bj) w w'
  cell : ∀ off, off < lo ∨ hi ≤ off → w'.cell? ⟨g, off, none⟩ = w.cell? ⟨g, off, none⟩ ∧ w'.frozen? ⟨g, off, none⟩ = w.frozen? ⟨g, off, none⟩
theorem Elem.refl (g lo hi : Nat) (bj : List Nat) (w : World) : Elem g lo hi bj w w := ⟨ChgL.refl _ _, fun _ _ => ⟨rfl, rfl⟩⟩
theorem Elem.set {g lo hi : Nat} {bj : List Nat} {a b : World} (h : Elem g lo hi bj a b) {o : Nat} (h1 : lo ≤ o) (h2 : o < hi) (v : Value) : Elem g lo hi bj a (b.setCell ⟨g, o, none⟩ v) :=
  ⟨h.chg.set (List.mem_cons_self ..) o v, fun off ho => by
    rw [World.cell?_setCell_other b ⟨g, o, none⟩ ⟨g, off, none⟩ v (by intro e; injection e with _ e; omega), World.frozen?_setCell]
    exact h.cell off ho⟩
theorem Elem.sub {g lo hi : Nat} {bj bs : List Nat} {a b c : World} (h : Elem g lo hi bj a b) (k : ChgL bs b c) (hs : ∀ x ∈ bs, x ∈ bj) (hg : g ∉ bs) (hlt : g < a.heap.size) : Elem g lo hi bj a c :=
  ⟨h.chg.trans (k.wider fun x hx => List.mem_cons_of_mem _ (hs x hx)), fun off ho => by
    have e := k.block g (Nat.lt_of_lt_of_le hlt h.chg.size) hg
    exact ⟨(World.cell?_of_block (w := b) (w' := c) (a := ⟨g, off, none⟩) e).trans (h.cell off ho).1, (World.frozen?_of_block (w := b) (w' := c) (a := ⟨g, off, none⟩) e).trans (h.cell off ho).2⟩⟩
theorem nodup_bf {n : Nat} {bf : Nat → List Nat} (h : ((List.range n).flatMap bf).Nodup) {i j : Nat} (hi : i < n) (hj : j < n) (hne : i ≠ j) {b : Nat} (h1 : b ∈ bf i) : b ∉ bf j := by
  intro h2
  induction n with
  | zero => omega
  | succ n ih =>
    rw [List.range_succ, List.flatMap_append, List.nodup_append] at h
    obtain ⟨ha, _, hd⟩ := h
    by_cases hin : i = n
    · subst hin
      exact hd b (mem_bf (by omega) h2) b (by simpa using h1) rfl
    · by_cases hjn : j = n
      · subst hjn
        exact hd b (mem_bf (by omega) h1) b (by simpa using h2) rfl
      · exact ih ha (by omega) (by omega)
theorem nodup_bf1 {n : Nat} {bf : Nat → List Nat} (h : ((List.range n).flatMap bf).Nodup) {j : Nat} (hj : j < n) : (bf j).Nodup := by
  induction n with
  | zero => omega
  | succ n ih =>
    rw [List.range_succ, List.flatMap_append, List.nodup_append] at h
    by_cases hjn : j = n
    · subst hjn; simpa using h.2.1
    · exact ih h.1 (by omega)
/-- One element of an owned slice, and what stands when it alone has changed. -/
theorem owS_elem {α : Type} {k : Nat} {P : Ow α} (good : P.Good) {bs : List Nat} {w : World} {A : Option Addr} {n c : Nat} {M : List α} (h : owS k P bs w [.slice A n c] M) (nd : bs.Nodup) (j : Nat) (hj : j < M.length) :
    ∃ (g o : Nat) (bj : List Nat) (us : List Value), A = some ⟨g, o, none⟩ ∧ g ∈ bs ∧ (∀ b ∈ bj, b ∈ bs) ∧ g < w.heap.size ∧ us.length = k ∧
      (∀ i u, us[i]? = some u → w.cell? ⟨g, o + j * k + i, none⟩ = some u ∧ w.frozen? ⟨g, o + j * k + i, none⟩ = false) ∧ P bj w us M[j] ∧ g ∉ bj ∧ bj.Nodup ∧
      ∀ (w' : World) (us' : List Value) (y : α), Elem g (o + j * k) (o + j * k + k) bj w w' → us'.length = k →
        (∀ i u, us'[i]? = some u → w'.cell? ⟨g, o + j * k + i, none⟩ = some u ∧ w'.frozen? ⟨g, o + j * k + i, none⟩ = false) → P bj w' us' y → owS k P bs w' [.slice A n c] (M.set j y) := by
  obtain ⟨A', c', e, hm, h⟩ := h
  injection e with e
  injection e with e1 e2 e3
  subst e1 e2 e3
  rcases h with ⟨rfl, _⟩ | ⟨g, o, bf, rfl, rfl, hg, h⟩
  · exact absurd hj (by simp)
  · rw [List.nodup_cons] at nd
    obtain ⟨us, hl, hc, hp⟩ := h j hj
    refine ⟨g, o, bf j, us, rfl, List.mem_cons_self .., fun b hb => List.mem_cons_of_mem _ (mem_bf hj hb), hg, hl, hc, hp, fun hb => nd.1 (mem_bf hj hb), nodup_bf1 nd.2 hj, fun w' us' y he hl' hc' hp' => ?_⟩
    refine ⟨_, _, by rw [List.length_set], by rw [List.length_set]; exact hm, .inr ⟨g, o, bf, rfl, by rw [List.length_set], Nat.lt_of_lt_of_le hg he.chg.size, fun i hi => ?_⟩⟩
    rw [List.length_set] at hi
    by_cases hij : i = j
    · subst hij
      exact ⟨us', hl', hc', by rw [List.getElem_set_self]; exact hp'⟩
    · obtain ⟨vs, hvl, hvc, hvp⟩ := h i hi
      refine ⟨vs, hvl, fun t u hu => ?_, ?_⟩
      · have ht : t < k := by rw [← hvl]; exact (List.getElem?_eq_some_iff.1 hu).1
        have hout : o + i * k + t < o + j * k ∨ o + j * k + k ≤ o + i * k + t := by
          rcases Nat.lt_or_gt_of_ne hij with hlt | hgt
          · left
            have := Nat.mul_le_mul_right k (show i + 1 ≤ j from hlt)
            rw [Nat.add_mul] at this; omega
          · right
            have := Nat.mul_le_mul_right k (show j + 1 ≤ i from hgt)
            rw [Nat.add_mul] at this; omega
        exact ⟨(he.cell _ hout).1.trans (hvc t u hu).1, (he.cell _ hout).2.trans (hvc t u hu).2⟩
      · rw [List.getElem_set_ne (Ne.symm hij)]
        refine good.frame _ w w' _ _ hvp fun b hb => he.chg.block b (good.lt _ _ _ _ hvp b hb) fun hmem => ?_
        rcases List.mem_cons.1 hmem with rfl | hmem
        · exact nd.1 (mem_bf hi hb)
        · exact nodup_bf nd.2 hi hj hij hb hmem
end Go.Proofs.Ytllddjkdjdohhaa
