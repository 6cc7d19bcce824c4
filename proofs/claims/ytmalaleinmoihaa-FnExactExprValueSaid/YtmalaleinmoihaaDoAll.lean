/-
  Own, Num, DoInt, DoOp, DoSignal, DoMem, DoAssign, DoInst, DoModule, DoDesign as one text.
-/
import Derived.Test.YtmalaleinmoihaaDmAll
/- Own: Data that a call owns: each slice lies in a block of its own; what changes one element of a slice. -/
namespace Go.Proofs.Ytmalaleinmoihaa
open Go.RowKit
set_option linter.unusedVariables false

/-- How cells read as a datum whose slices lie in the blocks bs. -/
abbrev Ow (α : Type) := List Nat → World → List Value → α → Prop
/-- It hangs on those blocks alone, and they are there. -/
structure Ow.Good {α : Type} (P : Ow α) : Prop where
  frame : ∀ (bs : List Nat) (w w' : World) (vs : List Value) (x : α), P bs w vs x → (∀ b ∈ bs, w'.heap[b]? = w.heap[b]?) → P bs w' vs x
  lt : ∀ (bs : List Nat) (w : World) (vs : List Value) (x : α), P bs w vs x → ∀ b ∈ bs, b < w.heap.size
def owInt : Ow Int := fun bs _ vs x => bs = [] ∧ vs = [.int .i64 x] ∧ Fit x
theorem owInt_good : owInt.Good := ⟨fun _ _ _ _ _ h _ => h, fun _ _ _ _ ⟨h, _⟩ b hb => by rw [h] at hb; cases hb⟩
section
variable {α β γ δ : Type}
def owS (k : Nat) (P : Ow α) : Ow (List α) := fun bs w vs L => ∃ A c, vs = [.slice A L.length c] ∧ (L.length ≤ maxLen ∧ L.length ≤ c) ∧
  ((L = [] ∧ bs = []) ∨ ∃ (g o : Nat) (bf : Nat → List Nat), A = some ⟨g, o, none⟩ ∧ bs = g :: (List.range L.length).flatMap bf ∧ g < w.heap.size ∧
    ∀ j (hj : j < L.length), ∃ us : List Value, us.length = k ∧ (∀ i u, us[i]? = some u → w.cell? ⟨g, o + j * k + i, none⟩ = some u ∧ w.frozen? ⟨g, o + j * k + i, none⟩ = false) ∧ P (bf j) w us L[j])
theorem mem_bf {n : Nat} {bf : Nat → List Nat} {j b : Nat} (hj : j < n) (hb : b ∈ bf j) : b ∈ (List.range n).flatMap bf := List.mem_flatMap.2 ⟨j, List.mem_range.2 hj, hb⟩
theorem owS_good (k : Nat) {P : Ow α} (g : P.Good) : (owS k P).Good := by
  constructor
  · rintro bs w w' vs L ⟨A, c, e, hm, h⟩ hk
    refine ⟨A, c, e, hm, ?_⟩
    rcases h with h | ⟨g0, o, bf, hA, hbs, hg, h⟩
    · exact .inl h
    · subst hbs
      have e0 := hk g0 (List.mem_cons_self ..)
      refine .inr ⟨g0, o, bf, hA, rfl, ?_, fun j hj => ?_⟩
      · apply Nat.lt_of_not_le
        intro hle
        have h1 : w.heap[g0]? = some w.heap[g0] := Array.getElem?_eq_getElem hg
        rw [Array.getElem?_eq_none hle, h1] at e0; cases e0
      · obtain ⟨us, hl, hc, hp⟩ := h j hj
        refine ⟨us, hl, fun i u hu => ⟨?_, ?_⟩, g.frame _ w w' _ _ hp fun b hb => hk b (List.mem_cons_of_mem _ (mem_bf hj hb))⟩
        · exact (World.cell?_of_block (w := w) (w' := w') (a := ⟨g0, o + j * k + i, none⟩) e0).trans (hc i u hu).1
        · exact (World.frozen?_of_block (w := w) (w' := w') (a := ⟨g0, o + j * k + i, none⟩) e0).trans (hc i u hu).2
  · rintro bs w vs L ⟨A, c, e, hm, h⟩ b hb
    rcases h with ⟨_, h⟩ | ⟨g0, o, bf, hA, hbs, hg, h⟩
    · rw [h] at hb; cases hb
    · rw [hbs] at hb
      rcases List.mem_cons.1 hb with rfl | hb
      · exact hg
      · obtain ⟨j, hj, hb⟩ := List.mem_flatMap.1 hb
        obtain ⟨us, hl, hc, hp⟩ := h j (List.mem_range.1 hj)
        exact g.lt _ _ _ _ hp b hb
def ow1 (P : Ow α) : Ow α := fun bs w vs x => ∃ u, vs = [u] ∧ P bs w [u] x
def ow2 (P : Ow α) (Q : Ow β) : Ow (α × β) := fun bs w vs x => ∃ b0 b1 u0 u1, bs = b0 ++ b1 ∧ vs = [u0, u1] ∧ P b0 w [u0] x.1 ∧ Q b1 w [u1] x.2
def ow3 (P : Ow α) (Q : Ow β) (R : Ow γ) : Ow (α × β × γ) := fun bs w vs x => ∃ b0 b1 b2 u0 u1 u2, bs = b0 ++ (b1 ++ b2) ∧ vs = [u0, u1, u2] ∧ P b0 w [u0] x.1 ∧ Q b1 w [u1] x.2.1 ∧ R b2 w [u2] x.2.2
def ow4 (P : Ow α) (Q : Ow β) (R : Ow γ) (S : Ow δ) : Ow (α × β × γ × δ) := fun bs w vs x => ∃ b0 b1 b2 b3 u0 u1 u2 u3, bs = b0 ++ (b1 ++ (b2 ++ b3)) ∧ vs = [u0, u1, u2, u3] ∧ P b0 w [u0] x.1 ∧ Q b1 w [u1] x.2.1 ∧ R b2 w [u2] x.2.2.1 ∧ S b3 w [u3] x.2.2.2
theorem ow1_good {P : Ow α} (g : P.Good) : (ow1 P).Good :=
  ⟨fun bs w w' vs x ⟨u, e, h⟩ hk => ⟨u, e, g.frame _ w w' _ _ h hk⟩, fun bs w vs x ⟨u, e, h⟩ => g.lt _ _ _ _ h⟩
theorem ow2_good {P : Ow α} {Q : Ow β} (g : P.Good) (k : Q.Good) : (ow2 P Q).Good := by
  constructor
  · rintro bs w w' vs x ⟨b0, b1, u0, u1, rfl, e, h0, h1⟩ hk
    exact ⟨b0, b1, u0, u1, rfl, e, g.frame _ w w' _ _ h0 fun b hb => hk b (by simp [hb]), k.frame _ w w' _ _ h1 fun b hb => hk b (by simp [hb])⟩
  · rintro bs w vs x ⟨b0, b1, u0, u1, rfl, e, h0, h1⟩ b hb
    rcases List.mem_append.1 hb with hb | hb
    · exact g.lt _ _ _ _ h0 b hb
    · exact k.lt _ _ _ _ h1 b hb
theorem ow3_good {P : Ow α} {Q : Ow β} {R : Ow γ} (g : P.Good) (k : Q.Good) (m : R.Good) : (ow3 P Q R).Good := by
  constructor
  · rintro bs w w' vs x ⟨b0, b1, b2, u0, u1, u2, rfl, e, h0, h1, h2⟩ hk
    exact ⟨b0, b1, b2, u0, u1, u2, rfl, e, g.frame _ w w' _ _ h0 fun b hb => hk b (by simp [hb]), k.frame _ w w' _ _ h1 fun b hb => hk b (by simp [hb]), m.frame _ w w' _ _ h2 fun b hb => hk b (by simp [hb])⟩
  · rintro bs w vs x ⟨b0, b1, b2, u0, u1, u2, rfl, e, h0, h1, h2⟩ b hb
    rcases List.mem_append.1 hb with hb | hb
    · exact g.lt _ _ _ _ h0 b hb
    · rcases List.mem_append.1 hb with hb | hb
      · exact k.lt _ _ _ _ h1 b hb
      · exact m.lt _ _ _ _ h2 b hb
theorem ow4_good {P : Ow α} {Q : Ow β} {R : Ow γ} {S : Ow δ} (g : P.Good) (k : Q.Good) (m : R.Good) (n : S.Good) : (ow4 P Q R S).Good := by
  constructor
  · rintro bs w w' vs x ⟨b0, b1, b2, b3, u0, u1, u2, u3, rfl, e, h0, h1, h2, h3⟩ hk
    exact ⟨b0, b1, b2, b3, u0, u1, u2, u3, rfl, e, g.frame _ w w' _ _ h0 fun b hb => hk b (by simp [hb]), k.frame _ w w' _ _ h1 fun b hb => hk b (by simp [hb]), m.frame _ w w' _ _ h2 fun b hb => hk b (by simp [hb]), n.frame _ w w' _ _ h3 fun b hb => hk b (by simp [hb])⟩
  · rintro bs w vs x ⟨b0, b1, b2, b3, u0, u1, u2, u3, rfl, e, h0, h1, h2, h3⟩ b hb
    rcases List.mem_append.1 hb with hb | hb
    · exact g.lt _ _ _ _ h0 b hb
    · rcases List.mem_append.1 hb with hb | hb
      · exact k.lt _ _ _ _ h1 b hb
      · rcases List.mem_append.1 hb with hb | hb
        · exact m.lt _ _ _ _ h2 b hb
        · exact n.lt _ _ _ _ h3 b hb
/-- An owned datum, read. -/
def Ow.Rds (P : Ow α) (R : Rd α) : Prop := ∀ (B T : Nat) (bs : List Nat) (w : World) (vs : List Value) (x : α), P bs w vs x → (∀ b ∈ bs, B ≤ b ∧ b < T) → R B T w vs x
theorem owInt_rds : Ow.Rds owInt rdInt := fun _ _ _ _ _ _ ⟨_, h⟩ _ => h
theorem owS_rds (k : Nat) {P : Ow α} {R : Rd α} (g : Ow.Rds P R) : Ow.Rds (owS k P) (rdS k R) := by
  rintro B T bs w vs L ⟨A, c, e, hm, h⟩ hB
  refine ⟨A, c, e, hm, fun j hj => ?_⟩
  rcases h with ⟨rfl, _⟩ | ⟨g0, o, bf, hA, rfl, hg, h⟩
  · exact absurd hj (by simp)
  · obtain ⟨us, hl, hc, hp⟩ := h j hj
    have h0 := hB g0 (List.mem_cons_self ..)
    exact ⟨g0, o, hA, h0.1, h0.2, us, hl, fun i u hu => (hc i u hu).1, g _ _ _ _ _ _ hp fun b hb => hB b (List.mem_cons_of_mem _ (mem_bf hj hb))⟩
theorem ow1_rds {P : Ow α} {R : Rd α} (g : Ow.Rds P R) : Ow.Rds (ow1 P) (rd1 R) := fun B T bs w vs x ⟨u, e, h⟩ hB => ⟨u, e, g _ _ _ _ _ _ h hB⟩
theorem ow2_rds {P : Ow α} {R : Rd α} {Q : Ow β} {S : Rd β} (g : Ow.Rds P R) (k : Ow.Rds Q S) : Ow.Rds (ow2 P Q) (rd2 R S) := by
  rintro B T bs w vs x ⟨b0, b1, u0, u1, rfl, e, h0, h1⟩ hB
  exact ⟨u0, u1, e, g _ _ _ _ _ _ h0 fun b hb => hB b (by simp [hb]), k _ _ _ _ _ _ h1 fun b hb => hB b (by simp [hb])⟩
theorem ow3_rds {P : Ow α} {R : Rd α} {Q : Ow β} {S : Rd β} {U : Ow γ} {V : Rd γ} (g : Ow.Rds P R) (k : Ow.Rds Q S) (m : Ow.Rds U V) : Ow.Rds (ow3 P Q U) (rd3 R S V) := by
  rintro B T bs w vs x ⟨b0, b1, b2, u0, u1, u2, rfl, e, h0, h1, h2⟩ hB
  exact ⟨u0, u1, u2, e, g _ _ _ _ _ _ h0 fun b hb => hB b (by simp [hb]), k _ _ _ _ _ _ h1 fun b hb => hB b (by simp [hb]), m _ _ _ _ _ _ h2 fun b hb => hB b (by simp [hb])⟩
theorem ow4_rds {P : Ow α} {R : Rd α} {Q : Ow β} {S : Rd β} {U : Ow γ} {V : Rd γ} {X : Ow δ} {Y : Rd δ} (g : Ow.Rds P R) (k : Ow.Rds Q S) (m : Ow.Rds U V) (n : Ow.Rds X Y) : Ow.Rds (ow4 P Q U X) (rd4 R S V Y) := by
  rintro B T bs w vs x ⟨b0, b1, b2, b3, u0, u1, u2, u3, rfl, e, h0, h1, h2, h3⟩ hB
  exact ⟨u0, u1, u2, u3, e, g _ _ _ _ _ _ h0 fun b hb => hB b (by simp [hb]), k _ _ _ _ _ _ h1 fun b hb => hB b (by simp [hb]), m _ _ _ _ _ _ h2 fun b hb => hB b (by simp [hb]), n _ _ _ _ _ _ h3 fun b hb => hB b (by simp [hb])⟩
end

/-- From w to w' only blocks of bs have changed, and new blocks have come. -/
structure ChgL (bs : List Nat) (w w' : World) : Prop where
  os : w'.os = w.os
  tape : w'.tape = w.tape
  output : w'.output = w.output
  size : w.heap.size ≤ w'.heap.size
  block : ∀ k, k < w.heap.size → k ∉ bs → w'.heap[k]? = w.heap[k]?
theorem ChgL.refl (bs : List Nat) (w : World) : ChgL bs w w := ⟨rfl, rfl, rfl, Nat.le_refl _, fun _ _ _ => rfl⟩
theorem ChgL.trans {bs : List Nat} {a b c : World} (h : ChgL bs a b) (k : ChgL bs b c) : ChgL bs a c :=
  ⟨k.os.trans h.os, k.tape.trans h.tape, k.output.trans h.output, Nat.le_trans h.size k.size, fun i hi hg => (k.block i (Nat.lt_of_lt_of_le hi h.size) hg).trans (h.block i hi hg)⟩
theorem ChgL.below {bs : List Nat} {a b c : World} (h : ChgL bs a b) (k : Below b.heap.size b c) : ChgL bs a c :=
  h.trans ⟨k.os, k.tape, k.output, k.size, fun i hi _ => k.block i hi⟩
theorem ChgL.set {bs : List Nat} {a b : World} (h : ChgL bs a b) {g : Nat} (hg : g ∈ bs) (o : Nat) (v : Value) : ChgL bs a (b.setCell ⟨g, o, none⟩ v) :=
  h.trans ⟨rfl, rfl, rfl, by simp [World.setCell], fun k _ hk => heap_setCell_other b ⟨g, o, none⟩ k v (fun e => hk (by rw [e]; exact hg))⟩
theorem ChgL.wider {bs cs : List Nat} {a b : World} (h : ChgL bs a b) (hs : ∀ k ∈ bs, k ∈ cs) : ChgL cs a b :=
  ⟨h.os, h.tape, h.output, h.size, fun k hk hn => h.block k hk fun hb => hn (hs k hb)⟩
/-- .. and of block g only the cells lo .. hi - 1. -/
structure Elem (g lo hi : Nat) (bj : List Nat) (w w' : World) : Prop where
  chg : ChgL (g :: bj) w w'
  cell : ∀ off, off < lo ∨ hi ≤ off → w'.cell? ⟨g, off, none⟩ = w.cell? ⟨g, off, none⟩ ∧ w'.frozen? ⟨g, off, none⟩ = w.frozen? ⟨g, off, none⟩
theorem Elem.refl (g lo hi : Nat) (bj : List Nat) (w : World) : Elem g lo hi bj w w := ⟨ChgL.refl _ _, fun _ _ => ⟨rfl, rfl⟩⟩
theorem Elem.set {g lo hi : Nat} {bj : List Nat} {a b : World} (h : Elem g lo hi bj a b) {o : Nat} (h1 : lo ≤ o) (h2 : o < hi) (v : Value) : Elem g lo hi bj a (b.setCell ⟨g, o, none⟩ v) :=
  ⟨h.chg.set (List.mem_cons_self ..) o v, fun off ho => by
    rw [World.cell?_setCell_other b ⟨g, o, none⟩ ⟨g, off, none⟩ v (by intro e; injection e with _ e; omega), World.frozen?_setCell]
    exact h.cell off ho⟩
theorem Elem.sub {g lo hi : Nat} {bj bs : List Nat} {a b c : World} (h : Elem g lo hi bj a b) (k : ChgL bs b c) (hs : ∀ x ∈ bs, x ∈ bj) (hg : g ∉ bs) (hlt : g < a.heap.size) : Elem g lo hi bj a c :=
  ⟨h.chg.trans (k.wider fun x hx => List.mem_cons_of_mem _ (hs x hx)), fun off ho => by
    have e := k.block g (Nat.lt_of_lt_of_le hlt h.chg.size) hg
    exact ⟨(World.cell?_of_block (w := b) (w' := c) (a := ⟨g, off, none⟩) e).trans (h.cell off ho).1, (World.frozen?_of_block (w := b) (w' := c) (a := ⟨g, off, none⟩) e).trans (h.cell off ho).2⟩⟩
theorem nodup_bf {n : Nat} {bf : Nat → List Nat} (h : ((List.range n).flatMap bf).Nodup) {i j : Nat} (hi : i < n) (hj : j < n) (hne : i ≠ j) {b : Nat} (h1 : b ∈ bf i) : b ∉ bf j := by
  intro h2
  induction n with
  | zero => omega
  | succ n ih =>
    rw [List.range_succ, List.flatMap_append, List.nodup_append] at h
    obtain ⟨ha, _, hd⟩ := h
    by_cases hin : i = n
    · subst hin
      exact hd b (mem_bf (by omega) h2) b (by simpa using h1) rfl
    · by_cases hjn : j = n
      · subst hjn
        exact hd b (mem_bf (by omega) h1) b (by simpa using h2) rfl
      · exact ih ha (by omega) (by omega)
theorem nodup_bf1 {n : Nat} {bf : Nat → List Nat} (h : ((List.range n).flatMap bf).Nodup) {j : Nat} (hj : j < n) : (bf j).Nodup := by
  induction n with
  | zero => omega
  | succ n ih =>
    rw [List.range_succ, List.flatMap_append, List.nodup_append] at h
    by_cases hjn : j = n
    · subst hjn; simpa using h.2.1
    · exact ih h.1 (by omega)
/-- One element of an owned slice, and what stands when it alone has changed. -/
theorem owS_elem {α : Type} {k : Nat} {P : Ow α} (good : P.Good) {bs : List Nat} {w : World} {A : Option Addr} {n c : Nat} {M : List α} (h : owS k P bs w [.slice A n c] M) (nd : bs.Nodup) (j : Nat) (hj : j < M.length) :
    ∃ (g o : Nat) (bj : List Nat) (us : List Value), A = some ⟨g, o, none⟩ ∧ g ∈ bs ∧ (∀ b ∈ bj, b ∈ bs) ∧ g < w.heap.size ∧ us.length = k ∧
      (∀ i u, us[i]? = some u → w.cell? ⟨g, o + j * k + i, none⟩ = some u ∧ w.frozen? ⟨g, o + j * k + i, none⟩ = false) ∧ P bj w us M[j] ∧ g ∉ bj ∧ bj.Nodup ∧
      ∀ (w' : World) (us' : List Value) (y : α), Elem g (o + j * k) (o + j * k + k) bj w w' → us'.length = k →
        (∀ i u, us'[i]? = some u → w'.cell? ⟨g, o + j * k + i, none⟩ = some u ∧ w'.frozen? ⟨g, o + j * k + i, none⟩ = false) → P bj w' us' y → owS k P bs w' [.slice A n c] (M.set j y) := by
  obtain ⟨A', c', e, hm, h⟩ := h
  injection e with e
  injection e with e1 e2 e3
  subst e1 e2 e3
  rcases h with ⟨rfl, _⟩ | ⟨g, o, bf, rfl, rfl, hg, h⟩
  · exact absurd hj (by simp)
  · rw [List.nodup_cons] at nd
    obtain ⟨us, hl, hc, hp⟩ := h j hj
    refine ⟨g, o, bf j, us, rfl, List.mem_cons_self .., fun b hb => List.mem_cons_of_mem _ (mem_bf hj hb), hg, hl, hc, hp, fun hb => nd.1 (mem_bf hj hb), nodup_bf1 nd.2 hj, fun w' us' y he hl' hc' hp' => ?_⟩
    refine ⟨_, _, by rw [List.length_set], by rw [List.length_set]; exact hm, .inr ⟨g, o, bf, rfl, by rw [List.length_set], Nat.lt_of_lt_of_le hg he.chg.size, fun i hi => ?_⟩⟩
    rw [List.length_set] at hi
    by_cases hij : i = j
    · subst hij
      exact ⟨us', hl', hc', by rw [List.getElem_set_self]; exact hp'⟩
    · obtain ⟨vs, hvl, hvc, hvp⟩ := h i hi
      refine ⟨vs, hvl, fun t u hu => ?_, ?_⟩
      · have ht : t < k := by rw [← hvl]; exact (List.getElem?_eq_some_iff.1 hu).1
        have hout : o + i * k + t < o + j * k ∨ o + j * k + k ≤ o + i * k + t := by
          rcases Nat.lt_or_gt_of_ne hij with hlt | hgt
          · left
            have := Nat.mul_le_mul_right k (show i + 1 ≤ j from hlt)
            rw [Nat.add_mul] at this; omega
          · right
            have := Nat.mul_le_mul_right k (show j + 1 ≤ i from hgt)
            rw [Nat.add_mul] at this; omega
        exact ⟨(he.cell _ hout).1.trans (hvc t u hu).1, (he.cell _ hout).2.trans (hvc t u hu).2⟩
      · rw [List.getElem_set_ne (Ne.symm hij)]
        refine good.frame _ w w' _ _ hvp fun b hb => he.chg.block b (good.lt _ _ _ _ hvp b hb) fun hmem => ?_
        rcases List.mem_cons.1 hmem with rfl | hmem
        · exact nd.1 (mem_bf hi hb)
        · exact nodup_bf nd.2 hi hj hij hb hmem
end Go.Proofs.Ytmalaleinmoihaa
/- Num: Numbered data; cells behind stores. -/
namespace Go.Proofs.Ytmalaleinmoihaa
open Go.RowKit
set_option linter.unusedVariables false
section
variable {α : Type} (nu : Int → α → α) (cn : α → Nat)
/-- The elements numbered one behind the other. -/
def numG : Int → List α → List α
  | _, [] => []
  | k, x :: xs => nu k x :: numG (k + (cn x : Int)) xs
def cntG (L : List α) : Nat := (L.map cn).sum
theorem numG_len : ∀ (L : List α) (k : Int), (numG nu cn k L).length = L.length
  | [], _ => rfl
  | x :: xs, k => by unfold numG; rw [List.length_cons, List.length_cons, numG_len xs]
theorem numG_append : ∀ (L M : List α) (k : Int), numG nu cn k (L ++ M) = numG nu cn k L ++ numG nu cn (k + (cntG cn L : Int)) M
  | [], M, k => by simp [numG, cntG]
  | x :: xs, M, k => by
    have h := numG_append xs M (k + (cn x : Int))
    have e : (k + (cn x : Int)) + (cntG cn xs : Int) = k + (cntG cn (x :: xs) : Int) := by unfold cntG; rw [List.map_cons, List.sum_cons]; omega
    rw [e] at h
    show nu k x :: numG nu cn (k + (cn x : Int)) (xs ++ M) = _
    rw [h]; rfl
theorem numG_snoc (L : List α) (i : Nat) (x : α) (k : Int) (h : L[i]? = some x) : numG nu cn k (L.take (i + 1)) = numG nu cn k (L.take i) ++ [nu (k + (cntG cn (L.take i) : Int)) x] := by
  rw [List.take_add_one, h]
  show numG nu cn k (L.take i ++ [x]) = _
  rw [numG_append]; rfl
theorem numG_set (L : List α) (i : Nat) (x : α) (k : Int) (h : L[i]? = some x) :
    (numG nu cn k (L.take i) ++ L.drop i).set i (nu (k + (cntG cn (L.take i) : Int)) x) = numG nu cn k (L.take (i + 1)) ++ L.drop (i + 1) := by
  have hi : i < L.length := (List.getElem?_eq_some_iff.1 h).1
  have hl : (numG nu cn k (L.take i)).length = i := by rw [numG_len, List.length_take]; omega
  rw [List.set_append_right _ _ (by omega), hl, Nat.sub_self, List.drop_eq_getElem_cons hi, List.set_cons_zero, numG_snoc nu cn L i x k h, List.append_assoc]; rfl
theorem numG_mid (L : List α) (i : Nat) (x : α) (k : Int) (h : L[i]? = some x) : (numG nu cn k (L.take i) ++ L.drop i)[i]? = some x := by
  have hi : i < L.length := (List.getElem?_eq_some_iff.1 h).1
  have hl : (numG nu cn k (L.take i)).length = i := by rw [numG_len, List.length_take]; omega
  rw [List.getElem?_append_right (by omega), hl, Nat.sub_self, List.getElem?_drop]; simpa using h
theorem numG_get (L : List α) (i : Nat) (x : α) (k : Int) (h : L[i]? = some x) : (numG nu cn k L)[i]? = some (nu (k + (cntG cn (L.take i) : Int)) x) := by
  have hi : i < L.length := (List.getElem?_eq_some_iff.1 h).1
  have hl : (numG nu cn k (L.take (i + 1))).length = i + 1 := by rw [numG_len, List.length_take]; omega
  have e : numG nu cn k L = numG nu cn k (L.take (i + 1)) ++ numG nu cn (k + (cntG cn (L.take (i + 1)) : Int)) (L.drop (i + 1)) := by rw [← numG_append, List.take_append_drop]
  rw [e, List.getElem?_append_left (by omega), numG_snoc nu cn L i x k h, List.getElem?_append_right (by rw [numG_len, List.length_take]; omega), numG_len, List.length_take, show i - min i L.length = 0 by omega]
  rfl
theorem cntG_step (L : List α) (i : Nat) (x : α) (h : L[i]? = some x) : cntG cn (L.take (i + 1)) = cntG cn (L.take i) + cn x := by
  unfold cntG; rw [List.take_add_one, h, List.map_append, List.sum_append]; simp
theorem cntG_le (L : List α) (i : Nat) : cntG cn (L.take i) ≤ cntG cn L := by
  have h := List.take_append_drop i L
  unfold cntG
  rw [← h, List.map_append, List.sum_append, h]; omega
end
theorem set_same {W : World} {b o : Nat} {v u : Value} (h : W.cell? ⟨b, o, none⟩ = some u) : (W.setCell ⟨b, o, none⟩ v).cell? ⟨b, o, none⟩ = some v := World.cell?_setCell_same' W _ _ (by rw [h]; rfl)
theorem set_froz {W : World} {b o o' : Nat} {v : Value} (h : W.frozen? ⟨b, o, none⟩ = false) : (W.setCell ⟨b, o', none⟩ v).frozen? ⟨b, o, none⟩ = false := by rw [World.frozen?_setCell]; exact h
theorem chg_cell {bs : List Nat} {V W : World} {g o : Nat} {u : Value} (h : ChgL bs V W) (hg : g ∉ bs) (hc : V.cell? ⟨g, o, none⟩ = some u) : W.cell? ⟨g, o, none⟩ = some u :=
  (World.cell?_of_block (w := V) (w' := W) (a := ⟨g, o, none⟩) (h.block g (World.block_lt_of_cell? _ _ hc) hg)).trans hc
theorem chg_froz {bs : List Nat} {V W : World} {g o : Nat} {u : Value} (h : ChgL bs V W) (hg : g ∉ bs) (hc : V.cell? ⟨g, o, none⟩ = some u) (hf : V.frozen? ⟨g, o, none⟩ = false) : W.frozen? ⟨g, o, none⟩ = false :=
  (World.frozen?_of_block (w := V) (w' := W) (a := ⟨g, o, none⟩) (h.block g (World.block_lt_of_cell? _ _ hc) hg)).trans hf
abbrev CF (W : World) (g o : Nat) (u : Value) : Prop := W.cell? ⟨g, o, none⟩ = some u ∧ W.frozen? ⟨g, o, none⟩ = false
theorem cells1 {W : World} {g b : Nat} {u0 : Value} (h0 : CF W g b u0) : ∀ (i : Nat) (u : Value), [u0][i]? = some u → CF W g (b + i) u := by
  intro i u hu
  match i, hu with
  | 0, hu => simp at hu; subst hu; exact h0
theorem cells2 {W : World} {g b : Nat} {u0 u1 : Value} (h0 : CF W g b u0) (h1 : CF W g (b + 1) u1) : ∀ (i : Nat) (u : Value), [u0, u1][i]? = some u → CF W g (b + i) u := by
  intro i u hu
  match i, hu with
  | 0, hu => simp at hu; subst hu; exact h0
  | 1, hu => simp at hu; subst hu; exact h1
theorem cells3 {W : World} {g b : Nat} {u0 u1 u2 : Value} (h0 : CF W g b u0) (h1 : CF W g (b + 1) u1) (h2 : CF W g (b + 2) u2) : ∀ (i : Nat) (u : Value), [u0, u1, u2][i]? = some u → CF W g (b + i) u := by
  intro i u hu
  match i, hu with
  | 0, hu => simp at hu; subst hu; exact h0
  | 1, hu => simp at hu; subst hu; exact h1
  | 2, hu => simp at hu; subst hu; exact h2
theorem cells4 {W : World} {g b : Nat} {u0 u1 u2 u3 : Value} (h0 : CF W g b u0) (h1 : CF W g (b + 1) u1) (h2 : CF W g (b + 2) u2) (h3 : CF W g (b + 3) u3) : ∀ (i : Nat) (u : Value), [u0, u1, u2, u3][i]? = some u → CF W g (b + i) u := by
  intro i u hu
  match i, hu with
  | 0, hu => simp at hu; subst hu; exact h0
  | 1, hu => simp at hu; subst hu; exact h1
  | 2, hu => simp at hu; subst hu; exact h2
  | 3, hu => simp at hu; subst hu; exact h3
end Go.Proofs.Ytmalaleinmoihaa
/- DoInt: The type Int as the exact laws' helpers see it. -/
namespace Go.Proofs.Ytmalaleinmoihaa
open Go.RowKit
set_option linter.unusedVariables false
set_option linter.unusedSimpArgs false

abbrev owIntS : Ow (List Int) := owS 1 owInt
theorem gow_IntS : Ow.Good owIntS := owS_good 1 owInt_good
theorem rds_IntS : Ow.Rds owIntS rdIntS := owS_rds 1 owInt_rds
def numInt (k : Int) (_ : Int) : Int := k
def numIntS (k : Int) (L : List Int) : List Int := numG numInt (fun _ => 1) k L
theorem cntG_IntS (L : List Int) : cntG (fun _ : Int => 1) L = cntIntS L := by
  unfold cntG cntIntS
  induction L with
  | nil => rfl
  | cons x xs ih => rw [List.map_cons, List.sum_cons, ih, List.length_cons]; omega
theorem numIntS_set (L : List Int) (i : Nat) (x : Int) (k cc : Int) (h : L[i]? = some x) (hc : (cntIntS (L.take i) : Int) = cc) : (numIntS k (L.take i) ++ L.drop i).set i (numInt (k + cc) x) = numIntS k (L.take (i + 1)) ++ L.drop (i + 1) := by
  have h1 := numG_set numInt (fun _ : Int => 1) L i x k h
  rw [cntG_IntS, hc] at h1; exact h1
theorem numIntS_mid (L : List Int) (i : Nat) (x : Int) (k : Int) (h : L[i]? = some x) : (numIntS k (L.take i) ++ L.drop i)[i]? = some x := numG_mid numInt (fun _ : Int => 1) L i x k h
theorem numIntS_get (L : List Int) (i : Nat) (x : Int) (k cc : Int) (h : L[i]? = some x) (hc : (cntIntS (L.take i) : Int) = cc) : (numIntS k L)[i]? = some (numInt (k + cc) x) := by
  have h1 := numG_get numInt (fun _ : Int => 1) L i x k h
  rw [cntG_IntS, hc] at h1; exact h1
theorem numIntS_len (L : List Int) (k : Int) : (numIntS k L).length = L.length := numG_len numInt (fun _ : Int => 1) L k
theorem numIntS_midlen (L : List Int) (i : Nat) (k : Int) (h : i ≤ L.length) : (numIntS k (L.take i) ++ L.drop i).length = L.length := by
  rw [List.length_append, numIntS_len, List.length_take, List.length_drop]; omega

end Go.Proofs.Ytmalaleinmoihaa
/- DoOp: The type Op as the exact laws' helpers see it. -/
namespace Go.Proofs.Ytmalaleinmoihaa
open Go.RowKit
set_option linter.unusedVariables false
set_option linter.unusedSimpArgs false

abbrev owOp : Ow DOp := ow3 owInt owInt owInt
theorem gow_Op : Ow.Good owOp := ow3_good owInt_good owInt_good owInt_good
theorem rds_Op : Ow.Rds owOp rdOp := ow3_rds owInt_rds owInt_rds owInt_rds
abbrev owOpS : Ow (List DOp) := owS 3 owOp
theorem gow_OpS : Ow.Good owOpS := owS_good 3 gow_Op
theorem rds_OpS : Ow.Rds owOpS rdOpS := owS_rds 3 rds_Op
def numOp (k : Int) (x : DOp) : DOp := (k, k + 1, k + 1 + 1)
def numOpS (k : Int) (L : List DOp) : List DOp := numG numOp cntOp k L
theorem cntG_OpS (L : List DOp) : cntG cntOp L = cntOpS L := rfl
theorem numOpS_set (L : List DOp) (i : Nat) (x : DOp) (k cc : Int) (h : L[i]? = some x) (hc : (cntOpS (L.take i) : Int) = cc) : (numOpS k (L.take i) ++ L.drop i).set i (numOp (k + cc) x) = numOpS k (L.take (i + 1)) ++ L.drop (i + 1) := by
  have h1 := numG_set numOp cntOp L i x k h
  rw [cntG_OpS, hc] at h1; exact h1
theorem numOpS_mid (L : List DOp) (i : Nat) (x : DOp) (k : Int) (h : L[i]? = some x) : (numOpS k (L.take i) ++ L.drop i)[i]? = some x := numG_mid numOp cntOp L i x k h
theorem numOpS_get (L : List DOp) (i : Nat) (x : DOp) (k cc : Int) (h : L[i]? = some x) (hc : (cntOpS (L.take i) : Int) = cc) : (numOpS k L)[i]? = some (numOp (k + cc) x) := by
  have h1 := numG_get numOp cntOp L i x k h
  rw [cntG_OpS, hc] at h1; exact h1
theorem numOpS_len (L : List DOp) (k : Int) : (numOpS k L).length = L.length := numG_len numOp cntOp L k
theorem numOpS_midlen (L : List DOp) (i : Nat) (k : Int) (h : i ≤ L.length) : (numOpS k (L.take i) ++ L.drop i).length = L.length := by
  rw [List.length_append, numOpS_len, List.length_take, List.length_drop]; omega

end Go.Proofs.Ytmalaleinmoihaa
/- DoSignal: The type Signal as the exact laws' helpers see it. -/
namespace Go.Proofs.Ytmalaleinmoihaa
open Go.RowKit
set_option linter.unusedVariables false
set_option linter.unusedSimpArgs false

abbrev owSignal : Ow DSignal := ow3 owInt owInt owInt
theorem gow_Signal : Ow.Good owSignal := ow3_good owInt_good owInt_good owInt_good
theorem rds_Signal : Ow.Rds owSignal rdSignal := ow3_rds owInt_rds owInt_rds owInt_rds
abbrev owSignalS : Ow (List DSignal) := owS 3 owSignal
theorem gow_SignalS : Ow.Good owSignalS := owS_good 3 gow_Signal
theorem rds_SignalS : Ow.Rds owSignalS rdSignalS := owS_rds 3 rds_Signal
def numSignal (k : Int) (x : DSignal) : DSignal := (k, k + 1, k + 1 + 1)
def numSignalS (k : Int) (L : List DSignal) : List DSignal := numG numSignal cntSignal k L
theorem cntG_SignalS (L : List DSignal) : cntG cntSignal L = cntSignalS L := rfl
theorem numSignalS_set (L : List DSignal) (i : Nat) (x : DSignal) (k cc : Int) (h : L[i]? = some x) (hc : (cntSignalS (L.take i) : Int) = cc) : (numSignalS k (L.take i) ++ L.drop i).set i (numSignal (k + cc) x) = numSignalS k (L.take (i + 1)) ++ L.drop (i + 1) := by
  have h1 := numG_set numSignal cntSignal L i x k h
  rw [cntG_SignalS, hc] at h1; exact h1
theorem numSignalS_mid (L : List DSignal) (i : Nat) (x : DSignal) (k : Int) (h : L[i]? = some x) : (numSignalS k (L.take i) ++ L.drop i)[i]? = some x := numG_mid numSignal cntSignal L i x k h
theorem numSignalS_get (L : List DSignal) (i : Nat) (x : DSignal) (k cc : Int) (h : L[i]? = some x) (hc : (cntSignalS (L.take i) : Int) = cc) : (numSignalS k L)[i]? = some (numSignal (k + cc) x) := by
  have h1 := numG_get numSignal cntSignal L i x k h
  rw [cntG_SignalS, hc] at h1; exact h1
theorem numSignalS_len (L : List DSignal) (k : Int) : (numSignalS k L).length = L.length := numG_len numSignal cntSignal L k
theorem numSignalS_midlen (L : List DSignal) (i : Nat) (k : Int) (h : i ≤ L.length) : (numSignalS k (L.take i) ++ L.drop i).length = L.length := by
  rw [List.length_append, numSignalS_len, List.length_take, List.length_drop]; omega

end Go.Proofs.Ytmalaleinmoihaa
/- DoMem: The type Mem as the exact laws' helpers see it. -/
namespace Go.Proofs.Ytmalaleinmoihaa
open Go.RowKit
set_option linter.unusedVariables false
set_option linter.unusedSimpArgs false

abbrev owMem : Ow DMem := ow4 owInt owInt owInt owInt
theorem gow_Mem : Ow.Good owMem := ow4_good owInt_good owInt_good owInt_good owInt_good
theorem rds_Mem : Ow.Rds owMem rdMem := ow4_rds owInt_rds owInt_rds owInt_rds owInt_rds
abbrev owMemS : Ow (List DMem) := owS 4 owMem
theorem gow_MemS : Ow.Good owMemS := owS_good 4 gow_Mem
theorem rds_MemS : Ow.Rds owMemS rdMemS := owS_rds 4 rds_Mem
def numMem (k : Int) (x : DMem) : DMem := (k, k + 1, k + 1 + 1, k + 1 + 1 + 1)
def numMemS (k : Int) (L : List DMem) : List DMem := numG numMem cntMem k L
theorem cntG_MemS (L : List DMem) : cntG cntMem L = cntMemS L := rfl
theorem numMemS_set (L : List DMem) (i : Nat) (x : DMem) (k cc : Int) (h : L[i]? = some x) (hc : (cntMemS (L.take i) : Int) = cc) : (numMemS k (L.take i) ++ L.drop i).set i (numMem (k + cc) x) = numMemS k (L.take (i + 1)) ++ L.drop (i + 1) := by
  have h1 := numG_set numMem cntMem L i x k h
  rw [cntG_MemS, hc] at h1; exact h1
theorem numMemS_mid (L : List DMem) (i : Nat) (x : DMem) (k : Int) (h : L[i]? = some x) : (numMemS k (L.take i) ++ L.drop i)[i]? = some x := numG_mid numMem cntMem L i x k h
theorem numMemS_get (L : List DMem) (i : Nat) (x : DMem) (k cc : Int) (h : L[i]? = some x) (hc : (cntMemS (L.take i) : Int) = cc) : (numMemS k L)[i]? = some (numMem (k + cc) x) := by
  have h1 := numG_get numMem cntMem L i x k h
  rw [cntG_MemS, hc] at h1; exact h1
theorem numMemS_len (L : List DMem) (k : Int) : (numMemS k L).length = L.length := numG_len numMem cntMem L k
theorem numMemS_midlen (L : List DMem) (i : Nat) (k : Int) (h : i ≤ L.length) : (numMemS k (L.take i) ++ L.drop i).length = L.length := by
  rw [List.length_append, numMemS_len, List.length_take, List.length_drop]; omega

end Go.Proofs.Ytmalaleinmoihaa
/- DoAssign: The type Assign as the exact laws' helpers see it. -/
namespace Go.Proofs.Ytmalaleinmoihaa
open Go.RowKit
set_option linter.unusedVariables false
set_option linter.unusedSimpArgs false

abbrev owAssign : Ow DAssign := ow2 owInt owOpS
theorem gow_Assign : Ow.Good owAssign := ow2_good owInt_good gow_OpS
theorem rds_Assign : Ow.Rds owAssign rdAssign := ow2_rds owInt_rds rds_OpS
abbrev owAssignS : Ow (List DAssign) := owS 2 owAssign
theorem gow_AssignS : Ow.Good owAssignS := owS_good 2 gow_Assign
theorem rds_AssignS : Ow.Rds owAssignS rdAssignS := owS_rds 2 rds_Assign
def numAssign (k : Int) (x : DAssign) : DAssign := (k, numOpS (k + 1) (x.2))
def numAssignS (k : Int) (L : List DAssign) : List DAssign := numG numAssign cntAssign k L
theorem cntG_AssignS (L : List DAssign) : cntG cntAssign L = cntAssignS L := rfl
theorem numAssignS_set (L : List DAssign) (i : Nat) (x : DAssign) (k cc : Int) (h : L[i]? = some x) (hc : (cntAssignS (L.take i) : Int) = cc) : (numAssignS k (L.take i) ++ L.drop i).set i (numAssign (k + cc) x) = numAssignS k (L.take (i + 1)) ++ L.drop (i + 1) := by
  have h1 := numG_set numAssign cntAssign L i x k h
  rw [cntG_AssignS, hc] at h1; exact h1
theorem numAssignS_mid (L : List DAssign) (i : Nat) (x : DAssign) (k : Int) (h : L[i]? = some x) : (numAssignS k (L.take i) ++ L.drop i)[i]? = some x := numG_mid numAssign cntAssign L i x k h
theorem numAssignS_get (L : List DAssign) (i : Nat) (x : DAssign) (k cc : Int) (h : L[i]? = some x) (hc : (cntAssignS (L.take i) : Int) = cc) : (numAssignS k L)[i]? = some (numAssign (k + cc) x) := by
  have h1 := numG_get numAssign cntAssign L i x k h
  rw [cntG_AssignS, hc] at h1; exact h1
theorem numAssignS_len (L : List DAssign) (k : Int) : (numAssignS k L).length = L.length := numG_len numAssign cntAssign L k
theorem numAssignS_midlen (L : List DAssign) (i : Nat) (k : Int) (h : i ≤ L.length) : (numAssignS k (L.take i) ++ L.drop i).length = L.length := by
  rw [List.length_append, numAssignS_len, List.length_take, List.length_drop]; omega

end Go.Proofs.Ytmalaleinmoihaa
/- DoInst: The type Inst as the exact laws' helpers see it. -/
namespace Go.Proofs.Ytmalaleinmoihaa
open Go.RowKit
set_option linter.unusedVariables false
set_option linter.unusedSimpArgs false

abbrev owInst : Ow DInst := ow3 owInt owInt owIntS
theorem gow_Inst : Ow.Good owInst := ow3_good owInt_good owInt_good gow_IntS
theorem rds_Inst : Ow.Rds owInst rdInst := ow3_rds owInt_rds owInt_rds rds_IntS
abbrev owInstS : Ow (List DInst) := owS 3 owInst
theorem gow_InstS : Ow.Good owInstS := owS_good 3 gow_Inst
theorem rds_InstS : Ow.Rds owInstS rdInstS := owS_rds 3 rds_Inst
def numInst (k : Int) (x : DInst) : DInst := (k, k + 1, numIntS (k + 1 + 1) (x.2.2))
def numInstS (k : Int) (L : List DInst) : List DInst := numG numInst cntInst k L
theorem cntG_InstS (L : List DInst) : cntG cntInst L = cntInstS L := rfl
theorem numInstS_set (L : List DInst) (i : Nat) (x : DInst) (k cc : Int) (h : L[i]? = some x) (hc : (cntInstS (L.take i) : Int) = cc) : (numInstS k (L.take i) ++ L.drop i).set i (numInst (k + cc) x) = numInstS k (L.take (i + 1)) ++ L.drop (i + 1) := by
  have h1 := numG_set numInst cntInst L i x k h
  rw [cntG_InstS, hc] at h1; exact h1
theorem numInstS_mid (L : List DInst) (i : Nat) (x : DInst) (k : Int) (h : L[i]? = some x) : (numInstS k (L.take i) ++ L.drop i)[i]? = some x := numG_mid numInst cntInst L i x k h
theorem numInstS_get (L : List DInst) (i : Nat) (x : DInst) (k cc : Int) (h : L[i]? = some x) (hc : (cntInstS (L.take i) : Int) = cc) : (numInstS k L)[i]? = some (numInst (k + cc) x) := by
  have h1 := numG_get numInst cntInst L i x k h
  rw [cntG_InstS, hc] at h1; exact h1
theorem numInstS_len (L : List DInst) (k : Int) : (numInstS k L).length = L.length := numG_len numInst cntInst L k
theorem numInstS_midlen (L : List DInst) (i : Nat) (k : Int) (h : i ≤ L.length) : (numInstS k (L.take i) ++ L.drop i).length = L.length := by
  rw [List.length_append, numInstS_len, List.length_take, List.length_drop]; omega

end Go.Proofs.Ytmalaleinmoihaa
/- DoModule: The type Module as the exact laws' helpers see it. -/
namespace Go.Proofs.Ytmalaleinmoihaa
open Go.RowKit
set_option linter.unusedVariables false
set_option linter.unusedSimpArgs false

abbrev owModule : Ow DModule := ow4 owSignalS owAssignS owInstS owMemS
theorem gow_Module : Ow.Good owModule := ow4_good gow_SignalS gow_AssignS gow_InstS gow_MemS
theorem rds_Module : Ow.Rds owModule rdModule := ow4_rds rds_SignalS rds_AssignS rds_InstS rds_MemS
abbrev owModuleS : Ow (List DModule) := owS 4 owModule
theorem gow_ModuleS : Ow.Good owModuleS := owS_good 4 gow_Module
theorem rds_ModuleS : Ow.Rds owModuleS rdModuleS := owS_rds 4 rds_Module
def numModule (k : Int) (x : DModule) : DModule := (numSignalS (k) (x.1), numAssignS (k + (cntSignalS (x.1) : Int)) (x.2.1), numInstS (k + (cntSignalS (x.1) : Int) + (cntAssignS (x.2.1) : Int)) (x.2.2.1), numMemS (k + (cntSignalS (x.1) : Int) + (cntAssignS (x.2.1) : Int) + (cntInstS (x.2.2.1) : Int)) (x.2.2.2))
def numModuleS (k : Int) (L : List DModule) : List DModule := numG numModule cntModule k L
theorem cntG_ModuleS (L : List DModule) : cntG cntModule L = cntModuleS L := rfl
theorem numModuleS_set (L : List DModule) (i : Nat) (x : DModule) (k cc : Int) (h : L[i]? = some x) (hc : (cntModuleS (L.take i) : Int) = cc) : (numModuleS k (L.take i) ++ L.drop i).set i (numModule (k + cc) x) = numModuleS k (L.take (i + 1)) ++ L.drop (i + 1) := by
  have h1 := numG_set numModule cntModule L i x k h
  rw [cntG_ModuleS, hc] at h1; exact h1
theorem numModuleS_mid (L : List DModule) (i : Nat) (x : DModule) (k : Int) (h : L[i]? = some x) : (numModuleS k (L.take i) ++ L.drop i)[i]? = some x := numG_mid numModule cntModule L i x k h
theorem numModuleS_get (L : List DModule) (i : Nat) (x : DModule) (k cc : Int) (h : L[i]? = some x) (hc : (cntModuleS (L.take i) : Int) = cc) : (numModuleS k L)[i]? = some (numModule (k + cc) x) := by
  have h1 := numG_get numModule cntModule L i x k h
  rw [cntG_ModuleS, hc] at h1; exact h1
theorem numModuleS_len (L : List DModule) (k : Int) : (numModuleS k L).length = L.length := numG_len numModule cntModule L k
theorem numModuleS_midlen (L : List DModule) (i : Nat) (k : Int) (h : i ≤ L.length) : (numModuleS k (L.take i) ++ L.drop i).length = L.length := by
  rw [List.length_append, numModuleS_len, List.length_take, List.length_drop]; omega

end Go.Proofs.Ytmalaleinmoihaa
/- DoDesign: The type Design as the exact laws' helpers see it. -/
namespace Go.Proofs.Ytmalaleinmoihaa
open Go.RowKit
set_option linter.unusedVariables false
set_option linter.unusedSimpArgs false

abbrev owDesign : Ow DDesign := ow1 owModuleS
theorem gow_Design : Ow.Good owDesign := ow1_good gow_ModuleS
theorem rds_Design : Ow.Rds owDesign rdDesign := ow1_rds rds_ModuleS
abbrev owDesignS : Ow (List DDesign) := owS 1 owDesign
theorem gow_DesignS : Ow.Good owDesignS := owS_good 1 gow_Design
theorem rds_DesignS : Ow.Rds owDesignS rdDesignS := owS_rds 1 rds_Design
def numDesign (k : Int) (x : DDesign) : DDesign := numModuleS (k) (x)
def numDesignS (k : Int) (L : List DDesign) : List DDesign := numG numDesign cntDesign k L
theorem cntG_DesignS (L : List DDesign) : cntG cntDesign L = cntDesignS L := rfl

/-- Its slices numbered. -/
def numVDesign (k : Int) (x : DDesign) : DDesign := numModuleS (k) (x)
def cntVDesign (x : DDesign) : Nat := cntModuleS (x)
end Go.Proofs.Ytmalaleinmoihaa
