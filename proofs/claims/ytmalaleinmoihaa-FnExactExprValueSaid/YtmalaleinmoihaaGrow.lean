/-
  Slices that grow by append while they own what their elements reach.
-/
import Derived.Test.YtmalaleinmoihaaDoAll
namespace Go.Proofs.Ytmalaleinmoihaa
open Go.RowKit
set_option linter.unusedVariables false

/-- The block that a slice value lies in, as a list. -/
def blkL (v : Value) : List Nat := match v.ownBlock with | some g => [g] | none => []
theorem mem_blkL {v : Value} {b : Nat} : b ∈ blkL v ↔ v.ownBlock = some b := by
  unfold blkL; cases v.ownBlock <;> simp [eq_comm]
theorem blkL_nil : blkL (.slice none 0 0) = [] := rfl
theorem blkL_at (g n c : Nat) : blkL (.slice (some ⟨g, 0, none⟩) n c) = [g] := rfl

section
variable {α ρ : Type}
/-- The slice v, whose rows are 'rows', stands for L; its elements reach the blocks bs alone. -/
structure GrR (f : ρ → List Value) (k T : Nat) (P : Ow α) (B : Nat) (bs : List Nat) (w : World) (v : Value) (rows : List ρ) (L : List α) : Prop where
  own : OwnsR f k T w B v rows
  len : rows.length = L.length
  bf : ∃ bf : Nat → List Nat, bs = (List.range L.length).flatMap bf ∧ ∀ j (hj : j < rows.length) (hj' : j < L.length), P (bf j) w (f rows[j]) L[j]
  nd : (blkL v ++ bs).Nodup
  low : ∀ b ∈ bs, B ≤ b
def GrS (f : ρ → List Value) (k T : Nat) (P : Ow α) (B : Nat) (bs : List Nat) (w : World) (v : Value) (L : List α) : Prop := ∃ rows, GrR f k T P B bs w v rows L
variable {f : ρ → List Value} {k T : Nat} {P : Ow α} {B : Nat} {bs : List Nat} {w w' : World} {v : Value} {rows : List ρ} {L : List α}
theorem OwnsR.blk_lt (h : OwnsR f k T w B v rows) {b : Nat} (hb : v.ownBlock = some b) : b < w.heap.size ∧ B ≤ b := by
  rcases h.2 with ⟨rfl, _⟩ | ⟨g, cap, cur, rfl, e2, e3, _⟩
  · cases hb
  · injection hb with hb; subst hb
    exact ⟨(Array.getElem?_eq_some_iff.1 e3).1, e2⟩
theorem OwnsR.atB (h : OwnsR f k T w B v rows) (hk : ∀ b, v.ownBlock = some b → w'.heap[b]? = w.heap[b]?) : OwnsR f k T w' B v rows := by
  obtain ⟨h1, h2⟩ := h
  refine ⟨h1, ?_⟩
  rcases h2 with h2 | ⟨g, cap, cur, rfl, e2, e3, e4⟩
  · exact .inl h2
  · exact .inr ⟨g, cap, cur, rfl, e2, (hk g rfl).trans e3, e4⟩
theorem OwnsR.max (h : OwnsR f k T w B v rows) : rows.length ≤ maxLen := by
  rcases h.2 with ⟨_, h0⟩ | ⟨g, cap, cur, _, _, _, h1, h2, _⟩
  · omega
  · omega
theorem GrR.at (good : P.Good) (h : GrR f k T P B bs w v rows L) (hk : ∀ b, b ∈ blkL v ++ bs → w'.heap[b]? = w.heap[b]?) : GrR f k T P B bs w' v rows L := by
  obtain ⟨bf, e, hp⟩ := h.bf
  refine ⟨h.own.atB fun b hb => hk b (List.mem_append_left _ (mem_blkL.2 hb)), h.len, ⟨bf, e, fun j hj hj' => ?_⟩, h.nd, h.low⟩
  exact good.frame _ w w' _ _ (hp j hj hj') fun b hb => hk b (List.mem_append_right _ (by rw [e]; exact mem_bf hj' hb))
theorem GrR.lt (good : P.Good) (h : GrR f k T P B bs w v rows L) {b : Nat} (hb : b ∈ blkL v ++ bs) : b < w.heap.size ∧ B ≤ b := by
  rcases List.mem_append.1 hb with hb | hb
  · exact h.own.blk_lt (mem_blkL.1 hb)
  · refine ⟨?_, h.low b hb⟩
    obtain ⟨bf, e, hp⟩ := h.bf
    rw [e, List.mem_flatMap] at hb
    obtain ⟨j, hj, hb⟩ := hb
    have hj' := List.mem_range.1 hj
    exact good.lt _ _ _ _ (hp j (by rw [h.len]; exact hj') hj') b hb
theorem GrR.nil (f : ρ → List Value) (k T : Nat) (P : Ow α) (w : World) (B : Nat) : GrR f k T P B [] w (.slice none 0 0) [] [] :=
  ⟨ownR_nil _ _ _ _ _, rfl, ⟨fun _ => [], rfl, fun j hj => absurd hj (by simp)⟩, by simp [blkL_nil], fun b hb => by cases hb⟩
theorem GrR.below (good : P.Good) (h : GrR f k T P B bs w v rows L) (hb : Below w.heap.size w w') : GrR f k T P B bs w' v rows L :=
  h.at good fun b hm => hb.block b (h.lt good hm).1
/-- Behind an append of one element, whose own blocks are cs. -/
theorem GrR.add (good : P.Good) {a w1 : World} {g n cap : Nat} {r : ρ} {x : α} {cs : List Nat} (h : GrR f k T P B bs w v rows L) (ha : Below w.heap.size w a) (hgrow : a.grownBy w1 v.ownBlock)
    (hown' : w1.ownsRow B T k (.slice (some ⟨g, 0, none⟩) n cap) n (rows.flatMap f ++ f r)) (hn : n = rows.length + 1) (hg : v.ownBlock = some g ∨ g = a.heap.size)
    (hx : P cs a (f r) x) (hcs : (blkL v ++ (bs ++ cs)).Nodup) (hlow : ∀ b ∈ cs, B ≤ b) : GrR f k T P B (bs ++ cs) w1 (.slice (some ⟨g, 0, none⟩) n cap) (rows ++ [r]) (L ++ [x]) := by
  obtain ⟨bf, e, hp⟩ := h.bf
  subst hn
  have hltb : ∀ b ∈ bs, b < w.heap.size := fun b hb => (h.lt good (List.mem_append_right _ hb)).1
  have hltc : ∀ b ∈ cs, b < a.heap.size := good.lt _ _ _ _ hx
  have hnb : ∀ b ∈ bs ++ cs, some b ≠ v.ownBlock := by
    intro b hb he
    rw [List.nodup_append] at hcs
    exact hcs.2.2 b (mem_blkL.2 he.symm) b hb rfl
  refine ⟨?_, by simp [h.len], ⟨fun j => if j < L.length then bf j else cs, ?_, fun j hj hj' => ?_⟩, ?_, ?_⟩
  · unfold OwnsR
    rw [List.length_append, List.flatMap_append]
    simpa using hown'
  · rw [List.length_append, List.length_singleton, List.range_succ, List.flatMap_append, e]
    congr 1
    · rw [List.flatMap_def, List.flatMap_def]
      congr 1
      refine List.map_congr_left fun j hj => ?_
      rw [if_pos (List.mem_range.1 hj)]
    · simp
  · by_cases hlt : j < L.length
    · have hr : j < rows.length := by rw [h.len]; exact hlt
      simp only [if_pos hlt]
      rw [List.getElem_append_left hr, List.getElem_append_left hlt]
      refine good.frame _ w w1 _ _ (hp j hr hlt) fun b hb => ?_
      have hm : b ∈ bs := by rw [e]; exact mem_bf hlt hb
      rw [hgrow.block b (Nat.lt_of_lt_of_le (hltb b hm) ha.size) (hnb b (List.mem_append_left _ hm)), ha.block b (hltb b hm)]
    · have hjl : j = L.length := by simp at hj'; omega
      have hjr : j = rows.length := by rw [h.len]; exact hjl
      simp only [if_neg hlt]
      have e1 : (rows ++ [r])[j] = r := by subst hjr; simp
      have e2 : (L ++ [x])[j] = x := by subst hjl; simp
      rw [e1, e2]
      refine good.frame _ a w1 _ _ hx fun b hb => hgrow.block b (hltc b hb) (hnb b (List.mem_append_right _ hb))
  · rw [blkL_at]
    have h2 : (bs ++ cs).Nodup := (List.nodup_append.1 hcs).2.1
    show (g :: (bs ++ cs)).Nodup
    rw [List.nodup_cons]
    refine ⟨fun hm => ?_, h2⟩
    rcases hg with hg | hg
    · exact hnb g hm hg.symm
    · have : g < a.heap.size := by
        rcases List.mem_append.1 hm with hb | hb
        · exact Nat.lt_of_lt_of_le (hltb g hb) ha.size
        · exact hltc g hb
      omega
  · intro b hb
    rcases List.mem_append.1 hb with hb | hb
    · exact h.low b hb
    · exact hlow b hb
/-- As an owned slice. -/
theorem GrR.ow (hf : ∀ x, (f x).length = k) (h : GrR f k T P B bs w v rows L) : owS k P (blkL v ++ bs) w [v] L := by
  obtain ⟨bf, e, hp⟩ := h.bf
  have hm := h.own.max
  have hl := h.len
  obtain ⟨A, c, hv, hsh⟩ := OwnsR.shape hf h.own
  have hlt := fun b => h.own.blk_lt (b := b)
  rcases h.own.2 with ⟨rfl, h0⟩ | ⟨g, cap, cur, rfl, e2, e3, e4⟩
  · have hL : L = [] := List.eq_nil_of_length_eq_zero (by omega)
    subst hL
    exact ⟨none, 0, rfl, by simp, .inl ⟨rfl, by rw [e]; rfl⟩⟩
  · rw [hl]
    refine ⟨_, _, rfl, by omega, .inr ⟨g, 0, bf, rfl, by rw [e]; rfl, (hlt g rfl).1, fun j hj => ?_⟩⟩
    injection hv with hv1 hv2 hv3
    obtain ⟨g', hg', hc⟩ := hsh j (by omega)
    rw [← hv1] at hg'
    injection hg' with hg'
    injection hg' with hg'
    subst hg'
    exact ⟨f rows[j], hf _, fun i u hu => by rw [Nat.zero_add]; exact hc i u hu, hp j (by omega) hj⟩
/-- As a reading. -/
theorem GrR.rd (hf : ∀ x, (f x).length = k) {R : Rd α} (g : Ow.Rds P R) (good : P.Good) (h : GrR f k T P B bs w v rows L) : rdS k R B w.heap.size w [v] L :=
  owS_rds k g _ _ _ _ _ _ (h.ow hf) fun b hb => ⟨(h.lt good hb).2, (h.lt good hb).1⟩
theorem GrR.cap (hf : ∀ x, (f x).length = k) (h : GrR f k T P B bs w v rows L) : ∃ A c, v = .slice A L.length c := by
  obtain ⟨A, c, hv, _⟩ := OwnsR.shape hf h.own
  exact ⟨A, c, by rw [← h.len]; exact hv⟩
end
end Go.Proofs.Ytmalaleinmoihaa
