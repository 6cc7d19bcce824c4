/-
  Grow, AppG, IntS, OwnI as one text.
-/
import Derived.Test.YtiejilmgchmppaaDoN
import Derived.Maps.AppendAt
import Derived.Deep.AppendLies
import Derived.Test.YtiejilmgchmppaaBaN
import Derived.Deep.RegionLaw
import Derived.Test.YtiejilmgchmppaaDtN
import Derived.Lib.SliceRun
/- Grow: Slices that grow by append while they own what their elements reach. -/
namespace Go.Proofs.Ytiejilmgchmppaa
open Go.RowKit
set_option linter.unusedVariables false

/-- The block that a slice value lies in, as a list. -/
def blkL (v : Value) : List Nat := match v.ownBlock with | some g => [g] | none => []
theorem mem_blkL {v : Value} {b : Nat} : b ∈ blkL v ↔ v.ownBlock = some b := by
  unfold blkL; cases v.ownBlock <;> simp [eq_comm]
theorem blkL_nil : blkL (.slice none 0 0) = [] := rfl
theorem blkL_at (g n c : Nat) : blkL (.slice (some ⟨g, 0, none⟩) n c) = [g] := rfl

section
variable {α ρ : Type}
/-- The slice v, whose rows are 'rows', stands for L; its elements reach the blocks bs alone. -/
structure GrR (f : ρ → List Value) (k T : Nat) (P : Ow α) (B : Nat) (bs : List Nat) (w : World) (v : Value) (rows : List ρ) (L : List α) : Prop where
  own : OwnsR f k T w B v rows
  len : rows.length = L.length
  bf : ∃ bf : Nat → List Nat, bs = (List.range L.length).flatMap bf ∧ ∀ j (hj : j < rows.length) (hj' : j < L.length), P (bf j) w (f rows[j]) L[j]
  nd : (blkL v ++ bs).Nodup
  low : ∀ b ∈ bs, B ≤ b
def GrS (f : ρ → List Value) (k T : Nat) (P : Ow α) (B : Nat) (bs : List Nat) (w : World) (v : Value) (L : List α) : Prop := ∃ rows, GrR f k T P B bs w v rows L
variable {f : ρ → List Value} {k T : Nat} {P : Ow α} {B : Nat} {bs : List Nat} {w w' : World} {v : Value} {rows : List ρ} {L : List α}
theorem OwnsR.blk_lt (h : OwnsR f k T w B v rows) {b : Nat} (hb : v.ownBlock = some b) : b < w.heap.size ∧ B ≤ b := by
  rcases h.2 with ⟨rfl, _⟩ | ⟨g, cap, cur, rfl, e2, e3, _⟩
  · cases hb
  · injection hb with hb; subst hb
    exact ⟨(Array.getElem?_eq_some_iff.1 e3).1, e2⟩
theorem OwnsR.atB (h : OwnsR f k T w B v rows) (hk : ∀ b, v.ownBlock = some b → w'.heap[b]? = w.heap[b]?) : OwnsR f k T w' B v rows := by
  obtain ⟨h1, h2⟩ := h
  refine ⟨h1, ?_⟩
  rcases h2 with h2 | ⟨g, cap, cur, rfl, e2, e3, e4⟩
  · exact .inl h2
  · exact .inr ⟨g, cap, cur, rfl, e2, (hk g rfl).trans e3, e4⟩
theorem OwnsR.max (h : OwnsR f k T w B v rows) : rows.length ≤ maxLen := by
  rcases h.2 with ⟨_, h0⟩ | ⟨g, cap, cur, _, _, _, h1, h2, _⟩
  · omega
  · omega
theorem GrR.at (good : P.Good) (h : GrR f k T P B bs w v rows L) (hk : ∀ b, b ∈ blkL v ++ bs → w'.heap[b]? = w.heap[b]?) : GrR f k T P B bs w' v rows L := by
  obtain ⟨bf, e, hp⟩ := h.bf
  refine ⟨h.own.atB fun b hb => hk b (List.mem_append_left _ (mem_blkL.2 hb)), h.len, ⟨bf, e, fun j hj hj' => ?_⟩, h.nd, h.low⟩
  exact good.frame _ w w' _ _ (hp j hj hj') fun b hb => hk b (List.mem_append_right _ (by rw [e]; exact mem_bf hj' hb))
theorem GrR.lt (good : P.Good) (h : GrR f k T P B bs w v rows L) {b : Nat} (hb : b ∈ blkL v ++ bs) : b < w.heap.size ∧ B ≤ b := by
  rcases List.mem_append.1 hb with hb | hb
  · exact h.own.blk_lt (mem_blkL.1 hb)
  · refine ⟨?_, h.low b hb⟩
    obtain ⟨bf, e, hp⟩ := h.bf
    rw [e, List.mem_flatMap] at hb
    obtain ⟨j, hj, hb⟩ := hb
    have hj' := List.mem_range.1 hj
    exact good.lt _ _ _ _ (hp j (by rw [h.len]; exact hj') hj') b hb
theorem GrR.nil (f : ρ → List Value) (k T : Nat) (P : Ow α) (w : World) (B : Nat) : GrR f k T P B [] w (.slice none 0 0) [] [] :=
  ⟨ownR_nil _ _ _ _ _, rfl, ⟨fun _ => [], rfl, fun j hj => absurd hj (by simp)⟩, by simp [blkL_nil], fun b hb => by cases hb⟩
theorem GrR.below (good : P.Good) (h : GrR f k T P B bs w v rows L) (hb : Below w.heap.size w w') : GrR f k T P B bs w' v rows L :=
  h.at good fun b hm => hb.block b (h.lt good hm).1
/-- Behind an append of one element, whose own blocks are cs. -/
theorem GrR.add (good : P.Good) {a w1 : World} {g n cap : Nat} {r : ρ} {x : α} {cs : List Nat} (h : GrR f k T P B bs w v rows L) (ha : Below w.heap.size w a) (hgrow : a.grownBy w1 v.ownBlock)
    (hown' : w1.ownsRow B T k (.slice (some ⟨g, 0, none⟩) n cap) n (rows.flatMap f ++ f r)) (hn : n = rows.length + 1) (hg : v.ownBlock = some g ∨ g = a.heap.size)
    (hx : P cs a (f r) x) (hcs : (blkL v ++ (bs ++ cs)).Nodup) (hlow : ∀ b ∈ cs, B ≤ b) : GrR f k T P B (bs ++ cs) w1 (.slice (some ⟨g, 0, none⟩) n cap) (rows ++ [r]) (L ++ [x]) := by
  obtain ⟨bf, e, hp⟩ := h.bf
  subst hn
  have hltb : ∀ b ∈ bs, b < w.heap.size := fun b hb => (h.lt good (List.mem_append_right _ hb)).1
  have hltc : ∀ b ∈ cs, b < a.heap.size := good.lt _ _ _ _ hx
  have hnb : ∀ b ∈ bs ++ cs, some b ≠ v.ownBlock := by
    intro b hb he
    rw [List.nodup_append] at hcs
    exact hcs.2.2 b (mem_blkL.2 he.symm) b hb rfl
  refine ⟨?_, by simp [h.len], ⟨fun j => if j < L.length then bf j else cs, ?_, fun j hj hj' => ?_⟩, ?_, ?_⟩
  · unfold OwnsR
    rw [List.length_append, List.flatMap_append]
    simpa using hown'
  · rw [List.length_append, List.length_singleton, List.range_succ, List.flatMap_append, e]
    congr 1
    · rw [List.flatMap_def, List.flatMap_def]
      congr 1
      refine List.map_congr_left fun j hj => ?_
      rw [if_pos (List.mem_range.1 hj)]
    · simp
  · by_cases hlt : j < L.length
    · have hr : j < rows.length := by rw [h.len]; exact hlt
      simp only [if_pos hlt]
      rw [List.getElem_append_left hr, List.getElem_append_left hlt]
      refine good.frame _ w w1 _ _ (hp j hr hlt) fun b hb => ?_
      have hm : b ∈ bs := by rw [e]; exact mem_bf hlt hb
      rw [hgrow.block b (Nat.lt_of_lt_of_le (hltb b hm) ha.size) (hnb b (List.mem_append_left _ hm)), ha.block b (hltb b hm)]
    · have hjl : j = L.length := by simp at hj'; omega
      have hjr : j = rows.length := by rw [h.len]; exact hjl
      simp only [if_neg hlt]
      have e1 : (rows ++ [r])[j] = r := by subst hjr; simp
      have e2 : (L ++ [x])[j] = x := by subst hjl; simp
      rw [e1, e2]
      refine good.frame _ a w1 _ _ hx fun b hb => hgrow.block b (hltc b hb) (hnb b (List.mem_append_right _ hb))
  · rw [blkL_at]
    have h2 : (bs ++ cs).Nodup := (List.nodup_append.1 hcs).2.1
    show (g :: (bs ++ cs)).Nodup
    rw [List.nodup_cons]
    refine ⟨fun hm => ?_, h2⟩
    rcases hg with hg | hg
    · exact hnb g hm hg.symm
    · have : g < a.heap.size := by
        rcases List.mem_append.1 hm with hb | hb
        · exact Nat.lt_of_lt_of_le (hltb g hb) ha.size
        · exact hltc g hb
      omega
  · intro b hb
    rcases List.mem_append.1 hb with hb | hb
    · exact h.low b hb
    · exact hlow b hb
/-- As an owned slice. -/
theorem GrR.ow (hf : ∀ x, (f x).length = k) (h : GrR f k T P B bs w v rows L) : owS k P (blkL v ++ bs) w [v] L := by
  obtain ⟨bf, e, hp⟩ := h.bf
  have hm := h.own.max
  have hl := h.len
  obtain ⟨A, c, hv, hsh⟩ := OwnsR.shape hf h.own
  have hlt := fun b => h.own.blk_lt (b := b)
  rcases h.own.2 with ⟨rfl, h0⟩ | ⟨g, cap, cur, rfl, e2, e3, e4⟩
  · have hL : L = [] := List.eq_nil_of_length_eq_zero (by omega)
    subst hL
    exact ⟨none, 0, rfl, by simp, .inl ⟨rfl, by rw [e]; rfl⟩⟩
  · rw [hl]
    refine ⟨_, _, rfl, by omega, .inr ⟨g, 0, bf, rfl, by rw [e]; rfl, (hlt g rfl).1, fun j hj => ?_⟩⟩
    injection hv with hv1 hv2 hv3
    obtain ⟨g', hg', hc⟩ := hsh j (by omega)
    rw [← hv1] at hg'
    injection hg' with hg'
    injection hg' with hg'
    subst hg'
    exact ⟨f rows[j], hf _, fun i u hu => by rw [Nat.zero_add]; exact hc i u hu, hp j (by omega) hj⟩
/-- As a reading. -/
theorem GrR.rd (hf : ∀ x, (f x).length = k) {R : Rd α} (g : Ow.Rds P R) (good : P.Good) (h : GrR f k T P B bs w v rows L) : rdS k R B w.heap.size w [v] L :=
  owS_rds k g _ _ _ _ _ _ (h.ow hf) fun b hb => ⟨(h.lt good hb).2, (h.lt good hb).1⟩
theorem GrR.cap (hf : ∀ x, (f x).length = k) (h : GrR f k T P B bs w v rows L) : ∃ A c, v = .slice A L.length c := by
  obtain ⟨A, c, hv, _⟩ := OwnsR.shape hf h.own
  exact ⟨A, c, by rw [← h.len]; exact hv⟩
end
end Go.Proofs.Ytiejilmgchmppaa
/- AppG: append of any slice, nil or not, onto a slice of the call's own; growing slices behind it. -/
namespace Go.Proofs.Ytiejilmgchmppaa
open Go.RowKit
set_option linter.unusedVariables false
set_option linter.unusedSimpArgs false

/-- What stands behind the address A, one cell after the other. -/
def NewsAt (w : World) (A : Option Addr) (m : Nat) (news : List Value) : Prop := (A = none ∧ m = 0) ∨ ∃ ad, A = some ad ∧ ∀ j u, news[j]? = some u → w.cell? (ad.add j) = some u
section
variable {P : Program} (w : World)
theorem run_append_all (base : Nat) (t ty e : TypeId) (i : TypeInfo) (z : Value) (size bytes : Nat) (ht : P.underlying t = some (.slice e)) (hi : P.info? e = some i) (hz : i.zero = some z)
    (hsize : i.size = size) (hby : i.bytes = bytes) (hzs : z.cells.size = size) (hsz : 0 < size)
    (v : Value) (n : Nat) (xs : List Value) (hown : w.ownsRow base e size v n xs)
    (A : Option Addr) (m c : Nat) (news : List Value) (hl : news.length = m * size) (hnews : NewsAt w A m news) (h1 : ∀ u ∈ news, u.oneCell' = true)
    (h63 : n + m ≤ maxLen) (hbytes : (n + m) * bytes ≤ 140737488355328) (hbase : base ≤ w.heap.size) :
    ∃ A' c' w', (Builtin.append_ #[t, t] ty #[v, .slice A m c]).run P w = .ok (.slice A' (n + m) c') w' ∧ w'.ownsRow base e size (.slice A' (n + m) c') (n + m) (xs ++ news) ∧ w.grownBy w' v.ownBlock ∧ w'.ownsRow base e size v n xs ∧
      ((Value.slice A' (n + m) c').ownBlock = v.ownBlock ∨ (Value.slice A' (n + m) c').ownBlock = some w.heap.size) := by
  rcases hnews with ⟨rfl, rfl⟩ | ⟨a, rfl, hnews⟩
  · have hn : news = [] := List.eq_nil_of_length_eq_zero (by simpa using hl)
    subst hn
    rw [List.append_nil, Nat.add_zero]
    subst hsize
    rcases hown.2 with ⟨rfl, rfl⟩ | ⟨g, cap, cur, rfl, hbg, hg, hnc, hcm, hcs, htake⟩
    · refine ⟨none, 0, w, ?_, hown, World.grownBy.refl _ _, hown, .inl rfl⟩
      simp [Builtin.append_, run_underlying ht, sizeOf, typeInfo, hi, Builtin.lenOf, Builtin.firstCells, loadCells, loadCellsFrom]
    · refine ⟨some ⟨g, 0, none⟩, cap, w, ?_, hown, World.grownBy.refl _ _, hown, .inl rfl⟩
      simp [Builtin.append_, run_underlying ht, sizeOf, typeInfo, hi, Builtin.lenOf, Builtin.firstCells, loadCells, loadCellsFrom, hnc, storeCells]
  · obtain ⟨v', w', hr, h2, h3, _, h5⟩ := run_append_own_at (P := P) w base t ty e i z size bytes ht hi hz hsize hby hzs hsz v n xs hown a m c news hl hnews h1 h63 hbytes hbase
    have hk : w'.ownsRow base e size v n xs := by
      have hown0 := hown
      rcases hown.2 with ⟨rfl, rfl⟩ | ⟨g, cap, cur, rfl, hbg, hg, hnc, hcm, hcs, htake⟩
      · have hx : xs = [] := List.eq_nil_of_length_eq_zero (by simpa using hown.1)
        subst hx
        exact World.ownsRow_nil _ _ _ _
      · subst hsize hby
        by_cases hroom : n + m ≤ cap
        · have hfit : n * i.size + news.length ≤ cur.size := by rw [hl, hcs, ← Nat.add_mul]; exact Nat.mul_le_mul_right _ hroom
          have hk := run_append_room (P := P) w t ty e i ht hi g n cap cur hg a m c news hl hnews h1 hroom hfit
          rw [hr] at hk
          injection hk with e1 e2
          subst e2
          refine ⟨hown.1, .inr ⟨g, cap, _, rfl, hbg, setRow_heap w g cur _ e _ hg, hnc, hcm, ?_, ?_⟩⟩
          · simp only [List.size_toArray, List.length_append, List.length_take, List.length_drop, Array.length_toList]
            omega
          · have hxl : (cur.toList.take (n * i.size)).length = n * i.size := by rw [htake]; exact hown.1
            rw [List.toList_toArray, List.append_assoc, List.take_append_of_le_length (by rw [hxl]; exact Nat.le_refl _), List.take_take, Nat.min_self, htake]
        · have holds : ∀ j u, xs[j]? = some u → w.cell? ((⟨g, 0, none⟩ : Addr).add j) = some u := hown.cells (g := g) rfl
          have hk := run_append_grow (P := P) w t ty e i z ht hi hz ⟨g, 0, none⟩ n cap xs hown.1 holds a m c news hl hnews (by omega) (by simp only [maxLen] at h63; omega) (growslice_fits (by omega) hbytes)
          rw [hr] at hk
          injection hk with e1 e2
          subst e2
          exact (World.ownsRow.drew hown0).alloc _
    rcases h2.2 with ⟨rfl, h0⟩ | ⟨g', cap', cur', rfl, _⟩
    · exact ⟨none, 0, w', by rw [hr, h0], by rw [h0] at h2 ⊢; exact h2, h3, hk, by rw [h0]; exact h5⟩
    · exact ⟨some ⟨g', 0, none⟩, cap', w', hr, h2, h3, hk, h5⟩
end
/-- At a step of a region that draws its order. -/
theorem step_append_all {P : Program} {ops : Array Oper} {o : Oper} {a : Act} {w : World} {K : Act → World → Prop} {Q : Exit → Act → World → Prop} {E : Prop} (hgd : o.guard = none) (s x : Operand) (t : TypeId)
    (ho : o.op = .call { callee := .builtin .append, args := #[s, x], argTypes := #[t, t] })
    (base : Nat) (e : TypeId) (i : TypeInfo) (z : Value) (size bytes : Nat) (ht : P.underlying t = some (.slice e)) (hi : P.info? e = some i) (hz : i.zero = some z)
    (hsize : i.size = size) (hby : i.bytes = bytes) (hzs : z.cells.size = size) (hsz : 0 < size)
    (v : Value) (n : Nat) (xs : List Value) (hs : a.eval s = v) (hown : w.ownsRow base e size v n xs)
    (A : Option Addr) (m c : Nat) (news : List Value) (hx : a.eval x = .slice A m c) (hl : news.length = m * size) (hnews : NewsAt w A m news) (h1 : ∀ u ∈ news, u.oneCell' = true)
    (h63 : n + m ≤ maxLen) (hbytes : (n + m) * bytes ≤ 140737488355328) (hbase : base ≤ w.heap.size)
    (h : ∀ A' c' w', w'.ownsRow base e size (.slice A' (n + m) c') (n + m) (xs ++ news) → w.grownBy w' v.ownBlock → w'.ownsRow base e size v n xs →
      ((Value.slice A' (n + m) c').ownBlock = v.ownBlock ∨ (Value.slice A' (n + m) c').ownBlock = some w.heap.size) → K (a.put o.dst (.slice A' (n + m) c')) w') :
    if Region.wanted o (yielded ops a.tmps) = true then Oper.wp P o a w K Q else E := by
  have hw : Region.wanted o (yielded ops a.tmps) = true := by simp [Region.wanted, hgd]
  rw [if_pos hw]
  obtain ⟨A', c', w', hr, h2, h3, h4, h5⟩ := run_append_all (P := P) w base t o.type e i z size bytes ht hi hz hsize hby hzs hsz v n xs hown A m c news hl hnews h1 h63 hbytes hbase
  unfold Oper.wp execOp
  simp only [ho, resolve, invoke, builtin, Sem.run_bind, Sem.run_pure, Result.andThen_ok, List.map_toArray, List.map_cons, List.map_nil, hs, hx, hr]
  exact h A' c' w' h2 h3 h4 h5
/-- In the walk. -/
theorem wpList_append_all {P : Program} {ops : Array Oper} {rest : List Oper} {o : Oper} {a : Act} {w : World} {Q : Exit → Act → World → Prop} (hgd : o.guard = none) (s x : Operand) (t : TypeId)
    (ho : o.op = .call { callee := .builtin .append, args := #[s, x], argTypes := #[t, t] })
    (base : Nat) (e : TypeId) (i : TypeInfo) (z : Value) (size bytes : Nat) (ht : P.underlying t = some (.slice e)) (hi : P.info? e = some i) (hz : i.zero = some z)
    (hsize : i.size = size) (hby : i.bytes = bytes) (hzs : z.cells.size = size) (hsz : 0 < size)
    (v : Value) (n : Nat) (xs : List Value) (hs : a.eval s = v) (hown : w.ownsRow base e size v n xs)
    (A : Option Addr) (m c : Nat) (news : List Value) (hx : a.eval x = .slice A m c) (hl : news.length = m * size) (hnews : NewsAt w A m news) (h1 : ∀ u ∈ news, u.oneCell' = true)
    (h63 : n + m ≤ maxLen) (hbytes : (n + m) * bytes ≤ 140737488355328) (hbase : base ≤ w.heap.size)
    (h : ∀ A' c' w', w'.ownsRow base e size (.slice A' (n + m) c') (n + m) (xs ++ news) → w.grownBy w' v.ownBlock → w'.ownsRow base e size v n xs →
      ((Value.slice A' (n + m) c').ownBlock = v.ownBlock ∨ (Value.slice A' (n + m) c').ownBlock = some w.heap.size) → wpList P ops Q rest (a.put o.dst (.slice A' (n + m) c')) w') :
    wpList P ops Q (o :: rest) a w := by
  refine wpList_plain hgd fun K hK => ?_
  obtain ⟨A', c', w', hr, h2, h3, h4, h5⟩ := run_append_all (P := P) w base t o.type e i z size bytes ht hi hz hsize hby hzs hsz v n xs hown A m c news hl hnews h1 h63 hbytes hbase
  unfold Oper.wp execOp
  simp only [ho, resolve, invoke, builtin, Sem.run_bind, Sem.run_pure, Result.andThen_ok, List.map_toArray, List.map_cons, List.map_nil, hs, hx, hr]
  exact hK _ _ (h A' c' w' h2 h3 h4 h5)

theorem range_flat_nil (n : Nat) : (List.range n).flatMap (fun _ => ([] : List Nat)) = [] := by
  induction n with
  | zero => rfl
  | succ n ih => rw [List.range_succ, List.flatMap_append, ih]; rfl
section
variable {α ρ : Type} {f : ρ → List Value} {k T : Nat} {P : Ow α} {B : Nat} {bs : List Nat} {w w' : World} {v : Value} {rows : List ρ} {L : List α}
/-- Behind an append of one element, whose own blocks are cs: whatever value it gave. -/
theorem GrR.addV (good : P.Good) {a w1 : World} {v' : Value} {n : Nat} {r : ρ} {x : α} {cs : List Nat} (h : GrR f k T P B bs w v rows L) (ha : Below w.heap.size w a) (hgrow : a.grownBy w1 v.ownBlock)
    (hown' : w1.ownsRow B T k v' n (rows.flatMap f ++ f r)) (hn : n = rows.length + 1) (hat : v'.ownBlock = v.ownBlock ∨ v'.ownBlock = some a.heap.size)
    (hx : P cs a (f r) x) (hcs : (blkL v ++ (bs ++ cs)).Nodup) (hlow : ∀ b ∈ cs, B ≤ b) : GrR f k T P B (bs ++ cs) w1 v' (rows ++ [r]) (L ++ [x]) := by
  rcases hown'.2 with ⟨_, h0⟩ | ⟨g, cap, cur, rfl, _⟩
  · omega
  · refine h.add good ha hgrow hown' hn ?_ hx hcs hlow
    rcases hat with hat | hat
    · exact .inl hat.symm
    · injection hat with hat; exact .inr hat
/-- A row of elements that reach nothing. -/
theorem GrR.ofRow (h : w.ownsRow B T k v rows.length (rows.flatMap f)) (hl : rows.length = L.length) (hP : ∀ j (hj : j < rows.length) (hj' : j < L.length), P [] w (f rows[j]) L[j]) : GrR f k T P B [] w v rows L := by
  refine ⟨h, hl, ⟨fun _ => [], ?_, hP⟩, ?_, fun b hb => by cases hb⟩
  · exact (range_flat_nil _).symm
  · unfold blkL; cases v.ownBlock <;> simp
end
/-- What a reading of flat elements says of the cells. -/
theorem newsAt_of {α : Type} {R : Rd α} (f : α → List Value) (k : Nat) (hf : ∀ x, (f x).length = k) (hk : 0 < k) (hR : ∀ B T w us x, R B T w us x → us = f x) {B T : Nat} {w : World} {A : Option Addr} {n c : Nat} {L : List α} (h : rdS k R B T w [.slice A n c] L) : n = L.length ∧ NewsAt w A L.length (L.flatMap f) := by
  obtain ⟨A', c', e, hm, hA⟩ := h
  injection e with e _
  injection e with e1 e2 e3
  subst e1 e2 e3
  refine ⟨rfl, ?_⟩
  cases A with
  | none =>
    refine .inl ⟨rfl, ?_⟩
    cases hL : L.length with
    | zero => rfl
    | succ n => obtain ⟨b, o, e, _⟩ := hA 0 (by omega); cases e
  | some ad =>
    refine .inr ⟨ad, rfl, fun j u hu => ?_⟩
    have hlen := flat_len f k hf L
    have hj : j < L.length * k := by rw [← hlen]; exact (List.getElem?_eq_some_iff.1 hu).1
    have hdiv : j / k < L.length := (Nat.div_lt_iff_lt_mul hk).2 hj
    have hmod := Nat.mod_lt j hk
    have e : j = (j / k) * k + j % k := by rw [Nat.mul_comm]; exact (Nat.div_add_mod j k).symm
    obtain ⟨b, o, e1, _, _, us, hl, hc, hr⟩ := hA (j / k) hdiv
    have hus := hR _ _ _ _ _ hr
    injection e1 with e1
    subst e1
    have h2 := flat_at f k hf L (j / k) (j % k) hdiv hmod
    rw [← e, hu, ← hus] at h2
    have h3 := hc (j % k) u h2.symm
    rw [Addr.add_lit]
    rw [show o + j = o + j / k * k + j % k by omega]
    exact h3
end Go.Proofs.Ytiejilmgchmppaa
/- IntS: Slices of ints that the call itself owns; the contracts of eqIntS, markIntS and heldIntS. -/
namespace Go.Proofs.Ytiejilmgchmppaa
open Go.RowKit

theorem ownI_below {w w' : World} {B e size n : Nat} {v : Value} {xs : List Value} (h : w.ownsRow B e size v n xs) (hb : Below w.heap.size w w') : w'.ownsRow B e size v n xs :=
  h.kept (row := none) ⟨hb.os, hb.tape, hb.output, hb.size, fun k hk _ => hb.block k hk⟩ (by cases v.ownBlock <;> simp)
/-- An int. -/
def vI (x : Int) : Value := .int .i64 x
/-- The slice value v owns the ints L. -/
def OwnsI (w : World) (B : Nat) (v : Value) (L : List Int) : Prop := w.ownsRow B 3 1 v L.length (L.map vI)
theorem OwnsI.below {w w' : World} {B : Nat} {v : Value} {L : List Int} (h : OwnsI w B v L) (hb : Below w.heap.size w w') : OwnsI w' B v L := ownI_below h hb
theorem OwnsI.shape {w : World} {B : Nat} {v : Value} {L : List Int} (h : OwnsI w B v L) : ∃ A c, v = .slice A L.length c ∧ ∀ j, j < L.length → ∃ g, A = some ⟨g, 0, none⟩ ∧ w.cell? ⟨g, j, none⟩ = some (.int .i64 (L.getD j 0)) ∧ w.frozen? ⟨g, j, none⟩ = false := by
  rcases h.2 with ⟨rfl, h0⟩ | ⟨g, cap, cur, rfl, _⟩
  · exact ⟨none, 0, by rw [h0], fun j hj => absurd hj (by omega)⟩
  · refine ⟨some ⟨g, 0, none⟩, cap, rfl, fun j hj => ⟨g, rfl, ?_, h.frozenAt j⟩⟩
    rw [h.cellAt j (by omega)]
    simp [List.getElem?_eq_getElem hj, vI]
theorem own_nilI (w : World) (B : Nat) : OwnsI w B (.slice none 0 0) [] := World.ownsRow_nil _ _ _ _
theorem own_newI (w : World) (B : Nat) (hB : B ≤ w.heap.size) : OwnsI (w.alloc (.cells #[] 3)) B (.slice (some ⟨w.heap.size, 0, none⟩) 0 0) [] := World.ownsRow_lit w #[] 0 hB (by unfold maxLen; omega) rfl
/-- Behind an append of one int. -/
theorem own_addI {B : Nat} {w wr a w1 : World} {v v' : Value} {L : List Int} {x : Int} (hown : OwnsI wr B v L) (hsz : B ≤ wr.heap.size) (hbel : Below B w wr) (ha : Below wr.heap.size wr a) (hgrow : a.grownBy w1 v.ownBlock)
    (hown' : w1.ownsRow B 3 1 v' (L.length + 1) (L.map vI ++ [.int .i64 x])) : OwnsI w1 B v' (L ++ [x]) ∧ Below B w w1 := by
  refine ⟨?_, (hbel.trans (ha.mono hsz)).grown hgrow (Nat.le_trans hsz ha.size) (fun j hj => (hown.lt j hj).1)⟩
  unfold OwnsI
  rw [List.length_append, List.map_append]
  exact hown'

set_option maxHeartbeats 400000 in
theorem eqI_any (B1 B2 : Nat) (a b : Value) (L : List Int) (w : World) (ha : OwnsI w B1 a L) (hb : OwnsI w B2 b L) (hl : L.length ≤ 1000000) :
    Calls Try.prog 16 #[a, b] w fun e w' => e = .returned (.bool true) ∧ Below w.heap.size w w' := by
  obtain ⟨A, c, rfl, hA⟩ := ha.shape
  obtain ⟨A', c', rfl, hA'⟩ := hb.shape
  clear ha hb
  have HA := Lib.hid hA
  have HA' := Lib.hid hA'
  clear hA hA'
  go_enter Try.func16, Try.ntmps16
  go_wp2
  go_loopw [5] (fun i wr => ∃ k : Nat, k ≤ L.length ∧ i = .int .i64 k ∧ Below w.heap.size w wr) (fun i _ => L.length - (intOf i).toNat)
  case atStart => exact ⟨0, Nat.zero_le _, rfl, Below.refl _ _⟩
  case round =>
    obtain ⟨k, hk, rfl, hbel⟩ := hrel
    by_cases hlt : k < L.length
    · obtain ⟨g, rfl, h1, _⟩ := HA.out k hlt
      obtain ⟨g', rfl, h2, _⟩ := HA'.out k hlt
      have c1 := (hbel.cell (p := ⟨g, k, none⟩) (World.block_lt_of_cell? w _ h1)).trans h1
      have c2 := (hbel.cell (p := ⟨g', k, none⟩) (World.block_lt_of_cell? w _ h2)).trans h2
      have HB := Lib.hid hbel
      generalize L.getD k 0 = x at c1 c2
      clear h1 h2 HA HA' hbel
      go_wp2
      go_quiet (fail)
      go_wp2
      go_roundw
      case rel => exact ⟨k + 1, by omega, by go_num, HB.out.trans ⟨rfl, rfl, rfl, Nat.le_refl _, fun _ _ => rfl⟩⟩
      case measure => simp [intOf]; omega
    · have HB := Lib.hid hbel
      clear hbel
      go_wp2
      go_ret
      exact ⟨rfl, HB.out⟩

/-- The marks k, k + 1, .. : n of them. -/
def marksI (k n : Nat) : List Int := (List.range n).map fun i => ((k + i : Nat) : Int)
theorem marksI_len (k n : Nat) : (marksI k n).length = n := by simp [marksI]
theorem marksI_at (k n j : Nat) (h : j < n) : (marksI k n).getD j 0 = ((k + j : Nat) : Int) := by simp [marksI, h]

set_option maxHeartbeats 800000 in
theorem markI_any (B : Nat) (a : Value) (L : List Int) (w : World) (ha : OwnsI w B a L) (hl : L.length ≤ 1000000) (k0 : Nat) (hk1 : 1 ≤ k0) (hk2 : k0 ≤ 1000000000) :
    Calls Try.prog 19 #[a, .int .i64 k0] w fun e w' => e = .returned (.int .i64 ((k0 + L.length : Nat) : Int)) ∧ OwnsI w' B a (marksI k0 L.length) ∧ w.grownBy w' a.ownBlock := by
  obtain ⟨A, c, rfl, hA⟩ := ha.shape
  clear hA
  have HA := Lib.hid ha
  clear ha
  go_enter Try.func19, Try.ntmps19
  go_wp2
  go_loopw [1, 5] (fun q i wr => ∃ k : Nat, k ≤ L.length ∧ i = .int .i64 k ∧ q = .int .i64 ((k0 + k : Nat) : Int) ∧ OwnsI wr B (.slice A L.length c) (marksI k0 k ++ L.drop k) ∧ w.grownBy wr (Value.slice A L.length c).ownBlock) (fun _ i _ => L.length - (intOf i).toNat)
  case atStart => exact ⟨0, Nat.zero_le _, rfl, rfl, by simpa [marksI] using HA.out, World.grownBy.refl _ _⟩
  case round =>
    obtain ⟨k, hk, rfl, rfl, hown, hgrow⟩ := hrel
    have hll : (marksI k0 k ++ L.drop k).length = L.length := by rw [List.length_append, marksI_len, List.length_drop]; omega
    have HO := Lib.hid hown
    have HG := Lib.hid hgrow
    have HL := Lib.hid hll
    clear hown hgrow hll HA
    by_cases hlt : k < L.length
    · obtain ⟨A2, c2, hv, hA2⟩ := HO.out.shape
      rw [HL.out] at hA2 hv
      injection hv with hv1 hv2 hv3
      subst hv1 hv3
      obtain ⟨g, rfl, c1, f1⟩ := hA2 k hlt
      have hown2 : wr.ownsRow B 3 1 (.slice (some ⟨g, 0, none⟩) L.length c) L.length ((marksI k0 k ++ L.drop k).map vI) := by have := HO.out; unfold OwnsI at this; rw [HL.out] at this; exact this
      have hst := hown2.stored k (vI ((k0 + k : Nat) : Int))
      have el : ((marksI k0 k ++ L.drop k).map vI).set k (vI ((k0 + k : Nat) : Int)) = (marksI k0 (k + 1) ++ L.drop (k + 1)).map vI := by
        rw [← List.map_set]
        congr 1
        rw [List.set_append_right _ _ (by rw [marksI_len]; omega), marksI_len, Nat.sub_self, List.drop_eq_getElem_cons hlt, List.set_cons_zero]
        simp [marksI, List.range_succ]
      have ho3 : OwnsI (wr.setCell ⟨g, k, none⟩ (.int .i64 ((k0 + k : Nat) : Int))) B (.slice (some ⟨g, 0, none⟩) L.length c) (marksI k0 (k + 1) ++ L.drop (k + 1)) := by
        have hl3 : (marksI k0 (k + 1) ++ L.drop (k + 1)).length = L.length := by rw [List.length_append, marksI_len, List.length_drop]; omega
        unfold OwnsI
        rw [hl3, ← el]
        exact hst.1
      have hg3 : w.grownBy (wr.setCell ⟨g, k, none⟩ (.int .i64 ((k0 + k : Nat) : Int))) (Value.slice (some ⟨g, 0, none⟩) L.length c).ownBlock :=
        ⟨HG.out.os, HG.out.tape, HG.out.output, Nat.le_trans HG.out.size hst.2.size, fun j hj hne =>
          (hst.2.block j (Nat.lt_of_lt_of_le hj HG.out.size) hne).trans (HG.out.block j hj hne)⟩
      have R := Lib.hid (And.intro ho3 hg3)
      clear hA2 hown2 hst el ho3 hg3 HO HG
      go_wp2
      go_roundw
      case rel => exact ⟨k + 1, by omega, by go_num, by go_num, R.out.1, R.out.2⟩
      case measure => simp [intOf]; omega
    · obtain rfl : k = L.length := by omega
      go_wp2
      go_ret
      exact ⟨rfl, by have := HO.out; rwa [List.drop_length, List.append_nil] at this, HG.out⟩

set_option maxHeartbeats 400000 in
theorem heldI_any (B : Nat) (a : Value) (n : Nat) (w : World) (k0 : Nat) (ha : OwnsI w B a (marksI k0 n)) (hl : n ≤ 1000000) (hk1 : 1 ≤ k0) (hk2 : k0 ≤ 1000000000) :
    Calls Try.prog 20 #[a, .int .i64 k0] w fun e w' => e = .returned (.int .i64 ((k0 + n : Nat) : Int)) ∧ Below w.heap.size w w' := by
  obtain ⟨A, c, rfl, hA⟩ := ha.shape
  rw [marksI_len] at hA ⊢
  have HA := Lib.hid hA
  clear hA ha
  go_enter Try.func20, Try.ntmps20
  go_wp2
  go_loopw [1, 5] (fun q i wr => ∃ k : Nat, k ≤ n ∧ i = .int .i64 k ∧ q = .int .i64 ((k0 + k : Nat) : Int) ∧ Below w.heap.size w wr) (fun _ i _ => n - (intOf i).toNat)
  case atStart => exact ⟨0, Nat.zero_le _, rfl, rfl, Below.refl _ _⟩
  case round =>
    obtain ⟨k, hk, rfl, rfl, hbel⟩ := hrel
    by_cases hlt : k < n
    · obtain ⟨g, rfl, h1, _⟩ := HA.out k hlt
      rw [marksI_at k0 n k hlt] at h1
      have c1 := (hbel.cell (p := ⟨g, k, none⟩) (World.block_lt_of_cell? w _ h1)).trans h1
      have HB := Lib.hid hbel
      clear h1 HA hbel
      go_wp2
      go_roundw
      case rel => exact ⟨k + 1, by omega, by go_num, by go_num, by have hB := HB.out; (repeat' (first | assumption | exact Below.refl _ _ | refine bDrewN ?_ _ | refine Below.drew ?_ | refine bAlloc ?_ (Nat.le_refl _) _ | refine bSet ?_ (by first | exact Nat.le_refl _ | omega | (simp <;> omega)) _))⟩
      case measure => simp [intOf]; omega
    · have HB := Lib.hid hbel
      obtain rfl : k = n := by omega
      clear hbel
      go_wp2
      go_ret
      exact ⟨rfl, HB.out⟩
end Go.Proofs.Ytiejilmgchmppaa
/- OwnI: Slices of ints of one's own: stores, readings, owned data; copies of slices of ints; blocks behind an append. -/
namespace Go.Proofs.Ytiejilmgchmppaa
open Go.RowKit
set_option linter.unusedVariables false
set_option linter.unusedSimpArgs false

theorem OwnsI.lower {w : World} {B B' : Nat} {v : Value} {L : List Int} (h : OwnsI w B v L) (hB : B' ≤ B) : OwnsI w B' v L := by
  obtain ⟨h1, h2⟩ := h
  refine ⟨h1, ?_⟩
  rcases h2 with h2 | ⟨g, cap, cur, e1, e2, e3⟩
  · exact .inl h2
  · exact .inr ⟨g, cap, cur, e1, Nat.le_trans hB e2, e3⟩
theorem infoI : (Try.prog.info? 3).map (fun i => (i.zero, i.size, i.bytes)) = some (some (.int .i64 0), 1, 8) := by kernel_rfl
theorem row_far {B e k n : Nat} {w : World} {v : Value} {xs : List Value} (h : w.ownsRow B e k v n xs) {g i : Nat} {u : Value} (hne : v.ownBlock ≠ some g) : (w.setCell ⟨g, i, none⟩ u).ownsRow B e k v n xs :=
  World.ownsRow.kept h (row := some g) ⟨rfl, rfl, rfl, by simp, fun j hj hne => Below.heap_setCell w _ _ j (by intro e; exact hne (by rw [e]))⟩ (by
    cases hv : v.ownBlock with
    | none => exact .inl rfl
    | some j => exact .inr (fun e => hne (by rw [hv, e])))
theorem rowOf {α : Type} {f : α → List Value} {k T B : Nat} {w : World} {v : Value} {rows : List α} (h : OwnsR f k T w B v rows) : w.ownsRow B T k v rows.length (rows.flatMap f) := h
theorem grownC {w w' : World} {row : Option Nat} (h : w.grownBy w' row) {b o : Nat} {v : Value} (hc : w.cell? ⟨b, o, none⟩ = some v) (hne : row ≠ some b) : w'.cell? ⟨b, o, none⟩ = some v := by
  rw [World.cell?_of_block (h.block b (World.block_lt_of_cell? _ _ hc) (fun e => hne e.symm))]; exact hc
theorem grownZ {w w' : World} {row : Option Nat} (h : w.grownBy w' row) {b o : Nat} {v : Value} (hc : w.cell? ⟨b, o, none⟩ = some v) (hf : w.frozen? ⟨b, o, none⟩ = false) (hne : row ≠ some b) : w'.frozen? ⟨b, o, none⟩ = false := by
  rw [World.frozen?_of_block (h.block b (World.block_lt_of_cell? _ _ hc) (fun e => hne e.symm))]; exact hf
theorem nodup_new {L C : List Nat} {N : Nat} (hL : L.Nodup) (hC : C.Nodup) (h1 : ∀ b ∈ L, b < N) (h2 : ∀ b ∈ C, N ≤ b) : (L ++ C).Nodup := by
  rw [List.nodup_append]
  exact ⟨hL, hC, fun a ha b hb e => by have := h1 a ha; have := h2 b hb; omega⟩
theorem ownI_set {w : World} {B g n c : Nat} {L : List Int} (h : OwnsI w B (.slice (some ⟨g, 0, none⟩) n c) L) (hn : L.length = n) {k : Nat} (hk : k < n) (x : Int) : OwnsI (w.setCell ⟨g, k, none⟩ (.int .i64 x)) B (.slice (some ⟨g, 0, none⟩) n c) (L.set k x) := by
  unfold OwnsI at h ⊢
  subst hn
  have h1 := (h.stored k (vI x)).1
  rw [List.length_set, List.map_set]
  exact h1
theorem ownI_cell {w : World} {B g n c : Nat} {L : List Int} (h : OwnsI w B (.slice (some ⟨g, 0, none⟩) n c) L) {k : Nat} (hn : L.length = n) (hk : k < n) : w.cell? ⟨g, k, none⟩ = some (.int .i64 (L.getD k 0)) ∧ w.frozen? ⟨g, k, none⟩ = false := by
  obtain ⟨A, c', hv, hsh⟩ := h.shape
  injection hv with e1 e2 e3
  obtain ⟨g', hg, h1, h2⟩ := hsh k (by omega)
  rw [← e1] at hg; injection hg with hg; injection hg with hg; subst hg
  exact ⟨h1, h2⟩
theorem ownI_far {w : World} {B g k : Nat} {v u : Value} {L : List Int} (h : OwnsI w B v L) (hne : v.ownBlock ≠ some g) : OwnsI (w.setCell ⟨g, k, none⟩ u) B v L := by
  unfold OwnsI at h ⊢
  exact row_far h hne
/-- As an owned datum. -/
theorem ownI_ow {w : World} {B : Nat} {v : Value} {L : List Int} (h : OwnsI w B v L) (hf : ∀ x ∈ L, Fit x) : owIntS (blkL v) w [v] L := by
  have hA := h.shape
  rcases h.2 with ⟨rfl, h0⟩ | ⟨g, cap, cur, rfl, e2, e3, e4, e5, e6⟩
  · have : L = [] := List.eq_nil_of_length_eq_zero h0
    subst this
    exact ⟨none, 0, rfl, by simp, .inl ⟨rfl, rfl⟩⟩
  · obtain ⟨A, c, hv, hsh⟩ := hA
    injection hv with h1 h2 h3
    refine ⟨_, _, rfl, by omega, .inr ⟨g, 0, fun _ => [], rfl, by simp [blkL_at], (Array.getElem?_eq_some_iff.1 e3).1, fun j hj => ?_⟩⟩
    obtain ⟨g', hg, hc, hz⟩ := hsh j hj
    rw [← h1] at hg
    injection hg with hg
    injection hg with hg
    subst hg
    refine ⟨[.int .i64 L[j]], rfl, fun i u hu => ?_, rfl, rfl, hf _ (List.getElem_mem hj)⟩
    match i, hu with
    | 0, hu =>
      injection hu with hu
      subst hu
      rw [Nat.zero_add, Nat.mul_one, Nat.add_zero]
      refine ⟨?_, hz⟩
      rw [hc, List.getD_eq_getElem?_getD, List.getElem?_eq_getElem hj]
      rfl
theorem ownI_rd {w : World} {B : Nat} {v : Value} {L : List Int} (h : OwnsI w B v L) (hf : ∀ x ∈ L, Fit x) : rdIntS 0 w.heap.size w [v] L := by
  have hA := h.shape
  rcases h.2 with ⟨rfl, h0⟩ | ⟨g, cap, cur, rfl, e2, e3, e4, e5, e6⟩
  · have : L = [] := List.eq_nil_of_length_eq_zero h0
    subst this
    exact ⟨none, 0, rfl, by simp, fun j hj => absurd hj (by simp)⟩
  · obtain ⟨A, c, hv, hsh⟩ := hA
    injection hv with h1 h2 h3
    refine ⟨_, _, rfl, by omega, fun j hj => ?_⟩
    obtain ⟨g', hg, hc, _⟩ := hsh j hj
    rw [← h1] at hg
    injection hg with hg
    injection hg with hg
    subst hg
    refine ⟨g, 0, rfl, Nat.zero_le _, (Array.getElem?_eq_some_iff.1 e3).1, [.int .i64 L[j]], rfl, fun i u hu => ?_, rfl, hf _ (List.getElem_mem hj)⟩
    match i, hu with
    | 0, hu =>
      injection hu with hu
      subst hu
      rw [Nat.zero_add, Nat.mul_one, Nat.add_zero, hc, List.getD_eq_getElem?_getD, List.getElem?_eq_getElem hj]
      rfl
theorem NewsAt.below {w w' : World} {A : Option Addr} {m : Nat} {news : List Value} (h : NewsAt w A m news) (hb : Below w.heap.size w w') : NewsAt w' A m news := by
  rcases h with h | ⟨ad, e, h⟩
  · exact .inl h
  · exact .inr ⟨ad, e, fun j u hu => keep hb (h j u hu)⟩
def fInt (x : Int) : List Value := [.int .i64 x]
theorem fInt_len (x : Int) : (fInt x).length = 1 := rfl
theorem fInt_one (L : List Int) : ∀ u ∈ L.flatMap fInt, u.oneCell' = true := fun u hu => by
  obtain ⟨c, _, hc⟩ := List.mem_flatMap.1 hu
  simp only [fInt, List.mem_cons, List.not_mem_nil, or_false] at hc
  subst hc; rfl
theorem usInt (B T : Nat) (w : World) (us : List Value) (x : Int) (h : rdInt B T w us x) : us = fInt x := h.1
theorem owInt_of {B T : Nat} {w : World} {us : List Value} {x : Int} (h : rdInt B T w us x) (w' : World) : owInt [] w' (fInt x) x := ⟨rfl, rfl, h.2⟩
theorem copyInt {L : List Int} {B T B' : Nat} {w w' : World} {u v : Value} (h : rdS 1 rdInt B T w [u] L) (hr : w'.ownsRow B' 3 1 v L.length (L.flatMap fInt)) : GrR fInt 1 3 owInt B' [] w' v L L := by
  obtain ⟨_, _, _, _, hA⟩ := h
  refine GrR.ofRow hr rfl fun j hj hj' => ?_
  obtain ⟨b, o, _, _, _, us, _, _, hp⟩ := hA j hj
  exact owInt_of hp w'
set_option maxHeartbeats 1600000 in
theorem cloneInt_at (L : List Int) (A : Option Addr) (n c : Nat) {B T : Nat} (w : World) (h : rdS 1 rdInt B T w [.slice A n c] L) (hm : L.length ≤ 1048576) :
    Calls Try.prog 68 #[.slice A n c] w fun e w' => ∃ A' c', e = .returned (.slice A' L.length c') ∧ GrR fInt 1 3 owInt w.heap.size [] w' (.slice A' L.length c') L L ∧ Below w.heap.size w w' := by
  obtain ⟨i0, hi, hz0, hz1, hz2⟩ := info_parts infoI
  obtain ⟨hn, hnews⟩ := newsAt_of fInt 1 fInt_len (by omega) usInt h
  subst hn
  have hrd := h
  have q0 : ∀ (w : World) (a : Option Addr) (n c n' c' : Nat), (binOp .eql 26 (.slice a n c) (.slice none n' c')).run Try.prog w = .ok (.bool a.isNone) w := fun w a n c n' c' => Lib.run_eql_slice_nil w _ _ a n c n' c' Try.underlying26
  cases A with
  | none =>
    have hL : L = [] := List.eq_nil_of_length_eq_zero (by rcases hnews with ⟨_, h0⟩ | ⟨ad, e, _⟩ <;> first | exact h0 | cases e)
    subst hL
    clear h hnews hrd
    go_enter Try.func68, Try.ntmps68
    go_wp2
    go_ret
    exact ⟨none, 0, rfl, GrR.nil _ _ _ _ _ _, Below.refl _ _⟩
  | some ad =>
    have HN := Lib.hid (show NewsAt (w.alloc (.cells #[] 3)) (some ad) L.length (L.flatMap fInt) from hnews.below (bAlloc (Below.refl _ _) (Nat.le_refl _) _))
    obtain ⟨A, hA⟩ : ∃ A, A = some ad := ⟨_, rfl⟩
    rw [← hA] at HN
    clear h hnews
    go_enter Try.func68, Try.ntmps68
    go_wp2_with (at_builtin; refine wpList_append_all (by rfl) _ _ 26 (by rfl) w.heap.size 3 i0 (.int .i64 0) 1 8 Try.underlying26 hi hz0 hz1 hz2 rfl (by omega) (.slice (some ⟨w.heap.size, 0, none⟩) 0 0) 0 [] (by rfl) (ownR_new fInt 1 3 w w.heap.size (Nat.le_refl _)) (some ad) L.length c (L.flatMap fInt) (by rfl) (flat_len fInt 1 fInt_len L) (hA ▸ HN.out) (fInt_one L) (by unfold maxLen; omega) (by omega) (by simp) ?_; intro A' c' w2 hown hgrow hkeep hat)
    have hr := hown
    rw [Nat.zero_add, List.nil_append] at hr
    have HRES := Lib.hid (And.intro (copyInt hrd hr) (show Below w.heap.size w w2 from (show Below w.heap.size w (w.alloc (.cells #[] 3)) from bAlloc (Below.refl _ _) (Nat.le_refl _) _).grown hgrow (by simp) (by intro g hg; injection hg with hg; dsimp only at hg; omega)))
    clear hown hgrow hkeep hat hr hrd
    go_wp2
    go_ret
    exact ⟨A', c', by first | rfl | rw [Nat.zero_add], HRES.out.1, HRES.out.2⟩
theorem flat_vI (L : List Int) : L.flatMap fInt = L.map vI := by
  induction L with
  | nil => rfl
  | cons x L ih => rw [List.flatMap_cons, ih]; rfl
end Go.Proofs.Ytiejilmgchmppaa
