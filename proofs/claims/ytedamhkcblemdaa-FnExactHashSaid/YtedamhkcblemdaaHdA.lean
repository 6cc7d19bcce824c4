/-
  A store into a row of a growing slice.
-/
import Derived.Test.YtedamhkcblemdaaHiN
namespace Go.Proofs.Ytedamhkcblemdaa
open Go.RowKit
set_option linter.unusedVariables false
set_option linter.unusedSimpArgs false

theorem step_make {P : Program} {w : World} {ops : Array Oper} {o : Oper} {a : Act} {K : Act → World → Prop} {Q : Exit → Act → World → Prop} {E : Prop}
    (hg : o.guard = none) (l c : Operand) (t : TypeId) (hop : o.op = Op.makeSlice t l c)
    (base : Nat) (e : TypeId) (i : TypeInfo) (z : Value) (size : Nat) (h1 : P.underlying t = some (.slice e)) (h2 : P.info? e = some i) (h3 : i.zero = some z) (h4 : i.size = size)
    (kl kc : IntKind) (n : Nat) (hl : a.eval l = .int kl (n : Int)) (hc : a.eval c = .int kc (n : Int)) (b2 : i.bytes * n ≤ 281474976710656) (b3 : n ≤ maxLen) (b4 : base ≤ w.heap.size)
    (hK : ∀ w', w'.ownsRow base e size (.slice (some ⟨w.heap.size, 0, none⟩) n n) n (madeCells z.cells (n * size)).toList → w.grownBy w' none → K (a.put o.dst (.slice (some ⟨w.heap.size, 0, none⟩) n n)) w') :
    if Region.wanted o (yielded ops a.tmps) = true then Oper.wp P o a w K Q else E := by
  have hw : Region.wanted o (yielded ops a.tmps) = true := by simp [Region.wanted, hg]
  rw [if_pos hw]
  obtain ⟨w', hrun, r1, r2⟩ := run_make_full (P := P) w base t e i z size h1 h2 h3 h4 kl kc n b2 b3 b4
  unfold Oper.wp
  simp [execOp, hop, hl, hc, hrun, Result.andThen]
  exact hK w' r1 r2
theorem below_grown0 {w w' : World} (h : w.grownBy w' none) : Below w.heap.size w w' := ⟨h.os, h.tape, h.output, h.size, fun k hk => h.block k hk (by simp)⟩
theorem mem_upd {n j b : Nat} {bf : Nat → List Nat} {cs : List Nat} (h : b ∈ (List.range n).flatMap fun q => if q = j then cs else bf q) : b ∈ (List.range n).flatMap bf ∨ b ∈ cs := by
  obtain ⟨q, hq, hb⟩ := List.mem_flatMap.1 h
  by_cases e : q = j
  · rw [if_pos e] at hb; exact .inr hb
  · rw [if_neg e] at hb; exact .inl (List.mem_flatMap.2 ⟨q, hq, hb⟩)
theorem nodup_upd {j : Nat} {bf : Nat → List Nat} {cs : List Nat} (hc : cs.Nodup) : ∀ n, ((List.range n).flatMap bf).Nodup → (∀ b ∈ cs, b ∉ (List.range n).flatMap bf) → ((List.range n).flatMap fun q => if q = j then cs else bf q).Nodup
  | 0, _, _ => by simp
  | n + 1, h, hd => by
    rw [List.range_succ, List.flatMap_append] at h hd ⊢
    simp only [List.flatMap_cons, List.flatMap_nil, List.append_nil] at h hd ⊢
    obtain ⟨h1, h2, h3⟩ := List.nodup_append.1 h
    have ih := nodup_upd (j := j) hc n h1 (fun b hb hm => hd b hb (List.mem_append.2 (.inl hm)))
    by_cases e : n = j
    · rw [if_pos e]
      refine List.nodup_append.2 ⟨ih, hc, fun a ha b hb hab => ?_⟩
      subst hab
      obtain ⟨q, hq, hqa⟩ := List.mem_flatMap.1 ha
      have hqn := List.mem_range.1 hq
      rw [if_neg (by omega)] at hqa
      exact hd a hb (List.mem_append.2 (.inl (List.mem_flatMap.2 ⟨q, hq, hqa⟩)))
    · rw [if_neg e]
      refine List.nodup_append.2 ⟨ih, h2, fun a ha b hb hab => ?_⟩
      subst hab
      rcases mem_upd ha with ha | ha
      · exact h3 a ha a hb rfl
      · exact hd a ha (List.mem_append.2 (.inr hb))
section
variable {α ρ : Type} {f : ρ → List Value} {k T : Nat} {P : Ow α} {B : Nat} {bs : List Nat} {w : World} {rows : List ρ} {L : List α}
theorem gr_store (good : P.Good) (hf : ∀ x, (f x).length = k) {g c j i : Nat} {u : Value} {y : ρ} {x : α} {cs : List Nat} (h : GrR f k T P B bs w (.slice (some ⟨g, 0, none⟩) rows.length c) rows L) (hj : j < rows.length) (hi : i < k) (hy : f y = (f rows[j]).set i u) (hx : P cs w (f y) x) (hcn : cs.Nodup) (hcd : ∀ b ∈ cs, b ≠ g ∧ b ∉ bs) (hlo : ∀ b ∈ cs, B ≤ b) :
    ∃ bs', GrR f k T P B bs' (w.setCell ⟨g, j * k + i, none⟩ u) (.slice (some ⟨g, 0, none⟩) rows.length c) (rows.set j y) (L.set j x) ∧ ∀ b ∈ bs', b ∈ bs ∨ b ∈ cs := by
  obtain ⟨bf, e, hp⟩ := h.bf
  have hnd := h.nd
  rw [blkL_at] at hnd
  have hgb : g ∉ bs := (List.nodup_cons.1 hnd).1
  have hbn : bs.Nodup := (List.nodup_cons.1 hnd).2
  have hl := h.len
  have keepg : ∀ b, b ≠ g → (w.setCell ⟨g, j * k + i, none⟩ u).heap[b]? = w.heap[b]? := fun b hb => Below.heap_setCell w _ _ b (by intro e; exact hb e)
  refine ⟨(List.range (L.set j x).length).flatMap fun q => if q = j then cs else bf q, ⟨?_, by simp [hl], ⟨_, rfl, fun q hq hq' => ?_⟩, ?_, fun b hb => ?_⟩, fun b hb => ?_⟩
  · exact (OwnsR.stored hf h.own hj hi hy).1
  · have hq1 : q < rows.length := by simpa using hq
    have hq2 : q < L.length := by simpa using hq'
    by_cases eq : q = j
    · subst eq
      rw [if_pos rfl]
      simp only [List.getElem_set_self]
      exact good.frame _ w _ _ _ hx fun b hb => keepg b (hcd b hb).1
    · rw [if_neg eq, List.getElem_set_ne (fun h => eq h.symm), List.getElem_set_ne (fun h => eq h.symm)]
      refine good.frame _ w _ _ _ (hp q hq1 hq2) fun b hb => keepg b (fun hbg => hgb ?_)
      rw [e, ← hbg]; exact mem_bf hq2 hb
  · rw [blkL_at]
    rw [List.length_set]
    show (g :: _).Nodup
    refine List.nodup_cons.2 ⟨fun hm => ?_, nodup_upd hcn _ (by rw [← e]; exact hbn) (fun b hb hm => (hcd b hb).2 (by rw [e]; exact hm))⟩
    rcases mem_upd hm with hm | hm
    · exact hgb (by rw [e]; exact hm)
    · exact (hcd g hm).1 rfl
  · rw [List.length_set] at hb
    rcases mem_upd hb with hb | hb
    · exact h.low b (by rw [e]; exact hb)
    · exact hlo b hb
  · rw [List.length_set] at hb
    rcases mem_upd hb with hb | hb
    · exact .inl (by rw [e]; exact hb)
    · exact .inr hb
end
section
variable {w0 w : World} {F G : Nat} {vA v3 : Value} {rows : List V3} {bs : List Nat} {n : DNet}
/-- In of element j is replaced by a slice of one's own. -/
theorem CopyAt.setIn {g c j N : Nat} {s : DSeq} {r : V3} {I : List Int} {v : Value} (h : CopyAt w0 w F G (.slice (some ⟨g, 0, none⟩) rows.length c) vA v3 rows bs n) (hj : j < rows.length) (hr : rows[j]? = some r) (hs : n.2.1[j]? = some s) (hv : OwnsI w N v I) (hf : ∀ x ∈ I, Fit x) (hN : w0.heap.size + 2 ≤ N) (hGN : G < N) (hFN : ∀ b ∈ blkL (.slice (some ⟨g, 0, none⟩) rows.length c) ++ (bs ++ (blkL vA ++ blkL v3)), b < N) :
    ∃ bs' rows', CopyAt w0 (w.setCell ⟨g, j * 3 + 2, none⟩ v) F G (.slice (some ⟨g, 0, none⟩) rows.length c) vA v3 rows' bs' (n.1, n.2.1.set j (s.1, s.2.1, I), n.2.2.1, n.2.2.2) ∧ rows'.length = rows.length ∧ ∀ b ∈ bs', b ∈ bs ∨ N ≤ b := by
  have hvb : ∀ b ∈ blkL v, N ≤ b ∧ b < w.heap.size := fun b hb => hv.lt b (mem_blkL.1 hb)
  have hgl : g < N := hFN g (by simp [blkL_at])
  have hjl : j < n.2.1.length := by rw [← h.net.s.len]; exact hj
  have hrj : rows[j] = r := by rw [List.getElem?_eq_getElem hj] at hr; injection hr
  have hsj : n.2.1[j] = s := by rw [List.getElem?_eq_getElem hjl] at hs; injection hs
  obtain ⟨bf, -, hp⟩ := h.net.s.bf
  have hP := hp j hj hjl
  rw [hrj, hsj] at hP
  obtain ⟨b0, b1, b2, u0, u1, u2, eb, eu, h0, h1, h2⟩ := hP
  obtain ⟨r0, r1, r2⟩ := r
  simp only [fV3, List.cons.injEq, and_true] at eu
  obtain ⟨rfl, rfl, rfl⟩ := eu
  obtain ⟨_, e0, f0⟩ := h0
  obtain ⟨_, e1, f1⟩ := h1
  simp only [List.cons.injEq, and_true] at e0 e1
  subst e0 e1
  have hx : owSeq (blkL v) w (fV3 (.int .i64 s.1, .int .i64 s.2.1, v)) (s.1, s.2.1, I) := owSeq_own f0 f1 hv hf
  obtain ⟨bs', hg, hb'⟩ := gr_store (i := 2) gow_Seq fV3_len h.net.s hj (by omega) (u := v) (y := (.int .i64 s.1, .int .i64 s.2.1, v)) (by rw [hrj]; rfl) hx (blkL_nodup v) (fun b hb => ⟨by have := (hvb b hb).1; omega, fun hm => by have := (hvb b hb).1; have := hFN b (by simp [hm]); omega⟩) (fun b hb => by have := (hvb b hb).1; omega)
  have hin : ∀ b ∈ blkL (Value.slice (some ⟨g, 0, none⟩) rows.length c) ++ bs', b ∈ blkL (Value.slice (some ⟨g, 0, none⟩) rows.length c) ++ bs ∨ (N ≤ b ∧ b < w.heap.size) := fun b hb => by
    rcases List.mem_append.1 hb with hb | hb
    · exact .inl (List.mem_append.2 (.inl hb))
    · rcases hb' b hb with hb | hb
      · exact .inl (List.mem_append.2 (.inr hb))
      · exact .inr (hvb b hb)
  have hge := h.off g (by simp [blkL_at])
  have hgA : ∀ b ∈ blkL vA ++ blkL v3, b ≠ g := fun b hb e => by
    subst e
    rcases List.mem_append.1 hb with hb | hb
    · exact h.net.sa b (by simp [blkL_at]) hb
    · exact h.net.so b (by simp [blkL_at]) hb
  have keepg : ∀ b, b ≠ g → (w.setCell ⟨g, j * 3 + 2, none⟩ v).heap[b]? = w.heap[b]? := fun b hb => Below.heap_setCell w _ _ b (by intro e; exact hb e)
  have hFg : F ≠ g := by
    have h1 := (h.net.s.own.blk_lt (b := g) rfl).2
    have h2 := h.hF2
    omega
  refine ⟨bs', rows.set j (.int .i64 s.1, .int .i64 s.2.1, v), ⟨h.box.at (keepg G (fun e => hge e.symm)), h.res.at (keepg F hFg), ⟨hg, h.net.a.at gow_And fun b hb => keepg b (hgA b (by simp only [List.append_nil] at hb; simp [hb])), h.net.o.at owInt_good fun b hb => keepg b (hgA b (by simp only [List.append_nil] at hb; simp [hb])), fun b hb hm => ?_, fun b hb hm => ?_, h.net.ao, h.net.fit⟩, fun b hb => ?_, ?_, h.hF, h.hF2, h.hG⟩, by simp, fun b hb => (hb' b hb).imp id (fun h => (hvb b h).1)⟩
  · rcases hin b hb with h1 | h1
    · exact h.net.sa b h1 hm
    · have := hFN b (by simp [hm]); omega
  · rcases hin b hb with h1 | h1
    · exact h.net.so b h1 hm
    · have := hFN b (by simp [hm]); omega
  · rw [← List.append_assoc] at hb
    rcases List.mem_append.1 hb with hb | hb
    · rcases hin b hb with h1 | h1
      · exact h.off b (by rcases List.mem_append.1 h1 with h1 | h1 <;> simp [h1])
      · omega
    · exact h.off b (by rcases List.mem_append.1 hb with hb | hb <;> simp [hb])
  · exact bSet h.chg (by show w0.heap.size ≤ g; have h1 := (h.net.s.own.blk_lt (b := g) rfl).2; omega) _
/-- An element of a copy. -/
theorem CopyAt.rowAt {v1 : Value} {j : Nat} {s : DSeq} (h : CopyAt w0 w F G v1 vA v3 rows bs n) (hs : n.2.1[j]? = some s) :
    ∃ g c r xA xc, v1 = .slice (some ⟨g, 0, none⟩) rows.length c ∧ rows[j]? = some r ∧ w.cell? ⟨g, j * 3 + 2, none⟩ = some (.slice xA s.2.2.length xc) ∧ (∀ i, w.frozen? ⟨g, i, none⟩ = false) ∧ g < w.heap.size ∧ w0.heap.size + 2 ≤ g := by
  have hjl := (List.getElem?_eq_some_iff.1 hs).1
  have hj : j < rows.length := by rw [h.net.s.len]; exact hjl
  obtain ⟨A, c, e, hsh⟩ := OwnsR.shape fV3_len h.net.s.own
  obtain ⟨g, rfl, hc⟩ := hsh j hj
  have hsj : n.2.1[j] = s := by rw [List.getElem?_eq_getElem hjl] at hs; injection hs
  obtain ⟨bf, -, hp⟩ := h.net.s.bf
  have hP := hp j hj hjl
  rw [hsj] at hP
  obtain ⟨b0, b1, b2, u0, u1, u2, eb, eu, h0, h1, h2⟩ := hP
  obtain ⟨xA, xc, ex, -, -⟩ := h2
  have h22 := hc 2 u2 (by rw [eu]; rfl)
  injection ex with ex
  subst ex
  have hb := h.net.s.own.blk_lt (b := g) (by rw [e]; rfl)
  refine ⟨g, c, rows[j], xA, xc, e, List.getElem?_eq_getElem hj, h22.1, fun i => ?_, hb.1, hb.2⟩
  subst e
  exact World.ownsRow.frozenAt h.net.s.own i
end
end Go.Proofs.Ytedamhkcblemdaa
