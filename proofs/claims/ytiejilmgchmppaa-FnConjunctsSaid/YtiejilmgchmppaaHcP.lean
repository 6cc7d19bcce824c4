/-
  Hc1, HcA, Hc2, HcB, Hc8 as one text.
-/
import Derived.Test.YtiejilmgchmppaaDrA
import Derived.Test.YtiejilmgchmppaaNrA
import Derived.Deep.RegionHeld3
import Derived.Test.YtiejilmgchmppaaFork
import Derived.Test.YtiejilmgchmppaaHsA
/- Hc1: Copies of sequential elements: the specification. -/
namespace Go.Proofs.Ytiejilmgchmppaa
open Go.RowKit
set_option linter.unusedVariables false
set_option linter.unusedSimpArgs false

theorem infoQ1 : (Try.prog.info? 56).map (fun i => (i.zero, i.size, i.bytes)) = some (some (.agg #[.int .i64 0, .int .i64 0, .slice none 0 0]), 3, 40) := by kernel_rfl
theorem gr_new {α ρ : Type} (f : ρ → List Value) (k T : Nat) (P : Ow α) (w : World) (B : Nat) (hB : B ≤ w.heap.size) : GrR f k T P B [] (w.alloc (.cells #[] T)) (.slice (some ⟨w.heap.size, 0, none⟩) 0 0) [] [] :=
  ⟨ownR_new f k T w B hB, rfl, ⟨fun _ => [], rfl, fun j hj => absurd hj (by simp)⟩, by simp [blkL_at], fun b hb => by cases hb⟩
theorem owSeq_own {w : World} {B : Nat} {y I : Int} {v : Value} {L : List Int} (hk : Fit y) (hI : Fit I) (h : OwnsI w B v L) (hf : ∀ x ∈ L, Fit x) : owSeq (blkL v) w (fV3 (.int .i64 y, .int .i64 I, v)) (y, I, L) := by
  refine ⟨[], [], blkL v, _, _, _, rfl, rfl, ⟨rfl, rfl, hk⟩, ⟨rfl, rfl, hI⟩, ownI_ow h hf⟩
theorem blkL_nodup (v : Value) : (blkL v).Nodup := by unfold blkL; cases v.ownBlock <;> simp
end Go.Proofs.Ytiejilmgchmppaa
/- HcA: A net of one's own that grows. -/
namespace Go.Proofs.Ytiejilmgchmppaa
open Go.RowKit
set_option linter.unusedVariables false
set_option linter.unusedSimpArgs false
theorem row0 {w : World} {g B T k : Nat} (hg : w.heap[g]? = some (.cells #[] T)) (hB : B ≤ g) : w.ownsRow B T k (.slice (some ⟨g, 0, none⟩) 0 0) 0 [] := by
  have hlt : g < w.heap.size := (Array.getElem?_eq_some_iff.1 hg).1
  have e : ({ w with heap := w.heap.take g } : World).heap.size = g := by simp; omega
  have h := ownR_new (α := Int) (fun _ => []) k T { w with heap := w.heap.take g } B (by rw [e]; exact hB)
  rw [e] at h
  refine OwnsR.atB h (fun b hb => ?_)
  injection hb with hb
  subst hb
  rw [hg]
  have h2 := heap_alloc_new { w with heap := w.heap.take g } (.cells #[] T)
  rw [e] at h2
  exact h2.symm
theorem step_copy {P : Program} {ops : Array Oper} {o : Oper} {a : Act} {w : World} {K : Act → World → Prop} {Q : Exit → Act → World → Prop} {E : Prop} (hgd : o.guard = none) (s x : Operand) (t : TypeId)
    (ho : o.op = .call { callee := .builtin .append, args := #[s, x], argTypes := #[t, t] }) {α : Type} (f : α → List Value) (L : List α)
    (e : TypeId) (i : TypeInfo) (z : Value) (size bytes : Nat) (ht : P.underlying t = some (.slice e)) (hi : P.info? e = some i) (hz : i.zero = some z)
    (hsize : i.size = size) (hby : i.bytes = bytes) (hzs : z.cells.size = size) (hsz : 0 < size) (base : Nat) (A : Option Addr) (c : Nat)
    (hl : (L.flatMap f).length = L.length * size) (h1 : ∀ u ∈ L.flatMap f, u.oneCell' = true) (h63 : L.length ≤ maxLen) (hbytes : L.length * bytes ≤ 140737488355328)
    (hx : a.eval x = .slice A L.length c) (hnews : NewsAt w A L.length (L.flatMap f)) (g : Nat) (hs : a.eval s = .slice (some ⟨g, 0, none⟩) 0 0) (hg : w.heap[g]? = some (.cells #[] e)) (hB : base ≤ g)
    (h : ∀ A' c' w', w'.ownsRow base e size (.slice A' L.length c') L.length (L.flatMap f) → ChgL [g] w w' → ((Value.slice A' L.length c').ownBlock = some g ∨ (Value.slice A' L.length c').ownBlock = some w.heap.size) →
      K (a.put o.dst (.slice A' L.length c')) w') :
    if Region.wanted o (yielded ops a.tmps) = true then Oper.wp P o a w K Q else E := by
  have hlt : g < w.heap.size := (Array.getElem?_eq_some_iff.1 hg).1
  refine step_append_all hgd s x t ho base e i z size bytes ht hi hz hsize hby hzs hsz (.slice (some ⟨g, 0, none⟩) 0 0) 0 [] hs (row0 hg hB) A L.length c (L.flatMap f) hx hl hnews h1 (by omega) (by rw [Nat.zero_add]; exact hbytes) (by omega) ?_
  intro A' c' w' hown hgrow hkeep hat
  rw [Nat.zero_add, List.nil_append] at hown
  rw [Nat.zero_add] at hat ⊢
  refine h A' c' w' hown ⟨hgrow.os, hgrow.tape, hgrow.output, hgrow.size, fun b hb hn => hgrow.block b hb (fun e => hn ?_)⟩ hat
  have e' : some b = some g := e
  injection e' with e'
  simp [e']
theorem gr_lower {α ρ : Type} {f : ρ → List Value} {k T : Nat} {P : Ow α} {B B' : Nat} {bs : List Nat} {w : World} {v : Value} {rows : List ρ} {L : List α} (h : GrR f k T P B bs w v rows L) (hB : B' ≤ B) : GrR f k T P B' bs w v rows L := by
  refine ⟨?_, h.len, h.bf, h.nd, fun b hb => Nat.le_trans hB (h.low b hb)⟩
  obtain ⟨h1, h2⟩ := h.own
  refine ⟨h1, ?_⟩
  rcases h2 with h2 | ⟨g, cap, cur, e1, e2, e3⟩
  · exact .inl h2
  · exact .inr ⟨g, cap, cur, e1, Nat.le_trans hB e2, e3⟩
theorem below_chgL {bs : List Nat} {N : Nat} {a w1 w2 : World} (hb : Below N a w1) (h : ChgL bs w1 w2) (hN : ∀ b ∈ bs, N ≤ b) (hs : N ≤ w1.heap.size) : Below N a w2 :=
  ⟨h.os.trans hb.os, h.tape.trans hb.tape, h.output.trans hb.output, Nat.le_trans hb.size h.size, fun k hk => (h.block k (Nat.lt_of_lt_of_le hk hs) (fun hm => by have := hN k hm; omega)).trans (hb.block k hk)⟩
theorem infoA1 : (Try.prog.info? 53).map (fun i => (i.zero, i.size, i.bytes)) = some (some (.agg #[.int .i64 0, .int .i64 0]), 2, 16) := by kernel_rfl
theorem fAnd_one (L : List DAnd) : ∀ u ∈ L.flatMap fAnd, u.oneCell' = true := fun u hu => by
  obtain ⟨c, _, hc⟩ := List.mem_flatMap.1 hu
  simp only [fAnd, List.mem_cons, List.not_mem_nil, or_false] at hc
  rcases hc with rfl | rfl <;> rfl
theorem usAnd (B T : Nat) (w : World) (us : List Value) (x : DAnd) (h : rdAnd B T w us x) : us = fAnd x := by
  obtain ⟨u0, u1, rfl, h0, h1⟩ := h
  obtain ⟨e0, _⟩ := h0
  obtain ⟨e1, _⟩ := h1
  injection e0 with e0
  injection e1 with e1
  subst e0 e1
  rfl
theorem ands_fit {B T : Nat} {w : World} {v : Value} {L : List DAnd} (h : rdAndS B T w [v] L) : ∀ x ∈ L, Fit x.1 ∧ Fit x.2 := fun x hx => by
  obtain ⟨A, c, e, hm, hA⟩ := h
  obtain ⟨j, hj, rfl⟩ := List.getElem_of_mem hx
  obtain ⟨b, o, _, _, _, us, _, _, hr⟩ := hA j hj
  obtain ⟨v0, v1, rfl, g0, g1⟩ := hr
  exact ⟨g0.2, g1.2⟩
/-- A net of one's own: its slices grow, and share no block. -/
structure NetG (B : Nat) (w : World) (v1 vA v3 : Value) (rows : List V3) (bs : List Nat) (n : DNet) : Prop where
  s : GrR fV3 3 TSeq owSeq B bs w v1 rows n.2.1
  a : GrR fAnd 2 TAnd owAnd B [] w vA n.2.2.1 n.2.2.1
  o : GrR fInt 1 TInt1 owInt B [] w v3 n.2.2.2 n.2.2.2
  sa : ∀ b ∈ blkL v1 ++ bs, b ∉ blkL vA
  so : ∀ b ∈ blkL v1 ++ bs, b ∉ blkL v3
  ao : ∀ b ∈ blkL vA, b ∉ blkL v3
  fit : Fit n.1
theorem gr_flat {α : Type} {f : α → List Value} {k T : Nat} {P : Ow α} {B : Nat} {w : World} {v : Value} {L : List α} (h : OwnsR f k T w B v L) (hP : ∀ x ∈ L, P [] w (f x) x) : GrR f k T P B [] w v L L :=
  ⟨h, rfl, ⟨fun _ => [], by simp, fun j hj hj' => hP _ (List.getElem_mem hj)⟩, by rw [List.append_nil]; exact blkL_nodup v, fun b hb => by cases hb⟩
theorem net_fit {B T : Nat} {w : World} {us : List Value} {n : DNet} (h : rdNet B T w us n) : Fit n.1 ∧ (∀ x ∈ n.2.2.1, Fit x.1 ∧ Fit x.2) ∧ (∀ x ∈ n.2.2.2, Fit x) := by
  obtain ⟨_, _, _, _, _, ho0, ho1, ho2, ho3⟩ := h
  exact ⟨ho0.2, ands_fit ho2, rd_fit ho3⟩
theorem far4 {w : World} {F g : Nat} {a b c d : Value} (hn : g ≠ F) : ((((w.setCell ⟨F, 0, none⟩ a).setCell ⟨F, 1, none⟩ b).setCell ⟨F, 2, none⟩ c).setCell ⟨F, 3, none⟩ d).heap[g]? = w.heap[g]? := by
  rw [heap_setCell_other _ ⟨F, 3, none⟩ g _ hn, heap_setCell_other _ ⟨F, 2, none⟩ g _ hn, heap_setCell_other _ ⟨F, 1, none⟩ g _ hn, heap_setCell_other _ ⟨F, 0, none⟩ g _ hn]
theorem netG_fin {B0 B F : Nat} {w : World} {v1 vA v3 a b c d : Value} {rows : List V3} {bs : List Nat} {n : DNet} (hs : GrR fV3 3 TSeq owSeq B bs w v1 rows n.2.1) (ha : OwnsR fAnd 2 TAnd w B vA n.2.2.1) (ho : OwnsR fInt 1 TInt1 w B v3 n.2.2.2) (fa : ∀ x ∈ n.2.2.1, Fit x.1 ∧ Fit x.2) (fo : ∀ x ∈ n.2.2.2, Fit x) (f0 : Fit n.1) (hF : F < B) (hB : B0 ≤ B)
    (sa : ∀ b ∈ blkL v1 ++ bs, b ∉ blkL vA) (so : ∀ b ∈ blkL v1 ++ bs, b ∉ blkL v3) (ao : ∀ b ∈ blkL vA, b ∉ blkL v3) : NetG B0 ((((w.setCell ⟨F, 0, none⟩ a).setCell ⟨F, 1, none⟩ b).setCell ⟨F, 2, none⟩ c).setCell ⟨F, 3, none⟩ d) v1 vA v3 rows bs n := by
  refine ⟨gr_lower (hs.at gow_Seq fun g hg => far4 (by have := (hs.lt gow_Seq hg).2; omega)) hB,
    gr_lower (gr_flat (OwnsR.atB ha fun g e => far4 (by have := (OwnsR.blk_lt ha e).2; omega)) fun x hx => owAnd_of (fa x hx).1 (fa x hx).2 _) hB,
    gr_lower (gr_flat (OwnsR.atB ho fun g e => far4 (by have := (OwnsR.blk_lt ho e).2; omega)) fun x hx => ⟨rfl, rfl, fo x hx⟩) hB, sa, so, ao, f0⟩
end Go.Proofs.Ytiejilmgchmppaa
/- Hc2: Copies of nets: the specification. -/
namespace Go.Proofs.Ytiejilmgchmppaa
open Go.RowKit
set_option linter.unusedVariables false
set_option linter.unusedSimpArgs false

end Go.Proofs.Ytiejilmgchmppaa
/- HcB: A copy of a net under construction; the answers of AddAnd. -/
namespace Go.Proofs.Ytiejilmgchmppaa
open Go.RowKit
set_option linter.unusedVariables false
set_option linter.unusedSimpArgs false

theorem xor_one (a : Nat) : a ^^^ 1 = if a % 2 = 0 then a + 1 else a - 1 := by
  have h1 : (a ^^^ 1) / 2 = a / 2 := by rw [Nat.xor_div_two]; simp
  have h2 := @Nat.xor_mod_two_eq_one a 1
  by_cases h3 : a % 2 = 0
  · rw [if_pos h3]
    have h4 : (a ^^^ 1) % 2 = 1 := h2.2 (by omega)
    omega
  · rw [if_neg h3]
    have h4 : ¬ (a ^^^ 1) % 2 = 1 := fun c => (h2.1 c) (by omega)
    omega
theorem not_bits (a : Nat) (ha : a < 9223372036854775808) : bits .xor .i64 (a : Int) 1 = notI (a : Int) := by
  have h := i64_xor a 1 ha (by omega)
  rw [xor_one] at h
  unfold notI
  rw [if_neg (by omega)]
  refine h.trans ?_
  by_cases h2 : a % 2 = 0
  · rw [if_pos h2, if_pos (by omega)]; omega
  · rw [if_neg h2, if_neg (by omega)]; omega
section
variable {n : DNet} {a b : Int}
theorem andA_bad (h : ¬ (netB n = true ∧ litB (ncI n) a = true ∧ litB (ncI n) b = true)) : andO n a b = (n, -1) := if_pos h
theorem andO_zero (h : netB n = true ∧ litB (ncI n) a = true ∧ litB (ncI n) b = true) (h1 : a = 0 ∨ b = 0 ∨ a = notI b) : andO n a b = (n, 0) := by
  unfold andO; rw [if_neg (fun c => c h), if_pos h1]
theorem andO_right (h : netB n = true ∧ litB (ncI n) a = true ∧ litB (ncI n) b = true) (h1 : ¬ (a = 0 ∨ b = 0 ∨ a = notI b)) (h2 : a = 1 ∨ a = b) : andO n a b = (n, b) := by
  unfold andO; rw [if_neg (fun c => c h), if_neg h1, if_pos h2]
theorem andO_left (h : netB n = true ∧ litB (ncI n) a = true ∧ litB (ncI n) b = true) (h1 : ¬ (a = 0 ∨ b = 0 ∨ a = notI b)) (h2 : ¬ (a = 1 ∨ a = b)) (h3 : b = 1) : andO n a b = (n, a) := by
  unfold andO; rw [if_neg (fun c => c h), if_neg h1, if_neg h2, if_pos h3]
theorem andO_find (h : netB n = true ∧ litB (ncI n) a = true ∧ litB (ncI n) b = true) (h1 : ¬ (a = 0 ∨ b = 0 ∨ a = notI b)) (h2 : ¬ (a = 1 ∨ a = b)) (h3 : b ≠ 1) {i : Nat} (h4 : idxG (min a b, max a b) n.2.2.1 0 = some i) : andO n a b = (n, 2 * ((firN n + i : Nat) : Int)) := by
  unfold andO; rw [if_neg (fun c => c h), if_neg h1, if_neg h2, if_neg h3, h4]
theorem andO_full (h : netB n = true ∧ litB (ncI n) a = true ∧ litB (ncI n) b = true) (h1 : ¬ (a = 0 ∨ b = 0 ∨ a = notI b)) (h2 : ¬ (a = 1 ∨ a = b)) (h3 : b ≠ 1) (h4 : idxG (min a b, max a b) n.2.2.1 0 = none) (h5 : n.2.2.1.length = 300) : andO n a b = (n, -1) := by
  unfold andO; rw [if_neg (fun c => c h), if_neg h1, if_neg h2, if_neg h3, h4]; dsimp only; rw [if_pos h5]
theorem andO_add (h : netB n = true ∧ litB (ncI n) a = true ∧ litB (ncI n) b = true) (h1 : ¬ (a = 0 ∨ b = 0 ∨ a = notI b)) (h2 : ¬ (a = 1 ∨ a = b)) (h3 : b ≠ 1) (h4 : idxG (min a b, max a b) n.2.2.1 0 = none) (h5 : n.2.2.1.length ≠ 300) : andO n a b = (addN n (min a b, max a b), 2 * (netN n : Int)) := by
  unfold andO; rw [if_neg (fun c => c h), if_neg h1, if_neg h2, if_neg h3, h4]; dsimp only; rw [if_neg h5]
end
theorem BoxN.set0 {w : World} {F : Nat} {v0 v1 v2 v3 : Value} (h : BoxN w F v0 v1 v2 v3) (u : Value) : BoxN (w.setCell ⟨F, 0, none⟩ u) F u v1 v2 v3 := by
  have hlt := h.lt
  have e := h.val
  unfold BoxN
  simp [World.setCell, hlt, Array.getElem_modify_self, e]
section
variable {B : Nat} {w w' : World} {v1 vA v3 : Value} {rows : List V3} {bs : List Nat} {n : DNet}
theorem NetG.at (h : NetG B w v1 vA v3 rows bs n) (hk : ∀ b, b < w.heap.size → B ≤ b → b ∈ blkL v1 ++ (bs ++ (blkL vA ++ blkL v3)) → w'.heap[b]? = w.heap[b]?) : NetG B w' v1 vA v3 rows bs n := by
  refine ⟨h.s.at gow_Seq fun b hb => ?_, h.a.at gow_And fun b hb => ?_, h.o.at owInt_good fun b hb => ?_, h.sa, h.so, h.ao, h.fit⟩
  · exact hk b (h.s.lt gow_Seq hb).1 (h.s.lt gow_Seq hb).2 (by rcases List.mem_append.1 hb with hb | hb <;> simp [hb])
  · exact hk b (h.a.lt gow_And hb).1 (h.a.lt gow_And hb).2 (by simp only [List.append_nil] at hb; simp [hb])
  · exact hk b (h.o.lt owInt_good hb).1 (h.o.lt owInt_good hb).2 (by simp only [List.append_nil] at hb; simp [hb])
theorem NetG.lt (h : NetG B w v1 vA v3 rows bs n) {b : Nat} (hb : b ∈ blkL v1 ++ (bs ++ (blkL vA ++ blkL v3))) : b < w.heap.size ∧ B ≤ b := by
  rcases List.mem_append.1 hb with hb | hb
  · exact h.s.lt gow_Seq (List.mem_append.2 (.inl hb))
  rcases List.mem_append.1 hb with hb | hb
  · exact h.s.lt gow_Seq (List.mem_append.2 (.inr hb))
  rcases List.mem_append.1 hb with hb | hb
  · exact h.a.lt gow_And (List.mem_append.2 (.inl hb))
  · exact h.o.lt owInt_good (List.mem_append.2 (.inl hb))
theorem NetG.lower {B' : Nat} (h : NetG B w v1 vA v3 rows bs n) (hB : B' ≤ B) : NetG B' w v1 vA v3 rows bs n :=
  ⟨gr_lower h.s hB, gr_lower h.a hB, gr_lower h.o hB, h.sa, h.so, h.ao, h.fit⟩
theorem NetG.below (h : NetG B w v1 vA v3 rows bs n) (hb : Below w.heap.size w w') : NetG B w' v1 vA v3 rows bs n := h.at fun b h1 _ _ => hb.block b h1
end
/-- A copy in block G; the result's block F. -/
structure CopyAt (w0 w : World) (F G : Nat) (v1 vA v3 : Value) (rows : List V3) (bs : List Nat) (n : DNet) : Prop where
  box : BoxN w G (.int .i64 n.1) v1 vA v3
  res : BoxN w F (.int .i64 0) vNil vNil vNil
  net : NetG (w0.heap.size + 2) w v1 vA v3 rows bs n
  off : ∀ b ∈ blkL v1 ++ (bs ++ (blkL vA ++ blkL v3)), b ≠ G
  chg : Below w0.heap.size w0 w
  hF : w0.heap.size ≤ F
  hF2 : F < w0.heap.size + 2
  hG : w0.heap.size + 2 ≤ G
section
variable {w0 w w' : World} {F G : Nat} {v1 vA v3 : Value} {rows : List V3} {bs : List Nat} {n : DNet}
theorem CopyAt.below (h : CopyAt w0 w F G v1 vA v3 rows bs n) (hb : Below w.heap.size w w') : CopyAt w0 w' F G v1 vA v3 rows bs n :=
  ⟨h.box.at (hb.block G h.box.lt), h.res.at (hb.block F h.res.lt), h.net.below hb, h.off, bThen h.chg hb, h.hF, h.hF2, h.hG⟩
theorem CopyAt.done (h : CopyAt w0 w F G v1 vA v3 rows bs n) (a b c d : Value) : NetG w0.heap.size ((((w.setCell ⟨F, 0, none⟩ a).setCell ⟨F, 1, none⟩ b).setCell ⟨F, 2, none⟩ c).setCell ⟨F, 3, none⟩ d) v1 vA v3 rows bs n ∧ Below w0.heap.size w0 ((((w.setCell ⟨F, 0, none⟩ a).setCell ⟨F, 1, none⟩ b).setCell ⟨F, 2, none⟩ c).setCell ⟨F, 3, none⟩ d) := by
  have hF := h.hF2
  refine ⟨(h.net.at fun g h1 h2 h3 => far4 (by omega)).lower (by omega), bSet (bSet (bSet (bSet h.chg h.hF _) h.hF _) h.hF _) h.hF _⟩
theorem CopyAt.init {wb : World} (hw : wb = w.alloc (.cells #[.int .i64 n.1, v1, vA, v3] 28)) (hr : BoxN w F (.int .i64 0) vNil vNil vNil) (hn : NetG (w0.heap.size + 2) w v1 vA v3 rows bs n) (hb : Below w0.heap.size w0 w) (hF : w0.heap.size ≤ F) (hF2 : F < w0.heap.size + 2) (hG : w0.heap.size + 2 ≤ w.heap.size) :
    CopyAt w0 wb F w.heap.size v1 vA v3 rows bs n := by
  have h0 : BoxN wb w.heap.size (.int .i64 n.1) v1 vA v3 := by rw [hw]; exact heap_alloc_new _ _
  have hb2 : Below w.heap.size w wb := by rw [hw]; exact bAlloc (Below.refl _ _) (Nat.le_refl _) _
  refine ⟨h0, hr.at (hb2.block F hr.lt), hn.below hb2, fun b hb => ?_, bThen hb hb2, hF, hF2, hG⟩
  have := (hn.lt hb).1
  omega
theorem CopyAt.add {w6 : World} {k : Nat} {vA' : Value} {x : DAnd} (h : CopyAt w0 w F G v1 vA v3 rows bs n) (hown : w6.ownsRow (w0.heap.size + 2) TAnd 2 vA' k (n.2.2.1.flatMap fAnd ++ fAnd x)) (hn : k = n.2.2.1.length + 1) (hgrow : w.grownBy w6 vA.ownBlock) (hat : vA'.ownBlock = vA.ownBlock ∨ vA'.ownBlock = some w.heap.size) (hx : Fit x.1 ∧ Fit x.2) (hsz : w0.heap.size + 2 ≤ w.heap.size) :
    CopyAt w0 (w6.setCell ⟨G, 2, none⟩ vA') F G v1 vA' v3 rows bs (addN n x) := by
  have hGlt := h.box.lt
  have hFlt := h.res.lt
  have hF2 := h.hF2
  have hGg := h.hG
  have hown0 : ∀ g, vA.ownBlock = some g → w0.heap.size + 2 ≤ g ∧ g ≠ G ∧ g ≠ F := fun g e => by
    have h1 := (h.net.a.own.blk_lt e).2
    exact ⟨h1, h.off g (by simp [mem_blkL.2 e]), by omega⟩
  have hnew : ∀ g, g ∈ blkL vA' → g ∈ blkL vA ∨ g = w.heap.size := fun g hg => by
    have e := mem_blkL.1 hg
    rcases hat with h1 | h1
    · exact .inl (mem_blkL.2 (h1 ▸ e))
    · rw [h1] at e; injection e with e; exact .inr e.symm
  have hG' : G ∉ blkL vA' := fun hb => by
    rcases hnew G hb with h1 | h1
    · exact h.off G (by simp [h1]) rfl
    · omega
  have a1 := h.net.a.addV (n := k) (r := x) (x := x) (cs := []) gow_And (Below.refl _ _) hgrow hown hn hat (owAnd_of hx.1 hx.2 _) (by simpa using h.net.a.nd) (fun b hb => by cases hb)
  have s1 := h.net.s.keepG gow_Seq hgrow (fun g e hb => h.net.sa g hb (mem_blkL.2 e))
  have o1 := h.net.o.keepG owInt_good hgrow (fun g e hb => h.net.ao g (mem_blkL.2 e) (by simpa using hb))
  refine ⟨?_, ?_, ⟨s1.far gow_Seq (fun hb => h.off G (by rcases List.mem_append.1 hb with hb | hb <;> simp [hb]) rfl), ?_, o1.far owInt_good (fun hb => h.off G (by simp only [List.append_nil] at hb; simp [hb]) rfl), fun b hb hm => ?_, h.net.so, fun b hb => ?_, h.net.fit⟩, fun b hb => ?_, ?_, h.hF, h.hF2, h.hG⟩
  · exact (h.box.at (hgrow.block G hGlt (fun e => (hown0 G e.symm).2.1 rfl))).set2 vA'
  · exact h.res.at ((Below.heap_setCell w6 _ _ F (by show F ≠ G; omega)).trans (hgrow.block F hFlt (fun e => (hown0 F e.symm).2.2 rfl)))
  · exact (GrR.far gow_And a1 (by simpa using hG'))
  · rcases hnew b hm with h1 | h1
    · exact h.net.sa b hb h1
    · have := (h.net.s.lt gow_Seq hb).1; omega
  · rcases hnew b hb with h1 | h1
    · exact h.net.ao b h1
    · intro hm; have := (h.net.o.lt owInt_good (by simpa using hm)).1; omega
  · by_cases hb2 : b ∈ blkL vA'
    · exact fun e => hG' (e ▸ hb2)
    · refine h.off b ?_
      simp only [List.mem_append] at hb ⊢
      rcases hb with h1 | h1 | h1 | h1
      · exact .inl h1
      · exact .inr (.inl h1)
      · exact absurd h1 hb2
      · exact .inr (.inr (.inr h1))
  · exact bSet (h.chg.grown hgrow (by omega) (fun g e => by have := (hown0 g e).1; omega)) (by show w0.heap.size ≤ G; omega) _
end
end Go.Proofs.Ytiejilmgchmppaa
/- Hc8: l10Map: the specification. -/
namespace Go.Proofs.Ytiejilmgchmppaa
open Go.RowKit
set_option linter.unusedVariables false
set_option linter.unusedSimpArgs false

theorem map_bits {t p : Nat} {to : List Int} (h : to[p / 2]? = some (t : Int)) (ht : t < 9223372036854775808) : bits .xor .i64 (t : Int) ((p : Int) % 2) = mapI to (p : Int) := by
  have hd : to.getD (p / 2) 0 = (t : Int) := by rw [List.getD_eq_getElem?_getD, h]; rfl
  unfold mapI
  rw [Int.toNat_natCast, hd]
  by_cases hp : p % 2 = 0
  · rw [if_pos (by omega), show (p : Int) % 2 = ((0 : Nat) : Int) by omega, i64_xor t 0 ht (by omega)]; simp
  · rw [if_neg (by omega), show (p : Int) % 2 = (1 : Int) by omega, not_bits t ht]
end Go.Proofs.Ytiejilmgchmppaa
