/-
  The drawing of a net: the state of the net under construction as one structure; how an element is added.
-/
import Derived.Test.YtaebiiopommhdaaDrN
namespace Go.Proofs.Ytaebiiopommhdaa
open Go.RowKit
set_option linter.unusedVariables false
set_option linter.unusedSimpArgs false

/-- None of a growing slice's blocks is among Z. -/
def Off (Z : List Nat) (v : Value) (bs : List Nat) : Prop := ∀ b ∈ blkL v ++ bs, b ∉ Z
theorem off_nil (Z : List Nat) : Off Z (.slice none 0 0) [] := fun b hb => by simp [blkL_nil] at hb
theorem Off.own {Z : List Nat} {v : Value} {bs : List Nat} (h : Off Z v bs) {g : Nat} (e : v.ownBlock = some g) : g ∉ Z := h g (List.mem_append.2 (.inl (mem_blkL.2 e)))
theorem Off.not {Z : List Nat} {v : Value} {bs : List Nat} (h : Off Z v bs) {z : Nat} (hz : z ∈ Z) : z ∉ blkL v ++ bs := fun hb => h z hb hz
theorem Off.grow {Z : List Nat} {v v' : Value} {bs cs : List Nat} {n : Nat} (h : Off Z v bs) (hat : v'.ownBlock = v.ownBlock ∨ v'.ownBlock = some n) (hz : ∀ z ∈ Z, z < n) (hc : ∀ c ∈ cs, c ∉ Z) : Off Z v' (bs ++ cs) := fun b hb hbz => by
  rcases List.mem_append.1 hb with hb | hb
  · rcases hat with e | e
    · exact h.own (by rw [← e]; exact mem_blkL.1 hb) hbz
    · have e1 := mem_blkL.1 hb
      rw [e] at e1
      injection e1 with e1
      have := hz b hbz
      omega
  · rcases List.mem_append.1 hb with hb | hb
    · exact h b (List.mem_append.2 (.inr hb)) hbz
    · exact hc b hb hbz
theorem nodup_add {a bs cs : List Nat} (h : (a ++ bs).Nodup) (hc : cs.Nodup) (hn : ∀ c ∈ cs, c ∉ a ++ bs) : (a ++ (bs ++ cs)).Nodup := by
  rw [← List.append_assoc]
  exact List.nodup_append.2 ⟨h, hc, fun x hx y hy e => hn y hy (e ▸ hx)⟩
theorem ramOk {N T I P Q R Z : Nat} (hT : T = 2 * N) (hI : I < 32) (hP : P < T) (hQ : Q < T) (hR : R < T) (hZ : Z < T) : seqB (1, (I : Int), [(P : Int), (Q : Int), (R : Int), (Z : Int)]) = true ∧ LitsOk N [(P : Int), (Q : Int), (R : Int), (Z : Int)] := by
  refine ⟨decide_eq_true (Or.inr ⟨rfl, by dsimp only; omega, by dsimp only; omega, rfl⟩), fun r hr => ?_⟩
  simp only [List.mem_cons, List.not_mem_nil, or_false] at hr
  rcases hr with rfl | rfl | rfl | rfl <;> exact ⟨_, rfl, by omega⟩
theorem flopOk {N T I X : Nat} (hT : T = 2 * N) (hI : I < 2) (hX : X < T) : seqB (0, (I : Int), [(X : Int)]) = true ∧ LitsOk N [(X : Int)] := by
  refine ⟨decide_eq_true (Or.inl ⟨rfl, by dsimp only; omega, by dsimp only; omega, rfl⟩), fun r hr => ?_⟩
  simp only [List.mem_cons, List.not_mem_nil, or_false] at hr
  subst hr
  exact ⟨_, rfl, by omega⟩
theorem owSeq_of {g : Nat} {w : World} {y I : Int} {L : List Int} {t : TypeId} (hk : Fit y) (hI : Fit I) (h : w.heap[g]? = some (.cells (L.flatMap fun x => [Value.int .i64 x]).toArray t (0, 0))) (hm : L.length ≤ 1000) (hf : ∀ x ∈ L, Few x) :
    owSeq [g] w (fV3 (.int .i64 y, .int .i64 I, .slice (some ⟨g, 0, none⟩) L.length L.length)) (y, I, L) :=
  ⟨[], [], [g], _, _, _, rfl, rfl, ⟨rfl, rfl, hk⟩, ⟨rfl, rfl, hI⟩, own_flat1 L h hm (Nat.le_refl _) hf⟩

abbrev TAnd : Nat := 78
abbrev TSeq : Nat := 67
abbrev TInt1 : Nat := 3
abbrev vNil : Value := .slice none 0 0
structure NetSt (w0 w : World) (E F G nn : Nat) (I : Int) (v1 vA v3 : Value) (rows : List V3) (S : List DSeq) (bs : List Nat) (D : List DAnd) (R : List Int) : Prop where
  dr : DrNet w0 w E F G nn (.int .i64 I) v1 vA v3
  a : GrR fAnd 2 TAnd owAnd w0.heap.size [] w vA D D
  s : GrR fV3 3 TSeq owSeq w0.heap.size bs w v1 rows S
  o : GrR fInt 1 TInt1 owInt w0.heap.size [] w v3 R R
  oA : Off [E, F] vA []
  oS : Off (E :: F :: blkL vA) v1 bs
  oO : Off (E :: F :: (blkL vA ++ (blkL v1 ++ bs))) v3 []
section
variable {w0 w w' : World} {E F G nn : Nat} {I : Int} {v1 vA v3 : Value} {rows : List V3} {S : List DSeq} {bs : List Nat} {D : List DAnd} {R : List Int}
theorem NetSt.call (h : NetSt w0 w E F G nn I v1 vA v3 rows S bs D R) (hc : Cur TCur w' G nn) (hch : Chg G w w') : NetSt w0 w' E F G nn I v1 vA v3 rows S bs D R :=
  ⟨h.dr.call hc hch, h.a.chg gow_And hch h.dr.hG, h.s.chg gow_Seq hch h.dr.hG, h.o.chg owInt_good hch h.dr.hG, h.oA, h.oS, h.oO⟩
theorem NetSt.ltA (h : NetSt w0 w E F G nn I v1 vA v3 rows S bs D R) {z : Nat} (hz : z ∈ E :: F :: blkL vA) : z < w.heap.size := by
  simp only [List.mem_cons] at hz
  rcases hz with rfl | rfl | hz
  · exact h.dr.res.lt
  · exact h.dr.box.lt
  · exact (h.a.lt gow_And (List.mem_append.2 (.inl hz))).1
theorem NetSt.ltS (h : NetSt w0 w E F G nn I v1 vA v3 rows S bs D R) {z : Nat} (hz : z ∈ E :: F :: (blkL vA ++ (blkL v1 ++ bs))) : z < w.heap.size := by
  simp only [List.mem_cons] at hz
  rcases hz with rfl | rfl | hz
  · exact h.dr.res.lt
  · exact h.dr.box.lt
  · rcases List.mem_append.1 hz with hz | hz
    · exact (h.a.lt gow_And (List.mem_append.2 (.inl hz))).1
    · exact (h.s.lt gow_Seq hz).1
theorem NetSt.fresh (h : NetSt w0 w E F G nn I v1 vA v3 rows S bs D R) {c : Nat} (hc : w.heap.size ≤ c) : c ∉ blkL v1 ++ bs ∧ c ∉ E :: F :: blkL vA ∧ w0.heap.size ≤ c :=
  ⟨fun hb => by have := (h.s.lt gow_Seq hb).1; omega, fun hb => by have := h.ltA hb; omega, by have := h.dr.chg.size; omega⟩
theorem NetSt.addS {w6 : World} {n : Nat} {v1' : Value} {r : V3} {x : DSeq} {cs : List Nat} (h : NetSt w0 w E F G nn I v1 vA vNil rows S bs D [])
    (hown : w6.ownsRow w0.heap.size TSeq 3 v1' n (rows.flatMap fV3 ++ fV3 r)) (hn : n = rows.length + 1) (hgrow : w.grownBy w6 v1.ownBlock) (hat : v1'.ownBlock = v1.ownBlock ∨ v1'.ownBlock = some w.heap.size)
    (hx : owSeq cs w (fV3 r) x) (hcn : cs.Nodup) (hc : ∀ c ∈ cs, c ∉ blkL v1 ++ bs ∧ c ∉ E :: F :: blkL vA ∧ w0.heap.size ≤ c) :
    NetSt w0 (w6.setCell ⟨F, 1, none⟩ v1') E F G nn I v1' vA vNil (rows ++ [r]) (S ++ [x]) (bs ++ cs) D [] := by
  have hr : ∀ g, v1.ownBlock = some g → w0.heap.size ≤ g ∧ g ≠ F ∧ g ≠ E := fun g e => by
    have := h.oS.own e
    simp only [List.mem_cons, not_or] at this
    exact ⟨(h.s.own.blk_lt e).2, this.2.1, this.1⟩
  have hd := h.dr.grown hgrow hr
  have oS' : Off (E :: F :: blkL vA) v1' (bs ++ cs) := h.oS.grow hat (fun z hz => h.ltA hz) (fun c hcc => (hc c hcc).2.1)
  have F1 : F ∉ blkL v1' ++ (bs ++ cs) := oS'.not (by simp)
  have F2 : F ∉ blkL vA ++ [] := h.oA.not (by simp)
  have ha : GrR fAnd 2 TAnd owAnd w0.heap.size [] w6 vA D D := h.a.keepG gow_And hgrow (fun g e hb => h.oS.own e (by simp only [List.append_nil] at hb; simp [hb]))
  have hs : GrR fV3 3 TSeq owSeq w0.heap.size (bs ++ cs) w6 v1' (rows ++ [r]) (S ++ [x]) := h.s.addV (n := n) gow_Seq (Below.refl _ _) hgrow hown hn hat hx (nodup_add h.s.nd hcn fun c hcc => (hc c hcc).1) (fun c hcc => (hc c hcc).2.2)
  exact ⟨hd.stored (hd.box.set1 v1'), ha.far gow_And F2, hs.far gow_Seq F1, GrR.nil _ _ _ _ _ _, h.oA, oS', off_nil _⟩
theorem NetSt.addO {w6 : World} {n : Nat} {v3' : Value} {x : Int} (h : NetSt w0 w E F G nn I v1 vA v3 rows S bs D R)
    (hown : w6.ownsRow w0.heap.size TInt1 1 v3' n (R.flatMap fInt ++ fInt x)) (hn : n = R.length + 1) (hgrow : w.grownBy w6 v3.ownBlock) (hat : v3'.ownBlock = v3.ownBlock ∨ v3'.ownBlock = some w.heap.size) (hx : Fit x) :
    NetSt w0 (w6.setCell ⟨F, 3, none⟩ v3') E F G nn I v1 vA v3' rows S bs D (R ++ [x]) := by
  have hr : ∀ g, v3.ownBlock = some g → w0.heap.size ≤ g ∧ g ≠ F ∧ g ≠ E := fun g e => by
    have := h.oO.own e
    simp only [List.mem_cons, not_or] at this
    exact ⟨(h.o.own.blk_lt e).2, this.2.1, this.1⟩
  have hd := h.dr.grown hgrow hr
  have oO' : Off (E :: F :: (blkL vA ++ (blkL v1 ++ bs))) v3' ([] ++ []) := h.oO.grow hat (fun z hz => h.ltS hz) (fun c hcc => by cases hcc)
  have F1 : F ∉ blkL v1 ++ bs := h.oS.not (by simp)
  have F2 : F ∉ blkL vA ++ [] := h.oA.not (by simp)
  have F3 : F ∉ blkL v3' ++ [] := oO'.not (by simp)
  have ha : GrR fAnd 2 TAnd owAnd w0.heap.size [] w6 vA D D := h.a.keepG gow_And hgrow (fun g e hb => h.oO.own e (by simp only [List.append_nil] at hb; simp [hb]))
  have hs : GrR fV3 3 TSeq owSeq w0.heap.size bs w6 v1 rows S := h.s.keepG gow_Seq hgrow (fun g e hb => h.oO.own e (by rcases List.mem_append.1 hb with hb | hb <;> simp [hb]))
  have ho : GrR fInt 1 TInt1 owInt w0.heap.size ([] ++ []) w6 v3' (R ++ [x]) (R ++ [x]) := h.o.addV (n := n) owInt_good (Below.refl _ _) hgrow hown hn hat (owInt_of' hx _) (by simpa using h.o.nd) (fun c hcc => by cases hcc)
  exact ⟨hd.stored (hd.box.set3 v3'), ha.far gow_And F2, hs.far gow_Seq F1, ho.far owInt_good F3, h.oA, h.oS, oO'⟩
/-- A drawn net: valid, and read from what has been made since. -/
def DrewNet (w : World) (G nn : Nat) (e : Ending) (w' : World) : Prop := ∃ (us : List Value) (n : DNet), e = .returned (.agg us.toArray) ∧ rdNet w.heap.size w'.heap.size w' us n ∧ netB n = true ∧ Cur TCur w' G nn ∧ Chg G w w'
/-- The result's block has been written behind a drawn net. -/
structure EndSt (w0 w w' : World) (E G nn : Nat) : Prop where
  cur : Cur TCur w' G nn
  chg : Chg G w0 w'
  same : ∀ b, b ≠ E → w'.heap[b]? = w.heap[b]?
  size : w'.heap.size = w.heap.size
  hG : G < w0.heap.size
  hE : w0.heap.size ≤ E
theorem EndSt.of (h : NetSt w0 w E F G nn I v1 vA v3 rows S bs D R) : EndSt w0 w w E G nn := ⟨h.dr.cur, h.dr.chg, fun _ _ => rfl, rfl, h.dr.hG, h.dr.hE⟩
theorem EndSt.set {i : Nat} {u : Value} (h : EndSt w0 w w' E G nn) : EndSt w0 w (w'.setCell ⟨E, i, none⟩ u) E G nn := by
  have hE := h.hE
  have hG := h.hG
  refine ⟨?_, ?_, fun b hb => (Below.heap_setCell w' _ _ b (by dsimp only; omega)).trans (h.same b hb), by rw [← h.size]; simp, hG, hE⟩
  · exact h.cur.under ⟨rfl, rfl, rfl, by simp, fun k hk => Below.heap_setCell w' _ _ k (by dsimp only; omega)⟩
  · exact ⟨h.chg.os, h.chg.tape, h.chg.output, by simpa using h.chg.size, fun k hk hne => (Below.heap_setCell w' _ _ k (by dsimp only; omega)).trans (h.chg.block k hk hne)⟩
theorem NetSt.read (h : NetSt w0 w E F G nn I v1 vA v3 rows S bs D R) (he : EndSt w0 w w' E G nn) (hI : Fit I) : rdNet w0.heap.size w'.heap.size w' [.int .i64 I, v1, vA, v3] (I, S, D, R) := by
  have ha : GrR fAnd 2 TAnd owAnd w0.heap.size [] w' vA D D := h.a.at gow_And fun b hb => he.same b (fun e => h.oA.not (z := E) (by simp) (e ▸ hb))
  have hs : GrR fV3 3 TSeq owSeq w0.heap.size bs w' v1 rows S := h.s.at gow_Seq fun b hb => he.same b (fun e => h.oS.not (z := E) (by simp) (e ▸ hb))
  have ho : GrR fInt 1 TInt1 owInt w0.heap.size [] w' v3 R R := h.o.at owInt_good fun b hb => he.same b (fun e => h.oO.not (z := E) (by simp) (e ▸ hb))
  exact ⟨_, _, _, _, rfl, ⟨rfl, hI⟩, hs.rd fV3_len rds_Seq gow_Seq, ha.rd fAnd_len rds_And gow_And, ho.rd fInt_len owInt_rds owInt_good⟩
end
end Go.Proofs.Ytaebiiopommhdaa
