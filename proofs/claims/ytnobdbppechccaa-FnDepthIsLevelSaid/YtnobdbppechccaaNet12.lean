/-
  The cones of nodes: the program.
-/
import Derived.Test.YtnobdbppechccaaBack
import Derived.Test.YtnobdbppechccaaNet11
import Derived.Test.YtnobdbppechccaaLift
import Derived.Deep.RegionHeld3
namespace Go.Proofs.Ytnobdbppechccaa
open Go.RowKit
set_option linter.unusedVariables false
set_option linter.unusedSimpArgs false

attribute [local go_sem] Oper.semAt_some

theorem calls_marks {P : Program} (n : Nat) {f : FuncId} {fn : Func} {c : Code} {args : Array Value} {w : World} {R : Ending → World → Prop} (hf : P.funcs[f]? = some fn) (hb : fn.body = some c)
    (h : c.wp P (bodyPostM Fence.wide n P fn R) { tmps := args ++ Array.replicate (fn.ntmps - args.size) undef, defers := [] } w) : Calls P f args w R :=
  callsIn_wide.1 (callsIn_of_wp_marks (n := n) hf hb trivial (wpIn_wide.2 h) rfl)
/-- The law of a range over a function whose loop variable is boxed: the frame of a round in the words of the frame ahead of it. -/
theorem rangeBox {F : Fence} {n : Nat} {P : Program} {α : Type} {g : Operand} {ps : Array Tmp} {assign body : Code} {Q : Exit → Act → World → Prop} {a : Act} {w : World}
    (hro : F.round = none) (h1 : 1 ≤ n) {gf : Nat} {lb : Array Value} (hg : a.eval g = .func (.func gf) #[] lb) (hFg : F.fn gf) (eg : ∀ args w, (callFunc gf args).run P w = .ok (.enter gf args) w)
    {encs : α → Array Value} {Kp : World → World → Prop} {S Sp : List α → Prop} {N : Nat} {w0 : World} (hseq : SeqStopsK F (n - 1) P gf lb encs Kp S Sp N w0)
    (hKt : ∀ {A B C : World}, Kp A B → Kp B C → Kp A C) (hKb : ∀ (W : World) (l : Nat) (o o' : Obj), w.heap.size ≤ l → W.heap[l]? = some o → o.isCells = false → o.isWalk = false → Kp W (W.putObj l o')) (hb0 : Below w0.heap.size w0 w) (hps : ∀ x, (encs x).size = ps.size)
    (I : List α → World → Prop) (hI : OwnFrom w.heap.size I) (h0 : I [] w) (bx : α → Nat → World → Prop) (hbx : ∀ x b, OwnFrom w.heap.size (fun (_ : Unit) W => bx x b W)) (setA : Array Value → α → Nat → Array Value)
    (hassign : ∀ (l : Nat) (pre : List α) (x : α) (W : World) (K : Act → World → Prop), I pre W → (∀ b W', KeepsFrom w.heap.size W W' → Kp W W' → I pre W' → bx x b W' → K { tmps := setA a.tmps x b, defers := [] } W') →
      assign.wpIn (F.inRound l) (n - 1 - 1) P (Exit.then K (fun _ _ _ => False)) { tmps := (ps.zip (encs x)).foldl (fun t (p, v) => t.setIfInBounds p v) a.tmps, defers := [] } W)
    (hbody : ∀ (l : Nat) (pre : List α) (x : α) (b : Nat) (W : World), I pre W → bx x b W → pre.length < N → body.wpIn (F.inRound l) (n - 1 - 1) P (ownPostG w.heap.size Kp I (fun _ _ _ => False) (pre ++ [x]) W) { tmps := setA a.tmps x b, defers := [] } W)
    (hdone : ∀ (D : Nat) (xs : List α) (W : World), w.heap.size ≤ D → S xs → I xs W → W.heap[D]? = some (.deferred (some [])) → Q .normal { a with defers := { target := .collected D, args := #[] } :: a.defers } W) :
    (Code.rangeFunc g ps assign body).wpIn F n P Q a w := by
  refine wpIn_rangeFunc_ownH hro h1 hg hFg eg hseq hKt hKb hb0 hps I (fun _ _ _ => False) hI (fun _ _ _ _ _ hs _ _ => hs) h0 (fun x a' W => ∃ b, bx x b W ∧ a' = { tmps := setA a.tmps x b, defers := [] }) ?_ ?_ ?_ hdone (fun _ _ _ _ _ _ h _ => h.elim)
  · rintro x a' s W W' row ⟨b, hb, he⟩ hg hr
    exact ⟨b, hbx x b () W W' row hb hg hr, he⟩
  · intro l pre x W K hi hK
    exact hassign l pre x W K hi fun b W' h1 h2 h3 h4 => hK _ W' h1 h2 h3 ⟨b, h4, rfl⟩
  · rintro l pre x a' W - - hi ⟨b, hb, rfl⟩ hlt
    exact hbody l pre x b W hi hb hlt
theorem bThen' {B : Nat} {a w1 w2 : World} (h : Below B a w1) (hB : B ≤ a.heap.size) (hs : a.heap.size ≤ w1.heap.size) (k : Below w1.heap.size w1 w2) : Below B a w2 := h.trans (k.mono (Nat.le_trans hB hs))
theorem keeps_below {W W' : World} (h : Below W.heap.size W W') : KeepsOthers W W' := ⟨h.size, fun k o hk _ => (h.block k (Array.getElem?_eq_some_iff.1 hk).1).trans hk⟩
theorem ownsB_own {β : Type} (B : Nat) (v : Value) (f : β → List Bool) : Own (fun s W => OwnsB W B v (f s)) := by
  intro s X Y row h hg hrow
  refine World.ownsRow.kept h (row := row) hg ?_
  rcases h.2 with ⟨rfl, _⟩ | ⟨g, cap, cur, rfl, _, hgb, _⟩
  · exact .inl rfl
  · refine .inr (fun e => ?_)
    obtain ⟨o, ho, hc⟩ := hrow g e.symm
    rw [hgb] at ho; cases ho; cases hc
/-- The marks M, spread from the AND node of round j. -/
def stepM (n : DNet) (M : List Bool) (j : Nat) : List Bool := match n.2.2.1[n.2.2.1.length - 1 - j]? with
  | some a => if M.getD (firN n + (n.2.2.1.length - 1 - j)) false then (M.set (a.1.toNat / 2) true).set (a.2.toNat / 2) true else M
  | none => M
theorem markK_stepM (n : DNet) (M : List Bool) (j : Nat) : markK n M (j + 1) = stepM n (markK n M j) j := rfl
theorem stepM_len (n : DNet) (M : List Bool) (j : Nat) : (stepM n M j).length = M.length := by
  unfold stepM
  split
  · split <;> simp
  · rfl
def foldM (n : DNet) (M : List Bool) (xs : List (Rnd n.2.2.1.length)) : List Bool := xs.foldl (fun M x => stepM n M x.1) M
theorem foldM_add (n : DNet) (M : List Bool) (xs : List (Rnd n.2.2.1.length)) (x : Rnd n.2.2.1.length) : foldM n M (xs ++ [x]) = stepM n (foldM n M xs) x.1 := by simp [foldM]
theorem foldM_len (n : DNet) (xs : List (Rnd n.2.2.1.length)) : ∀ M : List Bool, (foldM n M xs).length = M.length := by
  unfold foldM
  induction xs with
  | nil => intro M; rfl
  | cons x xs ih => intro M; rw [List.foldl_cons, ih, stepM_len]
theorem foldM_take (n : DNet) (M : List Bool) : ∀ k, k ≤ n.2.2.1.length → foldM n M ((rnds n.2.2.1.length).take k) = markK n M k
  | 0, _ => by simp [foldM, markK]
  | k + 1, h => by rw [rnds_step (by omega), foldM_add, foldM_take n M k (by omega), markK_stepM]
theorem foldM_all (n : DNet) (M : List Bool) : foldM n M (rnds n.2.2.1.length) = markL n M := by
  have h := foldM_take n M n.2.2.1.length (Nat.le_refl _)
  rw [List.take_of_length_le (by rw [rnds_len]; exact Nat.le_refl _)] at h
  exact h
theorem stepM_hit {n : DNet} {M : List Bool} {j i x y : Nat} (hi : n.2.2.1.length - 1 - j = i) (h : n.2.2.1[i]? = some ((x : Int), (y : Int))) (hb : M.getD (firN n + i) false = true) : stepM n M j = (M.set (x / 2) true).set (y / 2) true := by
  unfold stepM; rw [hi, h]; simp only [hb, if_true, Int.toNat_natCast]
theorem stepM_miss {n : DNet} {M : List Bool} {j i : Nat} {a : DAnd} (hi : n.2.2.1.length - 1 - j = i) (h : n.2.2.1[i]? = some a) (hb : M.getD (firN n + i) false = false) : stepM n M j = M := by
  unfold stepM; rw [hi, h]; simp only [hb, Bool.false_eq_true, if_false]
/-- The nodes P marked. -/
def setsL (N : Nat) (P : List Int) : List Bool := P.foldl (fun M x => M.set x.toNat true) (List.replicate N false)
theorem setsL_len (N : Nat) (P : List Int) : (setsL N P).length = N := by
  unfold setsL
  suffices ∀ (P : List Int) (M : List Bool), (P.foldl (fun M x => M.set x.toNat true) M).length = M.length by rw [this]; simp
  intro P
  induction P with
  | nil => intro M; rfl
  | cons r P ih => intro M; rw [List.foldl_cons, ih, List.length_set]
theorem setsL_step {N : Nat} {P : List Int} {k p : Nat} (h : P[k]? = some (p : Int)) : setsL N (P.take (k + 1)) = (setsL N (P.take k)).set p true := by
  unfold setsL
  rw [List.take_add_one, h, List.foldl_append]
  simp
theorem sets_nodes (N : Nat) (R : List Int) : setsL N (nodesL R) = seenL N R := by
  unfold setsL nodesL seenL
  rw [List.foldl_map]
  congr 1
set_option maxRecDepth 100000 in
set_option maxHeartbeats 12800000 in
theorem inCones_at (n : DNet) (P : List Int) (us : List Value) (v : Value) (w : World) (h : rdNet 0 w.heap.size w us n) (hv : rdIntS 0 w.heap.size w [v] P) (hP : NetP n) (hin : ∀ (k : Nat) (x : Int), P[k]? = some x → ∃ p : Nat, x = (p : Int) ∧ p < netN n) {N : Nat} (hN : netN n = N) :
    Calls Try.prog 46 #[.agg us.toArray, v] w fun e w' => ∃ g, e = .returned (.slice (some ⟨g, 0, none⟩) N N) ∧ OwnsB w' w.heap.size (.slice (some ⟨g, 0, none⟩) N N) (markL n (setsL N P)) ∧ Below w.heap.size w w' := by
  obtain ⟨iB, hiB, hzB0, hzB1, hzB2⟩ := info_parts infoB
  have HD := Lib.hid h
  have HP := Lib.hid hP
  have HSP := Lib.hid hP.sz
  have a300 := hP.sz.a300
  have hN3 : N ≤ 333 ∧ 1 ≤ N := by rw [← hN]; exact hP.sz.net_le
  have HNC := Lib.hid (show ncI n = (N : Int) by rw [hP.sz.nc, hN])
  have HN := Lib.hid hN
  have HIN := Lib.hid hin
  clear hP hN hin
  obtain ⟨mu0, mu1, mu2, mu3, rfl, mh0, mh1, mh2, mh3⟩ := h
  obtain ⟨me0, -⟩ := mh0
  injection me0 with me0
  subst me0
  obtain ⟨mA1, mc1, me1, mm1, -⟩ := slice_of mh1
  subst me1
  have mR1 := Lib.hid mh1
  clear mh1
  obtain ⟨mA2, mc2, me2, mm2, -⟩ := slice_of mh2
  subst me2
  have mR2 := Lib.hid mh2
  clear mh2
  obtain ⟨mA3, mc3, me3, mm3, -⟩ := slice_of mh3
  subst me3
  have mR3 := Lib.hid mh3
  clear mh3
  obtain ⟨vA, vc, rfl, vm, -⟩ := slice_of hv
  have HV := Lib.hid hv
  clear hv
  refine calls_marks 6 Try.func46 rfl ?_
  simp only [Try.ntmps46, List.size_toArray, List.length_cons, List.length_nil, Nat.reduceAdd, Nat.reduceSub, Array.replicate_succ, Array.replicate_zero, List.push_toArray, List.append_toArray, List.nil_append, List.cons_append]
  go_wp2_with fail
  obtain ⟨W0, hV⟩ : ∃ W0, W0 = (w.alloc (.cells #[.int .i64 n.1, .slice mA1 (n.2.1).length mc1, .slice mA2 (n.2.2.1).length mc2, .slice mA3 (n.2.2.2).length mc3] 28)) := ⟨_, rfl⟩
  rw [← hV]
  have gN := eqbox1 hV
  have d0 : W0.cell? ⟨w.heap.size, 0, none⟩ = some (.int .i64 n.1) := box_cell gN.1 0 _ rfl
  have d1 : W0.cell? ⟨w.heap.size, 1, none⟩ = some (.slice mA1 (n.2.1).length mc1) := box_cell gN.1 1 _ rfl
  have d2 : W0.cell? ⟨w.heap.size, 2, none⟩ = some (.slice mA2 (n.2.2.1).length mc2) := box_cell gN.1 2 _ rfl
  have d3 : W0.cell? ⟨w.heap.size, 3, none⟩ = some (.slice mA3 (n.2.2.2).length mc3) := box_cell gN.1 3 _ rfl
  have sW0 : W0.heap.size = w.heap.size + 1 := by rw [hV]; simp
  have HW0 := Lib.hid gN.2
  clear hV gN
  have HE0 := Lib.hid d0
  have HE1 := Lib.hid d1
  have HE2 := Lib.hid d2
  have HE3 := Lib.hid d3
  refine (implNc_at n _ _ (rdUp good_Net HD.out HW0.out) (Nat.le_refl _) HNC.out).mono ?_
  rintro e w3 ⟨rfl, hb⟩
  replace d0 := keep hb d0
  replace d1 := keep hb d1
  replace d2 := keep hb d2
  replace d3 := keep hb d3
  have HB3 := Lib.hid (bThen HW0.out hb)
  have HB03 := Lib.hid hb
  have lt03 : w.heap.size < w3.heap.size := World.block_lt_of_cell? _ _ d0
  clear hb
  go_wp2_with (at_make; refine wpList_make_full _ rfl _ _ 31 rfl w3.heap.size 4 iB (.bool false) 1 Try.underlying31 hiB hzB0 hzB1 .i64 .i64 (N : Int) (N : Int) N rfl rfl rfl rfl (by rw [hzB2]; omega) (by unfold maxLen; omega) (Nat.le_refl _) ?_; intro w4 hown1 hgrow1; replace d0 := grownC hgrow1 d0 (by intro e; cases e); replace d1 := grownC hgrow1 d1 (by intro e; cases e); replace d2 := grownC hgrow1 d2 (by intro e; cases e); replace d3 := grownC hgrow1 d3 (by intro e; cases e))
  obtain ⟨W1, hV⟩ : ∃ W1, W1 = w4.alloc (.cells #[.slice (some ⟨w3.heap.size, 0, none⟩) N N] 31) := ⟨_, rfl⟩
  rw [← hV]
  have gN := eqbox1 hV
  have hz := own_makeB hown1
  have hb : Below w3.heap.size w3 w4 := (Below.refl _ _).grown hgrow1 (Nat.le_refl _) (by intro g hg; cases hg)
  have i0 : W1.cell? ⟨w4.heap.size, 0, none⟩ = some (.slice (some ⟨w3.heap.size, 0, none⟩) N N) := box_cell gN.1 0 _ rfl
  have gl := hz.ltN.1
  have HM0 := Lib.hid (show OwnsB W1 w.heap.size (.slice (some ⟨w3.heap.size, 0, none⟩) N N) (List.replicate N false) from (OwnsB.lower hz HB3.out.size).below gN.2)
  have HB1 := Lib.hid (bThen (bThen HB3.out hb) gN.2)
  replace d0 := keep gN.2 d0
  replace d1 := keep gN.2 d1
  replace d2 := keep gN.2 d2
  replace d3 := keep gN.2 d3
  obtain ⟨G, hG⟩ : ∃ G, w3.heap.size = G := ⟨_, rfl⟩
  obtain ⟨Bi, hBi⟩ : ∃ Bi, w4.heap.size = Bi := ⟨_, rfl⟩
  rw [hG] at HM0 i0 gl lt03 ⊢
  rw [hBi] at i0 gl ⊢
  clear hV gN hz hb hown1 hgrow1 hG hBi
  go_loopw [15] (fun x wr => ∃ k : Nat, k ≤ P.length ∧ x = .int .i64 (k : Int) ∧ OwnsB wr w.heap.size (.slice (some ⟨G, 0, none⟩) N N) (setsL N (P.take k)) ∧ Below w.heap.size w wr ∧ wr.cell? ⟨Bi, 0, none⟩ = some (.slice (some ⟨G, 0, none⟩) N N) ∧ wr.cell? ⟨w.heap.size, 0, none⟩ = some (.int .i64 n.1) ∧ wr.cell? ⟨w.heap.size, 1, none⟩ = some (.slice mA1 (n.2.1).length mc1) ∧ wr.cell? ⟨w.heap.size, 2, none⟩ = some (.slice mA2 (n.2.2.1).length mc2) ∧ wr.cell? ⟨w.heap.size, 3, none⟩ = some (.slice mA3 (n.2.2.2).length mc3)) (fun x _ => P.length - (intOf x).toNat)
  case atStart => exact ⟨0, Nat.zero_le _, rfl, HM0.out, HB1.out, i0, d0, d1, d2, d3⟩
  case round =>
    obtain ⟨k, hk, rfl, hm, hb, i0, c0, c1, c2, c3⟩ := hrel
    obtain ⟨w6, rfl⟩ : ∃ w6, w6 = wr := ⟨_, rfl⟩
    clear HM0 HB1 d0 d1 d2 d3
    have HM := Lib.hid hm
    have HB := Lib.hid hb
    have C := Lib.hid (And.intro i0 (And.intro c0 (And.intro c1 (And.intro c2 c3))))
    have hsl : (setsL N (P.take k)).length = N := setsL_len _ _
    clear hm hb
    by_cases hlt : k < P.length
    · obtain ⟨x, hx⟩ : ∃ x, P[k]? = some x := ⟨_, List.getElem?_eq_getElem hlt⟩
      obtain ⟨p, rfl, hp⟩ := HIN.out k x hx
      rw [HN.out] at hp
      have HST := Lib.hid (setsL_step (N := N) hx)
      obtain ⟨xb, xq, rfl, xlt, xc, xf⟩ := at_Int (good_IntS.below HV.out (Nat.le_refl _) HB.out) hx
      have xlt2 := Nat.lt_of_lt_of_le xlt HB.out.size
      have sp := HM.out.shapeN hsl hp
      have p0 := sp.1
      have p1 := sp.2
      have tpN : (p : Int) < (N : Int) := by omega
      have tk : (k : Int) < (P.length : Int) := by omega
      have HSL := Lib.hid hsl
      clear hx sp xlt xf c0 c1 c2 c3 hsl
      go_wp2
      go_roundw
      case rel =>
        have h3 := OwnsB.set HM.out HSL.out hp true
        have cf : ∀ b i v, b ≠ G → w6.cell? ⟨b, i, none⟩ = some v → _ := fun b i v hne h => (World.cell?_setCell_other _ ⟨G, p, none⟩ ⟨b, i, none⟩ (.bool true) (by intro e; injection e with e; exact hne e.symm)).trans h
        exact ⟨k + 1, by omega, by go_num, by rw [HST.out]; exact h3, bSet (p := ⟨G, p, none⟩) HB.out (by dsimp only; omega) _, cf _ _ _ (by omega) C.out.1, cf _ _ _ (by omega) C.out.2.1, cf _ _ _ (by omega) C.out.2.2.1, cf _ _ _ (by omega) C.out.2.2.2.1, cf _ _ _ (by omega) C.out.2.2.2.2⟩
      case measure => simp [intOf] <;> omega
    · obtain rfl : k = P.length := by omega
      rw [List.take_length] at HM
      obtain ⟨M0, hM0⟩ : ∃ M0, setsL N P = M0 := ⟨_, rfl⟩
      have hml : M0.length = N := by rw [← hM0]; exact setsL_len _ _
      rw [hM0] at HM
      have HM0 := Lib.hid hM0
      have HML := Lib.hid hml
      clear hlt hM0 hml hsl
      go_wp2_with fail
      refine (backward_at _ _ _ _).mono ?_
      rintro e w' ⟨rfl, rfl⟩
      obtain ⟨W2, hV⟩ : ∃ W2, W2 = w6.alloc (.cells #[.slice mA2 n.2.2.1.length mc2] 25) := ⟨_, rfl⟩
      rw [← hV]
      have gN := eqbox1 hV
      have s0 : W2.cell? ⟨w6.heap.size, 0, none⟩ = some (.slice mA2 n.2.2.1.length mc2) := box_cell gN.1 0 _ rfl
      have HM2 := Lib.hid (HM.out.below gN.2)
      have HB2 := Lib.hid (bThen HB.out gN.2)
      have sW2 : W2.heap.size = w6.heap.size + 1 := by rw [hV]; simp
      replace i0 := keep gN.2 i0
      replace c0 := keep gN.2 c0
      replace c1 := keep gN.2 c1
      replace c2 := keep gN.2 c2
      replace c3 := keep gN.2 c3
      have hG6 := HM.out.ltN.1
      have hBi6 : Bi < W2.heap.size := World.block_lt_of_cell? _ _ i0
      obtain ⟨Bs, hBs⟩ : ∃ Bs, w6.heap.size = Bs := ⟨_, rfl⟩
      rw [hBs] at s0 sW2 hG6 ⊢
      have hGs : w.heap.size < Bs := by omega
      clear hV gN hBs HM HB C
      go_wp2
      refine (wpIn_wide (n := 6)).1 ?_
      refine rangeBox (bx := fun x b W => Bs < b ∧ W.cell? ⟨b, 0, none⟩ = some (.int .i64 (n.2.2.1.getD (n.2.2.1.length - 1 - x.1) (0, 0)).1) ∧ W.cell? ⟨b, 1, none⟩ = some (.int .i64 (n.2.2.1.getD (n.2.2.1.length - 1 - x.1) (0, 0)).2))
        (setA := fun t x b => ((((t.setIfInBounds 26 (.int .i64 ((n.2.2.1.length : Int) - 1 - x.1))).setIfInBounds 27 (.agg #[.int .i64 (n.2.2.1.getD (n.2.2.1.length - 1 - x.1) (0, 0)).1, .int .i64 (n.2.2.1.getD (n.2.2.1.length - 1 - x.1) (0, 0)).2])).setIfInBounds 8 (.int .i64 ((n.2.2.1.length : Int) - 1 - x.1))).setIfInBounds 9 (.pointer (some ⟨b, 0, none⟩))))
        (gf := 83) (lb := #[.pointer (some ⟨Bs, 0, none⟩)]) rfl (by omega) rfl trivial (enters_of Try.func83 (by kernel_rfl) rfl)
        (back_stops Fence.wide 5 trivial rfl (by omega) Bs w.heap.size mA2 mc2 n.2.2.1 (by omega) W2 (by omega) (by omega) s0 (good_AndS.below mR2.out (Nat.le_refl _) HB2.out))
        keepB_t (keepB_b (by omega) (by omega)) (Below.refl _ _) (fun _ => rfl)
        (I := fun pre W => (OwnsB W w.heap.size (.slice (some ⟨G, 0, none⟩) N N) (foldM n M0 pre) ∧ W.cell? ⟨Bi, 0, none⟩ = some (.slice (some ⟨G, 0, none⟩) N N) ∧ W.cell? ⟨Bs, 0, none⟩ = some (.slice mA2 n.2.2.1.length mc2) ∧ W.cell? ⟨w.heap.size, 0, none⟩ = some (.int .i64 n.1) ∧ W.cell? ⟨w.heap.size, 1, none⟩ = some (.slice mA1 (n.2.1).length mc1) ∧ W.cell? ⟨w.heap.size, 2, none⟩ = some (.slice mA2 (n.2.2.1).length mc2) ∧ W.cell? ⟨w.heap.size, 3, none⟩ = some (.slice mA3 (n.2.2.2).length mc3)) ∧ Below w.heap.size w W)
        (hI := OwnFrom.and (Own.from (fun s A B row hs hg hr => ⟨ownsB_own _ _ (foldM n M0) s A B row hs.1 hg hr, cell_kept hs.2.1 hg hr, cell_kept hs.2.2.1 hg hr, cell_kept hs.2.2.2.1 hg hr, cell_kept hs.2.2.2.2.1 hg hr, cell_kept hs.2.2.2.2.2.1 hg hr, cell_kept hs.2.2.2.2.2.2 hg hr⟩) _) (ownFrom_below (Nat.le_refl _) (by omega)))
        (h0 := ⟨⟨HM2.out, i0, s0, c0, c1, c2, c3⟩, HB2.out⟩)
        (hbx := fun x b => Own.from (fun s A B row hs hg hr => ⟨hs.1, cell_kept hs.2.1 hg hr, cell_kept hs.2.2 hg hr⟩) _) ?assign ?body ?done
      case assign =>
        rintro l pre x W K ⟨⟨hm, i0, s1, c0, c1, c2, c3⟩, hB⟩ hK
        have hB' := hB
        have hsz := hB.size
        unfold backV
        gi_wp2
        have hba : Below W.heap.size W (W.alloc (.cells #[.int .i64 (n.2.2.1.getD (n.2.2.1.length - 1 - x.1) (0, 0)).1, .int .i64 (n.2.2.1.getD (n.2.2.1.length - 1 - x.1) (0, 0)).2] 38)) := bAlloc (Below.refl _ _) (Nat.le_refl _) _
        have hr := World.alloc_heap_new W (.cells #[.int .i64 (n.2.2.1.getD (n.2.2.1.length - 1 - x.1) (0, 0)).1, .int .i64 (n.2.2.1.getD (n.2.2.1.length - 1 - x.1) (0, 0)).2] 38)
        have lts := World.block_lt_of_cell? _ _ s1
        exact hK W.heap.size _ ((KeepsOthers.alloc _ _).from _) ⟨hba.mono hsz, hba.block Bs lts⟩ ⟨⟨hm.below hba, keep hba i0, keep hba s1, keep hba c0, keep hba c1, keep hba c2, keep hba c3⟩, bThen hB hba⟩ ⟨lts, box_cell hr 0 _ rfl, box_cell hr 1 _ rfl⟩
      case body =>
        rintro l pre x b W ⟨⟨hm, i0, s1, c0, c1, c2, c3⟩, hB⟩ ⟨hb, y0, y1⟩ hlt
        simp only [List.setIfInBounds_toArray, List.set_cons_zero, List.set_cons_succ]
        obtain ⟨j, hjl⟩ := x
        dsimp only at y0 y1 ⊢
        obtain ⟨i, hi⟩ : ∃ i, n.2.2.1.length - 1 - j = i := ⟨_, rfl⟩
        have hil : i < n.2.2.1.length := by omega
        have hie : ((n.2.2.1.length : Int) - 1 - j) = (i : Int) := by omega
        obtain ⟨a, ha⟩ : ∃ a, n.2.2.1[i]? = some a := ⟨_, List.getElem?_eq_getElem hil⟩
        have hd : n.2.2.1.getD (n.2.2.1.length - 1 - j) (0, 0) = a := by rw [hi, List.getD_eq_getElem?_getD, ha]; rfl
        obtain ⟨ab, aq, -, -, -, xf, -, yf⟩ := at_And mR2.out ha
        obtain ⟨x, y, rfl, hx, hy⟩ := HP.out.and_ i a ha
        unfold Fit at xf yf
        dsimp only at xf yf
        have hx63 : x ≤ 9223372036854775807 := by omega
        have hy63 : y ≤ 9223372036854775807 := by omega
        clear xf yf
        rw [hd] at y0 y1
        rw [hd, hie]
        dsimp only at y0 y1 ⊢
        have hfk : firN n + i < N := by rw [← HN.out]; unfold netN; omega
        obtain ⟨MM, hMM⟩ : ∃ MM, foldM n M0 pre = MM := ⟨_, rfl⟩
        have hlen : MM.length = N := by rw [← hMM, foldM_len, HML.out]
        rw [hMM] at hm
        obtain ⟨f, hf⟩ : ∃ f, firN n + i = f := ⟨_, rfl⟩
        obtain ⟨p, hp⟩ : ∃ p, x / 2 = p := ⟨_, rfl⟩
        obtain ⟨q, hq⟩ : ∃ q, y / 2 = q := ⟨_, rfl⟩
        rw [hf] at hfk hx hy
        rw [hp] at hx
        rw [hq] at hy
        obtain ⟨bt, hbt⟩ : ∃ bt, MM.getD f false = bt := ⟨_, rfl⟩
        have HM := Lib.hid hm
        have HBW := Lib.hid hB
        have HMM := Lib.hid hMM
        have HA := Lib.hid ha
        have HI := Lib.hid hi
        have HF := Lib.hid hf
        have HPQ := Lib.hid (And.intro hp hq)
        have HMB := Lib.hid (show MM.getD (firN n + i) false = bt by rw [hf]; exact hbt)
        have HLEN := Lib.hid hlen
        have u0 := (hm.shapeN hlen hfk).1
        rw [hbt] at u0
        have tf : (f : Int) < (N : Int) := by omega
        have hk3 : i ≤ 300 := by omega
        have ltB : Bs < W.heap.size := World.block_lt_of_cell? _ _ s1
        have ltb : b < W.heap.size := World.block_lt_of_cell? _ _ y0
        clear hm hB hMM ha hi hf hp hq hbt hd hie hlen
        gi_wp2
        have hS0 : (fun w' => Below W.heap.size W w' ∧ w'.cell? ⟨Bi, 0, none⟩ = some (.slice (some ⟨G, 0, none⟩) N N) ∧ w'.cell? ⟨w.heap.size, 0, none⟩ = some (.int .i64 n.1) ∧ w'.cell? ⟨w.heap.size, 1, none⟩ = some (.slice mA1 (n.2.1).length mc1) ∧ w'.cell? ⟨w.heap.size, 2, none⟩ = some (.slice mA2 (n.2.2.1).length mc2) ∧ w'.cell? ⟨w.heap.size, 3, none⟩ = some (.slice mA3 (n.2.2.2).length mc3) ∧ w'.cell? ⟨b, 0, none⟩ = some (.int .i64 (x : Int)) ∧ w'.cell? ⟨b, 1, none⟩ = some (.int .i64 (y : Int)) ∧ w'.cell? ⟨Bs, 0, none⟩ = some (.slice mA2 n.2.2.1.length mc2) ∧ w'.cell? ⟨G, f, none⟩ = some (.bool bt)) W := ⟨Below.refl _ _, i0, c0, c1, c2, c3, y0, y1, s1, u0⟩
        have hS : ∀ {w0 w' : World}, (fun w' => Below W.heap.size W w' ∧ w'.cell? ⟨Bi, 0, none⟩ = some (.slice (some ⟨G, 0, none⟩) N N) ∧ w'.cell? ⟨w.heap.size, 0, none⟩ = some (.int .i64 n.1) ∧ w'.cell? ⟨w.heap.size, 1, none⟩ = some (.slice mA1 (n.2.1).length mc1) ∧ w'.cell? ⟨w.heap.size, 2, none⟩ = some (.slice mA2 (n.2.2.1).length mc2) ∧ w'.cell? ⟨w.heap.size, 3, none⟩ = some (.slice mA3 (n.2.2.2).length mc3) ∧ w'.cell? ⟨b, 0, none⟩ = some (.int .i64 (x : Int)) ∧ w'.cell? ⟨b, 1, none⟩ = some (.int .i64 (y : Int)) ∧ w'.cell? ⟨Bs, 0, none⟩ = some (.slice mA2 n.2.2.1.length mc2) ∧ w'.cell? ⟨G, f, none⟩ = some (.bool bt)) w0 → Below w0.heap.size w0 w' → (fun w' => Below W.heap.size W w' ∧ w'.cell? ⟨Bi, 0, none⟩ = some (.slice (some ⟨G, 0, none⟩) N N) ∧ w'.cell? ⟨w.heap.size, 0, none⟩ = some (.int .i64 n.1) ∧ w'.cell? ⟨w.heap.size, 1, none⟩ = some (.slice mA1 (n.2.1).length mc1) ∧ w'.cell? ⟨w.heap.size, 2, none⟩ = some (.slice mA2 (n.2.2.1).length mc2) ∧ w'.cell? ⟨w.heap.size, 3, none⟩ = some (.slice mA3 (n.2.2.2).length mc3) ∧ w'.cell? ⟨b, 0, none⟩ = some (.int .i64 (x : Int)) ∧ w'.cell? ⟨b, 1, none⟩ = some (.int .i64 (y : Int)) ∧ w'.cell? ⟨Bs, 0, none⟩ = some (.slice mA2 n.2.2.1.length mc2) ∧ w'.cell? ⟨G, f, none⟩ = some (.bool bt)) w' := fun h hb => ⟨bThen h.1 hb, keep hb h.2.1, keep hb h.2.2.1, keep hb h.2.2.2.1, keep hb h.2.2.2.2.1, keep hb h.2.2.2.2.2.1, keep hb h.2.2.2.2.2.2.1, keep hb h.2.2.2.2.2.2.2.1, keep hb h.2.2.2.2.2.2.2.2.1, keep hb h.2.2.2.2.2.2.2.2.2⟩
        dsimp only at hS0 hS
        refine wpIn_region_kept 4 6 (fun w' => Below W.heap.size W w' ∧ w'.cell? ⟨Bi, 0, none⟩ = some (.slice (some ⟨G, 0, none⟩) N N) ∧ w'.cell? ⟨w.heap.size, 0, none⟩ = some (.int .i64 n.1) ∧ w'.cell? ⟨w.heap.size, 1, none⟩ = some (.slice mA1 (n.2.1).length mc1) ∧ w'.cell? ⟨w.heap.size, 2, none⟩ = some (.slice mA2 (n.2.2.1).length mc2) ∧ w'.cell? ⟨w.heap.size, 3, none⟩ = some (.slice mA3 (n.2.2.2).length mc3) ∧ w'.cell? ⟨b, 0, none⟩ = some (.int .i64 (x : Int)) ∧ w'.cell? ⟨b, 1, none⟩ = some (.int .i64 (y : Int)) ∧ w'.cell? ⟨Bs, 0, none⟩ = some (.slice mA2 n.2.2.1.length mc2) ∧ w'.cell? ⟨G, f, none⟩ = some (.bool bt)) (by kernel_rfl) rfl (by kernel_rfl) (hS hS0 (Below.drew (Below.refl _ _))) (fun hK0 => ?_)
        refine Kept.take (v := ?vr0) 0 (by kernel_rfl) rfl (by kernel_rfl) (fun _ _ _ h => h) (Or.inl ⟨by rfl, ?hyr0⟩) hK0 ?restr0
        case hyr0 =>
          intro w0 hSw
          (try dsimp only at hSw)
          go_simp
          all_goals (with_reducible rfl)
        (try simp only [Act.put, List.setIfInBounds_toArray, List.set_cons_zero, List.set_cons_succ])
        refine Kept.take (v := ?vr1) 1 (by kernel_rfl) rfl (by kernel_rfl) (fun _ _ _ h => h) (Or.inl ⟨by rfl, ?hyr1⟩) hK0 ?restr1
        case hyr1 =>
          intro w0 hSw
          (try dsimp only at hSw)
          go_simp
          all_goals (with_reducible rfl)
        (try simp only [Act.put, List.setIfInBounds_toArray, List.set_cons_zero, List.set_cons_succ])
        refine Kept.take (v := ?vr2) 2 (by kernel_rfl) rfl (by kernel_rfl) (fun _ _ _ h => h) (Or.inl ⟨by rfl, ?hyr2⟩) hK0 ?restr2
        case hyr2 =>
          intro w0 hSw
          (try dsimp only at hSw)
          go_simp
          all_goals (with_reducible rfl)
        (try simp only [Act.put, List.setIfInBounds_toArray, List.set_cons_zero, List.set_cons_succ])
        refine Kept.rg (sz := 45) (g := 2) [(3, 31)] [] (fun kO vals w' => match kO with
          | 3 => vals 3 = .int .i64 (f : Int)
          | _ => True) (by kernel_rfl) (by kernel_rfl) hK0 (fun _ _ _ h => h) ?hSRr ?hlocr ?hstepr ?hendr
        case hSRr =>
          intro k hk vals w1 w2 h hb
          simp only [List.map_cons, List.map_nil, List.mem_cons, List.not_mem_nil, or_false] at hk
          subst hk
          · exact h
        case hlocr =>
          intro k j hk hj hne hw vals v w1 h
          simp only [List.map_cons, List.map_nil, List.mem_cons, List.not_mem_nil, or_false] at hk hj
          subst hk hj
          exact absurd rfl hne
        case hstepr =>
          intro k t o hm ho vals wA hSA hpre
          simp only [List.mem_cons, List.not_mem_nil, or_false, Prod.mk.injEq] at hm
          obtain ⟨rfl, rfl⟩ := hm
          · have ho' := Option.some.inj ho
            subst ho'
            unfold RgStep
            rw [if_pos (by rfl)]
            intro K hK
            have hSw := hSA
            (try dsimp only at hSw)
            clear hpre
            simp only [fillA, Act.put, List.setIfInBounds_toArray, List.set_cons_zero, List.set_cons_succ]
            go_simp
            go_at_call 53
            refine (andNode_to n i _ _ (rdUp good_Net HD.out (bThen HBW.out hSA.1)) (Nat.le_refl _) HSP.out hk3 HF.out).mono ?_
            rintro e wB ⟨rfl, hb⟩
            have hK' := hK (.int .i64 (f : Int)) wB (hS hSA hb) hb (upd_self _ _ _) (fun h => absurd h (by decide))
            clear hK
            simp only [fillA, Act.put, List.setIfInBounds_toArray, List.set_cons_zero, List.set_cons_succ] at hK'
            go_simp
            all_goals exact hK'
        intro vals wB hSB hR hap
        have e3 : vals 3 = .int .i64 (f : Int) := hR 3 (by decide)
        simp only [fillA, Act.put, List.setIfInBounds_toArray, List.set_cons_zero, List.set_cons_succ]
        simp only [e3]
        clear hap hR e3
        refine Kept.tail (by rfl) (by kernel_rfl) ?_
        simp only [List.drop_succ_cons, List.drop_zero]
        have HBB := Lib.hid hSB.1
        have b0 := hSB.2
        have u1 := b0.2.2.2.2.2.2.2.2
        have HMB2 := Lib.hid (HM.out.below HBB.out)
        clear hSB hS0 hS
        obtain ⟨i0', z0, z1, z2, z3, w0', w1', s1', -⟩ := b0
        clear i0 c0 c1 c2 c3 y0 y1 s1 u0
        go_wp2
        refine OnlyN.normal ?_
        cases bt with
        | false =>
          have HE := Lib.hid (stepM_miss HI.out HA.out HMB.out)
          clear u1
          gi_wp2
          exact ⟨(keeps_below HBB.out).from _, ⟨HBB.out.mono HBW.out.size, HBB.out.block Bs ltB⟩, ⟨by rw [foldM_add, HMM.out, HE.out]; exact HMB2.out, i0', s1', z0, z1, z2, z3⟩, bThen HBW.out HBB.out⟩
        | true =>
          have HE := Lib.hid (stepM_hit HI.out HA.out HMB.out)
          clear u1
          gi_wp2
          have HSP1 := HMB2.out.shapeN HLEN.out (show p < N by omega)
          have sp0 := HSP1.1
          have sp1 := HSP1.2
          have tp : (p : Int) < (N : Int) := by omega
          have tq : (q : Int) < (N : Int) := by omega
          have hBB := HBB.out.size
          have hG1 := HMB2.out.ltN
          clear HSP1
          have hS0 : (fun w' => Below wB.heap.size wB w' ∧ w'.cell? ⟨Bi, 0, none⟩ = some (.slice (some ⟨G, 0, none⟩) N N) ∧ w'.cell? ⟨w.heap.size, 0, none⟩ = some (.int .i64 n.1) ∧ w'.cell? ⟨w.heap.size, 1, none⟩ = some (.slice mA1 (n.2.1).length mc1) ∧ w'.cell? ⟨w.heap.size, 2, none⟩ = some (.slice mA2 (n.2.2.1).length mc2) ∧ w'.cell? ⟨w.heap.size, 3, none⟩ = some (.slice mA3 (n.2.2.2).length mc3) ∧ w'.cell? ⟨b, 0, none⟩ = some (.int .i64 (x : Int)) ∧ w'.cell? ⟨b, 1, none⟩ = some (.int .i64 (y : Int)) ∧ w'.cell? ⟨Bs, 0, none⟩ = some (.slice mA2 n.2.2.1.length mc2) ∧ w'.cell? ⟨G, p, none⟩ = some (.bool (MM.getD p false))) wB := ⟨Below.refl _ _, i0', z0, z1, z2, z3, w0', w1', s1', sp0⟩
          have hS : ∀ {w0 w' : World}, (fun w' => Below wB.heap.size wB w' ∧ w'.cell? ⟨Bi, 0, none⟩ = some (.slice (some ⟨G, 0, none⟩) N N) ∧ w'.cell? ⟨w.heap.size, 0, none⟩ = some (.int .i64 n.1) ∧ w'.cell? ⟨w.heap.size, 1, none⟩ = some (.slice mA1 (n.2.1).length mc1) ∧ w'.cell? ⟨w.heap.size, 2, none⟩ = some (.slice mA2 (n.2.2.1).length mc2) ∧ w'.cell? ⟨w.heap.size, 3, none⟩ = some (.slice mA3 (n.2.2.2).length mc3) ∧ w'.cell? ⟨b, 0, none⟩ = some (.int .i64 (x : Int)) ∧ w'.cell? ⟨b, 1, none⟩ = some (.int .i64 (y : Int)) ∧ w'.cell? ⟨Bs, 0, none⟩ = some (.slice mA2 n.2.2.1.length mc2) ∧ w'.cell? ⟨G, p, none⟩ = some (.bool (MM.getD p false))) w0 → Below w0.heap.size w0 w' → (fun w' => Below wB.heap.size wB w' ∧ w'.cell? ⟨Bi, 0, none⟩ = some (.slice (some ⟨G, 0, none⟩) N N) ∧ w'.cell? ⟨w.heap.size, 0, none⟩ = some (.int .i64 n.1) ∧ w'.cell? ⟨w.heap.size, 1, none⟩ = some (.slice mA1 (n.2.1).length mc1) ∧ w'.cell? ⟨w.heap.size, 2, none⟩ = some (.slice mA2 (n.2.2.1).length mc2) ∧ w'.cell? ⟨w.heap.size, 3, none⟩ = some (.slice mA3 (n.2.2.2).length mc3) ∧ w'.cell? ⟨b, 0, none⟩ = some (.int .i64 (x : Int)) ∧ w'.cell? ⟨b, 1, none⟩ = some (.int .i64 (y : Int)) ∧ w'.cell? ⟨Bs, 0, none⟩ = some (.slice mA2 n.2.2.1.length mc2) ∧ w'.cell? ⟨G, p, none⟩ = some (.bool (MM.getD p false))) w' := fun h hb => ⟨bThen h.1 hb, keep hb h.2.1, keep hb h.2.2.1, keep hb h.2.2.2.1, keep hb h.2.2.2.2.1, keep hb h.2.2.2.2.2.1, keep hb h.2.2.2.2.2.2.1, keep hb h.2.2.2.2.2.2.2.1, keep hb h.2.2.2.2.2.2.2.2.1, keep hb h.2.2.2.2.2.2.2.2.2⟩
          dsimp only at hS0 hS
          refine wpIn_region_kept 4 6 (fun w' => Below wB.heap.size wB w' ∧ w'.cell? ⟨Bi, 0, none⟩ = some (.slice (some ⟨G, 0, none⟩) N N) ∧ w'.cell? ⟨w.heap.size, 0, none⟩ = some (.int .i64 n.1) ∧ w'.cell? ⟨w.heap.size, 1, none⟩ = some (.slice mA1 (n.2.1).length mc1) ∧ w'.cell? ⟨w.heap.size, 2, none⟩ = some (.slice mA2 (n.2.2.1).length mc2) ∧ w'.cell? ⟨w.heap.size, 3, none⟩ = some (.slice mA3 (n.2.2.2).length mc3) ∧ w'.cell? ⟨b, 0, none⟩ = some (.int .i64 (x : Int)) ∧ w'.cell? ⟨b, 1, none⟩ = some (.int .i64 (y : Int)) ∧ w'.cell? ⟨Bs, 0, none⟩ = some (.slice mA2 n.2.2.1.length mc2) ∧ w'.cell? ⟨G, p, none⟩ = some (.bool (MM.getD p false))) (by kernel_rfl) rfl (by kernel_rfl) (hS hS0 (Below.drew (Below.refl _ _))) (fun hK0 => ?_)
          refine Kept.take (v := ?vs0) 0 (by kernel_rfl) rfl (by kernel_rfl) (fun _ _ _ h => h) (Or.inl ⟨by rfl, ?hys0⟩) hK0 ?rests0
          case hys0 =>
            intro w0 hSw
            (try dsimp only at hSw)
            go_simp
            all_goals (with_reducible rfl)
          (try simp only [Act.put, List.setIfInBounds_toArray, List.set_cons_zero, List.set_cons_succ])
          refine Kept.take (v := ?vs1) 1 (by kernel_rfl) rfl (by kernel_rfl) (fun _ _ _ h => h) (Or.inl ⟨by rfl, ?hys1⟩) hK0 ?rests1
          case hys1 =>
            intro w0 hSw
            (try dsimp only at hSw)
            go_simp
            all_goals (with_reducible rfl)
          (try simp only [Act.put, List.setIfInBounds_toArray, List.set_cons_zero, List.set_cons_succ])
          refine Kept.take (v := ?vs2) 2 (by kernel_rfl) rfl (by kernel_rfl) (fun _ _ _ h => h) (Or.inl ⟨by rfl, ?hys2⟩) hK0 ?rests2
          case hys2 =>
            intro w0 hSw
            (try dsimp only at hSw)
            go_simp
            all_goals (with_reducible rfl)
          (try simp only [Act.put, List.setIfInBounds_toArray, List.set_cons_zero, List.set_cons_succ])
          refine Kept.rg (sz := 45) (g := 2) [(3, 37)] [] (fun kO vals w' => match kO with
            | 3 => vals 3 = .int .i64 (p : Int)
            | _ => True) (by kernel_rfl) (by kernel_rfl) hK0 (fun _ _ _ h => h) ?hSRs ?hlocs ?hsteps ?hends
          case hSRs =>
            intro k hk vals w1 w2 h hb
            simp only [List.map_cons, List.map_nil, List.mem_cons, List.not_mem_nil, or_false] at hk
            subst hk
            · exact h
          case hlocs =>
            intro k j hk hj hne hw vals v w1 h
            simp only [List.map_cons, List.map_nil, List.mem_cons, List.not_mem_nil, or_false] at hk hj
            subst hk hj
            exact absurd rfl hne
          case hsteps =>
            intro k t o hm ho vals wA hSA hpre
            simp only [List.mem_cons, List.not_mem_nil, or_false, Prod.mk.injEq] at hm
            obtain ⟨rfl, rfl⟩ := hm
            · have ho' := Option.some.inj ho
              subst ho'
              unfold RgStep
              rw [if_pos (by rfl)]
              intro K hK
              have hSw := hSA
              (try dsimp only at hSw)
              clear hpre
              simp only [fillA, Act.put, List.setIfInBounds_toArray, List.set_cons_zero, List.set_cons_succ]
              go_simp
              go_at_call 71
              refine (nodeOf_to x _ hx63 HPQ.out.1).mono ?_
              rintro e wB ⟨rfl, hb⟩
              have hK' := hK (.int .i64 (p : Int)) wB (hS hSA hb) hb (upd_self _ _ _) (fun h => absurd h (by decide))
              clear hK
              simp only [fillA, Act.put, List.setIfInBounds_toArray, List.set_cons_zero, List.set_cons_succ] at hK'
              go_simp
              all_goals exact hK'
          intro vals wC hSB hR hap
          have e3 : vals 3 = .int .i64 (p : Int) := hR 3 (by decide)
          simp only [fillA, Act.put, List.setIfInBounds_toArray, List.set_cons_zero, List.set_cons_succ]
          simp only [e3]
          clear hap hR e3
          refine Kept.tail (by rfl) (by kernel_rfl) ?_
          simp only [List.drop_succ_cons, List.drop_zero]
          have HC := Lib.hid hSB.1
          have q1 := hSB.2
          have HMC := Lib.hid (HMB2.out.below HC.out)
          clear hSB hS0 hS
          obtain ⟨i1, x0', x1', x2', x3', v0', v1', s2, -⟩ := q1
          have sp2 := HMC.out.shapeN HLEN.out (show p < N by omega)
          have g0 := sp2.1
          have g1 := sp2.2
          clear i0' z0 z1 z2 z3 w0' w1' s1' sp0 sp1 sp2
          go_wp2
          refine OnlyN.normal ?_
          have HMD := Lib.hid (OwnsB.set HMC.out HLEN.out (show p < N by omega) true)
          obtain ⟨wD, hwD⟩ : ∃ wD, wD = wC.setCell ⟨G, p, none⟩ (.bool true) := ⟨_, rfl⟩
          rw [← hwD] at HMD ⊢
          have nG : Bi ≠ G ∧ w.heap.size ≠ G ∧ b ≠ G ∧ Bs ≠ G := by refine ⟨?_, ?_, ?_, ?_⟩ <;> omega
          have cf : ∀ b i v, b ≠ G → wC.cell? ⟨b, i, none⟩ = some v → wD.cell? ⟨b, i, none⟩ = some v := fun b i v hne h => by rw [hwD]; exact (World.cell?_setCell_other _ ⟨G, p, none⟩ ⟨b, i, none⟩ (.bool true) (by intro e; injection e with e; exact hne e.symm)).trans h
          have j0 := cf _ _ _ nG.1 i1
          have j1 := cf _ _ _ nG.2.1 x0'
          have j2 := cf _ _ _ nG.2.1 x1'
          have j3 := cf _ _ _ nG.2.1 x2'
          have j4 := cf _ _ _ nG.2.1 x3'
          have j5 := cf _ _ _ nG.2.2.1 v0'
          have j6 := cf _ _ _ nG.2.2.1 v1'
          have j7 := cf _ _ _ nG.2.2.2 s2
          have HKD := Lib.hid (show KeepsOthers W wD from (keeps_below HBB.out).trans ((keeps_below HC.out).trans (by rw [hwD]; exact KeepsOthers.setCell _ _ _)))
          have HBD := Lib.hid (show Below w.heap.size W wD by rw [hwD]; exact bSet (p := ⟨G, p, none⟩) (bThen' (HBB.out.mono HBW.out.size) HBW.out.size HBB.out.size HC.out) hG1.2 _)
          have HHD := Lib.hid (show wD.heap[Bs]? = W.heap[Bs]? by rw [hwD, Below.heap_setCell _ _ _ _ (fun e => nG.2.2.2 e), HC.out.block Bs (by omega), HBB.out.block Bs ltB])
          have hD8 : wD.heap.size = wC.heap.size := by rw [hwD]; simp
          have hCC := HC.out.size
          clear hwD cf i1 x0' x1' x2' x3' v0' v1' s2 g0 g1
          gi_wp2
          have hS0 : (fun w' => Below wD.heap.size wD w' ∧ w'.cell? ⟨Bi, 0, none⟩ = some (.slice (some ⟨G, 0, none⟩) N N) ∧ w'.cell? ⟨w.heap.size, 0, none⟩ = some (.int .i64 n.1) ∧ w'.cell? ⟨w.heap.size, 1, none⟩ = some (.slice mA1 (n.2.1).length mc1) ∧ w'.cell? ⟨w.heap.size, 2, none⟩ = some (.slice mA2 (n.2.2.1).length mc2) ∧ w'.cell? ⟨w.heap.size, 3, none⟩ = some (.slice mA3 (n.2.2.2).length mc3) ∧ w'.cell? ⟨b, 0, none⟩ = some (.int .i64 (x : Int)) ∧ w'.cell? ⟨b, 1, none⟩ = some (.int .i64 (y : Int)) ∧ w'.cell? ⟨Bs, 0, none⟩ = some (.slice mA2 n.2.2.1.length mc2) ∧ w'.cell? ⟨Bi, 0, none⟩ = some (.slice (some ⟨G, 0, none⟩) N N)) wD := ⟨Below.refl _ _, j0, j1, j2, j3, j4, j5, j6, j7, j0⟩
          have hS : ∀ {w0 w' : World}, (fun w' => Below wD.heap.size wD w' ∧ w'.cell? ⟨Bi, 0, none⟩ = some (.slice (some ⟨G, 0, none⟩) N N) ∧ w'.cell? ⟨w.heap.size, 0, none⟩ = some (.int .i64 n.1) ∧ w'.cell? ⟨w.heap.size, 1, none⟩ = some (.slice mA1 (n.2.1).length mc1) ∧ w'.cell? ⟨w.heap.size, 2, none⟩ = some (.slice mA2 (n.2.2.1).length mc2) ∧ w'.cell? ⟨w.heap.size, 3, none⟩ = some (.slice mA3 (n.2.2.2).length mc3) ∧ w'.cell? ⟨b, 0, none⟩ = some (.int .i64 (x : Int)) ∧ w'.cell? ⟨b, 1, none⟩ = some (.int .i64 (y : Int)) ∧ w'.cell? ⟨Bs, 0, none⟩ = some (.slice mA2 n.2.2.1.length mc2) ∧ w'.cell? ⟨Bi, 0, none⟩ = some (.slice (some ⟨G, 0, none⟩) N N)) w0 → Below w0.heap.size w0 w' → (fun w' => Below wD.heap.size wD w' ∧ w'.cell? ⟨Bi, 0, none⟩ = some (.slice (some ⟨G, 0, none⟩) N N) ∧ w'.cell? ⟨w.heap.size, 0, none⟩ = some (.int .i64 n.1) ∧ w'.cell? ⟨w.heap.size, 1, none⟩ = some (.slice mA1 (n.2.1).length mc1) ∧ w'.cell? ⟨w.heap.size, 2, none⟩ = some (.slice mA2 (n.2.2.1).length mc2) ∧ w'.cell? ⟨w.heap.size, 3, none⟩ = some (.slice mA3 (n.2.2.2).length mc3) ∧ w'.cell? ⟨b, 0, none⟩ = some (.int .i64 (x : Int)) ∧ w'.cell? ⟨b, 1, none⟩ = some (.int .i64 (y : Int)) ∧ w'.cell? ⟨Bs, 0, none⟩ = some (.slice mA2 n.2.2.1.length mc2) ∧ w'.cell? ⟨Bi, 0, none⟩ = some (.slice (some ⟨G, 0, none⟩) N N)) w' := fun h hb => ⟨bThen h.1 hb, keep hb h.2.1, keep hb h.2.2.1, keep hb h.2.2.2.1, keep hb h.2.2.2.2.1, keep hb h.2.2.2.2.2.1, keep hb h.2.2.2.2.2.2.1, keep hb h.2.2.2.2.2.2.2.1, keep hb h.2.2.2.2.2.2.2.2.1, keep hb h.2.2.2.2.2.2.2.2.2⟩
          dsimp only at hS0 hS
          refine wpIn_region_kept 4 6 (fun w' => Below wD.heap.size wD w' ∧ w'.cell? ⟨Bi, 0, none⟩ = some (.slice (some ⟨G, 0, none⟩) N N) ∧ w'.cell? ⟨w.heap.size, 0, none⟩ = some (.int .i64 n.1) ∧ w'.cell? ⟨w.heap.size, 1, none⟩ = some (.slice mA1 (n.2.1).length mc1) ∧ w'.cell? ⟨w.heap.size, 2, none⟩ = some (.slice mA2 (n.2.2.1).length mc2) ∧ w'.cell? ⟨w.heap.size, 3, none⟩ = some (.slice mA3 (n.2.2.2).length mc3) ∧ w'.cell? ⟨b, 0, none⟩ = some (.int .i64 (x : Int)) ∧ w'.cell? ⟨b, 1, none⟩ = some (.int .i64 (y : Int)) ∧ w'.cell? ⟨Bs, 0, none⟩ = some (.slice mA2 n.2.2.1.length mc2) ∧ w'.cell? ⟨Bi, 0, none⟩ = some (.slice (some ⟨G, 0, none⟩) N N)) (by kernel_rfl) rfl (by kernel_rfl) (hS hS0 (Below.drew (Below.refl _ _))) (fun hK0 => ?_)
          refine Kept.take (v := ?vu0) 0 (by kernel_rfl) rfl (by kernel_rfl) (fun _ _ _ h => h) (Or.inl ⟨by rfl, ?hyu0⟩) hK0 ?restu0
          case hyu0 =>
            intro w0 hSw
            (try dsimp only at hSw)
            go_simp
            all_goals (with_reducible rfl)
          (try simp only [Act.put, List.setIfInBounds_toArray, List.set_cons_zero, List.set_cons_succ])
          refine Kept.take (v := ?vu1) 1 (by kernel_rfl) rfl (by kernel_rfl) (fun _ _ _ h => h) (Or.inl ⟨by rfl, ?hyu1⟩) hK0 ?restu1
          case hyu1 =>
            intro w0 hSw
            (try dsimp only at hSw)
            go_simp
            all_goals (with_reducible rfl)
          (try simp only [Act.put, List.setIfInBounds_toArray, List.set_cons_zero, List.set_cons_succ])
          refine Kept.take (v := ?vu2) 2 (by kernel_rfl) rfl (by kernel_rfl) (fun _ _ _ h => h) (Or.inl ⟨by rfl, ?hyu2⟩) hK0 ?restu2
          case hyu2 =>
            intro w0 hSw
            (try dsimp only at hSw)
            go_simp
            all_goals (with_reducible rfl)
          (try simp only [Act.put, List.setIfInBounds_toArray, List.set_cons_zero, List.set_cons_succ])
          refine Kept.rg (sz := 45) (g := 2) [(3, 42)] [] (fun kO vals w' => match kO with
            | 3 => vals 3 = .int .i64 (q : Int)
            | _ => True) (by kernel_rfl) (by kernel_rfl) hK0 (fun _ _ _ h => h) ?hSRu ?hlocu ?hstepu ?hendu
          case hSRu =>
            intro k hk vals w1 w2 h hb
            simp only [List.map_cons, List.map_nil, List.mem_cons, List.not_mem_nil, or_false] at hk
            subst hk
            · exact h
          case hlocu =>
            intro k j hk hj hne hw vals v w1 h
            simp only [List.map_cons, List.map_nil, List.mem_cons, List.not_mem_nil, or_false] at hk hj
            subst hk hj
            exact absurd rfl hne
          case hstepu =>
            intro k t o hm ho vals wA hSA hpre
            simp only [List.mem_cons, List.not_mem_nil, or_false, Prod.mk.injEq] at hm
            obtain ⟨rfl, rfl⟩ := hm
            · have ho' := Option.some.inj ho
              subst ho'
              unfold RgStep
              rw [if_pos (by rfl)]
              intro K hK
              have hSw := hSA
              (try dsimp only at hSw)
              clear hpre
              simp only [fillA, Act.put, List.setIfInBounds_toArray, List.set_cons_zero, List.set_cons_succ]
              go_simp
              go_at_call 71
              refine (nodeOf_to y _ hy63 HPQ.out.2).mono ?_
              rintro e wB ⟨rfl, hb⟩
              have hK' := hK (.int .i64 (q : Int)) wB (hS hSA hb) hb (upd_self _ _ _) (fun h => absurd h (by decide))
              clear hK
              simp only [fillA, Act.put, List.setIfInBounds_toArray, List.set_cons_zero, List.set_cons_succ] at hK'
              go_simp
              all_goals exact hK'
          intro vals wE hSB hR hap
          have e3 : vals 3 = .int .i64 (q : Int) := hR 3 (by decide)
          simp only [fillA, Act.put, List.setIfInBounds_toArray, List.set_cons_zero, List.set_cons_succ]
          simp only [e3]
          clear hap hR e3
          refine Kept.tail (by rfl) (by kernel_rfl) ?_
          simp only [List.drop_succ_cons, List.drop_zero]
          have HE2 := Lib.hid hSB.1
          have q2 := hSB.2
          have HME := Lib.hid (HMD.out.below HE2.out)
          clear hSB hS0 hS
          obtain ⟨i1, x0', x1', x2', x3', v0', v1', s2, -⟩ := q2
          have sp2 := HME.out.shapeN (by rw [List.length_set]; exact HLEN.out) (show q < N by omega)
          have g0 := sp2.1
          have g1 := sp2.2
          clear j0 j1 j2 j3 j4 j5 j6 j7 sp2
          go_wp2
          refine OnlyN.normal ?_
          have HMF := Lib.hid (OwnsB.set HME.out (by rw [List.length_set]; exact HLEN.out) (show q < N by omega) true)
          obtain ⟨wF, hwF⟩ : ∃ wF, wF = wE.setCell ⟨G, q, none⟩ (.bool true) := ⟨_, rfl⟩
          rw [← hwF] at HMF ⊢
          have cf : ∀ b i v, b ≠ G → wE.cell? ⟨b, i, none⟩ = some v → wF.cell? ⟨b, i, none⟩ = some v := fun b i v hne h => by rw [hwF]; exact (World.cell?_setCell_other _ ⟨G, q, none⟩ ⟨b, i, none⟩ (.bool true) (by intro e; injection e with e; exact hne e.symm)).trans h
          have HKF := Lib.hid (show KeepsOthers W wF from HKD.out.trans ((keeps_below HE2.out).trans (by rw [hwF]; exact KeepsOthers.setCell _ _ _)))
          have HBF := Lib.hid (show Below w.heap.size W wF by rw [hwF]; exact bSet (p := ⟨G, q, none⟩) (HBD.out.trans (HE2.out.mono (by omega))) hG1.2 _)
          have HHF := Lib.hid (show wF.heap[Bs]? = W.heap[Bs]? by rw [hwF, Below.heap_setCell _ _ _ _ (fun e => nG.2.2.2 e), HE2.out.block Bs (by omega), HHD.out])
          have HFI := Lib.hid (And.intro (cf _ _ _ nG.1 i1) (And.intro (cf _ _ _ nG.2.2.2 s2) (And.intro (cf _ _ _ nG.2.1 x0') (And.intro (cf _ _ _ nG.2.1 x1') (And.intro (cf _ _ _ nG.2.1 x2') (cf _ _ _ nG.2.1 x3'))))))
          clear hwF cf i1 x0' x1' x2' x3' v0' v1' s2 g0 g1
          have e := HE.out
          rw [HPQ.out.1, HPQ.out.2] at e
          gi_wp2
          exact ⟨HKF.out.from _, ⟨HBF.out, HHF.out⟩, ⟨by rw [foldM_add, HMM.out, e]; exact HMF.out, HFI.out⟩, HBW.out.trans HBF.out⟩
      case done =>
        rintro D xs W hD rfl ⟨⟨hm, i0, s1, c0, c1, c2, c3⟩, hB⟩ hK
        rw [foldM_all] at hm
        have HM := Lib.hid hm
        have HBB := Lib.hid hB
        clear hm hB c0 c1 c2 c3 s1
        go_wp2
        refine ⟨by simp, .inl ⟨_, _, rfl, run_takeDeferred hK, ?_⟩⟩
        refine ⟨_, results_tmp rfl _ _ _, G, rfl, by rw [HM0.out]; exact ownsB_own _ _ (fun _ : Unit => markL n M0) () W _ _ HM.out (grownBy_putObj' W D _) (fun r e => by cases e; exact ⟨_, hK, rfl⟩), HBB.out.trans (belowK_b (w := w) (Nat.le_refl _) W D _ _ (by omega) hK rfl rfl)⟩
end Go.Proofs.Ytnobdbppechccaa
