/-
  Conjuncts: the program.
-/
import Derived.Test.YtiejilmgchmppaaBcA
import Derived.Test.YtiejilmgchmppaaOlI
import Derived.Test.YtiejilmgchmppaaNeC
import Derived.Test.YtiejilmgchmppaaHcP
import Derived.Deep.RegionHeld3
namespace Go.Proofs.Ytiejilmgchmppaa
open Go.RowKit
set_option linter.unusedVariables false
set_option linter.unusedSimpArgs false

attribute [local go_sem] Oper.semAt_some
theorem cone_set {M : List Bool} {k i : Nat} (hi : i < k) (hM : k ≤ M.length) (y : Int) : y ∈ coneK (M.set i true) k ↔ y = (i : Int) ∨ y ∈ coneK M k := by
  rw [cone_mem, cone_mem]
  constructor
  · rintro ⟨j, rfl, hj, hm⟩
    rw [getD_set] at hm
    by_cases e : i = j
    · subst e; exact .inl rfl
    · rw [if_neg (fun c => e c.1)] at hm; exact .inr ⟨j, rfl, hj, hm⟩
  · rintro (rfl | ⟨j, rfl, hj, hm⟩)
    · exact ⟨i, rfl, hi, by rw [getD_set, if_pos ⟨rfl, by omega⟩]⟩
    · refine ⟨j, rfl, hj, ?_⟩
      rw [getD_set]
      split
      · rfl
      · exact hm
theorem cone_unset {M : List Bool} {k i : Nat} (hM : k ≤ M.length) (y : Int) : y ∈ coneK (M.set i false) k ↔ y ≠ (i : Int) ∧ y ∈ coneK M k := by
  rw [cone_mem, cone_mem]
  constructor
  · rintro ⟨j, rfl, hj, hm⟩
    rw [getD_set] at hm
    by_cases e : i = j
    · subst e; rw [if_pos ⟨rfl, by omega⟩] at hm; cases hm
    · rw [if_neg (fun c => e c.1)] at hm; exact ⟨by omega, ⟨j, rfl, hj, hm⟩⟩
  · rintro ⟨hne, j, rfl, hj, hm⟩
    refine ⟨j, rfl, hj, ?_⟩
    rw [getD_set, if_neg (fun c => hne (by rw [c.1]))]
    exact hm
/-- The marks of a round. -/
def stepC (n : DNet) (M : List Bool) (j : Nat) : List Bool := match n.2.2.1[n.2.2.1.length - 1 - j]? with
  | some a => if M.getD (2 * (firN n + (n.2.2.1.length - 1 - j))) false = true then ((M.set (2 * (firN n + (n.2.2.1.length - 1 - j))) false).set a.1.toNat true).set a.2.toNat true else M
  | none => M
theorem stepC_len (n : DNet) (M : List Bool) (j : Nat) : (stepC n M j).length = M.length := by
  unfold stepC
  split
  · split <;> simp
  · rfl
def foldC (n : DNet) (M : List Bool) (xs : List (Rnd n.2.2.1.length)) : List Bool := xs.foldl (fun M x => stepC n M x.1) M
theorem foldC_add (n : DNet) (M : List Bool) (xs : List (Rnd n.2.2.1.length)) (x : Rnd n.2.2.1.length) : foldC n M (xs ++ [x]) = stepC n (foldC n M xs) x.1 := by simp [foldC]
theorem foldC_len (n : DNet) (xs : List (Rnd n.2.2.1.length)) : ∀ M : List Bool, (foldC n M xs).length = M.length := by
  unfold foldC
  induction xs with
  | nil => intro M; rfl
  | cons x xs ih => intro M; rw [List.foldl_cons, ih, stepC_len]
theorem foldC_take {n : DNet} {t : Nat} (ht : t < n.2.2.1.length) : ∀ k, k ≤ n.2.2.1.length → foldC n (oneL (2 * netN n) (2 * (firN n + t))) ((rnds n.2.2.1.length).take k) = cjK n t (t + 1 - (n.2.2.1.length - k))
  | 0, _ => by
    rw [show t + 1 - (n.2.2.1.length - 0) = 0 by omega]
    simp [foldC, cjK]
  | k + 1, h => by
    rw [rnds_step (by omega), foldC_add, foldC_take ht k (by omega)]
    dsimp only
    have hN : 2 * (firN n + t) < 2 * netN n := by unfold netN; omega
    by_cases c : n.2.2.1.length - 1 - k ≤ t
    · obtain ⟨j, hj⟩ : ∃ j, t + 1 - (n.2.2.1.length - k) = j := ⟨_, rfl⟩
      rw [hj, show t + 1 - (n.2.2.1.length - (k + 1)) = j + 1 by omega]
      conv => rhs; unfold cjK
      unfold stepC
      rw [show n.2.2.1.length - 1 - k = t - j by omega]
      rfl
    · rw [show t + 1 - (n.2.2.1.length - k) = 0 by omega, show t + 1 - (n.2.2.1.length - (k + 1)) = 0 by omega]
      have e0 : cjK n t 0 = oneL (2 * netN n) (2 * (firN n + t)) := rfl
      have hg : (cjK n t 0).getD (2 * (firN n + (n.2.2.1.length - 1 - k))) false = false := by rw [e0, oneL_get hN]; exact decide_eq_false (by omega)
      unfold stepC
      split
      · rw [if_neg (by rw [hg]; decide)]
      · rfl
theorem foldC_all {n : DNet} {t : Nat} (ht : t < n.2.2.1.length) : coneK (foldC n (oneL (2 * netN n) (2 * (firN n + t))) (rnds n.2.2.1.length)) (2 * netN n) = cjL n t := by
  have h := foldC_take ht n.2.2.1.length (Nat.le_refl _)
  rw [List.take_of_length_le (by rw [rnds_len]; exact Nat.le_refl _), Nat.sub_self, Nat.sub_zero] at h
  rw [h]; rfl
theorem stepC_hit {n : DNet} {M : List Bool} {j i x y : Nat} (hi : n.2.2.1.length - 1 - j = i) (h : n.2.2.1[i]? = some ((x : Int), (y : Int))) (hb : M.getD (2 * (firN n + i)) false = true) : stepC n M j = ((M.set (2 * (firN n + i)) false).set x true).set y true := by
  unfold stepC; rw [hi, h]; dsimp only; rw [if_pos hb]; rfl
theorem stepC_miss {n : DNet} {M : List Bool} {j i : Nat} {a : DAnd} (hi : n.2.2.1.length - 1 - j = i) (h : n.2.2.1[i]? = some a) (hb : M.getD (2 * (firN n + i)) false = false) : stepC n M j = M := by
  unfold stepC; rw [hi, h]; dsimp only; rw [if_neg (by rw [hb]; decide)]
section
variable {w w' : World} {g B : Nat} {v : Value} {L L' : List Int}
theorem row_cells {v : Value} {L : List Int} (h : OwnsI w B v L) {b : Nat} (hb : b ∈ blkL v) : ∃ cur t fz, w.heap[b]? = some (.cells cur t fz) := by
  have e := mem_blkL.1 hb
  rcases h.2 with ⟨rfl, _⟩ | ⟨g, cap, cur, rfl, _, hg, _⟩
  · cases e
  · injection e with e; subst e; exact ⟨_, _, _, hg⟩
theorem ListI.blk (h : ListI w g B v L) {b : Nat} (hb : b ∈ g :: blkL v) : B ≤ b ∧ b < w.heap.size ∧ ∃ cur t fz, w.heap[b]? = some (.cells cur t fz) := by
  rcases List.mem_cons.1 hb with rfl | hb
  · exact ⟨h.gB, h.lt, _, _, _, h.box⟩
  · exact ⟨(h.own.lt b (mem_blkL.1 hb)).1, (h.own.lt b (mem_blkL.1 hb)).2, row_cells h.own hb⟩
theorem ListI.keeps (h : ListI w g B v L) (hc : ChgL (g :: blkL v) w w') : KeepsOthers w w' := ⟨hc.size, fun k o hk ho => by
  by_cases hm : k ∈ g :: blkL v
  · obtain ⟨_, _, cur, t, fz, e⟩ := h.blk hm
    rw [e] at hk; cases hk; cases ho
  · exact (hc.block k (Array.getElem?_eq_some_iff.1 hk).1 hm).trans hk⟩
theorem ListI.chg (h : ListI w g B v L) (hc : ChgL (g :: blkL v) w w') {c : World} {N : Nat} (hb : Below N c w) (hN : N ≤ B) (hNw : N ≤ w.heap.size) : Below N c w' :=
  below_chgL hb hc (fun b hm => by have := (h.blk hm).1; omega) hNw
theorem chgL_cell {bs : List Nat} (hc : ChgL bs w w') {b i : Nat} {u : Value} (h : w.cell? ⟨b, i, none⟩ = some u) (hb : b ∉ bs) : w'.cell? ⟨b, i, none⟩ = some u :=
  (World.cell?_of_block (hc.block b (World.block_lt_of_cell? _ _ h) hb)).trans h
theorem listI_own {β : Type} (g B : Nat) (v : Value) (f : β → List Int) : Own (fun s W => ListI W g B v (f s)) := by
  intro s X Y row h hg hrow
  refine ⟨?_, ?_, h.gB, h.ne, h.fit, h.asc⟩
  · refine (hg.block g h.lt (fun e => ?_)).trans h.box
    obtain ⟨o, ho, hc⟩ := hrow g e.symm
    rw [h.box] at ho; cases ho; cases hc
  · refine World.ownsRow.kept h.own (row := row) hg ?_
    rcases h.own.2 with ⟨rfl, _⟩ | ⟨g', cap, cur, rfl, _, hgb, _⟩
    · exact .inl rfl
    · refine .inr (fun e => ?_)
      obtain ⟨o, ho, hc⟩ := hrow g' e.symm
      rw [hgb] at ho; cases ho; cases hc
theorem listI_eq (h : ListI w g B v L) (e : L = L') : ListI w g B v L' := e ▸ h
end
theorem store_func {P : Program} (W : World) (t : TypeId) :
    (store ⟨W.heap.size, 0, none⟩ (.func (.func 55) #[] #[])).run P (W.alloc (.cells #[.nilFunc, .slice none 0 0] t)) = .ok () ((W.alloc (.cells #[.nilFunc, .slice none 0 0] t)).setCell ⟨W.heap.size, 0, none⟩ (.func (.func 55) #[] #[])) ∧
    ((W.alloc (.cells #[.nilFunc, .slice none 0 0] t)).setCell ⟨W.heap.size, 0, none⟩ (.func (.func 55) #[] #[])).cell? ⟨W.heap.size, 1, none⟩ = some (.slice none 0 0) ∧
    ((W.alloc (.cells #[.nilFunc, .slice none 0 0] t)).setCell ⟨W.heap.size, 0, none⟩ (.func (.func 55) #[] #[])).frozen? ⟨W.heap.size, 1, none⟩ = false := by
  have hr : (W.alloc (.cells #[.nilFunc, .slice none 0 0] t)).heap[W.heap.size]? = some (.cells #[.nilFunc, .slice none 0 0] t (0, 0)) := heap_alloc_new _ _
  have h0 := box_cell hr 0 _ rfl
  have h1 := box_cell hr 1 _ rfl
  refine ⟨?_, (World.cell?_setCell_other _ ⟨W.heap.size, 0, none⟩ ⟨W.heap.size, 1, none⟩ _ (by intro e; injection e with e1 e2; cases e2)).trans h1, ?_⟩
  · rw [run_store P _ _ _ _ rfl, h0, frozen_of_row _ _ 0 _ _ hr]
    rfl
  · rw [World.frozen?_setCell]; exact frozen_of_row _ _ 1 _ _ hr
theorem litOfB_at (k : Nat) (hk : k ≤ 1000000) (w : World) :
    Calls Try.prog 57 #[.int .i64 (k : Int)] w fun e w' => e = .returned (.int .i64 ((2 * k : Nat) : Int)) ∧ w = w' := by
  go_enter Try.func57, Try.ntmps57
  go_wp2
  go_ret
  exact ⟨ret_i64 (by go_num), rfl⟩
set_option maxRecDepth 100000 in
set_option maxHeartbeats 25600000 in
theorem implConjs_at (n : DNet) (t : Nat) (us : List Value) (w : World) (h : rdNet 0 w.heap.size w us n) (hP : NetP n) (ht : t < n.2.2.1.length) {f0 : Nat} (hf0 : firN n + t = f0) :
    Calls Try.prog 33 #[.agg us.toArray, .int .i64 (f0 : Int)] w fun e w' => ∃ v, e = .returned v ∧ OwnsI w' w.heap.size v (cjL n t) ∧ Below w.heap.size w w' := by
  have HD := Lib.hid h
  have HP := Lib.hid hP
  have HSP := Lib.hid hP.sz
  have a300 := hP.sz.a300
  have f33 := hP.sz.fir_le
  obtain ⟨N, hN⟩ : ∃ N : Nat, 2 * netN n = N := ⟨_, rfl⟩
  have hN3 : N ≤ 666 ∧ 2 * f0 < N := by have := hP.sz.net_le; unfold netN at *; omega
  obtain ⟨z0, hz0⟩ : ∃ z : Nat, 2 * f0 = z := ⟨_, rfl⟩
  have HN := Lib.hid hN
  have HF0 := Lib.hid hf0
  have HZ0 := Lib.hid hz0
  have HT := Lib.hid ht
  have hzN : z0 < N := by omega
  have h2z : (2 : Int) * (f0 : Int) = (z0 : Int) := by omega
  have hf1000 : f0 ≤ 1000000 := by omega
  clear hP hN hf0 hz0
  obtain ⟨mu0, mu1, mu2, mu3, rfl, mh0, mh1, mh2, mh3⟩ := h
  obtain ⟨me0, -⟩ := mh0
  injection me0 with me0
  subst me0
  obtain ⟨mA1, mc1, me1, mm1, -⟩ := slice_of mh1
  subst me1
  have mR1 := Lib.hid mh1
  clear mh1
  obtain ⟨mA2, mc2, me2, mm2, -⟩ := slice_of mh2
  subst me2
  have mR2 := Lib.hid mh2
  clear mh2
  obtain ⟨mA3, mc3, me3, mm3, -⟩ := slice_of mh3
  subst me3
  have mR3 := Lib.hid mh3
  clear mh3
  refine calls_marks 6 Try.func33 rfl ?_
  simp only [Try.ntmps33, List.size_toArray, List.length_cons, List.length_nil, Nat.reduceAdd, Nat.reduceSub, Array.replicate_succ, Array.replicate_zero, List.push_toArray, List.append_toArray, List.nil_append, List.cons_append]
  have hst := store_func (P := Try.prog) (w.alloc (.cells #[.int .i64 n.1, .slice mA1 (n.2.1).length mc1, .slice mA2 (n.2.2.1).length mc2, .slice mA3 (n.2.2.2).length mc3] 28)) 80
  rw [show (w.alloc (.cells #[.int .i64 n.1, .slice mA1 (n.2.1).length mc1, .slice mA2 (n.2.2.1).length mc2, .slice mA3 (n.2.2.2).length mc3] 28)).heap.size = w.heap.size + 1 by simp] at hst
  obtain ⟨hst1, hst2, hst3⟩ := hst
  go_wp2_with fail
  obtain ⟨W0, hV⟩ : ∃ W0, W0 = (w.alloc (.cells #[.int .i64 n.1, .slice mA1 (n.2.1).length mc1, .slice mA2 (n.2.2.1).length mc2, .slice mA3 (n.2.2.2).length mc3] 28)).alloc (.cells #[.func (.func 55) #[] #[], .slice none 0 0] 80) := ⟨_, rfl⟩
  rw [← hV]
  have gN := eqbox2 hV
  have d0 : W0.cell? ⟨w.heap.size, 0, none⟩ = some (.int .i64 n.1) := box_cell gN.1 0 _ rfl
  have d1 : W0.cell? ⟨w.heap.size, 1, none⟩ = some (.slice mA1 (n.2.1).length mc1) := box_cell gN.1 1 _ rfl
  have d2 : W0.cell? ⟨w.heap.size, 2, none⟩ = some (.slice mA2 (n.2.2.1).length mc2) := box_cell gN.1 2 _ rfl
  have d3 : W0.cell? ⟨w.heap.size, 3, none⟩ = some (.slice mA3 (n.2.2.2).length mc3) := box_cell gN.1 3 _ rfl
  have HW0 := Lib.hid gN.2.2
  have sW0 : W0.heap.size = w.heap.size + 2 := by rw [hV]; simp
  obtain ⟨g, hg⟩ : ∃ g, w.heap.size + 1 = g := ⟨_, rfl⟩
  have HL0 : ListI W0 g g (.slice none 0 0) [] := ⟨hg ▸ gN.2.1, own_nilI _ _, Nat.le_refl _, (by intro e; cases e), (by intro x hx; cases hx), List.Pairwise.nil⟩
  have hgw : w.heap.size < g := by omega
  rw [hg]
  clear hV gN hst1 hst2 hst3
  refine (litOfB_at f0 hf1000 _).mono ?_
  rintro e w' ⟨rfl, rfl⟩
  rw [HZ0.out]
  go_wp2_with fail
  refine (addI_at g g _ [] (z0 : Int) _ HL0 (by omega) (by unfold Fit; omega) (by simp)).mono ?_
  rintro e w1 ⟨rfl, L1, ⟨v1, hL1, hc1, hn1⟩, hm1, -⟩
  obtain ⟨M0, hM0⟩ : ∃ M0, oneL N z0 = M0 := ⟨_, rfl⟩
  have hML : M0.length = N := by rw [← hM0]; simp [oneL]
  have e1 : L1 = coneK M0 N := asc_ext hL1.asc (cone_asc _ _) fun y => by
    rw [hm1, cone_mem]
    constructor
    · rintro (rfl | h)
      · exact ⟨z0, rfl, hzN, by rw [← hM0, oneL_get hzN]; simp⟩
      · cases h
    · rintro ⟨i, rfl, hi, hmi⟩
      rw [← hM0, oneL_get hzN] at hmi
      exact .inl (by rw [of_decide_eq_true hmi])
  subst e1
  have hW01 := HL0.chg hc1 HW0.out (N := w.heap.size) (by omega) (by omega)
  have hdc : ∀ i u, W0.cell? ⟨w.heap.size, i, none⟩ = some u → w1.cell? ⟨w.heap.size, i, none⟩ = some u := fun i u h => chgL_cell hc1 h (by simp [blkL_nil]; omega)
  replace d0 := hdc _ _ d0
  replace d1 := hdc _ _ d1
  replace d2 := hdc _ _ d2
  replace d3 := hdc _ _ d3
  have hs01 := hc1.size
  have HL1 := Lib.hid hL1
  have HB1 := Lib.hid hW01
  have hv1 := fun b hb => (hL1.blk (b := b) hb).2.1
  have HM0 := Lib.hid hM0
  have HML := Lib.hid hML
  clear hdc hL1 hc1 hn1 hm1 HL0 hW01 hM0 hML
  go_wp2_with fail
  refine (backward_at _ _ _ _).mono ?_
  rintro e w' ⟨rfl, rfl⟩
  obtain ⟨W2, hV⟩ : ∃ W2, W2 = w1.alloc (.cells #[.slice mA2 n.2.2.1.length mc2] 25) := ⟨_, rfl⟩
  rw [← hV]
  have gN := eqbox1 hV
  have s0 : W2.cell? ⟨w1.heap.size, 0, none⟩ = some (.slice mA2 n.2.2.1.length mc2) := box_cell gN.1 0 _ rfl
  have HL2 := Lib.hid (HL1.out.below gN.2)
  have HB2 := Lib.hid (bThen HB1.out gN.2)
  have sW2 : W2.heap.size = w1.heap.size + 1 := by rw [hV]; simp
  replace d0 := keep gN.2 d0
  replace d1 := keep gN.2 d1
  replace d2 := keep gN.2 d2
  replace d3 := keep gN.2 d3
  obtain ⟨Bs, hBs⟩ : ∃ Bs, w1.heap.size = Bs := ⟨_, rfl⟩
  rw [hBs] at s0 sW2 hv1 hs01 ⊢
  have hGs : w.heap.size < Bs := by omega
  have hgs : g < Bs := by omega
  have hvs : v1.ownBlock ≠ some Bs := fun e => by have := hv1 Bs (List.mem_cons_of_mem _ (mem_blkL.2 e)); omega
  clear hV gN hBs HL1 HB1 hv1
  go_wp2
  refine (wpIn_wide (n := 6)).1 ?_
  refine rangeBox (bx := fun x b W => Bs < b ∧ W.heap[b]? = some (.cells #[.int .i64 (n.2.2.1.getD (n.2.2.1.length - 1 - x.1) (0, 0)).1, .int .i64 (n.2.2.1.getD (n.2.2.1.length - 1 - x.1) (0, 0)).2] 53 (0, 0)))
    (setA := fun t x b => ((((t.setIfInBounds 15 (.int .i64 ((n.2.2.1.length : Int) - 1 - x.1))).setIfInBounds 16 (.agg #[.int .i64 (n.2.2.1.getD (n.2.2.1.length - 1 - x.1) (0, 0)).1, .int .i64 (n.2.2.1.getD (n.2.2.1.length - 1 - x.1) (0, 0)).2])).setIfInBounds 6 (.int .i64 ((n.2.2.1.length : Int) - 1 - x.1))).setIfInBounds 7 (.pointer (some ⟨b, 0, none⟩))))
    (gf := 72) (lb := #[.pointer (some ⟨Bs, 0, none⟩)]) rfl (by omega) rfl trivial (enters_of Try.func72 (by kernel_rfl) rfl)
    (back_stops Fence.wide 5 trivial rfl (by omega) Bs w.heap.size mA2 mc2 n.2.2.1 (by omega) W2 (by omega) (by omega) s0 (good_AndS.below mR2.out (Nat.le_refl _) HB2.out))
    keepB_t (keepB_b (by omega) (by omega)) (Below.refl _ _) (fun _ => rfl)
    (I := fun pre W => (∃ v, ListI W g g v (coneK (foldC n M0 pre) N) ∧ v.ownBlock ≠ some Bs) ∧ (W.cell? ⟨Bs, 0, none⟩ = some (.slice mA2 n.2.2.1.length mc2) ∧ W.cell? ⟨w.heap.size, 0, none⟩ = some (.int .i64 n.1) ∧ W.cell? ⟨w.heap.size, 1, none⟩ = some (.slice mA1 (n.2.1).length mc1) ∧ W.cell? ⟨w.heap.size, 2, none⟩ = some (.slice mA2 (n.2.2.1).length mc2) ∧ W.cell? ⟨w.heap.size, 3, none⟩ = some (.slice mA3 (n.2.2.2).length mc3)) ∧ Below w.heap.size w W)
    (hI := OwnFrom.and (fun s A B row hs hg' hr => by obtain ⟨v, hv, hne⟩ := hs; exact ⟨v, (Own.from (listI_own g g v fun pre => coneK (foldC n M0 pre) N) _) s A B row hv hg' hr, hne⟩) (OwnFrom.and (Own.from (fun s A B row hs hg' hr => ⟨cell_kept hs.1 hg' hr, cell_kept hs.2.1 hg' hr, cell_kept hs.2.2.1 hg' hr, cell_kept hs.2.2.2.1 hg' hr, cell_kept hs.2.2.2.2 hg' hr⟩) _) (ownFrom_below (Nat.le_refl _) (by omega))))
    (h0 := ⟨⟨v1, HL2.out, hvs⟩, ⟨s0, d0, d1, d2, d3⟩, HB2.out⟩)
    (hbx := fun x b => Own.from (fun s A B row hs hg' hr => ⟨hs.1, (hg'.block b (Array.getElem?_eq_some_iff.1 hs.2).1 (fun e => by obtain ⟨o, ho, hc⟩ := hr b e.symm; rw [hs.2] at ho; cases ho; cases hc)).trans hs.2⟩) _) ?assign ?body ?done
  case assign =>
    rintro l pre x W K ⟨⟨v, hl, hne⟩, ⟨s1, c0, c1, c2, c3⟩, hB⟩ hK
    have hB' := hB
    have hsz := hB.size
    unfold backV
    gi_wp2
    have hba : Below W.heap.size W (W.alloc (.cells #[.int .i64 (n.2.2.1.getD (n.2.2.1.length - 1 - x.1) (0, 0)).1, .int .i64 (n.2.2.1.getD (n.2.2.1.length - 1 - x.1) (0, 0)).2] 53)) := bAlloc (Below.refl _ _) (Nat.le_refl _) _
    have hr := World.alloc_heap_new W (.cells #[.int .i64 (n.2.2.1.getD (n.2.2.1.length - 1 - x.1) (0, 0)).1, .int .i64 (n.2.2.1.getD (n.2.2.1.length - 1 - x.1) (0, 0)).2] 53)
    have lts := World.block_lt_of_cell? _ _ s1
    exact hK W.heap.size _ ((KeepsOthers.alloc _ _).from _) ⟨hba.mono hsz, hba.block Bs lts⟩ ⟨⟨v, hl.below hba, hne⟩, ⟨keep hba s1, keep hba c0, keep hba c1, keep hba c2, keep hba c3⟩, bThen hB hba⟩ ⟨lts, hr⟩
  case body =>
    rintro l pre x b W ⟨⟨v, hl, hne⟩, ⟨s1, c0, c1, c2, c3⟩, hB⟩ ⟨hb, yr⟩ hlt
    simp only [List.setIfInBounds_toArray, List.set_cons_zero, List.set_cons_succ]
    obtain ⟨j, hjl⟩ := x
    dsimp only at yr ⊢
    obtain ⟨i, hi⟩ : ∃ i, n.2.2.1.length - 1 - j = i := ⟨_, rfl⟩
    have hil : i < n.2.2.1.length := by omega
    have hie : ((n.2.2.1.length : Int) - 1 - j) = (i : Int) := by omega
    obtain ⟨a, ha⟩ : ∃ a, n.2.2.1[i]? = some a := ⟨_, List.getElem?_eq_getElem hil⟩
    have hd : n.2.2.1.getD (n.2.2.1.length - 1 - j) (0, 0) = a := by rw [hi, List.getD_eq_getElem?_getD, ha]; rfl
    obtain ⟨x, y, rfl, hx, hy⟩ := HP.out.and_ i a ha
    rw [hd] at yr
    rw [hd, hie]
    dsimp only at yr ⊢
    have y0 := box_cell yr 0 _ rfl
    have y1 := box_cell yr 1 _ rfl
    obtain ⟨MM, hMM⟩ : ∃ MM, foldC n M0 pre = MM := ⟨_, rfl⟩
    have hlen : MM.length = N := by rw [← hMM, foldC_len, HML.out]
    rw [hMM] at hl
    obtain ⟨f, hf⟩ : ∃ f, firN n + i = f := ⟨_, rfl⟩
    obtain ⟨z, hz⟩ : ∃ z, 2 * f = z := ⟨_, rfl⟩
    have hfN : 2 * f < N := by have := HN.out; unfold netN at this; omega
    have HL := Lib.hid hl
    have HBW := Lib.hid hB
    have HNE := Lib.hid hne
    have HMM := Lib.hid hMM
    have HA := Lib.hid ha
    have HI := Lib.hid hi
    have HF := Lib.hid hf
    have HZ := Lib.hid hz
    have hxN : x < N := by have := HN.out; unfold netN at this; omega
    have hyN : y < N := by have := HN.out; unfold netN at this; omega
    have hzN' : z < N := by omega
    have hk3 : i ≤ 300 := by omega
    have hf6 : f ≤ 1000000 := by omega
    have ltB : Bs < W.heap.size := World.block_lt_of_cell? _ _ s1
    have ltb : b < W.heap.size := World.block_lt_of_cell? _ _ y0
    have HVB := Lib.hid (show v.ownBlock ≠ some b from fun e => by
      rcases hl.own.2 with ⟨e2, _⟩ | ⟨g', cap, cur, e2, _, hgb, _⟩
      · rw [e2] at e; cases e
      · rw [e2] at e
        have e3 : g' = b := by injection e
        rw [e3, yr] at hgb; injection hgb with hgb; injection hgb with h1 h2 h3; cases h2)
    have hlc : (coneK MM N).length ≤ 666 := Nat.le_trans (coneK_len _ _) (by omega)
    clear hl hB hne hMM ha hi hf hz hd hie hx hy
    gi_wp2
    refine ⟨trivial, CallsIn.inRound l (callsIn_wide.2 ((andNode_to n i _ _ (rdUp good_Net HD.out HBW.out) (Nat.le_refl _) HSP.out hk3 HF.out).mono ?_))⟩
    rintro e w3 ⟨rfl, hb3⟩
    replace c0 := keep hb3 c0
    replace c1 := keep hb3 c1
    replace c2 := keep hb3 c2
    replace c3 := keep hb3 c3
    replace s1 := keep hb3 s1
    replace y0 := keep hb3 y0
    replace y1 := keep hb3 y1
    have HL3 := Lib.hid (HL.out.below hb3)
    have HB3 := Lib.hid hb3
    have hs3 := hb3.size
    clear hb3
    gi_wp2
    refine ⟨trivial, CallsIn.inRound l (callsIn_wide.2 ((litOfB_at f hf6 _).mono ?_))⟩
    rintro e w' ⟨rfl, rfl⟩
    rw [HZ.out]
    gi_wp2
    refine ⟨trivial, CallsIn.inRound l (callsIn_wide.2 ((remI_at g g v (coneK MM N) (z : Int) w3 HL3.out (by have := HL3.out.lt; omega) (by omega)).mono ?_))⟩
    rintro e w4 ⟨rfl, L4, ⟨v4, hL4, hc4, hn4⟩, hm4, hl4⟩
    have hN4 := HL3.out
    have off : ∀ {c : Nat} {v : Value}, c ≠ g → v.ownBlock ≠ some c → c ∉ g :: blkL v := fun {c v} h1 h2 hm => by
      rcases List.mem_cons.1 hm with e | e
      · exact h1 e
      · exact h2 (mem_blkL.1 e)
    have nxt : ∀ {c S : Nat} {v v' : Value}, (∀ b ∈ blkL v', b ∈ blkL v ∨ S ≤ b) → v.ownBlock ≠ some c → c < S → v'.ownBlock ≠ some c := fun {c S v v'} hn h1 h2 e => by
      rcases hn c (mem_blkL.2 e) with h3 | h3
      · exact h1 (mem_blkL.1 h3)
      · omega
    have lw : ∀ {v : Value} {L : List Int} {w3 : World}, ListI w3 g g v L → v.ownBlock ≠ some w.heap.size := fun {v L w3} hl e => by have := (hl.own.lt _ e).1; omega
    have OFF := Lib.hid (show Bs ≠ g ∧ b ≠ g ∧ w.heap.size ≠ g from ⟨by omega, by omega, by omega⟩)
    have k4 := chgL_cell hc4 c0 (off OFF.out.2.2 (lw hN4))
    have k5 := chgL_cell hc4 c1 (off OFF.out.2.2 (lw hN4))
    have k6 := chgL_cell hc4 c2 (off OFF.out.2.2 (lw hN4))
    have k7 := chgL_cell hc4 c3 (off OFF.out.2.2 (lw hN4))
    have t4 := chgL_cell hc4 s1 (off OFF.out.1 HNE.out)
    have x4 := chgL_cell hc4 y0 (off OFF.out.2.1 HVB.out)
    have x5 := chgL_cell hc4 y1 (off OFF.out.2.1 HVB.out)
    have hs4 := hc4.size
    have HNE4 := Lib.hid (nxt hn4 HNE.out (show Bs < w3.heap.size by omega))
    have HVB4 := Lib.hid (nxt hn4 HVB.out (show b < w3.heap.size by omega))
    have HK4 := Lib.hid (show KeepsOthers W w4 from (keeps_below HB3.out).trans (hN4.keeps hc4))
    have HB4 := Lib.hid (show Below w.heap.size W w4 from hN4.chg hc4 (HB3.out.mono HBW.out.size) (by omega) (by have := HBW.out.size; omega))
    have HH4 := Lib.hid (show w4.heap[Bs]? = W.heap[Bs]? from (hc4.block Bs (by omega) (off OFF.out.1 HNE.out)).trans (HB3.out.block Bs ltB))
    have HL4 := Lib.hid hL4
    clear hN4 hc4 hn4 c0 c1 c2 c3 s1 y0 y1 hL4
    have hzm : (z : Int) ∈ coneK MM N ↔ MM.getD z false = true := by rw [cone_nat]; exact ⟨fun h => h.2, fun h => ⟨hzN', h⟩⟩
    obtain ⟨bt, hbt⟩ : ∃ bt, MM.getD z false = bt := ⟨_, rfl⟩
    have HMB := Lib.hid (show MM.getD (2 * (firN n + i)) false = bt by rw [HF.out, HZ.out]; exact hbt)
    cases bt with
    | false =>
      have hd : decide ((z : Int) ∈ coneK MM N) = false := decide_eq_false (by rw [hzm, hbt]; decide)
      rw [hd]
      have he : L4 = coneK MM N := asc_ext HL4.out.asc (cone_asc _ _) fun y => by
        rw [hm4]
        exact ⟨fun h => h.2, fun h => ⟨fun e => (by rw [e, hzm, hbt] at h; cases h), h⟩⟩
      subst he
      have HE := Lib.hid (stepC_miss HI.out HA.out HMB.out)
      clear hm4 hl4 hd hzm hbt x4 x5
      gi_wp2
      exact ⟨HK4.out.from _, ⟨HB4.out, HH4.out⟩, ⟨_, by rw [foldC_add, HMM.out, HE.out]; exact HL4.out, HNE4.out⟩, ⟨t4, k4, k5, k6, k7⟩, HBW.out.trans HB4.out⟩
    | true =>
      have hd : decide ((z : Int) ∈ coneK MM N) = true := decide_eq_true (by rw [hzm, hbt])
      rw [hd]
      have he : L4 = coneK (MM.set z false) N := asc_ext HL4.out.asc (cone_asc _ _) fun y => by
        rw [hm4, cone_unset (by omega)]
      subst he
      have HE := Lib.hid (stepC_hit HI.out HA.out HMB.out)
      have hz5 : (MM.set z false).length = N := by rw [List.length_set]; exact hlen
      have hz6 : ((MM.set z false).set x true).length = N := by rw [List.length_set]; exact hz5
      clear hm4 hl4 hd hzm hbt
      gi_wp2
      refine ⟨trivial, CallsIn.inRound l (callsIn_wide.2 ((addI_at g g v4 (coneK (MM.set z false) N) (x : Int) w4 HL4.out (by have := HL4.out.lt; omega) (by unfold Fit; omega) (Nat.le_trans (coneK_len _ _) (by omega))).mono ?_))⟩
      rintro e w5 ⟨rfl, L5, ⟨v5, hL5, hc5, hn5⟩, hm5, -⟩
      have he : L5 = coneK ((MM.set z false).set x true) N := asc_ext hL5.asc (cone_asc _ _) fun y => by rw [hm5, cone_set hxN (by omega)]
      subst he
      have hN5 := HL4.out
      replace k4 := chgL_cell hc5 k4 (off OFF.out.2.2 (lw hN5))
      replace k5 := chgL_cell hc5 k5 (off OFF.out.2.2 (lw hN5))
      replace k6 := chgL_cell hc5 k6 (off OFF.out.2.2 (lw hN5))
      replace k7 := chgL_cell hc5 k7 (off OFF.out.2.2 (lw hN5))
      replace t4 := chgL_cell hc5 t4 (off OFF.out.1 HNE4.out)
      replace x5 := chgL_cell hc5 x5 (off OFF.out.2.1 HVB4.out)
      have hs5 := hc5.size
      have HNE5 := Lib.hid (nxt hn5 HNE4.out (show Bs < w4.heap.size by omega))
      have HK5 := Lib.hid (show KeepsOthers W w5 from HK4.out.trans (hN5.keeps hc5))
      have HB5 := Lib.hid (show Below w.heap.size W w5 from hN5.chg hc5 HB4.out (by omega) (by have := HBW.out.size; omega))
      have HH5 := Lib.hid (show w5.heap[Bs]? = W.heap[Bs]? from (hc5.block Bs (by omega) (off OFF.out.1 HNE4.out)).trans HH4.out)
      have HL5 := Lib.hid hL5
      clear hN5 hc5 hn5 hL5 hm5 x4
      gi_wp2
      refine ⟨trivial, CallsIn.inRound l (callsIn_wide.2 ((addI_at g g v5 (coneK ((MM.set z false).set x true) N) (y : Int) w5 HL5.out (by have := HL5.out.lt; omega) (by unfold Fit; omega) (Nat.le_trans (coneK_len _ _) (by omega))).mono ?_))⟩
      rintro e w6 ⟨rfl, L6, ⟨v6, hL6, hc6, hn6⟩, hm6, -⟩
      have he : L6 = coneK (((MM.set z false).set x true).set y true) N := asc_ext hL6.asc (cone_asc _ _) fun u => by rw [hm6, cone_set hyN (by omega)]
      subst he
      have hN6 := HL5.out
      replace k4 := chgL_cell hc6 k4 (off OFF.out.2.2 (lw hN6))
      replace k5 := chgL_cell hc6 k5 (off OFF.out.2.2 (lw hN6))
      replace k6 := chgL_cell hc6 k6 (off OFF.out.2.2 (lw hN6))
      replace k7 := chgL_cell hc6 k7 (off OFF.out.2.2 (lw hN6))
      replace t4 := chgL_cell hc6 t4 (off OFF.out.1 HNE5.out)
      have HNE6 := Lib.hid (nxt hn6 HNE5.out (show Bs < w5.heap.size by omega))
      have HK6 := Lib.hid (show KeepsOthers W w6 from HK5.out.trans (hN6.keeps hc6))
      have HB6 := Lib.hid (show Below w.heap.size W w6 from hN6.chg hc6 HB5.out (by omega) (by have := HBW.out.size; omega))
      have HH6 := Lib.hid (show w6.heap[Bs]? = W.heap[Bs]? from (hc6.block Bs (by omega) (off OFF.out.1 HNE5.out)).trans HH5.out)
      have HL6 := Lib.hid hL6
      have e9 := HE.out
      rw [HF.out, HZ.out] at e9
      have HE9 := Lib.hid e9
      clear hN6 hc6 hn6 hL6 hm6 x5 e9
      gi_wp2
      exact ⟨HK6.out.from _, ⟨HB6.out, HH6.out⟩, ⟨_, by rw [foldC_add, HMM.out, HE9.out]; exact HL6.out, HNE6.out⟩, ⟨t4, k4, k5, k6, k7⟩, HBW.out.trans HB6.out⟩
  case done =>
    rintro D xs W hD rfl ⟨⟨v, hl, -⟩, -, hB⟩ hK
    have HL := Lib.hid hl
    have HBB := Lib.hid hB
    have hbx := hl.box
    have l1 := box_cell hl.box 1 _ rfl
    clear hl hB hbx
    go_wp2
    refine ⟨by simp, .inl ⟨_, _, rfl, run_takeDeferred hK, ?_⟩⟩
    have he : coneK (foldC n M0 (rnds n.2.2.1.length)) N = cjL n t := by
      rw [← HM0.out, ← HN.out, ← HZ0.out, ← HF0.out]; exact foldC_all HT.out
    have hown : OwnsI W w.heap.size v (cjL n t) := by rw [← he]; exact HL.out.own.lower (by omega)
    refine ⟨_, results_tmp rfl _ _ _, v, rfl, World.ownsRow.kept hown (grownBy_putObj' W D _) ?_, HBB.out.trans (belowK_b (w := w) (Nat.le_refl _) W D _ _ (by omega) hK rfl rfl)⟩
    rcases hown.2 with ⟨rfl, _⟩ | ⟨g', cap, cur, rfl, _, hgb, _⟩
    · exact .inl rfl
    · refine .inr (fun e => ?_)
      injection e with e
      rw [← e, hgb] at hK; cases hK
end Go.Proofs.Ytiejilmgchmppaa
