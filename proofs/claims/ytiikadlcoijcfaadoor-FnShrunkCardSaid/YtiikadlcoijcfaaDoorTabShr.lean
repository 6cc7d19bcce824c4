/-
  Truth tables: the shrunk table.
-/
import Derived.Test.YtiikadlcoijcfaaDoorSpread
namespace Go.Proofs.YtiikadlcoijcfaaDoor
open Go.RowKit
set_option linter.unusedVariables false
set_option linter.unusedSimpArgs false

/-- The shrunk table. -/
def shrT (n b : Int) : Value := if okB n b then T (supN n b).length (shrB b.toNat (supN n b)) else T 0 0
/-- The post of TableShrink. -/
def ShrPost (n b : Int) (w : World) (e : Ending) (w' : World) : Prop := ∃ v, e = .returned (.tuple #[shrT n b, v]) ∧ OwnsI w' w.heap.size v (supI n b 4) ∧ Below w.heap.size w w'
theorem shrT_no {n b : Int} (h : okB n b = false) : shrT n b = .agg #[.int .i64 0, .int .i64 0] := by unfold shrT; rw [h]; rfl
theorem shrT_yes {N B : Nat} (h : okB N B = true) : shrT N B = .agg #[.int .i64 ((supN N B).length : Nat), .int .i64 (shrB B (supN N B) : Nat)] := by unfold shrT; rw [h]; rfl
theorem shrT_shape (n b : Int) : ∃ x y : Int, shrT n b = .agg #[.int .i64 x, .int .i64 y] := by
  unfold shrT T; split
  · exact ⟨_, _, rfl⟩
  · exact ⟨_, _, rfl⟩
/-- A row that another block's cell does not touch. -/
theorem own_set {w : World} {B g i : Nat} {v u : Value} {L : List Int} (h : OwnsI w B v L) (hne : v.ownBlock ≠ some g) : OwnsI (w.setCell ⟨g, i, none⟩ u) B v L :=
  h.kept (row := some g) ⟨rfl, rfl, rfl, by simp, fun k hk hne => Below.heap_setCell w _ _ k (by intro e; exact hne (by rw [e]))⟩ (by
    cases hv : v.ownBlock with
    | none => exact .inl rfl
    | some j => exact .inr (fun e => hne (by rw [hv, e])))
theorem implEval_at (n b i : Int) {d : Bool} (w : World) (hd : evalB n b i = d) :
    Calls Tryd.prog 18 #[.agg #[.int .i64 n, .int .i64 b], .int .i64 i] w fun e w' => e = .returned (.bool d) ∧ Below w.heap.size w w' := by
  subst hd; exact implEval_any n b i w
theorem implOk_at (n b : Int) {v : Bool} (w : World) (h : okB n b = v) : Calls Tryd.prog 19 #[.agg #[.int .i64 n, .int .i64 b]] w fun e w' => e = .returned (.bool v) ∧ Below w.heap.size w w' := by
  subst h; exact implOk_any n b w
theorem grow_own {w : World} {B : Nat} {v : Value} {L : List Int} (h : OwnsI w B v L) (d : Nat) (os : Array Obj) : OwnsI (Sort.grow (redrawn w d) os) B v L := h.below (below_regrown w d os)
theorem grow_heap {w : World} {g : Nat} {x : Obj} (h : w.heap[g]? = some x) (d : Nat) (os : Array Obj) : (Sort.grow (redrawn w d) os).heap[g]? = some x := by
  rw [(below_regrown w d os).block g (Array.getElem?_eq_some_iff.1 h).1]; exact h

set_option maxHeartbeats 6400000 in
theorem implShr_no (n b : Int) (w : World) (hok : okB n b = false) : Calls Tryd.prog 20 #[T n b] w (ShrPost n b w) := by
  unfold T
  go_enter Tryd.func20, Tryd.ntmps20
  go_wp2_with fail
  refine (implOk_at n b _ hok).mono ?_
  rintro e w1 ⟨rfl, hb⟩
  have g := box2 hb
  have hr := g.2.1
  have r0 : w1.cell? ⟨w.heap.size + 1, 0, none⟩ = some (.int .i64 0) := box_cell hr 0 _ rfl
  have r1 : w1.cell? ⟨w.heap.size + 1, 1, none⟩ = some (.int .i64 0) := box_cell hr 1 _ rfl
  have y0 : w1.frozen? ⟨w.heap.size + 1, 0, none⟩ = false := frozen_of_row w1 _ 0 _ _ hr
  have y1 : w1.frozen? ⟨w.heap.size + 1, 1, none⟩ = false := frozen_of_row w1 _ 1 _ _ hr
  have HB := Lib.hid g.2.2
  clear hb g hr
  go_wp2
  ((try simp only [Exit.inBlock, Exit.then]); refine bodyPost_ret (v := (.tuple #[.agg #[.int .i64 0, .int .i64 0], .slice none 0 0])) (by rw [results_cell_tmp rfl]; go_simp) rfl ?_)
  have hB := HB.out
  exact ⟨_, by rw [shrT_no hok], by rw [supI_bad n b hok]; exact own_nilI _ _, by (repeat' (first | assumption | exact Below.refl _ _ | refine bDrewN ?_ _ | refine Below.drew ?_ | refine bAlloc ?_ (Nat.le_refl _) _ | refine bSet ?_ (by first | exact Nat.le_refl _ | omega | (simp <;> omega)) _))⟩

set_option maxHeartbeats 6400000 in
theorem implShr_yes (N B : Nat) (w : World) (hI : InB w) (hok : okB N B = true) (hN : N ≤ 4) (hB2 : B ≤ 65535) : Calls Tryd.prog 20 #[T N B] w (ShrPost N B w) := by
  have hL := inp_sup N B hN
  unfold ShrPost
  rw [shrT_yes hok, supI_supN]
  have hsup := fun w hI => implSup_any N B w hI
  unfold SupPost at hsup
  rw [supI_supN] at hsup
  unfold shrB
  generalize supN N B = L at hL hsup ⊢
  have hl4 := hL.len
  have hp16 := pow16 L.length hl4
  have e1 := shl_one L.length hl4
  have HL := Lib.hid hL
  have HS := Lib.hid hsup
  have HK := Lib.hid hok
  clear hL hsup hok
  unfold T
  go_enter Tryd.func20, Tryd.ntmps20
  go_wp2_with fail
  refine (implOk_at N B _ HK.out).mono ?_
  rintro e w1 ⟨rfl, hb⟩
  have g := box2 hb
  have ht := g.1
  have hr := g.2.1
  have hI1 := hI.keep g.2.2
  have HB1 := Lib.hid g.2.2
  have c0 : w1.cell? ⟨w.heap.size, 0, none⟩ = some (.int .i64 N) := box_cell ht 0 _ rfl
  have c1 : w1.cell? ⟨w.heap.size, 1, none⟩ = some (.int .i64 B) := box_cell ht 1 _ rfl
  have HT := Lib.hid ht
  have HR := Lib.hid hr
  have s1 := World.block_lt_of_cell? _ _ (box_cell (w := w1) hr 0 _ rfl)
  clear hb g ht hr hI
  go_wp2_with fail
  refine (HS.out _ hI1).mono ?_
  rintro e w2 ⟨v, rfl, ho, hb⟩
  have hlt := fun j (hj : v.ownBlock = some j) => ho.lt j hj
  have ht2 := (hb.block _ (Array.getElem?_eq_some_iff.1 HT.out).1).trans HT.out
  have hr2 := (hb.block _ (Array.getElem?_eq_some_iff.1 HR.out).1).trans HR.out
  obtain ⟨A, c, rfl, _⟩ := ho.shape
  rw [List.length_map] at ho hlt ⊢
  have HO := Lib.hid ho
  have HV := Lib.hid hlt
  have HT2 := Lib.hid ht2
  have HR2 := Lib.hid hr2
  have HB2 := Lib.hid (bThen HB1.out hb)
  have s2 := hb.size
  have sw := HB1.out.size
  clear hb ho hlt ht2 hr2 c0 c1 hI1 HT HR
  go_wp2
  rw [e1.trans (pow_cast L.length).symm]
  clear e1
  go_loopw [6, 19] (fun _ v' wr => ∃ i : Nat, i ≤ 2 ^ L.length ∧ v' = .int .i64 i ∧ wr.heap[w.heap.size]? = some (.cells #[.int .i64 N, .int .i64 B] 25 (0, 0)) ∧
      wr.heap[w.heap.size + 1]? = some (.cells #[.int .i64 0, .int .i64 0] 25 (0, 0)) ∧ wr.heap[w2.heap.size]? = some (.cells #[.int .i64 (L.length : Nat), .int .i64 (mkB (fun i => B.testBit (spr i L L.length)) i : Nat)] 25 (0, 0)) ∧
      OwnsI wr w1.heap.size (.slice A L.length c) (L.map fun k : Nat => (k : Int)) ∧ Below w.heap.size w wr) (fun _ v' _ => 2 ^ L.length - (intOf v').toNat)
  case atStart =>
    refine ⟨0, Nat.zero_le _, rfl, ?_, ?_, ?_, HO.out.below (bAlloc (Below.refl _ _) (Nat.le_refl _) _), (by have hB := HB2.out; (repeat' (first | assumption | exact Below.refl _ _ | refine bDrewN ?_ _ | refine Below.drew ?_ | refine bAlloc ?_ (Nat.le_refl _) _ | refine bSet ?_ (by first | exact Nat.le_refl _ | omega | (simp <;> omega)) _)))⟩
    · exact (heap_alloc_old _ _ (Array.getElem?_eq_some_iff.1 HT2.out).1).trans HT2.out
    · exact (heap_alloc_old _ _ (Array.getElem?_eq_some_iff.1 HR2.out).1).trans HR2.out
    · exact heap_alloc_new w2 _
  case round =>
    obtain ⟨i, hi, rfl, ht, hr, hz, ho, hb⟩ := hrel
    have HT := Lib.hid ht
    have HR := Lib.hid hr
    have HZ := Lib.hid hz
    have HO3 := Lib.hid ho
    have HB := Lib.hid hb
    clear HO HT2 HR2
    by_cases hlt : i < 2 ^ L.length
    · have t1 : (i : Int) < 2 ^ L.length := by rw [pow_cast]; omega
      have hsl := HL.out.lt i (by omega)
      have hev := eval_nat N B (spr i L L.length) HK.out
      rw [decide_eq_true hsl, Bool.true_and] at hev
      have hwle := hb.size
      obtain ⟨W, hW⟩ : ∃ W, W = wr := ⟨_, rfl⟩
      have c0 : ∀ d os, (Sort.grow (redrawn wr d) os).cell? ⟨w.heap.size, 0, none⟩ = some (.int .i64 N) := cell_regrown (box_cell ht 0 _ rfl)
      have c1 : ∀ d os, (Sort.grow (redrawn wr d) os).cell? ⟨w.heap.size, 1, none⟩ = some (.int .i64 B) := cell_regrown (box_cell ht 1 _ rfl)
      have z1 : ∀ d os, (Sort.grow (redrawn wr d) os).cell? ⟨w2.heap.size, 1, none⟩ = some (.int .i64 (mkB (fun i => B.testBit (spr i L L.length)) i : Nat)) := cell_regrown (box_cell hz 1 _ rfl)
      have f1 : ∀ d os, (Sort.grow (redrawn wr d) os).frozen? ⟨w2.heap.size, 1, none⟩ = false := fun d os => frozen_of_row _ _ 1 _ _ (grow_heap hz d os)
      clear ht hr hz ho hb hW W
      cases hbit : B.testBit (spr i L L.length)
      all_goals
        rw [hbit] at hev
        go_wp2
        refine wp_region_quiet_below (by kernel_rfl) (by kernel_rfl) ?_
        repeat (go_big_quiet_step (first | (go_at_call 38; refine Calls.regrown_of (spread_any N i L _ _ _ HL.out (by omega) (grow_own HO3.out _ _))) | (go_at_call 18; refine Calls.regrown_of (implEval_at N B _ _ hev))))
        refine wpQuiet_nil ?_
        intro _ hw'
        obtain ⟨⟨dq, osq⟩, hw''⟩ := hw'
        subst hw''
      · go_wp2
        go_roundw
        case rel => exact ⟨i + 1, by omega, by go_num, grow_heap HT.out _ _, grow_heap HR.out _ _, by rw [no_step (fun i => B.testBit (spr i L L.length)) i hbit]; exact grow_heap HZ.out _ _, grow_own HO3.out _ _, bThen HB.out (below_regrown _ _ _)⟩
        case measure => simp [intOf]; omega
      · have hm1 := mkB_le (fun i => B.testBit (spr i L L.length)) i (by omega)
        have hi16 : 2 ^ i ≤ 65536 := by
          have : 2 ^ i ≤ 2 ^ 16 := Nat.pow_le_pow_right (by omega) (by omega)
          exact this
        have ev1 : IntKind.i64.wrap ((2 : Int) ^ i) = ((2 ^ i : Nat) : Int) := by rw [pow_cast, wrap64_small _ (by omega)]
        have ev2 : bits .or .i64 ((mkB (fun i => B.testBit (spr i L L.length)) i : Nat) : Int) ((2 : Int) ^ i) = ((mkB (fun i => B.testBit (spr i L L.length)) (i + 1) : Nat) : Int) := by rw [pow_cast, i64_or _ _ (by omega) (by omega), or_step (fun i => B.testBit (spr i L L.length)) i hbit]
        go_wp2
        go_region_law (fail)
        all_goals go_wp2
        go_roundw
        case rel =>
          exact ⟨i + 1, by omega, by go_num, (Below.heap_setCell _ _ _ w.heap.size (by simp <;> omega)).trans (grow_heap HT.out _ _), (Below.heap_setCell _ _ _ (w.heap.size + 1) (by simp <;> omega)).trans (grow_heap HR.out _ _), heap_setCell_same _ _ 1 _ _ _ (grow_heap HZ.out _ _), (own_set (grow_own HO3.out _ _) (fun e => by have := HV.out _ e; omega)).below (Below.refl _ _).drew, (by have hB := bThen HB.out (below_regrown wr dq osq); (repeat' (first | assumption | exact Below.refl _ _ | refine bDrewN ?_ _ | refine Below.drew ?_ | refine bAlloc ?_ (Nat.le_refl _) _ | refine bSet ?_ (by first | exact Nat.le_refl _ | omega | (simp <;> omega)) _)))⟩
        case measure => simp [intOf]; omega
    · have t1 : ¬ (i : Int) < 2 ^ L.length := by rw [pow_cast]; omega
      obtain rfl : i = 2 ^ L.length := by omega
      have z0 : wr.cell? ⟨w2.heap.size, 0, none⟩ = some (.int .i64 (L.length : Nat)) := box_cell hz 0 _ rfl
      have z1 : wr.cell? ⟨w2.heap.size, 1, none⟩ = some (.int .i64 (mkB (fun i => B.testBit (spr i L L.length)) (2 ^ L.length) : Nat)) := box_cell hz 1 _ rfl
      have r0 : wr.cell? ⟨w.heap.size + 1, 0, none⟩ = some (.int .i64 0) := box_cell hr 0 _ rfl
      have r1 : wr.cell? ⟨w.heap.size + 1, 1, none⟩ = some (.int .i64 0) := box_cell hr 1 _ rfl
      have y0 : wr.frozen? ⟨w.heap.size + 1, 0, none⟩ = false := frozen_of_row wr _ 0 _ _ hr
      have y1 : wr.frozen? ⟨w.heap.size + 1, 1, none⟩ = false := frozen_of_row wr _ 1 _ _ hr
      clear ht hr hz ho hb
      go_wp2
      ((try simp only [Exit.inBlock, Exit.then]); refine bodyPost_ret (v := (.tuple #[.agg #[.int .i64 (L.length : Nat), .int .i64 (mkB (fun i => B.testBit (spr i L L.length)) (2 ^ L.length) : Nat)], .slice A L.length c])) (by rw [results_cell_tmp rfl]; go_simp) rfl ?_)
      have hB := HB.out
      exact ⟨_, rfl, own_set (own_set (HO3.out.mono sw) (fun e => by have := HV.out _ e; omega)) (fun e => by have := HV.out _ e; omega), by (repeat' (first | assumption | exact Below.refl _ _ | refine bDrewN ?_ _ | refine Below.drew ?_ | refine bAlloc ?_ (Nat.le_refl _) _ | refine bSet ?_ (by first | exact Nat.le_refl _ | omega | (simp <;> omega)) _))⟩

set_option maxHeartbeats 6400000 in
theorem specShr_no (n b : Int) (w : World) (hok : okB n b = false) : Calls Tryd.prog 32 #[T n b] w (ShrPost n b w) := by
  unfold T
  go_enter Tryd.func32, Tryd.ntmps32
  go_wp2_with fail
  refine (specSup_any n b _).mono ?_
  rintro e w1 ⟨v, rfl, ho, hb⟩
  have g := box2 hb
  have ht := g.1
  have hr := g.2.1
  have c0 : w1.cell? ⟨w.heap.size, 0, none⟩ = some (.int .i64 n) := box_cell ht 0 _ rfl
  have c1 : w1.cell? ⟨w.heap.size, 1, none⟩ = some (.int .i64 b) := box_cell ht 1 _ rfl
  have r0 : w1.cell? ⟨w.heap.size + 1, 0, none⟩ = some (.int .i64 0) := box_cell hr 0 _ rfl
  have r1 : w1.cell? ⟨w.heap.size + 1, 1, none⟩ = some (.int .i64 0) := box_cell hr 1 _ rfl
  have y0 : w1.frozen? ⟨w.heap.size + 1, 0, none⟩ = false := frozen_of_row w1 _ 0 _ _ hr
  have y1 : w1.frozen? ⟨w.heap.size + 1, 1, none⟩ = false := frozen_of_row w1 _ 1 _ _ hr
  have HB := Lib.hid g.2.2
  have hlt := fun j (hj : v.ownBlock = some j) => ho.lt j hj
  have HO := Lib.hid ho
  obtain ⟨A, c, rfl, _⟩ := ho.shape
  rw [World.size_alloc, World.size_alloc] at hlt
  have HV := Lib.hid hlt
  clear hb g ht hr ho hlt
  go_wp2_with fail
  refine (specOk_at n b _ hok).mono ?_
  rintro e w2 ⟨rfl, hb⟩
  replace y0 := keepF hb r0 y0
  replace y1 := keepF hb r1 y1
  replace r0 := keep hb r0
  replace r1 := keep hb r1
  have HO2 := Lib.hid (HO.out.below hb)
  have HB2 := Lib.hid (bThen HB.out hb)
  clear hb
  go_wp2
  ((try simp only [Exit.inBlock, Exit.then]); refine bodyPost_ret (v := (.tuple #[.agg #[.int .i64 0, .int .i64 0], .slice A (supI n b 4).length c])) (by rw [results_cell_tmp rfl]; go_simp) rfl ?_)
  have hB := HB2.out
  exact ⟨_, by rw [shrT_no hok], (own_set (own_set HO2.out (fun e => by have := HV.out _ e; omega)) (fun e => by have := HV.out _ e; omega)).mono (by simp <;> omega), by (repeat' (first | assumption | exact Below.refl _ _ | refine bDrewN ?_ _ | refine Below.drew ?_ | refine bAlloc ?_ (Nat.le_refl _) _ | refine bSet ?_ (by first | exact Nat.le_refl _ | omega | (simp <;> omega)) _))⟩

set_option maxHeartbeats 6400000 in
theorem specShr_yes (N B : Nat) (w : World) (hok : okB N B = true) (hN : N ≤ 4) (hB2 : B ≤ 65535) : Calls Tryd.prog 32 #[T N B] w (ShrPost N B w) := by
  have hL := inp_sup N B hN
  unfold ShrPost
  rw [shrT_yes hok, supI_supN]
  have hsup := fun w => specSup_any N B w
  unfold SupPost at hsup
  rw [supI_supN] at hsup
  unfold shrB
  generalize supN N B = L at hL hsup ⊢
  have hl4 := hL.len
  have hp16 := pow16 L.length hl4
  have e1 := shl_one L.length hl4
  have HL := Lib.hid hL
  have HS := Lib.hid hsup
  have HK := Lib.hid hok
  clear hL hsup hok
  unfold T
  go_enter Tryd.func32, Tryd.ntmps32
  go_wp2_with fail
  refine (HS.out _).mono ?_
  rintro e w1 ⟨v, rfl, ho, hb⟩
  have g := box2 hb
  have ht := g.1
  have hr := g.2.1
  have HB1 := Lib.hid g.2.2
  have c0 : w1.cell? ⟨w.heap.size, 0, none⟩ = some (.int .i64 N) := box_cell ht 0 _ rfl
  have c1 : w1.cell? ⟨w.heap.size, 1, none⟩ = some (.int .i64 B) := box_cell ht 1 _ rfl
  have hlt := fun j (hj : v.ownBlock = some j) => ho.lt j hj
  rw [World.size_alloc, World.size_alloc] at ho hlt
  obtain ⟨A, c, rfl, _⟩ := ho.shape
  rw [List.length_map] at ho hlt ⊢
  have HT := Lib.hid ht
  have HR := Lib.hid hr
  have HO := Lib.hid ho
  have HV := Lib.hid hlt
  have s1 := World.block_lt_of_cell? _ _ (box_cell (w := w1) hr 0 _ rfl)
  clear hb g ht hr ho hlt
  go_wp2_with fail
  refine (specOk_at N B _ HK.out).mono ?_
  rintro e w2 ⟨rfl, hb⟩
  have ht2 := (hb.block _ (Array.getElem?_eq_some_iff.1 HT.out).1).trans HT.out
  have hr2 := (hb.block _ (Array.getElem?_eq_some_iff.1 HR.out).1).trans HR.out
  have HO2 := Lib.hid (HO.out.below hb)
  have HT2 := Lib.hid ht2
  have HR2 := Lib.hid hr2
  have HB2 := Lib.hid (bThen HB1.out hb)
  have s2 := hb.size
  clear hb ht2 hr2 c0 c1 HT HR HO
  go_wp2
  go_loopw [6, 7, 8] (fun v' _ _ wr => ∃ i : Nat, i ≤ 2 ^ L.length ∧ v' = .int .i64 i ∧ wr.heap[w.heap.size]? = some (.cells #[.int .i64 N, .int .i64 B] 25 (0, 0)) ∧
      wr.heap[w.heap.size + 1]? = some (.cells #[.int .i64 0, .int .i64 0] 25 (0, 0)) ∧ wr.heap[w2.heap.size]? = some (.cells #[.int .i64 (L.length : Nat), .int .i64 (mkB (fun i => B.testBit (spr i L L.length)) i : Nat)] 25 (0, 0)) ∧
      OwnsI wr (w.heap.size + 1 + 1) (.slice A L.length c) (L.map fun k : Nat => (k : Int)) ∧ Below w.heap.size w wr) (fun v' _ _ _ => 2 ^ L.length - (intOf v').toNat)
  case atStart =>
    refine ⟨0, Nat.zero_le _, rfl, ?_, ?_, ?_, HO2.out.below (bAlloc (Below.refl _ _) (Nat.le_refl _) _), (by have hB := HB2.out; (repeat' (first | assumption | exact Below.refl _ _ | refine bDrewN ?_ _ | refine Below.drew ?_ | refine bAlloc ?_ (Nat.le_refl _) _ | refine bSet ?_ (by first | exact Nat.le_refl _ | omega | (simp <;> omega)) _)))⟩
    · exact (heap_alloc_old _ _ (Array.getElem?_eq_some_iff.1 HT2.out).1).trans HT2.out
    · exact (heap_alloc_old _ _ (Array.getElem?_eq_some_iff.1 HR2.out).1).trans HR2.out
    · exact heap_alloc_new w2 _
  case round =>
    obtain ⟨i, hi, rfl, ht, hr, hz, ho, hb⟩ := hrel
    have HT := Lib.hid ht
    have HR := Lib.hid hr
    have HZ := Lib.hid hz
    have HO3 := Lib.hid ho
    have HB := Lib.hid hb
    clear HO2 HT2 HR2
    by_cases hlt : i < 2 ^ L.length
    · have t1 : (i : Int) < 2 ^ L.length := by rw [pow_cast]; omega
      obtain ⟨A2, c2, hv2, hA⟩ := ho.shape
      rw [List.length_map] at hA hv2
      injection hv2 with q1 q2 q3
      subst q1 q3
      have HA := Lib.hid hA
      clear ht hr hz ho hb hA
      go_wp2
      go_loopw [7, 8] (fun s k wq => ∃ p : Nat, p ≤ L.length ∧ k = .int .i64 p ∧ s = .int .i64 (spr i L p : Nat) ∧ Below wr.heap.size wr wq) (fun _ k _ => L.length - (intOf k).toNat)
      case atStart => exact ⟨0, Nat.zero_le _, rfl, rfl, Below.refl _ _⟩
      case round =>
        obtain ⟨p, hp, rfl, rfl, hq⟩ := hrel
        have HQ := Lib.hid hq
        by_cases hpl : p < L.length
        · obtain ⟨g, rfl, h1, _⟩ := HA.out p hpl
          rw [map_getD L p hpl] at h1
          have k1 := keep hq h1
          have h3 := HL.out.at3 p (by omega)
          have ev1 := bit_and1 i p (by omega) (by omega)
          have hx1 := bit_le1 i p
          have ev2 := shl_bit _ _ hx1 h3
          have hle := HL.out.le i (p + 1) (by omega) (by omega)
          have hst : spr i L (p + 1) = spr i L p + (i.testBit p).toNat * 2 ^ L.getD p 0 := rfl
          obtain ⟨q, hqq⟩ : ∃ q, L.getD p 0 = q := ⟨_, rfl⟩
          rw [hqq] at k1 h3 ev2 hst
          obtain ⟨x, hx⟩ : ∃ x, (i.testBit p).toNat = x := ⟨_, rfl⟩
          rw [hx] at ev1 ev2 hst hx1
          obtain ⟨y, hyy⟩ : ∃ y, x * 2 ^ q = y := ⟨_, rfl⟩
          rw [hyy] at hst ev2
          have ev3 : IntKind.i64.wrap (((spr i L p : Nat) : Int) + ((y : Nat) : Int)) = ((spr i L (p + 1) : Nat) : Int) := by rw [← Int.natCast_add, wrap64_small _ (by omega), hst]
          clear h1 hq hst hyy hx hqq
          go_wp2
          go_quiet (fail)
          go_wp2
          go_roundw
          case rel => exact ⟨p + 1, by omega, by go_num, rfl, (by have hB := HQ.out; (repeat' (first | assumption | exact Below.refl _ _ | refine bDrewN ?_ _ | refine Below.drew ?_ | refine bAlloc ?_ (Nat.le_refl _) _ | refine bSet ?_ (by first | exact Nat.le_refl _ | omega | (simp <;> omega)) _)))⟩
          case measure => simp [intOf]; omega
        · obtain rfl : p = L.length := by omega
          have ht := (hq.block _ (Array.getElem?_eq_some_iff.1 HT.out).1).trans HT.out
          have hr := (hq.block _ (Array.getElem?_eq_some_iff.1 HR.out).1).trans HR.out
          have hz := (hq.block _ (Array.getElem?_eq_some_iff.1 HZ.out).1).trans HZ.out
          have HO4 := Lib.hid (HO3.out.below hq)
          have HB4 := Lib.hid (bThen HB.out hq)
          have hsl := HL.out.lt i (by omega)
          have h16N := pow16 N hN
          have c0 : wr.cell? ⟨w.heap.size, 0, none⟩ = some (.int .i64 N) := box_cell ht 0 _ rfl
          have c1 : wr.cell? ⟨w.heap.size, 1, none⟩ = some (.int .i64 B) := box_cell ht 1 _ rfl
          have z1 : wr.cell? ⟨w2.heap.size, 1, none⟩ = some (.int .i64 (mkB (fun i => B.testBit (spr i L L.length)) i : Nat)) := box_cell hz 1 _ rfl
          have f1 : wr.frozen? ⟨w2.heap.size, 1, none⟩ = false := frozen_of_row _ _ 1 _ _ hz
          have ev1 := bit_and1 B (spr i L L.length) hB2 (by omega)
          have ev2 := step_bits (fun i => B.testBit (spr i L L.length)) i (2 ^ L.length) hlt hp16 _ rfl
          have hm := mkB_le (fun i => B.testBit (spr i L L.length)) i (by omega)
          have HT4 := Lib.hid ht
          have HR4 := Lib.hid hr
          have HZ4 := Lib.hid hz
          clear hq ht hr hz HT HR HZ HO3 HB
          go_wp2
          go_region_law (fail)
          all_goals go_wp2
          all_goals go_roundw
          all_goals first
            | exact ⟨i + 1, by omega, by go_num, (Below.heap_setCell _ _ _ w.heap.size (by simp <;> omega)).trans HT4.out, (Below.heap_setCell _ _ _ (w.heap.size + 1) (by simp <;> omega)).trans HR4.out, heap_setCell_same _ _ 1 _ _ _ HZ4.out, (own_set HO4.out (fun e => by have := HV.out _ e; omega)).below (Below.refl _ _).drew, (by have hB := HB4.out; (repeat' (first | assumption | exact Below.refl _ _ | refine bDrewN ?_ _ | refine Below.drew ?_ | refine bAlloc ?_ (Nat.le_refl _) _ | refine bSet ?_ (by first | exact Nat.le_refl _ | omega | (simp <;> omega)) _)))⟩
            | (simp [intOf]; omega)
    · have t1 : ¬ (i : Int) < 2 ^ L.length := by rw [pow_cast]; omega
      obtain rfl : i = 2 ^ L.length := by omega
      have z0 : wr.cell? ⟨w2.heap.size, 0, none⟩ = some (.int .i64 (L.length : Nat)) := box_cell hz 0 _ rfl
      have z1 : wr.cell? ⟨w2.heap.size, 1, none⟩ = some (.int .i64 (mkB (fun i => B.testBit (spr i L L.length)) (2 ^ L.length) : Nat)) := box_cell hz 1 _ rfl
      have r0 : wr.cell? ⟨w.heap.size + 1, 0, none⟩ = some (.int .i64 0) := box_cell hr 0 _ rfl
      have r1 : wr.cell? ⟨w.heap.size + 1, 1, none⟩ = some (.int .i64 0) := box_cell hr 1 _ rfl
      have y0 : wr.frozen? ⟨w.heap.size + 1, 0, none⟩ = false := frozen_of_row wr _ 0 _ _ hr
      have y1 : wr.frozen? ⟨w.heap.size + 1, 1, none⟩ = false := frozen_of_row wr _ 1 _ _ hr
      clear ht hr hz ho hb
      go_wp2
      ((try simp only [Exit.inBlock, Exit.then]); refine bodyPost_ret (v := (.tuple #[.agg #[.int .i64 (L.length : Nat), .int .i64 (mkB (fun i => B.testBit (spr i L L.length)) (2 ^ L.length) : Nat)], .slice A L.length c])) (by rw [results_cell_tmp rfl]; go_simp) rfl ?_)
      have hB := HB.out
      exact ⟨_, rfl, own_set (own_set (HO3.out.mono (by omega)) (fun e => by have := HV.out _ e; omega)) (fun e => by have := HV.out _ e; omega), by (repeat' (first | assumption | exact Below.refl _ _ | refine bDrewN ?_ _ | refine Below.drew ?_ | refine bAlloc ?_ (Nat.le_refl _) _ | refine bSet ?_ (by first | exact Nat.le_refl _ | omega | (simp <;> omega)) _))⟩
end Go.Proofs.YtiikadlcoijcfaaDoor
