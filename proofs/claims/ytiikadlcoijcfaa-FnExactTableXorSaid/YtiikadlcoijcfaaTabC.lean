/-
  The five laws over tables that reach no package variable.
-/
import Derived.Test.YtiikadlcoijcfaaTabOp
import Derived.Deep.RegionHeld3
namespace Go.Proofs.Ytiikadlcoijcfaa
open Go.RowKit
set_option linter.unusedSimpArgs false
theorem withFact {p q : Prop} (h : p) (k : p → q) : q := k h

set_option maxHeartbeats 400000 in
theorem specEval_any (n b i : Int) (w : World) :
    Calls Try.prog 11 #[T n b, .int .i64 i] w fun e w' => e = .returned (.bool (evalB n b i)) ∧ Below w.heap.size w w' := by
  cases hok : okB n b
  · unfold T
    go_enter Try.func11, Try.ntmps11
    go_wp2_with fail
    refine (specOk_any n b _).mono ?_
    rw [hok]
    rintro e w1 ⟨rfl, hb⟩
    go_wp2
    go_ret
    exact ⟨ret_bool (by simp [evalB, hok]), bTrans (by (repeat' (first | assumption | exact Below.refl _ _ | refine bDrewN ?_ _ | refine Below.drew ?_ | refine bAlloc ?_ (Nat.le_refl _) _ | refine bSet ?_ (by first | exact Nat.le_refl _ | omega | (simp <;> omega)) _))) (by simp) hb⟩
  · have HOK := Lib.hid hok
    obtain ⟨N, B, rfl, rfl, hN, hB1, hB2⟩ := okB_out hok
    clear hok
    have e1 := shl_one N hN
    have h16 := pow_le16 N hN
    unfold T
    by_cases h1 : 0 ≤ i
    · obtain ⟨I, rfl⟩ := Int.eq_ofNat_of_zero_le h1
      by_cases h2 : (I : Int) < ((2 ^ N : Nat) : Int)
      · have e2 := bit_and1 B I hB2 (by omega)
        cases hbit : B.testBit I
        all_goals
          rw [hbit] at e2
          go_enter Try.func11, Try.ntmps11
          go_wp2_with fail
          refine (specOk_any N B _).mono ?_
          rw [HOK.out]
          rintro e w1 ⟨rfl, hb⟩
          have hg := (hb.block w.heap.size (by simp)).trans (heap_alloc_new w _)
          have c0 : w1.cell? ⟨w.heap.size, 0, none⟩ = some (.int .i64 N) := box_cell hg 0 _ rfl
          have c1 : w1.cell? ⟨w.heap.size, 1, none⟩ = some (.int .i64 B) := box_cell hg 1 _ rfl
          have HB := Lib.hid hb
          clear hb hg
          go_wp2
          go_ret
          exact ⟨ret_bool (by rw [eval_nat N B I HOK.out, hbit, decide_eq_true (by omega : I < 2 ^ N)]; rfl), bTrans (by (repeat' (first | assumption | exact Below.refl _ _ | refine bDrewN ?_ _ | refine Below.drew ?_ | refine bAlloc ?_ (Nat.le_refl _) _ | refine bSet ?_ (by first | exact Nat.le_refl _ | omega | (simp <;> omega)) _))) (by simp) HB.out⟩
      · go_enter Try.func11, Try.ntmps11
        go_wp2_with fail
        refine (specOk_any N B _).mono ?_
        rw [HOK.out]
        rintro e w1 ⟨rfl, hb⟩
        have hg := (hb.block w.heap.size (by simp)).trans (heap_alloc_new w _)
        have c0 : w1.cell? ⟨w.heap.size, 0, none⟩ = some (.int .i64 N) := box_cell hg 0 _ rfl
        have c1 : w1.cell? ⟨w.heap.size, 1, none⟩ = some (.int .i64 B) := box_cell hg 1 _ rfl
        have HB := Lib.hid hb
        clear hb hg
        go_wp2
        all_goals first
          | (go_ret; exact ⟨ret_bool (by rw [eval_nat N B I HOK.out, decide_eq_false (by omega : ¬ I < 2 ^ N)]; rfl), bTrans (by (repeat' (first | assumption | exact Below.refl _ _ | refine bDrewN ?_ _ | refine Below.drew ?_ | refine bAlloc ?_ (Nat.le_refl _) _ | refine bSet ?_ (by first | exact Nat.le_refl _ | omega | (simp <;> omega)) _))) (by simp) HB.out⟩)
          | (exfalso; have h3 := pow_cast N; omega)
    · go_enter Try.func11, Try.ntmps11
      go_wp2_with fail
      refine (specOk_any N B _).mono ?_
      rw [HOK.out]
      rintro e w1 ⟨rfl, hb⟩
      go_wp2
      go_ret
      exact ⟨ret_bool (by rw [eval_neg _ _ _ (by omega)]), bTrans (by (repeat' (first | assumption | exact Below.refl _ _ | refine bDrewN ?_ _ | refine Below.drew ?_ | refine bAlloc ?_ (Nat.le_refl _) _ | refine bSet ?_ (by first | exact Nat.le_refl _ | omega | (simp <;> omega)) _))) (by simp) hb⟩

set_option maxHeartbeats 3200000 in
theorem exactOk_walk (n b : Int) (w : World) :
    Calls Try.prog 3 #[T n b] w fun e w' => e = .returned (.bool true) ∧ Below w.heap.size w w' := by
  unfold T
  go_enter Try.func3, Try.ntmps3
  go_wp2_with fail
  refine (toTable_any n b _).mono ?_
  rintro e w1 ⟨rfl, hb⟩
  have g := box1 hb
  have hT : Below w.heap.size w w1 := g.2
  have c100 : w1.cell? ⟨w.heap.size, 0, none⟩ = some (.int .i64 n) := box_cell g.1 0 _ rfl
  have c101 : w1.cell? ⟨w.heap.size, 1, none⟩ = some (.int .i64 b) := box_cell g.1 1 _ rfl
  have l10 : w.heap.size < w1.heap.size := World.block_lt_of_cell? _ _ c100
  have HB := Lib.hid hT
  clear hT hb g
  go_wp2_with fail
  refine (specOk_any n b _).mono ?_
  rintro e w2 ⟨rfl, hb⟩
  have hT : Below w1.heap.size w1 w2 := hb
  replace c100 := keep hT c100
  replace c101 := keep hT c101
  have l10 : w.heap.size < w2.heap.size := World.block_lt_of_cell? _ _ c100
  replace HB := Lib.hid (bThen HB.out hT)
  clear hT hb
  go_wp2_with fail
  refine (toTable_any n b _).mono ?_
  rintro e w3 ⟨rfl, hb⟩
  have hT : Below w2.heap.size w2 w3 := hb
  replace c100 := keep hT c100
  replace c101 := keep hT c101
  have l10 : w.heap.size < w3.heap.size := World.block_lt_of_cell? _ _ c100
  replace HB := Lib.hid (bThen HB.out hT)
  clear hT hb
  go_wp2_with fail
  refine (implOk_any n b _).mono ?_
  rintro e w4 ⟨rfl, hb⟩
  have hT : Below w3.heap.size w3 w4 := hb
  replace c100 := keep hT c100
  replace c101 := keep hT c101
  have l10 : w.heap.size < w4.heap.size := World.block_lt_of_cell? _ _ c100
  replace HB := Lib.hid (bThen HB.out hT)
  clear hT hb
  go_wp2
  go_ret
  have hB := HB.out
  exact ⟨rfl, by first | exact hB | (repeat' (first | assumption | exact Below.refl _ _ | refine bDrewN ?_ _ | refine Below.drew ?_ | refine bAlloc ?_ (Nat.le_refl _) _ | refine bSet ?_ (by first | exact Nat.le_refl _ | omega | (simp <;> omega)) _))⟩

set_option maxHeartbeats 3200000 in
theorem exactEval_walk (n b i : Int) (w : World) :
    Calls Try.prog 4 #[T n b, .int .i64 i] w fun e w' => e = .returned (.bool true) ∧ Below w.heap.size w w' := by
  unfold T
  go_enter Try.func4, Try.ntmps4
  go_wp2_with fail
  refine (toTable_any n b _).mono ?_
  rintro e w1 ⟨rfl, hb⟩
  have g := box1 hb
  have hT : Below w.heap.size w w1 := g.2
  have c100 : w1.cell? ⟨w.heap.size, 0, none⟩ = some (.int .i64 n) := box_cell g.1 0 _ rfl
  have c101 : w1.cell? ⟨w.heap.size, 1, none⟩ = some (.int .i64 b) := box_cell g.1 1 _ rfl
  have l10 : w.heap.size < w1.heap.size := World.block_lt_of_cell? _ _ c100
  have HB := Lib.hid hT
  clear hT hb g
  go_wp2_with fail
  refine (specEval_any n b i _).mono ?_
  rintro e w2 ⟨rfl, hb⟩
  have hT : Below w1.heap.size w1 w2 := hb
  replace c100 := keep hT c100
  replace c101 := keep hT c101
  have l10 : w.heap.size < w2.heap.size := World.block_lt_of_cell? _ _ c100
  replace HB := Lib.hid (bThen HB.out hT)
  clear hT hb
  go_wp2_with fail
  refine (toTable_any n b _).mono ?_
  rintro e w3 ⟨rfl, hb⟩
  have hT : Below w2.heap.size w2 w3 := hb
  replace c100 := keep hT c100
  replace c101 := keep hT c101
  have l10 : w.heap.size < w3.heap.size := World.block_lt_of_cell? _ _ c100
  replace HB := Lib.hid (bThen HB.out hT)
  clear hT hb
  go_wp2_with fail
  refine (implEval_any n b i _).mono ?_
  rintro e w4 ⟨rfl, hb⟩
  have hT : Below w3.heap.size w3 w4 := hb
  replace c100 := keep hT c100
  replace c101 := keep hT c101
  have l10 : w.heap.size < w4.heap.size := World.block_lt_of_cell? _ _ c100
  replace HB := Lib.hid (bThen HB.out hT)
  clear hT hb
  go_wp2
  go_ret
  have hB := HB.out
  exact ⟨rfl, by first | exact hB | (repeat' (first | assumption | exact Below.refl _ _ | refine bDrewN ?_ _ | refine Below.drew ?_ | refine bAlloc ?_ (Nat.le_refl _) _ | refine bSet ?_ (by first | exact Nat.le_refl _ | omega | (simp <;> omega)) _))⟩

set_option maxHeartbeats 3200000 in
theorem exactNot_walk (n b : Int) (w : World) :
    Calls Try.prog 5 #[T n b] w fun e w' => e = .returned (.bool true) ∧ Below w.heap.size w w' := by
  unfold T
  obtain ⟨x, y, hxy⟩ := notT_shape n b
  go_enter Try.func5, Try.ntmps5
  go_wp2_with fail
  refine (toTable_any n b _).mono ?_
  rintro e w1 ⟨rfl, hb⟩
  have g := box1 hb
  have hT : Below w.heap.size w w1 := g.2
  have c100 : w1.cell? ⟨w.heap.size, 0, none⟩ = some (.int .i64 n) := box_cell g.1 0 _ rfl
  have c101 : w1.cell? ⟨w.heap.size, 1, none⟩ = some (.int .i64 b) := box_cell g.1 1 _ rfl
  have l10 : w.heap.size < w1.heap.size := World.block_lt_of_cell? _ _ c100
  have HB := Lib.hid hT
  clear hT hb g
  go_wp2_with fail
  refine (specNot_any n b _).mono ?_
  rw [hxy]
  rintro e w2 ⟨rfl, hb⟩
  have hT : Below w1.heap.size w1 w2 := hb
  replace c100 := keep hT c100
  replace c101 := keep hT c101
  have l10 : w.heap.size < w2.heap.size := World.block_lt_of_cell? _ _ c100
  replace HB := Lib.hid (bThen HB.out hT)
  clear hT hb
  go_wp2_with fail
  refine (toTable_any n b _).mono ?_
  rintro e w3 ⟨rfl, hb⟩
  have g := box1 hb
  have hT : Below w2.heap.size w2 w3 := g.2
  replace c100 := keep hT c100
  replace c101 := keep hT c101
  have c300 : w3.cell? ⟨w2.heap.size, 0, none⟩ = some (.int .i64 x) := box_cell g.1 0 _ rfl
  have c301 : w3.cell? ⟨w2.heap.size, 1, none⟩ = some (.int .i64 y) := box_cell g.1 1 _ rfl
  have l10 : w.heap.size < w3.heap.size := World.block_lt_of_cell? _ _ c100
  have l30 : w2.heap.size < w3.heap.size := World.block_lt_of_cell? _ _ c300
  replace HB := Lib.hid (bThen HB.out hT)
  clear hT hb g
  go_wp2_with fail
  refine (implNot_any n b _).mono ?_
  rw [hxy]
  rintro e w4 ⟨rfl, hb⟩
  have hT : Below w3.heap.size w3 w4 := hb
  replace c100 := keep hT c100
  replace c101 := keep hT c101
  replace c300 := keep hT c300
  replace c301 := keep hT c301
  have l10 : w.heap.size < w4.heap.size := World.block_lt_of_cell? _ _ c100
  have l30 : w2.heap.size < w4.heap.size := World.block_lt_of_cell? _ _ c300
  replace HB := Lib.hid (bThen HB.out hT)
  clear hT hb
  go_wp2_with fail
  refine (eqTable_same x y _).mono ?_
  rintro e w5 ⟨rfl, hb⟩
  have g := box1 hb
  have hT : Below w4.heap.size w4 w5 := g.2
  replace c100 := keep hT c100
  replace c101 := keep hT c101
  replace c300 := keep hT c300
  replace c301 := keep hT c301
  have c500 : w5.cell? ⟨w4.heap.size, 0, none⟩ = some (.int .i64 x) := box_cell g.1 0 _ rfl
  have c501 : w5.cell? ⟨w4.heap.size, 1, none⟩ = some (.int .i64 y) := box_cell g.1 1 _ rfl
  have l10 : w.heap.size < w5.heap.size := World.block_lt_of_cell? _ _ c100
  have l30 : w2.heap.size < w5.heap.size := World.block_lt_of_cell? _ _ c300
  have l50 : w4.heap.size < w5.heap.size := World.block_lt_of_cell? _ _ c500
  replace HB := Lib.hid (bThen HB.out hT)
  clear hT hb g
  go_wp2
  go_ret
  have hB := HB.out
  exact ⟨rfl, by first | exact hB | (repeat' (first | assumption | exact Below.refl _ _ | refine bDrewN ?_ _ | refine Below.drew ?_ | refine bAlloc ?_ (Nat.le_refl _) _ | refine bSet ?_ (by first | exact Nat.le_refl _ | omega | (simp <;> omega)) _))⟩

set_option maxHeartbeats 3200000 in
theorem exactAnd_walk (n b m c : Int) (w : World) :
    Calls Try.prog 6 #[T n b, T m c] w fun e w' => e = .returned (.bool true) ∧ Below w.heap.size w w' := by
  unfold T
  obtain ⟨x, y, hxy⟩ := opT_shape .and n b m c
  go_enter Try.func6, Try.ntmps6
  go_wp2
  obtain ⟨W, hW⟩ : ∃ W, W = (w.alloc (.cells #[.int .i64 n, .int .i64 b] 23)).alloc (.cells #[.int .i64 m, .int .i64 c] 23) := ⟨_, rfl⟩
  rw [← hW]
  have g := eqbox2 hW
  have c0 : W.cell? ⟨w.heap.size, 0, none⟩ = some (.int .i64 n) := box_cell g.1 0 _ rfl
  have c1 : W.cell? ⟨w.heap.size, 1, none⟩ = some (.int .i64 b) := box_cell g.1 1 _ rfl
  have d0 : W.cell? ⟨w.heap.size + 1, 0, none⟩ = some (.int .i64 m) := box_cell g.2.1 0 _ rfl
  have d1 : W.cell? ⟨w.heap.size + 1, 1, none⟩ = some (.int .i64 c) := box_cell g.2.1 1 _ rfl
  have HW := Lib.hid g.2.2
  clear hW g
  have hS : ∀ w', Below W.heap.size W w' → (fun w' => Below W.heap.size W w' ∧ w'.cell? ⟨w.heap.size, 0, none⟩ = some (.int .i64 n) ∧ w'.cell? ⟨w.heap.size, 1, none⟩ = some (.int .i64 b) ∧ w'.cell? ⟨w.heap.size + 1, 0, none⟩ = some (.int .i64 m) ∧ w'.cell? ⟨w.heap.size + 1, 1, none⟩ = some (.int .i64 c)) w' := fun w' h => ⟨h, keep h (by assumption), keep h (by assumption), keep h (by assumption), keep h (by assumption)⟩
  refine Code.wp_mono (Q := fun e a w' => e = .normal ∧ ∃ g : Nat, a = ⟨#[.agg #[.int .i64 n, .int .i64 b], .agg #[.int .i64 m, .int .i64 c], .pointer (some ⟨w.heap.size, 0, none⟩), .pointer (some ⟨w.heap.size + 1, 0, none⟩), .bool false, .pointer (some ⟨g, 0, none⟩), undef, .agg #[.int .i64 n, .int .i64 b], .agg #[.int .i64 n, .int .i64 b], .agg #[.int .i64 m, .int .i64 c], .agg #[.int .i64 m, .int .i64 c], .agg #[.int .i64 x, .int .i64 y], undef, undef, undef, undef, undef, undef, undef, undef, undef], []⟩ ∧ Below W.heap.size W w' ∧ w'.cell? ⟨g, 0, none⟩ = some (.int .i64 x) ∧ w'.cell? ⟨g, 1, none⟩ = some (.int .i64 y)) ?_ ?_
  rotate_left
  · go_region_held3 (fun w' => Below W.heap.size W w' ∧ w'.cell? ⟨w.heap.size, 0, none⟩ = some (.int .i64 n) ∧ w'.cell? ⟨w.heap.size, 1, none⟩ = some (.int .i64 b) ∧ w'.cell? ⟨w.heap.size + 1, 0, none⟩ = some (.int .i64 m) ∧ w'.cell? ⟨w.heap.size + 1, 1, none⟩ = some (.int .i64 c)) (exact hS _ (by repeat' (first | exact Below.refl _ _ | exact (‹Below W.heap.size W _ ∧ _›).1 | exact bThen (‹Below W.heap.size W _ ∧ _›).1 (by assumption) | refine Below.drew ?_ | exact bRe (‹Below W.heap.size W _ ∧ _›).1 (by first | exact Nat.le_refl _ | assumption | (simp <;> omega)) _ | refine bAlloc ?_ (Nat.le_refl _) _ | refine bSet ?_ (by first | exact Nat.le_refl _ | assumption | (simp <;> omega)) _))) (first | (go_at_call 9; refine (toTable_any _ _ _).mono ?_; rintro e w1 ⟨rfl, hb⟩; have hc := fun p h => hb.cell (p := p) h; have hf := fun p h => hb.frozen (p := p) h; have hs := fun k (h : k < _) => Nat.lt_of_lt_of_le h hb.size; have hz : W.heap.size ≤ w1.heap.size := Nat.le_trans (‹Below W.heap.size W _ ∧ _›).1.size hb.size; (try (refine withFact (p := W.heap.size < w1.heap.size) ?_ ?_; (focus (refine Nat.lt_of_lt_of_le ?_ hb.size; first | assumption | (simp; done))); intro q0))) | (go_at_call 16; refine (specAnd_any n b m c _).mono ?_; rw [hxy]; rintro e w1 ⟨rfl, hb⟩; have hc := fun p h => hb.cell (p := p) h; have hf := fun p h => hb.frozen (p := p) h; have hs := fun k (h : k < _) => Nat.lt_of_lt_of_le h hb.size; have hz : W.heap.size ≤ w1.heap.size := Nat.le_trans (‹Below W.heap.size W _ ∧ _›).1.size hb.size; (try (refine withFact (p := W.heap.size < w1.heap.size) ?_ ?_; (focus (refine Nat.lt_of_lt_of_le ?_ hb.size; first | assumption | (simp; done))); intro q0))))
    all_goals refine ⟨rfl, _, rfl, (‹Below W.heap.size W _ ∧ _›).1, ?_, ?_⟩
    all_goals try go_simp
    all_goals (refine World.cell?_setCell_same' _ _ _ ?_; go_simp)
  clear hS
  rintro e a Wn ⟨rfl, g, rfl, hB, Wnp0, Wnp1⟩
  have Wnc0 := keep hB (p := ⟨w.heap.size, 0, none⟩) (v := .int .i64 n) (by assumption)
  have Wnc1 := keep hB (p := ⟨w.heap.size, 1, none⟩) (v := .int .i64 b) (by assumption)
  have Wnc2 := keep hB (p := ⟨w.heap.size + 1, 0, none⟩) (v := .int .i64 m) (by assumption)
  have Wnc3 := keep hB (p := ⟨w.heap.size + 1, 1, none⟩) (v := .int .i64 c) (by assumption)
  replace HW := Lib.hid (bThen HW.out hB)
  clear hB c0 c1 d0 d1
  go_wp2
  have hS : ∀ w', Below Wn.heap.size Wn w' → (fun w' => Below Wn.heap.size Wn w' ∧ w'.cell? ⟨w.heap.size, 0, none⟩ = some (.int .i64 n) ∧ w'.cell? ⟨w.heap.size, 1, none⟩ = some (.int .i64 b) ∧ w'.cell? ⟨w.heap.size + 1, 0, none⟩ = some (.int .i64 m) ∧ w'.cell? ⟨w.heap.size + 1, 1, none⟩ = some (.int .i64 c) ∧ w'.cell? ⟨g, 0, none⟩ = some (.int .i64 x) ∧ w'.cell? ⟨g, 1, none⟩ = some (.int .i64 y)) w' := fun w' h => ⟨h, keep h (by assumption), keep h (by assumption), keep h (by assumption), keep h (by assumption), keep h (by assumption), keep h (by assumption)⟩
  refine Code.wp_mono (Q := fun e a w' => e = .normal ∧ ∃ k : Nat, a = ⟨#[.agg #[.int .i64 n, .int .i64 b], .agg #[.int .i64 m, .int .i64 c], .pointer (some ⟨w.heap.size, 0, none⟩), .pointer (some ⟨w.heap.size + 1, 0, none⟩), .bool false, .pointer (some ⟨g, 0, none⟩), .pointer (some ⟨k, 0, none⟩), .agg #[.int .i64 n, .int .i64 b], .agg #[.int .i64 n, .int .i64 b], .agg #[.int .i64 m, .int .i64 c], .agg #[.int .i64 m, .int .i64 c], .agg #[.int .i64 x, .int .i64 y], .agg #[.int .i64 n, .int .i64 b], .agg #[.int .i64 n, .int .i64 b], .agg #[.int .i64 m, .int .i64 c], .agg #[.int .i64 m, .int .i64 c], .agg #[.int .i64 x, .int .i64 y], undef, undef, undef, undef], []⟩ ∧ Below Wn.heap.size Wn w' ∧ w'.cell? ⟨k, 0, none⟩ = some (.int .i64 x) ∧ w'.cell? ⟨k, 1, none⟩ = some (.int .i64 y)) ?_ ?_
  rotate_left
  · go_region_held3 (fun w' => Below Wn.heap.size Wn w' ∧ w'.cell? ⟨w.heap.size, 0, none⟩ = some (.int .i64 n) ∧ w'.cell? ⟨w.heap.size, 1, none⟩ = some (.int .i64 b) ∧ w'.cell? ⟨w.heap.size + 1, 0, none⟩ = some (.int .i64 m) ∧ w'.cell? ⟨w.heap.size + 1, 1, none⟩ = some (.int .i64 c) ∧ w'.cell? ⟨g, 0, none⟩ = some (.int .i64 x) ∧ w'.cell? ⟨g, 1, none⟩ = some (.int .i64 y)) (exact hS _ (by repeat' (first | exact Below.refl _ _ | exact (‹Below Wn.heap.size Wn _ ∧ _›).1 | exact bThen (‹Below Wn.heap.size Wn _ ∧ _›).1 (by assumption) | refine Below.drew ?_ | exact bRe (‹Below Wn.heap.size Wn _ ∧ _›).1 (by first | exact Nat.le_refl _ | assumption | (simp <;> omega)) _ | refine bAlloc ?_ (Nat.le_refl _) _ | refine bSet ?_ (by first | exact Nat.le_refl _ | assumption | (simp <;> omega)) _))) (first | (go_at_call 9; refine (toTable_any _ _ _).mono ?_; rintro e w1 ⟨rfl, hb⟩; have hc := fun p h => hb.cell (p := p) h; have hf := fun p h => hb.frozen (p := p) h; have hs := fun k (h : k < _) => Nat.lt_of_lt_of_le h hb.size; have hz : Wn.heap.size ≤ w1.heap.size := Nat.le_trans (‹Below Wn.heap.size Wn _ ∧ _›).1.size hb.size; (try (refine withFact (p := Wn.heap.size < w1.heap.size) ?_ ?_; (focus (refine Nat.lt_of_lt_of_le ?_ hb.size; first | assumption | (simp; done))); intro q0))) | (go_at_call 17; refine (implAnd_any n b m c _).mono ?_; rw [hxy]; rintro e w1 ⟨rfl, hb⟩; have hc := fun p h => hb.cell (p := p) h; have hf := fun p h => hb.frozen (p := p) h; have hs := fun k (h : k < _) => Nat.lt_of_lt_of_le h hb.size; have hz : Wn.heap.size ≤ w1.heap.size := Nat.le_trans (‹Below Wn.heap.size Wn _ ∧ _›).1.size hb.size; (try (refine withFact (p := Wn.heap.size < w1.heap.size) ?_ ?_; (focus (refine Nat.lt_of_lt_of_le ?_ hb.size; first | assumption | (simp; done))); intro q0))))
    all_goals refine ⟨rfl, _, rfl, (‹Below Wn.heap.size Wn _ ∧ _›).1, ?_, ?_⟩
    all_goals try go_simp
    all_goals (refine World.cell?_setCell_same' _ _ _ ?_; go_simp)
  clear hS
  rintro e a Wnn ⟨rfl, k, rfl, hB, Wnnp0, Wnnp1⟩
  have Wnnc0 := keep hB (p := ⟨w.heap.size, 0, none⟩) (v := .int .i64 n) (by assumption)
  have Wnnc1 := keep hB (p := ⟨w.heap.size, 1, none⟩) (v := .int .i64 b) (by assumption)
  have Wnnc2 := keep hB (p := ⟨w.heap.size + 1, 0, none⟩) (v := .int .i64 m) (by assumption)
  have Wnnc3 := keep hB (p := ⟨w.heap.size + 1, 1, none⟩) (v := .int .i64 c) (by assumption)
  have Wnnc4 := keep hB (p := ⟨g, 0, none⟩) (v := .int .i64 x) (by assumption)
  have Wnnc5 := keep hB (p := ⟨g, 1, none⟩) (v := .int .i64 y) (by assumption)
  replace HW := Lib.hid (bThen HW.out hB)
  clear hB
  go_wp2_with fail
  refine (eqTable_same x y _).mono ?_
  rintro e w2 ⟨rfl, hb⟩
  have hB := bThen HW.out hb
  go_wp2
  go_ret
  exact ⟨rfl, hB⟩

set_option maxHeartbeats 3200000 in
theorem exactXor_walk (n b m c : Int) (w : World) :
    Calls Try.prog 7 #[T n b, T m c] w fun e w' => e = .returned (.bool true) ∧ Below w.heap.size w w' := by
  unfold T
  obtain ⟨x, y, hxy⟩ := opT_shape .xor n b m c
  go_enter Try.func7, Try.ntmps7
  go_wp2
  obtain ⟨W, hW⟩ : ∃ W, W = (w.alloc (.cells #[.int .i64 n, .int .i64 b] 23)).alloc (.cells #[.int .i64 m, .int .i64 c] 23) := ⟨_, rfl⟩
  rw [← hW]
  have g := eqbox2 hW
  have c0 : W.cell? ⟨w.heap.size, 0, none⟩ = some (.int .i64 n) := box_cell g.1 0 _ rfl
  have c1 : W.cell? ⟨w.heap.size, 1, none⟩ = some (.int .i64 b) := box_cell g.1 1 _ rfl
  have d0 : W.cell? ⟨w.heap.size + 1, 0, none⟩ = some (.int .i64 m) := box_cell g.2.1 0 _ rfl
  have d1 : W.cell? ⟨w.heap.size + 1, 1, none⟩ = some (.int .i64 c) := box_cell g.2.1 1 _ rfl
  have HW := Lib.hid g.2.2
  clear hW g
  have hS : ∀ w', Below W.heap.size W w' → (fun w' => Below W.heap.size W w' ∧ w'.cell? ⟨w.heap.size, 0, none⟩ = some (.int .i64 n) ∧ w'.cell? ⟨w.heap.size, 1, none⟩ = some (.int .i64 b) ∧ w'.cell? ⟨w.heap.size + 1, 0, none⟩ = some (.int .i64 m) ∧ w'.cell? ⟨w.heap.size + 1, 1, none⟩ = some (.int .i64 c)) w' := fun w' h => ⟨h, keep h (by assumption), keep h (by assumption), keep h (by assumption), keep h (by assumption)⟩
  refine Code.wp_mono (Q := fun e a w' => e = .normal ∧ ∃ g : Nat, a = ⟨#[.agg #[.int .i64 n, .int .i64 b], .agg #[.int .i64 m, .int .i64 c], .pointer (some ⟨w.heap.size, 0, none⟩), .pointer (some ⟨w.heap.size + 1, 0, none⟩), .bool false, .pointer (some ⟨g, 0, none⟩), undef, .agg #[.int .i64 n, .int .i64 b], .agg #[.int .i64 n, .int .i64 b], .agg #[.int .i64 m, .int .i64 c], .agg #[.int .i64 m, .int .i64 c], .agg #[.int .i64 x, .int .i64 y], undef, undef, undef, undef, undef, undef, undef, undef, undef], []⟩ ∧ Below W.heap.size W w' ∧ w'.cell? ⟨g, 0, none⟩ = some (.int .i64 x) ∧ w'.cell? ⟨g, 1, none⟩ = some (.int .i64 y)) ?_ ?_
  rotate_left
  · go_region_held3 (fun w' => Below W.heap.size W w' ∧ w'.cell? ⟨w.heap.size, 0, none⟩ = some (.int .i64 n) ∧ w'.cell? ⟨w.heap.size, 1, none⟩ = some (.int .i64 b) ∧ w'.cell? ⟨w.heap.size + 1, 0, none⟩ = some (.int .i64 m) ∧ w'.cell? ⟨w.heap.size + 1, 1, none⟩ = some (.int .i64 c)) (exact hS _ (by repeat' (first | exact Below.refl _ _ | exact (‹Below W.heap.size W _ ∧ _›).1 | exact bThen (‹Below W.heap.size W _ ∧ _›).1 (by assumption) | refine Below.drew ?_ | exact bRe (‹Below W.heap.size W _ ∧ _›).1 (by first | exact Nat.le_refl _ | assumption | (simp <;> omega)) _ | refine bAlloc ?_ (Nat.le_refl _) _ | refine bSet ?_ (by first | exact Nat.le_refl _ | assumption | (simp <;> omega)) _))) (first | (go_at_call 9; refine (toTable_any _ _ _).mono ?_; rintro e w1 ⟨rfl, hb⟩; have hc := fun p h => hb.cell (p := p) h; have hf := fun p h => hb.frozen (p := p) h; have hs := fun k (h : k < _) => Nat.lt_of_lt_of_le h hb.size; have hz : W.heap.size ≤ w1.heap.size := Nat.le_trans (‹Below W.heap.size W _ ∧ _›).1.size hb.size; (try (refine withFact (p := W.heap.size < w1.heap.size) ?_ ?_; (focus (refine Nat.lt_of_lt_of_le ?_ hb.size; first | assumption | (simp; done))); intro q0))) | (go_at_call 18; refine (specXor_any n b m c _).mono ?_; rw [hxy]; rintro e w1 ⟨rfl, hb⟩; have hc := fun p h => hb.cell (p := p) h; have hf := fun p h => hb.frozen (p := p) h; have hs := fun k (h : k < _) => Nat.lt_of_lt_of_le h hb.size; have hz : W.heap.size ≤ w1.heap.size := Nat.le_trans (‹Below W.heap.size W _ ∧ _›).1.size hb.size; (try (refine withFact (p := W.heap.size < w1.heap.size) ?_ ?_; (focus (refine Nat.lt_of_lt_of_le ?_ hb.size; first | assumption | (simp; done))); intro q0))))
    all_goals refine ⟨rfl, _, rfl, (‹Below W.heap.size W _ ∧ _›).1, ?_, ?_⟩
    all_goals try go_simp
    all_goals (refine World.cell?_setCell_same' _ _ _ ?_; go_simp)
  clear hS
  rintro e a Wn ⟨rfl, g, rfl, hB, Wnp0, Wnp1⟩
  have Wnc0 := keep hB (p := ⟨w.heap.size, 0, none⟩) (v := .int .i64 n) (by assumption)
  have Wnc1 := keep hB (p := ⟨w.heap.size, 1, none⟩) (v := .int .i64 b) (by assumption)
  have Wnc2 := keep hB (p := ⟨w.heap.size + 1, 0, none⟩) (v := .int .i64 m) (by assumption)
  have Wnc3 := keep hB (p := ⟨w.heap.size + 1, 1, none⟩) (v := .int .i64 c) (by assumption)
  replace HW := Lib.hid (bThen HW.out hB)
  clear hB c0 c1 d0 d1
  go_wp2
  have hS : ∀ w', Below Wn.heap.size Wn w' → (fun w' => Below Wn.heap.size Wn w' ∧ w'.cell? ⟨w.heap.size, 0, none⟩ = some (.int .i64 n) ∧ w'.cell? ⟨w.heap.size, 1, none⟩ = some (.int .i64 b) ∧ w'.cell? ⟨w.heap.size + 1, 0, none⟩ = some (.int .i64 m) ∧ w'.cell? ⟨w.heap.size + 1, 1, none⟩ = some (.int .i64 c) ∧ w'.cell? ⟨g, 0, none⟩ = some (.int .i64 x) ∧ w'.cell? ⟨g, 1, none⟩ = some (.int .i64 y)) w' := fun w' h => ⟨h, keep h (by assumption), keep h (by assumption), keep h (by assumption), keep h (by assumption), keep h (by assumption), keep h (by assumption)⟩
  refine Code.wp_mono (Q := fun e a w' => e = .normal ∧ ∃ k : Nat, a = ⟨#[.agg #[.int .i64 n, .int .i64 b], .agg #[.int .i64 m, .int .i64 c], .pointer (some ⟨w.heap.size, 0, none⟩), .pointer (some ⟨w.heap.size + 1, 0, none⟩), .bool false, .pointer (some ⟨g, 0, none⟩), .pointer (some ⟨k, 0, none⟩), .agg #[.int .i64 n, .int .i64 b], .agg #[.int .i64 n, .int .i64 b], .agg #[.int .i64 m, .int .i64 c], .agg #[.int .i64 m, .int .i64 c], .agg #[.int .i64 x, .int .i64 y], .agg #[.int .i64 n, .int .i64 b], .agg #[.int .i64 n, .int .i64 b], .agg #[.int .i64 m, .int .i64 c], .agg #[.int .i64 m, .int .i64 c], .agg #[.int .i64 x, .int .i64 y], undef, undef, undef, undef], []⟩ ∧ Below Wn.heap.size Wn w' ∧ w'.cell? ⟨k, 0, none⟩ = some (.int .i64 x) ∧ w'.cell? ⟨k, 1, none⟩ = some (.int .i64 y)) ?_ ?_
  rotate_left
  · go_region_held3 (fun w' => Below Wn.heap.size Wn w' ∧ w'.cell? ⟨w.heap.size, 0, none⟩ = some (.int .i64 n) ∧ w'.cell? ⟨w.heap.size, 1, none⟩ = some (.int .i64 b) ∧ w'.cell? ⟨w.heap.size + 1, 0, none⟩ = some (.int .i64 m) ∧ w'.cell? ⟨w.heap.size + 1, 1, none⟩ = some (.int .i64 c) ∧ w'.cell? ⟨g, 0, none⟩ = some (.int .i64 x) ∧ w'.cell? ⟨g, 1, none⟩ = some (.int .i64 y)) (exact hS _ (by repeat' (first | exact Below.refl _ _ | exact (‹Below Wn.heap.size Wn _ ∧ _›).1 | exact bThen (‹Below Wn.heap.size Wn _ ∧ _›).1 (by assumption) | refine Below.drew ?_ | exact bRe (‹Below Wn.heap.size Wn _ ∧ _›).1 (by first | exact Nat.le_refl _ | assumption | (simp <;> omega)) _ | refine bAlloc ?_ (Nat.le_refl _) _ | refine bSet ?_ (by first | exact Nat.le_refl _ | assumption | (simp <;> omega)) _))) (first | (go_at_call 9; refine (toTable_any _ _ _).mono ?_; rintro e w1 ⟨rfl, hb⟩; have hc := fun p h => hb.cell (p := p) h; have hf := fun p h => hb.frozen (p := p) h; have hs := fun k (h : k < _) => Nat.lt_of_lt_of_le h hb.size; have hz : Wn.heap.size ≤ w1.heap.size := Nat.le_trans (‹Below Wn.heap.size Wn _ ∧ _›).1.size hb.size; (try (refine withFact (p := Wn.heap.size < w1.heap.size) ?_ ?_; (focus (refine Nat.lt_of_lt_of_le ?_ hb.size; first | assumption | (simp; done))); intro q0))) | (go_at_call 19; refine (implXor_any n b m c _).mono ?_; rw [hxy]; rintro e w1 ⟨rfl, hb⟩; have hc := fun p h => hb.cell (p := p) h; have hf := fun p h => hb.frozen (p := p) h; have hs := fun k (h : k < _) => Nat.lt_of_lt_of_le h hb.size; have hz : Wn.heap.size ≤ w1.heap.size := Nat.le_trans (‹Below Wn.heap.size Wn _ ∧ _›).1.size hb.size; (try (refine withFact (p := Wn.heap.size < w1.heap.size) ?_ ?_; (focus (refine Nat.lt_of_lt_of_le ?_ hb.size; first | assumption | (simp; done))); intro q0))))
    all_goals refine ⟨rfl, _, rfl, (‹Below Wn.heap.size Wn _ ∧ _›).1, ?_, ?_⟩
    all_goals try go_simp
    all_goals (refine World.cell?_setCell_same' _ _ _ ?_; go_simp)
  clear hS
  rintro e a Wnn ⟨rfl, k, rfl, hB, Wnnp0, Wnnp1⟩
  have Wnnc0 := keep hB (p := ⟨w.heap.size, 0, none⟩) (v := .int .i64 n) (by assumption)
  have Wnnc1 := keep hB (p := ⟨w.heap.size, 1, none⟩) (v := .int .i64 b) (by assumption)
  have Wnnc2 := keep hB (p := ⟨w.heap.size + 1, 0, none⟩) (v := .int .i64 m) (by assumption)
  have Wnnc3 := keep hB (p := ⟨w.heap.size + 1, 1, none⟩) (v := .int .i64 c) (by assumption)
  have Wnnc4 := keep hB (p := ⟨g, 0, none⟩) (v := .int .i64 x) (by assumption)
  have Wnnc5 := keep hB (p := ⟨g, 1, none⟩) (v := .int .i64 y) (by assumption)
  replace HW := Lib.hid (bThen HW.out hB)
  clear hB
  go_wp2_with fail
  refine (eqTable_same x y _).mono ?_
  rintro e w2 ⟨rfl, hb⟩
  have hB := bThen HW.out hb
  go_wp2
  go_ret
  exact ⟨rfl, hB⟩
end Go.Proofs.Ytiikadlcoijcfaa
