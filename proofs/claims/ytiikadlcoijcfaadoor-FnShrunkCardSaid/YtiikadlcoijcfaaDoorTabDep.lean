/-
  Truth tables: does a table depend on an input?
-/
import Derived.Test.YtiikadlcoijcfaaDoorTabCof
import Derived.Laws.StructEq
import Derived.Lib.QuietBelow
namespace Go.Proofs.YtiikadlcoijcfaaDoor
open Go.RowKit
set_option linter.unusedVariables false

/-- Whether the table depends on input k. -/
def depB (n b k : Int) : Bool := okB n b && decide (0 ≤ k ∧ k < n) && (cofN n.toNat b.toNat k.toNat false != cofN n.toNat b.toNat k.toNat true)
theorem withFact {p q : Prop} (h : p) (k : p → q) : q := k h
theorem dep_of {n b k x0 y0 x1 y1 : Int} (h0 : cofT n b k false = .agg #[.int .i64 x0, .int .i64 y0]) (h1 : cofT n b k true = .agg #[.int .i64 x1, .int .i64 y1]) :
    depB n b k = !(decide (x0 = x1) && decide (y0 = y1)) := by
  unfold cofT T at h0 h1
  unfold depB
  by_cases h : okB n b = true ∧ 0 ≤ k ∧ k < n
  · rw [if_pos h] at h0 h1
    simp only [Value.agg.injEq, Array.mk.injEq, List.cons.injEq, Value.int.injEq, true_and, and_true] at h0 h1
    rw [h.1, decide_eq_true h.2, ← h0.1, ← h1.1, ← h0.2, ← h1.2]
    generalize cofN n.toNat b.toNat k.toNat false = p
    generalize cofN n.toNat b.toNat k.toNat true = q
    by_cases e : p = q
    · subst e; simp
    · have : ¬ ((p : Int) = (q : Int)) := by omega
      simp [e, this]
  · rw [if_neg h] at h0 h1
    simp only [Value.agg.injEq, Array.mk.injEq, List.cons.injEq, Value.int.injEq, true_and, and_true] at h0 h1
    rw [← h0.1, ← h1.1, ← h0.2, ← h1.2]
    cases hok : okB n b
    · simp
    · have : ¬ (0 ≤ k ∧ k < n) := fun h2 => h ⟨hok, h2⟩
      simp [this]

set_option maxHeartbeats 3200000 in
theorem implDep_any (n b k : Int) (w : World) (hI : InB w) :
    Calls Tryd.prog 14 #[T n b, .int .i64 k] w fun e w' => e = .returned (.bool (depB n b k)) ∧ Below w.heap.size w w' := by
  obtain ⟨x0, y0, h0⟩ := cofT_shape n b k false
  obtain ⟨x1, y1, h1⟩ := cofT_shape n b k true
  rw [dep_of h0 h1]
  unfold T
  go_enter Tryd.func14, Tryd.ntmps14
  go_wp2
  obtain ⟨W, hW⟩ : ∃ W, W = (w.alloc (.cells #[.int .i64 n, .int .i64 b] 25)) := ⟨_, rfl⟩
  rw [← hW]
  have g := eqbox1 hW
  have c0 : W.cell? ⟨w.heap.size, 0, none⟩ = some (.int .i64 n) := box_cell g.1 0 _ rfl
  have c1 : W.cell? ⟨w.heap.size, 1, none⟩ = some (.int .i64 b) := box_cell g.1 1 _ rfl
  have HW := Lib.hid g.2
  have hJ : InB W := hI.keep g.2
  clear hW g hI
  have hS : ∀ w', Below W.heap.size W w' → Below W.heap.size W w' ∧ w'.cell? ⟨w.heap.size, 0, none⟩ = some (.int .i64 n) ∧ w'.cell? ⟨w.heap.size, 1, none⟩ = some (.int .i64 b) := fun w' h => ⟨h, keep h c0, keep h c1⟩
  by_cases e0 : x0 = x1 <;> by_cases e1 : y0 = y1
  all_goals
    go_region_held3 (fun w' => Below W.heap.size W w' ∧ w'.cell? ⟨w.heap.size, 0, none⟩ = some (.int .i64 n) ∧ w'.cell? ⟨w.heap.size, 1, none⟩ = some (.int .i64 b))
      (exact hS _ (by repeat' (first | exact Below.refl _ _ | exact (‹Below W.heap.size W _ ∧ _›).1 | exact bThen (‹Below W.heap.size W _ ∧ _›).1 (by assumption) | refine Below.drew ?_)))
      (first | (go_at_call 13; refine (implCof_any n b k _ _ (hJ.keep (‹Below W.heap.size W _ ∧ _›).1)).mono ?_; (first | rw [h0] | rw [h1]); rintro e w1 ⟨rfl, hb⟩))
    all_goals go_wp2
    all_goals go_ret
    all_goals exact ⟨ret_bool (by simp [e0, e1]), bThen HW.out (‹Below W.heap.size W _ ∧ _›).1⟩

theorem specOk_at (n b : Int) {v : Bool} (w : World) (h : okB n b = v) : Calls Tryd.prog 40 #[.agg #[.int .i64 n, .int .i64 b]] w fun e w' => e = .returned (.bool v) ∧ Below w.heap.size w w' := by
  subst h; exact specOk_any n b w
theorem dep_no {n b k : Int} (h : ¬ (okB n b = true ∧ 0 ≤ k ∧ k < n)) : depB n b k = false := by
  unfold depB
  cases hok : okB n b
  · simp
  · have : ¬ (0 ≤ k ∧ k < n) := fun h2 => h ⟨hok, h2⟩
    simp [this]

set_option maxHeartbeats 3200000 in
theorem specDep_any (n b k : Int) (w : World) :
    Calls Tryd.prog 27 #[T n b, .int .i64 k] w fun e w' => e = .returned (.bool (depB n b k)) ∧ Below w.heap.size w w' := by
  obtain ⟨x0, y0, h0⟩ := cofT_shape n b k false
  obtain ⟨x1, y1, h1⟩ := cofT_shape n b k true
  by_cases hall : okB n b = true ∧ 0 ≤ k ∧ k < n
  · rw [dep_of h0 h1]
    obtain ⟨hok, k0, k1⟩ := hall
    unfold T
    go_enter Tryd.func27, Tryd.ntmps27
    go_wp2
    obtain ⟨W, hW⟩ : ∃ W, W = (w.alloc (.cells #[.int .i64 n, .int .i64 b] 25)) := ⟨_, rfl⟩
    rw [← hW]
    have g := eqbox1 hW
    have c0 : W.cell? ⟨w.heap.size, 0, none⟩ = some (.int .i64 n) := box_cell g.1 0 _ rfl
    have c1 : W.cell? ⟨w.heap.size, 1, none⟩ = some (.int .i64 b) := box_cell g.1 1 _ rfl
    have HW := Lib.hid g.2
    clear hW g
    have hS : ∀ w', Below W.heap.size W w' → Below W.heap.size W w' ∧ w'.cell? ⟨w.heap.size, 0, none⟩ = some (.int .i64 n) ∧ w'.cell? ⟨w.heap.size, 1, none⟩ = some (.int .i64 b) := fun w' h => ⟨h, keep h c0, keep h c1⟩
    by_cases e0 : x0 = x1 <;> by_cases e1 : y0 = y1
    all_goals
      go_region_held3 (fun w' => Below W.heap.size W w' ∧ w'.cell? ⟨w.heap.size, 0, none⟩ = some (.int .i64 n) ∧ w'.cell? ⟨w.heap.size, 1, none⟩ = some (.int .i64 b))
        (exact hS _ (by repeat' (first | exact Below.refl _ _ | exact (‹Below W.heap.size W _ ∧ _›).1 | exact bThen (‹Below W.heap.size W _ ∧ _›).1 (by assumption) | refine Below.drew ?_)))
        (first | (go_at_call 40; refine (specOk_any n b _).mono ?_; rw [hok]; rintro e w1 ⟨rfl, hb⟩) | (go_at_call 25; refine (specCof_any n b k _ _).mono ?_; (first | rw [h0] | rw [h1]); rintro e w1 ⟨rfl, hb⟩))
      all_goals go_wp2
      all_goals go_ret
      all_goals exact ⟨ret_bool (by simp [e0, e1]), bThen HW.out (‹Below W.heap.size W _ ∧ _›).1⟩
  · rw [dep_no hall]
    unfold T
    have hcases : okB n b = false ∨ (okB n b = true ∧ ¬ 0 ≤ k) ∨ (okB n b = true ∧ 0 ≤ k ∧ ¬ k < n) := by
      cases hok : okB n b
      · exact .inl rfl
      · by_cases k0 : 0 ≤ k
        · exact .inr (.inr ⟨rfl, k0, fun k1 => hall ⟨hok, k0, k1⟩⟩)
        · exact .inr (.inl ⟨rfl, k0⟩)
    clear hall h0 h1
    rcases hcases with hok | ⟨hok, k0⟩ | ⟨hok, k0, k1⟩
    · go_enter Tryd.func27, Tryd.ntmps27
      go_wp2
      obtain ⟨W, hW⟩ : ∃ W, W = (w.alloc (.cells #[.int .i64 n, .int .i64 b] 25)) := ⟨_, rfl⟩
      rw [← hW]
      have g := eqbox1 hW
      have c0 : ∀ d os, (Sort.grow (redrawn W d) os).cell? ⟨w.heap.size, 0, none⟩ = some (.int .i64 n) := cell_regrown (box_cell g.1 0 _ rfl)
      have c1 : ∀ d os, (Sort.grow (redrawn W d) os).cell? ⟨w.heap.size, 1, none⟩ = some (.int .i64 b) := cell_regrown (box_cell g.1 1 _ rfl)
      have HW := Lib.hid g.2
      clear hW g
      refine wp_region_quiet_below (by kernel_rfl) (by kernel_rfl) ?_
      repeat (go_big_quiet_step (first | (go_at_call 40; refine Calls.regrown_of (specOk_at n b _ hok))))
      refine wpQuiet_nil ?_
      intro _ hw'
      obtain ⟨⟨dq, osq⟩, hw''⟩ := hw'
      subst hw''
      go_wp2
      go_ret
      exact ⟨rfl, bThen HW.out (below_regrown W dq osq)⟩
    · go_enter Tryd.func27, Tryd.ntmps27
      go_wp2
      obtain ⟨W, hW⟩ : ∃ W, W = (w.alloc (.cells #[.int .i64 n, .int .i64 b] 25)) := ⟨_, rfl⟩
      rw [← hW]
      have g := eqbox1 hW
      have c0 : ∀ d os, (Sort.grow (redrawn W d) os).cell? ⟨w.heap.size, 0, none⟩ = some (.int .i64 n) := cell_regrown (box_cell g.1 0 _ rfl)
      have c1 : ∀ d os, (Sort.grow (redrawn W d) os).cell? ⟨w.heap.size, 1, none⟩ = some (.int .i64 b) := cell_regrown (box_cell g.1 1 _ rfl)
      have HW := Lib.hid g.2
      clear hW g
      have t0 : ¬ 0 ≤ k := by omega
      refine wp_region_quiet_below (by kernel_rfl) (by kernel_rfl) ?_
      repeat (go_big_quiet_step (first | (go_at_call 40; refine Calls.regrown_of (specOk_at n b _ hok))))
      refine wpQuiet_nil ?_
      intro _ hw'
      obtain ⟨⟨dq, osq⟩, hw''⟩ := hw'
      subst hw''
      go_wp2
      go_ret
      exact ⟨rfl, bThen HW.out (below_regrown W dq osq)⟩
    · go_enter Tryd.func27, Tryd.ntmps27
      go_wp2
      obtain ⟨W, hW⟩ : ∃ W, W = (w.alloc (.cells #[.int .i64 n, .int .i64 b] 25)) := ⟨_, rfl⟩
      rw [← hW]
      have g := eqbox1 hW
      have c0 : ∀ d os, (Sort.grow (redrawn W d) os).cell? ⟨w.heap.size, 0, none⟩ = some (.int .i64 n) := cell_regrown (box_cell g.1 0 _ rfl)
      have c1 : ∀ d os, (Sort.grow (redrawn W d) os).cell? ⟨w.heap.size, 1, none⟩ = some (.int .i64 b) := cell_regrown (box_cell g.1 1 _ rfl)
      have HW := Lib.hid g.2
      clear hW g
      have t1 : ¬ k < n := by omega
      refine wp_region_quiet_below (by kernel_rfl) (by kernel_rfl) ?_
      repeat (go_big_quiet_step (first | (go_at_call 40; refine Calls.regrown_of (specOk_at n b _ hok))))
      refine wpQuiet_nil ?_
      intro _ hw'
      obtain ⟨⟨dq, osq⟩, hw''⟩ := hw'
      subst hw''
      go_wp2
      go_ret
      exact ⟨rfl, bThen HW.out (below_regrown W dq osq)⟩
end Go.Proofs.YtiikadlcoijcfaaDoor
