/-
  A drawn operator (spec.DrawOpText).
-/
import Derived.Test.YtikibabknlpnkaaDoorPick
import Derived.Test.YtikibabknlpnkaaDoorIWord
namespace Go.Proofs.YtikibabknlpnkaaDoor
open Go.RowKit
set_option linter.unusedVariables false
set_option linter.unusedSimpArgs false

/-- While an operator is drawn: the cursor's block g, the operator's block q, the result's block. -/
structure St (w : World) (g q n : Nat) (k a b : Int) (W : World) : Prop where
  cur : Cur 47 W g n
  res : W.heap[w.heap.size]? = some (.cells #[.int .i64 0, .int .i64 0, .int .i64 0] 25)
  op : W.heap[q]? = some (.cells #[.int .i64 k, .int .i64 a, .int .i64 b] 25)
  bel : Below w.heap.size w W
  rg : w.heap.size < g
  gq : g < q
theorem CodeW.keep {w w' : World} {A : Option Addr} {n : Nat} (h : CodeW w A n) (hb : Below w.heap.size w w') : CodeW w' A n :=
  ⟨h.1, fun k hk => by
    obtain ⟨b, o, e, hb', y, h0, h1, hy⟩ := h.2 k hk
    exact ⟨b, o, e, Nat.lt_of_lt_of_le hb' hb.size, y, h0, h1, Go.Proofs.YtikibabknlpnkaaDoor.keep hb hy⟩⟩
theorem row_lt {W : World} {g : Nat} {o : Obj} (h : W.heap[g]? = some o) : g < W.heap.size := (Array.getElem?_eq_some_iff.mp h).1
theorem St.chg {w W W' : World} {g q n : Nat} {k a b : Int} (h : St w g q n k a b W) (hc : Cur 47 W' g n) (hch : Chg g W W') : St w g q n k a b W' := by
  have h1 := h.rg
  have h2 := h.gq
  exact ⟨hc, (hch.block _ (row_lt h.res) (by omega)).trans h.res, (hch.block _ (row_lt h.op) (by omega)).trans h.op, Chg.below h.bel hch h.bel.size (by omega), h1, h2⟩
theorem St.set1 {w W : World} {g q n : Nat} {k a b : Int} (h : St w g q n k a b W) (x : Int) : St w g q n k x b (W.setCell ⟨q, 1, none⟩ (.int .i64 x)) := by
  have h1 := h.rg
  have h2 := h.gq
  refine ⟨h.cur.under (bSet (Below.refl _ _) (by show g + 1 ≤ q; omega) _), ?_, (heap_setCell_same _ _ _ _ _ _ h.op).trans rfl, bSet h.bel (by show w.heap.size ≤ q; omega) _, h1, h2⟩
  rw [heap_setCell_other _ _ _ _ (by show w.heap.size ≠ q; omega)]
  exact h.res
theorem St.set2 {w W : World} {g q n : Nat} {k a b : Int} (h : St w g q n k a b W) (x : Int) : St w g q n k a x (W.setCell ⟨q, 2, none⟩ (.int .i64 x)) := by
  have h1 := h.rg
  have h2 := h.gq
  refine ⟨h.cur.under (bSet (Below.refl _ _) (by show g + 1 ≤ q; omega) _), ?_, (heap_setCell_same _ _ _ _ _ _ h.op).trans rfl, bSet h.bel (by show w.heap.size ≤ q; omega) _, h1, h2⟩
  rw [heap_setCell_other _ _ _ _ (by show w.heap.size ≠ q; omega)]
  exact h.res

set_option maxHeartbeats 3200000 in
theorem drawOpText_any (A : Option Addr) (n cap : Nat) (w : World) (hc : CodeW w A n) :
    Calls Tryd.prog 7 #[.slice A n cap] w fun e w' => ∃ k a b : Int, e = .returned (.agg #[.int .i64 k, .int .i64 a, .int .i64 b]) ∧ (Fit k ∧ Fit a ∧ Fit b) ∧ Below w.heap.size w w' := by
  go_enter Tryd.func7, Tryd.ntmps7
  go_wp2_with fail
  refine (new_any A n cap _ (hc.keep (by (repeat' (first | assumption | exact Below.refl _ _ | refine bDrewN ?_ _ | refine Below.drew ?_ | refine bAlloc ?_ (Nat.le_refl _) _ | refine bSet ?_ (by first | exact Nat.le_refl _ | omega | (simp <;> omega)) _))))).mono ?_
  rintro e w1 ⟨rfl, hcu, hb⟩
  obtain ⟨hr, hb1⟩ := box1 hb
  obtain ⟨g, hg⟩ : ∃ g, (w.alloc (.cells #[.int .i64 0, .int .i64 0, .int .i64 0] 25)).heap.size = g := ⟨_, rfl⟩
  have hrg : w.heap.size < g := by rw [← hg]; simp
  rw [hg] at hcu ⊢
  clear hg hb hc
  go_wp2_with fail
  refine (below_any g n 15 _ (by omega) (by omega) hcu).mono ?_
  rintro e w2 ⟨x, rfl, ⟨hx0, hx1⟩, hcu2, hch⟩
  have ew : wrap64 (x - 1) = x - 1 := by unfold wrap64; omega
  obtain ⟨k, hk⟩ : ∃ k : Int, x - 1 = k := ⟨_, rfl⟩
  rw [hk] at ew
  have hst : St w g w2.heap.size n k 0 0 (w2.alloc (.cells #[.int .i64 k, .int .i64 0, .int .i64 0] 25)) := by
    have h3 := hcu2.lt
    refine ⟨hcu2.keep (bAlloc (Below.refl _ _) (Nat.le_refl _) _), ?_, heap_alloc_new w2 _, bAlloc (Chg.below hb1 hch hb1.size (by omega)) (by have := hb1.size; have := hch.size; omega) _, hrg, h3⟩
    rw [Below.heap_alloc _ _ _ (by have := row_lt hr; have := hch.size; omega)]
    exact (hch.block _ (row_lt hr) (by omega)).trans hr
  have HS := Lib.hid hst
  have hkf : Fit k := by unfold Fit; omega
  have HF := Lib.hid hkf
  clear hcu2 hch hcu hr hb1 hst hkf
  by_cases h0 : k = 0
  · subst h0
    have c0 := box_cell HS.out.op 0 _ rfl
    have c1 := box_cell HS.out.op 1 _ rfl
    have c2 := box_cell HS.out.op 2 _ rfl
    have f1 := frozen_of_row _ _ 1 _ _ HS.out.op
    have f2 := frozen_of_row _ _ 2 _ _ HS.out.op
    go_wp2_with fail
    refine (place_any g n 16 _ (by omega) (by omega) HS.out.cur).mono ?_
    rintro e w3 ⟨a, rfl, ha, hcu, hch⟩
    replace HS := Lib.hid (HS.out.chg hcu hch)
    clear hcu hch c0 c1 c2 f1 f2
    have p0 := box_cell HS.out.op 0 _ rfl
    have p1 := box_cell HS.out.op 1 _ rfl
    have p2 := box_cell HS.out.op 2 _ rfl
    have p3 := frozen_of_row _ _ 1 _ _ HS.out.op
    have p4 := frozen_of_row _ _ 2 _ _ HS.out.op
    replace HS := Lib.hid (HS.out.set1 a)
    replace HF := Lib.hid (And.intro HF.out ha)
    clear ha
    replace HF := Lib.hid (show Fit 0 ∧ Fit a ∧ Fit 0 from ⟨HF.out.1, HF.out.2, by unfold Fit; omega⟩)
    have c0 := box_cell HS.out.op 0 _ rfl
    have c1 := box_cell HS.out.op 1 _ rfl
    have c2 := box_cell HS.out.op 2 _ rfl
    have f1 := frozen_of_row _ _ 1 _ _ HS.out.op
    have f2 := frozen_of_row _ _ 2 _ _ HS.out.op
    have r0 := box_cell HS.out.res 0 _ rfl
    have r1 := box_cell HS.out.res 1 _ rfl
    have r2 := box_cell HS.out.res 2 _ rfl
    have y0 := frozen_of_row _ _ 0 _ _ HS.out.res
    have y1 := frozen_of_row _ _ 1 _ _ HS.out.res
    have y2 := frozen_of_row _ _ 2 _ _ HS.out.res
    have l1 := World.block_lt_of_cell? _ _ r0
    have l2 := World.block_lt_of_cell? _ _ c0
    have l3 := HS.out.rg
    have l4 := HS.out.gq
    go_wp2
    ((try simp only [Exit.inBlock, Exit.then]); refine bodyPost_ret (v := (.agg #[.int .i64 0, .int .i64 a, .int .i64 0])) (by rw [results_cell1 rfl]; go_simp) rfl ?_)
    exact ⟨_, _, _, rfl, HF.out, bSet (bSet (bSet HS.out.bel (Nat.le_refl _) _) (Nat.le_refl _) _) (Nat.le_refl _) _⟩
  · by_cases h2 : k = 2
    · subst h2
      have c0 := box_cell HS.out.op 0 _ rfl
      have c1 := box_cell HS.out.op 1 _ rfl
      have c2 := box_cell HS.out.op 2 _ rfl
      have f1 := frozen_of_row _ _ 1 _ _ HS.out.op
      have f2 := frozen_of_row _ _ 2 _ _ HS.out.op
      go_wp2_with fail
      refine (once_any g n 8 _ (by omega) (by omega) HS.out.cur).mono ?_
      rintro e w4 ⟨q1, rfl, hcu, hch⟩
      replace HS := Lib.hid (HS.out.chg hcu hch)
      clear hcu hch c0 c1 c2 f1 f2
      cases q1 with
      | true =>
        have c0 := box_cell HS.out.op 0 _ rfl
        have c1 := box_cell HS.out.op 1 _ rfl
        have c2 := box_cell HS.out.op 2 _ rfl
        have f1 := frozen_of_row _ _ 1 _ _ HS.out.op
        have f2 := frozen_of_row _ _ 2 _ _ HS.out.op
        go_wp2_with fail
        refine (place_any g n 16 _ (by omega) (by omega) HS.out.cur).mono ?_
        rintro e w5 ⟨a, rfl, ha, hcu, hch⟩
        replace HS := Lib.hid (HS.out.chg hcu hch)
        clear hcu hch c0 c1 c2 f1 f2
        have p0 := box_cell HS.out.op 0 _ rfl
        have p1 := box_cell HS.out.op 1 _ rfl
        have p2 := box_cell HS.out.op 2 _ rfl
        have p3 := frozen_of_row _ _ 1 _ _ HS.out.op
        have p4 := frozen_of_row _ _ 2 _ _ HS.out.op
        replace HS := Lib.hid (HS.out.set1 a)
        replace HF := Lib.hid (And.intro HF.out ha)
        clear ha
        have c0 := box_cell HS.out.op 0 _ rfl
        have c1 := box_cell HS.out.op 1 _ rfl
        have c2 := box_cell HS.out.op 2 _ rfl
        have f1 := frozen_of_row _ _ 1 _ _ HS.out.op
        have f2 := frozen_of_row _ _ 2 _ _ HS.out.op
        go_wp2_with fail
        refine (place_any g n 30 _ (by omega) (by omega) HS.out.cur).mono ?_
        rintro e w6 ⟨a2, rfl, ha2, hcu, hch⟩
        replace HS := Lib.hid (HS.out.chg hcu hch)
        clear hcu hch c0 c1 c2 f1 f2
        have p0 := box_cell HS.out.op 0 _ rfl
        have p1 := box_cell HS.out.op 1 _ rfl
        have p2 := box_cell HS.out.op 2 _ rfl
        have p3 := frozen_of_row _ _ 1 _ _ HS.out.op
        have p4 := frozen_of_row _ _ 2 _ _ HS.out.op
        replace HS := Lib.hid (HS.out.set1 a2)
        replace HF := Lib.hid (show Fit 2 ∧ Fit a2 from ⟨HF.out.1, ha2⟩)
        clear ha2
        have c0 := box_cell HS.out.op 0 _ rfl
        have c1 := box_cell HS.out.op 1 _ rfl
        have c2 := box_cell HS.out.op 2 _ rfl
        have f1 := frozen_of_row _ _ 1 _ _ HS.out.op
        have f2 := frozen_of_row _ _ 2 _ _ HS.out.op
        go_wp2_with fail
        refine (once_any g n 8 _ (by omega) (by omega) HS.out.cur).mono ?_
        rintro e w7 ⟨q2, rfl, hcu, hch⟩
        replace HS := Lib.hid (HS.out.chg hcu hch)
        clear hcu hch c0 c1 c2 f1 f2
        cases q2 with
        | true =>
          have c0 := box_cell HS.out.op 0 _ rfl
          have c1 := box_cell HS.out.op 1 _ rfl
          have c2 := box_cell HS.out.op 2 _ rfl
          have f1 := frozen_of_row _ _ 1 _ _ HS.out.op
          have f2 := frozen_of_row _ _ 2 _ _ HS.out.op
          go_wp2_with fail
          refine (below_any g n 6 _ (by omega) (by omega) HS.out.cur).mono ?_
          rintro e w8 ⟨y, rfl, ⟨hy0, hy1⟩, hcu, hch⟩
          replace HS := Lib.hid (HS.out.chg hcu hch)
          clear hcu hch c0 c1 c2 f1 f2
          have ey : wrap64 (y - 1) = y - 1 := by unfold wrap64; omega
          obtain ⟨b, hb⟩ : ∃ b : Int, y - 1 = b := ⟨_, rfl⟩
          rw [hb] at ey
          have hbf : Fit b := by unfold Fit; omega
          replace HF := Lib.hid (show Fit 2 ∧ Fit a2 ∧ Fit b from ⟨HF.out.1, HF.out.2, hbf⟩)
          have p0 := box_cell HS.out.op 0 _ rfl
          have p1 := box_cell HS.out.op 1 _ rfl
          have p2 := box_cell HS.out.op 2 _ rfl
          have p3 := frozen_of_row _ _ 1 _ _ HS.out.op
          have p4 := frozen_of_row _ _ 2 _ _ HS.out.op
          replace HS := Lib.hid (HS.out.set2 b)
          clear hbf
          have c0 := box_cell HS.out.op 0 _ rfl
          have c1 := box_cell HS.out.op 1 _ rfl
          have c2 := box_cell HS.out.op 2 _ rfl
          have f1 := frozen_of_row _ _ 1 _ _ HS.out.op
          have f2 := frozen_of_row _ _ 2 _ _ HS.out.op
          have r0 := box_cell HS.out.res 0 _ rfl
          have r1 := box_cell HS.out.res 1 _ rfl
          have r2 := box_cell HS.out.res 2 _ rfl
          have y0 := frozen_of_row _ _ 0 _ _ HS.out.res
          have y1 := frozen_of_row _ _ 1 _ _ HS.out.res
          have y2 := frozen_of_row _ _ 2 _ _ HS.out.res
          have l1 := World.block_lt_of_cell? _ _ r0
          have l2 := World.block_lt_of_cell? _ _ c0
          have l3 := HS.out.rg
          have l4 := HS.out.gq
          go_wp2
          ((try simp only [Exit.inBlock, Exit.then]); refine bodyPost_ret (v := (.agg #[.int .i64 2, .int .i64 a2, .int .i64 b])) (by rw [results_cell1 rfl]; go_simp) rfl ?_)
          exact ⟨_, _, _, rfl, HF.out, bSet (bSet (bSet HS.out.bel (Nat.le_refl _) _) (Nat.le_refl _) _) (Nat.le_refl _) _⟩
        | false =>
          replace HF := Lib.hid (show Fit 2 ∧ Fit a2 ∧ Fit 0 from ⟨HF.out.1, HF.out.2, by unfold Fit; omega⟩)
          have c0 := box_cell HS.out.op 0 _ rfl
          have c1 := box_cell HS.out.op 1 _ rfl
          have c2 := box_cell HS.out.op 2 _ rfl
          have f1 := frozen_of_row _ _ 1 _ _ HS.out.op
          have f2 := frozen_of_row _ _ 2 _ _ HS.out.op
          have r0 := box_cell HS.out.res 0 _ rfl
          have r1 := box_cell HS.out.res 1 _ rfl
          have r2 := box_cell HS.out.res 2 _ rfl
          have y0 := frozen_of_row _ _ 0 _ _ HS.out.res
          have y1 := frozen_of_row _ _ 1 _ _ HS.out.res
          have y2 := frozen_of_row _ _ 2 _ _ HS.out.res
          have l1 := World.block_lt_of_cell? _ _ r0
          have l2 := World.block_lt_of_cell? _ _ c0
          have l3 := HS.out.rg
          have l4 := HS.out.gq
          go_wp2
          ((try simp only [Exit.inBlock, Exit.then]); refine bodyPost_ret (v := (.agg #[.int .i64 2, .int .i64 a2, .int .i64 0])) (by rw [results_cell1 rfl]; go_simp) rfl ?_)
          exact ⟨_, _, _, rfl, HF.out, bSet (bSet (bSet HS.out.bel (Nat.le_refl _) _) (Nat.le_refl _) _) (Nat.le_refl _) _⟩
      | false =>
        replace HF := Lib.hid (show Fit 2 ∧ Fit 0 from ⟨HF.out, by unfold Fit; omega⟩)
        have c0 := box_cell HS.out.op 0 _ rfl
        have c1 := box_cell HS.out.op 1 _ rfl
        have c2 := box_cell HS.out.op 2 _ rfl
        have f1 := frozen_of_row _ _ 1 _ _ HS.out.op
        have f2 := frozen_of_row _ _ 2 _ _ HS.out.op
        go_wp2_with fail
        refine (place_any g n 30 _ (by omega) (by omega) HS.out.cur).mono ?_
        rintro e w9 ⟨a2, rfl, ha2, hcu, hch⟩
        replace HS := Lib.hid (HS.out.chg hcu hch)
        clear hcu hch c0 c1 c2 f1 f2
        have p0 := box_cell HS.out.op 0 _ rfl
        have p1 := box_cell HS.out.op 1 _ rfl
        have p2 := box_cell HS.out.op 2 _ rfl
        have p3 := frozen_of_row _ _ 1 _ _ HS.out.op
        have p4 := frozen_of_row _ _ 2 _ _ HS.out.op
        replace HS := Lib.hid (HS.out.set1 a2)
        replace HF := Lib.hid (show Fit 2 ∧ Fit a2 from ⟨HF.out.1, ha2⟩)
        clear ha2
        have c0 := box_cell HS.out.op 0 _ rfl
        have c1 := box_cell HS.out.op 1 _ rfl
        have c2 := box_cell HS.out.op 2 _ rfl
        have f1 := frozen_of_row _ _ 1 _ _ HS.out.op
        have f2 := frozen_of_row _ _ 2 _ _ HS.out.op
        go_wp2_with fail
        refine (once_any g n 8 _ (by omega) (by omega) HS.out.cur).mono ?_
        rintro e w10 ⟨q2, rfl, hcu, hch⟩
        replace HS := Lib.hid (HS.out.chg hcu hch)
        clear hcu hch c0 c1 c2 f1 f2
        cases q2 with
        | true =>
          have c0 := box_cell HS.out.op 0 _ rfl
          have c1 := box_cell HS.out.op 1 _ rfl
          have c2 := box_cell HS.out.op 2 _ rfl
          have f1 := frozen_of_row _ _ 1 _ _ HS.out.op
          have f2 := frozen_of_row _ _ 2 _ _ HS.out.op
          go_wp2_with fail
          refine (below_any g n 6 _ (by omega) (by omega) HS.out.cur).mono ?_
          rintro e w11 ⟨y, rfl, ⟨hy0, hy1⟩, hcu, hch⟩
          replace HS := Lib.hid (HS.out.chg hcu hch)
          clear hcu hch c0 c1 c2 f1 f2
          have ey : wrap64 (y - 1) = y - 1 := by unfold wrap64; omega
          obtain ⟨b, hb⟩ : ∃ b : Int, y - 1 = b := ⟨_, rfl⟩
          rw [hb] at ey
          have hbf : Fit b := by unfold Fit; omega
          replace HF := Lib.hid (show Fit 2 ∧ Fit a2 ∧ Fit b from ⟨HF.out.1, HF.out.2, hbf⟩)
          have p0 := box_cell HS.out.op 0 _ rfl
          have p1 := box_cell HS.out.op 1 _ rfl
          have p2 := box_cell HS.out.op 2 _ rfl
          have p3 := frozen_of_row _ _ 1 _ _ HS.out.op
          have p4 := frozen_of_row _ _ 2 _ _ HS.out.op
          replace HS := Lib.hid (HS.out.set2 b)
          clear hbf
          have c0 := box_cell HS.out.op 0 _ rfl
          have c1 := box_cell HS.out.op 1 _ rfl
          have c2 := box_cell HS.out.op 2 _ rfl
          have f1 := frozen_of_row _ _ 1 _ _ HS.out.op
          have f2 := frozen_of_row _ _ 2 _ _ HS.out.op
          have r0 := box_cell HS.out.res 0 _ rfl
          have r1 := box_cell HS.out.res 1 _ rfl
          have r2 := box_cell HS.out.res 2 _ rfl
          have y0 := frozen_of_row _ _ 0 _ _ HS.out.res
          have y1 := frozen_of_row _ _ 1 _ _ HS.out.res
          have y2 := frozen_of_row _ _ 2 _ _ HS.out.res
          have l1 := World.block_lt_of_cell? _ _ r0
          have l2 := World.block_lt_of_cell? _ _ c0
          have l3 := HS.out.rg
          have l4 := HS.out.gq
          go_wp2
          ((try simp only [Exit.inBlock, Exit.then]); refine bodyPost_ret (v := (.agg #[.int .i64 2, .int .i64 a2, .int .i64 b])) (by rw [results_cell1 rfl]; go_simp) rfl ?_)
          exact ⟨_, _, _, rfl, HF.out, bSet (bSet (bSet HS.out.bel (Nat.le_refl _) _) (Nat.le_refl _) _) (Nat.le_refl _) _⟩
        | false =>
          replace HF := Lib.hid (show Fit 2 ∧ Fit a2 ∧ Fit 0 from ⟨HF.out.1, HF.out.2, by unfold Fit; omega⟩)
          have c0 := box_cell HS.out.op 0 _ rfl
          have c1 := box_cell HS.out.op 1 _ rfl
          have c2 := box_cell HS.out.op 2 _ rfl
          have f1 := frozen_of_row _ _ 1 _ _ HS.out.op
          have f2 := frozen_of_row _ _ 2 _ _ HS.out.op
          have r0 := box_cell HS.out.res 0 _ rfl
          have r1 := box_cell HS.out.res 1 _ rfl
          have r2 := box_cell HS.out.res 2 _ rfl
          have y0 := frozen_of_row _ _ 0 _ _ HS.out.res
          have y1 := frozen_of_row _ _ 1 _ _ HS.out.res
          have y2 := frozen_of_row _ _ 2 _ _ HS.out.res
          have l1 := World.block_lt_of_cell? _ _ r0
          have l2 := World.block_lt_of_cell? _ _ c0
          have l3 := HS.out.rg
          have l4 := HS.out.gq
          go_wp2
          ((try simp only [Exit.inBlock, Exit.then]); refine bodyPost_ret (v := (.agg #[.int .i64 2, .int .i64 a2, .int .i64 0])) (by rw [results_cell1 rfl]; go_simp) rfl ?_)
          exact ⟨_, _, _, rfl, HF.out, bSet (bSet (bSet HS.out.bel (Nat.le_refl _) _) (Nat.le_refl _) _) (Nat.le_refl _) _⟩
    · by_cases h3 : k = 3
      · subst h3
        have c0 := box_cell HS.out.op 0 _ rfl
        have c1 := box_cell HS.out.op 1 _ rfl
        have c2 := box_cell HS.out.op 2 _ rfl
        have f1 := frozen_of_row _ _ 1 _ _ HS.out.op
        have f2 := frozen_of_row _ _ 2 _ _ HS.out.op
        go_wp2_with fail
        refine (once_any g n 8 _ (by omega) (by omega) HS.out.cur).mono ?_
        rintro e w12 ⟨q1, rfl, hcu, hch⟩
        replace HS := Lib.hid (HS.out.chg hcu hch)
        clear hcu hch c0 c1 c2 f1 f2
        cases q1 with
        | true =>
          have c0 := box_cell HS.out.op 0 _ rfl
          have c1 := box_cell HS.out.op 1 _ rfl
          have c2 := box_cell HS.out.op 2 _ rfl
          have f1 := frozen_of_row _ _ 1 _ _ HS.out.op
          have f2 := frozen_of_row _ _ 2 _ _ HS.out.op
          go_wp2_with fail
          refine (place_any g n 16 _ (by omega) (by omega) HS.out.cur).mono ?_
          rintro e w13 ⟨a, rfl, ha, hcu, hch⟩
          replace HS := Lib.hid (HS.out.chg hcu hch)
          clear hcu hch c0 c1 c2 f1 f2
          have p0 := box_cell HS.out.op 0 _ rfl
          have p1 := box_cell HS.out.op 1 _ rfl
          have p2 := box_cell HS.out.op 2 _ rfl
          have p3 := frozen_of_row _ _ 1 _ _ HS.out.op
          have p4 := frozen_of_row _ _ 2 _ _ HS.out.op
          replace HS := Lib.hid (HS.out.set1 a)
          replace HF := Lib.hid (And.intro HF.out ha)
          clear ha
          have c0 := box_cell HS.out.op 0 _ rfl
          have c1 := box_cell HS.out.op 1 _ rfl
          have c2 := box_cell HS.out.op 2 _ rfl
          have f1 := frozen_of_row _ _ 1 _ _ HS.out.op
          have f2 := frozen_of_row _ _ 2 _ _ HS.out.op
          go_wp2_with fail
          refine (place_any g n 30 _ (by omega) (by omega) HS.out.cur).mono ?_
          rintro e w14 ⟨a2, rfl, ha2, hcu, hch⟩
          replace HS := Lib.hid (HS.out.chg hcu hch)
          clear hcu hch c0 c1 c2 f1 f2
          have p0 := box_cell HS.out.op 0 _ rfl
          have p1 := box_cell HS.out.op 1 _ rfl
          have p2 := box_cell HS.out.op 2 _ rfl
          have p3 := frozen_of_row _ _ 1 _ _ HS.out.op
          have p4 := frozen_of_row _ _ 2 _ _ HS.out.op
          replace HS := Lib.hid (HS.out.set1 a2)
          replace HF := Lib.hid (show Fit 3 ∧ Fit a2 from ⟨HF.out.1, ha2⟩)
          clear ha2
          have c0 := box_cell HS.out.op 0 _ rfl
          have c1 := box_cell HS.out.op 1 _ rfl
          have c2 := box_cell HS.out.op 2 _ rfl
          have f1 := frozen_of_row _ _ 1 _ _ HS.out.op
          have f2 := frozen_of_row _ _ 2 _ _ HS.out.op
          go_wp2_with fail
          refine (below_any g n 6 _ (by omega) (by omega) HS.out.cur).mono ?_
          rintro e w15 ⟨y, rfl, ⟨hy0, hy1⟩, hcu, hch⟩
          replace HS := Lib.hid (HS.out.chg hcu hch)
          clear hcu hch c0 c1 c2 f1 f2
          have ey : wrap64 (y - 1) = y - 1 := by unfold wrap64; omega
          obtain ⟨b, hb⟩ : ∃ b : Int, y - 1 = b := ⟨_, rfl⟩
          rw [hb] at ey
          have hbf : Fit b := by unfold Fit; omega
          replace HF := Lib.hid (show Fit 3 ∧ Fit a2 ∧ Fit b from ⟨HF.out.1, HF.out.2, hbf⟩)
          have p0 := box_cell HS.out.op 0 _ rfl
          have p1 := box_cell HS.out.op 1 _ rfl
          have p2 := box_cell HS.out.op 2 _ rfl
          have p3 := frozen_of_row _ _ 1 _ _ HS.out.op
          have p4 := frozen_of_row _ _ 2 _ _ HS.out.op
          replace HS := Lib.hid (HS.out.set2 b)
          clear hbf
          have c0 := box_cell HS.out.op 0 _ rfl
          have c1 := box_cell HS.out.op 1 _ rfl
          have c2 := box_cell HS.out.op 2 _ rfl
          have f1 := frozen_of_row _ _ 1 _ _ HS.out.op
          have f2 := frozen_of_row _ _ 2 _ _ HS.out.op
          have r0 := box_cell HS.out.res 0 _ rfl
          have r1 := box_cell HS.out.res 1 _ rfl
          have r2 := box_cell HS.out.res 2 _ rfl
          have y0 := frozen_of_row _ _ 0 _ _ HS.out.res
          have y1 := frozen_of_row _ _ 1 _ _ HS.out.res
          have y2 := frozen_of_row _ _ 2 _ _ HS.out.res
          have l1 := World.block_lt_of_cell? _ _ r0
          have l2 := World.block_lt_of_cell? _ _ c0
          have l3 := HS.out.rg
          have l4 := HS.out.gq
          go_wp2
          ((try simp only [Exit.inBlock, Exit.then]); refine bodyPost_ret (v := (.agg #[.int .i64 3, .int .i64 a2, .int .i64 b])) (by rw [results_cell1 rfl]; go_simp) rfl ?_)
          exact ⟨_, _, _, rfl, HF.out, bSet (bSet (bSet HS.out.bel (Nat.le_refl _) _) (Nat.le_refl _) _) (Nat.le_refl _) _⟩
        | false =>
          replace HF := Lib.hid (show Fit 3 ∧ Fit 0 from ⟨HF.out, by unfold Fit; omega⟩)
          have c0 := box_cell HS.out.op 0 _ rfl
          have c1 := box_cell HS.out.op 1 _ rfl
          have c2 := box_cell HS.out.op 2 _ rfl
          have f1 := frozen_of_row _ _ 1 _ _ HS.out.op
          have f2 := frozen_of_row _ _ 2 _ _ HS.out.op
          go_wp2_with fail
          refine (place_any g n 30 _ (by omega) (by omega) HS.out.cur).mono ?_
          rintro e w16 ⟨a2, rfl, ha2, hcu, hch⟩
          replace HS := Lib.hid (HS.out.chg hcu hch)
          clear hcu hch c0 c1 c2 f1 f2
          have p0 := box_cell HS.out.op 0 _ rfl
          have p1 := box_cell HS.out.op 1 _ rfl
          have p2 := box_cell HS.out.op 2 _ rfl
          have p3 := frozen_of_row _ _ 1 _ _ HS.out.op
          have p4 := frozen_of_row _ _ 2 _ _ HS.out.op
          replace HS := Lib.hid (HS.out.set1 a2)
          replace HF := Lib.hid (show Fit 3 ∧ Fit a2 from ⟨HF.out.1, ha2⟩)
          clear ha2
          have c0 := box_cell HS.out.op 0 _ rfl
          have c1 := box_cell HS.out.op 1 _ rfl
          have c2 := box_cell HS.out.op 2 _ rfl
          have f1 := frozen_of_row _ _ 1 _ _ HS.out.op
          have f2 := frozen_of_row _ _ 2 _ _ HS.out.op
          go_wp2_with fail
          refine (below_any g n 6 _ (by omega) (by omega) HS.out.cur).mono ?_
          rintro e w17 ⟨y, rfl, ⟨hy0, hy1⟩, hcu, hch⟩
          replace HS := Lib.hid (HS.out.chg hcu hch)
          clear hcu hch c0 c1 c2 f1 f2
          have ey : wrap64 (y - 1) = y - 1 := by unfold wrap64; omega
          obtain ⟨b, hb⟩ : ∃ b : Int, y - 1 = b := ⟨_, rfl⟩
          rw [hb] at ey
          have hbf : Fit b := by unfold Fit; omega
          replace HF := Lib.hid (show Fit 3 ∧ Fit a2 ∧ Fit b from ⟨HF.out.1, HF.out.2, hbf⟩)
          have p0 := box_cell HS.out.op 0 _ rfl
          have p1 := box_cell HS.out.op 1 _ rfl
          have p2 := box_cell HS.out.op 2 _ rfl
          have p3 := frozen_of_row _ _ 1 _ _ HS.out.op
          have p4 := frozen_of_row _ _ 2 _ _ HS.out.op
          replace HS := Lib.hid (HS.out.set2 b)
          clear hbf
          have c0 := box_cell HS.out.op 0 _ rfl
          have c1 := box_cell HS.out.op 1 _ rfl
          have c2 := box_cell HS.out.op 2 _ rfl
          have f1 := frozen_of_row _ _ 1 _ _ HS.out.op
          have f2 := frozen_of_row _ _ 2 _ _ HS.out.op
          have r0 := box_cell HS.out.res 0 _ rfl
          have r1 := box_cell HS.out.res 1 _ rfl
          have r2 := box_cell HS.out.res 2 _ rfl
          have y0 := frozen_of_row _ _ 0 _ _ HS.out.res
          have y1 := frozen_of_row _ _ 1 _ _ HS.out.res
          have y2 := frozen_of_row _ _ 2 _ _ HS.out.res
          have l1 := World.block_lt_of_cell? _ _ r0
          have l2 := World.block_lt_of_cell? _ _ c0
          have l3 := HS.out.rg
          have l4 := HS.out.gq
          go_wp2
          ((try simp only [Exit.inBlock, Exit.then]); refine bodyPost_ret (v := (.agg #[.int .i64 3, .int .i64 a2, .int .i64 b])) (by rw [results_cell1 rfl]; go_simp) rfl ?_)
          exact ⟨_, _, _, rfl, HF.out, bSet (bSet (bSet HS.out.bel (Nat.le_refl _) _) (Nat.le_refl _) _) (Nat.le_refl _) _⟩
      · have b2 : (k == 2) = false := by simp [h2]
        have b3 : (k == 3) = false := by simp [h3]
        have c0 := box_cell HS.out.op 0 _ rfl
        have c1 := box_cell HS.out.op 1 _ rfl
        have c2 := box_cell HS.out.op 2 _ rfl
        have f1 := frozen_of_row _ _ 1 _ _ HS.out.op
        have f2 := frozen_of_row _ _ 2 _ _ HS.out.op
        go_wp2_with fail
        refine (once_any g n 8 _ (by omega) (by omega) HS.out.cur).mono ?_
        rintro e w18 ⟨q1, rfl, hcu, hch⟩
        replace HS := Lib.hid (HS.out.chg hcu hch)
        clear hcu hch c0 c1 c2 f1 f2
        cases q1 with
        | true =>
          have c0 := box_cell HS.out.op 0 _ rfl
          have c1 := box_cell HS.out.op 1 _ rfl
          have c2 := box_cell HS.out.op 2 _ rfl
          have f1 := frozen_of_row _ _ 1 _ _ HS.out.op
          have f2 := frozen_of_row _ _ 2 _ _ HS.out.op
          go_wp2_with fail
          refine (place_any g n 16 _ (by omega) (by omega) HS.out.cur).mono ?_
          rintro e w19 ⟨a, rfl, ha, hcu, hch⟩
          replace HS := Lib.hid (HS.out.chg hcu hch)
          clear hcu hch c0 c1 c2 f1 f2
          have p0 := box_cell HS.out.op 0 _ rfl
          have p1 := box_cell HS.out.op 1 _ rfl
          have p2 := box_cell HS.out.op 2 _ rfl
          have p3 := frozen_of_row _ _ 1 _ _ HS.out.op
          have p4 := frozen_of_row _ _ 2 _ _ HS.out.op
          replace HS := Lib.hid (HS.out.set1 a)
          replace HF := Lib.hid (And.intro HF.out ha)
          clear ha
          replace HF := Lib.hid (show Fit k ∧ Fit a ∧ Fit 0 from ⟨HF.out.1, HF.out.2, by unfold Fit; omega⟩)
          have c0 := box_cell HS.out.op 0 _ rfl
          have c1 := box_cell HS.out.op 1 _ rfl
          have c2 := box_cell HS.out.op 2 _ rfl
          have f1 := frozen_of_row _ _ 1 _ _ HS.out.op
          have f2 := frozen_of_row _ _ 2 _ _ HS.out.op
          have r0 := box_cell HS.out.res 0 _ rfl
          have r1 := box_cell HS.out.res 1 _ rfl
          have r2 := box_cell HS.out.res 2 _ rfl
          have y0 := frozen_of_row _ _ 0 _ _ HS.out.res
          have y1 := frozen_of_row _ _ 1 _ _ HS.out.res
          have y2 := frozen_of_row _ _ 2 _ _ HS.out.res
          have l1 := World.block_lt_of_cell? _ _ r0
          have l2 := World.block_lt_of_cell? _ _ c0
          have l3 := HS.out.rg
          have l4 := HS.out.gq
          go_wp2
          ((try simp only [Exit.inBlock, Exit.then]); refine bodyPost_ret (v := (.agg #[.int .i64 k, .int .i64 a, .int .i64 0])) (by rw [results_cell1 rfl]; go_simp) rfl ?_)
          exact ⟨_, _, _, rfl, HF.out, bSet (bSet (bSet HS.out.bel (Nat.le_refl _) _) (Nat.le_refl _) _) (Nat.le_refl _) _⟩
        | false =>
          replace HF := Lib.hid (show Fit k ∧ Fit 0 from ⟨HF.out, by unfold Fit; omega⟩)
          replace HF := Lib.hid (show Fit k ∧ Fit 0 ∧ Fit 0 from ⟨HF.out.1, HF.out.2, by unfold Fit; omega⟩)
          have c0 := box_cell HS.out.op 0 _ rfl
          have c1 := box_cell HS.out.op 1 _ rfl
          have c2 := box_cell HS.out.op 2 _ rfl
          have f1 := frozen_of_row _ _ 1 _ _ HS.out.op
          have f2 := frozen_of_row _ _ 2 _ _ HS.out.op
          have r0 := box_cell HS.out.res 0 _ rfl
          have r1 := box_cell HS.out.res 1 _ rfl
          have r2 := box_cell HS.out.res 2 _ rfl
          have y0 := frozen_of_row _ _ 0 _ _ HS.out.res
          have y1 := frozen_of_row _ _ 1 _ _ HS.out.res
          have y2 := frozen_of_row _ _ 2 _ _ HS.out.res
          have l1 := World.block_lt_of_cell? _ _ r0
          have l2 := World.block_lt_of_cell? _ _ c0
          have l3 := HS.out.rg
          have l4 := HS.out.gq
          go_wp2
          ((try simp only [Exit.inBlock, Exit.then]); refine bodyPost_ret (v := (.agg #[.int .i64 k, .int .i64 0, .int .i64 0])) (by rw [results_cell1 rfl]; go_simp) rfl ?_)
          exact ⟨_, _, _, rfl, HF.out, bSet (bSet (bSet HS.out.bel (Nat.le_refl _) _) (Nat.le_refl _) _) (Nat.le_refl _) _⟩
end Go.Proofs.YtikibabknlpnkaaDoor
