/-
  The drawn table.
-/
import Derived.Test.YtjibjnkabfmgaaaTabCof
import Derived.Test.YtjibjnkabfmgaaaBig
namespace Go.Proofs.Ytjibjnkabfmgaaa
open Go.RowKit
set_option linter.unusedVariables false
set_option linter.unusedSimpArgs false

theorem ok_of (N B : Nat) (hN : N ≤ 4) (hB : B ≤ maskN N) : okB N B = true := by
  unfold okB; exact decide_eq_true ⟨by omega, by omega, by omega, by omega⟩
theorem varN_mask (N K : Nat) : varN N K ≤ maskN N := by
  have := varN_lt N K
  unfold maskN
  rw [Int.toNat_natCast]
  omega
theorem maskN_lt (N : Nat) : maskN N < 2 ^ 2 ^ N := by
  have : 0 < 2 ^ 2 ^ N := Nat.pow_pos (by omega)
  unfold maskN
  rw [Int.toNat_natCast]
  omega
/-- A row under a change of another block. -/
theorem Chg.row {g b : Nat} {w w' : World} {o : Obj} (h : Chg g w w') (hr : w.heap[b]? = some o) (hne : b ≠ g) : w'.heap[b]? = some o :=
  (h.block b (Array.getElem?_eq_some_iff.1 hr).1 hne).trans hr
theorem bRow {b : Nat} {w w' : World} {o : Obj} (h : Below w.heap.size w w') (hr : w.heap[b]? = some o) : w'.heap[b]? = some o :=
  (h.block b (Array.getElem?_eq_some_iff.1 hr).1).trans hr
theorem Chg.frame {g : Nat} {w w' : World} (h : Chg g w w') (i : Nat) (v : Value) (b : Nat) (hb : w.heap.size ≤ b) : Chg g w (w'.setCell ⟨b, i, none⟩ v) :=
  ⟨h.os, h.tape, h.output, by have := h.size; simpa using this, fun k hk hne => by rw [Below.heap_setCell w' _ _ k (by simp <;> omega)]; exact h.block k hk hne⟩

/-- A cursor stays where a cell of a row of ints is written. -/
theorem Cur.setFar {t g n b i : Nat} {w : World} {v : Value} {x y : Int} {T : Nat} (h : Cur t w g n) (hb : b ≠ g) (hr : w.heap[b]? = some (.cells #[.int .i64 x, .int .i64 y] T (0, 0))) : Cur t (w.setCell ⟨b, i, none⟩ v) g n := by
  obtain ⟨A, cap, p, q, h1, h2, h3, h4⟩ := h
  refine ⟨A, cap, p, q, ?_, h2, h3, h4.1, fun j hj => ?_⟩
  · rw [Below.heap_setCell w _ _ g (by simp <;> omega)]; exact h1
  · obtain ⟨c, o, e1, e2, z, z0, z1, e3⟩ := h4.2 j hj
    refine ⟨c, o, e1, e2, z, z0, z1, ?_⟩
    have hcb : c ≠ b := by
      intro e; subst e
      rw [cell_of_row w c _ _ _ _ hr] at e3
      rcases Nat.lt_or_ge (o + j) 2 with hlt | hge
      · rcases (by omega : o + j = 0 ∨ o + j = 1) with e | e <;> rw [e] at e3 <;> simp at e3
      · rw [Array.getElem?_eq_none (by simpa using hge)] at e3; cases e3
    rw [World.cell?_setCell_far _ _ _ _ (fun e => hcb e.symm)]; exact e3

/-- A valid table is drawn. -/
def DrawnT (g n : Nat) (w : World) (e : Ending) (w' : World) : Prop :=
  ∃ N B : Nat, e = .returned (.agg #[.int .i64 N, .int .i64 B]) ∧ N ≤ 4 ∧ B ≤ maskN N ∧ Chg g w w' ∧ Cur 67 w' g n

set_option maxHeartbeats 6400000 in
theorem drawTab_any (g n : Nat) (w : World) (hc : Cur 67 w g n) :
    Calls Try.prog 37 #[.pointer (some ⟨g, 0, none⟩)] w (DrawnT g n w) := by
  have hg := hc.lt
  have hgr : w.heap.size ≠ g := by omega
  go_enter Try.func37, Try.ntmps37
  go_wp2_with fail
  refine (below_any g n 5 _ (by omega) (by omega) (hc.keep (bAlloc (Below.refl _ _) (Nat.le_refl _) _))).mono ?_
  rintro e w1 ⟨x, rfl, ⟨x0, x1⟩, hcur, hch⟩
  obtain ⟨N, rfl⟩ := Int.eq_ofNat_of_zero_le x0
  have hN : N ≤ 4 := by omega
  have hr := hch.row (heap_alloc_new w _) hgr
  have hC := (Chg.alloc (Chg.refl g w) _).trans hch
  have hm := mask_le N (by omega) (by omega)
  have HC := Lib.hid (And.intro hC hcur)
  have HR := Lib.hid hr
  clear hch hcur hr hC hc
  go_wp2_with fail
  refine (l02Full_any N _ (by omega) (by omega)).mono ?_
  rintro e w' ⟨rfl, rfl⟩
  go_wp2_with fail
  refine (below_any g n _ _ (by omega) (by omega) HC.out.2).mono ?_
  rintro e w2 ⟨y, rfl, ⟨y0, y1⟩, hcur, hch⟩
  obtain ⟨B, rfl⟩ := Int.eq_ofNat_of_zero_le y0
  have hB : B ≤ maskN N := by omega
  replace HR := Lib.hid (hch.row HR.out hgr)
  replace HC := Lib.hid (And.intro (HC.out.1.trans hch) hcur)
  clear hch hcur
  go_wp2_with fail
  refine (once_any g n 3 _ (by omega) (by omega) HC.out.2).mono ?_
  rintro e w3 ⟨q, rfl, hcur, hch⟩
  replace HR := Lib.hid (hch.row HR.out hgr)
  replace HC := Lib.hid (And.intro (HC.out.1.trans hch) hcur)
  clear hch hcur
  by_cases hq : q = true ∧ 0 < N
  · obtain ⟨rfl, hN0⟩ := hq
    have t1 : (0 : Int) < N := by omega
    go_wp2_with fail
    refine (below_any g n N _ (by omega) (by omega) HC.out.2).mono ?_
    rintro e w4 ⟨z, rfl, ⟨z0, z1⟩, hcur, hch⟩
    obtain ⟨K, rfl⟩ := Int.eq_ofNat_of_zero_le z0
    replace HR := Lib.hid (hch.row HR.out hgr)
    replace HC := Lib.hid (And.intro (HC.out.1.trans hch) hcur)
    clear hch hcur
    go_wp2_with fail
    refine (specVar_any N K _).mono ?_
    rw [varT_yes N K hN (by omega)]
    rintro e w5 ⟨rfl, hb⟩
    replace HR := Lib.hid (bRow hb HR.out)
    replace HC := Lib.hid (And.intro (HC.out.1.trans (Chg.of_below hb)) (HC.out.2.keep hb))
    clear hb
    go_wp2_with fail
    refine (below_any g n N _ (by omega) (by omega) (HC.out.2.keep (bAlloc (Below.refl _ _) (Nat.le_refl _) _))).mono ?_
    rintro e w6 ⟨z, rfl, ⟨z0, z1⟩, hcur, hch⟩
    obtain ⟨K2, rfl⟩ := Int.eq_ofNat_of_zero_le z0
    have hg5 : w5.heap.size ≠ g := by have := HC.out.2.lt; omega
    have H5 := Lib.hid (hch.row (heap_alloc_new w5 _) hg5)
    replace HR := Lib.hid (hch.row ((heap_alloc_old _ _ (Array.getElem?_eq_some_iff.1 HR.out).1).trans HR.out) hgr)
    replace HC := Lib.hid (And.intro ((Chg.alloc HC.out.1 _).trans hch) hcur)
    clear hch hcur
    go_wp2_with fail
    refine (specVar_any N K2 _).mono ?_
    rw [varT_yes N K2 hN (by omega)]
    rintro e w7 ⟨rfl, hb⟩
    replace HR := Lib.hid (bRow hb HR.out)
    replace H5 := Lib.hid (bRow hb H5.out)
    replace HC := Lib.hid (And.intro (HC.out.1.trans (Chg.of_below hb)) (HC.out.2.keep hb))
    clear hb
    go_wp2_with fail
    refine (once_any g n 2 _ (by omega) (by omega) (HC.out.2.keep (bAlloc (Below.refl _ _) (Nat.le_refl _) _))).mono ?_
    rintro e w8 ⟨q2, rfl, hcur, hch⟩
    have hg7 : w7.heap.size ≠ g := by have := HC.out.2.lt; omega
    have H7 := Lib.hid (hch.row (heap_alloc_new w7 _) hg7)
    replace H5 := Lib.hid (hch.row ((heap_alloc_old _ _ (Array.getElem?_eq_some_iff.1 H5.out).1).trans H5.out) hg5)
    replace HR := Lib.hid (hch.row ((heap_alloc_old _ _ (Array.getElem?_eq_some_iff.1 HR.out).1).trans HR.out) hgr)
    replace HC := Lib.hid (And.intro ((Chg.alloc HC.out.1 _).trans hch) hcur)
    clear hch hcur
    have ok1 := ok_of N (varN N K) hN (varN_mask N K)
    have ok2 := ok_of N (varN N K2) hN (varN_mask N K2)
    have a0 : w8.cell? ⟨w5.heap.size, 0, none⟩ = some (.int .i64 N) := box_cell H5.out 0 _ rfl
    have a1 : w8.cell? ⟨w5.heap.size, 1, none⟩ = some (.int .i64 (varN N K : Nat)) := box_cell H5.out 1 _ rfl
    have b0 : w8.cell? ⟨w7.heap.size, 0, none⟩ = some (.int .i64 N) := box_cell H7.out 0 _ rfl
    have b1 : w8.cell? ⟨w7.heap.size, 1, none⟩ = some (.int .i64 (varN N K2 : Nat)) := box_cell H7.out 1 _ rfl
    have hv1 := varN_le N K hN
    have hv2 := varN_le N K2 hN
    have hl1 := varN_lt N K
    have hl2 := varN_lt N K2
    have hml := maskN_lt N
    cases q2
    · have hx : varN N K ^^^ varN N K2 ≤ maskN N := by
        have := Nat.xor_lt_two_pow hl1 hl2
        have e : maskN N = 2 ^ 2 ^ N - 1 := by unfold maskN; rw [Int.toNat_natCast]
        omega
      go_wp2_with fail
      refine (specXor_any N (varN N K) N (varN N K2) _).mono ?_
      rw [opT_one .xor _ _ _ _ (by rw [ok1, ok2]; simp), i64_xor _ _ (by omega) (by omega)]
      rintro e w9 ⟨rfl, hb⟩
      have hr := bRow hb HR.out
      replace HC := Lib.hid (And.intro (HC.out.1.trans (Chg.of_below hb)) (HC.out.2.keep hb))
      clear hb
      have r0 : w9.cell? ⟨w.heap.size, 0, none⟩ = some (.int .i64 0) := box_cell hr 0 _ rfl
      have r1 : w9.cell? ⟨w.heap.size, 1, none⟩ = some (.int .i64 0) := box_cell hr 1 _ rfl
      have y0 : w9.frozen? ⟨w.heap.size, 0, none⟩ = false := frozen_of_row w9 _ 0 _ _ hr
      have y1 : w9.frozen? ⟨w.heap.size, 1, none⟩ = false := frozen_of_row w9 _ 1 _ _ hr
      go_wp2
      ((try simp only [Exit.inBlock, Exit.then]); refine bodyPost_ret (v := (.agg #[.int .i64 N, .int .i64 (varN N K ^^^ varN N K2 : Nat)])) (by rw [results_cell1 rfl]; go_simp) rfl ?_)
      exact ⟨_, _, rfl, hN, hx, (HC.out.1.frame _ _ _ (Nat.le_refl _)).frame _ _ _ (Nat.le_refl _), (HC.out.2.setFar hgr hr).setFar hgr (heap_setCell_same _ _ 0 _ _ _ hr)⟩
    · have hx : varN N K &&& varN N K2 ≤ maskN N := Nat.le_trans Nat.and_le_left (varN_mask N K)
      have ok3 := ok_of N _ hN hx
      go_wp2_with fail
      refine (specAnd_any N (varN N K) N (varN N K2) _).mono ?_
      rw [opT_one .and _ _ _ _ (by rw [ok1, ok2]; simp), i64_and _ _ (by omega) (by omega)]
      rintro e w9 ⟨rfl, hb⟩
      replace HR := Lib.hid (bRow hb HR.out)
      replace HC := Lib.hid (And.intro (HC.out.1.trans (Chg.of_below hb)) (HC.out.2.keep hb))
      clear hb a0 a1 b0 b1
      go_wp2_with fail
      refine (specNot_any N (varN N K &&& varN N K2 : Nat) _).mono ?_
      rw [notT_nat N _ ok3 hx]
      rintro e w10 ⟨rfl, hb⟩
      have hr := bRow hb HR.out
      replace HC := Lib.hid (And.intro (HC.out.1.trans (Chg.of_below hb)) (HC.out.2.keep hb))
      clear hb
      have r0 : w10.cell? ⟨w.heap.size, 0, none⟩ = some (.int .i64 0) := box_cell hr 0 _ rfl
      have r1 : w10.cell? ⟨w.heap.size, 1, none⟩ = some (.int .i64 0) := box_cell hr 1 _ rfl
      have y0 : w10.frozen? ⟨w.heap.size, 0, none⟩ = false := frozen_of_row w10 _ 0 _ _ hr
      have y1 : w10.frozen? ⟨w.heap.size, 1, none⟩ = false := frozen_of_row w10 _ 1 _ _ hr
      go_wp2
      ((try simp only [Exit.inBlock, Exit.then]); refine bodyPost_ret (v := (.agg #[.int .i64 N, .int .i64 (maskN N - (varN N K &&& varN N K2) : Nat)])) (by rw [results_cell1 rfl]; go_simp) rfl ?_)
      exact ⟨_, _, rfl, hN, by omega, (HC.out.1.frame _ _ _ (Nat.le_refl _)).frame _ _ _ (Nat.le_refl _), (HC.out.2.setFar hgr hr).setFar hgr (heap_setCell_same _ _ 0 _ _ _ hr)⟩
  · have hr := HR.out
    have r0 : w3.cell? ⟨w.heap.size, 0, none⟩ = some (.int .i64 0) := box_cell hr 0 _ rfl
    have r1 : w3.cell? ⟨w.heap.size, 1, none⟩ = some (.int .i64 0) := box_cell hr 1 _ rfl
    have y0 : w3.frozen? ⟨w.heap.size, 0, none⟩ = false := frozen_of_row w3 _ 0 _ _ hr
    have y1 : w3.frozen? ⟨w.heap.size, 1, none⟩ = false := frozen_of_row w3 _ 1 _ _ hr
    have hq2 : q = false ∨ (q = true ∧ ¬ (0 : Int) < N) := by
      cases q
      · exact .inl rfl
      · exact .inr ⟨rfl, fun h => hq ⟨rfl, by omega⟩⟩
    rcases hq2 with rfl | ⟨rfl, t1⟩
    all_goals
      go_wp2
      ((try simp only [Exit.inBlock, Exit.then]); refine bodyPost_ret (v := (.agg #[.int .i64 N, .int .i64 B])) (by rw [results_cell1 rfl]; go_simp) rfl ?_)
      exact ⟨_, _, rfl, hN, hB, (HC.out.1.frame _ _ _ (Nat.le_refl _)).frame _ _ _ (Nat.le_refl _), (HC.out.2.setFar hgr hr).setFar hgr (heap_setCell_same _ _ 0 _ _ _ hr)⟩

theorem codeW_below {w w' : World} {A : Option Addr} {n : Nat} (h : CodeW w A n) (hb : Below w.heap.size w w') : CodeW w' A n :=
  ⟨h.1, fun j hj => by
    obtain ⟨b, o, hA, hl, x, h0, h1, hx⟩ := h.2 j hj
    exact ⟨b, o, hA, Nat.lt_of_lt_of_le hl hb.size, x, h0, h1, keep hb hx⟩⟩
theorem Chg.frozen {g : Nat} {w w' : World} (h : Chg g w w') {p : Addr} (hp : p.block < w.heap.size) (hg : p.block ≠ g) : w'.frozen? p = w.frozen? p := World.frozen?_of_block (w := w) (h.block p.block hp hg)
theorem withFact' {p q : Prop} (h : p) (k : p → q) : q := k h
theorem pow_pos' (N : Nat) : (0 : Int) < 2 ^ N := by rw [pow_cast]; have : 0 < 2 ^ N := Nat.pow_pos (by omega); omega

set_option maxHeartbeats 6400000 in
theorem draw_any (A : Option Addr) (n cap : Nat) (w : World) (hc : CodeW w A n) :
    Calls Try.prog 13 #[.slice A n cap] w fun e w' => ∃ N B I : Nat, e = .returned (.tuple #[.agg #[.int .i64 N, .int .i64 B], .int .i64 I]) ∧ N ≤ 4 ∧ B ≤ maskN N ∧ I < 2 ^ N ∧ Below w.heap.size w w' := by
  go_enter Try.func13, Try.ntmps13
  go_wp2_with fail
  refine (new_any A n cap _ (codeW_below hc (bAlloc (Below.refl _ _) (Nat.le_refl _) _))).mono ?_
  rintro e w1 ⟨rfl, hcur, hb⟩
  have hr := bRow hb (heap_alloc_new w _)
  have hB : Below w.heap.size w w1 := bTrans (by (repeat' (first | assumption | exact Below.refl _ _ | refine bDrewN ?_ _ | refine Below.drew ?_ | refine bAlloc ?_ (Nat.le_refl _) _ | refine bSet ?_ (by first | exact Nat.le_refl _ | omega | (simp <;> omega)) _))) (by simp) hb
  have hgw : (w.alloc (.cells #[.int .i64 0, .int .i64 0] 25)).heap.size = w.heap.size + 1 := by simp
  rw [hgw] at hcur ⊢
  have HB := Lib.hid hB
  have HR := Lib.hid hr
  clear hb hr hB hc hgw
  go_wp2_with fail
  refine (drawTab_any _ n _ hcur).mono ?_
  rintro e w2 ⟨N, B, rfl, hN, hBm, hch, hcur2⟩
  replace HR := Lib.hid (hch.row HR.out (by omega))
  replace HB := Lib.hid (Chg.below HB.out hch HB.out.size (by omega))
  have hg2 := hcur2.lt
  have e1 := shl_one N hN
  have h16 := pow_le16 N hN
  have hp := pow_pos' N
  have hp2 : (2 : Int) ^ N ≤ 16 := by rw [pow_cast]; omega
  have e3 : IntKind.i64.wrap ((2 : Int) ^ N) = (2 : Int) ^ N := wrap64_int _ (by omega) (by omega)
  clear e1
  have HC := Lib.hid (hcur2.keep (bAlloc (Below.refl _ _) (Nat.le_refl _) (.cells #[.int .i64 N, .int .i64 B] 25)))
  clear hch hcur hcur2
  go_wp2
  obtain ⟨W, hW⟩ : ∃ W, W = (w2.alloc (.cells #[.int .i64 N, .int .i64 B] 25)) := ⟨_, rfl⟩
  rw [← hW]
  have g := eqbox1 hW
  have c0 : W.cell? ⟨w2.heap.size, 0, none⟩ = some (.int .i64 N) := box_cell g.1 0 _ rfl
  have c1 : W.cell? ⟨w2.heap.size, 1, none⟩ = some (.int .i64 B) := box_cell g.1 1 _ rfl
  have hr := bRow g.2 HR.out
  have r0 : W.cell? ⟨w.heap.size, 0, none⟩ = some (.int .i64 0) := box_cell hr 0 _ rfl
  have r1 : W.cell? ⟨w.heap.size, 1, none⟩ = some (.int .i64 0) := box_cell hr 1 _ rfl
  have y0 : W.frozen? ⟨w.heap.size, 0, none⟩ = false := frozen_of_row W _ 0 _ _ hr
  have y1 : W.frozen? ⟨w.heap.size, 1, none⟩ = false := frozen_of_row W _ 1 _ _ hr
  have hcW : Cur 67 W (w.heap.size + 1) n := by rw [hW]; exact HC.out
  replace HB := Lib.hid (bThen HB.out g.2)
  have n1 : ¬ w2.heap.size = w.heap.size + 1 := by omega
  have n2 : ¬ w.heap.size = w2.heap.size := by omega
  have n3 : ¬ w.heap.size = w.heap.size + 1 := by omega
  have l1 : w.heap.size < W.heap.size := World.block_lt_of_cell? _ _ r0
  have l2 : w2.heap.size < W.heap.size := World.block_lt_of_cell? _ _ c0
  have HRR := Lib.hid hr
  have HCW := Lib.hid hcW
  clear hW g HC HR hr hcW
  go_region_held3 (fun w' => w'.cell? ⟨w2.heap.size, 0, none⟩ = some (.int .i64 N) ∧ w'.cell? ⟨w2.heap.size, 1, none⟩ = some (.int .i64 B)) (first | exact ⟨by assumption, by assumption⟩ | (simp [*, World.cell?_setCell_far]))
    (first | (go_at_call 38; refine (below_any _ n _ _ hp (by omega) (by first | exact HCW.out | exact (HCW.out.setFar (by omega) HRR.out).setFar (by omega) (heap_setCell_same _ _ 0 _ _ _ HRR.out))).mono ?_; rintro e w3 ⟨z, rfl, ⟨z0, z1⟩, hcur, hch⟩; (try (refine withFact' (p := w3.cell? ⟨w.heap.size, 0, none⟩ = some (.int .i64 0) ∧ w3.cell? ⟨w.heap.size, 1, none⟩ = some (.int .i64 0) ∧ w3.frozen? ⟨w.heap.size, 0, none⟩ = false ∧ w3.frozen? ⟨w.heap.size, 1, none⟩ = false) ?_ ?_; (focus (exact ⟨(hch.cell (p := ⟨w.heap.size, 0, none⟩) l1 n3).trans r0, (hch.cell (p := ⟨w.heap.size, 1, none⟩) l1 n3).trans r1, (hch.frozen (p := ⟨w.heap.size, 0, none⟩) l1 n3).trans y0, (hch.frozen (p := ⟨w.heap.size, 1, none⟩) l1 n3).trans y1⟩)); rintro ⟨q0, q1, q2, q3⟩)); have k0 : w3.cell? ⟨w2.heap.size, 0, none⟩ = some (.int .i64 N) := (hch.cell (p := ⟨w2.heap.size, 0, none⟩) (World.block_lt_of_cell? _ _ (‹World.cell? _ _ = some (Value.int .i64 N) ∧ World.cell? _ _ = some (Value.int .i64 B)›).1) n1).trans (‹World.cell? _ _ = some (Value.int .i64 N) ∧ World.cell? _ _ = some (Value.int .i64 B)›).1; have k1 : w3.cell? ⟨w2.heap.size, 1, none⟩ = some (.int .i64 B) := (hch.cell (p := ⟨w2.heap.size, 1, none⟩) (World.block_lt_of_cell? _ _ (‹World.cell? _ _ = some (Value.int .i64 N) ∧ World.cell? _ _ = some (Value.int .i64 B)›).2) n1).trans (‹World.cell? _ _ = some (Value.int .i64 N) ∧ World.cell? _ _ = some (Value.int .i64 B)›).2; clear hcur))
  obtain ⟨I, rfl⟩ := Int.eq_ofNat_of_zero_le z0
  have hI : I < 2 ^ N := by rw [pow_cast] at z1; omega
  have hB3 : Below w.heap.size w w3 := Chg.below HB.out.drew hch HB.out.size (by omega)
  go_wp2
  ((try simp only [Exit.inBlock, Exit.then]); refine bodyPost_ret (v := (.tuple #[.agg #[.int .i64 N, .int .i64 B], .int .i64 I])) (by rw [results_cell_tmp rfl]; go_simp) rfl ?_)
  exact ⟨N, B, I, rfl, hN, hBm, hI, by (repeat' (first | assumption | exact Below.refl _ _ | refine bDrewN ?_ _ | refine Below.drew ?_ | refine bAlloc ?_ (Nat.le_refl _) _ | refine bSet ?_ (by first | exact Nat.le_refl _ | omega | (simp <;> omega)) _))⟩
end Go.Proofs.Ytjibjnkabfmgaaa
