/-
  The program's ParseOp.
-/
import Derived.Test.YtikibabknlpnkaaDoorCutP
import Derived.Test.YtikibabknlpnkaaDoorIOpTx
import Derived.Test.YtikibabknlpnkaaDoorNumB
namespace Go.Proofs.YtikibabknlpnkaaDoor
open Go.RowKit
set_option linter.unusedVariables false
set_option linter.unusedSimpArgs false

/-- What the walks are told of the package variables. -/
structure Laid (W : World) : Prop where
  pow : PowTab W
  errs : Errs W
  maxl : MaxL W
theorem Laid.keep {W W' : World} (h : Laid W) (hb : Below W.heap.size W W') : Laid W' := ⟨h.pow.keep hb, h.errs.keep hb, h.maxl.keep hb⟩
theorem keepB {W w1 : World} (hb : Below W.heap.size W w1) {g : Nat} {o : Obj} (h : W.heap[g]? = some o) : w1.heap[g]? = some o :=
  (hb.block g (Array.getElem?_eq_some_iff.mp h).1).trans h
theorem ret_op {k a b k' a' b' : Int} (h : (k, a, b) = (k', a', b')) : Ending.returned (.agg #[.int .i64 k, .int .i64 a, .int .i64 b]) = .returned (.agg #[.int .i64 k', .int .i64 a', .int .i64 b']) := by
  injection h with h1 h; injection h with h2 h3; subst h1; subst h2; subst h3; rfl
/-- The test of a text against "W". -/
theorem is_W (s : ByteArray) (h : s.data.toList ≠ [87]) : (s.toList == [87]) = false := by
  rw [Lib.toList_data, beq_eq_false_iff_ne]; exact h
/-- What impl.wordOp gives: the one operator that may have the word. -/
def WordPost (l : List UInt8) (w : World) (e : Ending) (w' : World) : Prop := ∃ k a b, e = .returned (.agg #[.int .i64 k, .int .i64 a, .int .i64 b]) ∧ Cand l (k, a, b) ∧ Below w.heap.size w w'

set_option maxHeartbeats 1600000 in
theorem wordOp_any (s : ByteArray) (w : World) (hs : s.size ≤ 1048576) (hl : Laid w) :
    Calls Tryd.prog 23 #[.string s] w (WordPost s.data.toList w) := by
  have HL := Lib.hid hl
  clear hl
  by_cases h87 : s.data.toList = [87]
  · obtain rfl : s = ⟨#[87]⟩ := bytes_eq h87
    go_enter Tryd.func23, Tryd.ntmps23
    go_wp2
    ((try simp only [Exit.inBlock, Exit.then]); refine bodyPost_ret (v := (.agg #[.int .i64 1, .int .i64 0, .int .i64 0])) (by rw [results_cell1 rfl]; go_simp) rfl ?_)
    exact ⟨1, 0, 0, rfl, cand_W, by (repeat' (first | assumption | exact Below.refl _ _ | refine bDrewN ?_ _ | refine Below.drew ?_ | refine bAlloc ?_ (Nat.le_refl _) _ | refine bSet ?_ (by first | exact Nat.le_refl _ | omega | (simp <;> omega)) _))⟩
  · have hW := is_W s h87
    by_cases h115 : ∃ t, s.data.toList = 115 :: t
    · obtain ⟨t, ht⟩ := h115
      obtain ⟨st, hst⟩ : ∃ st, tx t = st := ⟨_, rfl⟩
      have hstl : st.data.toList = t := by subst hst; rfl
      have hsz : st.size ≤ 1048576 := by
        have := congrArg List.length ht
        have h2 := congrArg List.length hstl
        simp at this h2
        omega
      obtain ⟨u, v, d, hc⟩ : ∃ (u v : ByteArray) (d : Bool), Lib.cut st.data.toList [46] = (u.data.toList, v.data.toList, d) := ⟨tx _, tx _, _, rfl⟩
      have huv : u.size ≤ 1048576 ∧ v.size ≤ 1048576 := by
        have h1 := congrArg List.length hstl
        unfold Lib.cut at hc
        split at hc
        · injection hc with hu hv
          injection hv with hv _
          have a1 := congrArg List.length hu
          have a2 := congrArg List.length hv
          simp at a1 a2 h1
          omega
        · injection hc with hu hv
          injection hv with hv _
          have a1 := congrArg List.length hu
          have a2 := congrArg List.length hv
          simp at a1 a2 h1
          omega
      have hidx : d = false → Lib.index t [46] < 0 := by
        rintro rfl
        rw [← hstl]
        unfold Lib.cut at hc
        split at hc
        · injection hc with _ hv; injection hv with _ hv; cases hv
        · omega
      go_enter Tryd.func23, Tryd.ntmps23
      go_wp2_with fail
      refine (scut_hit s t _ ht).mono ?_
      rw [hst]
      rintro e w1 ⟨rfl, hb⟩
      obtain ⟨g, hb'⟩ := box1 hb
      have HB := Lib.hid hb'
      have HG := Lib.hid g
      clear hb hb' g
      go_wp2_with fail
      refine (cut_any st _ hsz (HL.out.keep HB.out).maxl hc).mono ?_
      rintro e w2 ⟨rfl, hb⟩
      replace HB := Lib.hid (bThen HB.out hb)
      replace HG := Lib.hid (keepB hb HG.out)
      clear hb
      go_wp2_with fail
      refine (implParse_any u _ huv.1 (HL.out.keep HB.out).pow (HL.out.keep HB.out).errs).mono ?_
      rintro e w3 ⟨x, p, rfl, hx, hb⟩
      replace HB := Lib.hid (bThen HB.out hb)
      replace HG := Lib.hid (keepB hb HG.out)
      clear hb
      have HX := Lib.hid hx
      clear hx
      go_wp2_with fail
      refine (implParse_any v _ huv.2 (HL.out.keep HB.out).pow (HL.out.keep HB.out).errs).mono ?_
      rintro e w4 ⟨y, q, rfl, hy, hb⟩
      replace HB := Lib.hid (bThen HB.out hb)
      replace HG := Lib.hid (keepB hb HG.out)
      clear hb
      have HY := Lib.hid hy
      clear hy
      have r0 := box_cell HG.out 0 _ rfl
      have r1 := box_cell HG.out 1 _ rfl
      have r2 := box_cell HG.out 2 _ rfl
      have y0 := frozen_of_row _ _ 0 _ _ HG.out
      have y1 := frozen_of_row _ _ 1 _ _ HG.out
      have y2 := frozen_of_row _ _ 2 _ _ HG.out
      have l1 := World.block_lt_of_cell? _ _ r0
      cases d with
      | true =>
        go_wp2
        ((try simp only [Exit.inBlock, Exit.then]); refine bodyPost_ret (v := (.agg #[.int .i64 3, .int .i64 x, .int .i64 y])) (by rw [results_cell1 rfl]; go_simp) rfl ?_)
        exact ⟨_, _, _, rfl, by rw [ht]; exact cand_bit (by rw [← hstl]; exact hc) HX.out HY.out, bSet (bSet (bSet HB.out (Nat.le_refl _) _) (Nat.le_refl _) _) (Nat.le_refl _) _⟩
      | false =>
        go_wp2
        ((try simp only [Exit.inBlock, Exit.then]); refine bodyPost_ret (v := (.agg #[.int .i64 2, .int .i64 x, .int .i64 0])) (by rw [results_cell1 rfl]; go_simp) rfl ?_)
        exact ⟨_, _, _, rfl, by rw [ht]; exact cand_sig (hidx (by simp)) (by have e1 : Lib.cut st.data.toList [46] = (st.data.toList, [], false) := (by unfold Lib.cut; rw [hstl, if_neg (by have := hidx (by simp); omega)]); rw [e1] at hc; injection hc with hu _; rw [← hstl, hu]; exact HX.out), bSet (bSet (bSet HB.out (Nat.le_refl _) _) (Nat.le_refl _) _) (Nat.le_refl _) _⟩
    · have hno : ∀ t, s.data.toList ≠ 115 :: t := fun t e => h115 ⟨t, e⟩
      obtain ⟨i, hi⟩ : ∃ i, Lib.index signL s.data.toList = i := ⟨_, rfl⟩
      have hi9 : i ≤ 9 := by rw [← hi]; exact Lib.index_le signL s.data.toList
      have him : -1 ≤ i := by rw [← hi]; exact Lib.index_ge signL s.data.toList
      by_cases h0 : 0 ≤ i
      · go_enter Tryd.func23, Tryd.ntmps23
        go_wp2_with fail
        refine (scut_miss s _ hno).mono ?_
        rintro e w5 ⟨rfl, hb⟩
        obtain ⟨g, hb'⟩ := box1 hb
        have HB := Lib.hid hb'
        have HG := Lib.hid g
        clear hb hb' g
        go_wp2_with fail
        refine (signs_any s _ (HL.out.keep HB.out).maxl hi).mono ?_
        rintro e w6 ⟨rfl, hb⟩
        replace HB := Lib.hid (bThen HB.out hb)
        replace HG := Lib.hid (keepB hb HG.out)
        clear hb
        have r0 := box_cell HG.out 0 _ rfl
        have r1 := box_cell HG.out 1 _ rfl
        have r2 := box_cell HG.out 2 _ rfl
        have y0 := frozen_of_row _ _ 0 _ _ HG.out
        have y1 := frozen_of_row _ _ 1 _ _ HG.out
        have y2 := frozen_of_row _ _ 2 _ _ HG.out
        have l1 := World.block_lt_of_cell? _ _ r0
        go_wp2
        ((try simp only [Exit.inBlock, Exit.then]); refine bodyPost_ret (v := (.agg #[.int .i64 (4 + i), .int .i64 0, .int .i64 0])) (by rw [results_cell1 rfl]; go_simp) rfl ?_)
        exact ⟨_, _, _, rfl, by rw [← hi]; exact cand_sign h87 hno (by omega), bSet (bSet (bSet HB.out (Nat.le_refl _) _) (Nat.le_refl _) _) (Nat.le_refl _) _⟩
      · go_enter Tryd.func23, Tryd.ntmps23
        go_wp2_with fail
        refine (scut_miss s _ hno).mono ?_
        rintro e w5 ⟨rfl, hb⟩
        obtain ⟨g, hb'⟩ := box1 hb
        have HB := Lib.hid hb'
        have HG := Lib.hid g
        clear hb hb' g
        go_wp2_with fail
        refine (signs_any s _ (HL.out.keep HB.out).maxl hi).mono ?_
        rintro e w6 ⟨rfl, hb⟩
        replace HB := Lib.hid (bThen HB.out hb)
        replace HG := Lib.hid (keepB hb HG.out)
        clear hb
        go_wp2_with fail
        refine (implParse_any s _ hs (HL.out.keep HB.out).pow (HL.out.keep HB.out).errs).mono ?_
        rintro e w7 ⟨x, p, rfl, hx, hb⟩
        replace HB := Lib.hid (bThen HB.out hb)
        replace HG := Lib.hid (keepB hb HG.out)
        clear hb
        have HX := Lib.hid hx
        clear hx
        have r0 := box_cell HG.out 0 _ rfl
        have r1 := box_cell HG.out 1 _ rfl
        have r2 := box_cell HG.out 2 _ rfl
        have y0 := frozen_of_row _ _ 0 _ _ HG.out
        have y1 := frozen_of_row _ _ 1 _ _ HG.out
        have y2 := frozen_of_row _ _ 2 _ _ HG.out
        have l1 := World.block_lt_of_cell? _ _ r0
        go_wp2
        ((try simp only [Exit.inBlock, Exit.then]); refine bodyPost_ret (v := (.agg #[.int .i64 0, .int .i64 x, .int .i64 0])) (by rw [results_cell1 rfl]; go_simp) rfl ?_)
        exact ⟨_, _, _, rfl, cand_con h87 hno (no_sign (by omega)) HX.out, bSet (bSet (bSet HB.out (Nat.le_refl _) _) (Nat.le_refl _) _) (Nat.le_refl _) _⟩

set_option maxHeartbeats 1600000 in
theorem implParseOp_any (s : ByteArray) (w : World) (hs : s.size ≤ 1048576) (hl : Laid w) :
    Calls Tryd.prog 10 #[.string s] w fun e w' => ∃ k a b ok, e = .returned (.tuple #[.agg #[.int .i64 k, .int .i64 a, .int .i64 b], .bool ok]) ∧ ParsedOp s.data.toList (k, a, b) ok ∧ (∃ q, Cand s.data.toList q) ∧ Below w.heap.size w w' := by
  have HL := Lib.hid hl
  clear hl
  go_enter Tryd.func10, Tryd.ntmps10
  go_wp2_with fail
  refine (wordOp_any s _ hs (HL.out.keep (by (repeat' (first | assumption | exact Below.refl _ _ | refine bDrewN ?_ _ | refine Below.drew ?_ | refine bAlloc ?_ (Nat.le_refl _) _ | refine bSet ?_ (by first | exact Nat.le_refl _ | omega | (simp <;> omega)) _))))).mono ?_
  rintro e w1 ⟨k, a, b, rfl, hc, hb⟩
  obtain ⟨g, hb'⟩ := box1 hb
  have HB := Lib.hid hb'
  have HG := Lib.hid g
  have HC := Lib.hid hc
  clear hb hb' g hc
  obtain ⟨o, ho⟩ : ∃ o : DOp, (k, a, b) = o := ⟨_, rfl⟩
  obtain ⟨t, hts⟩ : ∃ t, opTextS (k, a, b) = t := ⟨_, rfl⟩
  obtain ⟨d, hd⟩ : ∃ d, opB 30 (k, a, b) = d := ⟨_, rfl⟩
  have hps : ∀ r3 : Bool, r3 = true → d = true → t = s → ParsedOp s.data.toList (k, a, b) r3 := by
    rintro r3 rfl h1 h2
    refine .inl ⟨rfl, hd.trans h1, ?_⟩
    rw [← h2, ← hts, opTextS_ok (hd.trans h1)]
    rfl
  have hpn : (d = false ∨ t ≠ s) → ParsedOp s.data.toList (0, 0, 0) false := by
    intro h
    refine .inr ⟨rfl, rfl, fun o' ho' => ?_⟩
    have hc := HC.out o' ho'
    subst hc
    rcases h with h | h
    · rw [← hd, ho'.1] at h; cases h
    · refine h ?_
      rw [← hts, opTextS_ok ho'.1, ho'.2]
      exact bytes_eq rfl
  have HPS := Lib.hid hps
  have HPN := Lib.hid hpn
  clear hps hpn
  have hs1 : w.heap.size < w1.heap.size := (Array.getElem?_eq_some_iff.mp HG.out).1
  have hct : (∃ q, Cand s.data.toList q) := ⟨_, HC.out⟩
  have HCT := Lib.hid hct
  clear hct
  go_wp2_with fail
  refine (implText_at (k, a, b) _ hts hd ((HL.out.keep HB.out).keep (by (repeat' (first | assumption | exact Below.refl _ _ | refine bDrewN ?_ _ | refine Below.drew ?_ | refine bAlloc ?_ (Nat.le_refl _) _ | refine bSet ?_ (by first | exact Nat.le_refl _ | omega | (simp <;> omega)) _)))).pow).mono ?_
  rintro e w2 ⟨rfl, hb⟩
  obtain ⟨g2, hb2⟩ := box1 hb
  have c0 := box_cell g2 0 _ rfl
  have c1 := box_cell g2 1 _ rfl
  have c2 := box_cell g2 2 _ rfl
  have g := keepB hb2 HG.out
  have r0 := box_cell g 0 _ rfl
  have r1 := box_cell g 1 _ rfl
  have r2 := box_cell g 2 _ rfl
  have y0 := frozen_of_row _ _ 0 _ _ g
  have y1 := frozen_of_row _ _ 1 _ _ g
  have y2 := frozen_of_row _ _ 2 _ _ g
  have l1 := World.block_lt_of_cell? _ _ r0
  have l2 := World.block_lt_of_cell? _ _ c0
  replace HB := Lib.hid (bThen HB.out hb2)
  clear hb hb2 g g2 HG ho hts hd
  cases d with
  | false =>
    go_wp2
    ((try simp only [Exit.inBlock, Exit.then]); refine bodyPost_ret (v := (.tuple #[.agg #[.int .i64 0, .int .i64 0, .int .i64 0], .bool false])) (by rw [results_cell_tmp rfl]; go_simp) rfl ?_)
    exact ⟨_, _, _, _, rfl, HPN.out (.inl (by simp)), HCT.out, bSet (bSet (bSet HB.out (Nat.le_refl _) _) (Nat.le_refl _) _) (Nat.le_refl _) _⟩
  | true =>
    by_cases hq : t = s
    · subst hq
      go_wp2
      ((try simp only [Exit.inBlock, Exit.then]); refine bodyPost_ret (v := (.tuple #[.agg #[.int .i64 k, .int .i64 a, .int .i64 b], .bool true])) (by rw [results_cell_tmp rfl]; go_simp) rfl ?_)
      exact ⟨_, _, _, _, rfl, HPS.out _ (by simp) (by simp) (by simp), HCT.out, bSet (bSet (bSet HB.out (Nat.le_refl _) _) (Nat.le_refl _) _) (Nat.le_refl _) _⟩
    · have hne : (t.toList == s.toList) = false := by
        rw [Lib.toList_data, Lib.toList_data, beq_eq_false_iff_ne]
        exact fun h => hq (bytes_eq h)
      go_wp2
      ((try simp only [Exit.inBlock, Exit.then]); refine bodyPost_ret (v := (.tuple #[.agg #[.int .i64 0, .int .i64 0, .int .i64 0], .bool false])) (by rw [results_cell_tmp rfl]; go_simp) rfl ?_)
      exact ⟨_, _, _, _, rfl, HPN.out (.inr hq), HCT.out, bSet (bSet (bSet HB.out (Nat.le_refl _) _) (Nat.le_refl _) _) (Nat.le_refl _) _⟩
end Go.Proofs.YtikibabknlpnkaaDoor
