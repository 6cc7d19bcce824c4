/-
  The walk of the law FnExactTableShrink.
-/
import Derived.Test.YtiikadlcoijcfaaDoorTabShr
import Derived.Test.YtiikadlcoijcfaaDoorTabSupL
namespace Go.Proofs.YtiikadlcoijcfaaDoor
open Go.RowKit
set_option linter.unusedVariables false
set_option linter.unusedSimpArgs false
theorem specShr_any (n b : Int) (w : World) : Calls Tryd.prog 32 #[T n b] w (ShrPost n b w) := by
  cases hok : okB n b
  · exact specShr_no n b w hok
  · obtain ⟨N, B, rfl, rfl, hN, hB1, hB2⟩ := okB_out hok
    exact specShr_yes N B w hok hN hB2
theorem implShr_any (n b : Int) (w : World) (hI : InB w) : Calls Tryd.prog 20 #[T n b] w (ShrPost n b w) := by
  cases hok : okB n b
  · exact implShr_no n b w hok
  · obtain ⟨N, B, rfl, rfl, hN, hB1, hB2⟩ := okB_out hok
    exact implShr_yes N B w hI hok hN hB2

set_option maxHeartbeats 6400000 in
theorem exactShr_walk (n b : Int) (w : World) (hL : laidMetH Tryd.prog Rows.fnExactTableShrinkRow.laid w) :
    Calls Tryd.prog 9 #[T n b] w fun e w' => e = .returned (.bool true) ∧ Below w.heap.size w w' := by
  have hI : InB w := inB_of hL
  have hI0 := Lib.hid hI
  clear hL
  (try unfold T)
  have hl := supI_len n b 4
  obtain ⟨L, hLL⟩ : ∃ L, supI n b 4 = L := ⟨_, rfl⟩
  rw [hLL] at hl
  obtain ⟨x, y, hxy⟩ := shrT_shape n b
  go_enter Tryd.func9, Tryd.ntmps9
  go_wp2_with fail
  refine (toTable_any n b _).mono ?_
  rintro e w1 ⟨rfl, hb⟩
  have g := box1 hb
  have hT : Below w.heap.size w w1 := g.2
  have c100 : w1.cell? ⟨w.heap.size, 0, none⟩ = some (.int .i64 n) := box_cell g.1 0 _ rfl
  have c101 : w1.cell? ⟨w.heap.size, 1, none⟩ = some (.int .i64 b) := box_cell g.1 1 _ rfl
  replace hI := hI.keep hT
  have hs1 : w.heap.size ≤ w1.heap.size := hT.size
  have HB := Lib.hid hT
  clear hT hb g
  have lc100 : w.heap.size < w1.heap.size := World.block_lt_of_cell? _ _ c100
  go_wp2_with fail
  refine (specShr_any n b _).mono ?_
  rintro e w2 ⟨v1, rfl, ho, hb⟩
  rw [hxy]
  rw [hLL] at ho
  have hT : Below w1.heap.size w1 w2 := hb
  replace c100 := keep hT c100
  replace c101 := keep hT c101
  have Ov1 := Lib.hid ho
  have hlt := fun j (hj : v1.ownBlock = some j) => ho.lt j hj
  (try simp only [World.size_alloc] at hlt)
  have Vv1 := Lib.hid hlt
  clear ho hlt
  replace hI := hI.keep hT
  have hs2 : w1.heap.size ≤ w2.heap.size := hT.size
  replace HB := Lib.hid (bThen HB.out hT)
  clear hT hb
  have lc100 : w.heap.size < w2.heap.size := World.block_lt_of_cell? _ _ c100
  go_wp2_with fail
  refine (toTable_any n b _).mono ?_
  rintro e w3 ⟨rfl, hb⟩
  have g := box1 hb
  have hT : Below w2.heap.size w2 w3 := g.2
  replace c100 := keep hT c100
  replace c101 := keep hT c101
  have c300 : w3.cell? ⟨w2.heap.size, 0, none⟩ = some (.int .i64 x) := box_cell g.1 0 _ rfl
  have c301 : w3.cell? ⟨w2.heap.size, 1, none⟩ = some (.int .i64 y) := box_cell g.1 1 _ rfl
  replace Ov1 := Lib.hid (Ov1.out.below hT)
  replace hI := hI.keep hT
  have hs3 : w2.heap.size ≤ w3.heap.size := hT.size
  replace HB := Lib.hid (bThen HB.out hT)
  clear hT hb g
  have lc100 : w.heap.size < w3.heap.size := World.block_lt_of_cell? _ _ c100
  have lc300 : w2.heap.size < w3.heap.size := World.block_lt_of_cell? _ _ c300
  go_wp2_with fail
  refine (implShr_any n b _ (hI.keep (by (repeat' (first | assumption | exact Below.refl _ _ | refine bDrewN ?_ _ | refine Below.drew ?_ | refine bAlloc ?_ (Nat.le_refl _) _ | refine bSet ?_ (by first | exact Nat.le_refl _ | omega | (simp <;> omega)) _))))).mono ?_
  rintro e w4 ⟨v2, rfl, ho, hb⟩
  rw [hxy]
  rw [hLL] at ho
  have hT : Below w3.heap.size w3 w4 := hb
  replace c100 := keep hT c100
  replace c101 := keep hT c101
  replace c300 := keep hT c300
  replace c301 := keep hT c301
  replace Ov1 := Lib.hid (Ov1.out.below hT)
  have Ov2 := Lib.hid ho
  have hlt := fun j (hj : v2.ownBlock = some j) => ho.lt j hj
  (try simp only [World.size_alloc] at hlt)
  have Vv2 := Lib.hid hlt
  clear ho hlt
  replace hI := hI.keep hT
  have hs4 : w3.heap.size ≤ w4.heap.size := hT.size
  replace HB := Lib.hid (bThen HB.out hT)
  clear hT hb
  have lc100 : w.heap.size < w4.heap.size := World.block_lt_of_cell? _ _ c100
  have lc300 : w2.heap.size < w4.heap.size := World.block_lt_of_cell? _ _ c300
  go_wp2_with fail
  refine (eqTable_same x y _).mono ?_
  rintro e w5 ⟨rfl, hb⟩
  have g := box1 hb
  have hT : Below w4.heap.size w4 w5 := g.2
  replace c100 := keep hT c100
  replace c101 := keep hT c101
  replace c300 := keep hT c300
  replace c301 := keep hT c301
  have c500 : w5.cell? ⟨w4.heap.size, 0, none⟩ = some (.int .i64 x) := box_cell g.1 0 _ rfl
  have c501 : w5.cell? ⟨w4.heap.size, 1, none⟩ = some (.int .i64 y) := box_cell g.1 1 _ rfl
  replace Ov1 := Lib.hid (Ov1.out.below hT)
  replace Ov2 := Lib.hid (Ov2.out.below hT)
  replace hI := hI.keep hT
  have hs5 : w4.heap.size ≤ w5.heap.size := hT.size
  replace HB := Lib.hid (bThen HB.out hT)
  clear hT hb g
  have lc100 : w.heap.size < w5.heap.size := World.block_lt_of_cell? _ _ c100
  have lc300 : w2.heap.size < w5.heap.size := World.block_lt_of_cell? _ _ c300
  have lc500 : w4.heap.size < w5.heap.size := World.block_lt_of_cell? _ _ c500
  go_wp2_with fail
  refine (eqI_any _ _ v2 v1 L _ Ov2.out Ov1.out (by omega)).mono ?_
  rintro e w6 ⟨rfl, hb⟩
  have hT : Below w5.heap.size w5 w6 := hb
  replace c100 := keep hT c100
  replace c101 := keep hT c101
  replace c300 := keep hT c300
  replace c301 := keep hT c301
  replace c500 := keep hT c500
  replace c501 := keep hT c501
  replace Ov1 := Lib.hid (Ov1.out.below hT)
  replace Ov2 := Lib.hid (Ov2.out.below hT)
  replace hI := hI.keep hT
  have hs6 : w5.heap.size ≤ w6.heap.size := hT.size
  replace HB := Lib.hid (bThen HB.out hT)
  clear hT hb
  have lc100 : w.heap.size < w6.heap.size := World.block_lt_of_cell? _ _ c100
  have lc300 : w2.heap.size < w6.heap.size := World.block_lt_of_cell? _ _ c300
  have lc500 : w4.heap.size < w6.heap.size := World.block_lt_of_cell? _ _ c500
  go_wp2_with fail
  refine (markI_any _ v2 L _ Ov2.out (by omega) 1 (by omega) (by omega)).mono ?_
  rintro e w7 ⟨rfl, ho, hg⟩
  replace c100 := grown_cell hg c100 (by intro e; have := Vv2.out _ e; dsimp only at this; omega)
  replace c101 := grown_cell hg c101 (by intro e; have := Vv2.out _ e; dsimp only at this; omega)
  replace c300 := grown_cell hg c300 (by intro e; have := Vv2.out _ e; dsimp only at this; omega)
  replace c301 := grown_cell hg c301 (by intro e; have := Vv2.out _ e; dsimp only at this; omega)
  replace c500 := grown_cell hg c500 (by intro e; have := Vv2.out _ e; dsimp only at this; omega)
  replace c501 := grown_cell hg c501 (by intro e; have := Vv2.out _ e; dsimp only at this; omega)
  replace Ov1 := Lib.hid (show OwnsI w7 _ v1 L from Ov1.out.kept hg (by
    cases h1 : v1.ownBlock with
    | none => exact .inl rfl
    | some j =>
      refine .inr (fun e => ?_)
      have hlt1 := Vv1.out j h1
      have hlt2 := Vv2.out j e.symm
      omega))
  replace Ov2 := Lib.hid ho
  replace hI : InB w7 := fun K hK => grown_cell hg (hI K hK) (by
    intro e; have h1 := Vv2.out _ e; have h2 := World.block_lt_of_cell? _ _ (hI0.out K hK); dsimp only at h1 h2; omega)
  replace HB := Lib.hid (HB.out.grown hg HB.out.size (fun j hj => by have := Vv2.out j hj; omega))
  have hs7 : w6.heap.size ≤ w7.heap.size := hg.size
  clear ho hg
  have lc100 : w.heap.size < w7.heap.size := World.block_lt_of_cell? _ _ c100
  have lc300 : w2.heap.size < w7.heap.size := World.block_lt_of_cell? _ _ c300
  have lc500 : w4.heap.size < w7.heap.size := World.block_lt_of_cell? _ _ c500
  go_wp2_with fail
  refine (heldI_any _ v2 L.length _ 1 Ov2.out (by omega) (by omega) (by omega)).mono ?_
  rintro e w8 ⟨rfl, hb⟩
  have hT : Below w7.heap.size w7 w8 := hb
  replace c100 := keep hT c100
  replace c101 := keep hT c101
  replace c300 := keep hT c300
  replace c301 := keep hT c301
  replace c500 := keep hT c500
  replace c501 := keep hT c501
  replace Ov1 := Lib.hid (Ov1.out.below hT)
  replace Ov2 := Lib.hid (Ov2.out.below hT)
  replace hI := hI.keep hT
  have hs8 : w7.heap.size ≤ w8.heap.size := hT.size
  replace HB := Lib.hid (bThen HB.out hT)
  clear hT hb
  have lc100 : w.heap.size < w8.heap.size := World.block_lt_of_cell? _ _ c100
  have lc300 : w2.heap.size < w8.heap.size := World.block_lt_of_cell? _ _ c300
  have lc500 : w4.heap.size < w8.heap.size := World.block_lt_of_cell? _ _ c500
  go_wp2_with fail
  refine (toTable_any n b _).mono ?_
  rintro e w9 ⟨rfl, hb⟩
  have hT : Below w8.heap.size w8 w9 := hb
  replace c100 := keep hT c100
  replace c101 := keep hT c101
  replace c300 := keep hT c300
  replace c301 := keep hT c301
  replace c500 := keep hT c500
  replace c501 := keep hT c501
  replace Ov1 := Lib.hid (Ov1.out.below hT)
  replace Ov2 := Lib.hid (Ov2.out.below hT)
  replace hI := hI.keep hT
  have hs9 : w8.heap.size ≤ w9.heap.size := hT.size
  replace HB := Lib.hid (bThen HB.out hT)
  clear hT hb
  have lc100 : w.heap.size < w9.heap.size := World.block_lt_of_cell? _ _ c100
  have lc300 : w2.heap.size < w9.heap.size := World.block_lt_of_cell? _ _ c300
  have lc500 : w4.heap.size < w9.heap.size := World.block_lt_of_cell? _ _ c500
  go_wp2_with fail
  refine (implShr_any n b _ (hI.keep (by (repeat' (first | assumption | exact Below.refl _ _ | refine bDrewN ?_ _ | refine Below.drew ?_ | refine bAlloc ?_ (Nat.le_refl _) _ | refine bSet ?_ (by first | exact Nat.le_refl _ | omega | (simp <;> omega)) _))))).mono ?_
  rintro e w10 ⟨v3, rfl, ho, hb⟩
  rw [hxy]
  rw [hLL] at ho
  have hT : Below w9.heap.size w9 w10 := hb
  replace c100 := keep hT c100
  replace c101 := keep hT c101
  replace c300 := keep hT c300
  replace c301 := keep hT c301
  replace c500 := keep hT c500
  replace c501 := keep hT c501
  replace Ov1 := Lib.hid (Ov1.out.below hT)
  replace Ov2 := Lib.hid (Ov2.out.below hT)
  have Ov3 := Lib.hid ho
  have hlt := fun j (hj : v3.ownBlock = some j) => ho.lt j hj
  (try simp only [World.size_alloc] at hlt)
  have Vv3 := Lib.hid hlt
  clear ho hlt
  replace hI := hI.keep hT
  have hs10 : w9.heap.size ≤ w10.heap.size := hT.size
  replace HB := Lib.hid (bThen HB.out hT)
  clear hT hb
  have lc100 : w.heap.size < w10.heap.size := World.block_lt_of_cell? _ _ c100
  have lc300 : w2.heap.size < w10.heap.size := World.block_lt_of_cell? _ _ c300
  have lc500 : w4.heap.size < w10.heap.size := World.block_lt_of_cell? _ _ c500
  go_wp2_with fail
  refine (eqTable_same x y _).mono ?_
  rintro e w11 ⟨rfl, hb⟩
  have g := box1 hb
  have hT : Below w10.heap.size w10 w11 := g.2
  replace c100 := keep hT c100
  replace c101 := keep hT c101
  replace c300 := keep hT c300
  replace c301 := keep hT c301
  replace c500 := keep hT c500
  replace c501 := keep hT c501
  have c1100 : w11.cell? ⟨w10.heap.size, 0, none⟩ = some (.int .i64 x) := box_cell g.1 0 _ rfl
  have c1101 : w11.cell? ⟨w10.heap.size, 1, none⟩ = some (.int .i64 y) := box_cell g.1 1 _ rfl
  replace Ov1 := Lib.hid (Ov1.out.below hT)
  replace Ov2 := Lib.hid (Ov2.out.below hT)
  replace Ov3 := Lib.hid (Ov3.out.below hT)
  replace hI := hI.keep hT
  have hs11 : w10.heap.size ≤ w11.heap.size := hT.size
  replace HB := Lib.hid (bThen HB.out hT)
  clear hT hb g
  have lc100 : w.heap.size < w11.heap.size := World.block_lt_of_cell? _ _ c100
  have lc300 : w2.heap.size < w11.heap.size := World.block_lt_of_cell? _ _ c300
  have lc500 : w4.heap.size < w11.heap.size := World.block_lt_of_cell? _ _ c500
  have lc1100 : w10.heap.size < w11.heap.size := World.block_lt_of_cell? _ _ c1100
  go_wp2_with fail
  refine (eqI_any _ _ v3 v1 L _ Ov3.out Ov1.out (by omega)).mono ?_
  rintro e w12 ⟨rfl, hb⟩
  have hT : Below w11.heap.size w11 w12 := hb
  replace c100 := keep hT c100
  replace c101 := keep hT c101
  replace c300 := keep hT c300
  replace c301 := keep hT c301
  replace c500 := keep hT c500
  replace c501 := keep hT c501
  replace c1100 := keep hT c1100
  replace c1101 := keep hT c1101
  replace Ov1 := Lib.hid (Ov1.out.below hT)
  replace Ov2 := Lib.hid (Ov2.out.below hT)
  replace Ov3 := Lib.hid (Ov3.out.below hT)
  replace hI := hI.keep hT
  have hs12 : w11.heap.size ≤ w12.heap.size := hT.size
  replace HB := Lib.hid (bThen HB.out hT)
  clear hT hb
  have lc100 : w.heap.size < w12.heap.size := World.block_lt_of_cell? _ _ c100
  have lc300 : w2.heap.size < w12.heap.size := World.block_lt_of_cell? _ _ c300
  have lc500 : w4.heap.size < w12.heap.size := World.block_lt_of_cell? _ _ c500
  have lc1100 : w10.heap.size < w12.heap.size := World.block_lt_of_cell? _ _ c1100
  go_wp2_with fail
  refine (heldI_any _ v2 L.length _ 1 Ov2.out (by omega) (by omega) (by omega)).mono ?_
  rintro e w13 ⟨rfl, hb⟩
  have hT : Below w12.heap.size w12 w13 := hb
  replace c100 := keep hT c100
  replace c101 := keep hT c101
  replace c300 := keep hT c300
  replace c301 := keep hT c301
  replace c500 := keep hT c500
  replace c501 := keep hT c501
  replace c1100 := keep hT c1100
  replace c1101 := keep hT c1101
  replace Ov1 := Lib.hid (Ov1.out.below hT)
  replace Ov2 := Lib.hid (Ov2.out.below hT)
  replace Ov3 := Lib.hid (Ov3.out.below hT)
  replace hI := hI.keep hT
  have hs13 : w12.heap.size ≤ w13.heap.size := hT.size
  replace HB := Lib.hid (bThen HB.out hT)
  clear hT hb
  have lc100 : w.heap.size < w13.heap.size := World.block_lt_of_cell? _ _ c100
  have lc300 : w2.heap.size < w13.heap.size := World.block_lt_of_cell? _ _ c300
  have lc500 : w4.heap.size < w13.heap.size := World.block_lt_of_cell? _ _ c500
  have lc1100 : w10.heap.size < w13.heap.size := World.block_lt_of_cell? _ _ c1100
  go_wp2
  go_ret
  have hB := HB.out
  exact ⟨rfl, by first | exact hB | (repeat' (first | assumption | exact Below.refl _ _ | refine bDrewN ?_ _ | refine Below.drew ?_ | refine bAlloc ?_ (Nat.le_refl _) _ | refine bSet ?_ (by first | exact Nat.le_refl _ | omega | (simp <;> omega)) _))⟩
end Go.Proofs.YtiikadlcoijcfaaDoor
