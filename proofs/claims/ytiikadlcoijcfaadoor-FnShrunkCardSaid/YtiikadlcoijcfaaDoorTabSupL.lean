/-
  The walk of the law FnExactTableSupport.
-/
import Derived.Test.YtiikadlcoijcfaaDoorTabSup
namespace Go.Proofs.YtiikadlcoijcfaaDoor
open Go.RowKit
set_option linter.unusedVariables false

/-- A cell outside the row that has been written. -/
theorem grown_cell {w w' : World} {row : Option Nat} (h : w.grownBy w' row) {p : Addr} {v : Value} (hc : w.cell? p = some v) (hne : row ≠ some p.block) : w'.cell? p = some v := by
  rw [World.cell?_of_block (h.block p.block (World.block_lt_of_cell? _ _ hc) (fun e => hne e.symm))]; exact hc

set_option maxHeartbeats 3200000 in
theorem exactSup_walk (n b : Int) (w : World) (hL : laidMetH Tryd.prog Rows.fnExactTableSupportRow.laid w) :
    Calls Tryd.prog 8 #[T n b] w fun e w' => e = .returned (.bool true) ∧ Below w.heap.size w w' := by
  have hI : InB w := inB_of hL
  clear hL
  unfold T
  have hl := supI_len n b 4
  obtain ⟨L, hLL⟩ : ∃ L, supI n b 4 = L := ⟨_, rfl⟩
  rw [hLL] at hl
  go_enter Tryd.func8, Tryd.ntmps8
  go_wp2_with fail
  refine (toTable_any n b _).mono ?_
  rintro e w1 ⟨rfl, hb⟩
  have g := box1 hb
  have c0 : w1.cell? ⟨w.heap.size, 0, none⟩ = some (.int .i64 n) := box_cell g.1 0 _ rfl
  have c1 : w1.cell? ⟨w.heap.size, 1, none⟩ = some (.int .i64 b) := box_cell g.1 1 _ rfl
  have hI1 := hI.keep g.2
  have hI1' := hI
  have HB1 := Lib.hid g.2
  have hs1 := World.block_lt_of_cell? _ _ c0
  clear hb g
  go_wp2_with fail
  refine (specSup_any n b _).mono ?_
  rintro e w2 ⟨v1, rfl, ho1, hb⟩
  rw [hLL] at ho1
  have HO1 := Lib.hid ho1
  have HB2 := Lib.hid (bThen HB1.out hb)
  replace c0 := keep hb c0
  replace c1 := keep hb c1
  have hI2 := hI1.keep hb
  clear hb ho1 hI1 HB1
  go_wp2_with fail
  refine (toTable_any n b _).mono ?_
  rintro e w3 ⟨rfl, hb⟩
  have HO1b := Lib.hid (HO1.out.below hb)
  have HB3 := Lib.hid (bThen HB2.out hb)
  replace c0 := keep hb c0
  replace c1 := keep hb c1
  have hI3 := hI2.keep hb
  have hs3 := World.block_lt_of_cell? _ _ c0
  have hs23 := hb.size
  have hr1 := Lib.hid (fun j (hj : v1.ownBlock = some j) => (HO1.out.lt j hj))
  clear hb hI2 HB2
  go_wp2_with fail
  refine (implSup_any n b _ hI3).mono ?_
  rintro e w4 ⟨v2, rfl, ho2, hb⟩
  rw [hLL] at ho2
  have HO2 := Lib.hid ho2
  have HO1c := Lib.hid (HO1b.out.below hb)
  have HB4 := Lib.hid (bThen HB3.out hb)
  replace c0 := keep hb c0
  replace c1 := keep hb c1
  have hI4 := hI3.keep hb
  have hr2 := Lib.hid (fun j (hj : v2.ownBlock = some j) => (HO2.out.lt j hj))
  have hsz := HB3.out.size
  clear hb ho2 hI3
  go_wp2_with fail
  refine (eqI_any _ _ v2 v1 L _ HO2.out HO1c.out (by omega)).mono ?_
  rintro e w5 ⟨rfl, hb⟩
  have HO1d := Lib.hid (HO1c.out.below hb)
  have HO2d := Lib.hid (HO2.out.below hb)
  have HB5 := Lib.hid (bThen HB4.out hb)
  replace c0 := keep hb c0
  replace c1 := keep hb c1
  have hI5 := hI4.keep hb
  clear hb hI4
  go_wp2_with fail
  refine (markI_any _ v2 L _ HO2d.out (by omega) 1 (by omega) (by omega)).mono ?_
  rintro e w6 ⟨rfl, ho6, hg6⟩
  have HO6 := Lib.hid ho6
  have HO1e := Lib.hid (show OwnsI w6 _ v1 L from HO1d.out.kept hg6 (by
    cases h1 : v1.ownBlock with
    | none => exact .inl rfl
    | some j =>
      refine .inr (fun e => ?_)
      have hlt1 := hr1.out j h1
      have hlt2 := hr2.out j e.symm
      omega))
  have HB6 := Lib.hid (HB5.out.grown hg6 HB5.out.size (fun j hj => by have := hr2.out j hj; omega))
  replace c0 := grown_cell hg6 c0 (by intro e; have := hr2.out _ e; simp at this; omega)
  replace c1 := grown_cell hg6 c1 (by intro e; have := hr2.out _ e; simp at this; omega)
  have hI6 : InB w6 := fun K hK => grown_cell hg6 (hI5 K hK) (by
    intro e; have h1 := hr2.out _ e; have h2 := World.block_lt_of_cell? _ _ (hI1' K hK); dsimp only at h1 h2; omega)
  clear ho6 hg6 hI5
  go_wp2_with fail
  refine (heldI_any _ v2 L.length _ 1 HO6.out (by omega) (by omega) (by omega)).mono ?_
  rintro e w7 ⟨rfl, hb⟩
  have HO7 := Lib.hid (HO6.out.below hb)
  have HO1f := Lib.hid (HO1e.out.below hb)
  have HB7 := Lib.hid (bThen HB6.out hb)
  replace c0 := keep hb c0
  replace c1 := keep hb c1
  have hI7 := hI6.keep hb
  clear hb hI6
  go_wp2_with fail
  refine (toTable_any n b _).mono ?_
  rintro e w8 ⟨rfl, hb⟩
  have HO8 := Lib.hid (HO7.out.below hb)
  have HO1g := Lib.hid (HO1f.out.below hb)
  have HB8 := Lib.hid (bThen HB7.out hb)
  have hI8 := hI7.keep hb
  clear hb hI7
  go_wp2_with fail
  refine (implSup_any n b _ hI8).mono ?_
  rintro e w9 ⟨v3, rfl, ho9, hb⟩
  rw [hLL] at ho9
  have HO9 := Lib.hid ho9
  have HO8b := Lib.hid (HO8.out.below hb)
  have HO1h := Lib.hid (HO1g.out.below hb)
  have HB9 := Lib.hid (bThen HB8.out hb)
  clear hb ho9
  go_wp2_with fail
  refine (eqI_any _ _ v3 v1 L _ HO9.out HO1h.out (by omega)).mono ?_
  rintro e w10 ⟨rfl, hb⟩
  have HO8c := Lib.hid (HO8b.out.below hb)
  have HB10 := Lib.hid (bThen HB9.out hb)
  clear hb
  go_wp2_with fail
  refine (heldI_any _ v2 L.length _ 1 HO8c.out (by omega) (by omega) (by omega)).mono ?_
  rintro e w11 ⟨rfl, hb⟩
  have HB11 := Lib.hid (bThen HB10.out hb)
  clear hb
  go_wp2
  go_ret
  exact ⟨rfl, HB11.out⟩
end Go.Proofs.YtiikadlcoijcfaaDoor
