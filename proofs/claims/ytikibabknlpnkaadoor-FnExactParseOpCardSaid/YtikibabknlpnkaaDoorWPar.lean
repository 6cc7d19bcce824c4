/-
  The walk of the law FnExactParseOp.
-/
import Derived.Test.YtikibabknlpnkaaDoorSPar
import Derived.Test.YtikibabknlpnkaaDoorWOp
namespace Go.Proofs.YtikibabknlpnkaaDoor
open Go.RowKit
set_option linter.unusedVariables false
set_option linter.unusedSimpArgs false

theorem four {k a b k' a' b' : Int} {p q : Bool} (h : (k', a', b') = (k, a, b) ∧ p = q) : k' = k ∧ a' = a ∧ b' = b ∧ p = q := by
  obtain ⟨h, hpq⟩ := h
  obtain ⟨h1, h2⟩ := Prod.mk.inj h
  obtain ⟨h2, h3⟩ := Prod.mk.inj h2
  exact ⟨h1, h2, h3, hpq⟩
theorem eqOp_same (k a b : Int) (w : World) :
    Calls Tryd.prog 13 #[.agg #[.int .i64 k, .int .i64 a, .int .i64 b], .agg #[.int .i64 k, .int .i64 a, .int .i64 b]] w fun e w' => e = .returned (.bool true) ∧ Below w.heap.size w w' := by
  go_enter Tryd.func13, Tryd.ntmps13
  go_wp2
  go_ret
  exact ⟨rfl, by (repeat' (first | assumption | exact Below.refl _ _ | refine bDrewN ?_ _ | refine Below.drew ?_ | refine bAlloc ?_ (Nat.le_refl _) _ | refine bSet ?_ (by first | exact Nat.le_refl _ | omega | (simp <;> omega)) _))⟩
theorem laid_parse {W : World} (h : laidMetH Tryd.prog Rows.fnExactParseOpRow.laid W) (hS : W.ShapedOpen Tryd.prog) : Laid W :=
  ⟨powTab_of (laidMet.tail (laidMet.tail h)), errs_of (laidMet.tail (laidMet.tail (laidMet.tail h))), maxL_of hS⟩
set_option maxHeartbeats 1600000 in
theorem exactParseOp_walk (s : ByteArray) (w : World) (hL : laidMetH Tryd.prog Rows.fnExactParseOpRow.laid w) (hS : w.ShapedOpen Tryd.prog) :
    Calls Tryd.prog 5 #[.string s] w fun e w' => e = .returned (.bool true) ∧ Below w.heap.size w w' := by
  have HT := Lib.hid (laid_parse hL hS)
  clear hL hS
  by_cases hbig : 1048576 < (s.size : Int)
  · go_enter Tryd.func5, Tryd.ntmps5
    go_wp2
    go_ret
    exact ⟨rfl, by (repeat' (first | assumption | exact Below.refl _ _ | refine bDrewN ?_ _ | refine Below.drew ?_ | refine bAlloc ?_ (Nat.le_refl _) _ | refine bSet ?_ (by first | exact Nat.le_refl _ | omega | (simp <;> omega)) _))⟩
  · go_enter Tryd.func5, Tryd.ntmps5
    go_wp2_with fail
    refine (specParseOp_any s _ (by omega)).mono ?_
    rintro e w1 ⟨k, a, b, ok, rfl, hp, hb⟩
    have HB := Lib.hid hb
    have HP := Lib.hid hp
    clear hb hp
    go_wp2_with fail
    refine (implParseOp_any s _ (by omega) (HT.out.keep (by first | exact HB.out | exact bAlloc HB.out HB.out.size _ | exact bAlloc HB.out (Nat.le_refl _) _))).mono ?_
    rintro e w2 ⟨k', a', b', ok', rfl, hp, hq, hb⟩
    obtain ⟨rfl, rfl, rfl, rfl⟩ := four (hp.uniq HP.out hq)
    obtain ⟨g, hb1⟩ := box1 hb
    have c0 := box_cell g 0 _ rfl
    have c1 := box_cell g 1 _ rfl
    have c2 := box_cell g 2 _ rfl
    have l1 := World.block_lt_of_cell? _ _ c0
    replace HB := Lib.hid (bThen HB.out hb1)
    clear hb hb1 g hp hq HP
    go_wp2_with fail
    refine (eqOp_same k' a' b' _).mono ?_
    rintro e w3 ⟨rfl, hb⟩
    replace HB := Lib.hid (bThen (show Below w.heap.size w (w2.alloc _) from bAlloc HB.out (Nat.le_refl _) _) hb)
    clear hb
    go_wp2
    go_ret
    exact ⟨rfl, HB.out⟩
end Go.Proofs.YtikibabknlpnkaaDoor
