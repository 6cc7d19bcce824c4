/-
  The walk of the law FnExactOpText.
-/
import Derived.Test.YtikibabknlpnkaaDoorIOpTx
namespace Go.Proofs.YtikibabknlpnkaaDoor
open Go.RowKit
set_option linter.unusedVariables false
set_option linter.unusedSimpArgs false

theorem toOp_ints (k a b : Int) (w : World) :
    Calls Tryd.prog 11 #[.agg #[.int .i64 k, .int .i64 a, .int .i64 b]] w fun e w' => e = .returned (.agg #[.int .i64 k, .int .i64 a, .int .i64 b]) ∧ Below w.heap.size w w' := by
  go_enter Tryd.func11, Tryd.ntmps11
  go_wp2
  ((try simp only [Exit.inBlock, Exit.then]); refine bodyPost_ret (v := (.agg #[.int .i64 k, .int .i64 a, .int .i64 b])) (by rw [results_cell1 rfl]; go_simp) rfl ?_)
  exact ⟨rfl, by (repeat' (first | assumption | exact Below.refl _ _ | refine bDrewN ?_ _ | refine Below.drew ?_ | refine bAlloc ?_ (Nat.le_refl _) _ | refine bSet ?_ (by first | exact Nat.le_refl _ | omega | (simp <;> omega)) _))⟩
theorem powTab_opText {W : World} (h : laidMetH Tryd.prog Rows.fnExactOpTextRow.laid W) : PowTab W := powTab_of (laidMet.tail (laidMet.tail h))
set_option maxHeartbeats 1600000 in
theorem exactOpText_walk (k a b : Int) (w : World) (hL : laidMetH Tryd.prog Rows.fnExactOpTextRow.laid w) :
    Calls Tryd.prog 4 #[.agg #[.int .i64 k, .int .i64 a, .int .i64 b]] w fun e w' => e = .returned (.bool true) ∧ Below w.heap.size w w' := by
  obtain ⟨s, hs⟩ : ∃ s, opTextS (k, a, b) = s := ⟨_, rfl⟩
  obtain ⟨d, hd⟩ : ∃ d, opB 30 (k, a, b) = d := ⟨_, rfl⟩
  have HT := Lib.hid (powTab_opText hL)
  clear hL
  go_enter Tryd.func4, Tryd.ntmps4
  go_wp2_with fail
  refine (toOp_ints k a b _).mono ?_
  rintro e w1 ⟨rfl, hb⟩
  obtain ⟨g, hb'⟩ := box1 hb
  have c0 := box_cell g 0 _ rfl
  have c1 := box_cell g 1 _ rfl
  have c2 := box_cell g 2 _ rfl
  have HB := Lib.hid hb'
  clear hb hb' g
  go_wp2_with fail
  refine (specText_at (k, a, b) _ hs hd).mono ?_
  rintro e w2 ⟨rfl, hb⟩
  replace HB := Lib.hid (HB.out.trans (hb.mono HB.out.size))
  replace c0 := keep hb c0
  replace c1 := keep hb c1
  replace c2 := keep hb c2
  clear hb
  go_wp2_with fail
  refine (toOp_ints k a b _).mono ?_
  rintro e w3 ⟨rfl, hb⟩
  replace HB := Lib.hid (HB.out.trans (hb.mono HB.out.size))
  clear hb c0 c1 c2
  go_wp2_with fail
  refine (implText_at (k, a, b) _ hs hd (HT.out.keep HB.out)).mono ?_
  rintro e w4 ⟨rfl, hb⟩
  replace HB := Lib.hid (HB.out.trans (hb.mono HB.out.size))
  clear hb
  go_wp2
  go_ret
  exact ⟨rfl, HB.out⟩
end Go.Proofs.YtikibabknlpnkaaDoor
