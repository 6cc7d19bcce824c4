/-
  The contract of impl.FormatInt out of the kit's contract of strconv.Itoa; the walk of the law FnExactFormatInt.
-/
import Derived.Test.YtdfcbccpdflbfaaGreatDoorCards
import Derived.Test.YtdfcbccpdflbfaaGreatDoorShelf
import Derived.Test.YtdfcbccpdflbfaaGreatDoorFmtAll
import Derived.Lib.LaidTab
import Derived.Stop.LaidErr
import Derived.OpenShut
import Derived.WalkSmall
namespace Go.Proofs.YtdfcbccpdflbfaaGreatDoor
open Go.RowKit
set_option linter.unusedSimpArgs false

theorem gPow : Tryz.prog.globalNamed "internal/strconv.uint64pow10" = some 1 := by kernel_rfl

/-- The table of powers of ten reads as the program's text lays it. -/
def PowTab (W : World) : Prop := Lib.TabIs Tryz.prog W "internal/strconv.uint64pow10" .u64 Lib.pow10Tab

theorem PowTab.lt {W : World} (h : PowTab W) : 1 < W.heap.size :=
  World.block_lt_of_cell? W _ (Lib.TabIs.cell h gPow 0 (by decide))
theorem PowTab.keep {W W' : World} (h : PowTab W) (hb : Below W.heap.size W W') : PowTab W' := var?_below hb gPow h.lt h

theorem implFmt_any (n : Int) (w : World) (h0 : -9223372036854775808 ≤ n) (h1 : n ≤ 9223372036854775807) (ht : PowTab w) :
    Calls Tryz.prog 51 #[.int .i64 n] w fun e w' => e = .returned (.string ⟨(Lib.itoa n).toArray⟩) ∧ Below w.heap.size w w' := by
  go_enter Tryz.func51, Tryz.ntmps51
  go_wp2_with fail
  refine (Tryz.strconv_Itoa n h0 h1 _ ht).mono ?_
  rintro e w1 ⟨rfl, k, os, hw⟩
  have hb : Below w.heap.size w w1 := by
    subst hw
    exact ⟨rfl, rfl, rfl, by simp [Sort.grow, World.drewN], fun k hk => by simp [Sort.grow, World.drewN, Array.getElem?_append, hk]⟩
  have HB := Lib.hid hb
  clear hb hw
  go_wp2
  go_ret
  exact ⟨rfl, HB.out⟩

theorem arr20 : ∃ t e, (Tryz.prog.globals[1]?).map (·.type) = some t ∧ Tryz.prog.underlying t = some (.array 20 e) ∧ Tryz.prog.underlying e = some (.int .u64) ∧ Tryz.prog.cellsOf e = 1 ∧ Tryz.prog.cellsOf t = 20 :=
  ⟨159, 152, by kernel_rfl, by kernel_rfl, by kernel_rfl, by kernel_rfl, by kernel_rfl⟩
theorem powTab_of {W : World} {rest : List (String × DataW Unit)} (h : laidMet Tryz.prog (("internal/strconv.uint64pow10", Rows.laid_internal_strconv_uint64pow10) :: rest) W) : PowTab W := by
  obtain ⟨t, e, h1, h2, h3, h4, h5⟩ := arr20
  exact Lib.tabIs_of_head (rest := rest) gPow h1 h2 h3 h4 h5 h

end Go.Proofs.YtdfcbccpdflbfaaGreatDoor
