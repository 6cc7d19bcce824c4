/-
  A drawn place, and what is beside it.
-/
import Derived.Test.YtllddjkdjdohhaaExpr
namespace Go.Proofs.Ytllddjkdjdohhaa
open Go.RowKit
set_option linter.unusedVariables false
set_option linter.unusedSimpArgs false

set_option maxHeartbeats 1600000 in
theorem place_any (g n : Nat) (m : Int) (w : World) (h1 : 1 ≤ m) (h2 : m ≤ 1000) (hc : Cur 125 w g n) :
    Calls Try.prog 58 #[.pointer (some ⟨g, 0, none⟩), .int .i64 m] w (Drawn 125 Fit g n w) := by
  have ew : IntKind.i64.wrap (m + 1) = m + 1 := wrap64_int _ (by omega) (by omega)
  go_enter Try.func58, Try.ntmps58
  go_wp2_with fail
  refine (once_any g n 15 _ (by omega) (by omega) hc).mono ?_
  rintro e w1 ⟨x, rfl, hcu, hch⟩
  have HC := Lib.hid hcu
  have HH := Lib.hid hch
  clear hcu hch
  cases x
  · go_wp2_with fail
    refine (below_any g n m _ (by omega) (by omega) HC.out).mono ?_
    rintro e w2 ⟨y, rfl, ⟨hy0, hy1⟩, hcu, hch⟩
    have HC2 := Lib.hid hcu
    have HH2 := Lib.hid (HH.out.trans hch)
    clear hcu hch
    go_wp2
    go_ret
    exact ⟨_, rfl, fit_of (by omega) (by omega), HC2.out, HH2.out⟩
  · go_wp2_with fail
    refine (pickIn_any g n w1.heap.size 5 [-1, m, m + 1, 9223372036854775807, -9223372036854775808] _ rfl (by omega) (by omega) (fun e => by have := HC.out.lt; omega) ?_ (HC.out.keep (bAlloc (Below.refl _ _) (Nat.le_refl _) _))).mono ?_
    · intro j hj
      rw [World.cell?_alloc_at _ _ _ _ rfl]
      match j, hj with
      | 0, _ | 1, _ | 2, _ | 3, _ | 4, _ => rfl
    rintro e w2 ⟨y, rfl, hy, hcu, hch⟩
    have hf : Fit y := by
      unfold Fit
      simp at hy
      omega
    have HC2 := Lib.hid hcu
    have HH2 := Lib.hid ((HH.out.alloc _).trans hch)
    clear hcu hch hy
    go_wp2
    go_ret
    exact ⟨_, rfl, hf, HC2.out, HH2.out⟩
end Go.Proofs.Ytllddjkdjdohhaa
