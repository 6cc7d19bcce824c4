/-
  The contract of spec.l01Figure: the digit of a number below 16.
-/
import Derived.Test.YtikibabknlpnkaaDoorRows
import Derived.Test.YtikibabknlpnkaaDoorHexMath
import Derived.WalkKit
import Derived.WalkSpells
import Derived.WalkLawsBesides
namespace Go.Proofs.YtikibabknlpnkaaDoor
open Go.RowKit

theorem figure_any (n : Int) (h0 : 0 ≤ n) (h1 : n < 16) (w : World) :
    Calls Tryd.prog 30 #[.int .i64 n] w fun e w' => e = .returned (.int .u8 ((digB n.toNat).toNat : Int)) ∧ w = w' := by
  by_cases h : n < 10
  · have e : ((digB n.toNat).toNat : Int) = 48 + n := by rw [digB_low _ (by omega)]; omega
    rw [e]
    clear e
    go_enter Tryd.func30, Tryd.ntmps30
    go_wp2
    go_ret
    exact ⟨rfl, rfl⟩
  · have e : ((digB n.toNat).toNat : Int) = 97 + n - 10 := by rw [digB_high _ (by omega) (by omega)]; omega
    rw [e]
    clear e
    go_enter Tryd.func30, Tryd.ntmps30
    go_wp2
    go_ret
    exact ⟨rfl, rfl⟩

end Go.Proofs.YtikibabknlpnkaaDoor
