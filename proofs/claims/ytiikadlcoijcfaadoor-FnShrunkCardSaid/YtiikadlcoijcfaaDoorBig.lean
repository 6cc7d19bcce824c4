/-
  The contract of laws.big.
-/
import Derived.Test.YtiikadlcoijcfaaDoorCurA
namespace Go.Proofs.YtiikadlcoijcfaaDoor
open Go.RowKit

theorem big_any (A : Option Addr) (n cap : Nat) (w : World) :
    Calls Tryd.prog 10 #[.slice A n cap] w fun e w' => e = .returned (.bool (decide (1048576 < (n : Int)))) ∧ w = w' := by
  go_enter Tryd.func10, Tryd.ntmps10
  go_wp2
  go_ret
  exact ⟨rfl, rfl⟩

end Go.Proofs.YtiikadlcoijcfaaDoor
