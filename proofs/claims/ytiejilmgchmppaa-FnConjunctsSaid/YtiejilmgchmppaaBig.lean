/-
  The contract of laws.big.
-/
import Derived.Test.YtiejilmgchmppaaDrA
namespace Go.Proofs.Ytiejilmgchmppaa
open Go.RowKit

theorem big_any (A : Option Addr) (n cap : Nat) (w : World) :
    Calls Try.prog 5 #[.slice A n cap] w fun e w' => e = .returned (.bool (decide (1048576 < (n : Int)))) ∧ w = w' := by
  go_enter Try.func5, Try.ntmps5
  go_wp2
  go_ret
  exact ⟨rfl, rfl⟩

end Go.Proofs.Ytiejilmgchmppaa
