/-
  The counts of a design, as the reference judges them.
-/
import Derived.Test.YtmalaleinmoihaaDtAll
import Derived.Test.YtmalaleinmoihaaSPorts
import Derived.Deep.CutRange
import Derived.Deep.RegionLaw
import Derived.Deep.AppendLies
import Derived.BigQuiet
import Derived.Lib.QuietBelow
namespace Go.Proofs.Ytmalaleinmoihaa
open Go.RowKit
set_option linter.unusedVariables false
set_option linter.unusedSimpArgs false

theorem ret_b {a b : Bool} (h : a = b) : Ending.returned (.bool a) = .returned (.bool b) := by rw [h]
/-- No list of the module is too long. -/
def sizeOk (m : DModule) : Bool := decide (m.1.length ≤ 30) && decide (m.2.1.length ≤ 30) && decide (m.2.2.1.length ≤ 3) && decide (m.2.2.2.length ≤ 2)
/-- The instance names an earlier module and has its ports. -/
def instOk (d : List DModule) (k : Int) (n : DInst) : Bool := decide (0 ≤ n.1 ∧ n.1 < k) && (d[n.1.toNat]?).any fun m => decide (n.2.2.length = (portsL m).length)
def countsB (d : List DModule) (k : Int) : Bool := decide (d.length ≤ 4) && decide (0 ≤ k ∧ k < d.length) && d.all sizeOk && (d[k.toNat]?).any fun m => m.2.2.1.all (instOk d k)
theorem all_take_step {α : Type} (f : α → Bool) (L : List α) (i : Nat) (x : α) (h : L[i]? = some x) : (L.take (i + 1)).all f = ((L.take i).all f && f x) := by
  rw [List.take_add_one, h, List.all_append]; simp
theorem all_false_at {α : Type} (f : α → Bool) (L : List α) (i : Nat) (x : α) (h : L[i]? = some x) (hf : f x = false) : L.all f = false := by
  rw [List.all_eq_false]
  exact ⟨x, List.mem_of_getElem? h, by simp [hf]⟩

end Go.Proofs.Ytmalaleinmoihaa
