/-
  The ports of a module, as the reference finds them.
-/
import Derived.Test.YtmalaleinmoihaaDtAll
import Derived.Test.YtmalaleinmoihaaIntS
import Derived.Test.YtmalaleinmoihaaOwnI
namespace Go.Proofs.Ytmalaleinmoihaa
open Go.RowKit
set_option linter.unusedVariables false
set_option linter.unusedSimpArgs false

/-- An input or an output. -/
def isPort (s : DSignal) : Bool := decide (s.1 = 0) || decide (s.1 = 1)
def portsK (S : List DSignal) (k : Nat) : List Int := ((List.range k).filter fun i => (S[i]?).any isPort).map fun i : Nat => (i : Int)
def portsL (x : DModule) : List Int := if x.1.length ≤ 30 then portsK x.1 x.1.length else []
theorem portsK_yes (S : List DSignal) (k : Nat) (s : DSignal) (hs : S[k]? = some s) (h : isPort s = true) : portsK S (k + 1) = portsK S k ++ [(k : Int)] := by
  unfold portsK; rw [List.range_succ, List.filter_append, List.map_append]; simp [hs, h]
theorem portsK_no (S : List DSignal) (k : Nat) (s : DSignal) (hs : S[k]? = some s) (h : isPort s = false) : portsK S (k + 1) = portsK S k := by
  unfold portsK; rw [List.range_succ, List.filter_append, List.map_append]; simp [hs, h]
theorem portsK_len (S : List DSignal) (k : Nat) : (portsK S k).length ≤ k := by
  unfold portsK; rw [List.length_map]; exact Nat.le_trans (List.length_filter_le _ _) (by simp)
end Go.Proofs.Ytmalaleinmoihaa
