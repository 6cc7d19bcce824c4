/-
  The contracts of l01PickInt, l01Number and big.
-/
import Derived.Test.YtikibabknlpnkaaDoorCurA
namespace Go.Proofs.YtikibabknlpnkaaDoor
open Go.RowKit
set_option linter.unusedSimpArgs false

/-- An int of 64 bits. -/
def I64 (x : Int) : Prop := -9223372036854775808 ≤ x ∧ x ≤ 9223372036854775807
/-- m integers can be read from offset 0 of block b on. -/
def IntsAt (w : World) (b m : Nat) : Prop := ∀ j, j < m → ∃ v : Int, I64 v ∧ w.cell? ⟨b, j, none⟩ = some (.int .i64 v)

set_option maxHeartbeats 400000 in
theorem pickInt_any (g n b m : Nat) (w : World) (hm : 0 < m) (hm2 : m ≤ 1000) (hb : b ≠ g) (hl : b < w.heap.size) (hi : IntsAt w b m) (hc : Cur 47 w g n) :
    Calls Tryd.prog 27 #[.pointer (some ⟨g, 0, none⟩), .slice (some ⟨b, 0, none⟩) m m] w (Drawn 47 I64 g n w) := by
  have HI := Lib.hid hi
  clear hi
  go_enter Tryd.func27, Tryd.ntmps27
  go_wp2_with fail
  refine (below_any g n _ _ (by omega) (by omega) hc).mono ?_
  rintro e w1 ⟨x, rfl, ⟨hx0, hx1⟩, hcur, hch⟩
  obtain ⟨j, rfl⟩ : ∃ j : Nat, x = (j : Int) := ⟨x.toNat, by omega⟩
  obtain ⟨v, hR, hv⟩ := HI.out j (by omega)
  have HR := Lib.hid hR
  clear hR
  have hv' : w1.cell? ⟨b, j, none⟩ = some (.int .i64 v) := (hch.cell (p := ⟨b, j, none⟩) hl hb).trans hv
  have HC := Lib.hid (And.intro hcur hch)
  clear hv hcur hch HI
  go_wp2
  go_ret
  exact ⟨_, rfl, HR.out, HC.out.1, HC.out.2⟩

theorem big_any (A : Option Addr) (n cap : Nat) (w : World) :
    Calls Tryd.prog 6 #[.slice A n cap] w fun e w' => e = .returned (.bool (decide (1048576 < (n : Int)))) ∧ w = w' := by
  go_enter Tryd.func6, Tryd.ntmps6
  go_wp2
  go_ret
  exact ⟨rfl, rfl⟩

end Go.Proofs.YtikibabknlpnkaaDoor
