/-
  The contracts of l01PickInt, l01Number and big.
-/
import Derived.Test.YtedamhkcblemdaaDrA
namespace Go.Proofs.Ytedamhkcblemdaa
open Go.RowKit

/-- An int of 64 bits. -/
def I64 (x : Int) : Prop := -9223372036854775808 ≤ x ∧ x ≤ 9223372036854775807
/-- m integers can be read from offset 0 of block b on. -/
def IntsAt (w : World) (b m : Nat) : Prop := ∀ j, j < m → ∃ v : Int, I64 v ∧ w.cell? ⟨b, j, none⟩ = some (.int .i64 v)

set_option maxHeartbeats 400000 in
theorem pickInt_any (g n b m : Nat) (w : World) (hm : 0 < m) (hm2 : m ≤ 1000) (hb : b ≠ g) (hl : b < w.heap.size) (hi : IntsAt w b m) (hc : Cur 105 w g n) :
    Calls Try.prog 96 #[.pointer (some ⟨g, 0, none⟩), .slice (some ⟨b, 0, none⟩) m m] w (Drawn 105 I64 g n w) := by
  have HI := Lib.hid hi
  clear hi
  go_enter Try.func96, Try.ntmps96
  go_wp2_with fail
  refine (below_any g n _ _ (by omega) (by omega) hc).mono ?_
  rintro e w1 ⟨x, rfl, ⟨hx0, hx1⟩, hcur, hch⟩
  obtain ⟨j, rfl⟩ : ∃ j : Nat, x = (j : Int) := ⟨x.toNat, by omega⟩
  obtain ⟨v, hR, hv⟩ := HI.out j (by omega)
  have HR := Lib.hid hR
  clear hR
  have hv' : w1.cell? ⟨b, j, none⟩ = some (.int .i64 v) := (hch.cell (p := ⟨b, j, none⟩) hl hb).trans hv
  have HC := Lib.hid (And.intro hcur hch)
  clear hv hcur hch HI
  go_wp2
  go_ret
  exact ⟨_, rfl, HR.out, HC.out.1, HC.out.2⟩

set_option maxRecDepth 100000 in
set_option maxHeartbeats 400000 in
theorem number_any (g n : Nat) (w : World) (hc : Cur 105 w g n) :
    Calls Try.prog 42 #[.pointer (some ⟨g, 0, none⟩)] w (Drawn 105 I64 g n w) := by
  go_enter Try.func42, Try.ntmps42
  go_wp2_with fail
  refine (below_any g n _ _ (by omega) (by omega) hc).mono ?_
  rintro e w1 ⟨x, rfl, ⟨hx0, hx1⟩, hcur, hch⟩
  have HC := Lib.hid (And.intro hcur hch)
  clear hcur hch
  rcases (show x = 0 ∨ x = 1 ∨ 2 ≤ x from by omega) with h | h | h
  · have e0 : (x == 0) = true := by simp [h]
    go_wp2_with fail
    have hlt := HC.out.1.lt
    refine (pickInt_any g n w1.heap.size 10 _ (by omega) (by omega) (by omega) (by simp) ?_ (HC.out.1.keep ((Below.refl _ _).alloc (Nat.le_refl _) _))).mono ?_
    · intro j hj
      rw [World.cell?_alloc_at _ _ _ _ rfl]
      match j, hj with
      | 0, _ | 1, _ | 2, _ | 3, _ | 4, _ | 5, _ | 6, _ | 7, _ | 8, _ | 9, _ => exact ⟨_, by unfold I64; omega, rfl⟩
    rintro e w2 ⟨y, rfl, hy, hcur2, hch2⟩
    have HY := Lib.hid hy
    clear hy
    go_wp2
    go_ret
    exact ⟨_, rfl, HY.out, hcur2, (HC.out.2.alloc _).trans hch2⟩
  · have e0 : (x == 0) = false := by simp [h]
    have e1 : (x == 1) = true := by simp [h]
    go_wp2_with fail
    refine (below_any g n _ _ (by omega) (by omega) HC.out.1).mono ?_
    rintro e w2 ⟨y, rfl, ⟨hy0, hy1⟩, hcur2, hch2⟩
    go_wp2
    go_ret
    exact ⟨_, rfl, ⟨by omega, by omega⟩, hcur2, HC.out.2.trans hch2⟩
  · have e0 : (x == 0) = false := by simp; omega
    have e1 : (x == 1) = false := by simp; omega
    go_wp2_with fail
    refine (below_any g n _ _ (by omega) (by omega) HC.out.1).mono ?_
    rintro e w2 ⟨y, rfl, ⟨hy0, hy1⟩, hcur2, hch2⟩
    go_wp2
    go_ret
    exact ⟨_, rfl, ⟨by omega, by omega⟩, hcur2, HC.out.2.trans hch2⟩

theorem big_any (A : Option Addr) (n cap : Nat) (w : World) :
    Calls Try.prog 10 #[.slice A n cap] w fun e w' => e = .returned (.bool (decide (1048576 < (n : Int)))) ∧ w = w' := by
  go_enter Try.func10, Try.ntmps10
  go_wp2
  go_ret
  exact ⟨rfl, rfl⟩

end Go.Proofs.Ytedamhkcblemdaa
