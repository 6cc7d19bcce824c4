/-
  The contract of impl.spreadIndex.
-/
import Derived.Test.YtiikadlcoijcfaaDoorShrMath
namespace Go.Proofs.YtiikadlcoijcfaaDoor
open Go.RowKit
set_option linter.unusedVariables false
set_option linter.unusedSimpArgs false

theorem map_getD (L : List Nat) (j : Nat) (h : j < L.length) : (L.map fun k : Nat => (k : Int)).getD j 0 = ((L.getD j 0 : Nat) : Int) := by
  simp [h]
theorem shl_bit (x k : Nat) (hx : x ≤ 1) (hk : k ≤ 3) : IntKind.i64.wrap ((x : Int) * 2 ^ k) = ((x * 2 ^ k : Nat) : Int) := by
  have e : (x : Int) * 2 ^ k = ((x * 2 ^ k : Nat) : Int) := by simp
  have h8 : 2 ^ k ≤ 2 ^ 3 := Nat.pow_le_pow_right (by omega) hk
  have h1 : x * 2 ^ k ≤ 1 * 8 := Nat.mul_le_mul hx h8
  rw [e, wrap64_small _ (by omega)]
theorem bit_le1 (i p : Nat) : (i.testBit p).toNat ≤ 1 := by cases i.testBit p <;> simp

set_option maxHeartbeats 3200000 in
theorem spread_any (N i : Nat) (L : List Nat) (B : Nat) (v : Value) (w : World) (hL : Inp N L) (hi : i < 16) (ho : OwnsI w B v (L.map fun k : Nat => (k : Int))) :
    Calls Tryd.prog 38 #[.int .i64 i, v] w fun e w' => e = .returned (.int .i64 (spr i L L.length : Nat)) ∧ Below w.heap.size w w' := by
  have hl4 := hL.len
  obtain ⟨A, c, rfl, hA⟩ := ho.shape
  rw [List.length_map] at hA ⊢
  have HA := Lib.hid hA
  have HL := Lib.hid hL
  clear hA ho hL
  go_enter Tryd.func38, Tryd.ntmps38
  go_wp2
  go_loopw [5, 6, 7, 10] (fun s _ _ p wr => ∃ k : Nat, k ≤ L.length ∧ p = .int .i64 k ∧ s = .int .i64 (spr i L k : Nat) ∧ Below w.heap.size w wr) (fun _ _ _ p _ => L.length - (intOf p).toNat)
  case atStart => exact ⟨0, Nat.zero_le _, rfl, rfl, Below.refl _ _⟩
  case round =>
    obtain ⟨k, hk, rfl, rfl, hbel⟩ := hrel
    by_cases hlt : k < L.length
    · obtain ⟨g, rfl, h1, _⟩ := HA.out k hlt
      rw [map_getD L k hlt] at h1
      have c1 := (hbel.cell (p := ⟨g, k, none⟩) (World.block_lt_of_cell? w _ h1)).trans h1
      have HB := Lib.hid hbel
      have h3 := HL.out.at3 k (by omega)
      have ev1 := bit_and1 i k (by omega) (by omega)
      have hx1 := bit_le1 i k
      have ev2 := shl_bit _ _ hx1 h3
      have hor := HL.out.or i k hi hlt
      have hle := HL.out.le i (k + 1) hi (by omega)
      have hle0 := HL.out.le i k hi (by omega)
      obtain ⟨q, hq⟩ : ∃ q, L.getD k 0 = q := ⟨_, rfl⟩
      rw [hq] at c1 h3 ev2 hor
      obtain ⟨x, hx⟩ : ∃ x, (i.testBit k).toNat = x := ⟨_, rfl⟩
      rw [hx] at ev1 ev2 hor hx1
      have hy : x * 2 ^ q ≤ 8 := by
        have h8 : 2 ^ q ≤ 2 ^ 3 := Nat.pow_le_pow_right (by omega) h3
        exact Nat.le_trans (Nat.mul_le_mul hx1 h8) (by decide)
      obtain ⟨y, hyy⟩ : ∃ y, x * 2 ^ q = y := ⟨_, rfl⟩
      rw [hyy] at hor hy ev2
      have ev3 : bits .or .i64 ((spr i L k : Nat) : Int) ((y : Nat) : Int) = ((spr i L (k + 1) : Nat) : Int) := by rw [i64_or _ _ (by omega) (by omega), hor]
      have HQ := Lib.hid hq
      clear h1 HA hbel hor hyy hx hq
      go_wp2
      go_roundw
      case rel => exact ⟨k + 1, by omega, by go_num, rfl, HB.out⟩
      case measure => simp [intOf]; omega
    · have HB := Lib.hid hbel
      obtain rfl : k = L.length := by omega
      clear hbel
      go_wp2
      go_ret
      exact ⟨rfl, HB.out⟩
end Go.Proofs.YtiikadlcoijcfaaDoor
