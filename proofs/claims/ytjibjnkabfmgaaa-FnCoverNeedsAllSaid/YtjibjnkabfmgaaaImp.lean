/-
  Implicants.
-/
import Derived.Test.YtjibjnkabfmgaaaCovA
namespace Go.Proofs.Ytjibjnkabfmgaaa
open Go.RowKit
set_option linter.unusedVariables false
set_option linter.unusedSimpArgs false

/-- No index below m that the cube contains is false in the table. -/
def impP (B X Y m : Nat) : Bool := (List.range m).all fun i => !(decide (i &&& X = Y)) || B.testBit i
theorem impP_step (B X Y m : Nat) : impP B X Y (m + 1) = (impP B X Y m && (!(decide (m &&& X = Y)) || B.testBit m)) := by
  unfold impP; rw [List.range_succ, List.all_append]; simp
theorem impP_false (B X Y m n : Nat) (hm : m < n) (h : impP B X Y (m + 1) = false) : impP B X Y n = false := by
  unfold impP at *
  obtain ⟨i, hi, h⟩ := List.all_eq_false.1 h
  exact List.all_eq_false.2 ⟨i, List.mem_range.2 (by have := List.mem_range.1 hi; omega), h⟩
/-- The cube is an implicant of the table. -/
def impB (N B X Y : Nat) : Bool := impP B X Y (2 ^ N)

set_option maxHeartbeats 6400000 in
theorem specImp_any (N B X Y : Nat) (w : World) (hN : N ≤ 4) (hB : B ≤ 65535) (hX : X ≤ 15) (hY : Y ≤ 15) :
    Calls Try.prog 50 #[.agg #[.int .i64 N, .int .i64 B], .agg #[.int .i64 X, .int .i64 Y]] w fun e w' => e = .returned (.bool (impB N B X Y)) ∧ Below w.heap.size w w' := by
  have h16 := pow16 N hN
  have e1 := shl_one N hN
  go_enter Try.func50, Try.ntmps50
  go_wp2
  obtain ⟨W, hW⟩ : ∃ W, W = (w.alloc (.cells #[.int .i64 N, .int .i64 B] 25)).alloc (.cells #[.int .i64 X, .int .i64 Y] 32) := ⟨_, rfl⟩
  rw [← hW]
  have g := eqbox2 hW
  have c0 : W.cell? ⟨w.heap.size, 0, none⟩ = some (.int .i64 N) := box_cell g.1 0 _ rfl
  have c1 : W.cell? ⟨w.heap.size, 1, none⟩ = some (.int .i64 B) := box_cell g.1 1 _ rfl
  have d0 : W.cell? ⟨w.heap.size + 1, 0, none⟩ = some (.int .i64 X) := box_cell g.2.1 0 _ rfl
  have d1 : W.cell? ⟨w.heap.size + 1, 1, none⟩ = some (.int .i64 Y) := box_cell g.2.1 1 _ rfl
  have HW := Lib.hid g.2.2
  clear hW g
  go_loopw [5] (fun v wr => ∃ i : Nat, v = .int .i64 i ∧ i ≤ 2 ^ N ∧ impP B X Y i = true ∧ Below W.heap.size W wr) (fun v _ => 2 ^ N - (intOf v).toNat)
  case atStart => exact ⟨0, rfl, Nat.zero_le _, rfl, Below.refl _ _⟩
  case round =>
    obtain ⟨i, rfl, hi, hp, hb⟩ := hrel
    replace c0 := keep hb c0
    replace c1 := keep hb c1
    replace d0 := keep hb d0
    replace d1 := keep hb d1
    have HB := Lib.hid hb
    have HP := Lib.hid hp
    clear hb hp
    by_cases hlt : i < 2 ^ N
    · have t1 : (i : Int) < 2 ^ N := by rw [pow_cast]; omega
      have ev := i64_and i X (by omega) (by omega)
      have ev1 := bit_and1 B i hB (by omega)
      have hst := impP_step B X Y i
      rw [HP.out, Bool.true_and] at hst
      obtain ⟨q, hq⟩ : ∃ q, i &&& X = q := ⟨_, rfl⟩
      rw [hq] at ev hst
      obtain ⟨tb, htb⟩ : ∃ tb, B.testBit i = tb := ⟨_, rfl⟩
      rw [htb] at ev1 hst
      have HST := Lib.hid hst
      clear hq htb hst
      by_cases hqY : q = Y
      · have t3 : ((q : Int) == (Y : Int)) = true := by simp [hqY]
        cases tb
        · have hf : impB N B X Y = false := impP_false B X Y i (2 ^ N) hlt (by rw [HST.out]; simp [hqY])
          have HF := Lib.hid hf
          simp only [Bool.toNat_false] at ev1
          clear hf hqY
          go_wp2
          go_ret
          exact ⟨by rw [HF.out]; rfl, bThen HW.out HB.out⟩
        · have hn : impP B X Y (i + 1) = true := by rw [HST.out]; simp
          have HN := Lib.hid hn
          simp only [Bool.toNat_true] at ev1
          clear hn hqY
          go_wp2
          go_roundw
          case rel => exact ⟨i + 1, by go_num, by omega, HN.out, HB.out⟩
          case measure => simp [intOf]; omega
      · have t3 : ((q : Int) == (Y : Int)) = false := by simp; omega
        have hn : impP B X Y (i + 1) = true := by rw [HST.out]; simp [hqY]
        have HN := Lib.hid hn
        clear hn hqY
        go_wp2
        go_roundw
        case rel => exact ⟨i + 1, by go_num, by omega, HN.out, HB.out⟩
        case measure => simp [intOf]; omega
    · have t1 : ¬ (i : Int) < 2 ^ N := by rw [pow_cast]; omega
      obtain rfl : i = 2 ^ N := by omega
      go_wp2
      go_ret
      exact ⟨by rw [show impB N B X Y = true from HP.out]; rfl, bThen HW.out HB.out⟩
end Go.Proofs.Ytjibjnkabfmgaaa
