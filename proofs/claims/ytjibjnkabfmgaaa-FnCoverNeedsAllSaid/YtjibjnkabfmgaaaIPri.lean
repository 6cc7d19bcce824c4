/-
  The prime implicants, as the program finds them.
-/
import Derived.Test.YtjibjnkabfmgaaaIImp
namespace Go.Proofs.Ytjibjnkabfmgaaa
open Go.RowKit
set_option linter.unusedVariables false
set_option linter.unusedSimpArgs false

theorem implTabOk_at (n b : Int) {v : Bool} (w : World) (h : okB n b = v) : Calls Try.prog 40 #[.agg #[.int .i64 n, .int .i64 b]] w fun e w' => e = .returned (.bool v) ∧ Below w.heap.size w w' := by
  subst h; exact implOk_any n b w
theorem implPrime_at (N B X Y : Nat) {d : Bool} (w : World) (hN : N ≤ 4) (hB : B ≤ 65535) (hX : X < 2 ^ N) (hY : Y < 2 ^ N) (h : primeB N B X Y = d) :
    Calls Try.prog 41 #[.agg #[.int .i64 N, .int .i64 B], .agg #[.int .i64 X, .int .i64 Y]] w fun e w' => e = .returned (.bool d) ∧ Below w.heap.size w w' := by
  subst h; exact implPrime_any N B X Y w hN hB hX hY
theorem implPri_no (n b : Int) (w : World) (hok : okB n b = false) :
    Calls Try.prog 15 #[T n b] w fun e w' => ∃ v, e = .returned v ∧ OwnsCube w' w.heap.size v [] ∧ Below w.heap.size w w' := by
  unfold T
  go_enter Try.func15, Try.ntmps15
  go_wp2_with fail
  refine (implTabOk_at n b _ hok).mono ?_
  rintro e w1 ⟨rfl, hb⟩
  have g := box1 hb
  have R := Lib.hid g.2
  clear hb g
  go_wp2
  go_ret
  exact ⟨_, rfl, ownR_nil _ _ _ _ _, R.out⟩

set_option maxHeartbeats 6400000 in
theorem implPri_yes (N B : Nat) (w : World) (hok : okB N B = true) (hN : N ≤ 4) (hB : B ≤ 65535) :
    Calls Try.prog 15 #[T N B] w fun e w' => ∃ v, e = .returned v ∧ OwnsCube w' w.heap.size v (primesL N B) ∧ Below w.heap.size w w' := by
  obtain ⟨i0, hi, hz0, hz1, hz2⟩ := info_parts infoCube
  have h16 := pow16 N hN
  have e1 := shl_one N hN
  have hmul : 2 ^ N * 2 ^ N ≤ 256 := Nat.le_trans (Nat.mul_le_mul h16 h16) (by decide)
  unfold T
  go_enter Try.func15, Try.ntmps15
  go_wp2_with fail
  refine (implTabOk_at N B _ hok).mono ?_
  rintro e W ⟨rfl, hb⟩
  have g := box1 hb
  have d0 : W.cell? ⟨w.heap.size, 0, none⟩ = some (.int .i64 N) := box_cell g.1 0 _ rfl
  have d1 : W.cell? ⟨w.heap.size, 1, none⟩ = some (.int .i64 B) := box_cell g.1 1 _ rfl
  have HWW := Lib.hid g.2
  have hsz := g.2.size
  clear hb g
  go_wp2
  (try rw [e1.trans (pow_cast N).symm])
  go_loopw [3, 13] (fun v x wr => ∃ X : Nat, X ≤ 2 ^ N ∧ x = .int .i64 X ∧ OwnsCube wr W.heap.size v (priA N B X) ∧ Below W.heap.size W wr) (fun _ x _ => 2 ^ N - (intOf x).toNat)
  case atStart => exact ⟨0, Nat.zero_le _, rfl, ownR_nil _ _ _ _ _, Below.refl _ _⟩
  case round =>
    obtain ⟨X, hX, rfl, hown, hb⟩ := hrel
    have HO := Lib.hid hown
    have HB := Lib.hid hb
    clear hown hb
    by_cases hlt : X < 2 ^ N
    · have t1 : (X : Int) < 2 ^ N := by rw [pow_cast]; omega
      have hXX : (X + 1) * 2 ^ N ≤ 2 ^ N * 2 ^ N := Nat.mul_le_mul_right _ hlt
      have hAl := priA_len N B X
      rw [Nat.succ_mul] at hXX
      go_wp2
      go_loopw [3, 18] (fun v y wq => ∃ Y : Nat, Y ≤ X + 1 ∧ y = .int .i64 Y ∧ OwnsCube wq W.heap.size v (priA N B X ++ priR N B X Y) ∧ Below W.heap.size W wq) (fun _ y _ => X + 1 - (intOf y).toNat)
      case atStart => exact ⟨0, Nat.zero_le _, rfl, by simpa [priR] using HO.out, HB.out⟩
      case round =>
        obtain ⟨Y, hY, rfl, hown, hb⟩ := hrel
        have HO2 := Lib.hid hown
        have HB2 := Lib.hid hb
        have y0 := keep hb d0
        have y1 := keep hb d1
        have hsw : W.heap.size ≤ wr.heap.size := hb.size
        clear hown hb
        by_cases hYl : Y < X + 1
        · have t2 : (Y : Int) < (X : Int) + 1 := by omega
          have l0 : w.heap.size < wr.heap.size := World.block_lt_of_cell? _ _ y0
          obtain ⟨d, hd⟩ : ∃ d, primeB N B X Y = d := ⟨_, rfl⟩
          have HD := Lib.hid hd
          clear hd
          cases d
          · go_wp2_with fail
            refine (implPrime_at N B X Y _ hN hB (by omega) (by omega) HD.out).mono ?_
            rintro e w2 ⟨rfl, hb⟩
            have g := box1 hb
            have R := Lib.hid (And.intro (OwnsR.below HO2.out g.2) (bThen HB2.out g.2))
            clear hb g
            go_wp2
            go_roundw
            case rel => exact ⟨Y + 1, by omega, by go_num, by rw [priR_no N B X Y HD.out]; exact R.out.1, R.out.2⟩
            case measure => simp [intOf]; omega
          · go_wp2_with fail
            refine (implPrime_at N B X Y _ hN hB (by omega) (by omega) HD.out).mono ?_
            rintro e w2 ⟨rfl, hb⟩
            have g := box1 hb
            have z0 : w2.cell? ⟨wr.heap.size, 0, none⟩ = some (.int .i64 X) := box_cell g.1 0 _ rfl
            have z1 : w2.cell? ⟨wr.heap.size, 1, none⟩ = some (.int .i64 Y) := box_cell g.1 1 _ rfl
            have hs2 : W.heap.size ≤ w2.heap.size := Nat.le_trans hsw g.2.size
            have HOW := Lib.hid (OwnsR.below HO2.out g.2)
            have HBW := Lib.hid (bThen HB2.out g.2)
            clear hb g
            have hRl := priR_len N B X Y
            obtain ⟨L, hL⟩ : ∃ L, priA N B X ++ priR N B X Y = L := ⟨_, rfl⟩
            have hLl : L.length ≤ 512 := by rw [← hL, List.length_append]; omega
            have hst2 : priA N B X ++ priR N B X (Y + 1) = L ++ [((X : Int), (Y : Int))] := by rw [priR_yes N B X Y HD.out, ← List.append_assoc, hL]
            rw [hL] at HOW
            have HST := Lib.hid hst2
            clear hst2 hL hRl
            go_wp2_with (refine wpList_append_lies _ rfl _ _ 28 (by rfl) W.heap.size 32 i0 _ 2 16 Try.underlying28 hi hz0 hz1 hz2 rfl (by omega) u3 L.length _ (by rfl) (World.ownsRow.alloc HOW.out _) ⟨w2.heap.size, 0, none⟩ 1 1 [.int .i64 X, .int .i64 Y] (by rfl) (by rfl) (World.news_of_block (heap_alloc_new w2 _)) (by simp [Value.oneCell']) (by omega) (by unfold maxLen; omega) (by omega) (by simp; omega) (w2.heap.size + 1) (by simp) ?_; intro gg cap w3 hown2 hgrow2 hat2 hlt2)
            have RR := ownR_add (x := ((X : Int), (Y : Int))) HOW.out hs2 HBW.out (bAlloc (Below.refl _ _) (Nat.le_refl _) _) hgrow2 hown2
            have HR := Lib.hid RR
            clear RR hown2 hgrow2 hat2 hlt2
            go_wp2
            go_roundw
            case rel => exact ⟨Y + 1, by omega, by go_num, by rw [HST.out]; exact HR.out.1, HR.out.2⟩
            case measure => simp [intOf]; omega
        · obtain rfl : Y = X + 1 := by omega
          have t2 : ¬ ((X + 1 : Nat) : Int) < (X : Int) + 1 := by omega
          go_wp2
          go_roundw
          case rel => exact ⟨X + 1, by omega, by go_num, by rw [priA_next N B X hN hlt]; exact HO2.out, HB2.out⟩
          case measure => simp [intOf]; omega
    · obtain rfl : X = 2 ^ N := by omega
      have t1 : ¬ (((2 ^ N : Nat) : Int)) < 2 ^ N := by rw [pow_cast]; omega
      go_wp2
      go_ret
      exact ⟨_, rfl, HO.out.mono hsz, bThen HWW.out HB.out⟩
end Go.Proofs.Ytjibjnkabfmgaaa
