/-
  The program's covers: the indexes of a cube as a number; are all cubes valid?
-/
import Derived.Test.YtjibjnkabfmgaaaICub
import Derived.Test.YtjibjnkabfmgaaaCovMath
namespace Go.Proofs.Ytjibjnkabfmgaaa
open Go.RowKit
set_option linter.unusedVariables false
set_option linter.unusedSimpArgs false

theorem or_pow (f : Nat → Bool) (i : Nat) (h : f i = true) : mkB f i ||| 2 ^ i = mkB f (i + 1) := by
  have := Nat.two_pow_add_eq_or_of_lt (mkB_lt f i) 1
  rw [Nat.mul_one] at this
  rw [Nat.or_comm, ← this]
  simp only [mkB, h, Bool.toNat_true, Nat.one_mul]
  omega
theorem hasB_nat (N X Y i : Nat) (hN : N ≤ 4) (hX : X < 2 ^ N) (hY : Y < 2 ^ N) (hv : andNot Y X = 0) (hi : i < 2 ^ N) : hasB N X Y i = hasN ((X : Int), (Y : Int)) i := by
  unfold hasB hasN
  rw [cubeB_nat hN hX hY, hv, decide_eq_true (by rw [Int.toNat_natCast, pow_cast]; omega : 0 ≤ (i : Int) ∧ (i : Int) ≤ 2 ^ (N : Int).toNat - 1)]
  rfl

set_option maxHeartbeats 3200000 in
theorem implBits_any (N X Y : Nat) (w : World) (hN : N ≤ 4) (hX : X < 2 ^ N) (hY : Y < 2 ^ N) (hv : andNot Y X = 0) :
    Calls Try.prog 43 #[.int .i64 N, .agg #[.int .i64 X, .int .i64 Y]] w fun e w' => e = .returned (.int .i64 (cubN N ((X : Int), (Y : Int)) : Nat)) ∧ Below w.heap.size w w' := by
  have h16 := pow16 N hN
  have e1 := shl_one N hN
  have hf : Fit (Y : Int) := fit_nat Y (by omega)
  unfold cubN
  go_enter Try.func43, Try.ntmps43
  go_wp2
  obtain ⟨W, hW⟩ : ∃ W, W = w.alloc (.cells #[.int .i64 X, .int .i64 Y] 32) := ⟨_, rfl⟩
  rw [← hW]
  have g := eqbox1 hW
  have c0 : W.cell? ⟨w.heap.size, 0, none⟩ = some (.int .i64 X) := box_cell g.1 0 _ rfl
  have c1 : W.cell? ⟨w.heap.size, 1, none⟩ = some (.int .i64 Y) := box_cell g.1 1 _ rfl
  have HW := Lib.hid g.2
  clear hW g
  (try rw [e1.trans (pow_cast N).symm])
  go_loopw [5, 6, 9] (fun t _ v wr => ∃ i : Nat, i ≤ 2 ^ N ∧ v = .int .i64 i ∧ t = .int .i64 (mkB (hasN ((X : Int), (Y : Int))) i : Nat) ∧ Below W.heap.size W wr) (fun _ _ v _ => 2 ^ N - (intOf v).toNat)
  case atStart => exact ⟨0, Nat.zero_le _, rfl, rfl, Below.refl _ _⟩
  case round =>
    obtain ⟨i, hi, rfl, rfl, hb⟩ := hrel
    replace c0 := keep hb c0
    replace c1 := keep hb c1
    have HB := Lib.hid hb
    clear hb
    by_cases hlt : i < 2 ^ N
    · have t1 : (i : Int) < 2 ^ N := by rw [pow_cast]; omega
      have hh := hasB_nat N X Y i hN hX hY hv hlt
      cases hd : (hasN ((X : Int), (Y : Int))) i
      · rw [hd] at hh
        have HD := Lib.hid hd
        have HH := Lib.hid hh
        clear hd hh
        go_wp2_with fail
        refine (implHas_at N X Y i _ hf HH.out).mono ?_
        rintro e w2 ⟨rfl, hb⟩
        have R := Lib.hid (bThen HB.out hb)
        clear hb
        go_wp2
        go_roundw
        case rel => exact ⟨i + 1, by omega, by go_num, by rw [none_step (hasN ((X : Int), (Y : Int))) i HD.out], R.out⟩
        case measure => simp [intOf]; omega
      · rw [hd] at hh
        have hm := mkB_le (hasN ((X : Int), (Y : Int))) i (by omega)
        have p16 : 2 ^ i ≤ 65536 := by
          have : 2 ^ i ≤ 2 ^ 16 := Nat.pow_le_pow_right (by omega) (by omega)
          exact this
        have ev : bits .or .i64 ((mkB (hasN ((X : Int), (Y : Int))) i : Nat) : Int) ((2 : Int) ^ i) = ((mkB (hasN ((X : Int), (Y : Int))) (i + 1) : Nat) : Int) := by rw [pow_cast, i64_or _ _ (by omega) (by omega), or_pow (hasN ((X : Int), (Y : Int))) i hd]
        have es : wrap64 ((2 : Int) ^ i) = (2 : Int) ^ i := by rw [pow_cast]; exact w64_nat _ (by omega)
        have HH := Lib.hid hh
        obtain ⟨m, hm1⟩ : ∃ m, mkB (hasN ((X : Int), (Y : Int))) (i + 1) = m := ⟨_, rfl⟩
        rw [hm1] at ev
        have HM := Lib.hid hm1
        clear hd hh hm1
        go_wp2_with fail
        refine (implHas_at N X Y i _ hf HH.out).mono ?_
        rintro e w2 ⟨rfl, hb⟩
        have R := Lib.hid (bThen HB.out hb)
        clear hb
        go_wp2
        go_roundw
        case rel => exact ⟨i + 1, by omega, by go_num, by rw [HM.out], R.out⟩
        case measure => simp [intOf]; omega
    · have t1 : ¬ (i : Int) < 2 ^ N := by rw [pow_cast]; omega
      obtain rfl : i = 2 ^ N := by omega
      go_wp2
      go_ret
      exact ⟨rfl, bThen HW.out HB.out⟩

theorem implBits_at (N X Y : Nat) {z : Nat} (w : World) (hN : N ≤ 4) (hX : X < 2 ^ N) (hY : Y < 2 ^ N) (hv : andNot Y X = 0) (hz : cubN N ((X : Int), (Y : Int)) = z) :
    Calls Try.prog 43 #[.int .i64 N, .agg #[.int .i64 X, .int .i64 Y]] w fun e w' => e = .returned (.int .i64 (z : Nat)) ∧ Below w.heap.size w w' := by
  subst hz; exact implBits_any N X Y w hN hX hY hv

theorem SmallM.wide {L : List (Int × Int)} (h : SmallM L) : Wide L := fun z hz => by
  obtain ⟨X, Y, rfl, hX, hY⟩ := h z hz
  exact ⟨fit_nat X (by omega), fit_nat Y (by omega)⟩

set_option maxHeartbeats 3200000 in
theorem implCovOk_any (n : Int) (A : Option Addr) (c : Nat) (L : List (Int × Int)) (w : World) (hL : RowP w A L.length L) (hW : Wide L) :
    Calls Try.prog 42 #[.int .i64 n, .slice A L.length c] w fun e w' => e = .returned (.bool (coverB n L)) ∧ Below w.heap.size w w' := by
  have hm := hL.1
  unfold maxLen at hm
  by_cases h0 : 0 ≤ n
  · by_cases h4 : n ≤ 4
    · unfold coverB
      rw [decide_eq_true (⟨h0, h4⟩ : 0 ≤ n ∧ n ≤ 4)]
      have t0 : ¬ n < 0 := by omega
      have t4 : ¬ 4 < n := by omega
      by_cases h2 : L.length ≤ 81
      · rw [decide_eq_true h2]
        have t1 : ¬ (81 : Int) < (L.length : Int) := by omega
        go_enter Try.func42, Try.ntmps42
        go_wp2
        go_loopw [6, 20] (fun _ v wr => ∃ k : Nat, k ≤ L.length ∧ v = .int .i64 k ∧ (L.take k).all (fun x => cubeB n x.1 x.2) = true ∧ Below w.heap.size w wr) (fun _ v _ => L.length - (intOf v).toNat)
        case atStart => exact ⟨0, Nat.zero_le _, rfl, rfl, Below.refl _ _⟩
        case round =>
          obtain ⟨k, hk, rfl, hall, hb⟩ := hrel
          have HB := Lib.hid hb
          have HA := Lib.hid hall
          by_cases hlt : k < L.length
          · obtain ⟨b, o, rfl, _, x0, x1⟩ := (hL.below hb).2.2 k hlt
            have hf := (hW _ (List.getElem_mem hlt)).2
            clear hb hall
            cases hc : cubeB n L[k].1 L[k].2
            · have hfin := all_false_take n L k hlt hc
              have HF := Lib.hid hfin
              have HC := Lib.hid hc
              clear hc hfin
              go_wp2_with fail
              refine (implCube_at _ _ _ _ hf HC.out).mono ?_
              rintro e w2 ⟨rfl, hb2⟩
              have g := box1 hb2
              have R := Lib.hid (bThen HB.out g.2)
              clear hb2 g
              go_wp2
              go_ret
              exact ⟨by rw [HF.out]; rfl, R.out⟩
            · have hst := coverB_take n L k hlt
              rw [HA.out, hc] at hst
              have HS := Lib.hid hst
              have HC := Lib.hid hc
              clear hc hst
              go_wp2_with fail
              refine (implCube_at _ _ _ _ hf HC.out).mono ?_
              rintro e w2 ⟨rfl, hb2⟩
              have g := box1 hb2
              have R := Lib.hid (bThen HB.out g.2)
              clear hb2 g
              go_wp2
              go_roundw
              case rel => exact ⟨k + 1, by omega, by go_num, HS.out, R.out⟩
              case measure => simp [intOf]; omega
          · obtain rfl : k = L.length := by omega
            rw [List.take_length] at HA
            clear hb hall
            go_wp2
            go_ret
            exact ⟨by rw [HA.out]; rfl, HB.out⟩
      · rw [decide_eq_false h2]
        have t1 : (81 : Int) < (L.length : Int) := by omega
        go_enter Try.func42, Try.ntmps42
        go_wp2
        go_ret
        exact ⟨by simp, Below.refl _ _⟩
    · unfold coverB
      rw [decide_eq_false (by omega : ¬ (0 ≤ n ∧ n ≤ 4))]
      have t0 : ¬ n < 0 := by omega
      have t4 : 4 < n := by omega
      go_enter Try.func42, Try.ntmps42
      go_wp2
      go_ret
      exact ⟨by simp, Below.refl _ _⟩
  · unfold coverB
    rw [decide_eq_false (by omega : ¬ (0 ≤ n ∧ n ≤ 4))]
    have t0 : n < 0 := by omega
    go_enter Try.func42, Try.ntmps42
    go_wp2
    go_ret
    exact ⟨by simp, Below.refl _ _⟩
theorem implCovOk_at (n : Int) (A : Option Addr) (c : Nat) (L : List (Int × Int)) {d : Bool} (w : World) (hL : RowP w A L.length L) (hW : Wide L) (h : coverB n L = d) :
    Calls Try.prog 42 #[.int .i64 n, .slice A L.length c] w fun e w' => e = .returned (.bool d) ∧ Below w.heap.size w w' := by
  subst h; exact implCovOk_any n A c L w hL hW
end Go.Proofs.Ytjibjnkabfmgaaa
