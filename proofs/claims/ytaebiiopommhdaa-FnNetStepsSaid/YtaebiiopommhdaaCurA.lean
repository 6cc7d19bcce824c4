/-
  The contracts of the drawing functions over a cursor.
-/
import Derived.Test.YtaebiiopommhdaaRows
import Derived.Test.YtaebiiopommhdaaCurMath
import Derived.WalkKit
import Derived.WalkSpells
import Derived.WalkLawsBesides
import Derived.Deep.QuietTactic
import Derived.BigQuiet
namespace Go.Proofs.Ytaebiiopommhdaa
open Go.RowKit

set_option maxHeartbeats 400000 in
theorem byte_end (g n cap : Nat) (A : Option Addr) (i h : Int) (w : World) (hg : w.heap[g]? = some (.cells #[.slice A n cap, .int .i64 i, .int .i64 h] 85 (0, 0))) (hin : (n : Int) ≤ i) (hi0 : 0 ≤ i) (hin' : i ≤ n) (hc : Code w g A n) :
    Calls Try.prog 69 #[.pointer (some ⟨g, 0, none⟩)] w (Drawn 85 (fun x => 0 ≤ x ∧ x < 256) g n w) := by
  have c0 : w.cell? ⟨g, 0, none⟩ = some (.slice A n cap) := cell_of_row w g 0 _ _ _ hg
  have c1 : w.cell? ⟨g, 1, none⟩ = some (.int .i64 i) := cell_of_row w g 1 _ _ _ hg
  have c2 : w.cell? ⟨g, 2, none⟩ = some (.int .i64 h) := cell_of_row w g 2 _ _ _ hg
  have f2 : w.frozen? ⟨g, 2, none⟩ = false := frozen_of_row w g 2 _ _ hg
  have HG := Lib.hid hg
  clear hg
  go_enter Try.func69, Try.ntmps69
  go_wp2
  go_quiet (fail)
  go_wp2
  go_quiet (fail)
  go_wp2
  go_ret
  have hch : Chg g w (w.setCell ⟨g, 2, none⟩ (.int .i64 (wrap64 (wrap64 (h * 6364136223846793005) + 1442695040888963407)))) := (Chg.refl g w).set 2 _
  exact ⟨_, rfl, and255 _, Cur.mk_ (heap_setCell_same _ _ 2 _ _ _ HG.out) hi0 hin' hc ((hch.drewN _).drewN _), (hch.drewN _).drewN _⟩

set_option maxHeartbeats 800000 in
theorem byte_mid (g n cap b o j : Nat) (h x : Int) (w : World) (hg : w.heap[g]? = some (.cells #[.slice (some ⟨b, o, none⟩) n cap, .int .i64 j, .int .i64 h] 85 (0, 0))) (hin : j < n) (hb : b ≠ g)
    (hx : w.cell? ⟨b, o + j, none⟩ = some (.int .u8 x)) (hx0 : 0 ≤ x) (hx1 : x ≤ 255) (hc : Code w g (some ⟨b, o, none⟩) n) :
    Calls Try.prog 69 #[.pointer (some ⟨g, 0, none⟩)] w (Drawn 85 (fun x => 0 ≤ x ∧ x < 256) g n w) := by
  have hn := hc.1
  unfold maxLen at hn
  have c0 : w.cell? ⟨g, 0, none⟩ = some (.slice (some ⟨b, o, none⟩) n cap) := cell_of_row w g 0 _ _ _ hg
  have c1 : w.cell? ⟨g, 1, none⟩ = some (.int .i64 j) := cell_of_row w g 1 _ _ _ hg
  have c2 : w.cell? ⟨g, 2, none⟩ = some (.int .i64 h) := cell_of_row w g 2 _ _ _ hg
  have f1 : w.frozen? ⟨g, 1, none⟩ = false := frozen_of_row w g 1 _ _ hg
  have f2 : w.frozen? ⟨g, 2, none⟩ = false := frozen_of_row w g 2 _ _ hg
  have hx' : ∀ v, (w.setCell ⟨g, 2, none⟩ v).cell? ⟨b, o + j, none⟩ = some (.int .u8 x) := fun v => by
    rw [World.cell?_setCell_other w ⟨g, 2, none⟩ ⟨b, o + j, none⟩ v (by intro e; injection e; exact hb (Eq.symm (by assumption)))]; exact hx
  have HG := Lib.hid hg
  clear hg hx
  go_enter Try.func69, Try.ntmps69
  go_wp2
  go_quiet (fail)
  go_wp2
  go_quiet (fail)
  go_wp2
  go_quiet (fail)
  go_wp2
  go_ret
  refine ⟨_, rfl, and255 _, Cur.mk_ (heap_setCell_same _ _ 1 _ _ _ (heap_setCell_same _ _ 2 _ _ _ HG.out)) ?_ ?_ hc ?_, ?_⟩
  · omega
  · omega
  all_goals repeat (first | exact Chg.refl _ _ | apply Chg.drewN | apply Chg.set)

theorem byte_any (g n : Nat) (w : World) (hc : Cur 85 w g n) : Calls Try.prog 69 #[.pointer (some ⟨g, 0, none⟩)] w (Drawn 85 (fun x => 0 ≤ x ∧ x < 256) g n w) := by
  obtain ⟨A, cap, i, h, hg, h0, h1, hcode⟩ := hc
  by_cases hi : i < n
  · obtain ⟨j, rfl⟩ : ∃ j : Nat, i = (j : Int) := ⟨i.toNat, by omega⟩
    obtain ⟨b, o, rfl, hb, x, hx0, hx1, hx⟩ := hcode.2 j (by omega)
    exact byte_mid g n cap b o j h x w hg (by omega) (by omega) hx hx0 hx1 hcode
  · exact byte_end g n cap A i h w hg (by omega) h0 h1 hcode

set_option maxHeartbeats 400000 in
theorem below_any (g n : Nat) (m : Int) (w : World) (hm : 0 < m) (hm2 : m ≤ 2147483648) (hc : Cur 85 w g n) :
    Calls Try.prog 43 #[.pointer (some ⟨g, 0, none⟩), .int .i64 m] w (Drawn 85 (fun x => 0 ≤ x ∧ x < m) g n w) := by
  by_cases h : m ≤ 256
  · go_enter Try.func43, Try.ntmps43
    go_wp2_with fail
    refine (byte_any g n _ hc).mono ?_
    rintro e w1 ⟨x, rfl, hx, hcur, hch⟩
    go_wp2
    go_ret
    exact ⟨_, rfl, ⟨Int.emod_nonneg _ (by omega), Int.emod_lt_of_pos _ hm⟩, hcur, hch⟩
  · go_enter Try.func43, Try.ntmps43
    go_wp2_with fail
    refine (byte_any g n _ hc).mono ?_
    rintro e w1 ⟨x, rfl, hx, hcur1, hch1⟩
    go_wp2_with fail
    refine (byte_any g n _ hcur1).mono ?_
    rintro e w2 ⟨y, rfl, hy, hcur2, hch2⟩
    go_wp2_with fail
    refine (byte_any g n _ hcur2).mono ?_
    rintro e w3 ⟨z, rfl, hz, hcur3, hch3⟩
    go_wp2_with fail
    refine (byte_any g n _ hcur3).mono ?_
    rintro e w4 ⟨u, rfl, hu, hcur4, hch4⟩
    obtain ⟨hx0, hx1⟩ := hx
    obtain ⟨hy0, hy1⟩ := hy
    obtain ⟨hz0, hz1⟩ := hz
    obtain ⟨hu0, hu1⟩ := hu
    go_wp2
    go_ret
    exact ⟨_, rfl, ⟨Int.emod_nonneg _ (by omega), Int.emod_lt_of_pos _ hm⟩, hcur4, ((hch1.trans hch2).trans hch3).trans hch4⟩

/-- A post for a drawn truth value. -/
def DrawnB (T g n : Nat) (w : World) (e : Ending) (w' : World) : Prop := ∃ x : Bool, e = .returned (.bool x) ∧ Cur T w' g n ∧ Chg g w w'

theorem once_any (g n : Nat) (m : Int) (w : World) (hm : 0 < m) (hm2 : m ≤ 2147483648) (hc : Cur 85 w g n) :
    Calls Try.prog 67 #[.pointer (some ⟨g, 0, none⟩), .int .i64 m] w (DrawnB 85 g n w) := by
  go_enter Try.func67, Try.ntmps67
  go_wp2_with fail
  refine (below_any g n m _ hm hm2 hc).mono ?_
  rintro e w1 ⟨x, rfl, hx, hcur, hch⟩
  go_wp2
  go_ret
  exact ⟨_, rfl, hcur, hch⟩

set_option maxRecDepth 100000 in
set_option maxHeartbeats 400000 in
theorem new_any (A : Option Addr) (n cap : Nat) (w : World) (hc : CodeW w A n) :
    Calls Try.prog 41 #[.slice A n cap] w fun e w' => e = .returned (.pointer (some ⟨w.heap.size, 0, none⟩)) ∧ Cur 85 w' w.heap.size n ∧ Below w.heap.size w w' := by
  have hm := hc.1
  unfold maxLen at hm
  go_enter Try.func41, Try.ntmps41
  go_wp2
  go_loop [3, 4] (fun h i => ∃ k : Nat, k ≤ n ∧ i = .int .i64 k ∧ ∃ x : Int, h = .int .i64 x) (fun _ i => n - (intOf i).toNat)
  case atStart => exact ⟨0, Nat.zero_le _, rfl, _, rfl⟩
  case round =>
    obtain ⟨k, hk, rfl, x, rfl⟩ := hrel
    by_cases hlt : k < n
    · by_cases h4 : k < 4000
      · obtain ⟨b, o, rfl, hb, y, hy0, hy1, hy⟩ := hc.2 k hlt
        clear hc
        go_wp2
        go_round
        case rel => exact ⟨k + 1, by omega, by go_num, _, rfl⟩
        case measure => simp [intOf]; omega
      · have HC := Lib.hid hc
        clear hc
        go_wp2
        go_ret
        have hb := (Below.refl w.heap.size w).alloc (Nat.le_refl _) (.cells #[.slice A n cap, .int .i64 0, .int .i64 x] 85)
        exact ⟨rfl, ⟨A, cap, 0, x, heap_alloc_new w _, by omega, by omega, HC.out.code hb (Nat.le_refl _)⟩, hb⟩
    · have HC := Lib.hid hc
      clear hc
      go_wp2
      go_ret
      have hb := (Below.refl w.heap.size w).alloc (Nat.le_refl _) (.cells #[.slice A n cap, .int .i64 0, .int .i64 x] 85)
      exact ⟨rfl, ⟨A, cap, 0, x, heap_alloc_new w _, by omega, by omega, HC.out.code hb (Nat.le_refl _)⟩, hb⟩
end Go.Proofs.Ytaebiiopommhdaa
