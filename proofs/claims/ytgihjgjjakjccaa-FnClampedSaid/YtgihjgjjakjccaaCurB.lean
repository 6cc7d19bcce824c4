/-
  The contracts of l01PickInt, l01Number, DrawClamp and big; the walk of the law FnClamped.
-/
import Derived.Test.YtgihjgjjakjccaaCurA
import Derived.Test.YtgihjgjjakjccaaClampA
namespace Go.Proofs.Ytgihjgjjakjccaa
open Go.RowKit

/-- m integers can be read from offset 0 of block b on. -/
def IntsAt (w : World) (b m : Nat) : Prop := ∀ j, j < m → ∃ v : Int, w.cell? ⟨b, j, none⟩ = some (.int .i64 v)

set_option maxHeartbeats 400000 in
theorem pickInt_any (g n b m : Nat) (w : World) (hm : 0 < m) (hm2 : m ≤ 1000) (hb : b ≠ g) (hl : b < w.heap.size) (hi : IntsAt w b m) (hc : Cur 48 w g n) :
    Calls Try.prog 30 #[.pointer (some ⟨g, 0, none⟩), .slice (some ⟨b, 0, none⟩) m m] w (Drawn 48 (fun _ => True) g n w) := by
  have HI := Lib.hid hi
  clear hi
  go_enter Try.func30, Try.ntmps30
  go_wp2_with fail
  refine (below_any g n _ _ (by omega) (by omega) hc).mono ?_
  rintro e w1 ⟨x, rfl, ⟨hx0, hx1⟩, hcur, hch⟩
  obtain ⟨j, rfl⟩ : ∃ j : Nat, x = (j : Int) := ⟨x.toNat, by omega⟩
  obtain ⟨v, hv⟩ := HI.out j (by omega)
  have hv' : w1.cell? ⟨b, j, none⟩ = some (.int .i64 v) := (hch.cell (p := ⟨b, j, none⟩) hl hb).trans hv
  have HC := Lib.hid (And.intro hcur hch)
  clear hv hcur hch HI
  go_wp2
  go_ret
  exact ⟨_, rfl, trivial, HC.out.1, HC.out.2⟩

set_option maxRecDepth 100000 in
set_option maxHeartbeats 400000 in
theorem number_any (g n : Nat) (w : World) (hc : Cur 48 w g n) :
    Calls Try.prog 23 #[.pointer (some ⟨g, 0, none⟩)] w (Drawn 48 (fun _ => True) g n w) := by
  go_enter Try.func23, Try.ntmps23
  go_wp2_with fail
  refine (below_any g n _ _ (by omega) (by omega) hc).mono ?_
  rintro e w1 ⟨x, rfl, ⟨hx0, hx1⟩, hcur, hch⟩
  have HC := Lib.hid (And.intro hcur hch)
  clear hcur hch
  rcases (show x = 0 ∨ x = 1 ∨ 2 ≤ x from by omega) with h | h | h
  · have e0 : (x == 0) = true := by simp [h]
    go_wp2_with fail
    have hlt := HC.out.1.lt
    refine (pickInt_any g n w1.heap.size 10 _ (by omega) (by omega) (by omega) (by simp) ?_ (HC.out.1.keep ((Below.refl _ _).alloc (Nat.le_refl _) _))).mono ?_
    · intro j hj
      rw [World.cell?_alloc_at _ _ _ _ rfl]
      match j, hj with
      | 0, _ | 1, _ | 2, _ | 3, _ | 4, _ | 5, _ | 6, _ | 7, _ | 8, _ | 9, _ => exact ⟨_, rfl⟩
    rintro e w2 ⟨y, rfl, _, hcur2, hch2⟩
    go_wp2
    go_ret
    exact ⟨_, rfl, trivial, hcur2, (HC.out.2.alloc _).trans hch2⟩
  · have e0 : (x == 0) = false := by simp [h]
    have e1 : (x == 1) = true := by simp [h]
    go_wp2_with fail
    refine (below_any g n _ _ (by omega) (by omega) HC.out.1).mono ?_
    rintro e w2 ⟨y, rfl, _, hcur2, hch2⟩
    go_wp2
    go_ret
    exact ⟨_, rfl, trivial, hcur2, HC.out.2.trans hch2⟩
  · have e0 : (x == 0) = false := by simp; omega
    have e1 : (x == 1) = false := by simp; omega
    go_wp2_with fail
    refine (below_any g n _ _ (by omega) (by omega) HC.out.1).mono ?_
    rintro e w2 ⟨y, rfl, _, hcur2, hch2⟩
    go_wp2
    go_ret
    exact ⟨_, rfl, trivial, hcur2, HC.out.2.trans hch2⟩

theorem big_any (A : Option Addr) (n cap : Nat) (w : World) :
    Calls Try.prog 8 #[.slice A n cap] w fun e w' => e = .returned (.bool (decide (1048576 < (n : Int)))) ∧ w = w' := by
  go_enter Try.func8, Try.ntmps8
  go_wp2
  go_ret
  exact ⟨rfl, rfl⟩

/-- Three drawn integers. -/
def Drawn3 (w : World) (e : Ending) (w' : World) : Prop := ∃ x y z : Int, e = .returned (.tuple #[.int .i64 x, .int .i64 y, .int .i64 z]) ∧ Below w.heap.size w w'

set_option maxHeartbeats 400000 in
theorem drawClamp_any (A : Option Addr) (n cap : Nat) (w : World) (hc : CodeW w A n) : Calls Try.prog 9 #[.slice A n cap] w (Drawn3 w) := by
  go_enter Try.func9, Try.ntmps9
  go_wp2_with fail
  refine (new_any A n cap _ hc).mono ?_
  rintro e w1 ⟨rfl, hcur1, hb1⟩
  have hsz1 := hb1.size
  go_wp2_with fail
  refine (once_any _ n _ _ (by omega) (by omega) hcur1).mono ?_
  rintro e w2 ⟨q, rfl, hcur2, hch2⟩
  have hb2 := Chg.below hb1 hch2 hsz1 (Nat.le_refl _)
  clear hcur1 hch2 hb1
  cases q
  · go_wp2_with fail
    refine (below_any _ n _ _ (by omega) (by omega) hcur2).mono ?_
    rintro e w3 ⟨x, rfl, _, hcur3, hch3⟩
    have hb3 := Chg.below hb2 hch3 hb2.size (Nat.le_refl _)
    clear hcur2 hch3 hb2
    go_wp2_with fail
    refine (below_any _ n _ _ (by omega) (by omega) hcur3).mono ?_
    rintro e w4 ⟨y, rfl, _, hcur4, hch4⟩
    have hb4 := Chg.below hb3 hch4 hb3.size (Nat.le_refl _)
    clear hcur3 hch4 hb3
    go_wp2_with fail
    refine (below_any _ n _ _ (by omega) (by omega) hcur4).mono ?_
    rintro e w5 ⟨z, rfl, _, hcur5, hch5⟩
    have hb5 := Chg.below hb4 hch5 hb4.size (Nat.le_refl _)
    clear hcur4 hch5 hb4 hcur5
    go_wp2
    go_ret3
    exact ⟨_, _, _, rfl, hb5⟩
  · go_wp2_with fail
    refine (number_any _ n _ hcur2).mono ?_
    rintro e w3 ⟨x, rfl, _, hcur3, hch3⟩
    have hb3 := Chg.below hb2 hch3 hb2.size (Nat.le_refl _)
    clear hcur2 hch3 hb2
    go_wp2_with fail
    refine (number_any _ n _ hcur3).mono ?_
    rintro e w4 ⟨y, rfl, _, hcur4, hch4⟩
    have hb4 := Chg.below hb3 hch4 hb3.size (Nat.le_refl _)
    clear hcur3 hch4 hb3
    go_wp2_with fail
    refine (number_any _ n _ hcur4).mono ?_
    rintro e w5 ⟨z, rfl, _, hcur5, hch5⟩
    have hb5 := Chg.below hb4 hch5 hb4.size (Nat.le_refl _)
    clear hcur4 hch5 hb4 hcur5
    go_wp2
    go_ret3
    exact ⟨_, _, _, rfl, hb5⟩

theorem clampOf_lo (n lo hi : Int) (h : hi < lo ∨ n < lo) : clampOf n lo hi = lo := if_pos h
theorem clampOf_hi (n lo hi : Int) (h1 : lo ≤ hi) (h : hi < n) : clampOf n lo hi = hi := by unfold clampOf; rw [if_neg (by omega), if_pos h]
theorem clampOf_in (n lo hi : Int) (h1 : lo ≤ n) (h : n ≤ hi) : clampOf n lo hi = n := by unfold clampOf; rw [if_neg (by omega), if_neg (by omega)]
theorem clamp_735 (w : World) : Calls Try.prog 10 #[.int .i64 7, .int .i64 3, .int .i64 5] w fun e w' => e = .returned (.int .i64 5) ∧ w = w' := implClamp_any 7 3 5 w
/-- impl.Clamp where its result is known to be y. -/
theorem clamp_is (n lo hi y : Int) (h : clampOf n lo hi = y) (w : World) : Calls Try.prog 10 #[.int .i64 n, .int .i64 lo, .int .i64 hi] w fun e w' => e = .returned (.int .i64 y) ∧ w = w' := h ▸ implClamp_any n lo hi w

set_option maxHeartbeats 1000000 in
theorem clamped_walk (a0 : Option Addr) (len0 cap0 : Nat) (z0 : List Int) (w : World) (w0 : IsRow .u8 w a0 len0 cap0 z0) :
    Calls Try.prog 3 #[.slice a0 len0 cap0] w fun e w' => e = .returned (.bool true) ∧ Below w.heap.size w w' := by
  have hc := w0.codeW
  clear w0
  go_enter Try.func3, Try.ntmps3
  go_wp2_with fail
  refine (big_any a0 len0 cap0 _).mono ?_
  rintro e w' ⟨rfl, rfl⟩
  by_cases hbig : 1048576 < (len0 : Int)
  · go_wp2_with fail
    go_ret
    exact ⟨rfl, Below.refl _ _⟩
  · go_wp2_with fail
    refine (drawClamp_any a0 len0 cap0 _ hc).mono ?_
    rintro e w1 ⟨n, a, b, rfl, hb1⟩
    have HB := Lib.hid hb1
    clear hb1 hc
    by_cases h1 : b < a
    · go_wp2_with fail
      refine (clamp_is n a b a (clampOf_lo _ _ _ (.inl h1)) _).mono ?_
      rintro e w' ⟨rfl, rfl⟩
      go_wp2_with fail
      refine (clamp_735 _).mono ?_
      rintro e w' ⟨rfl, rfl⟩
      go_wp2
      go_ret
      exact ⟨rfl, HB.out⟩
    · rcases (show n < a ∨ b < n ∨ (a ≤ n ∧ n ≤ b) from by omega) with h2 | h2 | ⟨h2, h3⟩
      · go_wp2_with fail
        refine (clamp_is n a b a (clampOf_lo _ _ _ (.inr h2)) _).mono ?_
        rintro e w' ⟨rfl, rfl⟩
        go_wp2_with fail
        refine (clamp_is a a b a (clampOf_in _ _ _ (by omega) (by omega)) _).mono ?_
        rintro e w' ⟨rfl, rfl⟩
        go_wp2_with fail
        refine (clamp_735 _).mono ?_
        rintro e w' ⟨rfl, rfl⟩
        go_wp2
        go_ret
        exact ⟨rfl, HB.out⟩
      · go_wp2_with fail
        refine (clamp_is n a b b (clampOf_hi _ _ _ (by omega) h2) _).mono ?_
        rintro e w' ⟨rfl, rfl⟩
        go_wp2_with fail
        refine (clamp_is b a b b (clampOf_in _ _ _ (by omega) (by omega)) _).mono ?_
        rintro e w' ⟨rfl, rfl⟩
        go_wp2_with fail
        refine (clamp_735 _).mono ?_
        rintro e w' ⟨rfl, rfl⟩
        go_wp2
        go_ret
        exact ⟨rfl, HB.out⟩
      · go_wp2_with fail
        refine (clamp_is n a b n (clampOf_in _ _ _ h2 h3) _).mono ?_
        rintro e w' ⟨rfl, rfl⟩
        go_wp2_with fail
        refine (clamp_is n a b n (clampOf_in _ _ _ h2 h3) _).mono ?_
        rintro e w' ⟨rfl, rfl⟩
        go_wp2_with fail
        refine (clamp_735 _).mono ?_
        rintro e w' ⟨rfl, rfl⟩
        go_wp2
        go_ret
        exact ⟨rfl, HB.out⟩
end Go.Proofs.Ytgihjgjjakjccaa
