/-
  The number of literals of a cover.
-/
import Derived.Test.YtjibjnkabfmgaaaICov
namespace Go.Proofs.Ytjibjnkabfmgaaa
open Go.RowKit
set_option linter.unusedVariables false
set_option linter.unusedSimpArgs false

theorem ones64_small (X : Nat) (w : World) (hX : X < 16) :
    Calls Try.prog 62 #[.int .u64 X] w fun e w' => e = .returned (.int .i64 (popK X 4 : Nat)) ∧ w = w' := by
  rcases (by omega : X = 0 ∨ X = 1 ∨ X = 2 ∨ X = 3 ∨ X = 4 ∨ X = 5 ∨ X = 6 ∨ X = 7 ∨ X = 8 ∨ X = 9 ∨ X = 10 ∨ X = 11 ∨ X = 12 ∨ X = 13 ∨ X = 14 ∨ X = 15) with rfl | rfl | rfl | rfl | rfl | rfl | rfl | rfl | rfl | rfl | rfl | rfl | rfl | rfl | rfl | rfl
  all_goals
    go_enter Try.func62, Try.ntmps62
    go_wp2
    go_ret
    exact ⟨by kernel_rfl, rfl⟩
theorem ones_small (X : Nat) (w : World) (hX : X < 16) :
    Calls Try.prog 45 #[.int .u64 X] w fun e w' => e = .returned (.int .i64 (popK X 4 : Nat)) ∧ w = w' := by
  go_enter Try.func45, Try.ntmps45
  go_wp2_with fail
  refine (ones64_small X _ hX).mono ?_
  rintro e w1 ⟨rfl, rfl⟩
  go_wp2
  go_ret
  exact ⟨rfl, rfl⟩
theorem ones_at (N X : Nat) {p : Nat} (w : World) (hN : N ≤ 4) (hX : X < 2 ^ N) (hp : popK X N = p) :
    Calls Try.prog 45 #[.int .u64 X] w fun e w' => e = .returned (.int .i64 (p : Nat)) ∧ w = w' := by
  have h16 := pow16 N hN
  have h := ones_small X w (by omega)
  rw [pop4 N X hN hX, hp] at h
  exact h

/-- What CoverLiterals returns. -/
def litV (n : Int) (L : List (Int × Int)) : Int := if coverB n L then (litL n.toNat L : Nat) else -1
theorem lit_take (N : Nat) (L : List (Int × Int)) (k : Nat) (hk : k < L.length) {X Y : Nat} (h : L[k] = ((X : Int), (Y : Int))) : litL N (L.take (k + 1)) = litL N (L.take k) + popK X N := by
  rw [List.take_add_one, List.getElem?_eq_getElem hk, Option.toList_some, litL_snoc, h]; rfl
theorem lit_few (N : Nat) (L : List (Int × Int)) (k : Nat) (hN : N ≤ 4) (hl : L.length ≤ 81) : litL N (L.take k) ≤ 324 := by
  have h1 := litL_le N (L.take k)
  have h2 : (L.take k).length ≤ 81 := by rw [List.length_take]; omega
  have h3 := Nat.mul_le_mul h2 hN
  omega

set_option maxHeartbeats 3200000 in
theorem implLit_any (n : Int) (A : Option Addr) (c : Nat) (L : List (Int × Int)) (w : World) (hL : RowP w A L.length L) (hW : Wide L) :
    Calls Try.prog 19 #[.int .i64 n, .slice A L.length c] w fun e w' => e = .returned (.int .i64 (litV n L)) ∧ Below w.heap.size w w' := by
  unfold litV
  cases hc : coverB n L
  · go_enter Try.func19, Try.ntmps19
    go_wp2_with fail
    refine (implCovOk_at n A c L _ hL hW hc).mono ?_
    rintro e w1 ⟨rfl, hb⟩
    have HB := Lib.hid hb
    clear hb
    go_wp2
    go_ret
    exact ⟨rfl, HB.out⟩
  · have HC := Lib.hid hc
    obtain ⟨N, rfl, hN, hl, hS⟩ := small_of hc
    replace hc := HC.out
    have h16 := pow16 N hN
    go_enter Try.func19, Try.ntmps19
    go_wp2_with fail
    refine (implCovOk_at N A c L _ hL hW hc).mono ?_
    rintro e w1 ⟨rfl, hb⟩
    have HB := Lib.hid hb
    have hL1 := hL.below hb
    clear hb hL
    go_wp2
    go_loopw [5, 14] (fun s v wr => ∃ k : Nat, k ≤ L.length ∧ v = .int .i64 k ∧ s = .int .i64 (litL N (L.take k) : Nat) ∧ Below w1.heap.size w1 wr) (fun _ v _ => L.length - (intOf v).toNat)
    case atStart => exact ⟨0, Nat.zero_le _, rfl, rfl, Below.refl _ _⟩
    case round =>
      obtain ⟨k, hk, rfl, rfl, hb⟩ := hrel
      have HBB := Lib.hid hb
      by_cases hlt : k < L.length
      · obtain ⟨b, o, rfl, hbl, x0, x1⟩ := (hL1.below hb).2.2 k hlt
        obtain ⟨N', X, Y, hn, hxy, hN', hX, hY, hv⟩ := coverB_mem HC.out k hlt
        obtain rfl : N = N' := by omega
        have hst := lit_take N L k hlt hxy
        have hf := lit_few N L k hN hl
        have hf2 := lit_few N L (k + 1) hN hl
        rw [hxy] at x0 x1
        obtain ⟨p, hp⟩ : ∃ p, popK X N = p := ⟨_, rfl⟩
        obtain ⟨s, hs⟩ : ∃ s, litL N (L.take k) = s := ⟨_, rfl⟩
        rw [hs] at hf hst ⊢
        rw [hp] at hst
        rw [hst] at hf2
        obtain ⟨t, ht⟩ : ∃ t, litL N (L.take (k + 1)) = t := ⟨_, rfl⟩
        rw [ht] at hst
        have et : (s : Int) + (p : Int) = (t : Int) := by omega
        have HS := Lib.hid (And.intro hp (And.intro ht et))
        clear hb hst hs hxy hp hn ht et
        go_wp2_with fail
        refine (ones_at N X _ hN hX HS.out.1).mono ?_
        rintro e w2 ⟨rfl, rfl⟩
        go_wp2
        go_roundw
        case rel =>
          refine ⟨k + 1, by omega, by go_num, ?_, bThen HBB.out (bAlloc (Below.refl _ _) (Nat.le_refl _) _)⟩
          rw [HS.out.2.1, HS.out.2.2]
        case measure => simp [intOf]; omega
      · obtain rfl : k = L.length := by omega
        rw [List.take_length]
        clear hb hL1
        go_wp2
        go_ret
        exact ⟨rfl, bThen HB.out HBB.out⟩

set_option maxHeartbeats 3200000 in
theorem specLit_any (n : Int) (A : Option Addr) (c : Nat) (L : List (Int × Int)) (w : World) (hL : RowP w A L.length L) :
    Calls Try.prog 35 #[.int .i64 n, .slice A L.length c] w fun e w' => e = .returned (.int .i64 (litV n L)) ∧ Below w.heap.size w w' := by
  unfold litV
  cases hc : coverB n L
  · go_enter Try.func35, Try.ntmps35
    go_wp2_with fail
    refine (specCovOk_at n A c L _ hL hc).mono ?_
    rintro e w1 ⟨rfl, hb⟩
    have HB := Lib.hid hb
    clear hb
    go_wp2
    go_ret
    exact ⟨rfl, HB.out⟩
  · have HC := Lib.hid hc
    obtain ⟨N, rfl, hN, hl, hS⟩ := small_of hc
    replace hc := HC.out
    have h16 := pow16 N hN
    go_enter Try.func35, Try.ntmps35
    go_wp2_with fail
    refine (specCovOk_at N A c L _ hL hc).mono ?_
    rintro e w1 ⟨rfl, hb⟩
    have HB := Lib.hid hb
    have hL1 := hL.below hb
    clear hb hL
    go_wp2
    go_loopw [5, 6] (fun s v wr => ∃ k : Nat, k ≤ L.length ∧ v = .int .i64 k ∧ s = .int .i64 (litL N (L.take k) : Nat) ∧ w1 = wr) (fun _ v _ => L.length - (intOf v).toNat)
    case atStart => exact ⟨0, Nat.zero_le _, rfl, rfl, rfl⟩
    case round =>
      obtain ⟨k, hk, rfl, rfl, rfl⟩ := hrel
      by_cases hlt : k < L.length
      · obtain ⟨b, o, rfl, hbl, x0, x1⟩ := hL1.2.2 k hlt
        obtain ⟨N', X, Y, hn, hxy, hN', hX, hY, hv⟩ := coverB_mem HC.out k hlt
        obtain rfl : N = N' := by omega
        have hst := lit_take N L k hlt hxy
        have hf := lit_few N L k hN hl
        rw [hxy] at x0 x1
        obtain ⟨s, hs⟩ : ∃ s, litL N (L.take k) = s := ⟨_, rfl⟩
        rw [hs] at hf hst ⊢
        have HS := Lib.hid hst
        clear hst hs hxy hn
        go_wp2
        go_loopw [5, 7] (fun t v wr => ∃ m : Nat, m ≤ N ∧ v = .int .i64 m ∧ t = .int .i64 (s + popK X m : Nat) ∧ w1 = wr) (fun _ v _ => N - (intOf v).toNat)
        case atStart => exact ⟨0, Nat.zero_le _, rfl, rfl, rfl⟩
        case round =>
          obtain ⟨m, hm, rfl, rfl, rfl⟩ := hrel
          by_cases hml : m < N
          · have hpl := popK_le X m
            have ev := bit_and1 X m (by omega) (by omega)
            have hpk : popK X (m + 1) = popK X m + (X.testBit m).toNat := rfl
            obtain ⟨q, hq⟩ : ∃ q, popK X m = q := ⟨_, rfl⟩
            obtain ⟨t, ht⟩ : ∃ t, (X.testBit m).toNat = t := ⟨_, rfl⟩
            have ht1 : t ≤ 1 := by rw [← ht]; cases X.testBit m <;> simp
            rw [hq, ht] at hpk
            rw [hq] at hpl ⊢
            rw [ht] at ev
            obtain ⟨r, hr⟩ : ∃ r, popK X (m + 1) = r := ⟨_, rfl⟩
            rw [hr] at hpk
            have et : (s : Int) + (q : Int) + (t : Int) = ((s + r : Nat) : Int) := by omega
            have HK := Lib.hid (And.intro hr et)
            clear hq ht hpk hr et
            go_wp2
            go_roundw
            case rel =>
              refine ⟨m + 1, by omega, by go_num, ?_, trivial⟩
              rw [HK.out.1, ← HK.out.2]
            case measure => simp [intOf]; omega
          · obtain rfl : m = N := by omega
            go_wp2
            go_roundw
            case rel =>
              refine ⟨k + 1, by omega, by go_num, ?_, trivial⟩
              rw [HS.out]
            case measure => simp [intOf]; omega
      · obtain rfl : k = L.length := by omega
        rw [List.take_length]
        clear hL1
        go_wp2
        go_ret
        exact ⟨rfl, HB.out⟩
end Go.Proofs.Ytjibjnkabfmgaaa
