/-
  The minimal cover, as the program finds it.
-/
import Derived.Test.YtjibjnkabfmgaaaIConc
namespace Go.Proofs.Ytjibjnkabfmgaaa
open Go.RowKit
set_option linter.unusedVariables false
set_option linter.unusedSimpArgs false

theorem coverT_yes (N : Nat) (L : List (Int × Int)) (h : coverB N L = true) : coverT N L = .agg #[.int .i64 N, .int .i64 (tabN N L : Nat)] := by
  unfold coverT; rw [if_pos h]; rfl
theorem implCover_at (N : Nat) (A : Option Addr) (c n : Nat) (L : List (Int × Int)) {d : Nat} (w : World) (hn : L.length = n) (hL : RowP w A L.length L) (hW : Wide L) (hc : coverB N L = true) (hd : tabN N L = d) :
    Calls Try.prog 16 #[.int .i64 N, .slice A n c] w fun e w' => e = .returned (.agg #[.int .i64 N, .int .i64 (d : Nat)]) ∧ Below w.heap.size w w' := by
  subst hn hd
  have h := implCover_any N A c L w hL hW
  rw [coverT_yes N L hc] at h
  exact h
theorem sub_wide {N B : Nat} (hN : N ≤ 4) {L : List (Int × Int)} (h : L.Sublist (primesL N B)) : Wide L := fun z hz => (primes_smallM N B hN).wide z (h.subset hz)

theorem implMin_no (n b : Int) (w : World) (hok : okB n b = false) :
    Calls Try.prog 14 #[T n b] w fun e w' => ∃ v, e = .returned v ∧ OwnsCube w' w.heap.size v [] ∧ Below w.heap.size w w' := by
  unfold T
  go_enter Try.func14, Try.ntmps14
  go_wp2_with fail
  refine (implPri_no n b _ hok).mono ?_
  rintro e w1 ⟨v, rfl, ho, hb⟩
  have g := box1 hb
  obtain ⟨A, cp, rfl, _⟩ := OwnsR.shape fP_len ho
  have R := Lib.hid (And.intro (OwnsR.mono ho (by simp : w.heap.size ≤ _)) g.2)
  clear hb g ho
  go_wp2
  go_loopw [3, 4] (fun v x wr => v = .slice A 0 cp ∧ x = .int .i64 (-1) ∧ w1 = wr) (fun _ _ _ => 0)
  case atStart => exact ⟨rfl, rfl, rfl⟩
  case round =>
    obtain ⟨rfl, rfl, rfl⟩ := hrel
    go_wp2
    go_ret
    exact ⟨_, rfl, R.out.1, R.out.2⟩

set_option maxHeartbeats 6400000 in
theorem implMin_yes (N B : Nat) (w : World) (hok : okB N B = true) (hN : N ≤ 4) (hB : B ≤ 65535) :
    Calls Try.prog 14 #[T N B] w fun e w' => ∃ v, e = .returned v ∧ OwnsCube w' w.heap.size v (minL N B) ∧ Below w.heap.size w w' := by
  unfold T
  go_enter Try.func14, Try.ntmps14
  go_wp2_with fail
  refine (implPri_yes N B _ hok hN hB).mono ?_
  rintro e w1 ⟨v, rfl, hO, hb⟩
  have g := box1 hb
  have c0 : w1.cell? ⟨w.heap.size, 0, none⟩ = some (.int .i64 N) := box_cell g.1 0 _ rfl
  have c1 : w1.cell? ⟨w.heap.size, 1, none⟩ = some (.int .i64 B) := box_cell g.1 1 _ rfl
  obtain ⟨A, cp, rfl, hLA⟩ := OwnsR.shape fP_len hO
  have HO1 := Lib.hid (OwnsR.mono hO (by simp : w.heap.size + 1 ≤ _))
  have HB1 := Lib.hid g.2
  have hfew := primes_few N B hN
  clear hb g hO hLA
  go_wp2
  go_loopw [3, 4] (fun v x wr => ∃ (j : Nat) (L : List (Int × Int)), j ≤ L.length ∧ x = .int .i64 ((j : Int) - 1) ∧ minK N B j L = minL N B ∧ L.Sublist (primesL N B) ∧ OwnsCube wr (w.heap.size + 1) v L ∧ Below w1.heap.size w1 wr) (fun _ x _ => (intOf x + 1).toNat)
  case atStart => exact ⟨_, _, Nat.le_refl _, rfl, rfl, List.Sublist.refl _, HO1.out, Below.refl _ _⟩
  case round =>
    obtain ⟨j, L, hj, rfl, hmin, hsub, hown, hbel⟩ := hrel
    have s0 := keep hbel c0
    have s1 := keep hbel c1
    have hLl := hsub.length_le
    obtain ⟨A2, c2, rfl, hrow⟩ := OwnsR.rowP hown (by unfold maxLen; omega)
    have HOW := Lib.hid hown
    have HBL := Lib.hid hbel
    have HSM := Lib.hid hsub
    have HMK := Lib.hid hmin
    clear hown hbel hrow c0 c1 hsub hmin HO1
    cases j with
    | zero =>
      go_wp2
      go_ret
      exact ⟨_, rfl, by rw [← HMK.out]; exact OwnsR.mono HOW.out (Nat.le_succ _), bThen HB1.out HBL.out⟩
    | succ m =>
      have hm1 : (((m + 1 : Nat) : Int) - 1) = (m : Int) := by omega
      rw [hm1]
      clear hm1
      have t1 : 0 ≤ (m : Int) := by omega
      have hmL : m < L.length := by omega
      go_wp2_with fail
      refine (implWithout_any (w.heap.size + 1) _ L m _ HOW.out hmL (by omega)).mono ?_
      rintro e w2 ⟨v', rfl, ho, hb⟩
      have u0 := keep hb s0
      have u1 := keep hb s1
      have HO2 := Lib.hid (OwnsR.below HOW.out hb)
      have HB2 := Lib.hid (bThen HBL.out hb)
      have hsz : w.heap.size + 1 ≤ wr.heap.size := World.block_lt_of_cell? _ _ s0
      have hRl : (L.eraseIdx m).length = L.length - 1 := List.length_eraseIdx_of_lt hmL
      have hRs : (L.eraseIdx m).Sublist (primesL N B) := (List.eraseIdx_sublist L m).trans HSM.out
      have hcov := sub_coverB hN hRs
      have hwide := sub_wide hN hRs
      have hmt := minB_tab N L m
      obtain ⟨R, hR⟩ : ∃ R, L.eraseIdx m = R := ⟨_, rfl⟩
      rw [hR] at ho hRl hRs hcov hwide hmt
      obtain ⟨A3, c3, rfl, hrow⟩ := OwnsR.rowP ho (by unfold maxLen; omega)
      obtain ⟨d, hd⟩ : ∃ d, tabN N R = d := ⟨_, rfl⟩
      have HR := Lib.hid hrow
      have HO3 := Lib.hid (OwnsR.mono ho hsz)
      have HD := Lib.hid (And.intro hd (And.intro hR (And.intro hRs hmt)))
      have k0 := cell_regrown u0
      have k1 := cell_regrown u1
      have hRn := hRl
      clear ho hb s0 s1 hd hR hrow hmt hRs
      by_cases hdB : d = B
      · subst hdB
        go_wp2
        refine wp_region_quiet_below (by kernel_rfl) (by kernel_rfl) ?_
        repeat (go_big_quiet_step (first | (go_at_call 16; refine Calls.regrown_of (implCover_at N A3 c3 _ R _ hRl (RowP.below HR.out (below_regrown _ _ _)) hwide hcov HD.out.1))))
        refine wpQuiet_nil ?_
        intro _ hw'
        obtain ⟨⟨dq, osq⟩, hw''⟩ := hw'
        subst hw''
        go_wp2
        go_roundw
        case rel =>
          refine ⟨m, R, by omega, by go_num, ?_, HD.out.2.2.1, (by have h3 := OwnsR.below HO3.out (below_regrown w2 dq osq); rw [hRl] at h3; exact h3), bThen HB2.out (below_regrown _ _ _)⟩
          rw [← HMK.out]; simp only [minK]; rw [HD.out.2.2.2, if_pos HD.out.1, HD.out.2.1]
        case measure => simp [intOf] <;> omega
      · go_wp2
        refine wp_region_quiet_below (by kernel_rfl) (by kernel_rfl) ?_
        repeat (go_big_quiet_step (first | (go_at_call 16; refine Calls.regrown_of (implCover_at N A3 c3 _ R _ hRl (RowP.below HR.out (below_regrown _ _ _)) hwide hcov HD.out.1))))
        refine wpQuiet_nil ?_
        intro _ hw'
        obtain ⟨⟨dq, osq⟩, hw''⟩ := hw'
        subst hw''
        go_wp2
        go_roundw
        case rel =>
          refine ⟨m, L, by omega, by go_num, ?_, HSM.out, OwnsR.below HO2.out (below_regrown _ _ _), bThen HB2.out (below_regrown _ _ _)⟩
          rw [← HMK.out]; simp only [minK]; rw [HD.out.2.2.2, if_neg (by rw [HD.out.1]; exact hdB)]
        case measure => simp [intOf] <;> omega
end Go.Proofs.Ytjibjnkabfmgaaa
