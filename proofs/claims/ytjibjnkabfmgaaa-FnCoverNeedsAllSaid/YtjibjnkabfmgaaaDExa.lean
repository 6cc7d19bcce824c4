/-
  The walk of the law FnCoverExact.
-/
import Derived.Test.YtjibjnkabfmgaaaDImp
namespace Go.Proofs.Ytjibjnkabfmgaaa
open Go.RowKit
set_option linter.unusedVariables false
set_option linter.unusedSimpArgs false

theorem any_has (N : Nat) (K : List (Int × Int)) (B i : Nat) (h : tabN N K = B) (hi : i < 2 ^ N) : (K.any fun c => hasN c i) = B.testBit i := by
  rw [← h, testBit_tab, decide_eq_true hi, Bool.true_and]
theorem any_self (L : List (Int × Int)) (c : Int × Int) (h : c ∈ L) : (L.any fun x => decide (x = c)) = true := List.any_eq_true.2 ⟨c, h, decide_eq_true rfl⟩

set_option maxHeartbeats 6400000 in
theorem coverExact_walk (a : Option Addr) (len cap : Nat) (zs : List Int) (w : World) (hw : IsRow .u8 w a len cap zs) :
    Calls Try.prog 3 #[.slice a len cap] w fun e w' => e = .returned (.bool true) ∧ Below w.heap.size w w' := by
  have hcode := hw.codeW
  clear hw
  by_cases hbig : 1048576 < (len : Int)
  · go_enter Try.func3, Try.ntmps3
    go_wp2_with fail
    refine (big_any a len cap _).mono ?_
    rw [decide_eq_true (by omega)]
    rintro e w1 ⟨rfl, rfl⟩
    go_wp2
    go_ret
    exact ⟨rfl, Below.refl _ _⟩
  · obtain ⟨x0, hx0, hat0⟩ := at_ex a len cap 0 w hcode (by omega)
    obtain ⟨x1, hx1, hat1⟩ := at_ex a len cap 1 w hcode (by omega)
    go_enter Try.func3, Try.ntmps3
    go_wp2_with fail
    refine (big_any a len cap _).mono ?_
    rw [decide_eq_false (by omega)]
    rintro e w1 ⟨rfl, rfl⟩
    go_wp2_with fail
    refine (draw_any a len cap _ hcode).mono ?_
    rintro e w1 ⟨N, B, I, rfl, hN, hB, hIN, hb⟩
    have HB := Lib.hid hb
    have h16 := pow16 N hN
    have hm := mask_le N (by omega) (by omega)
    have hB3 := ok_lt hB
    have hB5 : B ≤ 65535 := Nat.le_trans hB hm
    have hok := ok_of N B hN hB
    clear hcode hb
    clear hat0 hat1
    have hfew := primes_few N B hN
    have hsub := minL_sub N B
    have hptab := primes_tab N B hN hB3
    have hmtab := (minL_spec N B hN hB3).1
    have hpcov := sub_coverB hN (List.Sublist.refl (primesL N B))
    have hmcov := sub_coverB hN hsub
    have hpw := sub_wide hN (List.Sublist.refl (primesL N B))
    have hmw := sub_wide hN hsub
    have hsm : ∀ c ∈ primesL N B, ∃ X Y : Nat, c = ((X : Int), (Y : Int)) ∧ X < 2 ^ N ∧ Y < 2 ^ N ∧ andNot Y X = 0 := fun c hc => by
      obtain ⟨X, Y, e, hX, hY, hp⟩ := primes_mem.1 hc
      exact ⟨X, Y, e, hX, hY, prime_val hp⟩
    have hpv := primesV_nat hok
    have hmv := minV_nat hok
    obtain ⟨L, hL⟩ : ∃ L, primesL N B = L := ⟨_, rfl⟩
    obtain ⟨K, hK⟩ : ∃ K, minL N B = K := ⟨_, rfl⟩
    rw [hL] at hfew hsub hptab hpcov hpw hsm hpv
    rw [hK] at hsub hmtab hmcov hmw hmv
    have hKl : K.length ≤ 81 := Nat.le_trans hsub.length_le hfew
    have hmem : ∀ c ∈ K, c ∈ L := fun c hc => hsub.subset hc
    have HS := Lib.hid (And.intro hsm hmem)
    have HA := Lib.hid (any_has N K B I hmtab hIN)
    clear hsub hL hK hsm hmem
    go_wp2_with fail
    refine (implMin_all N B _ hmv).mono ?_
    rintro e W1 ⟨v1, rfl, ho1, hb⟩
    have g := box1 hb
    have c0 : W1.cell? ⟨w1.heap.size, 0, none⟩ = some (.int .i64 N) := box_cell g.1 0 _ rfl
    have c1 : W1.cell? ⟨w1.heap.size, 1, none⟩ = some (.int .i64 B) := box_cell g.1 1 _ rfl
    obtain ⟨A1, p1, rfl, r1⟩ := OwnsR.rowP ho1 (by unfold maxLen; omega)
    replace HB := Lib.hid (bThen HB.out g.2)
    clear hb g ho1
    go_wp2_with fail
    refine (implPri_all N B _ hpv).mono ?_
    rintro e W2 ⟨v2, rfl, ho2, hb⟩
    replace c0 := keep hb c0
    replace c1 := keep hb c1
    obtain ⟨A2, p2, rfl, r2⟩ := OwnsR.rowP ho2 (by unfold maxLen; omega)
    have R1 := Lib.hid (r1.below hb)
    have R2 := Lib.hid r2
    replace HB := Lib.hid (bThen HB.out hb)
    have k0 := cell_regrown c0
    have k1 := cell_regrown c1
    clear hb ho2 r1 r2 hpv hmv
    have hcall : ∀ (A : Option Addr) (n c : Nat) (d : Nat) (os : Array Obj), ((A = A1 ∧ n = K.length ∧ c = p1) ∨ (A = A2 ∧ n = L.length ∧ c = p2)) →
        Calls Try.prog 16 #[.int .i64 N, .slice A n c] (Sort.grow (redrawn W2 d) os) fun e w' => e = .returned (.agg #[.int .i64 N, .int .i64 (B : Nat)]) ∧ Below (Sort.grow (redrawn W2 d) os).heap.size (Sort.grow (redrawn W2 d) os) w' := by
      rintro A n c d os (⟨rfl, rfl, rfl⟩ | ⟨rfl, rfl, rfl⟩)
      · exact implCover_at N _ _ _ K _ rfl (R1.out.below (below_regrown _ _ _)) hmw hmcov hmtab
      · exact implCover_at N _ _ _ L _ rfl (R2.out.below (below_regrown _ _ _)) hpw hpcov hptab
    have HCALL := Lib.hid hcall
    clear hcall
    go_wp2
    refine wp_region_quiet_below (by kernel_rfl) (by kernel_rfl) ?_
    repeat (go_big_quiet_step (first | (go_at_call 16; refine Calls.regrown_of (HCALL.out _ _ _ _ _ (by first | exact Or.inl ⟨rfl, rfl, rfl⟩ | exact Or.inr ⟨rfl, rfl, rfl⟩)))))
    refine wpQuiet_nil ?_
    intro _ hw'
    obtain ⟨⟨dq, osq⟩, hw''⟩ := hw'
    subst hw''
    obtain ⟨W3, hW3⟩ : ∃ W3, W3 = Sort.grow (redrawn W2 dq) osq := ⟨_, rfl⟩
    have hb3 : Below W2.heap.size W2 W3 := by rw [hW3]; exact below_regrown _ _ _
    rw [← hW3]
    replace c0 := keep hb3 c0
    replace c1 := keep hb3 c1
    replace R1 := Lib.hid (R1.out.below hb3)
    replace R2 := Lib.hid (R2.out.below hb3)
    replace HB := Lib.hid (bThen HB.out hb3)
    clear hb3 hW3 k0 k1
    have HNN := Lib.hid (And.intro hB hB3)
    clear hB hB3 hm hmw hpw hmcov hpcov hmtab hptab hx0 hx1
    have l0 : w1.heap.size < W3.heap.size := World.block_lt_of_cell? _ _ c0
    go_wp2
    go_loopw [7, 8] (fun f v wr => ∃ k : Nat, k ≤ K.length ∧ v = .int .i64 k ∧ f = .bool ((K.take k).any fun c => hasN c I) ∧ Below W3.heap.size W3 wr) (fun _ v _ => K.length - (intOf v).toNat)
    case atStart => exact ⟨0, Nat.zero_le _, rfl, rfl, Below.refl _ _⟩
    case round =>
      obtain ⟨k, hk, rfl, rfl, hb⟩ := hrel
      have HBr := Lib.hid hb
      replace c0 := keep hb c0
      replace c1 := keep hb c1
      by_cases hkl : k < K.length
      · have hmem := HS.out.2 K[k] (List.getElem_mem hkl)
        obtain ⟨X, Y, hXY, hX, hY, hYX⟩ := HS.out.1 _ hmem
        have hst := any_take (f := fun c => hasN c I) K k hkl
        have hrow1 := (R1.out.below hb).2.2 k hkl
        rw [hXY] at hst hmem hrow1
        have hst2 : ((K.take (k + 1)).any fun c => hasN c I) = (((K.take k).any fun c => hasN c I) || hasN ((X : Int), (Y : Int)) I) := hst
        have hself := any_self L _ hmem
        have hh := hasB_nat N X Y I hN hX hY hYX hIN
        obtain ⟨f, hf⟩ : ∃ f, ((K.take k).any fun c => hasN c I) = f := ⟨_, rfl⟩
        obtain ⟨d, hd⟩ : ∃ d, hasN ((X : Int), (Y : Int)) I = d := ⟨_, rfl⟩
        rw [hf, hd] at hst2
        rw [hd] at hh
        rw [hf]
        have HT := Lib.hid (And.intro hst2 (And.intro hself (And.intro hh (fit_nat Y (by omega)))))
        have HR2 := Lib.hid (R2.out.below hb)
        obtain ⟨b1, o1, rfl, hbl1, y0, y1⟩ := hrow1
        clear hst hst2 hself hh hf hd hb hXY hmem hX hY hYX
        go_wp2
        go_loopw [9, 10] (fun g v wq => ∃ j : Nat, j ≤ L.length ∧ v = .int .i64 j ∧ g = .bool ((L.take j).any fun x => decide (x = ((X : Int), (Y : Int)))) ∧ Below wr.heap.size wr wq) (fun _ v _ => L.length - (intOf v).toNat)
        case atStart => exact ⟨0, Nat.zero_le _, rfl, rfl, Below.refl _ _⟩
        case round =>
          obtain ⟨j, hj, rfl, rfl, hb⟩ := hrel
          have HBq := Lib.hid hb
          replace y0 := keep hb y0
          replace y1 := keep hb y1
          by_cases hjl : j < L.length
          · obtain ⟨b2, o2, rfl, hbl2, z0, z1⟩ := (HR2.out.below hb).2.2 j hjl
            obtain ⟨P, Q, hPQ, hP, hQ, hQP⟩ := HS.out.1 L[j] (List.getElem_mem hjl)
            have hs := any_take (f := fun x => decide (x = ((X : Int), (Y : Int)))) L j hjl
            rw [hPQ] at z0 z1 hs
            have hs2 : ((L.take (j + 1)).any fun x => decide (x = ((X : Int), (Y : Int)))) = (((L.take j).any fun x => decide (x = ((X : Int), (Y : Int)))) || (decide (P = X) && decide (Q = Y))) := by
              rw [hs]; congr 1; rw [Bool.eq_iff_iff]; simp <;> omega
            dsimp only at z0 z1
            obtain ⟨t, ht⟩ : ∃ t, ((L.take j).any fun x => decide (x = ((X : Int), (Y : Int)))) = t := ⟨_, rfl⟩
            rw [ht] at hs2
            rw [ht]
            have HF := Lib.hid hs2
            clear hs hs2 ht hb hPQ hP hQ hQP
            go_wp2
            cases t <;> by_cases h1 : P = X <;> by_cases h2 : Q = Y
            all_goals
              go_quiet (fail)
              go_wp2
              go_roundw
              case rel => exact ⟨j + 1, by omega, by go_num, by rw [HF.out]; simp [h1, h2] <;> omega, by have hB := HBq.out; (repeat' (first | assumption | exact Below.refl _ _ | refine bDrewN ?_ _ | refine Below.drew ?_ | refine bAlloc ?_ (Nat.le_refl _) _ | refine bSet ?_ (by first | exact Nat.le_refl _ | omega | (simp <;> omega)) _))⟩
              case measure => simp [intOf]; omega
          · obtain rfl : j = L.length := by omega
            rw [List.take_length, HT.out.2.1]
            have hB2 := Lib.hid (bThen HBr.out hb)
            replace c0 := keep hb c0
            replace c1 := keep hb c1
            have k0 := cell_regrown c0
            have z0 := cell_regrown y0
            have z1 := cell_regrown y1
            clear hb HBq
            go_wp2
            cases f
            all_goals
              refine wp_region_quiet_below (by kernel_rfl) (by kernel_rfl) ?_
              repeat (go_big_quiet_step (first | (go_at_call 17; refine Calls.regrown_of (implHas_at N X Y I _ HT.out.2.2.2 HT.out.2.2.1))))
              refine wpQuiet_nil ?_
              intro _ hw'
              obtain ⟨⟨dq, osq⟩, hw''⟩ := hw'
              subst hw''
              go_wp2
              go_roundw
              case rel => exact ⟨k + 1, by omega, by go_num, by rw [HT.out.1]; simp, bThen hB2.out (below_regrown _ _ _)⟩
              case measure => simp [intOf]; omega
      · obtain rfl : k = K.length := by omega
        rw [List.take_length, HA.out]
        have HB4 := Lib.hid (bThen HB.out hb)
        clear hb
        obtain ⟨d, hd⟩ : ∃ d, B.testBit I = d := ⟨_, rfl⟩
        have HD := Lib.hid hd
        rw [hd]
        clear hd
        go_wp2_with fail
        refine (specEvalN_at N B I _ hN HNN.out.1 hIN HD.out).mono ?_
        rintro e W5 ⟨rfl, hb⟩
        have R := Lib.hid (bThen HB4.out hb)
        clear hb
        go_wp2
        go_ret
        exact ⟨by simp, R.out⟩
end Go.Proofs.Ytjibjnkabfmgaaa
