/-
  The walk of the law FnImplicantInPrime.
-/
import Derived.Test.YtjibjnkabfmgaaaELaw
import Derived.Test.YtjibjnkabfmgaaaAt
import Derived.Test.YtjibjnkabfmgaaaTabC
namespace Go.Proofs.Ytjibjnkabfmgaaa
open Go.RowKit
set_option linter.unusedVariables false
set_option linter.unusedSimpArgs false

theorem specEvalN_at (N B I : Nat) {d : Bool} (w : World) (hN : N ≤ 4) (hB : B ≤ maskN N) (hI : I < 2 ^ N) (hd : B.testBit I = d) :
    Calls Try.prog 18 #[.agg #[.int .i64 (N : Nat), .int .i64 (B : Nat)], .int .i64 I] w fun e w' => e = .returned (.bool d) ∧ Below w.heap.size w w' := by
  have h := specEval_any N B I w
  rw [eval_nat N B I (ok_of N B hN hB), decide_eq_true hI, hd] at h
  exact h

theorem primesV_nat {N B : Nat} (h : okB N B = true) : primesV N B = primesL N B := by unfold primesV; rw [if_pos h]; rfl
theorem minV_nat {N B : Nat} (h : okB N B = true) : minV N B = minL N B := by unfold minV; rw [if_pos h]; rfl
theorem any_take {f : Int × Int → Bool} (L : List (Int × Int)) (k : Nat) (hk : k < L.length) : (L.take (k + 1)).any f = ((L.take k).any f || f L[k]) := by
  rw [List.take_add_one, List.getElem?_eq_getElem hk, List.any_append]; simp

set_option maxHeartbeats 3200000 in
theorem implicant_walk (a : Option Addr) (len cap : Nat) (zs : List Int) (w : World) (hw : IsRow .u8 w a len cap zs) :
    Calls Try.prog 5 #[.slice a len cap] w fun e w' => e = .returned (.bool true) ∧ Below w.heap.size w w' := by
  have hcode := hw.codeW
  clear hw
  by_cases hbig : 1048576 < (len : Int)
  · go_enter Try.func5, Try.ntmps5
    go_wp2_with fail
    refine (big_any a len cap _).mono ?_
    rw [decide_eq_true (by omega)]
    rintro e w1 ⟨rfl, rfl⟩
    go_wp2
    go_ret
    exact ⟨rfl, Below.refl _ _⟩
  · obtain ⟨x0, hx0, hat0⟩ := at_ex a len cap 0 w hcode (by omega)
    obtain ⟨x1, hx1, hat1⟩ := at_ex a len cap 1 w hcode (by omega)
    go_enter Try.func5, Try.ntmps5
    go_wp2_with fail
    refine (big_any a len cap _).mono ?_
    rw [decide_eq_false (by omega)]
    rintro e w1 ⟨rfl, rfl⟩
    go_wp2_with fail
    refine (draw_any a len cap _ hcode).mono ?_
    rintro e w1 ⟨N, B, I, rfl, hN, hB, hIN, hb⟩
    have HB := Lib.hid hb
    have h16 := pow16 N hN
    have hm := mask_le N (by omega) (by omega)
    have hB3 := ok_lt hB
    have hB5 : B ≤ 65535 := Nat.le_trans hB hm
    have hok := ok_of N B hN hB
    clear hcode hb
    go_wp2
    obtain ⟨W, hW⟩ : ∃ W, W = (w1.alloc (.cells #[.int .i64 N, .int .i64 B] 25)) := ⟨_, rfl⟩
    rw [← hW]
    have g := eqbox1 hW
    have c0 : W.cell? ⟨w1.heap.size, 0, none⟩ = some (.int .i64 N) := box_cell g.1 0 _ rfl
    have c1 : W.cell? ⟨w1.heap.size, 1, none⟩ = some (.int .i64 B) := box_cell g.1 1 _ rfl
    replace HB := Lib.hid (bThen HB.out g.2)
    clear hW g
    have HN := Lib.hid (And.intro hB hB3)
    clear hB hB3 hm
    have hp0 : 0 < 2 ^ N := Nat.pow_pos (by omega)
    obtain ⟨M, hM⟩ : ∃ M : Nat, M = 2 ^ N := ⟨_, rfl⟩
    have e1 : IntKind.i64.wrap ((2 : Int) ^ N) = (M : Int) := by rw [pow_cast, wrap64_small _ (by omega)]; omega
    have hXl : x0 % M < M := Nat.mod_lt _ (by omega)
    obtain ⟨X, hX⟩ : ∃ X, x0 % M = X := ⟨_, rfl⟩
    have e2 : (x0 : Int) % (M : Int) = (X : Int) := by rw [← hX, Int.natCast_emod]
    rw [hX] at hXl
    have hM0 : ¬ (M : Int) = 0 := by omega
    have k0 := cell_regrown c0
    have k1 := cell_regrown c1
    have H0 := Lib.hid hat0
    have H1 := Lib.hid hat1
    have HM := Lib.hid hM
    clear hat0 hat1 hM hX
    refine wp_region_quiet_below (by kernel_rfl) (by kernel_rfl) ?_
    repeat (go_big_quiet_step (first | (go_at_call 20; refine Calls.regrown_of (H0.out _ (bThen HB.out (below_regrown _ _ _))))))
    refine wpQuiet_nil ?_
    intro _ hw'
    obtain ⟨⟨dq, osq⟩, hw''⟩ := hw'
    subst hw''
    obtain ⟨W2, hW2⟩ : ∃ W2, W2 = Sort.grow (redrawn W dq) osq := ⟨_, rfl⟩
    have hb2 : Below W.heap.size W W2 := by rw [hW2]; exact below_regrown _ _ _
    rw [← hW2]
    replace c0 := keep hb2 c0
    replace c1 := keep hb2 c1
    replace HB := Lib.hid (bThen HB.out hb2)
    have hM := HM.out
    have hXN : X < 2 ^ N := by omega
    have eY := i64_and x1 X (by omega) (by omega)
    have hYX : x1 &&& X ≤ X := Nat.and_le_right
    have hv0 : andNot (x1 &&& X) X = 0 := by
      rw [andNot_and _ _ (by omega) (by omega), Nat.and_comm, Nat.and_assoc, Nat.and_self]
    obtain ⟨Y, hY⟩ : ∃ Y, x1 &&& X = Y := ⟨_, rfl⟩
    rw [hY] at eY hYX hv0
    have hYN : Y < 2 ^ N := by omega
    have l1 : w1.heap.size < W2.heap.size := World.block_lt_of_cell? _ _ c0
    clear hb2 hW2 k0 k1 H0 hY hM
    go_wp2_with fail
    refine (H1.out _ HB.out).mono ?_
    rintro e W3 ⟨rfl, hb⟩
    replace c0 := keep hb c0
    replace c1 := keep hb c1
    replace HB := Lib.hid (bThen HB.out hb)
    clear hb H1 l1
    go_wp2
    obtain ⟨V, hV⟩ : ∃ V, V = W3.alloc (.cells #[.int .i64 X, .int .i64 Y] 32) := ⟨_, rfl⟩
    rw [← hV]
    have g := eqbox1 hV
    have d0 : V.cell? ⟨W3.heap.size, 0, none⟩ = some (.int .i64 X) := box_cell g.1 0 _ rfl
    have d1 : V.cell? ⟨W3.heap.size, 1, none⟩ = some (.int .i64 Y) := box_cell g.1 1 _ rfl
    replace c0 := keep g.2 c0
    replace c1 := keep g.2 c1
    replace HB := Lib.hid (bThen HB.out g.2)
    clear hV g
    have es : wrap64 ((2 : Int) ^ N) = (M : Int) := by rw [pow_cast, w64_nat _ (by omega)]; have := HM.out; omega
    clear e1 e2 eY hM0 hXl hx0 hx1 hYX
    go_loopw [7, 8] (fun f v wr => ∃ i : Nat, i ≤ M ∧ v = .int .i64 i ∧ f = .bool (impP B X Y i) ∧ Below V.heap.size V wr) (fun _ v _ => M - (intOf v).toNat)
    case atStart => exact ⟨0, Nat.zero_le _, rfl, rfl, Below.refl _ _⟩
    case round =>
      obtain ⟨i, hi, rfl, rfl, hb⟩ := hrel
      replace c0 := keep hb c0
      replace c1 := keep hb c1
      replace d0 := keep hb d0
      replace d1 := keep hb d1
      have HBr := Lib.hid hb
      clear hb
      by_cases hlt : i < M
      · have hiN : i < 2 ^ N := Nat.lt_of_lt_of_eq hlt HM.out
        have hst := impP_step B X Y i
        have hh := hasB_nat N X Y i hN hXN hYN hv0 hiN
        obtain ⟨d, hd⟩ : ∃ d, hasN ((X : Int), (Y : Int)) i = d := ⟨_, rfl⟩
        have hd2 : decide (i &&& X = Y) = d := hd
        rw [hd] at hh
        obtain ⟨f, hf⟩ : ∃ f, impP B X Y i = f := ⟨_, rfl⟩
        obtain ⟨tb, htb⟩ : ∃ tb, B.testBit i = tb := ⟨_, rfl⟩
        rw [hd2, hf, htb] at hst
        rw [hf]
        have HS := Lib.hid (And.intro hh (And.intro htb hst))
        clear hst hh hd hd2 hf htb
        cases d
        · go_wp2_with fail
          refine (specHas_at N X Y i _ HS.out.1).mono ?_
          rintro e w4 ⟨rfl, hb⟩
          have R := Lib.hid (bThen HBr.out hb)
          clear hb
          go_wp2
          go_roundw
          case rel => exact ⟨i + 1, by omega, by go_num, by rw [HS.out.2.2]; simp, R.out⟩
          case measure => simp [intOf]; omega
        · go_wp2_with fail
          refine (specHas_at N X Y i _ HS.out.1).mono ?_
          rintro e w4 ⟨rfl, hb⟩
          replace c0 := keep hb c0
          replace c1 := keep hb c1
          replace HBr := Lib.hid (bThen HBr.out hb)
          clear hb
          go_wp2_with fail
          refine (specEvalN_at N B i _ hN HN.out.1 hiN HS.out.2.1).mono ?_
          rintro e w5 ⟨rfl, hb⟩
          have R := Lib.hid (bThen HBr.out hb)
          clear hb
          cases tb
          all_goals
            go_wp2
            go_roundw
            case rel => exact ⟨i + 1, by omega, by go_num, by rw [HS.out.2.2]; simp, R.out⟩
            case measure => simp [intOf]; omega
      · obtain rfl : i = M := by omega
        have hfin : impP B X Y i = impB N B X Y := by unfold impB; rw [HM.out]
        have hpr := in_prime N B X Y hN hXN hYN hv0
        have hfew := primes_few N B hN
        have hpv := primesV_nat hok
        have hsm : ∀ c ∈ primesL N B, ∃ P Q : Nat, c = ((P : Int), (Q : Int)) ∧ P < 2 ^ N ∧ Q < 2 ^ N ∧ andNot Q P = 0 := fun c hc => by
          obtain ⟨P, Q, e, hP, hQ, hp⟩ := primes_mem.1 hc
          exact ⟨P, Q, e, hP, hQ, prime_val hp⟩
        obtain ⟨L, hL⟩ : ∃ L, primesL N B = L := ⟨_, rfl⟩
        obtain ⟨f, hf⟩ : ∃ f, impB N B X Y = f := ⟨_, rfl⟩
        rw [hL] at hpr hfew hsm hpv
        rw [hf] at hpr hfin
        rw [hfin]
        have HS := Lib.hid (And.intro hsm hpr)
        clear hsm hpr hL hf hfin
        have l1 : W3.heap.size < wr.heap.size := World.block_lt_of_cell? _ _ d0
        have l2 : w1.heap.size < wr.heap.size := World.block_lt_of_cell? _ _ c0
        go_wp2_with fail
        refine (implPri_all N B _ hpv).mono ?_
        rintro e W4 ⟨v, rfl, ho, hb⟩
        replace c0 := keep hb c0
        replace c1 := keep hb c1
        replace d0 := keep hb d0
        replace d1 := keep hb d1
        obtain ⟨A, p, rfl, hr⟩ := OwnsR.rowP ho (by unfold maxLen; omega)
        have HR := Lib.hid hr
        replace HBr := Lib.hid (bThen HB.out (bThen HBr.out hb))
        clear hb ho hr l1 l2 es hi hlt hp0 HB hpv
        go_wp2
        go_loopw [10, 11] (fun g v wq => ∃ k : Nat, k ≤ L.length ∧ v = .int .i64 k ∧ g = .bool ((L.take k).any fun c => inside c.1.toNat c.2.toNat X Y) ∧ Below W4.heap.size W4 wq) (fun _ v _ => L.length - (intOf v).toNat)
        case atStart => exact ⟨0, Nat.zero_le _, rfl, rfl, Below.refl _ _⟩
        case round =>
          obtain ⟨k, hk, rfl, rfl, hb⟩ := hrel
          have HBq := Lib.hid hb
          replace c0 := keep hb c0
          replace c1 := keep hb c1
          replace d0 := keep hb d0
          replace d1 := keep hb d1
          by_cases hkl : k < L.length
          · obtain ⟨b, o, rfl, hbl, x0, x1⟩ := (HR.out.below hb).2.2 k hkl
            obtain ⟨P, Q, hPQ, hP, hQ, hQP⟩ := HS.out.1 L[k] (List.getElem_mem hkl)
            have hst := any_take (f := fun c => inside c.1.toNat c.2.toNat X Y) L k hkl
            rw [hPQ] at x0 x1 hst
            have hst2 : ((L.take (k + 1)).any fun c => inside c.1.toNat c.2.toNat X Y) = (((L.take k).any fun c => inside c.1.toNat c.2.toNat X Y) || (decide (andNot P X = 0) && decide (Y &&& P = Q))) := hst
            obtain ⟨t, ht⟩ : ∃ t, ((L.take k).any fun c => inside c.1.toNat c.2.toNat X Y) = t := ⟨_, rfl⟩
            have e1 := i64_andNot P X (by omega) (by omega)
            have e2 := i64_and Y P (by omega) (by omega)
            obtain ⟨q, hq⟩ : ∃ q, andNot P X = q := ⟨_, rfl⟩
            obtain ⟨r, hr⟩ : ∃ r, Y &&& P = r := ⟨_, rfl⟩
            rw [ht, hq, hr] at hst2
            rw [hq] at e1
            rw [hr] at e2
            rw [ht]
            have hcub := cubeB_nat hN hP hQ
            rw [decide_eq_true hQP] at hcub
            have HT := Lib.hid (And.intro hst2 (And.intro hcub (fit_nat Q (by omega))))
            have k0 := cell_regrown c0
            have k1 := cell_regrown x0
            have k2 := cell_regrown x1
            clear hst hst2 ht hq hr hcub hPQ hb hP hQ hQP
            go_wp2
            refine wp_region_quiet_below (by kernel_rfl) (by kernel_rfl) ?_
            repeat (go_big_quiet_step (first | (go_at_call 22; refine Calls.regrown_of (implCube_at _ _ _ _ HT.out.2.2 HT.out.2.1))))
            refine wpQuiet_nil ?_
            intro _ hw'
            obtain ⟨⟨dq, osq⟩, hw''⟩ := hw'
            subst hw''
            obtain ⟨W5, hW5⟩ : ∃ W5, W5 = Sort.grow (redrawn wr dq) osq := ⟨_, rfl⟩
            have hb5 : Below wr.heap.size wr W5 := by rw [hW5]; exact below_regrown _ _ _
            rw [← hW5]
            replace d0 := keep hb5 d0
            replace d1 := keep hb5 d1
            replace x0 := keep hb5 x0
            replace x1 := keep hb5 x1
            replace HBq := Lib.hid (bThen HBq.out hb5)
            clear hb5 hW5 k0 k1 k2
            go_wp2
            have HF : ((L.take (k + 1)).any fun c => inside c.1.toNat c.2.toNat X Y) = (t || (decide (q = 0) && decide (r = Q))) := HT.out.1
            cases t <;> by_cases hq0 : q = 0 <;> by_cases hrQ : r = Q
            all_goals
              go_quiet (fail)
              go_wp2
              go_roundw
              case rel => exact ⟨k + 1, by omega, by go_num, by rw [HF]; simp [hq0, hrQ] <;> omega, by have hB := HBq.out; (repeat' (first | assumption | exact Below.refl _ _ | refine bDrewN ?_ _ | refine Below.drew ?_ | refine bAlloc ?_ (Nat.le_refl _) _ | refine bSet ?_ (by first | exact Nat.le_refl _ | omega | (simp <;> omega)) _))⟩
              case measure => simp [intOf]; omega
          · obtain rfl : k = L.length := by omega
            rw [List.take_length, HS.out.2]
            go_wp2
            go_ret
            exact ⟨by simp, bThen HBr.out HBq.out⟩
end Go.Proofs.Ytjibjnkabfmgaaa
