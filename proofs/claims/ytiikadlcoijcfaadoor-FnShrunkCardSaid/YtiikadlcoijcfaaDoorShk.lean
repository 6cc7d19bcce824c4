/-
  The walk of the law FnShrunk.
-/
import Derived.Test.YtiikadlcoijcfaaDoorShkMath
import Derived.Test.YtiikadlcoijcfaaDoorTabShrL
import Derived.Test.YtiikadlcoijcfaaDoorShan
namespace Go.Proofs.YtiikadlcoijcfaaDoor
open Go.RowKit
set_option linter.unusedVariables false
set_option linter.unusedSimpArgs false

set_option maxHeartbeats 400000 in
theorem sameI_any (B1 B2 : Nat) (a b : Value) (L : List Int) (w : World) (ha : OwnsI w B1 a L) (hb : OwnsI w B2 b L) (hl : L.length ≤ 1000000) :
    Calls Tryd.prog 21 #[a, b] w fun e w' => e = .returned (.bool true) ∧ Below w.heap.size w w' := by
  obtain ⟨A, c, rfl, hA⟩ := ha.shape
  obtain ⟨A', c', rfl, hA'⟩ := hb.shape
  clear ha hb
  have HA := Lib.hid hA
  have HA' := Lib.hid hA'
  clear hA hA'
  go_enter Tryd.func21, Tryd.ntmps21
  go_wp2
  go_loopw [5] (fun i wr => ∃ k : Nat, k ≤ L.length ∧ i = .int .i64 k ∧ Below w.heap.size w wr) (fun i _ => L.length - (intOf i).toNat)
  case atStart => exact ⟨0, Nat.zero_le _, rfl, Below.refl _ _⟩
  case round =>
    obtain ⟨k, hk, rfl, hbel⟩ := hrel
    by_cases hlt : k < L.length
    · obtain ⟨g, rfl, h1, _⟩ := HA.out k hlt
      obtain ⟨g', rfl, h2, _⟩ := HA'.out k hlt
      have c1 := (hbel.cell (p := ⟨g, k, none⟩) (World.block_lt_of_cell? w _ h1)).trans h1
      have c2 := (hbel.cell (p := ⟨g', k, none⟩) (World.block_lt_of_cell? w _ h2)).trans h2
      have HB := Lib.hid hbel
      generalize L.getD k 0 = x at c1 c2
      clear h1 h2 HA HA' hbel
      go_wp2
      go_quiet (fail)
      go_wp2
      go_roundw
      case rel => exact ⟨k + 1, by omega, by go_num, HB.out.trans ⟨rfl, rfl, rfl, Nat.le_refl _, fun _ _ => rfl⟩⟩
      case measure => simp [intOf]; omega
    · have HB := Lib.hid hbel
      clear hbel
      go_wp2
      go_ret
      exact ⟨rfl, HB.out⟩


theorem implShrN_at (N B : Nat) (L : List Nat) (sb : Nat) (w : World) (hI : InB w) (hN : N ≤ 4) (hB : B ≤ maskN N) (hL : supN N B = L) (hs : shrB B L = sb) :
    Calls Tryd.prog 20 #[.agg #[.int .i64 (N : Nat), .int .i64 (B : Nat)]] w fun e w' => ∃ v, e = .returned (.tuple #[.agg #[.int .i64 (L.length : Nat), .int .i64 (sb : Nat)], v]) ∧ OwnsI w' w.heap.size v (L.map fun k : Nat => (k : Int)) ∧ Below w.heap.size w w' := by
  have h := implShr_any N B w hI
  unfold ShrPost at h
  rw [shrT_yes (ok_of N B hN hB), supI_supN, hL, hs] at h
  exact h
theorem implSupN_at (N B : Nat) (L : List Nat) (w : World) (hI : InB w) (hL : supN N B = L) :
    Calls Tryd.prog 22 #[.agg #[.int .i64 (N : Nat), .int .i64 (B : Nat)]] w fun e w' => ∃ v, e = .returned v ∧ OwnsI w' w.heap.size v (L.map fun k : Nat => (k : Int)) ∧ Below w.heap.size w w' := by
  have h := implSup_any N B w hI
  unfold SupPost at h
  rw [supI_supN, hL] at h
  exact h

set_option maxHeartbeats 12800000 in
theorem shrunk_walk (a : Option Addr) (len cap : Nat) (zs : List Int) (w : World) (hw : IsRow .u8 w a len cap zs) (hL : laidMetH Tryd.prog Rows.fnShrunkRow.laid w) :
    Calls Tryd.prog 4 #[.slice a len cap] w fun e w' => e = .returned (.bool true) ∧ Below w.heap.size w w' := by
  have hcode := hw.codeW
  have hI : InB w := inB_of hL
  clear hL hw
  by_cases hbig : 1048576 < (len : Int)
  · go_enter Tryd.func4, Tryd.ntmps4
    go_wp2_with fail
    refine (big_any a len cap _).mono ?_
    rw [decide_eq_true (by omega)]
    rintro e w1 ⟨rfl, rfl⟩
    go_wp2
    go_ret
    exact ⟨rfl, Below.refl _ _⟩
  · go_enter Tryd.func4, Tryd.ntmps4
    go_wp2_with fail
    refine (big_any a len cap _).mono ?_
    rw [decide_eq_false (by omega)]
    rintro e w1 ⟨rfl, rfl⟩
    go_wp2_with fail
    refine (draw_any a len cap _ hcode).mono ?_
    rintro e w1 ⟨N, B, I, rfl, hN, hB, hIN, hb⟩
    have hI1 := hI.keep hb
    have HB := Lib.hid hb
    have h16 := pow16 N hN
    have hok := ok_of N B hN hB
    obtain ⟨h4, hsm, hslt⟩ := shr_ok N B hN
    obtain ⟨hr1, hr2⟩ := shr_again N B hN hok
    have hval := fun i hi => shr_value N B i hN hok hi
    have hmem := fun k hk => (sup_mem N B k hk).1
    have hgl := fun i p hi hp => (supN_fil N B ▸ gath_lt _ _ _ _ i p hi hp : gath i (supN N B) p < 2 ^ p)
    obtain ⟨L, hLL⟩ : ∃ L, supN N B = L := ⟨_, rfl⟩
    rw [hLL] at h4 hsm hslt hr1 hr2 hval hmem hgl
    obtain ⟨sb, hsb⟩ : ∃ sb, shrB B L = sb := ⟨_, rfl⟩
    rw [hsb] at hsm hslt hr1 hr2 hval
    have HM := Lib.hid (And.intro hLL (And.intro hsb (And.intro hr1 (And.intro hr2 (And.intro hval (And.intro hmem (And.intro hgl hok)))))))
    clear hcode hb hI hLL hsb hr1 hr2 hval hmem hgl hok hslt
    go_wp2_with fail
    refine (implShrN_at N B L sb _ (hI1.keep (by (repeat' (first | assumption | exact Below.refl _ _ | refine bDrewN ?_ _ | refine Below.drew ?_ | refine bAlloc ?_ (Nat.le_refl _) _ | refine bSet ?_ (by first | exact Nat.le_refl _ | omega | (simp <;> omega)) _)))) hN hB HM.out.1 HM.out.2.1).mono ?_
    rintro e w2 ⟨v1, rfl, ho, hb⟩
    have g := box1 hb
    have t0 : w2.cell? ⟨w1.heap.size, 0, none⟩ = some (.int .i64 N) := box_cell g.1 0 _ rfl
    have t1 : w2.cell? ⟨w1.heap.size, 1, none⟩ = some (.int .i64 B) := box_cell g.1 1 _ rfl
    have hI2 := hI1.keep g.2
    replace HB := Lib.hid (bThen HB.out g.2)
    obtain ⟨A, c, rfl, _⟩ := ho.shape
    rw [List.length_map] at ho ⊢
    have HO := Lib.hid ho
    have l1 : w1.heap.size < w2.heap.size := World.block_lt_of_cell? _ _ t0
    clear hb g ho hI1
    go_wp2_with fail
    refine (implOk_at (L.length : Nat) (sb : Nat) _ (ok_of _ _ h4 hsm)).mono ?_
    rintro e w3 ⟨rfl, hb⟩
    have g := box1 hb
    have s0 : w3.cell? ⟨w2.heap.size, 0, none⟩ = some (.int .i64 (L.length : Nat)) := box_cell g.1 0 _ rfl
    have s1 : w3.cell? ⟨w2.heap.size, 1, none⟩ = some (.int .i64 (sb : Nat)) := box_cell g.1 1 _ rfl
    replace t0 := keep g.2 t0
    replace t1 := keep g.2 t1
    have hI3 := hI2.keep g.2
    replace HB := Lib.hid (bThen HB.out g.2)
    replace HO := Lib.hid (HO.out.below g.2)
    clear hb g hI2 l1
    go_wp2_with fail
    refine (implSupN_at N B L _ hI3 HM.out.1).mono ?_
    rintro e w4 ⟨v2, rfl, ho, hb⟩
    replace t0 := keep hb t0
    replace t1 := keep hb t1
    replace s0 := keep hb s0
    replace s1 := keep hb s1
    have hI4 := hI3.keep hb
    replace HB := Lib.hid (bThen HB.out hb)
    replace HO := Lib.hid (HO.out.below hb)
    have HO2 := Lib.hid ho
    clear hb hI3 ho
    go_wp2_with fail
    refine (sameI_any _ _ (.slice A L.length c) v2 (L.map fun k : Nat => (k : Int)) _ HO.out HO2.out (by simp; omega)).mono ?_
    rintro e w5 ⟨rfl, hb⟩
    replace t0 := keep hb t0
    replace t1 := keep hb t1
    replace s0 := keep hb s0
    replace s1 := keep hb s1
    have hI5 := hI4.keep hb
    replace HB := Lib.hid (bThen HB.out hb)
    replace HO := Lib.hid (HO.out.below hb)
    have e1 := shl_one N hN
    clear hb hI4 HO2
    go_wp2
    go_loopw [7, 8, 9] (fun v _ _ wr => ∃ i : Nat, i ≤ 2 ^ N ∧ v = .int .i64 i ∧ Below w5.heap.size w5 wr) (fun v _ _ _ => 2 ^ N - (intOf v).toNat)
    case atStart => exact ⟨0, Nat.zero_le _, rfl, Below.refl _ _⟩
    case round =>
      obtain ⟨i, hi, rfl, hbr⟩ := hrel
      have hIr := hI5.keep hbr
      have HBr := Lib.hid hbr
      have HOr := Lib.hid (HO.out.below hbr)
      replace t0 := keep hbr t0
      replace t1 := keep hbr t1
      replace s0 := keep hbr s0
      replace s1 := keep hbr s1
      clear hbr hI5
      by_cases hlt : i < 2 ^ N
      · have q1 : (i : Int) < 2 ^ N := by rw [pow_cast]; omega
        obtain ⟨A2, c2, hv2, hA⟩ := HOr.out.shape
        rw [List.length_map] at hA hv2
        injection hv2 with e1' e2' e3'
        subst e1' e3'
        have HA := Lib.hid hA
        clear hA
        go_wp2
        go_loopw [8, 9] (fun s k wq => ∃ p : Nat, p ≤ L.length ∧ k = .int .i64 p ∧ s = .int .i64 (gath i L p : Nat) ∧ Below wr.heap.size wr wq) (fun _ k _ => L.length - (intOf k).toNat)
        case atStart => exact ⟨0, Nat.zero_le _, rfl, rfl, Below.refl _ _⟩
        case round =>
          obtain ⟨p, hp, rfl, rfl, hq⟩ := hrel
          have HQ := Lib.hid hq
          replace t0 := keep hq t0
          replace t1 := keep hq t1
          replace s0 := keep hq s0
          replace s1 := keep hq s1
          by_cases hpl : p < L.length
          · obtain ⟨g, rfl, h1, _⟩ := HA.out p hpl
            rw [map_getD L p hpl] at h1
            have k1 := keep hq h1
            have h3 := HM.out.2.2.2.2.2.1 p hpl
            have ev1 := bit_and1 i (L.getD p 0) (by omega) (by omega)
            have hx1 := bit_le1 i (L.getD p 0)
            have ev2 := shl_bit _ p hx1 (by omega)
            have hgl := HM.out.2.2.2.2.2.2.1 i (p + 1) (by omega) (by omega)
            have hp32 : 2 ^ (p + 1) ≤ 2 ^ 5 := Nat.pow_le_pow_right (by omega) (by omega)
            have hst : gath i L (p + 1) = gath i L p + (i.testBit (L.getD p 0)).toNat * 2 ^ p := rfl
            obtain ⟨x, hx⟩ : ∃ x, (i.testBit (L.getD p 0)).toNat = x := ⟨_, rfl⟩
            rw [hx] at ev1 ev2 hst hx1
            obtain ⟨q, hqq⟩ : ∃ q, L.getD p 0 = q := ⟨_, rfl⟩
            rw [hqq] at k1 h3 ev1
            obtain ⟨y, hyy⟩ : ∃ y, x * 2 ^ p = y := ⟨_, rfl⟩
            rw [hyy] at hst ev2
            have ev3 : IntKind.i64.wrap (((gath i L p : Nat) : Int) + ((y : Nat) : Int)) = ((gath i L (p + 1) : Nat) : Int) := by rw [← Int.natCast_add, wrap64_small _ (by omega), hst]
            have ev4 : ((gath i L p : Nat) : Int) + ((y : Nat) : Int) = ((gath i L (p + 1) : Nat) : Int) := by omega
            have j1 : ¬ (q : Int) < 0 := by omega
            have j2 : ¬ (N : Int) ≤ (q : Int) := by omega
            clear h1 hq hst hyy hx hqq
            go_wp2
            go_quiet (fail)
            go_wp2
            go_roundw
            case rel => exact ⟨p + 1, by omega, by go_num, rfl, (by have hB := HQ.out; (repeat' (first | assumption | exact Below.refl _ _ | refine bDrewN ?_ _ | refine Below.drew ?_ | refine bAlloc ?_ (Nat.le_refl _) _ | refine bSet ?_ (by first | exact Nat.le_refl _ | omega | (simp <;> omega)) _)))⟩
            case measure => simp [intOf]; omega
          · obtain rfl : p = L.length := by omega
            obtain ⟨hgl, hval⟩ := HM.out.2.2.2.2.1 i hlt
            obtain ⟨tb, htb⟩ : ∃ tb, B.testBit i = tb := ⟨_, rfl⟩
            rw [htb] at hval
            have HE := Lib.hid (And.intro htb hval)
            have s0' := cell_regrown s0
            have s1' := cell_regrown s1
            have t0' := cell_regrown t0
            have t1' := cell_regrown t1
            clear htb hval hq s0 s1 t0 t1
            go_wp2
            cases tb
            all_goals
              refine wp_region_quiet_below (by kernel_rfl) (by kernel_rfl) ?_
              repeat (go_big_quiet_step (first
                | (go_at_call 18; refine Calls.regrown_of (implEvalN_at _ _ _ _ _ (by first | exact h4 | exact hN) (by first | exact hsm | exact hB) (by first | exact hgl | exact hlt) (by first | exact HE.out.2 | exact HE.out.1)))))
              refine wpQuiet_nil ?_
              intro _ hw'
              obtain ⟨⟨dq, osq⟩, hw''⟩ := hw'
              subst hw''
              go_wp2
              go_roundw
              case rel => exact ⟨i + 1, by omega, by go_num, bThen HBr.out (bThen HQ.out (below_regrown _ _ _))⟩
              case measure => simp [intOf]; omega
      · have q1 : ¬ (i : Int) < 2 ^ N := by rw [pow_cast]; omega
        obtain rfl : i = 2 ^ N := by omega
        go_wp2_with fail
        refine (implShrN_at L.length sb (List.range L.length) sb _ hIr h4 hsm HM.out.2.2.1 HM.out.2.2.2.1).mono ?_
        rintro e w6 ⟨v3, rfl, ho, hb⟩
        rw [List.length_range]
        replace s0 := keep hb s0
        replace s1 := keep hb s1
        obtain ⟨A3, c3, rfl, _⟩ := ho.shape
        rw [List.length_map, List.length_range]
        have ls : w2.heap.size < w6.heap.size := World.block_lt_of_cell? _ _ s0
        have HBe := Lib.hid (bThen HB.out (bThen HBr.out hb))
        clear hb ho
        go_wp2
        go_ret
        have hB := HBe.out
        exact ⟨rfl, by (repeat' (first | assumption | exact Below.refl _ _ | refine bDrewN ?_ _ | refine Below.drew ?_ | refine bAlloc ?_ (Nat.le_refl _) _ | refine bSet ?_ (by first | exact Nat.le_refl _ | omega | (simp <;> omega)) _))⟩
end Go.Proofs.YtiikadlcoijcfaaDoor
