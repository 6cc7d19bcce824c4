/-
  The walk of the law FnShannon.
-/
import Derived.Test.YtiikadlcoijcfaaDoorDrawTab
import Derived.Test.YtiikadlcoijcfaaDoorShanMath
import Derived.Test.YtiikadlcoijcfaaDoorTabShr
namespace Go.Proofs.YtiikadlcoijcfaaDoor
open Go.RowKit
set_option linter.unusedVariables false
set_option linter.unusedSimpArgs false

theorem implAnd_at (N x y z : Nat) (w : World) (hN : N ≤ 4) (hx : x ≤ maskN N) (hy : y ≤ maskN N) (hz : x &&& y = z) :
    Calls Tryd.prog 16 #[.agg #[.int .i64 (N : Nat), .int .i64 (x : Nat)], .agg #[.int .i64 (N : Nat), .int .i64 (y : Nat)]] w fun e w' => e = .returned (.agg #[.int .i64 (N : Nat), .int .i64 (z : Nat)]) ∧ Below w.heap.size w w' := by
  have hm := mask_le N (by omega) (by omega)
  have h := implAnd_any N x N y w
  rw [opT_one .and _ _ _ _ (by rw [ok_of N x hN hx, ok_of N y hN hy]; simp), i64_and _ _ (by omega) (by omega), hz] at h
  exact h
theorem implXor_at (N x y z : Nat) (w : World) (hN : N ≤ 4) (hx : x ≤ maskN N) (hy : y ≤ maskN N) (hz : x ^^^ y = z) :
    Calls Tryd.prog 15 #[.agg #[.int .i64 (N : Nat), .int .i64 (x : Nat)], .agg #[.int .i64 (N : Nat), .int .i64 (y : Nat)]] w fun e w' => e = .returned (.agg #[.int .i64 (N : Nat), .int .i64 (z : Nat)]) ∧ Below w.heap.size w w' := by
  have hm := mask_le N (by omega) (by omega)
  have h := implXor_any N x N y w
  rw [opT_one .xor _ _ _ _ (by rw [ok_of N x hN hx, ok_of N y hN hy]; simp), i64_xor _ _ (by omega) (by omega), hz] at h
  exact h
theorem implNot_at (N x z : Nat) (w : World) (hN : N ≤ 4) (hx : x ≤ maskN N) (hz : maskN N - x = z) :
    Calls Tryd.prog 17 #[.agg #[.int .i64 (N : Nat), .int .i64 (x : Nat)]] w fun e w' => e = .returned (.agg #[.int .i64 (N : Nat), .int .i64 (z : Nat)]) ∧ Below w.heap.size w w' := by
  have h := implNot_any N x w
  rw [notT_nat N x (ok_of N x hN hx) hx, hz] at h
  exact h
theorem implVar_at (N K V : Nat) (w : World) (hI : InB w) (hN : N ≤ 4) (hK : K < N) (hV : varN N K = V) :
    Calls Tryd.prog 12 #[.int .i64 N, .int .i64 K] w fun e w' => e = .returned (.tuple #[.agg #[.int .i64 (N : Nat), .int .i64 (V : Nat)], .bool true]) ∧ Below w.heap.size w w' := by
  have h := implVar_any N K w hI
  rw [varT_yes N K hN hK, hV] at h
  exact h
theorem implCof_at (N B K z : Nat) (v : Bool) (w : World) (hI : InB w) (hN : N ≤ 4) (hB : B ≤ maskN N) (hK : K < N) (hz : cofN N B K v = z) :
    Calls Tryd.prog 13 #[.agg #[.int .i64 (N : Nat), .int .i64 (B : Nat)], .int .i64 K, .bool v] w fun e w' => e = .returned (.agg #[.int .i64 (N : Nat), .int .i64 (z : Nat)]) ∧ Below w.heap.size w w' := by
  have h := implCof_any N B K v w hI
  rw [cofT_yes N B K v (ok_of N B hN hB) hK, hz] at h
  exact h
theorem implEvalN_at (N B I : Nat) (d : Bool) (w : World) (hN : N ≤ 4) (hB : B ≤ maskN N) (hI : I < 2 ^ N) (hd : B.testBit I = d) :
    Calls Tryd.prog 18 #[.agg #[.int .i64 (N : Nat), .int .i64 (B : Nat)], .int .i64 I] w fun e w' => e = .returned (.bool d) ∧ Below w.heap.size w w' := by
  refine implEval_at N B I w ?_
  rw [eval_nat N B I (ok_of N B hN hB), decide_eq_true hI, hd]; rfl

set_option maxHeartbeats 12800000 in
theorem shannon_walk (a : Option Addr) (len cap : Nat) (zs : List Int) (w : World) (hw : IsRow .u8 w a len cap zs) (hL : laidMetH Tryd.prog Rows.fnShannonRow.laid w) :
    Calls Tryd.prog 3 #[.slice a len cap] w fun e w' => e = .returned (.bool true) ∧ Below w.heap.size w w' := by
  have hcode := hw.codeW
  have hI : InB w := inB_of hL
  clear hL hw
  by_cases hbig : 1048576 < (len : Int)
  · go_enter Tryd.func3, Tryd.ntmps3
    go_wp2_with fail
    refine (big_any a len cap _).mono ?_
    rw [decide_eq_true (by omega)]
    rintro e w1 ⟨rfl, rfl⟩
    go_wp2
    go_ret
    exact ⟨rfl, Below.refl _ _⟩
  · go_enter Tryd.func3, Tryd.ntmps3
    go_wp2_with fail
    refine (big_any a len cap _).mono ?_
    rw [decide_eq_false (by omega)]
    rintro e w1 ⟨rfl, rfl⟩
    go_wp2_with fail
    refine (draw_any a len cap _ hcode).mono ?_
    rintro e w1 ⟨N, B, I, rfl, hN, hB, hIN, hb⟩
    have hI1 := hI.keep hb
    have HB := Lib.hid hb
    have h16 := pow16 N hN
    have hm := mask_le N (by omega) (by omega)
    have hB3 := ok_lt hB
    clear hcode hb hI
    go_wp2
    obtain ⟨W, hW⟩ : ∃ W, W = (w1.alloc (.cells #[.int .i64 N, .int .i64 B] 25)) := ⟨_, rfl⟩
    rw [← hW]
    have g := eqbox1 hW
    have c0 : W.cell? ⟨w1.heap.size, 0, none⟩ = some (.int .i64 N) := box_cell g.1 0 _ rfl
    have c1 : W.cell? ⟨w1.heap.size, 1, none⟩ = some (.int .i64 B) := box_cell g.1 1 _ rfl
    have hIW := hI1.keep g.2
    replace HB := Lib.hid (bThen HB.out g.2)
    clear hW g hI1
    go_loopw [5, 6, 7, 8, 9] (fun v _ _ _ _ wr => ∃ k : Nat, k ≤ N ∧ v = .int .i64 k ∧ Below W.heap.size W wr) (fun v _ _ _ _ _ => N - (intOf v).toNat)
    case atStart => exact ⟨0, Nat.zero_le _, rfl, Below.refl _ _⟩
    case round =>
      obtain ⟨k, hk, rfl, hbr⟩ := hrel
      have hIr := hIW.keep hbr
      have HBr := Lib.hid hbr
      have t0 := keep hbr c0
      have t1 := keep hbr c1
      clear hbr c0 c1 hIW
      by_cases hlt : k < N
      · obtain ⟨V, hV⟩ : ∃ V, varN N k = V := ⟨_, rfl⟩
        obtain ⟨x, hx⟩ : ∃ x, cofN N B k false = x := ⟨_, rfl⟩
        obtain ⟨y, hy⟩ : ∃ y, cofN N B k true = y := ⟨_, rfl⟩
        have hVm : V ≤ maskN N := by rw [← hV]; exact varN_mask N k
        have hxm : x ≤ maskN N := by rw [← hx]; exact cofN_mask N B k false
        have hym : y ≤ maskN N := by rw [← hy]; exact cofN_mask N B k true
        have hdx : depB N x k = false := by rw [← hx]; exact dep_cof N B k false hN hlt
        have hdy : depB N y k = false := by rw [← hy]; exact dep_cof N B k true hN hlt
        have hsh := shannon N B k hN hlt hB3
        rw [hV, hx, hy] at hsh
        have hone := eval_one N B k I hN hlt hIN
        rw [hx, hy] at hone
        obtain ⟨p, hp⟩ : ∃ p, V &&& y = p := ⟨_, rfl⟩
        obtain ⟨q, hq⟩ : ∃ q, maskN N - V = q := ⟨_, rfl⟩
        rw [hq, hp] at hsh
        obtain ⟨r, hr⟩ : ∃ r, q &&& x = r := ⟨_, rfl⟩
        rw [hr] at hsh
        have hpm : p ≤ maskN N := by rw [← hp]; exact Nat.le_trans Nat.and_le_left hVm
        have hqm : q ≤ maskN N := by omega
        have hrm : r ≤ maskN N := by rw [← hr]; exact Nat.le_trans Nat.and_le_left hqm
        have HP := Lib.hid (And.intro hV (And.intro hx (And.intro hy (And.intro hp (And.intro hq (And.intro hr (And.intro hsh (And.intro hone (And.intro hdx hdy)))))))))
        clear hV hx hy hp hq hr hsh hone hdx hdy
        go_wp2_with fail
        refine (implVar_at N k V _ hIr hN hlt HP.out.1).mono ?_
        rintro e w2 ⟨rfl, hb⟩
        replace t0 := keep hb t0
        replace t1 := keep hb t1
        replace HBr := Lib.hid (bThen HBr.out hb)
        have hI2 := hIr.keep hb
        have l0 : w1.heap.size < w2.heap.size := World.block_lt_of_cell? _ _ t0
        clear hb hIr
        go_wp2_with fail
        refine (implCof_at N B k x false _ (hI2.keep (by (repeat' (first | assumption | exact Below.refl _ _ | refine bDrewN ?_ _ | refine Below.drew ?_ | refine bAlloc ?_ (Nat.le_refl _) _ | refine bSet ?_ (by first | exact Nat.le_refl _ | omega | (simp <;> omega)) _)))) hN hB hlt HP.out.2.1).mono ?_
        rintro e w3 ⟨rfl, hb⟩
        have g := box1 hb
        have v0 : w3.cell? ⟨w2.heap.size, 0, none⟩ = some (.int .i64 N) := box_cell g.1 0 _ rfl
        have v1 : w3.cell? ⟨w2.heap.size, 1, none⟩ = some (.int .i64 V) := box_cell g.1 1 _ rfl
        replace t0 := keep g.2 t0
        replace t1 := keep g.2 t1
        replace HBr := Lib.hid (bThen HBr.out g.2)
        have hI3 := hI2.keep g.2
        replace l0 : w1.heap.size < w3.heap.size := World.block_lt_of_cell? _ _ t0
        have l2 : w2.heap.size < w3.heap.size := World.block_lt_of_cell? _ _ v0
        clear hb hI2 g
        go_wp2_with fail
        refine (implCof_at N B k y true _ (hI3.keep (by (repeat' (first | assumption | exact Below.refl _ _ | refine bDrewN ?_ _ | refine Below.drew ?_ | refine bAlloc ?_ (Nat.le_refl _) _ | refine bSet ?_ (by first | exact Nat.le_refl _ | omega | (simp <;> omega)) _)))) hN hB hlt HP.out.2.2.1).mono ?_
        rintro e w4 ⟨rfl, hb⟩
        have g := box1 hb
        have a0 : w4.cell? ⟨w3.heap.size, 0, none⟩ = some (.int .i64 N) := box_cell g.1 0 _ rfl
        have a1 : w4.cell? ⟨w3.heap.size, 1, none⟩ = some (.int .i64 x) := box_cell g.1 1 _ rfl
        replace t0 := keep g.2 t0
        replace t1 := keep g.2 t1
        replace v0 := keep g.2 v0
        replace v1 := keep g.2 v1
        replace HBr := Lib.hid (bThen HBr.out g.2)
        have hI4 := hI3.keep g.2
        clear hb hI3 g l0 l2
        go_wp2
        obtain ⟨X, hX⟩ : ∃ X, X = (w4.alloc (.cells #[.int .i64 N, .int .i64 y] 25)) := ⟨_, rfl⟩
        rw [← hX]
        have g := eqbox1 hX
        have b0 : ∀ d os, (Sort.grow (redrawn X d) os).cell? ⟨w4.heap.size, 0, none⟩ = some (.int .i64 N) := cell_regrown (box_cell g.1 0 _ rfl)
        have b1 : ∀ d os, (Sort.grow (redrawn X d) os).cell? ⟨w4.heap.size, 1, none⟩ = some (.int .i64 y) := cell_regrown (box_cell g.1 1 _ rfl)
        have t0' := cell_regrown (keep g.2 t0)
        have t1' := cell_regrown (keep g.2 t1)
        have v0' := cell_regrown (keep g.2 v0)
        have v1' := cell_regrown (keep g.2 v1)
        have a0' := cell_regrown (keep g.2 a0)
        have a1' := cell_regrown (keep g.2 a1)
        have hIX := hI4.keep g.2
        replace HBr := Lib.hid (bThen HBr.out g.2)
        have HX := Lib.hid hX
        clear hX g hI4 t0 t1 v0 v1 a0 a1
        refine wp_region_quiet_below (by kernel_rfl) (by kernel_rfl) ?_
        repeat (go_big_quiet_step (first
          | (go_at_call 14; refine Calls.regrown_of (implDep_at N _ k _ (hIX.keep (below_regrown _ _ _)) (by first | exact HP.out.2.2.2.2.2.2.2.2.1 | exact HP.out.2.2.2.2.2.2.2.2.2)))
          | (go_at_call 16; refine Calls.regrown_of (implAnd_at N _ _ _ _ hN (by first | exact hVm | exact hqm) (by first | exact hym | exact hxm) (by first | exact HP.out.2.2.2.1 | exact HP.out.2.2.2.2.2.1)))
          | (go_at_call 17; refine Calls.regrown_of (implNot_at N V q _ hN hVm HP.out.2.2.2.2.1))
          | (go_at_call 15; refine Calls.regrown_of (implXor_at N p r B _ hN hpm hrm HP.out.2.2.2.2.2.2.1))))
        refine wpQuiet_nil ?_
        intro _ hw'
        obtain ⟨⟨dq, osq⟩, hw''⟩ := hw'
        subst hw''
        go_wp2
        obtain ⟨Y, hY⟩ : ∃ Y, Y = Sort.grow (redrawn X dq) osq := ⟨_, rfl⟩
        have hXY : Below X.heap.size X Y := by rw [hY]; exact below_regrown _ _ _
        rw [← hY]
        have k0 := cell_regrown (show Y.cell? ⟨w1.heap.size, 0, none⟩ = some (.int .i64 N) from by rw [hY]; exact t0' _ _)
        have k1 := cell_regrown (show Y.cell? ⟨w1.heap.size, 1, none⟩ = some (.int .i64 B) from by rw [hY]; exact t1' _ _)
        have k2 := cell_regrown (show Y.cell? ⟨w3.heap.size, 0, none⟩ = some (.int .i64 N) from by rw [hY]; exact a0' _ _)
        have k3 := cell_regrown (show Y.cell? ⟨w3.heap.size, 1, none⟩ = some (.int .i64 x) from by rw [hY]; exact a1' _ _)
        have k4 := cell_regrown (show Y.cell? ⟨w4.heap.size, 0, none⟩ = some (.int .i64 N) from by rw [hY]; exact b0 _ _)
        have k5 := cell_regrown (show Y.cell? ⟨w4.heap.size, 1, none⟩ = some (.int .i64 y) from by rw [hY]; exact b1 _ _)
        replace HBr := Lib.hid (bThen HBr.out hXY)
        clear hXY hY b0 b1 t0' t1' v0' v1' a0' a1' hIX
        obtain ⟨tb, htb⟩ : ∃ tb, B.testBit I = tb := ⟨_, rfl⟩
        obtain ⟨xb, hxb⟩ : ∃ xb, x.testBit I = xb := ⟨_, rfl⟩
        obtain ⟨yb, hyb⟩ : ∃ yb, y.testBit I = yb := ⟨_, rfl⟩
        have hor : xb = tb ∨ yb = tb := by rw [← htb, ← hxb, ← hyb]; exact HP.out.2.2.2.2.2.2.2.1
        have HE := Lib.hid (And.intro htb (And.intro hxb hyb))
        clear htb hxb hyb
        have hcase : (xb = tb) ∨ (xb = (!tb) ∧ yb = tb) := by
          rcases hor with h | h
          · exact .inl h
          · cases xb <;> cases tb <;> simp_all
        clear hor
        cases tb
        all_goals
          rcases hcase with rfl | ⟨rfl, rfl⟩
          all_goals
            refine wp_region_quiet_below (by kernel_rfl) (by kernel_rfl) ?_
            repeat (go_big_quiet_step (first
              | (go_at_call 18; refine Calls.regrown_of (implEvalN_at N _ I _ _ hN (by first | exact hB | exact hxm | exact hym) hIN (by first | exact HE.out.1 | exact HE.out.2.1 | exact HE.out.2.2)))))
            refine wpQuiet_nil ?_
            intro _ hw'
            obtain ⟨⟨dq2, osq2⟩, hw''⟩ := hw'
            subst hw''
            go_wp2
            go_roundw
            case rel => exact ⟨k + 1, by omega, by go_num, bThen HBr.out (below_regrown _ _ _)⟩
            case measure => simp [intOf]; omega
      · have hkN : N = k := by omega
        subst hkN
        have k0 := cell_regrown t0
        have k1 := cell_regrown t1
        obtain ⟨z, hz⟩ : ∃ z, maskN N - B = z := ⟨_, rfl⟩
        have hzm : z ≤ maskN N := by omega
        have hz2 : maskN N - z = B := by omega
        have hok := ok_of N B hN hB
        have ev := bit_and1 B I (by omega) (by omega)
        obtain ⟨tb, htb⟩ : ∃ tb, B.testBit I = tb := ⟨_, rfl⟩
        rw [htb] at ev
        have HZ := Lib.hid (And.intro hz (And.intro hz2 (And.intro htb hok)))
        clear hz hz2 htb hok
        cases tb
        all_goals
          simp only [Bool.toNat_false, Bool.toNat_true] at ev
          go_wp2
          refine wp_region_quiet_below (by kernel_rfl) (by kernel_rfl) ?_
          repeat (go_big_quiet_step (first
            | (go_at_call 19; refine Calls.regrown_of (implOk_at N B _ HZ.out.2.2.2))
            | (go_at_call 17; refine Calls.regrown_of (implNot_at N _ _ _ hN (by first | exact hB | exact hzm) (by first | exact HZ.out.1 | exact HZ.out.2.1)))
            | (go_at_call 18; refine Calls.regrown_of (implEvalN_at N B I _ _ hN hB hIN HZ.out.2.2.1))))
          refine wpQuiet_nil ?_
          intro _ hw'
          obtain ⟨⟨dq, osq⟩, hw''⟩ := hw'
          subst hw''
          go_wp2
          go_ret
          exact ⟨rfl, bThen HB.out (bThen HBr.out (below_regrown _ _ _))⟩
end Go.Proofs.YtiikadlcoijcfaaDoor
