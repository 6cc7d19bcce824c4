/-
  The walks of the exact laws over operators.
-/
import Derived.Test.YtllddjkdjdohhaaSOps
import Derived.Test.YtllddjkdjdohhaaIOps
import Derived.Test.YtllddjkdjdohhaaDzOp
namespace Go.Proofs.Ytllddjkdjdohhaa
open Go.RowKit
set_option linter.unusedVariables false
set_option linter.unusedSimpArgs false
theorem specOps_at (n : Int) (L : List DOp) (v : Value) {B T : Nat} {d : Bool} (w : World) (h : rdOpS B T w [v] L) (hT : T ≤ w.heap.size) (hd : opsB n L = d) :
    Calls Try.prog 21 #[v, .int .i64 n] w fun e w' => e = .returned (.bool d) ∧ Below w.heap.size w w' := by subst hd; exact specOps_any n L v w h hT
theorem implOps_at (n : Int) (L : List DOp) (v : Value) {B T : Nat} {d : Bool} (w : World) (h : rdOpS B T w [v] L) (hT : T ≤ w.heap.size) (hd : opsB n L = d) :
    Calls Try.prog 22 #[v, .int .i64 n] w fun e w' => e = .returned (.bool d) ∧ Below w.heap.size w w' := by subst hd; exact implOps_any n L v w h hT
theorem specArity_bel (k : Int) {a : Int} (w : World) (h : arityI k = a) : Calls Try.prog 23 #[.int .i64 k] w fun e w' => e = .returned (.int .i64 a) ∧ Below w.heap.size w w' :=
  (specArity_at k w h).mono fun _ _ ⟨h, e⟩ => ⟨h, e ▸ Below.refl _ _⟩
theorem implArity_bel (k : Int) {a : Int} (w : World) (h : arityI k = a) : Calls Try.prog 24 #[.int .i64 k] w fun e w' => e = .returned (.int .i64 a) ∧ Below w.heap.size w w' :=
  (implArity_at k w h).mono fun _ _ ⟨h, e⟩ => ⟨h, e ▸ Below.refl _ _⟩

set_option maxHeartbeats 6400000 in
theorem exactOpArity_walk (k : Int) (w : World) :
    Calls Try.prog 5 #[.int .i64 k] w fun e w' => e = .returned (.bool true) ∧ Below w.heap.size w w' := by
  (try unfold T)
  obtain ⟨d, hd⟩ : ∃ d, arityI k = d := ⟨_, rfl⟩
  go_enter Try.func5, Try.ntmps5
  go_wp2_with fail
  refine (specArity_bel k _ hd).mono ?_
  rintro e w1 ⟨rfl, hb⟩
  have hT : Below w.heap.size w w1 := hb
  have hs1 : w.heap.size ≤ w1.heap.size := hT.size
  have HB := Lib.hid hT
  clear hT hb
  go_wp2_with fail
  refine (implArity_bel k _ hd).mono ?_
  rintro e w2 ⟨rfl, hb⟩
  have hT : Below w1.heap.size w1 w2 := hb
  have hs2 : w1.heap.size ≤ w2.heap.size := hT.size
  replace HB := Lib.hid (bThen HB.out hT)
  clear hT hb
  go_wp2
  go_ret
  have hB := HB.out
  exact ⟨rfl, by first | exact hB | (repeat' (first | assumption | exact Below.refl _ _ | refine bDrewN ?_ _ | refine Below.drew ?_ | refine bAlloc ?_ (Nat.le_refl _) _ | refine bSet ?_ (by first | exact Nat.le_refl _ | omega | (simp <;> omega)) _))⟩

set_option maxHeartbeats 6400000 in
theorem exactOpsOk_walk (a : Option Addr) (len cap : Nat) (zs : List DOp) (n : Int) (w : World) (hw : rdOpS 0 w.heap.size w [.slice a len cap] zs) :
    Calls Try.prog 6 #[.slice a len cap, .int .i64 n] w fun e w' => e = .returned (.bool true) ∧ Below w.heap.size w w' := by
  (try unfold T)
  obtain ⟨d, hd⟩ : ∃ d, opsB n zs = d := ⟨_, rfl⟩
  have lhw : w.heap.size ≤ w.heap.size := Nat.le_refl _
  go_enter Try.func6, Try.ntmps6
  go_wp2_with fail
  refine (szOpS_post zs a len cap 1048576 _ hw (by omega) (by omega)).mono ?_
  rintro e w1 ⟨r, rfl, hr, hb⟩
  have hT : Below w.heap.size w w1 := hb
  replace hw := good_OpS.below hw lhw hT
  replace lhw := Nat.le_trans lhw hT.size
  have HB := Lib.hid hT
  clear hT hb
  rcases hr with rfl | ⟨p, q, s⟩
  · go_wp2
    go_ret
    exact ⟨rfl, HB.out⟩
  have t0 : ¬ r < 0 := by omega
  go_wp2_with fail
  refine (toOpS_any zs a len cap _ hw lhw s).mono ?_
  rintro e w2 ⟨v1, rfl, h1, hb⟩
  have hT : Below w1.heap.size w1 w2 := hb
  replace hw := good_OpS.below hw lhw hT
  replace lhw := Nat.le_trans lhw hT.size
  have lh1 : w2.heap.size ≤ w2.heap.size := Nat.le_refl _
  have hs2 : w1.heap.size ≤ w2.heap.size := hT.size
  replace HB := Lib.hid (bThen HB.out hT)
  clear hT hb
  go_wp2_with fail
  refine (specOps_at n zs v1 _ h1 lh1 hd).mono ?_
  rintro e w3 ⟨rfl, hb⟩
  have hT : Below w2.heap.size w2 w3 := hb
  replace hw := good_OpS.below hw lhw hT
  replace lhw := Nat.le_trans lhw hT.size
  replace h1 := good_OpS.below h1 lh1 hT
  replace lh1 := Nat.le_trans lh1 hT.size
  have hs3 : w2.heap.size ≤ w3.heap.size := hT.size
  replace HB := Lib.hid (bThen HB.out hT)
  clear hT hb
  go_wp2_with fail
  refine (toOpS_any zs a len cap _ hw lhw s).mono ?_
  rintro e w4 ⟨v2, rfl, h2, hb⟩
  have hT : Below w3.heap.size w3 w4 := hb
  replace hw := good_OpS.below hw lhw hT
  replace lhw := Nat.le_trans lhw hT.size
  replace h1 := good_OpS.below h1 lh1 hT
  replace lh1 := Nat.le_trans lh1 hT.size
  have lh2 : w4.heap.size ≤ w4.heap.size := Nat.le_refl _
  have hs4 : w3.heap.size ≤ w4.heap.size := hT.size
  replace HB := Lib.hid (bThen HB.out hT)
  clear hT hb
  go_wp2_with fail
  refine (implOps_at n zs v2 _ h2 lh2 hd).mono ?_
  rintro e w5 ⟨rfl, hb⟩
  have hT : Below w4.heap.size w4 w5 := hb
  replace hw := good_OpS.below hw lhw hT
  replace lhw := Nat.le_trans lhw hT.size
  replace h1 := good_OpS.below h1 lh1 hT
  replace lh1 := Nat.le_trans lh1 hT.size
  replace h2 := good_OpS.below h2 lh2 hT
  replace lh2 := Nat.le_trans lh2 hT.size
  have hs5 : w4.heap.size ≤ w5.heap.size := hT.size
  replace HB := Lib.hid (bThen HB.out hT)
  clear hT hb
  go_wp2_with fail
  refine (toOpS_any zs a len cap _ hw lhw s).mono ?_
  rintro e w6 ⟨v3, rfl, h3, hb⟩
  have hT : Below w5.heap.size w5 w6 := hb
  replace hw := good_OpS.below hw lhw hT
  replace lhw := Nat.le_trans lhw hT.size
  replace h1 := good_OpS.below h1 lh1 hT
  replace lh1 := Nat.le_trans lh1 hT.size
  replace h2 := good_OpS.below h2 lh2 hT
  replace lh2 := Nat.le_trans lh2 hT.size
  have lh3 : w6.heap.size ≤ w6.heap.size := Nat.le_refl _
  have hs6 : w5.heap.size ≤ w6.heap.size := hT.size
  replace HB := Lib.hid (bThen HB.out hT)
  clear hT hb
  go_wp2_with fail
  refine (eqOpS_any zs v2 v3 _ h2 h3 lh2 lh3).mono ?_
  rintro e w7 ⟨rfl, hb⟩
  have hT : Below w6.heap.size w6 w7 := hb
  replace hw := good_OpS.below hw lhw hT
  replace lhw := Nat.le_trans lhw hT.size
  replace h1 := good_OpS.below h1 lh1 hT
  replace lh1 := Nat.le_trans lh1 hT.size
  replace h2 := good_OpS.below h2 lh2 hT
  replace lh2 := Nat.le_trans lh2 hT.size
  replace h3 := good_OpS.below h3 lh3 hT
  replace lh3 := Nat.le_trans lh3 hT.size
  have hs7 : w6.heap.size ≤ w7.heap.size := hT.size
  replace HB := Lib.hid (bThen HB.out hT)
  clear hT hb
  go_wp2
  go_ret
  have hB := HB.out
  exact ⟨rfl, by first | exact hB | (repeat' (first | assumption | exact Below.refl _ _ | refine bDrewN ?_ _ | refine Below.drew ?_ | refine bAlloc ?_ (Nat.le_refl _) _ | refine bSet ?_ (by first | exact Nat.le_refl _ | omega | (simp <;> omega)) _))⟩
end Go.Proofs.Ytllddjkdjdohhaa
