/-
  The value of an expression: the reference.
-/
import Derived.Test.YtmalaleinmoihaaWordMath
import Derived.Test.YtmalaleinmoihaaAtR
namespace Go.Proofs.Ytmalaleinmoihaa
open Go.RowKit
set_option linter.unusedVariables false
set_option linter.unusedSimpArgs false

theorem ret_ii {a b c d : Int} (h : a = b) (k : c = d) : Ending.returned (.tuple #[.int .i64 a, .int .i64 c]) = .returned (.tuple #[.int .i64 b, .int .i64 d]) := by rw [h, k]
theorem specBit_any (b : Bool) (w : World) : Calls Try.prog 22 #[.bool b] w fun e w' => e = .returned (.int .i64 (if b then 1 else 0)) ∧ w = w' := by
  cases b
  all_goals
    go_enter Try.func22, Try.ntmps22
    go_wp2
    go_ret
    exact ⟨rfl, rfl⟩
theorem specBit_at (b : Bool) {r : Int} (w : World) (h : (if b then (1 : Int) else 0) = r) : Calls Try.prog 22 #[.bool b] w fun e w' => e = .returned (.int .i64 r) ∧ w = w' := by subst h; exact specBit_any b w
def SpecEv (L : List DOp) (V : List Int) (W M : Nat) (ov vv : Value) (f : Nat) : Prop :=
  ∀ (p : Nat) (v : Int) (p' : Nat) (w : World), rdOpS 0 w.heap.size w [ov] L → rdIntS 0 w.heap.size w [vv] V → evP L V W f p = some (v, p') →
    Calls Try.prog 13 #[ov, .int .i64 (p : Int), vv, .int .i64 (M : Int)] w fun e w' => e = .returned (.tuple #[.int .i64 v, .int .i64 (p' : Int)]) ∧ Below w.heap.size w w'

set_option maxRecDepth 100000 in
set_option maxHeartbeats 3200000 in
theorem specEv_k0 {L : List DOp} {V : List Int} {W M : Nat} {ov vv : Value} {f : Nat} (hO : OpsIn V.length L) (hV : ValsIn V) (hW1 : 1 ≤ W) (hW : W ≤ 4) (hM : M + 1 = 2 ^ W) (a : Nat) (ha : a ≤ 15) (p : Nat) (v : Int) (p' : Nat) (w : World) (hL : rdOpS 0 w.heap.size w [ov] L) (hv : rdIntS 0 w.heap.size w [vv] V) (ho : L[p]? = some (0, (a : Int), 0)) (hr : cutI a W = v) (hp' : p' = p + 1) :
    Calls Try.prog 13 #[ov, .int .i64 (p : Int), vv, .int .i64 (M : Int)] w fun e w' => e = .returned (.tuple #[.int .i64 v, .int .i64 (p' : Int)]) ∧ Below w.heap.size w w' := by
  obtain ⟨oA, oc, rfl, ol, -⟩ := slice_of hL
  obtain ⟨vA, vc, rfl, vl, -⟩ := slice_of hv
  have HL := Lib.hid hL
  have HV := Lib.hid hv
  have hp : p < L.length := (List.getElem?_eq_some_iff.1 ho).1
  obtain ⟨b, q, rfl, hb, c0, -, c1, -, c2, -⟩ := at_Op hL ho
  have h16 := pow16 W hW
  have hM15 : M ≤ 15 := by omega
  have ev := and_mask a W M hW hM
  rw [hr] at ev
  subst hp'
  clear hr hL hv
  dsimp only at c0 c1 c2
  go_enter Try.func13, Try.ntmps13
  go_wp2
  go_ret2
  exact ⟨ret_ii (by first | rfl | omega) (by first | rfl | omega), by (repeat' (first | assumption | exact Below.refl _ _ | refine bDrewN ?_ _ | refine Below.drew ?_ | refine bAlloc ?_ (Nat.le_refl _) _ | refine bSet ?_ (by first | exact Nat.le_refl _ | omega | (simp <;> omega)) _))⟩

set_option maxRecDepth 100000 in
set_option maxHeartbeats 3200000 in
theorem specEv_k2 {L : List DOp} {V : List Int} {W M : Nat} {ov vv : Value} {f : Nat} (hO : OpsIn V.length L) (hV : ValsIn V) (hW1 : 1 ≤ W) (hW : W ≤ 4) (hM : M + 1 = 2 ^ W) (a x : Nat) (hx : V[a]? = some (x : Int)) (p : Nat) (v : Int) (p' : Nat) (w : World) (hL : rdOpS 0 w.heap.size w [ov] L) (hv : rdIntS 0 w.heap.size w [vv] V) (ho : L[p]? = some (2, (a : Int), 0)) (hr : cutI x W = v) (hp' : p' = p + 1) :
    Calls Try.prog 13 #[ov, .int .i64 (p : Int), vv, .int .i64 (M : Int)] w fun e w' => e = .returned (.tuple #[.int .i64 v, .int .i64 (p' : Int)]) ∧ Below w.heap.size w w' := by
  obtain ⟨oA, oc, rfl, ol, -⟩ := slice_of hL
  obtain ⟨vA, vc, rfl, vl, -⟩ := slice_of hv
  have HL := Lib.hid hL
  have HV := Lib.hid hv
  have hp : p < L.length := (List.getElem?_eq_some_iff.1 ho).1
  obtain ⟨b, q, rfl, hb, c0, -, c1, -, c2, -⟩ := at_Op hL ho
  have h16 := pow16 W hW
  have hM15 : M ≤ 15 := by omega
  have ev := and_mask x W M hW hM
  rw [hr] at ev
  subst hp'
  have ha : a < V.length := (List.getElem?_eq_some_iff.1 hx).1
  obtain ⟨b', q', rfl, hb', d0, -⟩ := at_Int hv hx
  clear hr hL hv
  dsimp only at c0 c1 c2
  go_enter Try.func13, Try.ntmps13
  go_wp2
  go_ret2
  exact ⟨ret_ii (by first | rfl | omega) (by first | rfl | omega), by (repeat' (first | assumption | exact Below.refl _ _ | refine bDrewN ?_ _ | refine Below.drew ?_ | refine bAlloc ?_ (Nat.le_refl _) _ | refine bSet ?_ (by first | exact Nat.le_refl _ | omega | (simp <;> omega)) _))⟩

set_option maxRecDepth 100000 in
set_option maxHeartbeats 3200000 in
theorem specEv_k3 {L : List DOp} {V : List Int} {W M : Nat} {ov vv : Value} {f : Nat} (hO : OpsIn V.length L) (hV : ValsIn V) (hW1 : 1 ≤ W) (hW : W ≤ 4) (hM : M + 1 = 2 ^ W) (a s x : Nat) (hs : s ≤ 3) (hx15 : x ≤ 15) (hx : V[a]? = some (x : Int)) (p : Nat) (v : Int) (p' : Nat) (w : World) (hL : rdOpS 0 w.heap.size w [ov] L) (hv : rdIntS 0 w.heap.size w [vv] V) (ho : L[p]? = some (3, (a : Int), (s : Int))) (hr : cutI ((x.testBit s).toNat : Int) W = v) (hp' : p' = p + 1) :
    Calls Try.prog 13 #[ov, .int .i64 (p : Int), vv, .int .i64 (M : Int)] w fun e w' => e = .returned (.tuple #[.int .i64 v, .int .i64 (p' : Int)]) ∧ Below w.heap.size w w' := by
  obtain ⟨oA, oc, rfl, ol, -⟩ := slice_of hL
  obtain ⟨vA, vc, rfl, vl, -⟩ := slice_of hv
  have HL := Lib.hid hL
  have HV := Lib.hid hv
  have hp : p < L.length := (List.getElem?_eq_some_iff.1 ho).1
  obtain ⟨b, q, rfl, hb, c0, -, c1, -, c2, -⟩ := at_Op hL ho
  have h16 := pow16 W hW
  have hM15 : M ≤ 15 := by omega
  have ev := and_mask ((x.testBit s).toNat : Int) W M hW hM
  rw [hr] at ev
  have e1 := bit_one x s (by omega) (by omega)
  obtain ⟨y, hy⟩ : ∃ y, (x.testBit s).toNat = y := ⟨_, rfl⟩
  rw [hy] at ev e1
  subst hp'
  have ha : a < V.length := (List.getElem?_eq_some_iff.1 hx).1
  obtain ⟨b', q', rfl, hb', d0, -⟩ := at_Int hv hx
  clear hr hL hv hy
  dsimp only at c0 c1 c2
  go_enter Try.func13, Try.ntmps13
  go_wp2
  go_quiet (fail)
  go_wp2
  go_ret2
  exact ⟨ret_ii (by first | rfl | omega) (by first | rfl | omega), by (repeat' (first | assumption | exact Below.refl _ _ | refine bDrewN ?_ _ | refine Below.drew ?_ | refine bAlloc ?_ (Nat.le_refl _) _ | refine bSet ?_ (by first | exact Nat.le_refl _ | omega | (simp <;> omega)) _))⟩

set_option maxRecDepth 100000 in
set_option maxHeartbeats 3200000 in
theorem specEv_k4 {L : List DOp} {V : List Int} {W M : Nat} {ov vv : Value} {f : Nat} (hO : OpsIn V.length L) (hV : ValsIn V) (hW1 : 1 ≤ W) (hW : W ≤ 4) (hM : M + 1 = 2 ^ W) (ih : SpecEv L V W M ov vv f) (xa : Nat) (p : Nat) (v : Int) (p' : Nat) (w : World) (hL : rdOpS 0 w.heap.size w [ov] L) (hv : rdIntS 0 w.heap.size w [vv] V) (ho : L[p]? = some (4, 0, 0)) (h0 : evP L V W f (p + 1) = some ((xa : Int), p')) (hr : cutI (opV V (4, 0, 0) [(xa : Int)]) W = v) :
    Calls Try.prog 13 #[ov, .int .i64 (p : Int), vv, .int .i64 (M : Int)] w fun e w' => e = .returned (.tuple #[.int .i64 v, .int .i64 (p' : Int)]) ∧ Below w.heap.size w w' := by
  obtain ⟨oA, oc, rfl, ol, -⟩ := slice_of hL
  obtain ⟨vA, vc, rfl, vl, -⟩ := slice_of hv
  have HL := Lib.hid hL
  have HV := Lib.hid hv
  have hp : p < L.length := (List.getElem?_eq_some_iff.1 ho).1
  obtain ⟨b, q, rfl, hb, c0, -, c1, -, c2, -⟩ := at_Op hL ho
  have h16 := pow16 W hW
  have hM15 : M ≤ 15 := by omega
  have r0 := evP_rng h0
  have HE := Lib.hid (And.intro h0 True.intro)
  have hr' : cutI (-(xa : Int) - 1) W = v := hr
  have ev := and_mask (-(xa : Int) - 1) W M hW hM
  rw [hr'] at ev
  have en := xor_not xa (by omega)
  obtain ⟨nn, hnn⟩ : ∃ nn, -(xa : Int) - 1 = nn := ⟨_, rfl⟩
  rw [hnn] at ev en
  clear hr' hnn
  clear hL hv hr h0
  dsimp only at c0 c1 c2
  go_enter Try.func13, Try.ntmps13
  go_wp2_with fail
  obtain ⟨W0, hW0⟩ : ∃ W0, W0 = w.alloc (.cells #[.int .i64 4, .int .i64 0, .int .i64 0] 35) := ⟨_, rfl⟩
  rw [← hW0]
  have g := eqbox1 hW0
  have d0 : W0.cell? ⟨w.heap.size, 0, none⟩ = some (.int .i64 4) := box_cell g.1 0 _ rfl
  have HB := Lib.hid g.2
  clear hW0 g c0 c1 c2
  refine (ih (p + 1) (xa : Int) p' _ (rdUp good_OpS HL.out HB.out) (rdUp good_IntS HV.out HB.out) HE.out.1).mono ?_
  rintro e w1 ⟨rfl, hb1⟩
  replace d0 := keep hb1 d0
  replace HB := Lib.hid (bThen HB.out hb1)
  clear hb1
  go_wp2
  go_ret2
  exact ⟨ret_ii (by first | rfl | omega) (by first | rfl | omega), HB.out⟩

set_option maxRecDepth 100000 in
set_option maxHeartbeats 3200000 in
theorem specEv_k5 {L : List DOp} {V : List Int} {W M : Nat} {ov vv : Value} {f : Nat} (hO : OpsIn V.length L) (hV : ValsIn V) (hW1 : 1 ≤ W) (hW : W ≤ 4) (hM : M + 1 = 2 ^ W) (ih : SpecEv L V W M ov vv f) (xa : Nat) (xb : Nat) (p1 : Nat) (p : Nat) (v : Int) (p' : Nat) (w : World) (hL : rdOpS 0 w.heap.size w [ov] L) (hv : rdIntS 0 w.heap.size w [vv] V) (ho : L[p]? = some (5, 0, 0)) (h0 : evP L V W f (p + 1) = some ((xa : Int), p1)) (h1 : evP L V W f p1 = some ((xb : Int), p')) (hr : cutI (opV V (5, 0, 0) [(xa : Int), (xb : Int)]) W = v) :
    Calls Try.prog 13 #[ov, .int .i64 (p : Int), vv, .int .i64 (M : Int)] w fun e w' => e = .returned (.tuple #[.int .i64 v, .int .i64 (p' : Int)]) ∧ Below w.heap.size w w' := by
  obtain ⟨oA, oc, rfl, ol, -⟩ := slice_of hL
  obtain ⟨vA, vc, rfl, vl, -⟩ := slice_of hv
  have HL := Lib.hid hL
  have HV := Lib.hid hv
  have hp : p < L.length := (List.getElem?_eq_some_iff.1 ho).1
  obtain ⟨b, q, rfl, hb, c0, -, c1, -, c2, -⟩ := at_Op hL ho
  have h16 := pow16 W hW
  have hM15 : M ≤ 15 := by omega
  have r0 := evP_rng h0
  have r1 := evP_rng h1
  have HE := Lib.hid (And.intro h0 h1)
  have hlt : xa &&& xb < 2 ^ W := Nat.and_lt_two_pow _ (by omega)
  have hr' : cutI ((xa &&& xb : Nat) : Int) W = v := hr
  rw [cutI_in (by omega) (by omega)] at hr'
  have ev := i64_and xa xb (by omega) (by omega)
  rw [hr'] at ev
  clear hL hv hr h0 h1
  dsimp only at c0 c1 c2
  go_enter Try.func13, Try.ntmps13
  go_wp2_with fail
  obtain ⟨W0, hW0⟩ : ∃ W0, W0 = w.alloc (.cells #[.int .i64 5, .int .i64 0, .int .i64 0] 35) := ⟨_, rfl⟩
  rw [← hW0]
  have g := eqbox1 hW0
  have d0 : W0.cell? ⟨w.heap.size, 0, none⟩ = some (.int .i64 5) := box_cell g.1 0 _ rfl
  have HB := Lib.hid g.2
  clear hW0 g c0 c1 c2
  refine (ih (p + 1) (xa : Int) p1 _ (rdUp good_OpS HL.out HB.out) (rdUp good_IntS HV.out HB.out) HE.out.1).mono ?_
  rintro e w1 ⟨rfl, hb1⟩
  replace d0 := keep hb1 d0
  replace HB := Lib.hid (bThen HB.out hb1)
  clear hb1
  go_wp2_with fail
  refine (ih p1 (xb : Int) p' _ (rdUp good_OpS HL.out HB.out) (rdUp good_IntS HV.out HB.out) HE.out.2).mono ?_
  rintro e w2 ⟨rfl, hb2⟩
  replace d0 := keep hb2 d0
  replace HB := Lib.hid (bThen HB.out hb2)
  clear hb2
  go_wp2
  go_ret2
  exact ⟨ret_ii (by first | rfl | omega) (by first | rfl | omega), HB.out⟩

set_option maxRecDepth 100000 in
set_option maxHeartbeats 3200000 in
theorem specEv_k6 {L : List DOp} {V : List Int} {W M : Nat} {ov vv : Value} {f : Nat} (hO : OpsIn V.length L) (hV : ValsIn V) (hW1 : 1 ≤ W) (hW : W ≤ 4) (hM : M + 1 = 2 ^ W) (ih : SpecEv L V W M ov vv f) (xa : Nat) (xb : Nat) (p1 : Nat) (p : Nat) (v : Int) (p' : Nat) (w : World) (hL : rdOpS 0 w.heap.size w [ov] L) (hv : rdIntS 0 w.heap.size w [vv] V) (ho : L[p]? = some (6, 0, 0)) (h0 : evP L V W f (p + 1) = some ((xa : Int), p1)) (h1 : evP L V W f p1 = some ((xb : Int), p')) (hr : cutI (opV V (6, 0, 0) [(xa : Int), (xb : Int)]) W = v) :
    Calls Try.prog 13 #[ov, .int .i64 (p : Int), vv, .int .i64 (M : Int)] w fun e w' => e = .returned (.tuple #[.int .i64 v, .int .i64 (p' : Int)]) ∧ Below w.heap.size w w' := by
  obtain ⟨oA, oc, rfl, ol, -⟩ := slice_of hL
  obtain ⟨vA, vc, rfl, vl, -⟩ := slice_of hv
  have HL := Lib.hid hL
  have HV := Lib.hid hv
  have hp : p < L.length := (List.getElem?_eq_some_iff.1 ho).1
  obtain ⟨b, q, rfl, hb, c0, -, c1, -, c2, -⟩ := at_Op hL ho
  have h16 := pow16 W hW
  have hM15 : M ≤ 15 := by omega
  have r0 := evP_rng h0
  have r1 := evP_rng h1
  have HE := Lib.hid (And.intro h0 h1)
  have hlt : xa ||| xb < 2 ^ W := Nat.or_lt_two_pow (by omega) (by omega)
  have hr' : cutI ((xa ||| xb : Nat) : Int) W = v := hr
  rw [cutI_in (by omega) (by omega)] at hr'
  have ev := i64_or xa xb (by omega) (by omega)
  rw [hr'] at ev
  clear hL hv hr h0 h1
  dsimp only at c0 c1 c2
  go_enter Try.func13, Try.ntmps13
  go_wp2_with fail
  obtain ⟨W0, hW0⟩ : ∃ W0, W0 = w.alloc (.cells #[.int .i64 6, .int .i64 0, .int .i64 0] 35) := ⟨_, rfl⟩
  rw [← hW0]
  have g := eqbox1 hW0
  have d0 : W0.cell? ⟨w.heap.size, 0, none⟩ = some (.int .i64 6) := box_cell g.1 0 _ rfl
  have HB := Lib.hid g.2
  clear hW0 g c0 c1 c2
  refine (ih (p + 1) (xa : Int) p1 _ (rdUp good_OpS HL.out HB.out) (rdUp good_IntS HV.out HB.out) HE.out.1).mono ?_
  rintro e w1 ⟨rfl, hb1⟩
  replace d0 := keep hb1 d0
  replace HB := Lib.hid (bThen HB.out hb1)
  clear hb1
  go_wp2_with fail
  refine (ih p1 (xb : Int) p' _ (rdUp good_OpS HL.out HB.out) (rdUp good_IntS HV.out HB.out) HE.out.2).mono ?_
  rintro e w2 ⟨rfl, hb2⟩
  replace d0 := keep hb2 d0
  replace HB := Lib.hid (bThen HB.out hb2)
  clear hb2
  go_wp2
  go_ret2
  exact ⟨ret_ii (by first | rfl | omega) (by first | rfl | omega), HB.out⟩

set_option maxRecDepth 100000 in
set_option maxHeartbeats 3200000 in
theorem specEv_k7 {L : List DOp} {V : List Int} {W M : Nat} {ov vv : Value} {f : Nat} (hO : OpsIn V.length L) (hV : ValsIn V) (hW1 : 1 ≤ W) (hW : W ≤ 4) (hM : M + 1 = 2 ^ W) (ih : SpecEv L V W M ov vv f) (xa : Nat) (xb : Nat) (p1 : Nat) (p : Nat) (v : Int) (p' : Nat) (w : World) (hL : rdOpS 0 w.heap.size w [ov] L) (hv : rdIntS 0 w.heap.size w [vv] V) (ho : L[p]? = some (7, 0, 0)) (h0 : evP L V W f (p + 1) = some ((xa : Int), p1)) (h1 : evP L V W f p1 = some ((xb : Int), p')) (hr : cutI (opV V (7, 0, 0) [(xa : Int), (xb : Int)]) W = v) :
    Calls Try.prog 13 #[ov, .int .i64 (p : Int), vv, .int .i64 (M : Int)] w fun e w' => e = .returned (.tuple #[.int .i64 v, .int .i64 (p' : Int)]) ∧ Below w.heap.size w w' := by
  obtain ⟨oA, oc, rfl, ol, -⟩ := slice_of hL
  obtain ⟨vA, vc, rfl, vl, -⟩ := slice_of hv
  have HL := Lib.hid hL
  have HV := Lib.hid hv
  have hp : p < L.length := (List.getElem?_eq_some_iff.1 ho).1
  obtain ⟨b, q, rfl, hb, c0, -, c1, -, c2, -⟩ := at_Op hL ho
  have h16 := pow16 W hW
  have hM15 : M ≤ 15 := by omega
  have r0 := evP_rng h0
  have r1 := evP_rng h1
  have HE := Lib.hid (And.intro h0 h1)
  have hlt : xa ^^^ xb < 2 ^ W := Nat.xor_lt_two_pow (by omega) (by omega)
  have hr' : cutI ((xa ^^^ xb : Nat) : Int) W = v := hr
  rw [cutI_in (by omega) (by omega)] at hr'
  have ev := i64_xor xa xb (by omega) (by omega)
  rw [hr'] at ev
  clear hL hv hr h0 h1
  dsimp only at c0 c1 c2
  go_enter Try.func13, Try.ntmps13
  go_wp2_with fail
  obtain ⟨W0, hW0⟩ : ∃ W0, W0 = w.alloc (.cells #[.int .i64 7, .int .i64 0, .int .i64 0] 35) := ⟨_, rfl⟩
  rw [← hW0]
  have g := eqbox1 hW0
  have d0 : W0.cell? ⟨w.heap.size, 0, none⟩ = some (.int .i64 7) := box_cell g.1 0 _ rfl
  have HB := Lib.hid g.2
  clear hW0 g c0 c1 c2
  refine (ih (p + 1) (xa : Int) p1 _ (rdUp good_OpS HL.out HB.out) (rdUp good_IntS HV.out HB.out) HE.out.1).mono ?_
  rintro e w1 ⟨rfl, hb1⟩
  replace d0 := keep hb1 d0
  replace HB := Lib.hid (bThen HB.out hb1)
  clear hb1
  go_wp2_with fail
  refine (ih p1 (xb : Int) p' _ (rdUp good_OpS HL.out HB.out) (rdUp good_IntS HV.out HB.out) HE.out.2).mono ?_
  rintro e w2 ⟨rfl, hb2⟩
  replace d0 := keep hb2 d0
  replace HB := Lib.hid (bThen HB.out hb2)
  clear hb2
  go_wp2
  go_ret2
  exact ⟨ret_ii (by first | rfl | omega) (by first | rfl | omega), HB.out⟩

set_option maxRecDepth 100000 in
set_option maxHeartbeats 3200000 in
theorem specEv_k8 {L : List DOp} {V : List Int} {W M : Nat} {ov vv : Value} {f : Nat} (hO : OpsIn V.length L) (hV : ValsIn V) (hW1 : 1 ≤ W) (hW : W ≤ 4) (hM : M + 1 = 2 ^ W) (ih : SpecEv L V W M ov vv f) (xa : Nat) (xb : Nat) (p1 : Nat) (p : Nat) (v : Int) (p' : Nat) (w : World) (hL : rdOpS 0 w.heap.size w [ov] L) (hv : rdIntS 0 w.heap.size w [vv] V) (ho : L[p]? = some (8, 0, 0)) (h0 : evP L V W f (p + 1) = some ((xa : Int), p1)) (h1 : evP L V W f p1 = some ((xb : Int), p')) (hr : cutI (opV V (8, 0, 0) [(xa : Int), (xb : Int)]) W = v) :
    Calls Try.prog 13 #[ov, .int .i64 (p : Int), vv, .int .i64 (M : Int)] w fun e w' => e = .returned (.tuple #[.int .i64 v, .int .i64 (p' : Int)]) ∧ Below w.heap.size w w' := by
  obtain ⟨oA, oc, rfl, ol, -⟩ := slice_of hL
  obtain ⟨vA, vc, rfl, vl, -⟩ := slice_of hv
  have HL := Lib.hid hL
  have HV := Lib.hid hv
  have hp : p < L.length := (List.getElem?_eq_some_iff.1 ho).1
  obtain ⟨b, q, rfl, hb, c0, -, c1, -, c2, -⟩ := at_Op hL ho
  have h16 := pow16 W hW
  have hM15 : M ≤ 15 := by omega
  have r0 := evP_rng h0
  have r1 := evP_rng h1
  have HE := Lib.hid (And.intro h0 h1)
  have hr' : cutI ((xa : Int) + (xb : Int)) W = v := hr
  have ev := and_mask ((xa : Int) + (xb : Int)) W M hW hM
  rw [hr'] at ev
  clear hL hv hr h0 h1
  dsimp only at c0 c1 c2
  go_enter Try.func13, Try.ntmps13
  go_wp2_with fail
  obtain ⟨W0, hW0⟩ : ∃ W0, W0 = w.alloc (.cells #[.int .i64 8, .int .i64 0, .int .i64 0] 35) := ⟨_, rfl⟩
  rw [← hW0]
  have g := eqbox1 hW0
  have d0 : W0.cell? ⟨w.heap.size, 0, none⟩ = some (.int .i64 8) := box_cell g.1 0 _ rfl
  have HB := Lib.hid g.2
  clear hW0 g c0 c1 c2
  refine (ih (p + 1) (xa : Int) p1 _ (rdUp good_OpS HL.out HB.out) (rdUp good_IntS HV.out HB.out) HE.out.1).mono ?_
  rintro e w1 ⟨rfl, hb1⟩
  replace d0 := keep hb1 d0
  replace HB := Lib.hid (bThen HB.out hb1)
  clear hb1
  go_wp2_with fail
  refine (ih p1 (xb : Int) p' _ (rdUp good_OpS HL.out HB.out) (rdUp good_IntS HV.out HB.out) HE.out.2).mono ?_
  rintro e w2 ⟨rfl, hb2⟩
  replace d0 := keep hb2 d0
  replace HB := Lib.hid (bThen HB.out hb2)
  clear hb2
  go_wp2
  go_ret2
  exact ⟨ret_ii (by first | rfl | omega) (by first | rfl | omega), HB.out⟩

set_option maxRecDepth 100000 in
set_option maxHeartbeats 3200000 in
theorem specEv_k9 {L : List DOp} {V : List Int} {W M : Nat} {ov vv : Value} {f : Nat} (hO : OpsIn V.length L) (hV : ValsIn V) (hW1 : 1 ≤ W) (hW : W ≤ 4) (hM : M + 1 = 2 ^ W) (ih : SpecEv L V W M ov vv f) (xa : Nat) (xb : Nat) (p1 : Nat) (p : Nat) (v : Int) (p' : Nat) (w : World) (hL : rdOpS 0 w.heap.size w [ov] L) (hv : rdIntS 0 w.heap.size w [vv] V) (ho : L[p]? = some (9, 0, 0)) (h0 : evP L V W f (p + 1) = some ((xa : Int), p1)) (h1 : evP L V W f p1 = some ((xb : Int), p')) (hr : cutI (opV V (9, 0, 0) [(xa : Int), (xb : Int)]) W = v) :
    Calls Try.prog 13 #[ov, .int .i64 (p : Int), vv, .int .i64 (M : Int)] w fun e w' => e = .returned (.tuple #[.int .i64 v, .int .i64 (p' : Int)]) ∧ Below w.heap.size w w' := by
  obtain ⟨oA, oc, rfl, ol, -⟩ := slice_of hL
  obtain ⟨vA, vc, rfl, vl, -⟩ := slice_of hv
  have HL := Lib.hid hL
  have HV := Lib.hid hv
  have hp : p < L.length := (List.getElem?_eq_some_iff.1 ho).1
  obtain ⟨b, q, rfl, hb, c0, -, c1, -, c2, -⟩ := at_Op hL ho
  have h16 := pow16 W hW
  have hM15 : M ≤ 15 := by omega
  have r0 := evP_rng h0
  have r1 := evP_rng h1
  have HE := Lib.hid (And.intro h0 h1)
  have hr' : cutI ((xa : Int) - (xb : Int)) W = v := hr
  have ev := and_mask ((xa : Int) - (xb : Int)) W M hW hM
  rw [hr'] at ev
  clear hL hv hr h0 h1
  dsimp only at c0 c1 c2
  go_enter Try.func13, Try.ntmps13
  go_wp2_with fail
  obtain ⟨W0, hW0⟩ : ∃ W0, W0 = w.alloc (.cells #[.int .i64 9, .int .i64 0, .int .i64 0] 35) := ⟨_, rfl⟩
  rw [← hW0]
  have g := eqbox1 hW0
  have d0 : W0.cell? ⟨w.heap.size, 0, none⟩ = some (.int .i64 9) := box_cell g.1 0 _ rfl
  have HB := Lib.hid g.2
  clear hW0 g c0 c1 c2
  refine (ih (p + 1) (xa : Int) p1 _ (rdUp good_OpS HL.out HB.out) (rdUp good_IntS HV.out HB.out) HE.out.1).mono ?_
  rintro e w1 ⟨rfl, hb1⟩
  replace d0 := keep hb1 d0
  replace HB := Lib.hid (bThen HB.out hb1)
  clear hb1
  go_wp2_with fail
  refine (ih p1 (xb : Int) p' _ (rdUp good_OpS HL.out HB.out) (rdUp good_IntS HV.out HB.out) HE.out.2).mono ?_
  rintro e w2 ⟨rfl, hb2⟩
  replace d0 := keep hb2 d0
  replace HB := Lib.hid (bThen HB.out hb2)
  clear hb2
  go_wp2
  go_ret2
  exact ⟨ret_ii (by first | rfl | omega) (by first | rfl | omega), HB.out⟩

set_option maxRecDepth 100000 in
set_option maxHeartbeats 3200000 in
theorem specEv_k10 {L : List DOp} {V : List Int} {W M : Nat} {ov vv : Value} {f : Nat} (hO : OpsIn V.length L) (hV : ValsIn V) (hW1 : 1 ≤ W) (hW : W ≤ 4) (hM : M + 1 = 2 ^ W) (ih : SpecEv L V W M ov vv f) (xa : Nat) (xb : Nat) (p1 : Nat) (p : Nat) (v : Int) (p' : Nat) (w : World) (hL : rdOpS 0 w.heap.size w [ov] L) (hv : rdIntS 0 w.heap.size w [vv] V) (ho : L[p]? = some (10, 0, 0)) (h0 : evP L V W f (p + 1) = some ((xa : Int), p1)) (h1 : evP L V W f p1 = some ((xb : Int), p')) (hr : cutI (opV V (10, 0, 0) [(xa : Int), (xb : Int)]) W = v) :
    Calls Try.prog 13 #[ov, .int .i64 (p : Int), vv, .int .i64 (M : Int)] w fun e w' => e = .returned (.tuple #[.int .i64 v, .int .i64 (p' : Int)]) ∧ Below w.heap.size w w' := by
  obtain ⟨oA, oc, rfl, ol, -⟩ := slice_of hL
  obtain ⟨vA, vc, rfl, vl, -⟩ := slice_of hv
  have HL := Lib.hid hL
  have HV := Lib.hid hv
  have hp : p < L.length := (List.getElem?_eq_some_iff.1 ho).1
  obtain ⟨b, q, rfl, hb, c0, -, c1, -, c2, -⟩ := at_Op hL ho
  have h16 := pow16 W hW
  have hM15 : M ≤ 15 := by omega
  have r0 := evP_rng h0
  have r1 := evP_rng h1
  have HE := Lib.hid (And.intro h0 h1)
  have hr' : cutI (if (xa : Int) = (xb : Int) then 1 else 0) W = v := hr
  have hp1 : 2 ≤ 2 ^ W := Nat.pow_le_pow_right (show 0 < 2 by omega) hW1
  rw [cutI_in (by split <;> omega) (by split <;> omega)] at hr'
  obtain ⟨tb, htb⟩ : ∃ tb, ((xa : Int) == (xb : Int)) = tb := ⟨_, rfl⟩
  have HBIT := Lib.hid (show (if tb then (1 : Int) else 0) = v by rw [← htb, ← hr']; simp)
  clear hL hv hr hr' h0 h1
  dsimp only at c0 c1 c2
  go_enter Try.func13, Try.ntmps13
  go_wp2_with fail
  obtain ⟨W0, hW0⟩ : ∃ W0, W0 = w.alloc (.cells #[.int .i64 10, .int .i64 0, .int .i64 0] 35) := ⟨_, rfl⟩
  rw [← hW0]
  have g := eqbox1 hW0
  have d0 : W0.cell? ⟨w.heap.size, 0, none⟩ = some (.int .i64 10) := box_cell g.1 0 _ rfl
  have HB := Lib.hid g.2
  clear hW0 g c0 c1 c2
  refine (ih (p + 1) (xa : Int) p1 _ (rdUp good_OpS HL.out HB.out) (rdUp good_IntS HV.out HB.out) HE.out.1).mono ?_
  rintro e w1 ⟨rfl, hb1⟩
  replace d0 := keep hb1 d0
  replace HB := Lib.hid (bThen HB.out hb1)
  clear hb1
  go_wp2_with fail
  refine (ih p1 (xb : Int) p' _ (rdUp good_OpS HL.out HB.out) (rdUp good_IntS HV.out HB.out) HE.out.2).mono ?_
  rintro e w2 ⟨rfl, hb2⟩
  replace d0 := keep hb2 d0
  replace HB := Lib.hid (bThen HB.out hb2)
  clear hb2
  go_wp2_with fail
  (try rw [htb])
  refine (specBit_at tb _ HBIT.out).mono ?_
  rintro e w3 ⟨rfl, rfl⟩
  go_wp2
  go_ret2
  exact ⟨ret_ii (by first | rfl | omega) (by first | rfl | omega), HB.out⟩

set_option maxRecDepth 100000 in
set_option maxHeartbeats 3200000 in
theorem specEv_k11 {L : List DOp} {V : List Int} {W M : Nat} {ov vv : Value} {f : Nat} (hO : OpsIn V.length L) (hV : ValsIn V) (hW1 : 1 ≤ W) (hW : W ≤ 4) (hM : M + 1 = 2 ^ W) (ih : SpecEv L V W M ov vv f) (xa : Nat) (xb : Nat) (p1 : Nat) (p : Nat) (v : Int) (p' : Nat) (w : World) (hL : rdOpS 0 w.heap.size w [ov] L) (hv : rdIntS 0 w.heap.size w [vv] V) (ho : L[p]? = some (11, 0, 0)) (h0 : evP L V W f (p + 1) = some ((xa : Int), p1)) (h1 : evP L V W f p1 = some ((xb : Int), p')) (hr : cutI (opV V (11, 0, 0) [(xa : Int), (xb : Int)]) W = v) :
    Calls Try.prog 13 #[ov, .int .i64 (p : Int), vv, .int .i64 (M : Int)] w fun e w' => e = .returned (.tuple #[.int .i64 v, .int .i64 (p' : Int)]) ∧ Below w.heap.size w w' := by
  obtain ⟨oA, oc, rfl, ol, -⟩ := slice_of hL
  obtain ⟨vA, vc, rfl, vl, -⟩ := slice_of hv
  have HL := Lib.hid hL
  have HV := Lib.hid hv
  have hp : p < L.length := (List.getElem?_eq_some_iff.1 ho).1
  obtain ⟨b, q, rfl, hb, c0, -, c1, -, c2, -⟩ := at_Op hL ho
  have h16 := pow16 W hW
  have hM15 : M ≤ 15 := by omega
  have r0 := evP_rng h0
  have r1 := evP_rng h1
  have HE := Lib.hid (And.intro h0 h1)
  have hr' : cutI (if (xa : Int) < (xb : Int) then 1 else 0) W = v := hr
  have hp1 : 2 ≤ 2 ^ W := Nat.pow_le_pow_right (show 0 < 2 by omega) hW1
  rw [cutI_in (by split <;> omega) (by split <;> omega)] at hr'
  obtain ⟨tb, htb⟩ : ∃ tb, (decide (xa < xb)) = tb := ⟨_, rfl⟩
  have HBIT := Lib.hid (show (if tb then (1 : Int) else 0) = v by rw [← htb, ← hr']; simp)
  clear hL hv hr hr' h0 h1
  dsimp only at c0 c1 c2
  go_enter Try.func13, Try.ntmps13
  go_wp2_with fail
  obtain ⟨W0, hW0⟩ : ∃ W0, W0 = w.alloc (.cells #[.int .i64 11, .int .i64 0, .int .i64 0] 35) := ⟨_, rfl⟩
  rw [← hW0]
  have g := eqbox1 hW0
  have d0 : W0.cell? ⟨w.heap.size, 0, none⟩ = some (.int .i64 11) := box_cell g.1 0 _ rfl
  have HB := Lib.hid g.2
  clear hW0 g c0 c1 c2
  refine (ih (p + 1) (xa : Int) p1 _ (rdUp good_OpS HL.out HB.out) (rdUp good_IntS HV.out HB.out) HE.out.1).mono ?_
  rintro e w1 ⟨rfl, hb1⟩
  replace d0 := keep hb1 d0
  replace HB := Lib.hid (bThen HB.out hb1)
  clear hb1
  go_wp2_with fail
  refine (ih p1 (xb : Int) p' _ (rdUp good_OpS HL.out HB.out) (rdUp good_IntS HV.out HB.out) HE.out.2).mono ?_
  rintro e w2 ⟨rfl, hb2⟩
  replace d0 := keep hb2 d0
  replace HB := Lib.hid (bThen HB.out hb2)
  clear hb2
  go_wp2_with fail
  (try rw [htb])
  refine (specBit_at tb _ HBIT.out).mono ?_
  rintro e w3 ⟨rfl, rfl⟩
  go_wp2
  go_ret2
  exact ⟨ret_ii (by first | rfl | omega) (by first | rfl | omega), HB.out⟩

set_option maxRecDepth 100000 in
set_option maxHeartbeats 3200000 in
theorem specEv_k12 {L : List DOp} {V : List Int} {W M : Nat} {ov vv : Value} {f : Nat} (hO : OpsIn V.length L) (hV : ValsIn V) (hW1 : 1 ≤ W) (hW : W ≤ 4) (hM : M + 1 = 2 ^ W) (ih : SpecEv L V W M ov vv f) (xa : Nat) (xb : Nat) (xc : Nat) (p1 : Nat) (p2 : Nat) (p : Nat) (v : Int) (p' : Nat) (w : World) (hL : rdOpS 0 w.heap.size w [ov] L) (hv : rdIntS 0 w.heap.size w [vv] V) (ho : L[p]? = some (12, 0, 0)) (h0 : evP L V W f (p + 1) = some ((xa : Int), p1)) (h1 : evP L V W f p1 = some ((xb : Int), p2)) (h2 : evP L V W f p2 = some ((xc : Int), p')) (hr : cutI (opV V (12, 0, 0) [(xa : Int), (xb : Int), (xc : Int)]) W = v) :
    Calls Try.prog 13 #[ov, .int .i64 (p : Int), vv, .int .i64 (M : Int)] w fun e w' => e = .returned (.tuple #[.int .i64 v, .int .i64 (p' : Int)]) ∧ Below w.heap.size w w' := by
  obtain ⟨oA, oc, rfl, ol, -⟩ := slice_of hL
  obtain ⟨vA, vc, rfl, vl, -⟩ := slice_of hv
  have HL := Lib.hid hL
  have HV := Lib.hid hv
  have hp : p < L.length := (List.getElem?_eq_some_iff.1 ho).1
  obtain ⟨b, q, rfl, hb, c0, -, c1, -, c2, -⟩ := at_Op hL ho
  have h16 := pow16 W hW
  have hM15 : M ≤ 15 := by omega
  have r0 := evP_rng h0
  have r1 := evP_rng h1
  have r2 := evP_rng h2
  have HE := Lib.hid (And.intro h0 (And.intro h1 h2))
  have hr' : cutI (if (xa : Int) = 0 then (xc : Int) else (xb : Int)) W = v := hr
  rw [cutI_in (by split <;> omega) (by split <;> omega)] at hr'
  clear hL hv hr h0 h1 h2
  dsimp only at c0 c1 c2
  by_cases ha0 : xa = 0
  · have t0 : ((xa : Int) == 0) = true := by simp [ha0]
    have t1 : ((xa : Int) != 0) = false := by simp [ha0]
    have e2 : (xc : Int) = v := by rw [← hr', if_pos (by omega)]
    clear hr' ha0
    go_enter Try.func13, Try.ntmps13
    go_wp2_with fail
    obtain ⟨W0, hW0⟩ : ∃ W0, W0 = w.alloc (.cells #[.int .i64 12, .int .i64 0, .int .i64 0] 35) := ⟨_, rfl⟩
    rw [← hW0]
    have g := eqbox1 hW0
    have d0 : W0.cell? ⟨w.heap.size, 0, none⟩ = some (.int .i64 12) := box_cell g.1 0 _ rfl
    have HB := Lib.hid g.2
    clear hW0 g c0 c1 c2
    refine (ih (p + 1) (xa : Int) p1 _ (rdUp good_OpS HL.out HB.out) (rdUp good_IntS HV.out HB.out) HE.out.1).mono ?_
    rintro e w1 ⟨rfl, hb1⟩
    replace d0 := keep hb1 d0
    replace HB := Lib.hid (bThen HB.out hb1)
    clear hb1
    go_wp2_with fail
    refine (ih p1 (xb : Int) p2 _ (rdUp good_OpS HL.out HB.out) (rdUp good_IntS HV.out HB.out) HE.out.2.1).mono ?_
    rintro e w2 ⟨rfl, hb2⟩
    replace d0 := keep hb2 d0
    replace HB := Lib.hid (bThen HB.out hb2)
    clear hb2
    go_wp2_with fail
    refine (ih p2 (xc : Int) p' _ (rdUp good_OpS HL.out HB.out) (rdUp good_IntS HV.out HB.out) HE.out.2.2).mono ?_
    rintro e w3 ⟨rfl, hb3⟩
    replace d0 := keep hb3 d0
    replace HB := Lib.hid (bThen HB.out hb3)
    clear hb3
    go_wp2
    go_ret2
    exact ⟨ret_ii (by first | rfl | exact e2) rfl, HB.out⟩
  · have t0 : ((xa : Int) == 0) = false := by simp; omega
    have t1 : ((xa : Int) != 0) = true := by simp; omega
    have e2 : (xb : Int) = v := by rw [← hr', if_neg (by omega)]
    clear hr' ha0
    go_enter Try.func13, Try.ntmps13
    go_wp2_with fail
    obtain ⟨W0, hW0⟩ : ∃ W0, W0 = w.alloc (.cells #[.int .i64 12, .int .i64 0, .int .i64 0] 35) := ⟨_, rfl⟩
    rw [← hW0]
    have g := eqbox1 hW0
    have d0 : W0.cell? ⟨w.heap.size, 0, none⟩ = some (.int .i64 12) := box_cell g.1 0 _ rfl
    have HB := Lib.hid g.2
    clear hW0 g c0 c1 c2
    refine (ih (p + 1) (xa : Int) p1 _ (rdUp good_OpS HL.out HB.out) (rdUp good_IntS HV.out HB.out) HE.out.1).mono ?_
    rintro e w1 ⟨rfl, hb1⟩
    replace d0 := keep hb1 d0
    replace HB := Lib.hid (bThen HB.out hb1)
    clear hb1
    go_wp2_with fail
    refine (ih p1 (xb : Int) p2 _ (rdUp good_OpS HL.out HB.out) (rdUp good_IntS HV.out HB.out) HE.out.2.1).mono ?_
    rintro e w2 ⟨rfl, hb2⟩
    replace d0 := keep hb2 d0
    replace HB := Lib.hid (bThen HB.out hb2)
    clear hb2
    go_wp2_with fail
    refine (ih p2 (xc : Int) p' _ (rdUp good_OpS HL.out HB.out) (rdUp good_IntS HV.out HB.out) HE.out.2.2).mono ?_
    rintro e w3 ⟨rfl, hb3⟩
    replace d0 := keep hb3 d0
    replace HB := Lib.hid (bThen HB.out hb3)
    clear hb3
    go_wp2
    go_ret2
    exact ⟨ret_ii (by first | rfl | exact e2) rfl, HB.out⟩

theorem specEv_step {L : List DOp} {V : List Int} {W M : Nat} {ov vv : Value} {f : Nat} (hO : OpsIn V.length L) (hV : ValsIn V) (hW1 : 1 ≤ W) (hW : W ≤ 4) (hM : M + 1 = 2 ^ W) (ih : SpecEv L V W M ov vv f) : SpecEv L V W M ov vv (f + 1) := by
  intro p v p' w hL hv hev
  obtain ⟨o, A, ho, hA, hval⟩ := evP_op hev
  have hm := hO.2 o (List.mem_of_getElem? ho)
  rcases op_cases hm.1 hm.2 with ⟨a, rfl, ha⟩ | ⟨a, rfl, ha⟩ | ⟨a, s, rfl, ha, hs⟩ | ⟨k, rfl, hk4, hk12⟩
  · obtain ⟨rfl, rfl⟩ := argsP_zero hA
    exact specEv_k0 (f := f) hO hV hW1 hW hM a ha p v _ w hL hv ho hval.symm rfl
  · obtain ⟨rfl, rfl⟩ := argsP_zero hA
    obtain ⟨x, hx, hx15, hxe⟩ := valAt_in hV a ha
    have hval' : v = cutI (valAt V a) W := hval
    rw [hx] at hval'
    exact specEv_k2 (f := f) hO hV hW1 hW hM a x (by rw [List.getElem?_eq_getElem ha, hxe]) p v _ w hL hv ho hval'.symm rfl
  · obtain ⟨rfl, rfl⟩ := argsP_zero hA
    obtain ⟨x, hx, hx15, hxe⟩ := valAt_in hV a ha
    have hval' : v = cutI (((valAt V a).toNat.testBit (s : Int).toNat).toNat : Int) W := hval
    rw [hx, Int.toNat_natCast, Int.toNat_natCast] at hval'
    exact specEv_k3 (f := f) hO hV hW1 hW hM a s x hs hx15 (by rw [List.getElem?_eq_getElem ha, hxe]) p v _ w hL hv ho hval'.symm rfl
  · rcases (by omega : k = 4 ∨ k = 5 ∨ k = 6 ∨ k = 7 ∨ k = 8 ∨ k = 9 ∨ k = 10 ∨ k = 11 ∨ k = 12) with rfl | rfl | rfl | rfl | rfl | rfl | rfl | rfl | rfl
    · obtain ⟨a, p1, A1, e1, hA1, rfl⟩ := argsP_succ hA
      obtain ⟨rfl, rfl⟩ := argsP_zero hA1
      obtain ⟨xa', rfl⟩ := Int.eq_ofNat_of_zero_le (evP_rng e1).1
      exact specEv_k4 hO hV hW1 hW hM ih xa'  p v _ w hL hv ho e1 hval.symm
    · obtain ⟨a, p1, A1, e1, hA1, rfl⟩ := argsP_succ hA
      obtain ⟨b, p2, A2, e2, hA2, rfl⟩ := argsP_succ hA1
      obtain ⟨rfl, rfl⟩ := argsP_zero hA2
      obtain ⟨xa', rfl⟩ := Int.eq_ofNat_of_zero_le (evP_rng e1).1
      obtain ⟨xb', rfl⟩ := Int.eq_ofNat_of_zero_le (evP_rng e2).1
      exact specEv_k5 hO hV hW1 hW hM ih xa' xb' p1 p v _ w hL hv ho e1 e2 hval.symm
    · obtain ⟨a, p1, A1, e1, hA1, rfl⟩ := argsP_succ hA
      obtain ⟨b, p2, A2, e2, hA2, rfl⟩ := argsP_succ hA1
      obtain ⟨rfl, rfl⟩ := argsP_zero hA2
      obtain ⟨xa', rfl⟩ := Int.eq_ofNat_of_zero_le (evP_rng e1).1
      obtain ⟨xb', rfl⟩ := Int.eq_ofNat_of_zero_le (evP_rng e2).1
      exact specEv_k6 hO hV hW1 hW hM ih xa' xb' p1 p v _ w hL hv ho e1 e2 hval.symm
    · obtain ⟨a, p1, A1, e1, hA1, rfl⟩ := argsP_succ hA
      obtain ⟨b, p2, A2, e2, hA2, rfl⟩ := argsP_succ hA1
      obtain ⟨rfl, rfl⟩ := argsP_zero hA2
      obtain ⟨xa', rfl⟩ := Int.eq_ofNat_of_zero_le (evP_rng e1).1
      obtain ⟨xb', rfl⟩ := Int.eq_ofNat_of_zero_le (evP_rng e2).1
      exact specEv_k7 hO hV hW1 hW hM ih xa' xb' p1 p v _ w hL hv ho e1 e2 hval.symm
    · obtain ⟨a, p1, A1, e1, hA1, rfl⟩ := argsP_succ hA
      obtain ⟨b, p2, A2, e2, hA2, rfl⟩ := argsP_succ hA1
      obtain ⟨rfl, rfl⟩ := argsP_zero hA2
      obtain ⟨xa', rfl⟩ := Int.eq_ofNat_of_zero_le (evP_rng e1).1
      obtain ⟨xb', rfl⟩ := Int.eq_ofNat_of_zero_le (evP_rng e2).1
      exact specEv_k8 hO hV hW1 hW hM ih xa' xb' p1 p v _ w hL hv ho e1 e2 hval.symm
    · obtain ⟨a, p1, A1, e1, hA1, rfl⟩ := argsP_succ hA
      obtain ⟨b, p2, A2, e2, hA2, rfl⟩ := argsP_succ hA1
      obtain ⟨rfl, rfl⟩ := argsP_zero hA2
      obtain ⟨xa', rfl⟩ := Int.eq_ofNat_of_zero_le (evP_rng e1).1
      obtain ⟨xb', rfl⟩ := Int.eq_ofNat_of_zero_le (evP_rng e2).1
      exact specEv_k9 hO hV hW1 hW hM ih xa' xb' p1 p v _ w hL hv ho e1 e2 hval.symm
    · obtain ⟨a, p1, A1, e1, hA1, rfl⟩ := argsP_succ hA
      obtain ⟨b, p2, A2, e2, hA2, rfl⟩ := argsP_succ hA1
      obtain ⟨rfl, rfl⟩ := argsP_zero hA2
      obtain ⟨xa', rfl⟩ := Int.eq_ofNat_of_zero_le (evP_rng e1).1
      obtain ⟨xb', rfl⟩ := Int.eq_ofNat_of_zero_le (evP_rng e2).1
      exact specEv_k10 hO hV hW1 hW hM ih xa' xb' p1 p v _ w hL hv ho e1 e2 hval.symm
    · obtain ⟨a, p1, A1, e1, hA1, rfl⟩ := argsP_succ hA
      obtain ⟨b, p2, A2, e2, hA2, rfl⟩ := argsP_succ hA1
      obtain ⟨rfl, rfl⟩ := argsP_zero hA2
      obtain ⟨xa', rfl⟩ := Int.eq_ofNat_of_zero_le (evP_rng e1).1
      obtain ⟨xb', rfl⟩ := Int.eq_ofNat_of_zero_le (evP_rng e2).1
      exact specEv_k11 hO hV hW1 hW hM ih xa' xb' p1 p v _ w hL hv ho e1 e2 hval.symm
    · obtain ⟨a, p1, A1, e1, hA1, rfl⟩ := argsP_succ hA
      obtain ⟨b, p2, A2, e2, hA2, rfl⟩ := argsP_succ hA1
      obtain ⟨c, p3, A3, e3, hA3, rfl⟩ := argsP_succ hA2
      obtain ⟨rfl, rfl⟩ := argsP_zero hA3
      obtain ⟨xa', rfl⟩ := Int.eq_ofNat_of_zero_le (evP_rng e1).1
      obtain ⟨xb', rfl⟩ := Int.eq_ofNat_of_zero_le (evP_rng e2).1
      obtain ⟨xc', rfl⟩ := Int.eq_ofNat_of_zero_le (evP_rng e3).1
      exact specEv_k12 hO hV hW1 hW hM ih xa' xb' xc' p1 p2 p v _ w hL hv ho e1 e2 e3 hval.symm
theorem specEv_all {L : List DOp} {V : List Int} {W M : Nat} {ov vv : Value} (hO : OpsIn V.length L) (hV : ValsIn V) (hW1 : 1 ≤ W) (hW : W ≤ 4) (hM : M + 1 = 2 ^ W) : ∀ f, SpecEv L V W M ov vv f
  | 0 => fun p v p' w _ _ h => by cases h
  | f + 1 => specEv_step hO hV hW1 hW hM (specEv_all hO hV hW1 hW hM f)
end Go.Proofs.Ytmalaleinmoihaa
