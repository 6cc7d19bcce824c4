/-
  The value of an operator: the program.
-/
import Derived.Test.YtmalaleinmoihaaSEval
import Derived.Test.YtmalaleinmoihaaKept
import Derived.Deep.RegionHeld3
namespace Go.Proofs.Ytmalaleinmoihaa
open Go.RowKit
set_option linter.unusedVariables false
set_option linter.unusedSimpArgs false

theorem wrapP (W M : Nat) (hW : W ≤ 4) (hM : M + 1 = 2 ^ W) : IntKind.i64.wrap ((2 : Int) ^ W) = (M : Int) + 1 ∧ wrap64 ((2 : Int) ^ W) = (M : Int) + 1 := by
  have h16 := pow16 W hW
  rw [powc, ← hM]
  constructor
  · rw [wrap64_small _ (by omega)]; omega
  · unfold wrap64; omega
theorem maskOf (W : Nat) : ∃ M : Nat, M + 1 = 2 ^ W := ⟨2 ^ W - 1, by have := pow1 W; omega⟩
theorem implCut_at (n : Int) (W : Nat) (hW : W ≤ 4) {r : Int} (w : World) (hr : cutI n W = r) : Calls Try.prog 30 #[.int .i64 n, .int .i64 (W : Int)] w fun e w' => e = .returned (.int .i64 r) ∧ w = w' := by
  obtain ⟨M, hM⟩ := maskOf W
  have h16 := pow16 W hW
  have e1 := (wrapP W M hW hM).1
  have e3 := (wrapP W M hW hM).2
  have ev := and_mask n W M hW hM
  rw [hr] at ev
  have hM15 : M ≤ 15 := by omega
  clear hM hr
  go_enter Try.func30, Try.ntmps30
  go_wp2
  go_ret
  exact ⟨rfl, rfl⟩
theorem implOne_at (b : Bool) {r : Int} (w : World) (h : (if b then (1 : Int) else 0) = r) : Calls Try.prog 39 #[.bool b] w fun e w' => e = .returned (.int .i64 r) ∧ w = w' := by
  subst h
  cases b
  all_goals
    go_enter Try.func39, Try.ntmps39
    go_wp2
    go_ret
    exact ⟨rfl, rfl⟩
theorem bin5_at (xa xb : Nat) (ha : xa < 16) (hb : xb < 16) {r : Int} (w : World) (hr : ((xa &&& xb : Nat) : Int) = r) : Calls Try.prog 33 #[.int .i64 (xa : Int), .int .i64 (xb : Int)] w fun e w' => e = .returned (.int .i64 r) ∧ w = w' := by
  have ev := i64_and xa xb (by omega) (by omega)
  rw [hr] at ev
  clear hr
  go_enter Try.func33, Try.ntmps33
  go_wp2
  go_ret
  exact ⟨rfl, rfl⟩
theorem bin6_at (xa xb : Nat) (ha : xa < 16) (hb : xb < 16) {r : Int} (w : World) (hr : ((xa ||| xb : Nat) : Int) = r) : Calls Try.prog 34 #[.int .i64 (xa : Int), .int .i64 (xb : Int)] w fun e w' => e = .returned (.int .i64 r) ∧ w = w' := by
  have ev := i64_or xa xb (by omega) (by omega)
  rw [hr] at ev
  clear hr
  go_enter Try.func34, Try.ntmps34
  go_wp2
  go_ret
  exact ⟨rfl, rfl⟩
theorem bin7_at (xa xb : Nat) (ha : xa < 16) (hb : xb < 16) {r : Int} (w : World) (hr : ((xa ^^^ xb : Nat) : Int) = r) : Calls Try.prog 35 #[.int .i64 (xa : Int), .int .i64 (xb : Int)] w fun e w' => e = .returned (.int .i64 r) ∧ w = w' := by
  have ev := i64_xor xa xb (by omega) (by omega)
  rw [hr] at ev
  clear hr
  go_enter Try.func35, Try.ntmps35
  go_wp2
  go_ret
  exact ⟨rfl, rfl⟩
theorem bin8_at (xa xb : Nat) (ha : xa < 16) (hb : xb < 16) {r : Int} (w : World) (hr : (xa : Int) + (xb : Int) = r) : Calls Try.prog 36 #[.int .i64 (xa : Int), .int .i64 (xb : Int)] w fun e w' => e = .returned (.int .i64 r) ∧ w = w' := by
  go_enter Try.func36, Try.ntmps36
  go_wp2
  go_ret
  exact ⟨by rw [← hr]; rfl, rfl⟩
theorem bin9_at (xa xb : Nat) (ha : xa < 16) (hb : xb < 16) {r : Int} (w : World) (hr : (xa : Int) - (xb : Int) = r) : Calls Try.prog 37 #[.int .i64 (xa : Int), .int .i64 (xb : Int)] w fun e w' => e = .returned (.int .i64 r) ∧ w = w' := by
  go_enter Try.func37, Try.ntmps37
  go_wp2
  go_ret
  exact ⟨by rw [← hr]; rfl, rfl⟩
theorem bin10_at (xa xb : Nat) (ha : xa < 16) (hb : xb < 16) {r : Int} (w : World) (hr : (if (xa : Int) = (xb : Int) then 1 else 0) = r) : Calls Try.prog 38 #[.int .i64 (xa : Int), .int .i64 (xb : Int)] w fun e w' => e = .returned (.int .i64 r) ∧ w = w' := by
  obtain ⟨tb, htb⟩ : ∃ tb, ((xa : Int) == (xb : Int)) = tb := ⟨_, rfl⟩
  have HBIT := Lib.hid (show (if tb then (1 : Int) else 0) = r by rw [← htb, ← hr]; simp)
  clear hr
  go_enter Try.func38, Try.ntmps38
  go_wp2_with fail
  (try rw [htb])
  refine (implOne_at tb _ HBIT.out).mono ?_
  rintro e w3 ⟨rfl, rfl⟩
  go_wp2
  go_ret
  exact ⟨rfl, rfl⟩
theorem bin11_at (xa xb : Nat) (ha : xa < 16) (hb : xb < 16) {r : Int} (w : World) (hr : (if (xa : Int) < (xb : Int) then 1 else 0) = r) : Calls Try.prog 40 #[.int .i64 (xa : Int), .int .i64 (xb : Int)] w fun e w' => e = .returned (.int .i64 r) ∧ w = w' := by
  obtain ⟨tb, htb⟩ : ∃ tb, (decide (xa < xb)) = tb := ⟨_, rfl⟩
  have HBIT := Lib.hid (show (if tb then (1 : Int) else 0) = r by rw [← htb, ← hr]; simp)
  clear hr
  go_enter Try.func40, Try.ntmps40
  go_wp2_with fail
  (try rw [htb])
  refine (implOne_at tb _ HBIT.out).mono ?_
  rintro e w3 ⟨rfl, rfl⟩
  go_wp2
  go_ret
  exact ⟨rfl, rfl⟩
theorem binops_at (w : World) : Calls Try.prog 32 #[] w fun e w' => ∃ g, e = .returned (.slice (some ⟨g, 0, none⟩) 12 12) ∧ (w'.cell? ⟨g, 5, none⟩ = some (.func (.func 33) #[] #[]) ∧ w'.cell? ⟨g, 6, none⟩ = some (.func (.func 34) #[] #[]) ∧ w'.cell? ⟨g, 7, none⟩ = some (.func (.func 35) #[] #[]) ∧ w'.cell? ⟨g, 8, none⟩ = some (.func (.func 36) #[] #[]) ∧ w'.cell? ⟨g, 9, none⟩ = some (.func (.func 37) #[] #[]) ∧ w'.cell? ⟨g, 10, none⟩ = some (.func (.func 38) #[] #[]) ∧ w'.cell? ⟨g, 11, none⟩ = some (.func (.func 40) #[] #[])) ∧ Below w.heap.size w w' := by
  go_enter Try.func32, Try.ntmps32
  go_wp2
  go_ret
  refine ⟨_, rfl, ?_, by (repeat' (first | assumption | exact Below.refl _ _ | refine bDrewN ?_ _ | refine Below.drew ?_ | refine bAlloc ?_ (Nat.le_refl _) _ | refine bSet ?_ (by first | exact Nat.le_refl _ | omega | (simp <;> omega)) _))⟩
  refine ⟨?_, ?_, ?_, ?_, ?_, ?_, ?_⟩ <;> exact box_cell (heap_alloc_new w _) _ _ rfl

set_option maxRecDepth 100000 in
set_option maxHeartbeats 3200000 in
theorem implOp_k0 {V : List Int} {av vv : Value} (A : List Int) (a : Int) {r : Int} (w : World) (hA : rdIntS 0 w.heap.size w [av] A) (hv : rdIntS 0 w.heap.size w [vv] V) (hr : a = r) :
    Calls Try.prog 31 #[.agg #[.int .i64 0, .int .i64 a, .int .i64 0], av, vv] w fun e w' => e = .returned (.int .i64 r) ∧ Below w.heap.size w w' := by
  obtain ⟨aA, ac, rfl, al, -⟩ := slice_of hA
  obtain ⟨vA, vc, rfl, vl, -⟩ := slice_of hv
  subst hr
  clear hA hv
  go_enter Try.func31, Try.ntmps31
  go_wp2
  go_ret
  exact ⟨rfl, by (repeat' (first | assumption | exact Below.refl _ _ | refine bDrewN ?_ _ | refine Below.drew ?_ | refine bAlloc ?_ (Nat.le_refl _) _ | refine bSet ?_ (by first | exact Nat.le_refl _ | omega | (simp <;> omega)) _))⟩

set_option maxRecDepth 100000 in
set_option maxHeartbeats 3200000 in
theorem implOp_k2 {V : List Int} {av vv : Value} (A : List Int) (a : Nat) (x : Int) {r : Int} (w : World) (hA : rdIntS 0 w.heap.size w [av] A) (hv : rdIntS 0 w.heap.size w [vv] V) (hx : V[a]? = some x) (hr : x = r) :
    Calls Try.prog 31 #[.agg #[.int .i64 2, .int .i64 (a : Int), .int .i64 0], av, vv] w fun e w' => e = .returned (.int .i64 r) ∧ Below w.heap.size w w' := by
  obtain ⟨aA, ac, rfl, al, -⟩ := slice_of hA
  obtain ⟨vA, vc, rfl, vl, -⟩ := slice_of hv
  subst hr
  have ha : a < V.length := (List.getElem?_eq_some_iff.1 hx).1
  obtain ⟨b', q', rfl, hb', d0, -⟩ := at_Int hv hx
  clear hA hv
  go_enter Try.func31, Try.ntmps31
  go_wp2
  go_ret
  exact ⟨rfl, by (repeat' (first | assumption | exact Below.refl _ _ | refine bDrewN ?_ _ | refine Below.drew ?_ | refine bAlloc ?_ (Nat.le_refl _) _ | refine bSet ?_ (by first | exact Nat.le_refl _ | omega | (simp <;> omega)) _))⟩

set_option maxRecDepth 100000 in
set_option maxHeartbeats 3200000 in
theorem implOp_k3 {V : List Int} {av vv : Value} (A : List Int) (a s x : Nat) (hs : s ≤ 3) (hx15 : x ≤ 15) {r : Int} (w : World) (hA : rdIntS 0 w.heap.size w [av] A) (hv : rdIntS 0 w.heap.size w [vv] V) (hx : V[a]? = some (x : Int)) (hr : ((x.testBit s).toNat : Int) = r) :
    Calls Try.prog 31 #[.agg #[.int .i64 3, .int .i64 (a : Int), .int .i64 (s : Int)], av, vv] w fun e w' => e = .returned (.int .i64 r) ∧ Below w.heap.size w w' := by
  obtain ⟨aA, ac, rfl, al, -⟩ := slice_of hA
  obtain ⟨vA, vc, rfl, vl, -⟩ := slice_of hv
  have e1 := bit_one x s (by omega) (by omega)
  rw [hr] at e1
  have ha : a < V.length := (List.getElem?_eq_some_iff.1 hx).1
  obtain ⟨b', q', rfl, hb', d0, -⟩ := at_Int hv hx
  clear hA hv hr
  go_enter Try.func31, Try.ntmps31
  go_wp2
  go_quiet (fail)
  go_wp2
  go_ret
  exact ⟨rfl, by (repeat' (first | assumption | exact Below.refl _ _ | refine bDrewN ?_ _ | refine Below.drew ?_ | refine bAlloc ?_ (Nat.le_refl _) _ | refine bSet ?_ (by first | exact Nat.le_refl _ | omega | (simp <;> omega)) _))⟩

set_option maxRecDepth 100000 in
set_option maxHeartbeats 3200000 in
theorem implOp_k4 {V : List Int} {av vv : Value} (xa : Nat) (h0 : xa < 16) {r : Int} (w : World) (hA : rdIntS 0 w.heap.size w [av] [(xa : Int)]) (hv : rdIntS 0 w.heap.size w [vv] V) (hr : -(xa : Int) - 1 = r) :
    Calls Try.prog 31 #[.agg #[.int .i64 4, .int .i64 0, .int .i64 0], av, vv] w fun e w' => e = .returned (.int .i64 r) ∧ Below w.heap.size w w' := by
  obtain ⟨aA, ac, rfl, al, -⟩ := slice_of hA
  obtain ⟨vA, vc, rfl, vl, -⟩ := slice_of hv
  obtain ⟨b0, q0, rfl, hb0, d0, -⟩ := at_Int hA (k := 0) rfl
  simp only [List.length_cons, List.length_nil, Nat.zero_add, Nat.reduceAdd, Nat.add_zero] at hA al d0 ⊢
  have en := xor_not xa (by omega)
  rw [hr] at en
  clear hA hv hr
  go_enter Try.func31, Try.ntmps31
  go_wp2
  go_ret
  exact ⟨rfl, by (repeat' (first | assumption | exact Below.refl _ _ | refine bDrewN ?_ _ | refine Below.drew ?_ | refine bAlloc ?_ (Nat.le_refl _) _ | refine bSet ?_ (by first | exact Nat.le_refl _ | omega | (simp <;> omega)) _))⟩

set_option maxRecDepth 100000 in
set_option maxHeartbeats 3200000 in
theorem implOp_k12 {V : List Int} {av vv : Value} (xa xb xc : Int) {r : Int} (w : World) (hA : rdIntS 0 w.heap.size w [av] [xa, xb, xc]) (hv : rdIntS 0 w.heap.size w [vv] V) (hr : (if xa = 0 then xc else xb) = r) :
    Calls Try.prog 31 #[.agg #[.int .i64 12, .int .i64 0, .int .i64 0], av, vv] w fun e w' => e = .returned (.int .i64 r) ∧ Below w.heap.size w w' := by
  obtain ⟨aA, ac, rfl, al, -⟩ := slice_of hA
  obtain ⟨vA, vc, rfl, vl, -⟩ := slice_of hv
  obtain ⟨b0, q0, rfl, hb0, d0, -⟩ := at_Int hA (k := 0) rfl
  obtain ⟨b1, q1, e1, hb1, d1, -⟩ := at_Int hA (k := 1) rfl
  injection e1 with e1
  injection e1 with e1a e1b
  subst e1a e1b
  obtain ⟨b2, q2, e2, hb2, d2, -⟩ := at_Int hA (k := 2) rfl
  injection e2 with e2
  injection e2 with e2a e2b
  subst e2a e2b
  simp only [List.length_cons, List.length_nil, Nat.zero_add, Nat.reduceAdd, Nat.add_zero] at hA al d0 ⊢
  clear hA hv
  by_cases h0 : xa = 0
  · have t0 : (xa == 0) = true := by simp [h0]
    have t1 : (xa != 0) = false := by simp [h0]
    rw [if_pos h0] at hr
    clear h0
    go_enter Try.func31, Try.ntmps31
    go_wp2
    go_ret
    exact ⟨ret_i64 (by first | rfl | exact hr), by (repeat' (first | assumption | exact Below.refl _ _ | refine bDrewN ?_ _ | refine Below.drew ?_ | refine bAlloc ?_ (Nat.le_refl _) _ | refine bSet ?_ (by first | exact Nat.le_refl _ | omega | (simp <;> omega)) _))⟩
  · have t0 : (xa == 0) = false := by simp [h0]
    have t1 : (xa != 0) = true := by simp [h0]
    rw [if_neg h0] at hr
    clear h0
    go_enter Try.func31, Try.ntmps31
    go_wp2
    go_ret
    exact ⟨ret_i64 (by first | rfl | exact hr), by (repeat' (first | assumption | exact Below.refl _ _ | refine bDrewN ?_ _ | refine Below.drew ?_ | refine bAlloc ?_ (Nat.le_refl _) _ | refine bSet ?_ (by first | exact Nat.le_refl _ | omega | (simp <;> omega)) _))⟩

set_option maxRecDepth 100000 in
set_option maxHeartbeats 3200000 in
theorem implOp_k5 {V : List Int} {av vv : Value} (xa xb : Nat) (h0 : xa < 16) (h1 : xb < 16) {r : Int} (w : World) (hA : rdIntS 0 w.heap.size w [av] [(xa : Int), (xb : Int)]) (hv : rdIntS 0 w.heap.size w [vv] V) (hr : ((xa &&& xb : Nat) : Int) = r) :
    Calls Try.prog 31 #[.agg #[.int .i64 5, .int .i64 0, .int .i64 0], av, vv] w fun e w' => e = .returned (.int .i64 r) ∧ Below w.heap.size w w' := by
  obtain ⟨aA, ac, rfl, al, -⟩ := slice_of hA
  obtain ⟨vA, vc, rfl, vl, -⟩ := slice_of hv
  obtain ⟨b0, q0, rfl, hb0, d0, -⟩ := at_Int hA (k := 0) rfl
  obtain ⟨b1, q1, e1, hb1, d1, -⟩ := at_Int hA (k := 1) rfl
  injection e1 with e1
  injection e1 with e1a e1b
  subst e1a e1b
  simp only [List.length_cons, List.length_nil, Nat.zero_add, Nat.reduceAdd, Nat.add_zero] at hA al d0 ⊢
  have HR := Lib.hid hr
  clear hA hv hr
  go_enter Try.func31, Try.ntmps31
  go_wp2_with fail
  obtain ⟨W0, hW0⟩ : ∃ W0, W0 = w.alloc (.cells #[.int .i64 5, .int .i64 0, .int .i64 0] 35) := ⟨_, rfl⟩
  rw [← hW0]
  have g := eqbox1 hW0
  have c0 : W0.cell? ⟨w.heap.size, 0, none⟩ = some (.int .i64 5) := box_cell g.1 0 _ rfl
  have HB := Lib.hid g.2
  have hS0 : (fun w' => Below W0.heap.size W0 w' ∧ w'.cell? ⟨w.heap.size, 0, none⟩ = some (.int .i64 5) ∧ w'.cell? ⟨b0, q0, none⟩ = some (.int .i64 (xa : Int)) ∧ w'.cell? ⟨b0, q0 + 1, none⟩ = some (.int .i64 (xb : Int))) W0 := ⟨Below.refl _ _, c0, keep g.2 d0, keep g.2 d1⟩
  have hS : ∀ {w0 w' : World}, (fun w' => Below W0.heap.size W0 w' ∧ w'.cell? ⟨w.heap.size, 0, none⟩ = some (.int .i64 5) ∧ w'.cell? ⟨b0, q0, none⟩ = some (.int .i64 (xa : Int)) ∧ w'.cell? ⟨b0, q0 + 1, none⟩ = some (.int .i64 (xb : Int))) w0 → Below w0.heap.size w0 w' → (fun w' => Below W0.heap.size W0 w' ∧ w'.cell? ⟨w.heap.size, 0, none⟩ = some (.int .i64 5) ∧ w'.cell? ⟨b0, q0, none⟩ = some (.int .i64 (xa : Int)) ∧ w'.cell? ⟨b0, q0 + 1, none⟩ = some (.int .i64 (xb : Int))) w' := fun h hb => ⟨bThen h.1 hb, keep hb h.2.1, keep hb h.2.2.1, keep hb h.2.2.2⟩
  dsimp only at hS0 hS
  clear hW0 g c0 d0 d1
  refine wp_region_noPanic ?_
  refine wp_region_kept 11 13 (fun w' => Below W0.heap.size W0 w' ∧ w'.cell? ⟨w.heap.size, 0, none⟩ = some (.int .i64 5) ∧ w'.cell? ⟨b0, q0, none⟩ = some (.int .i64 (xa : Int)) ∧ w'.cell? ⟨b0, q0 + 1, none⟩ = some (.int .i64 (xb : Int))) (by kernel_rfl) rfl (hS hS0 (Below.drew (Below.refl _ _))) (fun hK0 => ?_)
  refine Kept.take (v := ?vr1) 1 (by kernel_rfl) rfl (by kernel_rfl) (fun _ _ _ h => h) (Or.inl ⟨by rfl, ?hyr1⟩) hK0 ?restr1
  case hyr1 =>
    intro w0 hSw
    (try dsimp only at hSw)
    go_simp
    all_goals (with_reducible rfl)
  (try simp only [Act.put, List.setIfInBounds_toArray, List.set_cons_zero, List.set_cons_succ])
  refine Kept.take (v := ?vr2) 2 (by kernel_rfl) rfl (by kernel_rfl) (fun _ _ _ h => h) (Or.inl ⟨by rfl, ?hyr2⟩) hK0 ?restr2
  case hyr2 =>
    intro w0 hSw
    (try dsimp only at hSw)
    go_simp
    all_goals (with_reducible rfl)
  (try simp only [Act.put, List.setIfInBounds_toArray, List.set_cons_zero, List.set_cons_succ])
  refine Kept.take (v := ?vr5) 5 (by kernel_rfl) rfl (by kernel_rfl) (fun _ _ _ h => h) (Or.inl ⟨by rfl, ?hyr5⟩) hK0 ?restr5
  case hyr5 =>
    intro w0 hSw
    (try dsimp only at hSw)
    go_simp
    all_goals (with_reducible rfl)
  (try simp only [Act.put, List.setIfInBounds_toArray, List.set_cons_zero, List.set_cons_succ])
  refine Kept.take (v := ?vr6) 6 (by kernel_rfl) rfl (by kernel_rfl) (fun _ _ _ h => h) (Or.inl ⟨by rfl, ?hyr6⟩) hK0 ?restr6
  case hyr6 =>
    intro w0 hSw
    (try dsimp only at hSw)
    go_simp
    all_goals (with_reducible rfl)
  (try simp only [Act.put, List.setIfInBounds_toArray, List.set_cons_zero, List.set_cons_succ])
  refine Kept.take (v := ?vr7) 7 (by kernel_rfl) rfl (by kernel_rfl) (fun _ _ _ h => h) (Or.inl ⟨by rfl, ?hyr7⟩) hK0 ?restr7
  case hyr7 =>
    intro w0 hSw
    (try dsimp only at hSw)
    go_simp
    all_goals (with_reducible rfl)
  (try simp only [Act.put, List.setIfInBounds_toArray, List.set_cons_zero, List.set_cons_succ])
  refine Kept.take (v := ?vr8) 8 (by kernel_rfl) rfl (by kernel_rfl) (fun _ _ _ h => h) (Or.inl ⟨by rfl, ?hyr8⟩) hK0 ?restr8
  case hyr8 =>
    intro w0 hSw
    (try dsimp only at hSw)
    go_simp
    all_goals (with_reducible rfl)
  (try simp only [Act.put, List.setIfInBounds_toArray, List.set_cons_zero, List.set_cons_succ])
  refine Kept.take (v := ?vr9) 9 (by kernel_rfl) rfl (by kernel_rfl) (fun _ _ _ h => h) (Or.inl ⟨by rfl, ?hyr9⟩) hK0 ?restr9
  case hyr9 =>
    intro w0 hSw
    (try dsimp only at hSw)
    go_simp
    all_goals (with_reducible rfl)
  (try simp only [Act.put, List.setIfInBounds_toArray, List.set_cons_zero, List.set_cons_succ])
  refine Kept.take (v := ?vr10) 10 (by kernel_rfl) rfl (by kernel_rfl) (fun _ _ _ h => h) (Or.inl ⟨by rfl, ?hyr10⟩) hK0 ?restr10
  case hyr10 =>
    intro w0 hSw
    (try dsimp only at hSw)
    go_simp
    all_goals (with_reducible rfl)
  (try simp only [Act.put, List.setIfInBounds_toArray, List.set_cons_zero, List.set_cons_succ])
  refine Kept.one 0 (by kernel_rfl) rfl (fun K hK => ?_)
  go_simp
  go_at_call 32
  refine (binops_at _).mono ?_
  rintro e w4 ⟨g, rfl, ⟨f5, f6, f7, f8, f9, f10, f11⟩, hb4⟩
  go_simp
  refine hK.out _ _ (hS hK0 hb4) (fun hK1 => ?_)
  clear hK K hK0
  (try simp only [Act.put, List.setIfInBounds_toArray, List.set_cons_zero, List.set_cons_succ])
  refine Kept.one 3 (by kernel_rfl) rfl (fun K hK => ?_)
  go_simp
  refine hK.out _ _ (hK1) (fun hK2 => ?_)
  clear hK K hK1
  (try simp only [Act.put, List.setIfInBounds_toArray, List.set_cons_zero, List.set_cons_succ])
  refine Kept.one 4 (by kernel_rfl) rfl (fun K hK => ?_)
  go_simp
  refine hK.out _ _ (hK2) (fun hK3 => ?_)
  clear hK K hK2
  (try simp only [Act.put, List.setIfInBounds_toArray, List.set_cons_zero, List.set_cons_succ])
  refine Kept.tail (by rfl) (by kernel_rfl) ?_
  simp only [List.drop_succ_cons, List.drop_zero]
  go_wp2_with fail
  refine (bin5_at xa xb h0 h1 _ HR.out).mono ?_
  rintro e w5 ⟨rfl, rfl⟩
  go_wp2
  refine NoPanic.normal ?_
  go_wp2
  go_ret
  exact ⟨rfl, bThen HB.out hK3.1⟩

set_option maxRecDepth 100000 in
set_option maxHeartbeats 3200000 in
theorem implOp_k6 {V : List Int} {av vv : Value} (xa xb : Nat) (h0 : xa < 16) (h1 : xb < 16) {r : Int} (w : World) (hA : rdIntS 0 w.heap.size w [av] [(xa : Int), (xb : Int)]) (hv : rdIntS 0 w.heap.size w [vv] V) (hr : ((xa ||| xb : Nat) : Int) = r) :
    Calls Try.prog 31 #[.agg #[.int .i64 6, .int .i64 0, .int .i64 0], av, vv] w fun e w' => e = .returned (.int .i64 r) ∧ Below w.heap.size w w' := by
  obtain ⟨aA, ac, rfl, al, -⟩ := slice_of hA
  obtain ⟨vA, vc, rfl, vl, -⟩ := slice_of hv
  obtain ⟨b0, q0, rfl, hb0, d0, -⟩ := at_Int hA (k := 0) rfl
  obtain ⟨b1, q1, e1, hb1, d1, -⟩ := at_Int hA (k := 1) rfl
  injection e1 with e1
  injection e1 with e1a e1b
  subst e1a e1b
  simp only [List.length_cons, List.length_nil, Nat.zero_add, Nat.reduceAdd, Nat.add_zero] at hA al d0 ⊢
  have HR := Lib.hid hr
  clear hA hv hr
  go_enter Try.func31, Try.ntmps31
  go_wp2_with fail
  obtain ⟨W0, hW0⟩ : ∃ W0, W0 = w.alloc (.cells #[.int .i64 6, .int .i64 0, .int .i64 0] 35) := ⟨_, rfl⟩
  rw [← hW0]
  have g := eqbox1 hW0
  have c0 : W0.cell? ⟨w.heap.size, 0, none⟩ = some (.int .i64 6) := box_cell g.1 0 _ rfl
  have HB := Lib.hid g.2
  have hS0 : (fun w' => Below W0.heap.size W0 w' ∧ w'.cell? ⟨w.heap.size, 0, none⟩ = some (.int .i64 6) ∧ w'.cell? ⟨b0, q0, none⟩ = some (.int .i64 (xa : Int)) ∧ w'.cell? ⟨b0, q0 + 1, none⟩ = some (.int .i64 (xb : Int))) W0 := ⟨Below.refl _ _, c0, keep g.2 d0, keep g.2 d1⟩
  have hS : ∀ {w0 w' : World}, (fun w' => Below W0.heap.size W0 w' ∧ w'.cell? ⟨w.heap.size, 0, none⟩ = some (.int .i64 6) ∧ w'.cell? ⟨b0, q0, none⟩ = some (.int .i64 (xa : Int)) ∧ w'.cell? ⟨b0, q0 + 1, none⟩ = some (.int .i64 (xb : Int))) w0 → Below w0.heap.size w0 w' → (fun w' => Below W0.heap.size W0 w' ∧ w'.cell? ⟨w.heap.size, 0, none⟩ = some (.int .i64 6) ∧ w'.cell? ⟨b0, q0, none⟩ = some (.int .i64 (xa : Int)) ∧ w'.cell? ⟨b0, q0 + 1, none⟩ = some (.int .i64 (xb : Int))) w' := fun h hb => ⟨bThen h.1 hb, keep hb h.2.1, keep hb h.2.2.1, keep hb h.2.2.2⟩
  dsimp only at hS0 hS
  clear hW0 g c0 d0 d1
  refine wp_region_noPanic ?_
  refine wp_region_kept 11 13 (fun w' => Below W0.heap.size W0 w' ∧ w'.cell? ⟨w.heap.size, 0, none⟩ = some (.int .i64 6) ∧ w'.cell? ⟨b0, q0, none⟩ = some (.int .i64 (xa : Int)) ∧ w'.cell? ⟨b0, q0 + 1, none⟩ = some (.int .i64 (xb : Int))) (by kernel_rfl) rfl (hS hS0 (Below.drew (Below.refl _ _))) (fun hK0 => ?_)
  refine Kept.take (v := ?vr1) 1 (by kernel_rfl) rfl (by kernel_rfl) (fun _ _ _ h => h) (Or.inl ⟨by rfl, ?hyr1⟩) hK0 ?restr1
  case hyr1 =>
    intro w0 hSw
    (try dsimp only at hSw)
    go_simp
    all_goals (with_reducible rfl)
  (try simp only [Act.put, List.setIfInBounds_toArray, List.set_cons_zero, List.set_cons_succ])
  refine Kept.take (v := ?vr2) 2 (by kernel_rfl) rfl (by kernel_rfl) (fun _ _ _ h => h) (Or.inl ⟨by rfl, ?hyr2⟩) hK0 ?restr2
  case hyr2 =>
    intro w0 hSw
    (try dsimp only at hSw)
    go_simp
    all_goals (with_reducible rfl)
  (try simp only [Act.put, List.setIfInBounds_toArray, List.set_cons_zero, List.set_cons_succ])
  refine Kept.take (v := ?vr5) 5 (by kernel_rfl) rfl (by kernel_rfl) (fun _ _ _ h => h) (Or.inl ⟨by rfl, ?hyr5⟩) hK0 ?restr5
  case hyr5 =>
    intro w0 hSw
    (try dsimp only at hSw)
    go_simp
    all_goals (with_reducible rfl)
  (try simp only [Act.put, List.setIfInBounds_toArray, List.set_cons_zero, List.set_cons_succ])
  refine Kept.take (v := ?vr6) 6 (by kernel_rfl) rfl (by kernel_rfl) (fun _ _ _ h => h) (Or.inl ⟨by rfl, ?hyr6⟩) hK0 ?restr6
  case hyr6 =>
    intro w0 hSw
    (try dsimp only at hSw)
    go_simp
    all_goals (with_reducible rfl)
  (try simp only [Act.put, List.setIfInBounds_toArray, List.set_cons_zero, List.set_cons_succ])
  refine Kept.take (v := ?vr7) 7 (by kernel_rfl) rfl (by kernel_rfl) (fun _ _ _ h => h) (Or.inl ⟨by rfl, ?hyr7⟩) hK0 ?restr7
  case hyr7 =>
    intro w0 hSw
    (try dsimp only at hSw)
    go_simp
    all_goals (with_reducible rfl)
  (try simp only [Act.put, List.setIfInBounds_toArray, List.set_cons_zero, List.set_cons_succ])
  refine Kept.take (v := ?vr8) 8 (by kernel_rfl) rfl (by kernel_rfl) (fun _ _ _ h => h) (Or.inl ⟨by rfl, ?hyr8⟩) hK0 ?restr8
  case hyr8 =>
    intro w0 hSw
    (try dsimp only at hSw)
    go_simp
    all_goals (with_reducible rfl)
  (try simp only [Act.put, List.setIfInBounds_toArray, List.set_cons_zero, List.set_cons_succ])
  refine Kept.take (v := ?vr9) 9 (by kernel_rfl) rfl (by kernel_rfl) (fun _ _ _ h => h) (Or.inl ⟨by rfl, ?hyr9⟩) hK0 ?restr9
  case hyr9 =>
    intro w0 hSw
    (try dsimp only at hSw)
    go_simp
    all_goals (with_reducible rfl)
  (try simp only [Act.put, List.setIfInBounds_toArray, List.set_cons_zero, List.set_cons_succ])
  refine Kept.take (v := ?vr10) 10 (by kernel_rfl) rfl (by kernel_rfl) (fun _ _ _ h => h) (Or.inl ⟨by rfl, ?hyr10⟩) hK0 ?restr10
  case hyr10 =>
    intro w0 hSw
    (try dsimp only at hSw)
    go_simp
    all_goals (with_reducible rfl)
  (try simp only [Act.put, List.setIfInBounds_toArray, List.set_cons_zero, List.set_cons_succ])
  refine Kept.one 0 (by kernel_rfl) rfl (fun K hK => ?_)
  go_simp
  go_at_call 32
  refine (binops_at _).mono ?_
  rintro e w4 ⟨g, rfl, ⟨f5, f6, f7, f8, f9, f10, f11⟩, hb4⟩
  go_simp
  refine hK.out _ _ (hS hK0 hb4) (fun hK1 => ?_)
  clear hK K hK0
  (try simp only [Act.put, List.setIfInBounds_toArray, List.set_cons_zero, List.set_cons_succ])
  refine Kept.one 3 (by kernel_rfl) rfl (fun K hK => ?_)
  go_simp
  refine hK.out _ _ (hK1) (fun hK2 => ?_)
  clear hK K hK1
  (try simp only [Act.put, List.setIfInBounds_toArray, List.set_cons_zero, List.set_cons_succ])
  refine Kept.one 4 (by kernel_rfl) rfl (fun K hK => ?_)
  go_simp
  refine hK.out _ _ (hK2) (fun hK3 => ?_)
  clear hK K hK2
  (try simp only [Act.put, List.setIfInBounds_toArray, List.set_cons_zero, List.set_cons_succ])
  refine Kept.tail (by rfl) (by kernel_rfl) ?_
  simp only [List.drop_succ_cons, List.drop_zero]
  go_wp2_with fail
  refine (bin6_at xa xb h0 h1 _ HR.out).mono ?_
  rintro e w5 ⟨rfl, rfl⟩
  go_wp2
  refine NoPanic.normal ?_
  go_wp2
  go_ret
  exact ⟨rfl, bThen HB.out hK3.1⟩

set_option maxRecDepth 100000 in
set_option maxHeartbeats 3200000 in
theorem implOp_k7 {V : List Int} {av vv : Value} (xa xb : Nat) (h0 : xa < 16) (h1 : xb < 16) {r : Int} (w : World) (hA : rdIntS 0 w.heap.size w [av] [(xa : Int), (xb : Int)]) (hv : rdIntS 0 w.heap.size w [vv] V) (hr : ((xa ^^^ xb : Nat) : Int) = r) :
    Calls Try.prog 31 #[.agg #[.int .i64 7, .int .i64 0, .int .i64 0], av, vv] w fun e w' => e = .returned (.int .i64 r) ∧ Below w.heap.size w w' := by
  obtain ⟨aA, ac, rfl, al, -⟩ := slice_of hA
  obtain ⟨vA, vc, rfl, vl, -⟩ := slice_of hv
  obtain ⟨b0, q0, rfl, hb0, d0, -⟩ := at_Int hA (k := 0) rfl
  obtain ⟨b1, q1, e1, hb1, d1, -⟩ := at_Int hA (k := 1) rfl
  injection e1 with e1
  injection e1 with e1a e1b
  subst e1a e1b
  simp only [List.length_cons, List.length_nil, Nat.zero_add, Nat.reduceAdd, Nat.add_zero] at hA al d0 ⊢
  have HR := Lib.hid hr
  clear hA hv hr
  go_enter Try.func31, Try.ntmps31
  go_wp2_with fail
  obtain ⟨W0, hW0⟩ : ∃ W0, W0 = w.alloc (.cells #[.int .i64 7, .int .i64 0, .int .i64 0] 35) := ⟨_, rfl⟩
  rw [← hW0]
  have g := eqbox1 hW0
  have c0 : W0.cell? ⟨w.heap.size, 0, none⟩ = some (.int .i64 7) := box_cell g.1 0 _ rfl
  have HB := Lib.hid g.2
  have hS0 : (fun w' => Below W0.heap.size W0 w' ∧ w'.cell? ⟨w.heap.size, 0, none⟩ = some (.int .i64 7) ∧ w'.cell? ⟨b0, q0, none⟩ = some (.int .i64 (xa : Int)) ∧ w'.cell? ⟨b0, q0 + 1, none⟩ = some (.int .i64 (xb : Int))) W0 := ⟨Below.refl _ _, c0, keep g.2 d0, keep g.2 d1⟩
  have hS : ∀ {w0 w' : World}, (fun w' => Below W0.heap.size W0 w' ∧ w'.cell? ⟨w.heap.size, 0, none⟩ = some (.int .i64 7) ∧ w'.cell? ⟨b0, q0, none⟩ = some (.int .i64 (xa : Int)) ∧ w'.cell? ⟨b0, q0 + 1, none⟩ = some (.int .i64 (xb : Int))) w0 → Below w0.heap.size w0 w' → (fun w' => Below W0.heap.size W0 w' ∧ w'.cell? ⟨w.heap.size, 0, none⟩ = some (.int .i64 7) ∧ w'.cell? ⟨b0, q0, none⟩ = some (.int .i64 (xa : Int)) ∧ w'.cell? ⟨b0, q0 + 1, none⟩ = some (.int .i64 (xb : Int))) w' := fun h hb => ⟨bThen h.1 hb, keep hb h.2.1, keep hb h.2.2.1, keep hb h.2.2.2⟩
  dsimp only at hS0 hS
  clear hW0 g c0 d0 d1
  refine wp_region_noPanic ?_
  refine wp_region_kept 11 13 (fun w' => Below W0.heap.size W0 w' ∧ w'.cell? ⟨w.heap.size, 0, none⟩ = some (.int .i64 7) ∧ w'.cell? ⟨b0, q0, none⟩ = some (.int .i64 (xa : Int)) ∧ w'.cell? ⟨b0, q0 + 1, none⟩ = some (.int .i64 (xb : Int))) (by kernel_rfl) rfl (hS hS0 (Below.drew (Below.refl _ _))) (fun hK0 => ?_)
  refine Kept.take (v := ?vr1) 1 (by kernel_rfl) rfl (by kernel_rfl) (fun _ _ _ h => h) (Or.inl ⟨by rfl, ?hyr1⟩) hK0 ?restr1
  case hyr1 =>
    intro w0 hSw
    (try dsimp only at hSw)
    go_simp
    all_goals (with_reducible rfl)
  (try simp only [Act.put, List.setIfInBounds_toArray, List.set_cons_zero, List.set_cons_succ])
  refine Kept.take (v := ?vr2) 2 (by kernel_rfl) rfl (by kernel_rfl) (fun _ _ _ h => h) (Or.inl ⟨by rfl, ?hyr2⟩) hK0 ?restr2
  case hyr2 =>
    intro w0 hSw
    (try dsimp only at hSw)
    go_simp
    all_goals (with_reducible rfl)
  (try simp only [Act.put, List.setIfInBounds_toArray, List.set_cons_zero, List.set_cons_succ])
  refine Kept.take (v := ?vr5) 5 (by kernel_rfl) rfl (by kernel_rfl) (fun _ _ _ h => h) (Or.inl ⟨by rfl, ?hyr5⟩) hK0 ?restr5
  case hyr5 =>
    intro w0 hSw
    (try dsimp only at hSw)
    go_simp
    all_goals (with_reducible rfl)
  (try simp only [Act.put, List.setIfInBounds_toArray, List.set_cons_zero, List.set_cons_succ])
  refine Kept.take (v := ?vr6) 6 (by kernel_rfl) rfl (by kernel_rfl) (fun _ _ _ h => h) (Or.inl ⟨by rfl, ?hyr6⟩) hK0 ?restr6
  case hyr6 =>
    intro w0 hSw
    (try dsimp only at hSw)
    go_simp
    all_goals (with_reducible rfl)
  (try simp only [Act.put, List.setIfInBounds_toArray, List.set_cons_zero, List.set_cons_succ])
  refine Kept.take (v := ?vr7) 7 (by kernel_rfl) rfl (by kernel_rfl) (fun _ _ _ h => h) (Or.inl ⟨by rfl, ?hyr7⟩) hK0 ?restr7
  case hyr7 =>
    intro w0 hSw
    (try dsimp only at hSw)
    go_simp
    all_goals (with_reducible rfl)
  (try simp only [Act.put, List.setIfInBounds_toArray, List.set_cons_zero, List.set_cons_succ])
  refine Kept.take (v := ?vr8) 8 (by kernel_rfl) rfl (by kernel_rfl) (fun _ _ _ h => h) (Or.inl ⟨by rfl, ?hyr8⟩) hK0 ?restr8
  case hyr8 =>
    intro w0 hSw
    (try dsimp only at hSw)
    go_simp
    all_goals (with_reducible rfl)
  (try simp only [Act.put, List.setIfInBounds_toArray, List.set_cons_zero, List.set_cons_succ])
  refine Kept.take (v := ?vr9) 9 (by kernel_rfl) rfl (by kernel_rfl) (fun _ _ _ h => h) (Or.inl ⟨by rfl, ?hyr9⟩) hK0 ?restr9
  case hyr9 =>
    intro w0 hSw
    (try dsimp only at hSw)
    go_simp
    all_goals (with_reducible rfl)
  (try simp only [Act.put, List.setIfInBounds_toArray, List.set_cons_zero, List.set_cons_succ])
  refine Kept.take (v := ?vr10) 10 (by kernel_rfl) rfl (by kernel_rfl) (fun _ _ _ h => h) (Or.inl ⟨by rfl, ?hyr10⟩) hK0 ?restr10
  case hyr10 =>
    intro w0 hSw
    (try dsimp only at hSw)
    go_simp
    all_goals (with_reducible rfl)
  (try simp only [Act.put, List.setIfInBounds_toArray, List.set_cons_zero, List.set_cons_succ])
  refine Kept.one 0 (by kernel_rfl) rfl (fun K hK => ?_)
  go_simp
  go_at_call 32
  refine (binops_at _).mono ?_
  rintro e w4 ⟨g, rfl, ⟨f5, f6, f7, f8, f9, f10, f11⟩, hb4⟩
  go_simp
  refine hK.out _ _ (hS hK0 hb4) (fun hK1 => ?_)
  clear hK K hK0
  (try simp only [Act.put, List.setIfInBounds_toArray, List.set_cons_zero, List.set_cons_succ])
  refine Kept.one 3 (by kernel_rfl) rfl (fun K hK => ?_)
  go_simp
  refine hK.out _ _ (hK1) (fun hK2 => ?_)
  clear hK K hK1
  (try simp only [Act.put, List.setIfInBounds_toArray, List.set_cons_zero, List.set_cons_succ])
  refine Kept.one 4 (by kernel_rfl) rfl (fun K hK => ?_)
  go_simp
  refine hK.out _ _ (hK2) (fun hK3 => ?_)
  clear hK K hK2
  (try simp only [Act.put, List.setIfInBounds_toArray, List.set_cons_zero, List.set_cons_succ])
  refine Kept.tail (by rfl) (by kernel_rfl) ?_
  simp only [List.drop_succ_cons, List.drop_zero]
  go_wp2_with fail
  refine (bin7_at xa xb h0 h1 _ HR.out).mono ?_
  rintro e w5 ⟨rfl, rfl⟩
  go_wp2
  refine NoPanic.normal ?_
  go_wp2
  go_ret
  exact ⟨rfl, bThen HB.out hK3.1⟩

set_option maxRecDepth 100000 in
set_option maxHeartbeats 3200000 in
theorem implOp_k8 {V : List Int} {av vv : Value} (xa xb : Nat) (h0 : xa < 16) (h1 : xb < 16) {r : Int} (w : World) (hA : rdIntS 0 w.heap.size w [av] [(xa : Int), (xb : Int)]) (hv : rdIntS 0 w.heap.size w [vv] V) (hr : (xa : Int) + (xb : Int) = r) :
    Calls Try.prog 31 #[.agg #[.int .i64 8, .int .i64 0, .int .i64 0], av, vv] w fun e w' => e = .returned (.int .i64 r) ∧ Below w.heap.size w w' := by
  obtain ⟨aA, ac, rfl, al, -⟩ := slice_of hA
  obtain ⟨vA, vc, rfl, vl, -⟩ := slice_of hv
  obtain ⟨b0, q0, rfl, hb0, d0, -⟩ := at_Int hA (k := 0) rfl
  obtain ⟨b1, q1, e1, hb1, d1, -⟩ := at_Int hA (k := 1) rfl
  injection e1 with e1
  injection e1 with e1a e1b
  subst e1a e1b
  simp only [List.length_cons, List.length_nil, Nat.zero_add, Nat.reduceAdd, Nat.add_zero] at hA al d0 ⊢
  have HR := Lib.hid hr
  clear hA hv hr
  go_enter Try.func31, Try.ntmps31
  go_wp2_with fail
  obtain ⟨W0, hW0⟩ : ∃ W0, W0 = w.alloc (.cells #[.int .i64 8, .int .i64 0, .int .i64 0] 35) := ⟨_, rfl⟩
  rw [← hW0]
  have g := eqbox1 hW0
  have c0 : W0.cell? ⟨w.heap.size, 0, none⟩ = some (.int .i64 8) := box_cell g.1 0 _ rfl
  have HB := Lib.hid g.2
  have hS0 : (fun w' => Below W0.heap.size W0 w' ∧ w'.cell? ⟨w.heap.size, 0, none⟩ = some (.int .i64 8) ∧ w'.cell? ⟨b0, q0, none⟩ = some (.int .i64 (xa : Int)) ∧ w'.cell? ⟨b0, q0 + 1, none⟩ = some (.int .i64 (xb : Int))) W0 := ⟨Below.refl _ _, c0, keep g.2 d0, keep g.2 d1⟩
  have hS : ∀ {w0 w' : World}, (fun w' => Below W0.heap.size W0 w' ∧ w'.cell? ⟨w.heap.size, 0, none⟩ = some (.int .i64 8) ∧ w'.cell? ⟨b0, q0, none⟩ = some (.int .i64 (xa : Int)) ∧ w'.cell? ⟨b0, q0 + 1, none⟩ = some (.int .i64 (xb : Int))) w0 → Below w0.heap.size w0 w' → (fun w' => Below W0.heap.size W0 w' ∧ w'.cell? ⟨w.heap.size, 0, none⟩ = some (.int .i64 8) ∧ w'.cell? ⟨b0, q0, none⟩ = some (.int .i64 (xa : Int)) ∧ w'.cell? ⟨b0, q0 + 1, none⟩ = some (.int .i64 (xb : Int))) w' := fun h hb => ⟨bThen h.1 hb, keep hb h.2.1, keep hb h.2.2.1, keep hb h.2.2.2⟩
  dsimp only at hS0 hS
  clear hW0 g c0 d0 d1
  refine wp_region_noPanic ?_
  refine wp_region_kept 11 13 (fun w' => Below W0.heap.size W0 w' ∧ w'.cell? ⟨w.heap.size, 0, none⟩ = some (.int .i64 8) ∧ w'.cell? ⟨b0, q0, none⟩ = some (.int .i64 (xa : Int)) ∧ w'.cell? ⟨b0, q0 + 1, none⟩ = some (.int .i64 (xb : Int))) (by kernel_rfl) rfl (hS hS0 (Below.drew (Below.refl _ _))) (fun hK0 => ?_)
  refine Kept.take (v := ?vr1) 1 (by kernel_rfl) rfl (by kernel_rfl) (fun _ _ _ h => h) (Or.inl ⟨by rfl, ?hyr1⟩) hK0 ?restr1
  case hyr1 =>
    intro w0 hSw
    (try dsimp only at hSw)
    go_simp
    all_goals (with_reducible rfl)
  (try simp only [Act.put, List.setIfInBounds_toArray, List.set_cons_zero, List.set_cons_succ])
  refine Kept.take (v := ?vr2) 2 (by kernel_rfl) rfl (by kernel_rfl) (fun _ _ _ h => h) (Or.inl ⟨by rfl, ?hyr2⟩) hK0 ?restr2
  case hyr2 =>
    intro w0 hSw
    (try dsimp only at hSw)
    go_simp
    all_goals (with_reducible rfl)
  (try simp only [Act.put, List.setIfInBounds_toArray, List.set_cons_zero, List.set_cons_succ])
  refine Kept.take (v := ?vr5) 5 (by kernel_rfl) rfl (by kernel_rfl) (fun _ _ _ h => h) (Or.inl ⟨by rfl, ?hyr5⟩) hK0 ?restr5
  case hyr5 =>
    intro w0 hSw
    (try dsimp only at hSw)
    go_simp
    all_goals (with_reducible rfl)
  (try simp only [Act.put, List.setIfInBounds_toArray, List.set_cons_zero, List.set_cons_succ])
  refine Kept.take (v := ?vr6) 6 (by kernel_rfl) rfl (by kernel_rfl) (fun _ _ _ h => h) (Or.inl ⟨by rfl, ?hyr6⟩) hK0 ?restr6
  case hyr6 =>
    intro w0 hSw
    (try dsimp only at hSw)
    go_simp
    all_goals (with_reducible rfl)
  (try simp only [Act.put, List.setIfInBounds_toArray, List.set_cons_zero, List.set_cons_succ])
  refine Kept.take (v := ?vr7) 7 (by kernel_rfl) rfl (by kernel_rfl) (fun _ _ _ h => h) (Or.inl ⟨by rfl, ?hyr7⟩) hK0 ?restr7
  case hyr7 =>
    intro w0 hSw
    (try dsimp only at hSw)
    go_simp
    all_goals (with_reducible rfl)
  (try simp only [Act.put, List.setIfInBounds_toArray, List.set_cons_zero, List.set_cons_succ])
  refine Kept.take (v := ?vr8) 8 (by kernel_rfl) rfl (by kernel_rfl) (fun _ _ _ h => h) (Or.inl ⟨by rfl, ?hyr8⟩) hK0 ?restr8
  case hyr8 =>
    intro w0 hSw
    (try dsimp only at hSw)
    go_simp
    all_goals (with_reducible rfl)
  (try simp only [Act.put, List.setIfInBounds_toArray, List.set_cons_zero, List.set_cons_succ])
  refine Kept.take (v := ?vr9) 9 (by kernel_rfl) rfl (by kernel_rfl) (fun _ _ _ h => h) (Or.inl ⟨by rfl, ?hyr9⟩) hK0 ?restr9
  case hyr9 =>
    intro w0 hSw
    (try dsimp only at hSw)
    go_simp
    all_goals (with_reducible rfl)
  (try simp only [Act.put, List.setIfInBounds_toArray, List.set_cons_zero, List.set_cons_succ])
  refine Kept.take (v := ?vr10) 10 (by kernel_rfl) rfl (by kernel_rfl) (fun _ _ _ h => h) (Or.inl ⟨by rfl, ?hyr10⟩) hK0 ?restr10
  case hyr10 =>
    intro w0 hSw
    (try dsimp only at hSw)
    go_simp
    all_goals (with_reducible rfl)
  (try simp only [Act.put, List.setIfInBounds_toArray, List.set_cons_zero, List.set_cons_succ])
  refine Kept.one 0 (by kernel_rfl) rfl (fun K hK => ?_)
  go_simp
  go_at_call 32
  refine (binops_at _).mono ?_
  rintro e w4 ⟨g, rfl, ⟨f5, f6, f7, f8, f9, f10, f11⟩, hb4⟩
  go_simp
  refine hK.out _ _ (hS hK0 hb4) (fun hK1 => ?_)
  clear hK K hK0
  (try simp only [Act.put, List.setIfInBounds_toArray, List.set_cons_zero, List.set_cons_succ])
  refine Kept.one 3 (by kernel_rfl) rfl (fun K hK => ?_)
  go_simp
  refine hK.out _ _ (hK1) (fun hK2 => ?_)
  clear hK K hK1
  (try simp only [Act.put, List.setIfInBounds_toArray, List.set_cons_zero, List.set_cons_succ])
  refine Kept.one 4 (by kernel_rfl) rfl (fun K hK => ?_)
  go_simp
  refine hK.out _ _ (hK2) (fun hK3 => ?_)
  clear hK K hK2
  (try simp only [Act.put, List.setIfInBounds_toArray, List.set_cons_zero, List.set_cons_succ])
  refine Kept.tail (by rfl) (by kernel_rfl) ?_
  simp only [List.drop_succ_cons, List.drop_zero]
  go_wp2_with fail
  refine (bin8_at xa xb h0 h1 _ HR.out).mono ?_
  rintro e w5 ⟨rfl, rfl⟩
  go_wp2
  refine NoPanic.normal ?_
  go_wp2
  go_ret
  exact ⟨rfl, bThen HB.out hK3.1⟩

set_option maxRecDepth 100000 in
set_option maxHeartbeats 3200000 in
theorem implOp_k9 {V : List Int} {av vv : Value} (xa xb : Nat) (h0 : xa < 16) (h1 : xb < 16) {r : Int} (w : World) (hA : rdIntS 0 w.heap.size w [av] [(xa : Int), (xb : Int)]) (hv : rdIntS 0 w.heap.size w [vv] V) (hr : (xa : Int) - (xb : Int) = r) :
    Calls Try.prog 31 #[.agg #[.int .i64 9, .int .i64 0, .int .i64 0], av, vv] w fun e w' => e = .returned (.int .i64 r) ∧ Below w.heap.size w w' := by
  obtain ⟨aA, ac, rfl, al, -⟩ := slice_of hA
  obtain ⟨vA, vc, rfl, vl, -⟩ := slice_of hv
  obtain ⟨b0, q0, rfl, hb0, d0, -⟩ := at_Int hA (k := 0) rfl
  obtain ⟨b1, q1, e1, hb1, d1, -⟩ := at_Int hA (k := 1) rfl
  injection e1 with e1
  injection e1 with e1a e1b
  subst e1a e1b
  simp only [List.length_cons, List.length_nil, Nat.zero_add, Nat.reduceAdd, Nat.add_zero] at hA al d0 ⊢
  have HR := Lib.hid hr
  clear hA hv hr
  go_enter Try.func31, Try.ntmps31
  go_wp2_with fail
  obtain ⟨W0, hW0⟩ : ∃ W0, W0 = w.alloc (.cells #[.int .i64 9, .int .i64 0, .int .i64 0] 35) := ⟨_, rfl⟩
  rw [← hW0]
  have g := eqbox1 hW0
  have c0 : W0.cell? ⟨w.heap.size, 0, none⟩ = some (.int .i64 9) := box_cell g.1 0 _ rfl
  have HB := Lib.hid g.2
  have hS0 : (fun w' => Below W0.heap.size W0 w' ∧ w'.cell? ⟨w.heap.size, 0, none⟩ = some (.int .i64 9) ∧ w'.cell? ⟨b0, q0, none⟩ = some (.int .i64 (xa : Int)) ∧ w'.cell? ⟨b0, q0 + 1, none⟩ = some (.int .i64 (xb : Int))) W0 := ⟨Below.refl _ _, c0, keep g.2 d0, keep g.2 d1⟩
  have hS : ∀ {w0 w' : World}, (fun w' => Below W0.heap.size W0 w' ∧ w'.cell? ⟨w.heap.size, 0, none⟩ = some (.int .i64 9) ∧ w'.cell? ⟨b0, q0, none⟩ = some (.int .i64 (xa : Int)) ∧ w'.cell? ⟨b0, q0 + 1, none⟩ = some (.int .i64 (xb : Int))) w0 → Below w0.heap.size w0 w' → (fun w' => Below W0.heap.size W0 w' ∧ w'.cell? ⟨w.heap.size, 0, none⟩ = some (.int .i64 9) ∧ w'.cell? ⟨b0, q0, none⟩ = some (.int .i64 (xa : Int)) ∧ w'.cell? ⟨b0, q0 + 1, none⟩ = some (.int .i64 (xb : Int))) w' := fun h hb => ⟨bThen h.1 hb, keep hb h.2.1, keep hb h.2.2.1, keep hb h.2.2.2⟩
  dsimp only at hS0 hS
  clear hW0 g c0 d0 d1
  refine wp_region_noPanic ?_
  refine wp_region_kept 11 13 (fun w' => Below W0.heap.size W0 w' ∧ w'.cell? ⟨w.heap.size, 0, none⟩ = some (.int .i64 9) ∧ w'.cell? ⟨b0, q0, none⟩ = some (.int .i64 (xa : Int)) ∧ w'.cell? ⟨b0, q0 + 1, none⟩ = some (.int .i64 (xb : Int))) (by kernel_rfl) rfl (hS hS0 (Below.drew (Below.refl _ _))) (fun hK0 => ?_)
  refine Kept.take (v := ?vr1) 1 (by kernel_rfl) rfl (by kernel_rfl) (fun _ _ _ h => h) (Or.inl ⟨by rfl, ?hyr1⟩) hK0 ?restr1
  case hyr1 =>
    intro w0 hSw
    (try dsimp only at hSw)
    go_simp
    all_goals (with_reducible rfl)
  (try simp only [Act.put, List.setIfInBounds_toArray, List.set_cons_zero, List.set_cons_succ])
  refine Kept.take (v := ?vr2) 2 (by kernel_rfl) rfl (by kernel_rfl) (fun _ _ _ h => h) (Or.inl ⟨by rfl, ?hyr2⟩) hK0 ?restr2
  case hyr2 =>
    intro w0 hSw
    (try dsimp only at hSw)
    go_simp
    all_goals (with_reducible rfl)
  (try simp only [Act.put, List.setIfInBounds_toArray, List.set_cons_zero, List.set_cons_succ])
  refine Kept.take (v := ?vr5) 5 (by kernel_rfl) rfl (by kernel_rfl) (fun _ _ _ h => h) (Or.inl ⟨by rfl, ?hyr5⟩) hK0 ?restr5
  case hyr5 =>
    intro w0 hSw
    (try dsimp only at hSw)
    go_simp
    all_goals (with_reducible rfl)
  (try simp only [Act.put, List.setIfInBounds_toArray, List.set_cons_zero, List.set_cons_succ])
  refine Kept.take (v := ?vr6) 6 (by kernel_rfl) rfl (by kernel_rfl) (fun _ _ _ h => h) (Or.inl ⟨by rfl, ?hyr6⟩) hK0 ?restr6
  case hyr6 =>
    intro w0 hSw
    (try dsimp only at hSw)
    go_simp
    all_goals (with_reducible rfl)
  (try simp only [Act.put, List.setIfInBounds_toArray, List.set_cons_zero, List.set_cons_succ])
  refine Kept.take (v := ?vr7) 7 (by kernel_rfl) rfl (by kernel_rfl) (fun _ _ _ h => h) (Or.inl ⟨by rfl, ?hyr7⟩) hK0 ?restr7
  case hyr7 =>
    intro w0 hSw
    (try dsimp only at hSw)
    go_simp
    all_goals (with_reducible rfl)
  (try simp only [Act.put, List.setIfInBounds_toArray, List.set_cons_zero, List.set_cons_succ])
  refine Kept.take (v := ?vr8) 8 (by kernel_rfl) rfl (by kernel_rfl) (fun _ _ _ h => h) (Or.inl ⟨by rfl, ?hyr8⟩) hK0 ?restr8
  case hyr8 =>
    intro w0 hSw
    (try dsimp only at hSw)
    go_simp
    all_goals (with_reducible rfl)
  (try simp only [Act.put, List.setIfInBounds_toArray, List.set_cons_zero, List.set_cons_succ])
  refine Kept.take (v := ?vr9) 9 (by kernel_rfl) rfl (by kernel_rfl) (fun _ _ _ h => h) (Or.inl ⟨by rfl, ?hyr9⟩) hK0 ?restr9
  case hyr9 =>
    intro w0 hSw
    (try dsimp only at hSw)
    go_simp
    all_goals (with_reducible rfl)
  (try simp only [Act.put, List.setIfInBounds_toArray, List.set_cons_zero, List.set_cons_succ])
  refine Kept.take (v := ?vr10) 10 (by kernel_rfl) rfl (by kernel_rfl) (fun _ _ _ h => h) (Or.inl ⟨by rfl, ?hyr10⟩) hK0 ?restr10
  case hyr10 =>
    intro w0 hSw
    (try dsimp only at hSw)
    go_simp
    all_goals (with_reducible rfl)
  (try simp only [Act.put, List.setIfInBounds_toArray, List.set_cons_zero, List.set_cons_succ])
  refine Kept.one 0 (by kernel_rfl) rfl (fun K hK => ?_)
  go_simp
  go_at_call 32
  refine (binops_at _).mono ?_
  rintro e w4 ⟨g, rfl, ⟨f5, f6, f7, f8, f9, f10, f11⟩, hb4⟩
  go_simp
  refine hK.out _ _ (hS hK0 hb4) (fun hK1 => ?_)
  clear hK K hK0
  (try simp only [Act.put, List.setIfInBounds_toArray, List.set_cons_zero, List.set_cons_succ])
  refine Kept.one 3 (by kernel_rfl) rfl (fun K hK => ?_)
  go_simp
  refine hK.out _ _ (hK1) (fun hK2 => ?_)
  clear hK K hK1
  (try simp only [Act.put, List.setIfInBounds_toArray, List.set_cons_zero, List.set_cons_succ])
  refine Kept.one 4 (by kernel_rfl) rfl (fun K hK => ?_)
  go_simp
  refine hK.out _ _ (hK2) (fun hK3 => ?_)
  clear hK K hK2
  (try simp only [Act.put, List.setIfInBounds_toArray, List.set_cons_zero, List.set_cons_succ])
  refine Kept.tail (by rfl) (by kernel_rfl) ?_
  simp only [List.drop_succ_cons, List.drop_zero]
  go_wp2_with fail
  refine (bin9_at xa xb h0 h1 _ HR.out).mono ?_
  rintro e w5 ⟨rfl, rfl⟩
  go_wp2
  refine NoPanic.normal ?_
  go_wp2
  go_ret
  exact ⟨rfl, bThen HB.out hK3.1⟩

set_option maxRecDepth 100000 in
set_option maxHeartbeats 3200000 in
theorem implOp_k10 {V : List Int} {av vv : Value} (xa xb : Nat) (h0 : xa < 16) (h1 : xb < 16) {r : Int} (w : World) (hA : rdIntS 0 w.heap.size w [av] [(xa : Int), (xb : Int)]) (hv : rdIntS 0 w.heap.size w [vv] V) (hr : (if (xa : Int) = (xb : Int) then 1 else 0) = r) :
    Calls Try.prog 31 #[.agg #[.int .i64 10, .int .i64 0, .int .i64 0], av, vv] w fun e w' => e = .returned (.int .i64 r) ∧ Below w.heap.size w w' := by
  obtain ⟨aA, ac, rfl, al, -⟩ := slice_of hA
  obtain ⟨vA, vc, rfl, vl, -⟩ := slice_of hv
  obtain ⟨b0, q0, rfl, hb0, d0, -⟩ := at_Int hA (k := 0) rfl
  obtain ⟨b1, q1, e1, hb1, d1, -⟩ := at_Int hA (k := 1) rfl
  injection e1 with e1
  injection e1 with e1a e1b
  subst e1a e1b
  simp only [List.length_cons, List.length_nil, Nat.zero_add, Nat.reduceAdd, Nat.add_zero] at hA al d0 ⊢
  have HR := Lib.hid hr
  clear hA hv hr
  go_enter Try.func31, Try.ntmps31
  go_wp2_with fail
  obtain ⟨W0, hW0⟩ : ∃ W0, W0 = w.alloc (.cells #[.int .i64 10, .int .i64 0, .int .i64 0] 35) := ⟨_, rfl⟩
  rw [← hW0]
  have g := eqbox1 hW0
  have c0 : W0.cell? ⟨w.heap.size, 0, none⟩ = some (.int .i64 10) := box_cell g.1 0 _ rfl
  have HB := Lib.hid g.2
  have hS0 : (fun w' => Below W0.heap.size W0 w' ∧ w'.cell? ⟨w.heap.size, 0, none⟩ = some (.int .i64 10) ∧ w'.cell? ⟨b0, q0, none⟩ = some (.int .i64 (xa : Int)) ∧ w'.cell? ⟨b0, q0 + 1, none⟩ = some (.int .i64 (xb : Int))) W0 := ⟨Below.refl _ _, c0, keep g.2 d0, keep g.2 d1⟩
  have hS : ∀ {w0 w' : World}, (fun w' => Below W0.heap.size W0 w' ∧ w'.cell? ⟨w.heap.size, 0, none⟩ = some (.int .i64 10) ∧ w'.cell? ⟨b0, q0, none⟩ = some (.int .i64 (xa : Int)) ∧ w'.cell? ⟨b0, q0 + 1, none⟩ = some (.int .i64 (xb : Int))) w0 → Below w0.heap.size w0 w' → (fun w' => Below W0.heap.size W0 w' ∧ w'.cell? ⟨w.heap.size, 0, none⟩ = some (.int .i64 10) ∧ w'.cell? ⟨b0, q0, none⟩ = some (.int .i64 (xa : Int)) ∧ w'.cell? ⟨b0, q0 + 1, none⟩ = some (.int .i64 (xb : Int))) w' := fun h hb => ⟨bThen h.1 hb, keep hb h.2.1, keep hb h.2.2.1, keep hb h.2.2.2⟩
  dsimp only at hS0 hS
  clear hW0 g c0 d0 d1
  refine wp_region_noPanic ?_
  refine wp_region_kept 11 13 (fun w' => Below W0.heap.size W0 w' ∧ w'.cell? ⟨w.heap.size, 0, none⟩ = some (.int .i64 10) ∧ w'.cell? ⟨b0, q0, none⟩ = some (.int .i64 (xa : Int)) ∧ w'.cell? ⟨b0, q0 + 1, none⟩ = some (.int .i64 (xb : Int))) (by kernel_rfl) rfl (hS hS0 (Below.drew (Below.refl _ _))) (fun hK0 => ?_)
  refine Kept.take (v := ?vr1) 1 (by kernel_rfl) rfl (by kernel_rfl) (fun _ _ _ h => h) (Or.inl ⟨by rfl, ?hyr1⟩) hK0 ?restr1
  case hyr1 =>
    intro w0 hSw
    (try dsimp only at hSw)
    go_simp
    all_goals (with_reducible rfl)
  (try simp only [Act.put, List.setIfInBounds_toArray, List.set_cons_zero, List.set_cons_succ])
  refine Kept.take (v := ?vr2) 2 (by kernel_rfl) rfl (by kernel_rfl) (fun _ _ _ h => h) (Or.inl ⟨by rfl, ?hyr2⟩) hK0 ?restr2
  case hyr2 =>
    intro w0 hSw
    (try dsimp only at hSw)
    go_simp
    all_goals (with_reducible rfl)
  (try simp only [Act.put, List.setIfInBounds_toArray, List.set_cons_zero, List.set_cons_succ])
  refine Kept.take (v := ?vr5) 5 (by kernel_rfl) rfl (by kernel_rfl) (fun _ _ _ h => h) (Or.inl ⟨by rfl, ?hyr5⟩) hK0 ?restr5
  case hyr5 =>
    intro w0 hSw
    (try dsimp only at hSw)
    go_simp
    all_goals (with_reducible rfl)
  (try simp only [Act.put, List.setIfInBounds_toArray, List.set_cons_zero, List.set_cons_succ])
  refine Kept.take (v := ?vr6) 6 (by kernel_rfl) rfl (by kernel_rfl) (fun _ _ _ h => h) (Or.inl ⟨by rfl, ?hyr6⟩) hK0 ?restr6
  case hyr6 =>
    intro w0 hSw
    (try dsimp only at hSw)
    go_simp
    all_goals (with_reducible rfl)
  (try simp only [Act.put, List.setIfInBounds_toArray, List.set_cons_zero, List.set_cons_succ])
  refine Kept.take (v := ?vr7) 7 (by kernel_rfl) rfl (by kernel_rfl) (fun _ _ _ h => h) (Or.inl ⟨by rfl, ?hyr7⟩) hK0 ?restr7
  case hyr7 =>
    intro w0 hSw
    (try dsimp only at hSw)
    go_simp
    all_goals (with_reducible rfl)
  (try simp only [Act.put, List.setIfInBounds_toArray, List.set_cons_zero, List.set_cons_succ])
  refine Kept.take (v := ?vr8) 8 (by kernel_rfl) rfl (by kernel_rfl) (fun _ _ _ h => h) (Or.inl ⟨by rfl, ?hyr8⟩) hK0 ?restr8
  case hyr8 =>
    intro w0 hSw
    (try dsimp only at hSw)
    go_simp
    all_goals (with_reducible rfl)
  (try simp only [Act.put, List.setIfInBounds_toArray, List.set_cons_zero, List.set_cons_succ])
  refine Kept.take (v := ?vr9) 9 (by kernel_rfl) rfl (by kernel_rfl) (fun _ _ _ h => h) (Or.inl ⟨by rfl, ?hyr9⟩) hK0 ?restr9
  case hyr9 =>
    intro w0 hSw
    (try dsimp only at hSw)
    go_simp
    all_goals (with_reducible rfl)
  (try simp only [Act.put, List.setIfInBounds_toArray, List.set_cons_zero, List.set_cons_succ])
  refine Kept.take (v := ?vr10) 10 (by kernel_rfl) rfl (by kernel_rfl) (fun _ _ _ h => h) (Or.inl ⟨by rfl, ?hyr10⟩) hK0 ?restr10
  case hyr10 =>
    intro w0 hSw
    (try dsimp only at hSw)
    go_simp
    all_goals (with_reducible rfl)
  (try simp only [Act.put, List.setIfInBounds_toArray, List.set_cons_zero, List.set_cons_succ])
  refine Kept.one 0 (by kernel_rfl) rfl (fun K hK => ?_)
  go_simp
  go_at_call 32
  refine (binops_at _).mono ?_
  rintro e w4 ⟨g, rfl, ⟨f5, f6, f7, f8, f9, f10, f11⟩, hb4⟩
  go_simp
  refine hK.out _ _ (hS hK0 hb4) (fun hK1 => ?_)
  clear hK K hK0
  (try simp only [Act.put, List.setIfInBounds_toArray, List.set_cons_zero, List.set_cons_succ])
  refine Kept.one 3 (by kernel_rfl) rfl (fun K hK => ?_)
  go_simp
  refine hK.out _ _ (hK1) (fun hK2 => ?_)
  clear hK K hK1
  (try simp only [Act.put, List.setIfInBounds_toArray, List.set_cons_zero, List.set_cons_succ])
  refine Kept.one 4 (by kernel_rfl) rfl (fun K hK => ?_)
  go_simp
  refine hK.out _ _ (hK2) (fun hK3 => ?_)
  clear hK K hK2
  (try simp only [Act.put, List.setIfInBounds_toArray, List.set_cons_zero, List.set_cons_succ])
  refine Kept.tail (by rfl) (by kernel_rfl) ?_
  simp only [List.drop_succ_cons, List.drop_zero]
  go_wp2_with fail
  refine (bin10_at xa xb h0 h1 _ HR.out).mono ?_
  rintro e w5 ⟨rfl, rfl⟩
  go_wp2
  refine NoPanic.normal ?_
  go_wp2
  go_ret
  exact ⟨rfl, bThen HB.out hK3.1⟩

set_option maxRecDepth 100000 in
set_option maxHeartbeats 3200000 in
theorem implOp_k11 {V : List Int} {av vv : Value} (xa xb : Nat) (h0 : xa < 16) (h1 : xb < 16) {r : Int} (w : World) (hA : rdIntS 0 w.heap.size w [av] [(xa : Int), (xb : Int)]) (hv : rdIntS 0 w.heap.size w [vv] V) (hr : (if (xa : Int) < (xb : Int) then 1 else 0) = r) :
    Calls Try.prog 31 #[.agg #[.int .i64 11, .int .i64 0, .int .i64 0], av, vv] w fun e w' => e = .returned (.int .i64 r) ∧ Below w.heap.size w w' := by
  obtain ⟨aA, ac, rfl, al, -⟩ := slice_of hA
  obtain ⟨vA, vc, rfl, vl, -⟩ := slice_of hv
  obtain ⟨b0, q0, rfl, hb0, d0, -⟩ := at_Int hA (k := 0) rfl
  obtain ⟨b1, q1, e1, hb1, d1, -⟩ := at_Int hA (k := 1) rfl
  injection e1 with e1
  injection e1 with e1a e1b
  subst e1a e1b
  simp only [List.length_cons, List.length_nil, Nat.zero_add, Nat.reduceAdd, Nat.add_zero] at hA al d0 ⊢
  have HR := Lib.hid hr
  clear hA hv hr
  go_enter Try.func31, Try.ntmps31
  go_wp2_with fail
  obtain ⟨W0, hW0⟩ : ∃ W0, W0 = w.alloc (.cells #[.int .i64 11, .int .i64 0, .int .i64 0] 35) := ⟨_, rfl⟩
  rw [← hW0]
  have g := eqbox1 hW0
  have c0 : W0.cell? ⟨w.heap.size, 0, none⟩ = some (.int .i64 11) := box_cell g.1 0 _ rfl
  have HB := Lib.hid g.2
  have hS0 : (fun w' => Below W0.heap.size W0 w' ∧ w'.cell? ⟨w.heap.size, 0, none⟩ = some (.int .i64 11) ∧ w'.cell? ⟨b0, q0, none⟩ = some (.int .i64 (xa : Int)) ∧ w'.cell? ⟨b0, q0 + 1, none⟩ = some (.int .i64 (xb : Int))) W0 := ⟨Below.refl _ _, c0, keep g.2 d0, keep g.2 d1⟩
  have hS : ∀ {w0 w' : World}, (fun w' => Below W0.heap.size W0 w' ∧ w'.cell? ⟨w.heap.size, 0, none⟩ = some (.int .i64 11) ∧ w'.cell? ⟨b0, q0, none⟩ = some (.int .i64 (xa : Int)) ∧ w'.cell? ⟨b0, q0 + 1, none⟩ = some (.int .i64 (xb : Int))) w0 → Below w0.heap.size w0 w' → (fun w' => Below W0.heap.size W0 w' ∧ w'.cell? ⟨w.heap.size, 0, none⟩ = some (.int .i64 11) ∧ w'.cell? ⟨b0, q0, none⟩ = some (.int .i64 (xa : Int)) ∧ w'.cell? ⟨b0, q0 + 1, none⟩ = some (.int .i64 (xb : Int))) w' := fun h hb => ⟨bThen h.1 hb, keep hb h.2.1, keep hb h.2.2.1, keep hb h.2.2.2⟩
  dsimp only at hS0 hS
  clear hW0 g c0 d0 d1
  refine wp_region_noPanic ?_
  refine wp_region_kept 11 13 (fun w' => Below W0.heap.size W0 w' ∧ w'.cell? ⟨w.heap.size, 0, none⟩ = some (.int .i64 11) ∧ w'.cell? ⟨b0, q0, none⟩ = some (.int .i64 (xa : Int)) ∧ w'.cell? ⟨b0, q0 + 1, none⟩ = some (.int .i64 (xb : Int))) (by kernel_rfl) rfl (hS hS0 (Below.drew (Below.refl _ _))) (fun hK0 => ?_)
  refine Kept.take (v := ?vr1) 1 (by kernel_rfl) rfl (by kernel_rfl) (fun _ _ _ h => h) (Or.inl ⟨by rfl, ?hyr1⟩) hK0 ?restr1
  case hyr1 =>
    intro w0 hSw
    (try dsimp only at hSw)
    go_simp
    all_goals (with_reducible rfl)
  (try simp only [Act.put, List.setIfInBounds_toArray, List.set_cons_zero, List.set_cons_succ])
  refine Kept.take (v := ?vr2) 2 (by kernel_rfl) rfl (by kernel_rfl) (fun _ _ _ h => h) (Or.inl ⟨by rfl, ?hyr2⟩) hK0 ?restr2
  case hyr2 =>
    intro w0 hSw
    (try dsimp only at hSw)
    go_simp
    all_goals (with_reducible rfl)
  (try simp only [Act.put, List.setIfInBounds_toArray, List.set_cons_zero, List.set_cons_succ])
  refine Kept.take (v := ?vr5) 5 (by kernel_rfl) rfl (by kernel_rfl) (fun _ _ _ h => h) (Or.inl ⟨by rfl, ?hyr5⟩) hK0 ?restr5
  case hyr5 =>
    intro w0 hSw
    (try dsimp only at hSw)
    go_simp
    all_goals (with_reducible rfl)
  (try simp only [Act.put, List.setIfInBounds_toArray, List.set_cons_zero, List.set_cons_succ])
  refine Kept.take (v := ?vr6) 6 (by kernel_rfl) rfl (by kernel_rfl) (fun _ _ _ h => h) (Or.inl ⟨by rfl, ?hyr6⟩) hK0 ?restr6
  case hyr6 =>
    intro w0 hSw
    (try dsimp only at hSw)
    go_simp
    all_goals (with_reducible rfl)
  (try simp only [Act.put, List.setIfInBounds_toArray, List.set_cons_zero, List.set_cons_succ])
  refine Kept.take (v := ?vr7) 7 (by kernel_rfl) rfl (by kernel_rfl) (fun _ _ _ h => h) (Or.inl ⟨by rfl, ?hyr7⟩) hK0 ?restr7
  case hyr7 =>
    intro w0 hSw
    (try dsimp only at hSw)
    go_simp
    all_goals (with_reducible rfl)
  (try simp only [Act.put, List.setIfInBounds_toArray, List.set_cons_zero, List.set_cons_succ])
  refine Kept.take (v := ?vr8) 8 (by kernel_rfl) rfl (by kernel_rfl) (fun _ _ _ h => h) (Or.inl ⟨by rfl, ?hyr8⟩) hK0 ?restr8
  case hyr8 =>
    intro w0 hSw
    (try dsimp only at hSw)
    go_simp
    all_goals (with_reducible rfl)
  (try simp only [Act.put, List.setIfInBounds_toArray, List.set_cons_zero, List.set_cons_succ])
  refine Kept.take (v := ?vr9) 9 (by kernel_rfl) rfl (by kernel_rfl) (fun _ _ _ h => h) (Or.inl ⟨by rfl, ?hyr9⟩) hK0 ?restr9
  case hyr9 =>
    intro w0 hSw
    (try dsimp only at hSw)
    go_simp
    all_goals (with_reducible rfl)
  (try simp only [Act.put, List.setIfInBounds_toArray, List.set_cons_zero, List.set_cons_succ])
  refine Kept.take (v := ?vr10) 10 (by kernel_rfl) rfl (by kernel_rfl) (fun _ _ _ h => h) (Or.inl ⟨by rfl, ?hyr10⟩) hK0 ?restr10
  case hyr10 =>
    intro w0 hSw
    (try dsimp only at hSw)
    go_simp
    all_goals (with_reducible rfl)
  (try simp only [Act.put, List.setIfInBounds_toArray, List.set_cons_zero, List.set_cons_succ])
  refine Kept.one 0 (by kernel_rfl) rfl (fun K hK => ?_)
  go_simp
  go_at_call 32
  refine (binops_at _).mono ?_
  rintro e w4 ⟨g, rfl, ⟨f5, f6, f7, f8, f9, f10, f11⟩, hb4⟩
  go_simp
  refine hK.out _ _ (hS hK0 hb4) (fun hK1 => ?_)
  clear hK K hK0
  (try simp only [Act.put, List.setIfInBounds_toArray, List.set_cons_zero, List.set_cons_succ])
  refine Kept.one 3 (by kernel_rfl) rfl (fun K hK => ?_)
  go_simp
  refine hK.out _ _ (hK1) (fun hK2 => ?_)
  clear hK K hK1
  (try simp only [Act.put, List.setIfInBounds_toArray, List.set_cons_zero, List.set_cons_succ])
  refine Kept.one 4 (by kernel_rfl) rfl (fun K hK => ?_)
  go_simp
  refine hK.out _ _ (hK2) (fun hK3 => ?_)
  clear hK K hK2
  (try simp only [Act.put, List.setIfInBounds_toArray, List.set_cons_zero, List.set_cons_succ])
  refine Kept.tail (by rfl) (by kernel_rfl) ?_
  simp only [List.drop_succ_cons, List.drop_zero]
  go_wp2_with fail
  refine (bin11_at xa xb h0 h1 _ HR.out).mono ?_
  rintro e w5 ⟨rfl, rfl⟩
  go_wp2
  refine NoPanic.normal ?_
  go_wp2
  go_ret
  exact ⟨rfl, bThen HB.out hK3.1⟩
end Go.Proofs.Ytmalaleinmoihaa
