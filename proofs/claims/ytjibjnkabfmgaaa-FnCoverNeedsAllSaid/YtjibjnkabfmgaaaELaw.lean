/-
  The walks of the exact laws over cubes and covers.
-/
import Derived.Test.YtjibjnkabfmgaaaIMin
import Derived.Test.YtjibjnkabfmgaaaILit
import Derived.Test.YtjibjnkabfmgaaaTabOp
namespace Go.Proofs.Ytjibjnkabfmgaaa
open Go.RowKit
set_option linter.unusedVariables false
set_option linter.unusedSimpArgs false

/-- A cell outside the row that has been written. -/
theorem grown_far {w w' : World} {row : Option Nat} (h : w.grownBy w' row) {p : Addr} {v : Value} (hc : w.cell? p = some v) (hne : row ≠ some p.block) : w'.cell? p = some v := by
  rw [World.cell?_of_block (h.block p.block (World.block_lt_of_cell? _ _ hc) (fun e => hne e.symm))]; exact hc
theorem coverT_shape (n : Int) (L : List (Int × Int)) : ∃ x y : Int, coverT n L = .agg #[.int .i64 x, .int .i64 y] := by
  unfold coverT; split
  · exact ⟨_, _, rfl⟩
  · exact ⟨_, _, rfl⟩
theorem specHas_at (n c v i : Int) {d : Bool} (w : World) (h : hasB n c v i = d) :
    Calls Try.prog 21 #[.int .i64 n, .agg #[.int .i64 c, .int .i64 v], .int .i64 i] w fun e w' => e = .returned (.bool d) ∧ Below w.heap.size w w' := by
  subst h; exact specHas_any n c v i w
section
variable (n : Int) (B : Nat) (v : Value) (L : List (Int × Int))
theorem specCover_own {V : Value} (w : World) (h : coverT n L = V) (ho : OwnsCube w B v L) (hl : L.length ≤ 2000000) :
    Calls Try.prog 26 #[.int .i64 n, v] w fun e w' => e = .returned V ∧ Below w.heap.size w w' := by
  obtain ⟨A, c, rfl, hr⟩ := OwnsR.rowP ho (by unfold maxLen; omega)
  subst h; exact specCover_any n A c L w hr
theorem implCover_own {V : Value} (w : World) (h : coverT n L = V) (ho : OwnsCube w B v L) (hl : L.length ≤ 2000000) (hW : Wide L) :
    Calls Try.prog 16 #[.int .i64 n, v] w fun e w' => e = .returned V ∧ Below w.heap.size w w' := by
  obtain ⟨A, c, rfl, hr⟩ := OwnsR.rowP ho (by unfold maxLen; omega)
  subst h; exact implCover_any n A c L w hr hW
theorem specLit_own {V : Int} (w : World) (h : litV n L = V) (ho : OwnsCube w B v L) (hl : L.length ≤ 2000000) :
    Calls Try.prog 35 #[.int .i64 n, v] w fun e w' => e = .returned (.int .i64 V) ∧ Below w.heap.size w w' := by
  obtain ⟨A, c, rfl, hr⟩ := OwnsR.rowP ho (by unfold maxLen; omega)
  subst h; exact specLit_any n A c L w hr
theorem implLit_own {V : Int} (w : World) (h : litV n L = V) (ho : OwnsCube w B v L) (hl : L.length ≤ 2000000) (hW : Wide L) :
    Calls Try.prog 19 #[.int .i64 n, v] w fun e w' => e = .returned (.int .i64 V) ∧ Below w.heap.size w w' := by
  obtain ⟨A, c, rfl, hr⟩ := OwnsR.rowP ho (by unfold maxLen; omega)
  subst h; exact implLit_any n A c L w hr hW
end
/-- The primes of any table; the minimal cover of any table. -/
def primesV (n b : Int) : List (Int × Int) := if okB n b then primesL n.toNat b.toNat else []
def minV (n b : Int) : List (Int × Int) := if okB n b then minL n.toNat b.toNat else []
theorem primesV_len (n b : Int) : (primesV n b).length ≤ 81 := by
  unfold primesV; split
  · rename_i h
    obtain ⟨N, B, rfl, rfl, hN, _, _⟩ := okB_out h
    exact primes_few N B hN
  · simp
theorem minV_len (n b : Int) : (minV n b).length ≤ 81 := by
  unfold minV; split
  · rename_i h
    obtain ⟨N, B, rfl, rfl, hN, _, _⟩ := okB_out h
    exact Nat.le_trans (minL_sub N B).length_le (primes_few N B hN)
  · simp
theorem specPri_all (n b : Int) {L : List (Int × Int)} (w : World) (h : primesV n b = L) : Calls Try.prog 30 #[.agg #[.int .i64 n, .int .i64 b]] w fun e w' => ∃ v, e = .returned v ∧ OwnsCube w' w.heap.size v L ∧ Below w.heap.size w w' := by
  subst h
  unfold primesV
  cases hok : okB n b
  · exact specPri_no n b w hok
  · obtain ⟨N, B, rfl, rfl, hN, _, hB⟩ := okB_out hok
    exact specPri_yes N B w hok hN hB
theorem specMin_all (n b : Int) {L : List (Int × Int)} (w : World) (h : minV n b = L) : Calls Try.prog 34 #[.agg #[.int .i64 n, .int .i64 b]] w fun e w' => ∃ v, e = .returned v ∧ OwnsCube w' w.heap.size v L ∧ Below w.heap.size w w' := by
  subst h
  unfold minV
  cases hok : okB n b
  · exact specMin_no n b w hok
  · obtain ⟨N, B, rfl, rfl, hN, _, hB⟩ := okB_out hok
    exact specMin_yes N B w hok hN hB
theorem implPri_all (n b : Int) {L : List (Int × Int)} (w : World) (h : primesV n b = L) : Calls Try.prog 15 #[.agg #[.int .i64 n, .int .i64 b]] w fun e w' => ∃ v, e = .returned v ∧ OwnsCube w' w.heap.size v L ∧ Below w.heap.size w w' := by
  subst h
  unfold primesV
  cases hok : okB n b
  · exact implPri_no n b w hok
  · obtain ⟨N, B, rfl, rfl, hN, _, hB⟩ := okB_out hok
    exact implPri_yes N B w hok hN hB
theorem implMin_all (n b : Int) {L : List (Int × Int)} (w : World) (h : minV n b = L) : Calls Try.prog 14 #[.agg #[.int .i64 n, .int .i64 b]] w fun e w' => ∃ v, e = .returned v ∧ OwnsCube w' w.heap.size v L ∧ Below w.heap.size w w' := by
  subst h
  unfold minV
  cases hok : okB n b
  · exact implMin_no n b w hok
  · obtain ⟨N, B, rfl, rfl, hN, _, hB⟩ := okB_out hok
    exact implMin_yes N B w hok hN hB

set_option maxHeartbeats 6400000 in
theorem exactCubeOk_walk (n c v : Int) (hv : Fit v) (w : World) :
    Calls Try.prog 6 #[.int .i64 n, .agg #[.int .i64 c, .int .i64 v]] w fun e w' => e = .returned (.bool true) ∧ Below w.heap.size w w' := by
  (try unfold T)
  obtain ⟨d, hd⟩ : ∃ d, cubeB n c v = d := ⟨_, rfl⟩
  go_enter Try.func6, Try.ntmps6
  go_wp2_with fail
  refine (toCube_any c v _).mono ?_
  rintro e w1 ⟨rfl, hb⟩
  have g := box1 hb
  have hT : Below w.heap.size w w1 := g.2
  have c100 : w1.cell? ⟨w.heap.size, 0, none⟩ = some (.int .i64 c) := box_cell g.1 0 _ rfl
  have c101 : w1.cell? ⟨w.heap.size, 1, none⟩ = some (.int .i64 v) := box_cell g.1 1 _ rfl
  have hs1 : w.heap.size ≤ w1.heap.size := hT.size
  have HB := Lib.hid hT
  clear hT hb g
  have lc100 : w.heap.size < w1.heap.size := World.block_lt_of_cell? _ _ c100
  go_wp2_with fail
  refine (specCube_at n c v _ hd).mono ?_
  rintro e w2 ⟨rfl, hb⟩
  have hT : Below w1.heap.size w1 w2 := hb
  replace c100 := keep hT c100
  replace c101 := keep hT c101
  have hs2 : w1.heap.size ≤ w2.heap.size := hT.size
  replace HB := Lib.hid (bThen HB.out hT)
  clear hT hb
  have lc100 : w.heap.size < w2.heap.size := World.block_lt_of_cell? _ _ c100
  go_wp2_with fail
  refine (toCube_any c v _).mono ?_
  rintro e w3 ⟨rfl, hb⟩
  have hT : Below w2.heap.size w2 w3 := hb
  replace c100 := keep hT c100
  replace c101 := keep hT c101
  have hs3 : w2.heap.size ≤ w3.heap.size := hT.size
  replace HB := Lib.hid (bThen HB.out hT)
  clear hT hb
  have lc100 : w.heap.size < w3.heap.size := World.block_lt_of_cell? _ _ c100
  go_wp2_with fail
  refine (implCube_at n c v _ hv hd).mono ?_
  rintro e w4 ⟨rfl, hb⟩
  have hT : Below w3.heap.size w3 w4 := hb
  replace c100 := keep hT c100
  replace c101 := keep hT c101
  have hs4 : w3.heap.size ≤ w4.heap.size := hT.size
  replace HB := Lib.hid (bThen HB.out hT)
  clear hT hb
  have lc100 : w.heap.size < w4.heap.size := World.block_lt_of_cell? _ _ c100
  go_wp2
  go_ret
  have hB := HB.out
  exact ⟨rfl, by first | exact hB | (repeat' (first | assumption | exact Below.refl _ _ | refine bDrewN ?_ _ | refine Below.drew ?_ | refine bAlloc ?_ (Nat.le_refl _) _ | refine bSet ?_ (by first | exact Nat.le_refl _ | omega | (simp <;> omega)) _))⟩

set_option maxHeartbeats 6400000 in
theorem exactCubeHas_walk (n c v : Int) (i : Int) (hv : Fit v) (w : World) :
    Calls Try.prog 7 #[.int .i64 n, .agg #[.int .i64 c, .int .i64 v], .int .i64 i] w fun e w' => e = .returned (.bool true) ∧ Below w.heap.size w w' := by
  (try unfold T)
  obtain ⟨d, hd⟩ : ∃ d, hasB n c v i = d := ⟨_, rfl⟩
  go_enter Try.func7, Try.ntmps7
  go_wp2_with fail
  refine (toCube_any c v _).mono ?_
  rintro e w1 ⟨rfl, hb⟩
  have g := box1 hb
  have hT : Below w.heap.size w w1 := g.2
  have c100 : w1.cell? ⟨w.heap.size, 0, none⟩ = some (.int .i64 c) := box_cell g.1 0 _ rfl
  have c101 : w1.cell? ⟨w.heap.size, 1, none⟩ = some (.int .i64 v) := box_cell g.1 1 _ rfl
  have hs1 : w.heap.size ≤ w1.heap.size := hT.size
  have HB := Lib.hid hT
  clear hT hb g
  have lc100 : w.heap.size < w1.heap.size := World.block_lt_of_cell? _ _ c100
  go_wp2_with fail
  refine (specHas_at n c v i _ hd).mono ?_
  rintro e w2 ⟨rfl, hb⟩
  have hT : Below w1.heap.size w1 w2 := hb
  replace c100 := keep hT c100
  replace c101 := keep hT c101
  have hs2 : w1.heap.size ≤ w2.heap.size := hT.size
  replace HB := Lib.hid (bThen HB.out hT)
  clear hT hb
  have lc100 : w.heap.size < w2.heap.size := World.block_lt_of_cell? _ _ c100
  go_wp2_with fail
  refine (toCube_any c v _).mono ?_
  rintro e w3 ⟨rfl, hb⟩
  have hT : Below w2.heap.size w2 w3 := hb
  replace c100 := keep hT c100
  replace c101 := keep hT c101
  have hs3 : w2.heap.size ≤ w3.heap.size := hT.size
  replace HB := Lib.hid (bThen HB.out hT)
  clear hT hb
  have lc100 : w.heap.size < w3.heap.size := World.block_lt_of_cell? _ _ c100
  go_wp2_with fail
  refine (implHas_at n c v i _ hv hd).mono ?_
  rintro e w4 ⟨rfl, hb⟩
  have hT : Below w3.heap.size w3 w4 := hb
  replace c100 := keep hT c100
  replace c101 := keep hT c101
  have hs4 : w3.heap.size ≤ w4.heap.size := hT.size
  replace HB := Lib.hid (bThen HB.out hT)
  clear hT hb
  have lc100 : w.heap.size < w4.heap.size := World.block_lt_of_cell? _ _ c100
  go_wp2
  go_ret
  have hB := HB.out
  exact ⟨rfl, by first | exact hB | (repeat' (first | assumption | exact Below.refl _ _ | refine bDrewN ?_ _ | refine Below.drew ?_ | refine bAlloc ?_ (Nat.le_refl _) _ | refine bSet ?_ (by first | exact Nat.le_refl _ | omega | (simp <;> omega)) _))⟩
theorem szB (A : Option Addr) (n c : Nat) (w : World) (h0 : n ≤ 1048576) :
    Calls Try.prog 25 #[.slice A n c, .int .i64 1048576] w fun e w' => e = .returned (.int .i64 (1048576 - n)) ∧ Below w.heap.size w w' :=
  (szCubeS_any A n c 1048576 w (by omega) (by omega)).mono fun _ _ ⟨h, e⟩ => ⟨h, e ▸ Below.refl _ _⟩

set_option maxHeartbeats 6400000 in
theorem exactCoverTable_small (n : Int) (a : Option Addr) (len cap : Nat) (zs : List (Int × Int)) (w : World) (hw : RowP w a len zs) (hq : Wide zs) (hl : len ≤ 1048576) :
    Calls Try.prog 8 #[.int .i64 n, .slice a len cap] w fun e w' => e = .returned (.bool true) ∧ Below w.heap.size w w' := by
  (try unfold T)
  have hz := hw.2.1
  have t1 : ¬ (1048576 : Int) < (len : Int) := by omega
  obtain ⟨x, y, hxy⟩ := coverT_shape n zs
  go_enter Try.func8, Try.ntmps8
  go_wp2_with fail
  refine (szB a len cap _ hl).mono ?_
  rintro e w1 ⟨rfl, hb⟩
  have hT : Below w.heap.size w w1 := hb
  replace hw := hw.below hT
  have hs1 : w.heap.size ≤ w1.heap.size := hT.size
  have HB := Lib.hid hT
  clear hT hb
  go_wp2_with fail
  refine (toCubeS_any a len cap zs _ hw hl).mono ?_
  rintro e w2 ⟨v1, rfl, ho, hb⟩
  have hT : Below w1.heap.size w1 w2 := hb
  have Ov1 := Lib.hid ho
  have hlt := fun j (hj : v1.ownBlock = some j) => ho.lt j hj
  (try simp only [World.size_alloc] at hlt)
  have Vv1 := Lib.hid hlt
  clear ho hlt
  replace hw := hw.below hT
  have hs2 : w1.heap.size ≤ w2.heap.size := hT.size
  replace HB := Lib.hid (bThen HB.out hT)
  clear hT hb
  go_wp2_with fail
  refine (specCover_own n _ v1 zs _ hxy Ov1.out (by omega)).mono ?_
  rintro e w3 ⟨rfl, hb⟩
  have hT : Below w2.heap.size w2 w3 := hb
  replace Ov1 := Lib.hid (Ov1.out.below hT)
  replace hw := hw.below hT
  have hs3 : w2.heap.size ≤ w3.heap.size := hT.size
  replace HB := Lib.hid (bThen HB.out hT)
  clear hT hb
  go_wp2_with fail
  refine (toCubeS_any a len cap zs _ (hw.below (bAlloc (Below.refl _ _) (Nat.le_refl _) _)) hl).mono ?_
  rintro e w4 ⟨v2, rfl, ho, hb⟩
  have g := box1 hb
  have hT : Below w3.heap.size w3 w4 := g.2
  have c400 : w4.cell? ⟨w3.heap.size, 0, none⟩ = some (.int .i64 x) := box_cell g.1 0 _ rfl
  have c401 : w4.cell? ⟨w3.heap.size, 1, none⟩ = some (.int .i64 y) := box_cell g.1 1 _ rfl
  replace Ov1 := Lib.hid (Ov1.out.below hT)
  have Ov2 := Lib.hid ho
  have hlt := fun j (hj : v2.ownBlock = some j) => ho.lt j hj
  (try simp only [World.size_alloc] at hlt)
  have Vv2 := Lib.hid hlt
  clear ho hlt
  replace hw := hw.below hT
  have hs4 : w3.heap.size ≤ w4.heap.size := hT.size
  replace HB := Lib.hid (bThen HB.out hT)
  clear hT hb g
  have lc400 : w3.heap.size < w4.heap.size := World.block_lt_of_cell? _ _ c400
  go_wp2_with fail
  refine (implCover_own n _ v2 zs _ hxy Ov2.out (by omega) hq).mono ?_
  rintro e w5 ⟨rfl, hb⟩
  have hT : Below w4.heap.size w4 w5 := hb
  replace c400 := keep hT c400
  replace c401 := keep hT c401
  replace Ov1 := Lib.hid (Ov1.out.below hT)
  replace Ov2 := Lib.hid (Ov2.out.below hT)
  replace hw := hw.below hT
  have hs5 : w4.heap.size ≤ w5.heap.size := hT.size
  replace HB := Lib.hid (bThen HB.out hT)
  clear hT hb
  have lc400 : w3.heap.size < w5.heap.size := World.block_lt_of_cell? _ _ c400
  go_wp2_with fail
  refine (eqTable_same x y _).mono ?_
  rintro e w6 ⟨rfl, hb⟩
  have g := box1 hb
  have hT : Below w5.heap.size w5 w6 := g.2
  replace c400 := keep hT c400
  replace c401 := keep hT c401
  have c600 : w6.cell? ⟨w5.heap.size, 0, none⟩ = some (.int .i64 x) := box_cell g.1 0 _ rfl
  have c601 : w6.cell? ⟨w5.heap.size, 1, none⟩ = some (.int .i64 y) := box_cell g.1 1 _ rfl
  replace Ov1 := Lib.hid (Ov1.out.below hT)
  replace Ov2 := Lib.hid (Ov2.out.below hT)
  replace hw := hw.below hT
  have hs6 : w5.heap.size ≤ w6.heap.size := hT.size
  replace HB := Lib.hid (bThen HB.out hT)
  clear hT hb g
  have lc400 : w3.heap.size < w6.heap.size := World.block_lt_of_cell? _ _ c400
  have lc600 : w5.heap.size < w6.heap.size := World.block_lt_of_cell? _ _ c600
  go_wp2_with fail
  refine (toCubeS_any a len cap zs _ hw hl).mono ?_
  rintro e w7 ⟨v3, rfl, ho, hb⟩
  have hT : Below w6.heap.size w6 w7 := hb
  replace c400 := keep hT c400
  replace c401 := keep hT c401
  replace c600 := keep hT c600
  replace c601 := keep hT c601
  replace Ov1 := Lib.hid (Ov1.out.below hT)
  replace Ov2 := Lib.hid (Ov2.out.below hT)
  have Ov3 := Lib.hid ho
  have hlt := fun j (hj : v3.ownBlock = some j) => ho.lt j hj
  (try simp only [World.size_alloc] at hlt)
  have Vv3 := Lib.hid hlt
  clear ho hlt
  replace hw := hw.below hT
  have hs7 : w6.heap.size ≤ w7.heap.size := hT.size
  replace HB := Lib.hid (bThen HB.out hT)
  clear hT hb
  have lc400 : w3.heap.size < w7.heap.size := World.block_lt_of_cell? _ _ c400
  have lc600 : w5.heap.size < w7.heap.size := World.block_lt_of_cell? _ _ c600
  go_wp2_with fail
  refine (eqCubeS_any _ _ v2 v3 zs _ Ov2.out Ov3.out (by omega)).mono ?_
  rintro e w8 ⟨rfl, hb⟩
  have hT : Below w7.heap.size w7 w8 := hb
  replace c400 := keep hT c400
  replace c401 := keep hT c401
  replace c600 := keep hT c600
  replace c601 := keep hT c601
  replace Ov1 := Lib.hid (Ov1.out.below hT)
  replace Ov2 := Lib.hid (Ov2.out.below hT)
  replace Ov3 := Lib.hid (Ov3.out.below hT)
  replace hw := hw.below hT
  have hs8 : w7.heap.size ≤ w8.heap.size := hT.size
  replace HB := Lib.hid (bThen HB.out hT)
  clear hT hb
  have lc400 : w3.heap.size < w8.heap.size := World.block_lt_of_cell? _ _ c400
  have lc600 : w5.heap.size < w8.heap.size := World.block_lt_of_cell? _ _ c600
  go_wp2
  go_ret
  have hB := HB.out
  exact ⟨rfl, by first | exact hB | (repeat' (first | assumption | exact Below.refl _ _ | refine bDrewN ?_ _ | refine Below.drew ?_ | refine bAlloc ?_ (Nat.le_refl _) _ | refine bSet ?_ (by first | exact Nat.le_refl _ | omega | (simp <;> omega)) _))⟩

theorem exactCoverTable_walk (n : Int) (a : Option Addr) (len cap : Nat) (zs : List (Int × Int)) (w : World) (hw : RowP w a len zs) (hq : Wide zs) :
    Calls Try.prog 8 #[.int .i64 n, .slice a len cap] w fun e w' => e = .returned (.bool true) ∧ Below w.heap.size w w' := by
  by_cases hl : len ≤ 1048576
  · exact exactCoverTable_small n a len cap zs w hw hq hl
  · have hm := hw.1
    go_enter Try.func8, Try.ntmps8
    go_wp2_with fail
    refine (szCubeS_big a len cap 1048576 _ (by omega) (by omega) (by omega) hm).mono ?_
    rintro e w1 ⟨rfl, rfl⟩
    go_wp2
    go_ret
    exact ⟨rfl, Below.refl _ _⟩

set_option maxHeartbeats 6400000 in
theorem exactCoverLiterals_small (n : Int) (a : Option Addr) (len cap : Nat) (zs : List (Int × Int)) (w : World) (hw : RowP w a len zs) (hq : Wide zs) (hl : len ≤ 1048576) :
    Calls Try.prog 11 #[.int .i64 n, .slice a len cap] w fun e w' => e = .returned (.bool true) ∧ Below w.heap.size w w' := by
  (try unfold T)
  have hz := hw.2.1
  have t1 : ¬ (1048576 : Int) < (len : Int) := by omega
  obtain ⟨V, hV⟩ : ∃ V, litV n zs = V := ⟨_, rfl⟩
  go_enter Try.func11, Try.ntmps11
  go_wp2_with fail
  refine (szB a len cap _ hl).mono ?_
  rintro e w1 ⟨rfl, hb⟩
  have hT : Below w.heap.size w w1 := hb
  replace hw := hw.below hT
  have hs1 : w.heap.size ≤ w1.heap.size := hT.size
  have HB := Lib.hid hT
  clear hT hb
  go_wp2_with fail
  refine (toCubeS_any a len cap zs _ hw hl).mono ?_
  rintro e w2 ⟨v1, rfl, ho, hb⟩
  have hT : Below w1.heap.size w1 w2 := hb
  have Ov1 := Lib.hid ho
  have hlt := fun j (hj : v1.ownBlock = some j) => ho.lt j hj
  (try simp only [World.size_alloc] at hlt)
  have Vv1 := Lib.hid hlt
  clear ho hlt
  replace hw := hw.below hT
  have hs2 : w1.heap.size ≤ w2.heap.size := hT.size
  replace HB := Lib.hid (bThen HB.out hT)
  clear hT hb
  go_wp2_with fail
  refine (specLit_own n _ v1 zs _ hV Ov1.out (by omega)).mono ?_
  rintro e w3 ⟨rfl, hb⟩
  have hT : Below w2.heap.size w2 w3 := hb
  replace Ov1 := Lib.hid (Ov1.out.below hT)
  replace hw := hw.below hT
  have hs3 : w2.heap.size ≤ w3.heap.size := hT.size
  replace HB := Lib.hid (bThen HB.out hT)
  clear hT hb
  go_wp2_with fail
  refine (toCubeS_any a len cap zs _ hw hl).mono ?_
  rintro e w4 ⟨v2, rfl, ho, hb⟩
  have hT : Below w3.heap.size w3 w4 := hb
  replace Ov1 := Lib.hid (Ov1.out.below hT)
  have Ov2 := Lib.hid ho
  have hlt := fun j (hj : v2.ownBlock = some j) => ho.lt j hj
  (try simp only [World.size_alloc] at hlt)
  have Vv2 := Lib.hid hlt
  clear ho hlt
  replace hw := hw.below hT
  have hs4 : w3.heap.size ≤ w4.heap.size := hT.size
  replace HB := Lib.hid (bThen HB.out hT)
  clear hT hb
  go_wp2_with fail
  refine (implLit_own n _ v2 zs _ hV Ov2.out (by omega) hq).mono ?_
  rintro e w5 ⟨rfl, hb⟩
  have hT : Below w4.heap.size w4 w5 := hb
  replace Ov1 := Lib.hid (Ov1.out.below hT)
  replace Ov2 := Lib.hid (Ov2.out.below hT)
  replace hw := hw.below hT
  have hs5 : w4.heap.size ≤ w5.heap.size := hT.size
  replace HB := Lib.hid (bThen HB.out hT)
  clear hT hb
  go_wp2_with fail
  refine (toCubeS_any a len cap zs _ hw hl).mono ?_
  rintro e w6 ⟨v3, rfl, ho, hb⟩
  have hT : Below w5.heap.size w5 w6 := hb
  replace Ov1 := Lib.hid (Ov1.out.below hT)
  replace Ov2 := Lib.hid (Ov2.out.below hT)
  have Ov3 := Lib.hid ho
  have hlt := fun j (hj : v3.ownBlock = some j) => ho.lt j hj
  (try simp only [World.size_alloc] at hlt)
  have Vv3 := Lib.hid hlt
  clear ho hlt
  replace hw := hw.below hT
  have hs6 : w5.heap.size ≤ w6.heap.size := hT.size
  replace HB := Lib.hid (bThen HB.out hT)
  clear hT hb
  go_wp2_with fail
  refine (eqCubeS_any _ _ v2 v3 zs _ Ov2.out Ov3.out (by omega)).mono ?_
  rintro e w7 ⟨rfl, hb⟩
  have hT : Below w6.heap.size w6 w7 := hb
  replace Ov1 := Lib.hid (Ov1.out.below hT)
  replace Ov2 := Lib.hid (Ov2.out.below hT)
  replace Ov3 := Lib.hid (Ov3.out.below hT)
  replace hw := hw.below hT
  have hs7 : w6.heap.size ≤ w7.heap.size := hT.size
  replace HB := Lib.hid (bThen HB.out hT)
  clear hT hb
  go_wp2
  go_ret
  have hB := HB.out
  exact ⟨rfl, by first | exact hB | (repeat' (first | assumption | exact Below.refl _ _ | refine bDrewN ?_ _ | refine Below.drew ?_ | refine bAlloc ?_ (Nat.le_refl _) _ | refine bSet ?_ (by first | exact Nat.le_refl _ | omega | (simp <;> omega)) _))⟩

theorem exactCoverLiterals_walk (n : Int) (a : Option Addr) (len cap : Nat) (zs : List (Int × Int)) (w : World) (hw : RowP w a len zs) (hq : Wide zs) :
    Calls Try.prog 11 #[.int .i64 n, .slice a len cap] w fun e w' => e = .returned (.bool true) ∧ Below w.heap.size w w' := by
  by_cases hl : len ≤ 1048576
  · exact exactCoverLiterals_small n a len cap zs w hw hq hl
  · have hm := hw.1
    go_enter Try.func11, Try.ntmps11
    go_wp2_with fail
    refine (szCubeS_big a len cap 1048576 _ (by omega) (by omega) (by omega) hm).mono ?_
    rintro e w1 ⟨rfl, rfl⟩
    go_wp2
    go_ret
    exact ⟨rfl, Below.refl _ _⟩

set_option maxHeartbeats 6400000 in
theorem exactPrimeCubes_walk (n b : Int) (w : World) :
    Calls Try.prog 9 #[T n b] w fun e w' => e = .returned (.bool true) ∧ Below w.heap.size w w' := by
  (try unfold T)
  have hl := primesV_len n b
  obtain ⟨L, hLL⟩ : ∃ L, primesV n b = L := ⟨_, rfl⟩
  rw [hLL] at hl
  go_enter Try.func9, Try.ntmps9
  go_wp2_with fail
  refine (toTable_any n b _).mono ?_
  rintro e w1 ⟨rfl, hb⟩
  have g := box1 hb
  have hT : Below w.heap.size w w1 := g.2
  have c100 : w1.cell? ⟨w.heap.size, 0, none⟩ = some (.int .i64 n) := box_cell g.1 0 _ rfl
  have c101 : w1.cell? ⟨w.heap.size, 1, none⟩ = some (.int .i64 b) := box_cell g.1 1 _ rfl
  have hs1 : w.heap.size ≤ w1.heap.size := hT.size
  have HB := Lib.hid hT
  clear hT hb g
  have lc100 : w.heap.size < w1.heap.size := World.block_lt_of_cell? _ _ c100
  go_wp2_with fail
  refine (specPri_all n b _ hLL).mono ?_
  rintro e w2 ⟨v1, rfl, ho, hb⟩
  have hT : Below w1.heap.size w1 w2 := hb
  replace c100 := keep hT c100
  replace c101 := keep hT c101
  have Ov1 := Lib.hid ho
  have hlt := fun j (hj : v1.ownBlock = some j) => ho.lt j hj
  (try simp only [World.size_alloc] at hlt)
  have Vv1 := Lib.hid hlt
  clear ho hlt
  have hs2 : w1.heap.size ≤ w2.heap.size := hT.size
  replace HB := Lib.hid (bThen HB.out hT)
  clear hT hb
  have lc100 : w.heap.size < w2.heap.size := World.block_lt_of_cell? _ _ c100
  go_wp2_with fail
  refine (toTable_any n b _).mono ?_
  rintro e w3 ⟨rfl, hb⟩
  have hT : Below w2.heap.size w2 w3 := hb
  replace c100 := keep hT c100
  replace c101 := keep hT c101
  replace Ov1 := Lib.hid (Ov1.out.below hT)
  have hs3 : w2.heap.size ≤ w3.heap.size := hT.size
  replace HB := Lib.hid (bThen HB.out hT)
  clear hT hb
  have lc100 : w.heap.size < w3.heap.size := World.block_lt_of_cell? _ _ c100
  go_wp2_with fail
  refine (implPri_all n b _ hLL).mono ?_
  rintro e w4 ⟨v2, rfl, ho, hb⟩
  have hT : Below w3.heap.size w3 w4 := hb
  replace c100 := keep hT c100
  replace c101 := keep hT c101
  replace Ov1 := Lib.hid (Ov1.out.below hT)
  have Ov2 := Lib.hid ho
  have hlt := fun j (hj : v2.ownBlock = some j) => ho.lt j hj
  (try simp only [World.size_alloc] at hlt)
  have Vv2 := Lib.hid hlt
  clear ho hlt
  have hs4 : w3.heap.size ≤ w4.heap.size := hT.size
  replace HB := Lib.hid (bThen HB.out hT)
  clear hT hb
  have lc100 : w.heap.size < w4.heap.size := World.block_lt_of_cell? _ _ c100
  go_wp2_with fail
  refine (eqCubeS_any _ _ v2 v1 L _ Ov2.out Ov1.out (by omega)).mono ?_
  rintro e w5 ⟨rfl, hb⟩
  have hT : Below w4.heap.size w4 w5 := hb
  replace c100 := keep hT c100
  replace c101 := keep hT c101
  replace Ov1 := Lib.hid (Ov1.out.below hT)
  replace Ov2 := Lib.hid (Ov2.out.below hT)
  have hs5 : w4.heap.size ≤ w5.heap.size := hT.size
  replace HB := Lib.hid (bThen HB.out hT)
  clear hT hb
  have lc100 : w.heap.size < w5.heap.size := World.block_lt_of_cell? _ _ c100
  go_wp2_with fail
  refine (markCubeS_any _ v2 L _ Ov2.out (by omega) 1 (by omega) (by omega)).mono ?_
  rintro e w6 ⟨rfl, ho, hg⟩
  replace c100 := grown_far hg c100 (by intro e; have := Vv2.out _ e; dsimp only at this; omega)
  replace c101 := grown_far hg c101 (by intro e; have := Vv2.out _ e; dsimp only at this; omega)
  replace Ov1 := Lib.hid (show OwnsCube w6 _ v1 L from Ov1.out.kept hg (by
    cases h1 : v1.ownBlock with
    | none => exact .inl rfl
    | some j =>
      refine .inr (fun e => ?_)
      have hlt1 := Vv1.out j h1
      have hlt2 := Vv2.out j e.symm
      omega))
  replace Ov2 := Lib.hid ho
  replace HB := Lib.hid (HB.out.grown hg HB.out.size (fun j hj => by have := Vv2.out j hj; omega))
  have hs6 : w5.heap.size ≤ w6.heap.size := hg.size
  clear ho hg
  have lc100 : w.heap.size < w6.heap.size := World.block_lt_of_cell? _ _ c100
  go_wp2_with fail
  refine (heldCubeS_any _ v2 L.length _ 1 Ov2.out (by omega) (by omega) (by omega)).mono ?_
  rintro e w7 ⟨rfl, hb⟩
  have hT : Below w6.heap.size w6 w7 := hb
  replace c100 := keep hT c100
  replace c101 := keep hT c101
  replace Ov1 := Lib.hid (Ov1.out.below hT)
  replace Ov2 := Lib.hid (Ov2.out.below hT)
  have hs7 : w6.heap.size ≤ w7.heap.size := hT.size
  replace HB := Lib.hid (bThen HB.out hT)
  clear hT hb
  have lc100 : w.heap.size < w7.heap.size := World.block_lt_of_cell? _ _ c100
  go_wp2_with fail
  refine (toTable_any n b _).mono ?_
  rintro e w8 ⟨rfl, hb⟩
  have hT : Below w7.heap.size w7 w8 := hb
  replace c100 := keep hT c100
  replace c101 := keep hT c101
  replace Ov1 := Lib.hid (Ov1.out.below hT)
  replace Ov2 := Lib.hid (Ov2.out.below hT)
  have hs8 : w7.heap.size ≤ w8.heap.size := hT.size
  replace HB := Lib.hid (bThen HB.out hT)
  clear hT hb
  have lc100 : w.heap.size < w8.heap.size := World.block_lt_of_cell? _ _ c100
  go_wp2_with fail
  refine (implPri_all n b _ hLL).mono ?_
  rintro e w9 ⟨v3, rfl, ho, hb⟩
  have hT : Below w8.heap.size w8 w9 := hb
  replace c100 := keep hT c100
  replace c101 := keep hT c101
  replace Ov1 := Lib.hid (Ov1.out.below hT)
  replace Ov2 := Lib.hid (Ov2.out.below hT)
  have Ov3 := Lib.hid ho
  have hlt := fun j (hj : v3.ownBlock = some j) => ho.lt j hj
  (try simp only [World.size_alloc] at hlt)
  have Vv3 := Lib.hid hlt
  clear ho hlt
  have hs9 : w8.heap.size ≤ w9.heap.size := hT.size
  replace HB := Lib.hid (bThen HB.out hT)
  clear hT hb
  have lc100 : w.heap.size < w9.heap.size := World.block_lt_of_cell? _ _ c100
  go_wp2_with fail
  refine (eqCubeS_any _ _ v3 v1 L _ Ov3.out Ov1.out (by omega)).mono ?_
  rintro e w10 ⟨rfl, hb⟩
  have hT : Below w9.heap.size w9 w10 := hb
  replace c100 := keep hT c100
  replace c101 := keep hT c101
  replace Ov1 := Lib.hid (Ov1.out.below hT)
  replace Ov2 := Lib.hid (Ov2.out.below hT)
  replace Ov3 := Lib.hid (Ov3.out.below hT)
  have hs10 : w9.heap.size ≤ w10.heap.size := hT.size
  replace HB := Lib.hid (bThen HB.out hT)
  clear hT hb
  have lc100 : w.heap.size < w10.heap.size := World.block_lt_of_cell? _ _ c100
  go_wp2_with fail
  refine (heldCubeS_any _ v2 L.length _ 1 Ov2.out (by omega) (by omega) (by omega)).mono ?_
  rintro e w11 ⟨rfl, hb⟩
  have hT : Below w10.heap.size w10 w11 := hb
  replace c100 := keep hT c100
  replace c101 := keep hT c101
  replace Ov1 := Lib.hid (Ov1.out.below hT)
  replace Ov2 := Lib.hid (Ov2.out.below hT)
  replace Ov3 := Lib.hid (Ov3.out.below hT)
  have hs11 : w10.heap.size ≤ w11.heap.size := hT.size
  replace HB := Lib.hid (bThen HB.out hT)
  clear hT hb
  have lc100 : w.heap.size < w11.heap.size := World.block_lt_of_cell? _ _ c100
  go_wp2
  go_ret
  have hB := HB.out
  exact ⟨rfl, by first | exact hB | (repeat' (first | assumption | exact Below.refl _ _ | refine bDrewN ?_ _ | refine Below.drew ?_ | refine bAlloc ?_ (Nat.le_refl _) _ | refine bSet ?_ (by first | exact Nat.le_refl _ | omega | (simp <;> omega)) _))⟩

set_option maxHeartbeats 6400000 in
theorem exactMinimalCover_walk (n b : Int) (w : World) :
    Calls Try.prog 10 #[T n b] w fun e w' => e = .returned (.bool true) ∧ Below w.heap.size w w' := by
  (try unfold T)
  have hl := minV_len n b
  obtain ⟨L, hLL⟩ : ∃ L, minV n b = L := ⟨_, rfl⟩
  rw [hLL] at hl
  go_enter Try.func10, Try.ntmps10
  go_wp2_with fail
  refine (toTable_any n b _).mono ?_
  rintro e w1 ⟨rfl, hb⟩
  have g := box1 hb
  have hT : Below w.heap.size w w1 := g.2
  have c100 : w1.cell? ⟨w.heap.size, 0, none⟩ = some (.int .i64 n) := box_cell g.1 0 _ rfl
  have c101 : w1.cell? ⟨w.heap.size, 1, none⟩ = some (.int .i64 b) := box_cell g.1 1 _ rfl
  have hs1 : w.heap.size ≤ w1.heap.size := hT.size
  have HB := Lib.hid hT
  clear hT hb g
  have lc100 : w.heap.size < w1.heap.size := World.block_lt_of_cell? _ _ c100
  go_wp2_with fail
  refine (specMin_all n b _ hLL).mono ?_
  rintro e w2 ⟨v1, rfl, ho, hb⟩
  have hT : Below w1.heap.size w1 w2 := hb
  replace c100 := keep hT c100
  replace c101 := keep hT c101
  have Ov1 := Lib.hid ho
  have hlt := fun j (hj : v1.ownBlock = some j) => ho.lt j hj
  (try simp only [World.size_alloc] at hlt)
  have Vv1 := Lib.hid hlt
  clear ho hlt
  have hs2 : w1.heap.size ≤ w2.heap.size := hT.size
  replace HB := Lib.hid (bThen HB.out hT)
  clear hT hb
  have lc100 : w.heap.size < w2.heap.size := World.block_lt_of_cell? _ _ c100
  go_wp2_with fail
  refine (toTable_any n b _).mono ?_
  rintro e w3 ⟨rfl, hb⟩
  have hT : Below w2.heap.size w2 w3 := hb
  replace c100 := keep hT c100
  replace c101 := keep hT c101
  replace Ov1 := Lib.hid (Ov1.out.below hT)
  have hs3 : w2.heap.size ≤ w3.heap.size := hT.size
  replace HB := Lib.hid (bThen HB.out hT)
  clear hT hb
  have lc100 : w.heap.size < w3.heap.size := World.block_lt_of_cell? _ _ c100
  go_wp2_with fail
  refine (implMin_all n b _ hLL).mono ?_
  rintro e w4 ⟨v2, rfl, ho, hb⟩
  have hT : Below w3.heap.size w3 w4 := hb
  replace c100 := keep hT c100
  replace c101 := keep hT c101
  replace Ov1 := Lib.hid (Ov1.out.below hT)
  have Ov2 := Lib.hid ho
  have hlt := fun j (hj : v2.ownBlock = some j) => ho.lt j hj
  (try simp only [World.size_alloc] at hlt)
  have Vv2 := Lib.hid hlt
  clear ho hlt
  have hs4 : w3.heap.size ≤ w4.heap.size := hT.size
  replace HB := Lib.hid (bThen HB.out hT)
  clear hT hb
  have lc100 : w.heap.size < w4.heap.size := World.block_lt_of_cell? _ _ c100
  go_wp2_with fail
  refine (eqCubeS_any _ _ v2 v1 L _ Ov2.out Ov1.out (by omega)).mono ?_
  rintro e w5 ⟨rfl, hb⟩
  have hT : Below w4.heap.size w4 w5 := hb
  replace c100 := keep hT c100
  replace c101 := keep hT c101
  replace Ov1 := Lib.hid (Ov1.out.below hT)
  replace Ov2 := Lib.hid (Ov2.out.below hT)
  have hs5 : w4.heap.size ≤ w5.heap.size := hT.size
  replace HB := Lib.hid (bThen HB.out hT)
  clear hT hb
  have lc100 : w.heap.size < w5.heap.size := World.block_lt_of_cell? _ _ c100
  go_wp2_with fail
  refine (markCubeS_any _ v2 L _ Ov2.out (by omega) 1 (by omega) (by omega)).mono ?_
  rintro e w6 ⟨rfl, ho, hg⟩
  replace c100 := grown_far hg c100 (by intro e; have := Vv2.out _ e; dsimp only at this; omega)
  replace c101 := grown_far hg c101 (by intro e; have := Vv2.out _ e; dsimp only at this; omega)
  replace Ov1 := Lib.hid (show OwnsCube w6 _ v1 L from Ov1.out.kept hg (by
    cases h1 : v1.ownBlock with
    | none => exact .inl rfl
    | some j =>
      refine .inr (fun e => ?_)
      have hlt1 := Vv1.out j h1
      have hlt2 := Vv2.out j e.symm
      omega))
  replace Ov2 := Lib.hid ho
  replace HB := Lib.hid (HB.out.grown hg HB.out.size (fun j hj => by have := Vv2.out j hj; omega))
  have hs6 : w5.heap.size ≤ w6.heap.size := hg.size
  clear ho hg
  have lc100 : w.heap.size < w6.heap.size := World.block_lt_of_cell? _ _ c100
  go_wp2_with fail
  refine (heldCubeS_any _ v2 L.length _ 1 Ov2.out (by omega) (by omega) (by omega)).mono ?_
  rintro e w7 ⟨rfl, hb⟩
  have hT : Below w6.heap.size w6 w7 := hb
  replace c100 := keep hT c100
  replace c101 := keep hT c101
  replace Ov1 := Lib.hid (Ov1.out.below hT)
  replace Ov2 := Lib.hid (Ov2.out.below hT)
  have hs7 : w6.heap.size ≤ w7.heap.size := hT.size
  replace HB := Lib.hid (bThen HB.out hT)
  clear hT hb
  have lc100 : w.heap.size < w7.heap.size := World.block_lt_of_cell? _ _ c100
  go_wp2_with fail
  refine (toTable_any n b _).mono ?_
  rintro e w8 ⟨rfl, hb⟩
  have hT : Below w7.heap.size w7 w8 := hb
  replace c100 := keep hT c100
  replace c101 := keep hT c101
  replace Ov1 := Lib.hid (Ov1.out.below hT)
  replace Ov2 := Lib.hid (Ov2.out.below hT)
  have hs8 : w7.heap.size ≤ w8.heap.size := hT.size
  replace HB := Lib.hid (bThen HB.out hT)
  clear hT hb
  have lc100 : w.heap.size < w8.heap.size := World.block_lt_of_cell? _ _ c100
  go_wp2_with fail
  refine (implMin_all n b _ hLL).mono ?_
  rintro e w9 ⟨v3, rfl, ho, hb⟩
  have hT : Below w8.heap.size w8 w9 := hb
  replace c100 := keep hT c100
  replace c101 := keep hT c101
  replace Ov1 := Lib.hid (Ov1.out.below hT)
  replace Ov2 := Lib.hid (Ov2.out.below hT)
  have Ov3 := Lib.hid ho
  have hlt := fun j (hj : v3.ownBlock = some j) => ho.lt j hj
  (try simp only [World.size_alloc] at hlt)
  have Vv3 := Lib.hid hlt
  clear ho hlt
  have hs9 : w8.heap.size ≤ w9.heap.size := hT.size
  replace HB := Lib.hid (bThen HB.out hT)
  clear hT hb
  have lc100 : w.heap.size < w9.heap.size := World.block_lt_of_cell? _ _ c100
  go_wp2_with fail
  refine (eqCubeS_any _ _ v3 v1 L _ Ov3.out Ov1.out (by omega)).mono ?_
  rintro e w10 ⟨rfl, hb⟩
  have hT : Below w9.heap.size w9 w10 := hb
  replace c100 := keep hT c100
  replace c101 := keep hT c101
  replace Ov1 := Lib.hid (Ov1.out.below hT)
  replace Ov2 := Lib.hid (Ov2.out.below hT)
  replace Ov3 := Lib.hid (Ov3.out.below hT)
  have hs10 : w9.heap.size ≤ w10.heap.size := hT.size
  replace HB := Lib.hid (bThen HB.out hT)
  clear hT hb
  have lc100 : w.heap.size < w10.heap.size := World.block_lt_of_cell? _ _ c100
  go_wp2_with fail
  refine (heldCubeS_any _ v2 L.length _ 1 Ov2.out (by omega) (by omega) (by omega)).mono ?_
  rintro e w11 ⟨rfl, hb⟩
  have hT : Below w10.heap.size w10 w11 := hb
  replace c100 := keep hT c100
  replace c101 := keep hT c101
  replace Ov1 := Lib.hid (Ov1.out.below hT)
  replace Ov2 := Lib.hid (Ov2.out.below hT)
  replace Ov3 := Lib.hid (Ov3.out.below hT)
  have hs11 : w10.heap.size ≤ w11.heap.size := hT.size
  replace HB := Lib.hid (bThen HB.out hT)
  clear hT hb
  have lc100 : w.heap.size < w11.heap.size := World.block_lt_of_cell? _ _ c100
  go_wp2
  go_ret
  have hB := HB.out
  exact ⟨rfl, by first | exact hB | (repeat' (first | assumption | exact Below.refl _ _ | refine bDrewN ?_ _ | refine Below.drew ?_ | refine bAlloc ?_ (Nat.le_refl _) _ | refine bSet ?_ (by first | exact Nat.le_refl _ | omega | (simp <;> omega)) _))⟩
end Go.Proofs.Ytjibjnkabfmgaaa
