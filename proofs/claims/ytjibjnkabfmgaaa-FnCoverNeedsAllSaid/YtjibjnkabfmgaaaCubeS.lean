/-
  The helpers of the exact laws over slices of Cube.
-/
import Derived.Test.YtjibjnkabfmgaaaRecs
import Derived.Lib.QuietBelow
import Derived.Deep.RegionHeld3
namespace Go.Proofs.Ytjibjnkabfmgaaa
open Go.RowKit
set_option linter.unusedVariables false
set_option linter.unusedSimpArgs false

theorem toCube_any (x y : Int) (w : World) :
    Calls Try.prog 24 #[.agg #[.int .i64 x, .int .i64 y]] w fun e w' => e = .returned (.agg #[.int .i64 x, .int .i64 y]) ∧ Below w.heap.size w w' := by
  go_enter Try.func24, Try.ntmps24
  go_wp2
  ((try simp only [Exit.inBlock, Exit.then]); refine bodyPost_ret (v := (.agg #[.int .i64 x, .int .i64 y])) (by rw [results_cell1 rfl]; go_simp) rfl ?_)
  exact ⟨rfl, by (repeat' (first | assumption | exact Below.refl _ _ | refine bDrewN ?_ _ | refine Below.drew ?_ | refine bAlloc ?_ (Nat.le_refl _) _ | refine bSet ?_ (by first | exact Nat.le_refl _ | omega | (simp <;> omega)) _))⟩
theorem eqCube_any (n b m c : Int) (w : World) :
    Calls Try.prog 49 #[.agg #[.int .i64 n, .int .i64 b], .agg #[.int .i64 m, .int .i64 c]] w fun e w' => e = .returned (.bool (decide (n = m ∧ b = c))) ∧ Below w.heap.size w w' := by
  go_enter Try.func49, Try.ntmps49
  by_cases h1 : n = m <;> by_cases h2 : b = c
  all_goals go_wp2
  all_goals go_ret
  all_goals exact ⟨ret_bool (by (rw [Bool.eq_iff_iff]; simp only [decide_eq_true_eq, Bool.false_eq_true, Bool.true_eq, eq_self, true_iff, iff_true, false_iff, iff_false, Bool.and_eq_true]; omega)), by (repeat' (first | assumption | exact Below.refl _ _ | refine bDrewN ?_ _ | refine Below.drew ?_ | refine bAlloc ?_ (Nat.le_refl _) _ | refine bSet ?_ (by first | exact Nat.le_refl _ | omega | (simp <;> omega)) _))⟩
theorem eqCube_same (x y : Int) (w : World) : Calls Try.prog 49 #[.agg #[.int .i64 x, .int .i64 y], .agg #[.int .i64 x, .int .i64 y]] w fun e w' => e = .returned (.bool true) ∧ Below w.heap.size w w' := by
  have h := eqCube_any x y x y w
  rw [decide_eq_true (⟨rfl, rfl⟩ : x = x ∧ y = y)] at h
  exact h

/-- The slice value v owns the structs L. -/
abbrev OwnsCube (w : World) (B : Nat) (v : Value) (L : List (Int × Int)) : Prop := OwnsR fP 2 32 w B v L
theorem OwnsCube.at {w : World} {B : Nat} {v : Value} {L : List (Int × Int)} (h : OwnsCube w B v L) : ∃ A c, v = .slice A L.length c ∧
    ∀ j (hj : j < L.length), ∃ g, A = some ⟨g, 0, none⟩ ∧ w.cell? ⟨g, j * 2, none⟩ = some (.int .i64 L[j].1) ∧ w.cell? ⟨g, j * 2 + 1, none⟩ = some (.int .i64 L[j].2) ∧ w.frozen? ⟨g, j * 2, none⟩ = false ∧ w.frozen? ⟨g, j * 2 + 1, none⟩ = false := by
  obtain ⟨A, c, e, h⟩ := OwnsR.shape fP_len h
  refine ⟨A, c, e, fun j hj => ?_⟩
  obtain ⟨g, eg, hc⟩ := h j hj
  exact ⟨g, eg, (hc 0 _ rfl).1, (hc 1 _ rfl).1, (hc 0 _ rfl).2, (hc 1 _ rfl).2⟩

set_option maxHeartbeats 800000 in
theorem eqCubeS_any (B1 B2 : Nat) (a b : Value) (L : List (Int × Int)) (w : World) (ha : OwnsCube w B1 a L) (hb : OwnsCube w B2 b L) (hl : L.length ≤ 2000000) :
    Calls Try.prog 29 #[a, b] w fun e w' => e = .returned (.bool true) ∧ Below w.heap.size w w' := by
  obtain ⟨A, c, rfl, hA⟩ := ha.at
  obtain ⟨A', c', rfl, hA'⟩ := hb.at
  clear ha hb
  have HA := Lib.hid hA
  have HA' := Lib.hid hA'
  clear hA hA'
  go_enter Try.func29, Try.ntmps29
  go_wp2
  go_loopw [5] (fun i wr => ∃ k : Nat, k ≤ L.length ∧ i = .int .i64 k ∧ Below w.heap.size w wr) (fun i _ => L.length - (intOf i).toNat)
  case atStart => exact ⟨0, Nat.zero_le _, rfl, Below.refl _ _⟩
  case round =>
    obtain ⟨k, hk, rfl, hbel⟩ := hrel
    by_cases hlt : k < L.length
    · obtain ⟨g, rfl, h1, h2, _, _⟩ := HA.out k hlt
      obtain ⟨g', rfl, h3, h4, _, _⟩ := HA'.out k hlt
      have c1 := cell_regrown (keep hbel h1)
      have c2 := cell_regrown (keep hbel h2)
      have c3 := cell_regrown (keep hbel h3)
      have c4 := cell_regrown (keep hbel h4)
      have HB := Lib.hid hbel
      generalize L[k].1 = x at c1 c3
      generalize L[k].2 = y at c2 c4
      clear h1 h2 h3 h4 HA HA' hbel
      go_wp2
      refine wp_region_quiet_below (by kernel_rfl) (by kernel_rfl) ?_
      repeat (go_big_quiet_step (first | (go_at_call 49; refine Calls.regrown_of (eqCube_same x y _))))
      refine wpQuiet_nil ?_
      intro _ hw'
      obtain ⟨⟨dq, osq⟩, hw''⟩ := hw'
      subst hw''
      go_wp2
      go_roundw
      case rel => exact ⟨k + 1, by omega, by go_num, bThen HB.out (below_regrown _ _ _)⟩
      case measure => simp [intOf]; omega
    · have HB := Lib.hid hbel
      clear hbel
      go_wp2
      go_ret
      exact ⟨rfl, HB.out⟩

/-- The marks k, k + 1 | k + 2, k + 3 | ..: n structs of them. -/
def marksP (k n : Nat) : List (Int × Int) := (List.range n).map fun i => (((k + 2 * i : Nat) : Int), ((k + 2 * i + 1 : Nat) : Int))
theorem marksP_len (k n : Nat) : (marksP k n).length = n := by simp [marksP]
theorem marksP_at (k n j : Nat) (h : j < (marksP k n).length) : (marksP k n)[j] = (((k + 2 * j : Nat) : Int), ((k + 2 * j + 1 : Nat) : Int)) := by simp [marksP]

set_option maxHeartbeats 800000 in
theorem heldCubeS_any (B : Nat) (a : Value) (n : Nat) (w : World) (k0 : Nat) (ha : OwnsCube w B a (marksP k0 n)) (hl : n ≤ 1000000) (hk1 : 1 ≤ k0) (hk2 : k0 ≤ 1000000000) :
    Calls Try.prog 33 #[a, .int .i64 k0] w fun e w' => e = .returned (.int .i64 ((k0 + 2 * n : Nat) : Int)) ∧ Below w.heap.size w w' := by
  obtain ⟨A, c, rfl, hA⟩ := ha.at
  rw [marksP_len]
  have HA := Lib.hid hA
  clear hA ha
  go_enter Try.func33, Try.ntmps33
  go_wp2
  go_loopw [1, 5] (fun q i wr => ∃ k : Nat, k ≤ n ∧ i = .int .i64 k ∧ q = .int .i64 ((k0 + 2 * k : Nat) : Int) ∧ Below w.heap.size w wr) (fun _ i _ => n - (intOf i).toNat)
  case atStart => exact ⟨0, Nat.zero_le _, rfl, rfl, Below.refl _ _⟩
  case round =>
    obtain ⟨k, hk, rfl, rfl, hbel⟩ := hrel
    by_cases hlt : k < n
    · obtain ⟨g, rfl, h1, h2, _, _⟩ := HA.out k (by rw [marksP_len]; exact hlt)
      rw [marksP_at] at h1 h2
      have c1 := keep hbel h1
      have c2 := keep hbel h2
      have HB := Lib.hid hbel
      clear h1 h2 HA hbel
      go_wp2
      go_roundw
      case rel => exact ⟨k + 1, by omega, by go_num, by go_num, by have hB := HB.out; (repeat' (first | assumption | exact Below.refl _ _ | refine bDrewN ?_ _ | refine Below.drew ?_ | refine bAlloc ?_ (Nat.le_refl _) _ | refine bSet ?_ (by first | exact Nat.le_refl _ | omega | (simp <;> omega)) _))⟩
      case measure => simp [intOf]; omega
    · have HB := Lib.hid hbel
      obtain rfl : k = n := by omega
      clear hbel
      go_wp2
      go_ret
      exact ⟨rfl, HB.out⟩

theorem szCubeS_any (A : Option Addr) (n c : Nat) (left : Int) (w : World) (h0 : (n : Int) ≤ left) (h1 : left ≤ 1048576) :
    Calls Try.prog 25 #[.slice A n c, .int .i64 left] w fun e w' => e = .returned (.int .i64 (left - n)) ∧ w = w' := by
  have t1 : ¬ left - (n : Int) < 0 := by omega
  go_enter Try.func25, Try.ntmps25
  go_wp2
  go_ret
  exact ⟨rfl, rfl⟩
theorem szCubeS_big (A : Option Addr) (n c : Nat) (left : Int) (w : World) (h0 : left < (n : Int)) (h1 : 0 ≤ left) (h2 : left ≤ 1048576) (hn : n ≤ maxLen) :
    Calls Try.prog 25 #[.slice A n c, .int .i64 left] w fun e w' => e = .returned (.int .i64 (-1)) ∧ w = w' := by
  unfold maxLen at hn
  have t1 : left - (n : Int) < 0 := by omega
  go_enter Try.func25, Try.ntmps25
  go_wp2
  go_ret
  exact ⟨rfl, rfl⟩

set_option maxHeartbeats 1600000 in
theorem markCubeS_any (B : Nat) (a : Value) (L : List (Int × Int)) (w : World) (ha : OwnsCube w B a L) (hl : L.length ≤ 1000000) (k0 : Nat) (hk1 : 1 ≤ k0) (hk2 : k0 ≤ 1000000000) :
    Calls Try.prog 32 #[a, .int .i64 k0] w fun e w' => e = .returned (.int .i64 ((k0 + 2 * L.length : Nat) : Int)) ∧ OwnsCube w' B a (marksP k0 L.length) ∧ w.grownBy w' a.ownBlock := by
  obtain ⟨A, c, rfl, hA⟩ := ha.at
  clear hA
  have HA := Lib.hid ha
  clear ha
  go_enter Try.func32, Try.ntmps32
  go_wp2
  go_loopw [1, 5] (fun q i wr => ∃ k : Nat, k ≤ L.length ∧ i = .int .i64 k ∧ q = .int .i64 ((k0 + 2 * k : Nat) : Int) ∧ OwnsCube wr B (.slice A L.length c) (marksP k0 k ++ L.drop k) ∧ w.grownBy wr (Value.slice A L.length c).ownBlock) (fun _ i _ => L.length - (intOf i).toNat)
  case atStart => exact ⟨0, Nat.zero_le _, rfl, rfl, by simpa [marksP] using HA.out, World.grownBy.refl _ _⟩
  case round =>
    obtain ⟨k, hk, rfl, rfl, hown, hgrow⟩ := hrel
    have hll : (marksP k0 k ++ L.drop k).length = L.length := by rw [List.length_append, marksP_len, List.length_drop]; omega
    have HO := Lib.hid hown
    have HG := Lib.hid hgrow
    have HL := Lib.hid hll
    clear hown hgrow hll HA
    by_cases hlt : k < L.length
    · obtain ⟨A2, c2, hv, hA2⟩ := HO.out.at
      rw [HL.out] at hv
      injection hv with hv1 hv2 hv3
      subst hv1 hv3
      obtain ⟨g, rfl, x1, x2, f1, f2⟩ := hA2 k (by rw [HL.out]; exact hlt)
      have hown2 : OwnsR fP 2 32 wr B (.slice (some ⟨g, 0, none⟩) (marksP k0 k ++ L.drop k).length c) (marksP k0 k ++ L.drop k) := by have := HO.out; rw [HL.out]; exact this
      have hk' : k < (marksP k0 k ++ L.drop k).length := by rw [HL.out]; exact hlt
      have hs1 := OwnsR.stored fP_len (i := 0) (u := .int .i64 ((k0 + 2 * k : Nat) : Int)) (y := (((k0 + 2 * k : Nat) : Int), (marksP k0 k ++ L.drop k)[k].2)) hown2 hk' (by omega) rfl
      have hlen2 : ((marksP k0 k ++ L.drop k).set k (((k0 + 2 * k : Nat) : Int), (marksP k0 k ++ L.drop k)[k].2)).length = (marksP k0 k ++ L.drop k).length := List.length_set
      have hown3 := hs1.1
      rw [← hlen2] at hown3
      have hs2 := OwnsR.stored fP_len (i := 1) (u := .int .i64 ((k0 + 2 * k + 1 : Nat) : Int)) (y := (((k0 + 2 * k : Nat) : Int), ((k0 + 2 * k + 1 : Nat) : Int))) hown3 (by rw [hlen2]; exact hk') (by omega) (by rw [List.getElem_set_self]; rfl)
      have el : ((marksP k0 k ++ L.drop k).set k (((k0 + 2 * k : Nat) : Int), (marksP k0 k ++ L.drop k)[k].2)).set k (((k0 + 2 * k : Nat) : Int), ((k0 + 2 * k + 1 : Nat) : Int)) = marksP k0 (k + 1) ++ L.drop (k + 1) := by
        rw [List.set_set, List.set_append_right _ _ (by rw [marksP_len]; omega), marksP_len, Nat.sub_self, List.drop_eq_getElem_cons hlt, List.set_cons_zero]
        simp [marksP, List.range_succ]
      have ho := hs2.1
      rw [el, hlen2, HL.out] at ho
      have hg : w.grownBy ((wr.setCell ⟨g, k * 2 + 0, none⟩ (.int .i64 ((k0 + 2 * k : Nat) : Int))).setCell ⟨g, k * 2 + 1, none⟩ (.int .i64 ((k0 + 2 * k + 1 : Nat) : Int))) (some g) :=
        ⟨HG.out.os, HG.out.tape, HG.out.output, Nat.le_trans HG.out.size (Nat.le_trans hs1.2.size hs2.2.size), fun j hj hne =>
          ((hs2.2.block j (Nat.lt_of_lt_of_le (Nat.lt_of_lt_of_le hj HG.out.size) hs1.2.size) hne).trans (hs1.2.block j (Nat.lt_of_lt_of_le hj HG.out.size) hne)).trans (HG.out.block j hj hne)⟩
      have R := Lib.hid (And.intro ho hg)
      clear hA2 hown2 hs1 hown3 hs2 ho hg el hlen2 hk' HO HG
      have q1 : ((k0 + 2 * k : Nat) : Int) = (k0 : Int) + 2 * (k : Int) := by omega
      have q2 : ((k0 + 2 * k + 1 : Nat) : Int) = (k0 : Int) + 2 * (k : Int) + 1 := by omega
      rw [q1, q2] at R
      clear q1 q2
      go_wp2
      go_roundw
      case rel => exact ⟨k + 1, by omega, by go_num, by go_num, R.out.1, R.out.2⟩
      case measure => simp [intOf]; omega
    · obtain rfl : k = L.length := by omega
      go_wp2
      go_ret
      exact ⟨rfl, by have := HO.out; rwa [List.drop_length, List.append_nil] at this, HG.out⟩

theorem infoCube : (Try.prog.info? 32).map (fun i => (i.zero, i.size, i.bytes)) = some (some (.agg #[.int .i64 0, .int .i64 0]), 2, 16) := by kernel_rfl
theorem madeCube (n : Nat) : (madeCells (Value.agg #[.int .i64 0, .int .i64 0]).cells (n * 2)).toList = (List.replicate n ((0 : Int), (0 : Int))).flatMap fP := by
  apply List.ext_getElem?
  intro j
  rw [Array.getElem?_toList]
  by_cases hj : j < n * 2
  · have e : j = (j / 2) * 2 + j % 2 := by omega
    rw [e, flat_at fP 2 fP_len _ (j / 2) (j % 2) (by simp; omega) (by omega)]
    have hlt : j / 2 * 2 + j % 2 < n * 2 := by omega
    rcases (by omega : j % 2 = 0 ∨ j % 2 = 1) with h | h <;> rw [h] at hlt ⊢
    · simp [madeCells, hlt, Value.cells, fP]
      refine ⟨j / 2 * 2, by rw [Array.getElem?_range]; exact if_pos (by omega), ?_⟩
      rw [Nat.mul_mod_left]; rfl
    · simp [madeCells, hlt, Value.cells, fP]
  · rw [List.getElem?_eq_none (by rw [flat_len fP 2 fP_len]; simp; omega)]
    simp [madeCells, hj]

set_option maxHeartbeats 3200000 in
theorem toCubeS_any (a : Option Addr) (len cap : Nat) (zs : List (Int × Int)) (w : World) (hw : RowP w a len zs) (hl : len ≤ 1048576) :
    Calls Try.prog 27 #[.slice a len cap] w fun e w' => ∃ v, e = .returned v ∧ OwnsCube w' w.heap.size v zs ∧ Below w.heap.size w w' := by
  obtain ⟨i0, hi, hz0, hz1, hz2⟩ := info_parts infoCube
  go_enter Try.func27, Try.ntmps27
  go_wp2_with (at_make; refine wpList_make_full _ rfl _ _ 28 rfl w.heap.size 32 i0 (.agg #[.int .i64 0, .int .i64 0]) 2 Try.underlying28 hi hz0 hz1 .i64 .i64 (len : Int) (len : Int) len rfl rfl rfl rfl (by rw [hz2]; omega) (by unfold maxLen; omega) (Nat.le_refl _) ?_; intro w1 hown1 hgrow1)
  have hz := hw.2.1
  have hown : OwnsCube w1 w.heap.size (.slice (some ⟨w.heap.size, 0, none⟩) len len) (List.replicate len ((0 : Int), (0 : Int))) := by
    unfold OwnsCube OwnsR
    rw [List.length_replicate, ← madeCube]; exact hown1
  have hB1 : Below w.heap.size w w1 := (Below.refl _ _).grown hgrow1 (Nat.le_refl _) (by intro g hg; cases hg)
  have HO := Lib.hid hown
  have HB := Lib.hid hB1
  have HW := Lib.hid hw
  clear hown1 hgrow1 hown hB1 hw
  go_loopw [4] (fun v wr => ∃ i : Nat, i ≤ len ∧ v = .int .i64 i ∧ OwnsCube wr w.heap.size (.slice (some ⟨w.heap.size, 0, none⟩) len len) (zs.take i ++ List.replicate (len - i) ((0 : Int), (0 : Int))) ∧ Below w.heap.size w wr) (fun v _ => len - (intOf v).toNat)
  case atStart => exact ⟨0, Nat.zero_le _, rfl, by simpa using HO.out, HB.out⟩
  case round =>
    obtain ⟨i, hi, rfl, hown, hb⟩ := hrel
    clear HO HB
    have HO := Lib.hid hown
    have HB := Lib.hid hb
    by_cases hlt : i < len
    · have hll : (zs.take i ++ List.replicate (len - i) ((0 : Int), (0 : Int))).length = len := by rw [List.length_append, List.length_take, List.length_replicate]; omega
      obtain ⟨b, o, rfl, _, x0, x1⟩ := (HW.out.below hb).2.2 i (by omega)
      clear hown hb
      obtain ⟨x, hx⟩ : ∃ x, zs[i].1 = x := ⟨_, rfl⟩
      obtain ⟨y, hy⟩ : ∃ y, zs[i].2 = y := ⟨_, rfl⟩
      rw [hx] at x0
      rw [hy] at x1
      have HX := Lib.hid (And.intro hx hy)
      clear hx hy
      go_wp2_with fail
      refine (toCube_any x y _).mono ?_
      rintro e w2 ⟨rfl, hb2⟩
      have hown2 := HO.out.below hb2
      have hB2 := bThen HB.out hb2
      obtain ⟨A2, c2, hv, hA2⟩ := OwnsCube.at hown2
      obtain ⟨g, hg, y0, y1, f0, f1⟩ := hA2 i (by rw [hll]; exact hlt)
      rw [hll] at hv
      injection hv with hv1 hv2 hv3
      subst hv1 hv3
      injection hg with hg
      injection hg with hg
      subst hg
      have hk' : i < (zs.take i ++ List.replicate (len - i) ((0 : Int), (0 : Int))).length := by rw [hll]; exact hlt
      have hown3 : OwnsR fP 2 32 w2 w.heap.size (.slice (some ⟨w.heap.size, 0, none⟩) (zs.take i ++ List.replicate (len - i) ((0 : Int), (0 : Int))).length len) (zs.take i ++ List.replicate (len - i) ((0 : Int), (0 : Int))) := by rw [hll]; exact hown2
      have hs1 := OwnsR.stored fP_len (i := 0) (u := .int .i64 x) (y := (x, (zs.take i ++ List.replicate (len - i) ((0 : Int), (0 : Int)))[i].2)) hown3 hk' (by omega) rfl
      have hlen2 : ((zs.take i ++ List.replicate (len - i) ((0 : Int), (0 : Int))).set i (x, (zs.take i ++ List.replicate (len - i) ((0 : Int), (0 : Int)))[i].2)).length = (zs.take i ++ List.replicate (len - i) ((0 : Int), (0 : Int))).length := List.length_set
      have hown4 := hs1.1
      rw [← hlen2] at hown4
      have hs2 := OwnsR.stored fP_len (i := 1) (u := .int .i64 y) (y := (x, y)) hown4 (by rw [hlen2]; exact hk') (by omega) (by rw [List.getElem_set_self]; rfl)
      have el : ((zs.take i ++ List.replicate (len - i) ((0 : Int), (0 : Int))).set i (x, (zs.take i ++ List.replicate (len - i) ((0 : Int), (0 : Int)))[i].2)).set i (x, y) = zs.take (i + 1) ++ List.replicate (len - (i + 1)) ((0 : Int), (0 : Int)) := by
        have ht : (zs.take i).length = i := by rw [List.length_take]; omega
        rw [List.set_set, List.set_append_right _ _ (by omega), ht, Nat.sub_self, show len - i = (len - (i + 1)) + 1 by omega, List.replicate_succ, List.set_cons_zero, List.take_add_one, List.getElem?_eq_getElem (by omega : i < zs.length)]
        simp only [Option.toList_some, List.append_assoc, List.singleton_append]
        rw [show zs[i] = (x, y) from Prod.ext HX.out.1 HX.out.2]
      have ho := hs2.1
      rw [el, hlen2, hll] at ho
      have R := Lib.hid (And.intro ho (bSet (bSet hB2 (Nat.le_refl _) _) (Nat.le_refl _) _ : Below w.heap.size w ((w2.setCell ⟨w.heap.size, i * 2 + 0, none⟩ (.int .i64 x)).setCell ⟨w.heap.size, i * 2 + 1, none⟩ (.int .i64 y))))
      clear hown2 hB2 hA2 hk' hown3 hs1 hlen2 hown4 hs2 el ho x0 x1
      go_wp2
      go_roundw
      case rel => exact ⟨i + 1, by omega, by go_num, R.out.1, R.out.2⟩
      case measure => simp [intOf]; omega
    · obtain rfl : i = len := by omega
      clear hown hb
      go_wp2
      go_ret
      exact ⟨_, rfl, by have h := HO.out; rw [← hz, List.take_length, Nat.sub_self] at h; rw [← hz]; simpa using h, HB.out⟩
end Go.Proofs.Ytjibjnkabfmgaaa
