/-
  Covers: are all cubes valid; the table of a cover without one of its cubes.
-/
import Derived.Test.YtjibjnkabfmgaaaCubA
import Derived.Test.YtjibjnkabfmgaaaCubeS
import Derived.Test.YtjibjnkabfmgaaaTabVar
namespace Go.Proofs.Ytjibjnkabfmgaaa
open Go.RowKit
set_option linter.unusedVariables false
set_option linter.unusedSimpArgs false

theorem OwnsR.rowP {T : Nat} {w : World} {B : Nat} {v : Value} {L : List (Int × Int)} (h : OwnsR fP 2 T w B v L) (hl : L.length ≤ maxLen) : ∃ A c, v = .slice A L.length c ∧ RowP w A L.length L := by
  obtain ⟨A, c, e, h⟩ := OwnsR.shape fP_len h
  refine ⟨A, c, e, hl, rfl, fun j hj => ?_⟩
  obtain ⟨g, eg, hc⟩ := h j hj
  have h0 := (hc 0 _ rfl).1
  have h1 := (hc 1 _ rfl).1
  exact ⟨g, 0, eg, World.block_lt_of_cell? w _ h0, by simpa using h0, by simpa using h1⟩

/-- All cubes are valid, and there are not too many. -/
def coverB (n : Int) (L : List (Int × Int)) : Bool := decide (0 ≤ n ∧ n ≤ 4) && decide (L.length ≤ 81) && L.all fun x => cubeB n x.1 x.2
theorem coverB_take (n : Int) (L : List (Int × Int)) (k : Nat) (hk : k < L.length) : (L.take (k + 1)).all (fun x => cubeB n x.1 x.2) = ((L.take k).all (fun x => cubeB n x.1 x.2) && cubeB n L[k].1 L[k].2) := by
  rw [List.take_add_one, List.getElem?_eq_getElem hk, List.all_append]; simp
theorem all_false_take (n : Int) (L : List (Int × Int)) (k : Nat) (hk : k < L.length) (h : cubeB n L[k].1 L[k].2 = false) : L.all (fun x => cubeB n x.1 x.2) = false := by
  rw [List.all_eq_false]
  exact ⟨L[k], List.getElem_mem hk, by simp [h]⟩

set_option maxHeartbeats 3200000 in
theorem specCovOk_any (n : Int) (A : Option Addr) (c : Nat) (L : List (Int × Int)) (w : World) (hL : RowP w A L.length L) :
    Calls Try.prog 47 #[.int .i64 n, .slice A L.length c] w fun e w' => e = .returned (.bool (coverB n L)) ∧ Below w.heap.size w w' := by
  have hm := hL.1
  unfold maxLen at hm
  by_cases h1 : 0 ≤ n ∧ n ≤ 4
  · have hv : decide (0 ≤ n ∧ n ≤ 4) = true := decide_eq_true h1
    unfold coverB
    rw [hv]
    by_cases h2 : L.length ≤ 81
    · rw [decide_eq_true h2]
      have t1 : ¬ (81 : Int) < (L.length : Int) := by omega
      go_enter Try.func47, Try.ntmps47
      go_wp2_with fail
      refine (l01In_at _ _ _ _ hv).mono ?_
      rintro e w1 ⟨rfl, rfl⟩
      go_wp2
      go_loopw [5] (fun v wr => ∃ k : Nat, k ≤ L.length ∧ v = .int .i64 k ∧ (L.take k).all (fun x => cubeB n x.1 x.2) = true ∧ Below w.heap.size w wr) (fun v _ => L.length - (intOf v).toNat)
      case atStart => exact ⟨0, Nat.zero_le _, rfl, rfl, Below.refl _ _⟩
      case round =>
        obtain ⟨k, hk, rfl, hall, hb⟩ := hrel
        have HB := Lib.hid hb
        have HA := Lib.hid hall
        by_cases hlt : k < L.length
        · obtain ⟨b, o, rfl, _, x0, x1⟩ := (hL.below hb).2.2 k hlt
          clear hb hall
          cases hc : cubeB n L[k].1 L[k].2
          · have hfin := all_false_take n L k hlt hc
            have HF := Lib.hid hfin
            have HC := Lib.hid hc
            clear hc hfin
            go_wp2_with fail
            refine (specCube_at _ _ _ _ HC.out).mono ?_
            rintro e w2 ⟨rfl, hb2⟩
            have R := Lib.hid (bThen HB.out hb2)
            clear hb2
            go_wp2
            go_ret
            exact ⟨by rw [HF.out]; rfl, R.out⟩
          · have hst := coverB_take n L k hlt
            rw [HA.out, hc] at hst
            have HS := Lib.hid hst
            have HC := Lib.hid hc
            clear hc hst
            go_wp2_with fail
            refine (specCube_at _ _ _ _ HC.out).mono ?_
            rintro e w2 ⟨rfl, hb2⟩
            have R := Lib.hid (bThen HB.out hb2)
            clear hb2
            go_wp2
            go_roundw
            case rel => exact ⟨k + 1, by omega, by go_num, HS.out, R.out⟩
            case measure => simp [intOf]; omega
        · obtain rfl : k = L.length := by omega
          rw [List.take_length] at HA
          clear hb hall
          go_wp2
          go_ret
          exact ⟨by rw [HA.out]; rfl, HB.out⟩
    · rw [decide_eq_false h2]
      have t1 : (81 : Int) < (L.length : Int) := by omega
      go_enter Try.func47, Try.ntmps47
      go_wp2_with fail
      refine (l01In_at _ _ _ _ hv).mono ?_
      rintro e w1 ⟨rfl, rfl⟩
      go_wp2
      go_ret
      exact ⟨by simp, Below.refl _ _⟩
  · have hv : decide (0 ≤ n ∧ n ≤ 4) = false := decide_eq_false h1
    unfold coverB
    rw [hv]
    go_enter Try.func47, Try.ntmps47
    go_wp2_with fail
    refine (l01In_at _ _ _ _ hv).mono ?_
    rintro e w1 ⟨rfl, rfl⟩
    go_wp2
    go_ret
    exact ⟨by simp, Below.refl _ _⟩

/-- One of the first p cubes, but for number s, contains i. -/
def covP (L : List (Int × Int)) (s : Int) (i p : Nat) : Bool := (List.range p).any fun k : Nat => decide ((k : Int) ≠ s) && decide (i &&& (L.getD k (0, 0)).1.toNat = (L.getD k (0, 0)).2.toNat)
def covB (L : List (Int × Int)) (s : Int) (i : Nat) : Bool := covP L s i L.length
theorem covP_step (L : List (Int × Int)) (s : Int) (i p : Nat) : covP L s i (p + 1) = (covP L s i p || (decide ((p : Int) ≠ s) && decide (i &&& (L.getD p (0, 0)).1.toNat = (L.getD p (0, 0)).2.toNat))) := by
  unfold covP; rw [List.range_succ, List.any_append]; simp
theorem covP_true (L : List (Int × Int)) (s : Int) (i p : Nat) (hp : p < L.length) (h : covP L s i (p + 1) = true) : covB L s i = true := by
  unfold covB covP at *
  obtain ⟨k, hk, h⟩ := List.any_eq_true.1 h
  exact List.any_eq_true.2 ⟨k, List.mem_range.2 (by have := List.mem_range.1 hk; omega), h⟩
/-- Small cubes. -/
def Small (L : List (Int × Int)) : Prop := ∀ k, k < L.length → ∃ X Y : Nat, L.getD k (0, 0) = ((X : Int), (Y : Int)) ∧ X ≤ 15 ∧ Y ≤ 15
theorem yes_step (f : Nat → Bool) (i : Nat) (h : f i = true) : mkB f i + 2 ^ i = mkB f (i + 1) := by simp [mkB, h]
theorem none_step (f : Nat → Bool) (i : Nat) (h : f i = false) : mkB f (i + 1) = mkB f i := by simp [mkB, h]

theorem rowB {b : Nat} {w w' : World} {o : Obj} (h : Below w.heap.size w w') (hr : w.heap[b]? = some o) : w'.heap[b]? = some o :=
  (h.block b (Array.getElem?_eq_some_iff.1 hr).1).trans hr

set_option maxHeartbeats 6400000 in
theorem specTab_any (N : Nat) (A : Option Addr) (c : Nat) (L : List (Int × Int)) (s : Int) (w : World) (hN : N ≤ 4) (hL : RowP w A L.length L) (hS : Small L) :
    Calls Try.prog 48 #[.int .i64 N, .slice A L.length c, .int .i64 s] w fun e w' => e = .returned (.agg #[.int .i64 N, .int .i64 (mkB (fun i => covB L s i) (2 ^ N) : Nat)]) ∧ Below w.heap.size w w' := by
  have hm := hL.1
  unfold maxLen at hm
  have h16 := pow16 N hN
  have e1 := shl_one N hN
  have HL := Lib.hid hL
  have HS := Lib.hid hS
  clear hL hS
  go_enter Try.func48, Try.ntmps48
  go_wp2
  have b0 : Below w.heap.size w ((w.alloc (.cells #[.int .i64 0, .int .i64 0] 25)).alloc (.cells #[.int .i64 N, .int .i64 0] 25)) := by (repeat' (first | assumption | exact Below.refl _ _ | refine bDrewN ?_ _ | refine Below.drew ?_ | refine bAlloc ?_ (Nat.le_refl _) _ | refine bSet ?_ (by first | exact Nat.le_refl _ | omega | (simp <;> omega)) _))
  have g0 := box2 (w1 := (w.alloc (.cells #[.int .i64 0, .int .i64 0] 25)).alloc (.cells #[.int .i64 N, .int .i64 0] 25)) (Below.refl _ _)
  go_loopw [8, 9] (fun v _ wr => ∃ i : Nat, v = .int .i64 i ∧ i ≤ 2 ^ N ∧ wr.heap[w.heap.size]? = some (.cells #[.int .i64 0, .int .i64 0] 25 (0, 0)) ∧
      wr.heap[w.heap.size + 1]? = some (.cells #[.int .i64 N, .int .i64 (mkB (fun i => covB L s i) i : Nat)] 25 (0, 0)) ∧ Below w.heap.size w wr) (fun v _ _ => 2 ^ N - (intOf v).toNat)
  case atStart => exact ⟨0, rfl, Nat.zero_le _, g0.1, g0.2.1, b0⟩
  case round =>
    obtain ⟨i, rfl, hi, hr, ho, hb⟩ := hrel
    clear b0 g0
    have HO := Lib.hid ho
    have HR := Lib.hid hr
    have HB := Lib.hid hb
    by_cases hlt : i < 2 ^ N
    · have t1 : (i : Int) < 2 ^ N := by rw [pow_cast]; omega
      clear ho hr hb
      go_wp2
      (try rw [e1.trans (pow_cast N).symm])
      clear e1
      go_loopw [9] (fun v wq => ∃ p : Nat, v = .int .i64 p ∧ p ≤ L.length ∧ covP L s i p = false ∧ Below wr.heap.size wr wq) (fun v _ => L.length - (intOf v).toNat)
      case atStart => exact ⟨0, rfl, Nat.zero_le _, rfl, Below.refl _ _⟩
      case round =>
        obtain ⟨p, rfl, hp, hc, hq⟩ := hrel
        have HC := Lib.hid hc
        have HQ := Lib.hid hq
        by_cases hpl : p < L.length
        · obtain ⟨b, o, rfl, _, x0, x1⟩ := ((HL.out.below HB.out).below hq).2.2 p hpl
          obtain ⟨X, Y, hXY, hX, hY⟩ := HS.out p hpl
          have hg : L[p] = ((X : Int), (Y : Int)) := by rw [← hXY, List.getD_eq_getElem?_getD, List.getElem?_eq_getElem hpl]; rfl
          rw [hg] at x0 x1
          have ev := i64_and i X (by omega) (by omega)
          have hst := covP_step L s i p
          rw [HC.out, hXY] at hst
          obtain ⟨q, hqq⟩ : ∃ q, i &&& X = q := ⟨_, rfl⟩
          rw [show ((X : Int).toNat) = X from rfl, show ((Y : Int).toNat) = Y from rfl, hqq] at hst
          rw [hqq] at ev
          have HST := Lib.hid hst
          clear hc hq hst hqq hg hXY
          by_cases hs : (p : Int) = s
          · have hst2 : covP L s i (p + 1) = false := by rw [HST.out]; simp [hs]
            have H2 := Lib.hid hst2
            have t2 : ((p : Int) != s) = false := by simp [hs]
            clear hst2 hs
            go_wp2
            go_quiet (fail)
            go_wp2
            go_roundw
            case rel => exact ⟨p + 1, by go_num, by omega, H2.out, (by have hB := HQ.out; (repeat' (first | assumption | exact Below.refl _ _ | refine bDrewN ?_ _ | refine Below.drew ?_ | refine bAlloc ?_ (Nat.le_refl _) _ | refine bSet ?_ (by first | exact Nat.le_refl _ | omega | (simp <;> omega)) _)))⟩
            case measure => simp [intOf]; omega
          · by_cases hqY : q = Y
            · have hst2 : covP L s i (p + 1) = true := by rw [HST.out]; simp [hs, hqY]
              have hcov := covP_true L s i p hpl hst2
              have H2 := Lib.hid hcov
              have t2 : ((p : Int) != s) = true := by simp [hs]
              have t3 : ((q : Int) == (Y : Int)) = true := by simp [hqY]
              clear hst2 hcov hs hqY
              have hz := rowB HQ.out HO.out
              have hr := rowB HQ.out HR.out
              have z1 : wr.cell? ⟨w.heap.size + 1, 1, none⟩ = some (.int .i64 (mkB (fun i => covB L s i) i : Nat)) := box_cell hz 1 _ rfl
              have f1 : wr.frozen? ⟨w.heap.size + 1, 1, none⟩ = false := frozen_of_row wr _ 1 _ _ hz
              have hB := bThen HB.out HQ.out
              have R := Lib.hid (And.intro hz (And.intro hr hB))
              have hm1 := mkB_le (fun i => covB L s i) i (by omega)
              have hi16 : 2 ^ i ≤ 65536 := by
                have : 2 ^ i ≤ 2 ^ 16 := Nat.pow_le_pow_right (by omega) (by omega)
                exact this
              have ev1 : IntKind.i64.wrap ((2 : Int) ^ i) = (2 : Int) ^ i := by rw [pow_cast, wrap64_small _ (by omega)]
              have ev2 : IntKind.i64.wrap (((mkB (fun i => covB L s i) i : Nat) : Int) + (2 : Int) ^ i) = ((mkB (fun i => covB L s i) (i + 1) : Nat) : Int) := by rw [pow_cast, ← Int.natCast_add, yes_step (fun i => covB L s i) i H2.out, wrap64_small _ (by have := mkB_le (fun i => covB L s i) (i + 1) (by omega); omega)]
              clear hz hr hB
              go_wp2
              go_quiet (fail)
              go_wp2
              go_region_law (fail)
              all_goals go_wp2
              all_goals go_roundw
              all_goals first
                | exact ⟨i + 1, by go_num, by omega, (Below.heap_setCell _ _ _ w.heap.size (by simp)).trans R.out.2.1, heap_setCell_same _ _ 1 _ _ _ R.out.1, (by have hB := R.out.2.2; (repeat' (first | assumption | exact Below.refl _ _ | refine bDrewN ?_ _ | refine Below.drew ?_ | refine bAlloc ?_ (Nat.le_refl _) _ | refine bSet ?_ (by first | exact Nat.le_refl _ | omega | (simp <;> omega)) _)))⟩
                | (simp [intOf]; omega)
            · have hst2 : covP L s i (p + 1) = false := by rw [HST.out]; simp [hqY]
              have H2 := Lib.hid hst2
              have t2 : ((p : Int) != s) = true := by simp [hs]
              have t3 : ((q : Int) == (Y : Int)) = false := by simp; omega
              clear hst2 hs hqY
              go_wp2
              go_quiet (fail)
              go_wp2
              go_roundw
              case rel => exact ⟨p + 1, by go_num, by omega, H2.out, (by have hB := HQ.out; (repeat' (first | assumption | exact Below.refl _ _ | refine bDrewN ?_ _ | refine Below.drew ?_ | refine bAlloc ?_ (Nat.le_refl _) _ | refine bSet ?_ (by first | exact Nat.le_refl _ | omega | (simp <;> omega)) _)))⟩
              case measure => simp [intOf]; omega
        · obtain rfl : p = L.length := by omega
          have R := Lib.hid (And.intro (rowB HQ.out HO.out) (And.intro (rowB HQ.out HR.out) (bThen HB.out HQ.out)))
          have hn := none_step (fun i => covB L s i) i HC.out
          have HN := Lib.hid hn
          clear hc hq hn
          go_wp2
          go_roundw
          case rel => exact ⟨i + 1, by go_num, by omega, R.out.2.1, by rw [HN.out]; exact R.out.1, R.out.2.2⟩
          case measure => simp [intOf]; omega
    · have t1 : ¬ (i : Int) < 2 ^ N := by rw [pow_cast]; omega
      obtain rfl : i = 2 ^ N := by omega
      have c0 : wr.cell? ⟨w.heap.size + 1, 0, none⟩ = some (.int .i64 N) := box_cell ho 0 _ rfl
      have c1 : wr.cell? ⟨w.heap.size + 1, 1, none⟩ = some (.int .i64 (mkB (fun i => covB L s i) (2 ^ N) : Nat)) := box_cell ho 1 _ rfl
      have r0 : wr.cell? ⟨w.heap.size, 0, none⟩ = some (.int .i64 0) := box_cell hr 0 _ rfl
      have r1 : wr.cell? ⟨w.heap.size, 1, none⟩ = some (.int .i64 0) := box_cell hr 1 _ rfl
      have y0 : wr.frozen? ⟨w.heap.size, 0, none⟩ = false := frozen_of_row wr _ 0 _ _ hr
      have y1 : wr.frozen? ⟨w.heap.size, 1, none⟩ = false := frozen_of_row wr _ 1 _ _ hr
      clear ho hr hb
      go_wp2
      ((try simp only [Exit.inBlock, Exit.then]); refine bodyPost_ret (v := (.agg #[.int .i64 N, .int .i64 (mkB (fun i => covB L s i) (2 ^ N) : Nat)])) (by rw [results_cell1 rfl]; go_simp) rfl ?_)
      have hB := HB.out
      exact ⟨rfl, by (repeat' (first | assumption | exact Below.refl _ _ | refine bDrewN ?_ _ | refine Below.drew ?_ | refine bAlloc ?_ (Nat.le_refl _) _ | refine bSet ?_ (by first | exact Nat.le_refl _ | omega | (simp <;> omega)) _))⟩

/-- The cover's table. -/
def coverT (n : Int) (L : List (Int × Int)) : Value := if coverB n L then .agg #[.int .i64 n, .int .i64 (mkB (fun i => covB L (-1) i) (2 ^ n.toNat) : Nat)] else .agg #[.int .i64 0, .int .i64 0]
theorem small_of {n : Int} {L : List (Int × Int)} (h : coverB n L = true) : ∃ N : Nat, n = N ∧ N ≤ 4 ∧ L.length ≤ 81 ∧ Small L := by
  unfold coverB at h
  rw [Bool.and_eq_true, Bool.and_eq_true, decide_eq_true_eq, decide_eq_true_eq, List.all_eq_true] at h
  obtain ⟨⟨⟨h0, h4⟩, hl⟩, hall⟩ := h
  obtain ⟨N, rfl⟩ := Int.eq_ofNat_of_zero_le h0
  refine ⟨N, rfl, by omega, hl, fun k hk => ?_⟩
  have hc := hall L[k] (List.getElem_mem hk)
  obtain ⟨N', X, Y, hn, hx, hy, hN, hX, hY, _⟩ := cubeB_out hc
  have := pow_le16 N' hN
  refine ⟨X, Y, ?_, by omega, by omega⟩
  rw [List.getD_eq_getElem?_getD, List.getElem?_eq_getElem hk]
  exact Prod.ext hx hy
theorem specCovOk_at (n : Int) (A : Option Addr) (c : Nat) (L : List (Int × Int)) {d : Bool} (w : World) (hL : RowP w A L.length L) (h : coverB n L = d) :
    Calls Try.prog 47 #[.int .i64 n, .slice A L.length c] w fun e w' => e = .returned (.bool d) ∧ Below w.heap.size w w' := by
  subst h; exact specCovOk_any n A c L w hL

set_option maxHeartbeats 3200000 in
theorem specCover_any (n : Int) (A : Option Addr) (c : Nat) (L : List (Int × Int)) (w : World) (hL : RowP w A L.length L) :
    Calls Try.prog 26 #[.int .i64 n, .slice A L.length c] w fun e w' => e = .returned (coverT n L) ∧ Below w.heap.size w w' := by
  unfold coverT
  cases hc : coverB n L
  · go_enter Try.func26, Try.ntmps26
    go_wp2_with fail
    refine (specCovOk_at n A c L _ (hL.below (bAlloc (Below.refl _ _) (Nat.le_refl _) _)) hc).mono ?_
    rintro e w1 ⟨rfl, hb⟩
    have g := box1 hb
    have r0 : w1.cell? ⟨w.heap.size, 0, none⟩ = some (.int .i64 0) := box_cell g.1 0 _ rfl
    have r1 : w1.cell? ⟨w.heap.size, 1, none⟩ = some (.int .i64 0) := box_cell g.1 1 _ rfl
    have y0 : w1.frozen? ⟨w.heap.size, 0, none⟩ = false := frozen_of_row w1 _ 0 _ _ g.1
    have y1 : w1.frozen? ⟨w.heap.size, 1, none⟩ = false := frozen_of_row w1 _ 1 _ _ g.1
    have HB := Lib.hid g.2
    clear hb g
    go_wp2
    ((try simp only [Exit.inBlock, Exit.then]); refine bodyPost_ret (v := (.agg #[.int .i64 0, .int .i64 0])) (by rw [results_cell1 rfl]; go_simp) rfl ?_)
    have hB := HB.out
    exact ⟨rfl, by (repeat' (first | assumption | exact Below.refl _ _ | refine bDrewN ?_ _ | refine Below.drew ?_ | refine bAlloc ?_ (Nat.le_refl _) _ | refine bSet ?_ (by first | exact Nat.le_refl _ | omega | (simp <;> omega)) _))⟩
  · have HC := Lib.hid hc
    obtain ⟨N, rfl, hN, hl, hS⟩ := small_of hc
    replace hc := HC.out
    go_enter Try.func26, Try.ntmps26
    go_wp2_with fail
    refine (specCovOk_at N A c L _ (hL.below (bAlloc (Below.refl _ _) (Nat.le_refl _) _)) hc).mono ?_
    rintro e w1 ⟨rfl, hb⟩
    have g := box1 hb
    have r0 : w1.cell? ⟨w.heap.size, 0, none⟩ = some (.int .i64 0) := box_cell g.1 0 _ rfl
    have r1 : w1.cell? ⟨w.heap.size, 1, none⟩ = some (.int .i64 0) := box_cell g.1 1 _ rfl
    have y0 : w1.frozen? ⟨w.heap.size, 0, none⟩ = false := frozen_of_row w1 _ 0 _ _ g.1
    have y1 : w1.frozen? ⟨w.heap.size, 1, none⟩ = false := frozen_of_row w1 _ 1 _ _ g.1
    have HB := Lib.hid g.2
    have hL1 := hL.below g.2
    clear hb g
    go_wp2_with fail
    refine (specTab_any N A c L (-1) _ hN hL1 hS).mono ?_
    rintro e w2 ⟨rfl, hb⟩
    replace y0 := keepF hb r0 y0
    replace y1 := keepF hb r1 y1
    replace r0 := keep hb r0
    replace r1 := keep hb r1
    replace HB := Lib.hid (bThen HB.out hb)
    clear hb hL1
    go_wp2
    ((try simp only [Exit.inBlock, Exit.then]); refine bodyPost_ret (v := (.agg #[.int .i64 N, .int .i64 (mkB (fun i => covB L (-1) i) (2 ^ N) : Nat)])) (by rw [results_cell1 rfl]; go_simp) rfl ?_)
    have hB := HB.out
    exact ⟨rfl, by (repeat' (first | assumption | exact Below.refl _ _ | refine bDrewN ?_ _ | refine Below.drew ?_ | refine bAlloc ?_ (Nat.le_refl _) _ | refine bSet ?_ (by first | exact Nat.le_refl _ | omega | (simp <;> omega)) _))⟩
end Go.Proofs.Ytjibjnkabfmgaaa
