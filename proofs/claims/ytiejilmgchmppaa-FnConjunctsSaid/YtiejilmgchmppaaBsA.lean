/-
  Comparisons of ints; the place of an int in an ordered slice.
-/
import Derived.Test.YtiejilmgchmppaaBlM
import Derived.Test.YtiejilmgchmppaaRgN
import Derived.Test.YtiejilmgchmppaaAtAll
import Derived.Deep.RegionHeld3
namespace Go.Proofs.Ytiejilmgchmppaa
open Go.RowKit
set_option linter.unusedVariables false
set_option linter.unusedSimpArgs false

def cmpI (a b : Int) : Int := if a < b then -1 else if b < a then 1 else 0
set_option maxHeartbeats 1600000 in
theorem isNaN_at (a : Int) (w : World) :
    Calls Try.prog 69 #[.int .i64 a] w fun e w' => e = .returned (.bool false) ∧ w' = w := by
  go_enter Try.func69, Try.ntmps69
  go_wp2
  go_ret
  exact ⟨by simp, rfl⟩
set_option maxHeartbeats 1600000 in
theorem cmpI_at (a b : Int) (w : World) {r : Int} (hr : cmpI a b = r) :
    Calls Try.prog 55 #[.int .i64 a, .int .i64 b] w fun e w' => e = .returned (.int .i64 r) ∧ w' = w := by
  have HR := Lib.hid hr
  clear hr
  go_enter Try.func55, Try.ntmps55
  go_wp2_with fail
  refine (isNaN_at a _).mono ?_
  rintro e w1 ⟨rfl, rfl⟩
  go_wp2_with fail
  refine (isNaN_at b _).mono ?_
  rintro e w1 ⟨rfl, rfl⟩
  by_cases h1 : a < b
  · have HE := Lib.hid (HR.out.symm.trans (show cmpI a b = -1 by unfold cmpI; rw [if_pos h1]))
    go_wp2
    go_ret
    exact ⟨by rw [HE.out]; rfl, rfl⟩
  · by_cases h2 : b < a
    · have HE := Lib.hid (HR.out.symm.trans (show cmpI a b = 1 by unfold cmpI; rw [if_neg h1, if_pos h2]))
      go_wp2
      go_ret
      exact ⟨by rw [HE.out]; rfl, rfl⟩
    · have HE := Lib.hid (HR.out.symm.trans (show cmpI a b = 0 by unfold cmpI; rw [if_neg h1, if_neg h2]))
      go_wp2
      go_ret
      exact ⟨by rw [HE.out]; rfl, rfl⟩
theorem asc_below {L : List Int} (hA : L.Pairwise (· < ·)) {h : Nat} {y : Int} (hy : L[h]? = some y) {x : Int} (hx : x ≤ y) : ∀ z ∈ L.take (h + 1), z ≤ y := fun z hz => by
  obtain ⟨k, hk⟩ := List.getElem?_of_mem hz
  rw [List.getElem?_take] at hk
  split at hk
  · rename_i c
    by_cases e : k = h
    · subst e; rw [hy] at hk; injection hk with hk; omega
    · have := asc_at hA (show k < h by omega) hk hy; omega
  · cases hk
theorem asc_above {L : List Int} (hA : L.Pairwise (· < ·)) {h : Nat} {y : Int} (hy : L[h]? = some y) {x : Int} (hx : x ≤ y) : ∀ z ∈ L.drop h, y ≤ z := fun z hz => by
  obtain ⟨k, hk⟩ := List.getElem?_of_mem hz
  rw [List.getElem?_drop] at hk
  by_cases e : k = 0
  · subst e; rw [Nat.add_zero, hy] at hk; injection hk with hk; omega
  · have := asc_at hA (show h < h + k by omega) hy hk; omega
theorem place_mem {L : List Int} {x y : Int} {p : Nat} (hA : L.Pairwise (· < ·)) (hp : PlaceI (· < ·) L x p) (hy : L[p]? = some y) : x ∈ L ↔ y = x := by
  constructor
  · intro hx
    rw [← List.take_append_drop p L, List.mem_append] at hx
    rcases hx with hx | hx
    · have := hp.low x hx; omega
    · have h1 := asc_above hA hy (Int.le_refl y) x hx
      have h2 := hp.high y (by
        have := List.getElem?_drop (xs := L) (i := p) (j := 0)
        rw [Nat.add_zero, hy] at this
        exact List.mem_of_getElem? this)
      omega
  · rintro rfl; exact List.mem_of_getElem? hy
theorem cmpI_zero (y x : Int) : cmpI y x = 0 ↔ y = x := by unfold cmpI; split; omega; split <;> omega
set_option maxRecDepth 100000 in
set_option maxHeartbeats 6400000 in
theorem bsearchI_at (L : List Int) (x : Int) (v : Value) (w : World) (hv : rdIntS 0 w.heap.size w [v] L) (hA : L.Pairwise (· < ·)) (hn : L.length ≤ 1000000) :
    Calls Try.prog 70 #[v, .int .i64 x, .func (.func 55) #[] #[]] w fun e w' => ∃ p : Nat, e = .returned (.tuple #[.int .i64 (p : Int), .bool (decide (x ∈ L))]) ∧ PlaceI (· < ·) L x p ∧ Below w.heap.size w w' := by
  have HV := Lib.hid hv
  have HA := Lib.hid hA
  obtain ⟨vA, vc, rfl, vm, -⟩ := slice_of hv
  clear hv hA
  go_enter Try.func70, Try.ntmps70
  go_wp2
  go_loopw [9, 10] (fun a b wr => ∃ i j : Nat, i ≤ j ∧ j ≤ L.length ∧ a = .int .i64 (i : Int) ∧ b = .int .i64 (j : Int) ∧ (∀ y ∈ L.take i, y < x) ∧ (∀ y ∈ L.drop j, ¬ y < x) ∧ Below w.heap.size w wr) (fun a b _ => (intOf b).toNat - (intOf a).toNat)
  case atStart => exact ⟨0, L.length, Nat.zero_le _, Nat.le_refl _, rfl, rfl, fun y hy => by simp at hy, fun y hy => by simp at hy, Below.refl _ _⟩
  case round =>
    obtain ⟨i, j, hij, hj, rfl, rfl, hlow, hhigh, hb⟩ := hrel
    obtain ⟨w2, rfl⟩ : ∃ w2, w2 = wr := ⟨_, rfl⟩
    have HB := Lib.hid hb
    have HLO := Lib.hid hlow
    have HHI := Lib.hid hhigh
    clear hb hlow hhigh
    by_cases hlt : i < j
    · have tij : (i : Int) < (j : Int) := by omega
      obtain ⟨h, hh⟩ : ∃ h : Nat, (i + j) / 2 = h := ⟨_, rfl⟩
      obtain ⟨y, hy⟩ : ∃ y, L[h]? = some y := ⟨_, List.getElem?_eq_getElem (by omega)⟩
      obtain ⟨b, q, rfl, hb1, x0, xf⟩ := at_Int (good_IntS.below HV.out (Nat.le_refl _) HB.out) hy
      have h1 : h < L.length := by omega
      have th : (h : Int) < (L.length : Int) := by omega
      have HY := Lib.hid hy
      clear hy
      go_wp2_with fail
      have h1' : i ≤ h ∧ h < j := by omega
      have HH := Lib.hid hh
      by_cases hc : y < x
      · refine (cmpI_at y x _ (show cmpI y x = -1 by unfold cmpI; rw [if_pos hc])).mono ?_
        rintro e w3 ⟨rfl, rfl⟩
        have HN := Lib.hid (asc_below HA.out HY.out (Int.le_refl y))
        clear HV HA x0 hb1 hh
        go_wp2
        go_roundw
        case rel => exact ⟨h + 1, j, by omega, hj, by have := HH.out; go_num, rfl, fun z hz => by have := HN.out z hz; omega, fun z hz => by have := HHI.out z hz; omega, HB.out⟩
        case measure => have := HH.out; simp [intOf] <;> omega
      · obtain ⟨r, hr⟩ : ∃ r, cmpI y x = r := ⟨_, rfl⟩
        have hr0 : ¬ r < 0 := by rw [← hr]; unfold cmpI; rw [if_neg hc]; split <;> decide
        have hr1 : 0 ≤ r := by omega
        refine (cmpI_at y x _ hr).mono ?_
        rintro e w3 ⟨rfl, rfl⟩
        have HN := Lib.hid (asc_above HA.out HY.out (Int.le_refl y))
        clear HV HA x0 hb1 hh hr
        go_wp2
        go_roundw
        case rel => exact ⟨i, h, by omega, by omega, rfl, by have := HH.out; go_num, HLO.out, fun z hz => by have := HN.out z hz; omega, HB.out⟩
        case measure => have := HH.out; simp [intOf] <;> omega
    · obtain rfl : i = j := by omega
      have HP := Lib.hid (show PlaceI (· < ·) L x i from ⟨hj, HLO.out, HHI.out⟩)
      have tij : ¬ (i : Int) < (i : Int) := by omega
      by_cases hl : i < L.length
      · have tl : (i : Int) < (L.length : Int) := by omega
        obtain ⟨y, hy⟩ : ∃ y, L[i]? = some y := ⟨_, List.getElem?_eq_getElem hl⟩
        obtain ⟨b, q, rfl, hb1, x0, xf⟩ := at_Int (good_IntS.below HV.out (Nat.le_refl _) HB.out) hy
        have HM := Lib.hid (place_mem HA.out HP.out hy)
        obtain ⟨r, hr⟩ : ∃ r, cmpI y x = r := ⟨_, rfl⟩
        have HR := Lib.hid (show decide (r = 0) = decide (x ∈ L) by rw [← hr]; exact decide_eq_decide.2 ((cmpI_zero y x).trans HM.out.symm))
        have HRR := Lib.hid hr
        clear hr hy hlt
        go_wp2_with fail
        refine (cmpI_at y x _ HRR.out).mono ?_
        rintro e w3 ⟨rfl, rfl⟩
        clear HV x0 hb1 HRR
        go_wp2
        go_ret2
        refine ⟨i, ?_, HP.out, HB.out⟩
        rw [← HR.out]
        rfl
      · have tl : ¬ (i : Int) < (L.length : Int) := by omega
        have HM := Lib.hid (show decide (x ∈ L) = false from decide_eq_false fun hm => by
          have := HP.out.low x (by rw [List.take_of_length_le (by omega)]; exact hm)
          omega)
        clear HV hlt
        go_wp2
        go_ret2
        refine ⟨i, ?_, HP.out, HB.out⟩
        rw [HM.out]
        rfl
end Go.Proofs.Ytiejilmgchmppaa
