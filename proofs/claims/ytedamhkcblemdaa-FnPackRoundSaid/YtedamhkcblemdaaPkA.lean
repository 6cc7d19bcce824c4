/-
  Widths, both sides.
-/
import Derived.Test.YtedamhkcblemdaaPkM
import Derived.Test.YtedamhkcblemdaaAnyT
import Derived.Test.YtedamhkcblemdaaNrA
import Derived.Deep.RegionHeld3
namespace Go.Proofs.Ytedamhkcblemdaa
open Go.RowKit
set_option linter.unusedVariables false
set_option linter.unusedSimpArgs false

theorem wrapQ (W M : Nat) (hW : W ≤ 4) (hM : M + 1 = 2 ^ W) : IntKind.i64.wrap ((2 : Int) ^ W) = (M : Int) + 1 ∧ wrap64 ((2 : Int) ^ W) = (M : Int) + 1 := by
  have h16 := p16 W hW
  rw [pc, ← hM]
  constructor
  · rw [wrap64_small _ (by omega)]; omega
  · unfold wrap64; omega
theorem maskQ (W : Nat) : ∃ M : Nat, M + 1 = 2 ^ W := ⟨2 ^ W - 1, by have := p1 W; omega⟩
theorem and_lowI (n : Int) (W M : Nat) (hW : W ≤ 4) (hM : M + 1 = 2 ^ W) : bits .and .i64 n (M : Int) = lowI n W := and_low n W M (by omega) hM
theorem implLow_at (n : Int) (W : Nat) (hW : W ≤ 4) {r : Int} (w : World) (hr : lowI n W = r) : Calls Try.prog 45 #[.int .i64 n, .int .i64 (W : Int)] w fun e w' => e = .returned (.int .i64 r) ∧ w = w' := by
  obtain ⟨M, hM⟩ := maskQ W
  have h16 := p16 W hW
  have e1 := (wrapQ W M hW hM).1
  have e3 := (wrapQ W M hW hM).2
  have ev := and_lowI n W M hW hM
  rw [hr] at ev
  have hM15 : M ≤ 15 := by omega
  clear hM hr
  go_enter Try.func45, Try.ntmps45
  go_wp2
  go_ret
  exact ⟨rfl, rfl⟩
theorem badW_at (x : Int) {r : Bool} (w : World) (hr : badW x = r) : Calls Try.prog 99 #[.int .i64 x] w fun e w' => e = .returned (.bool r) ∧ Below w.heap.size w w' := by
  have HR := Lib.hid hr
  clear hr
  by_cases h0 : x < 1
  · have hv : r = true := by rw [← HR.out]; exact decide_eq_true (.inl h0)
    go_enter Try.func99, Try.ntmps99
    go_wp2
    go_ret
    exact ⟨by first | rfl | exact ret_bool hv.symm, by (repeat' (first | assumption | exact Below.refl _ _ | refine bDrewN ?_ _ | refine Below.drew ?_ | refine bAlloc ?_ (Nat.le_refl _) _ | refine bSet ?_ (by first | exact Nat.le_refl _ | omega | (simp <;> omega)) _))⟩
  · by_cases h1 : 4 < x
    · have hv : r = true := by rw [← HR.out]; exact decide_eq_true (.inr h1)
      go_enter Try.func99, Try.ntmps99
      go_wp2
      go_ret
      exact ⟨by first | rfl | exact ret_bool hv.symm, by (repeat' (first | assumption | exact Below.refl _ _ | refine bDrewN ?_ _ | refine Below.drew ?_ | refine bAlloc ?_ (Nat.le_refl _) _ | refine bSet ?_ (by first | exact Nat.le_refl _ | omega | (simp <;> omega)) _))⟩
    · have hv : r = false := by rw [← HR.out]; exact decide_eq_false (by omega)
      go_enter Try.func99, Try.ntmps99
      go_wp2
      go_ret
      exact ⟨by first | rfl | exact ret_bool hv.symm, by (repeat' (first | assumption | exact Below.refl _ _ | refine bDrewN ?_ _ | refine Below.drew ?_ | refine bAlloc ?_ (Nat.le_refl _) _ | refine bSet ?_ (by first | exact Nat.le_refl _ | omega | (simp <;> omega)) _))⟩

set_option maxHeartbeats 3200000 in
theorem badW_index (L : List Int) (v : Value)  {B T : Nat} (w : World) (hv : rdIntS B T w [v] L) (hT : T ≤ w.heap.size)  :
    Calls Try.prog 130 #[v, .func (.func 99) #[] #[]] w fun e w' => (∃ r : Int, e = .returned (.int .i64 r) ∧ decide (0 ≤ r) = L.any badW) ∧ Below w.heap.size w w' := by
  obtain ⟨vA, vc, rfl, vm, -⟩ := slice_of hv
  have HV := Lib.hid hv
  clear hv
  go_enter Try.func130, Try.ntmps130
  go_wp2
  go_loopw [8] (fun x wr => ∃ i : Nat, i ≤ L.length ∧ x = .int .i64 i ∧ AnyT badW L i = false ∧ Below w.heap.size w wr) (fun x _ => L.length - (intOf x).toNat)
  case atStart => exact ⟨0, Nat.zero_le _, rfl, by simp [AnyT], Below.refl _ _⟩
  case round =>
    obtain ⟨i, hi, rfl, hno, hb⟩ := hrel
    have HN := Lib.hid hno
    have HB := Lib.hid hb
    clear hno hb
    by_cases hlt : i < L.length
    · obtain ⟨x, hx⟩ : ∃ x, L[i]? = some x := ⟨_, List.getElem?_eq_getElem hlt⟩
      have HX := Lib.hid hx
      obtain ⟨xb, xq, rfl, xlt, xc0, xf0⟩ := at_Int (good_IntS.below HV.out hT HB.out) hx
      have xlt2 := Nat.lt_of_lt_of_le xlt (Nat.le_trans hT HB.out.size)
      obtain ⟨q, hq⟩ : ∃ q, badW x = q := ⟨_, rfl⟩
      have HQ := Lib.hid hq
      clear hx hq xlt
      go_wp2_with fail
      refine (badW_at x _ HQ.out).mono ?_
      rintro e w1 ⟨rfl, hb1⟩
      have HB1 := Lib.hid (bThen HB.out hb1)
      clear hb1
      cases q with
      | true =>
        have HE := Lib.hid (any_hit HX.out HQ.out)
        go_wp2
        go_ret
        exact ⟨⟨_, rfl, by rw [HE.out]; simp⟩, HB1.out⟩
      | false =>
        have HS := Lib.hid (any_step HX.out HQ.out HN.out)
        go_wp2
        go_roundw
        case rel => exact ⟨i + 1, by omega, by go_num, HS.out, HB1.out⟩
        case measure => simp [intOf]; omega
    · obtain rfl : i = L.length := by omega
      have HE := Lib.hid (any_end HN.out)
      go_wp2
      go_ret
      exact ⟨⟨_, rfl, by rw [HE.out]; rfl⟩, HB.out⟩
theorem badW_contains (L : List Int) (v : Value)  {B T : Nat} {r : Bool} (w : World) (hv : rdIntS B T w [v] L) (hT : T ≤ w.heap.size)  (hr : L.any badW = r) :
    Calls Try.prog 100 #[v, .func (.func 99) #[] #[]] w fun e w' => e = .returned (.bool r) ∧ Below w.heap.size w w' := by
  have HR := Lib.hid hr
  have HV := Lib.hid hv
  clear hr hv
  go_enter Try.func100, Try.ntmps100
  go_wp2_with fail
  refine (badW_index L v  _ HV.out hT ).mono ?_
  rintro e w1 ⟨⟨q, rfl, hq⟩, hb⟩
  have HQ := Lib.hid (hq.trans HR.out)
  clear hq
  go_wp2
  go_ret
  exact ⟨ret_bool HQ.out, hb⟩

set_option maxHeartbeats 1600000 in
theorem sumW_at (W : List Int) (v : Value) {B T : Nat} {s : Int} (w : World) (h : rdIntS B T w [v] W) (hl : W.length ≤ 1048576) (hw : W.any badW = false) (hs : (plc W W.length : Int) = s) :
    Calls Try.prog 101 #[v] w fun e w' => e = .returned (.int .i64 s) ∧ w = w' := by
  obtain ⟨vA, vc, rfl, -, -⟩ := slice_of h
  have HV := Lib.hid h
  have HN := Lib.hid hw
  have HSS := Lib.hid hs
  clear h hw hs
  go_enter Try.func101, Try.ntmps101
  go_wp2
  go_loop [3, 8] (fun n i => ∃ k : Nat, k ≤ W.length ∧ i = .int .i64 k ∧ n = .int .i64 (plc W k : Int)) (fun _ i => W.length - (intOf i).toNat)
  case atStart => exact ⟨0, Nat.zero_le _, rfl, rfl⟩
  case round =>
    obtain ⟨k, hk, rfl, rfl⟩ := hrel
    have hb := (plc_len HN.out hk).2
    by_cases hlt : k < W.length
    · obtain ⟨x, hx⟩ : ∃ x, W[k]? = some x := ⟨_, List.getElem?_eq_getElem hlt⟩
      have hx4 := wd_in HN.out hx
      obtain ⟨xb, xq, rfl, -, x0, -⟩ := at_Int HV.out hx
      obtain ⟨p, hp⟩ : ∃ p, plc W k = p := ⟨_, rfl⟩
      have HX := Lib.hid (show plc W (k + 1) = p + x.toNat by rw [plc_step hx, hp])
      rw [hp] at hb ⊢
      clear hx hp
      go_wp2
      go_round
      case rel => exact ⟨k + 1, by omega, by go_num, by rw [HX.out, Int.natCast_add, Int.toNat_of_nonneg (by omega)]⟩
      case measure => simp [intOf]; omega
    · obtain rfl : k = W.length := by omega
      clear hb
      go_wp2
      go_ret
      exact ⟨ret_i64 HSS.out, rfl⟩
theorem widB_any {W : List Int} (h : W.any badW = true) : widB W = false := by unfold widB; rw [h]; rfl
theorem widB_sum {W : List Int} (h : W.any badW = false) : widB W = decide (plc W W.length ≤ 20) := by unfold widB; rw [h]; rfl

set_option maxRecDepth 100000 in
set_option maxHeartbeats 1600000 in
theorem implWid_at (W : List Int) (v : Value) {r : Bool} (w : World) (h : rdIntS 0 w.heap.size w [v] W) (hl : W.length ≤ 1048576) (hr : widB W = r) :
    Calls Try.prog 44 #[v] w fun e w' => e = .returned (.bool r) ∧ Below w.heap.size w w' := by
  have HV := Lib.hid h
  have HR := Lib.hid hr
  obtain ⟨q, hq⟩ : ∃ q, W.any badW = q := ⟨_, rfl⟩
  have HQ := Lib.hid hq
  clear h hr hq
  go_enter Try.func44, Try.ntmps44
  go_wp2_with fail
  refine (badW_contains W v _ HV.out (Nat.le_refl _) HQ.out).mono ?_
  rintro e w1 ⟨rfl, hb⟩
  have HB := Lib.hid hb
  clear hb
  cases q with
  | true =>
    have hv := Lib.hid ((widB_any HQ.out).symm.trans HR.out)
    go_wp2
    go_ret
    exact ⟨ret_bool hv.out, HB.out⟩
  | false =>
    obtain ⟨s, hs⟩ : ∃ s : Int, (plc W W.length : Int) = s := ⟨_, rfl⟩
    have HS := Lib.hid hs
    have hv := (widB_sum HQ.out).symm.trans HR.out
    go_wp2_with fail
    refine (sumW_at W v _ (rdUp good_IntS HV.out HB.out) hl HQ.out HS.out).mono ?_
    rintro e w2 ⟨rfl, rfl⟩
    have HH := Lib.hid (show decide (s ≤ 20) = r by rw [← hv, ← HS.out]; exact decide_eq_decide.2 (by omega))
    clear hs hv
    go_wp2
    go_ret
    exact ⟨ret_bool HH.out, HB.out⟩
set_option maxRecDepth 100000 in
set_option maxHeartbeats 1600000 in
theorem specWid_at (W : List Int) (v : Value) {r : Bool} (w : World) (h : rdIntS 0 w.heap.size w [v] W) (hr : widB W = r) :
    Calls Try.prog 43 #[v] w fun e w' => e = .returned (.bool r) ∧ Below w.heap.size w w' := by
  obtain ⟨vA, vc, rfl, vl, -⟩ := slice_of h
  have HV := Lib.hid h
  have HR := Lib.hid hr
  clear h hr
  go_enter Try.func43, Try.ntmps43
  go_wp2
  go_loopw [3, 4] (fun n i wr => ∃ k : Nat, k ≤ W.length ∧ i = .int .i64 k ∧ n = .int .i64 (plc W k : Int) ∧ AnyT badW W k = false ∧ plc W k ≤ 20 ∧ Below w.heap.size w wr) (fun _ i _ => W.length - (intOf i).toNat)
  case atStart => exact ⟨0, Nat.zero_le _, rfl, rfl, by simp [AnyT], by unfold plc; omega, Below.refl _ _⟩
  case round =>
    obtain ⟨k, hk, rfl, rfl, ha, hp20, hb⟩ := hrel
    have HA := Lib.hid ha
    have HB := Lib.hid hb
    clear ha hb
    by_cases hlt : k < W.length
    · obtain ⟨x, hx⟩ : ∃ x, W[k]? = some x := ⟨_, List.getElem?_eq_getElem hlt⟩
      have HX := Lib.hid hx
      obtain ⟨xb, xq, rfl, -, x0, -⟩ := at_Int (rdUp good_IntS HV.out HB.out) hx
      obtain ⟨p, hp⟩ : ∃ p, plc W k = p := ⟨_, rfl⟩
      have HP := Lib.hid (show plc W (k + 1) = p + x.toNat by rw [plc_step hx, hp])
      rw [hp] at hp20 ⊢
      obtain ⟨q, hq⟩ : ∃ q, decide (1 ≤ x ∧ x ≤ 4) = q := ⟨_, rfl⟩
      have HQ := Lib.hid hq
      have hk1 : k + 1 ≤ W.length := hlt
      clear hx hp hq
      go_wp2_with fail
      refine (specIn_at x 1 4 _ HQ.out).mono ?_
      rintro e w3 ⟨rfl, hb⟩
      replace HB := Lib.hid (bThen HB.out hb)
      have x1 := keep hb x0
      clear hb x0
      cases q with
      | false =>
        have hv := Lib.hid ((widB_any (any_hit HX.out (by have := of_decide_eq_false HQ.out; exact decide_eq_true (by omega)))).symm.trans HR.out)
        go_wp2
        go_ret
        exact ⟨ret_bool hv.out, HB.out⟩
      | true =>
        have hx4 : 1 ≤ x ∧ x ≤ 4 := of_decide_eq_true HQ.out
        have hxa := hx4.1
        have hxb := hx4.2
        have HN := Lib.hid (any_step HX.out (show badW x = false from decide_eq_false (by omega)) HA.out)
        by_cases h20 : 20 < (p : Int) + x
        · have hv := Lib.hid (show false = r by
            refine Eq.trans ?_ HR.out
            obtain ⟨b, hb⟩ : ∃ b, W.any badW = b := ⟨_, rfl⟩
            cases b with
            | true => exact (widB_any hb).symm
            | false =>
              rw [widB_sum hb]
              have h1 := plc_mono W hk1
              rw [HP.out] at h1
              exact (decide_eq_false (by omega)).symm)
          go_wp2
          go_ret
          exact ⟨ret_bool hv.out, HB.out⟩
        · go_wp2
          go_roundw
          case rel => exact ⟨k + 1, hk1, by go_num, by rw [HP.out, Int.natCast_add, Int.toNat_of_nonneg (by omega)], HN.out, by rw [HP.out]; omega, HB.out⟩
          case measure => simp [intOf]; omega
    · obtain rfl : k = W.length := by omega
      have hv := Lib.hid (show true = r by rw [← HR.out, widB_sum (any_end HA.out)]; exact (decide_eq_true hp20).symm)
      go_wp2
      go_ret
      exact ⟨ret_bool hv.out, HB.out⟩
end Go.Proofs.Ytedamhkcblemdaa
