/-
  The walk of FnPackRound.
-/
import Derived.Test.YtedamhkcblemdaaPkD
import Derived.Deep.RegionHeld3
namespace Go.Proofs.Ytedamhkcblemdaa
open Go.RowKit
set_option linter.unusedVariables false
set_option linter.unusedSimpArgs false

theorem rd_oneI {w : World} {b : Nat} {x : Int} (hb : b < w.heap.size) (hc : w.cell? ⟨b, 0, none⟩ = some (.int .i64 x)) (hf : Fit x) : rdIntS 0 w.heap.size w [.slice (some ⟨b, 0, none⟩) 1 1] [x] := by
  refine ⟨_, _, rfl, by unfold maxLen; simp, fun j hj => ?_⟩
  have hj0 : j = 0 := by simp only [List.length_cons, List.length_nil] at hj; omega
  subst hj0
  refine ⟨b, 0, rfl, Nat.zero_le _, hb, [.int .i64 x], rfl, fun i u hu => ?_, rfl, hf⟩
  match i, hu with
  | 0, hu =>
    injection hu with hu
    subst hu
    exact hc
set_option maxRecDepth 100000 in
set_option maxHeartbeats 12800000 in
theorem packRound_walk (a : Option Addr) (len cap : Nat) (zs : List Int) (w : World) (hw : IsRow .u8 w a len cap zs) :
    Calls Try.prog 3 #[.slice a len cap] w fun e w' => e = .returned (.bool true) ∧ Below w.heap.size w w' := by
  have HCD := Lib.hid hw.codeW
  clear hw
  by_cases hbig : 1048576 < (len : Int)
  · go_enter Try.func3, Try.ntmps3
    go_wp2_with fail
    refine (big_any a len cap _).mono ?_
    rw [decide_eq_true (by omega)]
    rintro e w1 ⟨rfl, rfl⟩
    go_wp2
    go_ret
    exact ⟨rfl, Below.refl _ _⟩
  go_enter Try.func3, Try.ntmps3
  go_wp2_with fail
  refine (big_any a len cap _).mono ?_
  rw [decide_eq_false (by omega)]
  rintro e w1 ⟨rfl, rfl⟩
  go_wp2_with fail
  refine (drawPack_any a len cap _ HCD.out).mono ?_
  rintro e w1 ⟨v1, v2, W, X, rfl, hr1, hr2, hl1, hl2, hb⟩
  obtain ⟨vA, vc, rfl, vl, -⟩ := slice_of hr1
  obtain ⟨uA, uc, rfl, ul, -⟩ := slice_of hr2
  have HV := Lib.hid hr1
  have HU := Lib.hid hr2
  have HB := Lib.hid hb
  obtain ⟨r, hr⟩ : ∃ r, packO W X = r := ⟨_, rfl⟩
  have hfit := packO_fit W X
  rw [hr] at hfit
  have HR := Lib.hid hr
  clear hr1 hr2 hb hr hbig
  go_wp2_with fail
  refine (specPack_at W X _ _ _ HV.out HU.out HR.out).mono ?_
  rintro e w2 ⟨rfl, hb⟩
  replace HV := Lib.hid (rdUp good_IntS HV.out hb)
  replace HU := Lib.hid (rdUp good_IntS HU.out hb)
  replace HB := Lib.hid (bThen HB.out hb)
  clear hb
  go_wp2_with fail
  refine (implPack_at W X _ _ _ HV.out HU.out (by omega) HR.out).mono ?_
  rintro e w3 ⟨rfl, hb⟩
  replace HV := Lib.hid (rdUp good_IntS HV.out hb)
  replace HU := Lib.hid (rdUp good_IntS HU.out hb)
  replace HB := Lib.hid (bThen HB.out hb)
  clear hb
  by_cases hneg : r < 0
  · go_wp2_with fail
    obtain ⟨W0, hV⟩ : ∃ W0, W0 = ((w3.alloc (.cells #[.int .i64 1] 3)).alloc (.cells #[.int .i64 3] 3)) := ⟨_, rfl⟩
    rw [← hV]
    have gN := eqbox2 hV
    have d0 : W0.cell? ⟨w3.heap.size, 0, none⟩ = some (.int .i64 1) := box_cell gN.1 0 _ rfl
    have d1 : W0.cell? ⟨w3.heap.size + 1, 0, none⟩ = some (.int .i64 3) := box_cell gN.2.1 0 _ rfl
    have sW0 : W0.heap.size = w3.heap.size + 2 := by rw [hV]; simp
    have HW0 := Lib.hid gN.2.2
    clear hV gN
    refine (implPack_at [1] [3] _ _ _ (rd_oneI (by omega) d0 (by unfold Fit; omega)) (rd_oneI (by omega) d1 (by unfold Fit; omega)) (by simp) (show packO [1] [3] = 1 by decide)).mono ?_
    rintro e w4 ⟨rfl, hb⟩
    go_wp2
    go_ret
    exact ⟨rfl, bThen (bThen HB.out HW0.out) hb⟩
  have hn : W.length = X.length := by
    refine Decidable.byContradiction fun hc => ?_
    have := (packO_no (fun c => hc c.1)).symm.trans HR.out
    omega
  have hq : widB W = true := by
    refine Decidable.byContradiction fun hc => ?_
    have := (packO_no (fun c => hc c.2)).symm.trans HR.out
    omega
  obtain ⟨hU, hAt, hAg⟩ := pack_round hn hq HR.out
  obtain ⟨L, hL⟩ : ∃ L, unpO W r = L := ⟨_, rfl⟩
  have hLL : L.length = W.length := by rw [← hL, hU, unpI_len]
  have hin := (unpO_in W r).2
  rw [hL] at hAt hAg hin
  have HL := Lib.hid hL
  have HAT := Lib.hid hAt
  have HAG := Lib.hid hAg
  have HIN := Lib.hid hin
  have HQ := Lib.hid hq
  rw [← hn] at HU ul hl2 ⊢
  have HN := Lib.hid hn
  have HLL := Lib.hid hLL
  clear hU hAt hAg hL hLL hin hq hn
  go_wp2_with fail
  refine (implUnp_at W r _ _ HV.out (by omega) HL.out).mono ?_
  rintro e w4 ⟨v, rfl, ho, hb⟩
  obtain ⟨bA, bc, rfl, -⟩ := ho.shape
  have HK := Lib.hid (ownI_rd ho HIN.out)
  rw [HLL.out] at HK ⊢
  replace HV := Lib.hid (rdUp good_IntS HV.out hb)
  replace HU := Lib.hid (rdUp good_IntS HU.out hb)
  replace HB := Lib.hid (bThen HB.out hb)
  clear hb ho
  go_wp2
  go_loopw [8] (fun i wr => ∃ k : Nat, k ≤ W.length ∧ i = .int .i64 k ∧ Below w4.heap.size w4 wr) (fun i _ => W.length - (intOf i).toNat)
  case atStart => exact ⟨0, Nat.zero_le _, rfl, Below.refl _ _⟩
  case round =>
    obtain ⟨k, hk, rfl, hb⟩ := hrel
    obtain ⟨w5, rfl⟩ : ∃ w5, w5 = wr := ⟨_, rfl⟩
    have HB5 := Lib.hid hb
    clear hb
    by_cases hlt : k < W.length
    · obtain ⟨y, hy⟩ : ∃ y, W[k]? = some y := ⟨_, List.getElem?_eq_getElem hlt⟩
      obtain ⟨x, hx⟩ : ∃ x, X[k]? = some x := ⟨_, List.getElem?_eq_getElem (by rw [← HN.out]; exact hlt)⟩
      have hy4 := wd_in (widB_no HQ.out).1 hy
      have hbk := HAT.out k hlt
      rw [wdA_of hy, show X.getD k 0 = x by rw [List.getD_eq_getElem?_getD, hx]; rfl] at hbk
      obtain ⟨yb, yq, rfl, -, y0, -⟩ := at_Int (rdUp good_IntS HV.out HB5.out) hy
      obtain ⟨xb, xq, rfl, -, x0, -⟩ := at_Int (rdUp good_IntS HU.out HB5.out) hx
      obtain ⟨bb, bq, rfl, -, b0, -⟩ := at_Int (rdUp good_IntS HK.out HB5.out) hbk
      obtain ⟨d, rfl⟩ := Int.eq_ofNat_of_zero_le (show 0 ≤ y by omega)
      rw [Int.toNat_natCast] at b0
      have hd4 : d ≤ 4 := by omega
      obtain ⟨t, ht⟩ : ∃ t, lowI x d = t := ⟨_, rfl⟩
      rw [ht] at b0
      obtain ⟨M, hM⟩ := maskQ d
      have e1 := (wrapQ d M hd4 hM).1
      have e3 := (wrapQ d M hd4 hM).2
      have ev := (and_lowI x d M hd4 hM).trans ht
      have hM15 : M ≤ 15 := mask15 hd4 hM
      have HLK := Lib.hid hlt
      clear hM hx hy hbk hy4 ht
      go_wp2_with fail
      have hS0 : (fun w' => Below w5.heap.size w5 w' ∧ w'.cell? ⟨bb, bq + k, none⟩ = some (.int .i64 t) ∧ w'.cell? ⟨xb, xq + k, none⟩ = some (.int .i64 x) ∧ w'.cell? ⟨yb, yq + k, none⟩ = some (.int .i64 (d : Int))) w5 := ⟨Below.refl _ _, b0, x0, y0⟩
      have hS : ∀ {w0 w' : World}, (fun w' => Below w5.heap.size w5 w' ∧ w'.cell? ⟨bb, bq + k, none⟩ = some (.int .i64 t) ∧ w'.cell? ⟨xb, xq + k, none⟩ = some (.int .i64 x) ∧ w'.cell? ⟨yb, yq + k, none⟩ = some (.int .i64 (d : Int))) w0 → Below w0.heap.size w0 w' → (fun w' => Below w5.heap.size w5 w' ∧ w'.cell? ⟨bb, bq + k, none⟩ = some (.int .i64 t) ∧ w'.cell? ⟨xb, xq + k, none⟩ = some (.int .i64 x) ∧ w'.cell? ⟨yb, yq + k, none⟩ = some (.int .i64 (d : Int))) w' := fun h hb => ⟨bThen h.1 hb, keep hb h.2.1, keep hb h.2.2.1, keep hb h.2.2.2⟩
      dsimp only at hS0 hS
      refine wp_region_noPanic ?_
      refine wp_region_kept 15 16 (fun w' => Below w5.heap.size w5 w' ∧ w'.cell? ⟨bb, bq + k, none⟩ = some (.int .i64 t) ∧ w'.cell? ⟨xb, xq + k, none⟩ = some (.int .i64 x) ∧ w'.cell? ⟨yb, yq + k, none⟩ = some (.int .i64 (d : Int))) (by kernel_rfl) rfl (hS hS0 (Below.drew (Below.refl _ _))) (fun hK0 => ?_)
      refine Kept.take (v := ?vp0) 0 (by kernel_rfl) rfl (by kernel_rfl) (fun _ _ _ h => h) (Or.inl ⟨by rfl, ?hyp0⟩) hK0 ?restp0
      case hyp0 =>
        intro w0 hSw
        (try dsimp only at hSw)
        go_simp
        all_goals (with_reducible rfl)
      (try simp only [Act.put, List.setIfInBounds_toArray, List.set_cons_zero, List.set_cons_succ])
      refine Kept.take (v := ?vp1) 1 (by kernel_rfl) rfl (by kernel_rfl) (fun _ _ _ h => h) (Or.inl ⟨by rfl, ?hyp1⟩) hK0 ?restp1
      case hyp1 =>
        intro w0 hSw
        (try dsimp only at hSw)
        go_simp
        all_goals (with_reducible rfl)
      (try simp only [Act.put, List.setIfInBounds_toArray, List.set_cons_zero, List.set_cons_succ])
      refine Kept.take (v := ?vp2) 2 (by kernel_rfl) rfl (by kernel_rfl) (fun _ _ _ h => h) (Or.inl ⟨by rfl, ?hyp2⟩) hK0 ?restp2
      case hyp2 =>
        intro w0 hSw
        (try dsimp only at hSw)
        go_simp
        all_goals (with_reducible rfl)
      (try simp only [Act.put, List.setIfInBounds_toArray, List.set_cons_zero, List.set_cons_succ])
      refine Kept.take (v := ?vp3) 3 (by kernel_rfl) rfl (by kernel_rfl) (fun _ _ _ h => h) (Or.inl ⟨by rfl, ?hyp3⟩) hK0 ?restp3
      case hyp3 =>
        intro w0 hSw
        (try dsimp only at hSw)
        go_simp
        all_goals (with_reducible rfl)
      (try simp only [Act.put, List.setIfInBounds_toArray, List.set_cons_zero, List.set_cons_succ])
      refine Kept.take (v := ?vp4) 4 (by kernel_rfl) rfl (by kernel_rfl) (fun _ _ _ h => h) (Or.inl ⟨by rfl, ?hyp4⟩) hK0 ?restp4
      case hyp4 =>
        intro w0 hSw
        (try dsimp only at hSw)
        go_simp
        all_goals (with_reducible rfl)
      (try simp only [Act.put, List.setIfInBounds_toArray, List.set_cons_zero, List.set_cons_succ])
      refine Kept.take (v := ?vp5) 5 (by kernel_rfl) rfl (by kernel_rfl) (fun _ _ _ h => h) (Or.inl ⟨by rfl, ?hyp5⟩) hK0 ?restp5
      case hyp5 =>
        intro w0 hSw
        (try dsimp only at hSw)
        go_simp
        all_goals (with_reducible rfl)
      (try simp only [Act.put, List.setIfInBounds_toArray, List.set_cons_zero, List.set_cons_succ])
      refine Kept.take (v := ?vp6) 6 (by kernel_rfl) rfl (by kernel_rfl) (fun _ _ _ h => h) (Or.inl ⟨by rfl, ?hyp6⟩) hK0 ?restp6
      case hyp6 =>
        intro w0 hSw
        (try dsimp only at hSw)
        go_simp
        all_goals (with_reducible rfl)
      (try simp only [Act.put, List.setIfInBounds_toArray, List.set_cons_zero, List.set_cons_succ])
      refine Kept.take (v := ?vp7) 7 (by kernel_rfl) rfl (by kernel_rfl) (fun _ _ _ h => h) (Or.inl ⟨by rfl, ?hyp7⟩) hK0 ?restp7
      case hyp7 =>
        intro w0 hSw
        (try dsimp only at hSw)
        go_simp
        all_goals (with_reducible rfl)
      (try simp only [Act.put, List.setIfInBounds_toArray, List.set_cons_zero, List.set_cons_succ])
      refine Kept.take (v := ?vp8) 8 (by kernel_rfl) rfl (by kernel_rfl) (fun _ _ _ h => h) (Or.inl ⟨by rfl, ?hyp8⟩) hK0 ?restp8
      case hyp8 =>
        intro w0 hSw
        (try dsimp only at hSw)
        go_simp
        all_goals (with_reducible rfl)
      (try simp only [Act.put, List.setIfInBounds_toArray, List.set_cons_zero, List.set_cons_succ])
      refine Kept.take (v := ?vp9) 9 (by kernel_rfl) rfl (by kernel_rfl) (fun _ _ _ h => h) (Or.inl ⟨by rfl, ?hyp9⟩) hK0 ?restp9
      case hyp9 =>
        intro w0 hSw
        (try dsimp only at hSw)
        go_simp
        all_goals (with_reducible rfl)
      (try simp only [Act.put, List.setIfInBounds_toArray, List.set_cons_zero, List.set_cons_succ])
      refine Kept.take (v := ?vp10) 10 (by kernel_rfl) rfl (by kernel_rfl) (fun _ _ _ h => h) (Or.inl ⟨by rfl, ?hyp10⟩) hK0 ?restp10
      case hyp10 =>
        intro w0 hSw
        (try dsimp only at hSw)
        go_simp
        all_goals (with_reducible rfl)
      (try simp only [Act.put, List.setIfInBounds_toArray, List.set_cons_zero, List.set_cons_succ])
      refine Kept.take (v := ?vp11) 11 (by kernel_rfl) rfl (by kernel_rfl) (fun _ _ _ h => h) (Or.inl ⟨by rfl, ?hyp11⟩) hK0 ?restp11
      case hyp11 =>
        intro w0 hSw
        (try dsimp only at hSw)
        go_simp
        all_goals (with_reducible rfl)
      (try simp only [Act.put, List.setIfInBounds_toArray, List.set_cons_zero, List.set_cons_succ])
      refine Kept.take (v := ?vp12) 12 (by kernel_rfl) rfl (by kernel_rfl) (fun _ _ _ h => h) (Or.inl ⟨by rfl, ?hyp12⟩) hK0 ?restp12
      case hyp12 =>
        intro w0 hSw
        (try dsimp only at hSw)
        go_simp
        all_goals (with_reducible rfl)
      (try simp only [Act.put, List.setIfInBounds_toArray, List.set_cons_zero, List.set_cons_succ])
      refine Kept.take (v := ?vp13) 13 (by kernel_rfl) rfl (by kernel_rfl) (fun _ _ _ h => h) (Or.inl ⟨by rfl, ?hyp13⟩) hK0 ?restp13
      case hyp13 =>
        intro w0 hSw
        (try dsimp only at hSw)
        go_simp
        all_goals (with_reducible rfl)
      (try simp only [Act.put, List.setIfInBounds_toArray, List.set_cons_zero, List.set_cons_succ])
      refine Kept.take (v := ?vp14) 14 (by kernel_rfl) rfl (by kernel_rfl) (fun _ _ _ h => h) (Or.inl ⟨by rfl, ?hyp14⟩) hK0 ?restp14
      case hyp14 =>
        intro w0 hSw
        (try dsimp only at hSw)
        go_simp
        all_goals (with_reducible rfl)
      (try simp only [Act.put, List.setIfInBounds_toArray, List.set_cons_zero, List.set_cons_succ])
      refine Kept.tail (by rfl) (by kernel_rfl) ?_
      simp only [List.drop_succ_cons, List.drop_zero]
      replace HB5 := Lib.hid (bThen HB5.out hK0.1)
      clear hS hS0 hK0 b0 y0 x0
      go_wp2
      refine NoPanic.normal ?_
      go_wp2
      go_roundw
      case rel => exact ⟨k + 1, HLK.out, by go_num, HB5.out⟩
      case measure => simp [intOf]; omega
    · go_wp2_with fail
      refine (implPack_at W L _ _ _ (rdUp good_IntS HV.out HB5.out) (rdUp good_IntS HK.out HB5.out) (by omega) HAG.out).mono ?_
      rintro e w6 ⟨rfl, hb⟩
      go_wp2
      go_ret
      exact ⟨rfl, bThen (bThen HB.out HB5.out) hb⟩
end Go.Proofs.Ytedamhkcblemdaa
