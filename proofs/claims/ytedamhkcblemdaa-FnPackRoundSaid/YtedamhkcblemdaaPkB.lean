/-
  PackBits and UnpackBits.
-/
import Derived.Test.YtedamhkcblemdaaPkA
import Derived.Test.YtedamhkcblemdaaNrB
import Derived.Deep.RegionHeld3
namespace Go.Proofs.Ytedamhkcblemdaa
open Go.RowKit
set_option linter.unusedVariables false
set_option linter.unusedSimpArgs false
theorem wrap_two {N z : Nat} (hN : N ≤ 1048576) (hz : z ≤ 16777216) : wrap64 ((N : Int) + wrap64 (z : Int)) = ((N + z : Nat) : Int) := by
  have h : wrap64 (z : Int) = (z : Int) := by unfold wrap64; omega
  rw [h]
  unfold wrap64
  omega
theorem mask15 {W M : Nat} (hW : W ≤ 4) (hM : M + 1 = 2 ^ W) : M ≤ 15 := by have := p16 W hW; omega
theorem wrap_one {z : Nat} (hz : z ≤ 16777216) : wrap64 (z : Int) = (z : Int) := by unfold wrap64; omega
set_option maxRecDepth 100000 in
set_option maxHeartbeats 6400000 in
theorem implPack_at (W X : List Int) (v u : Value) {r : Int} (w : World) (h : rdIntS 0 w.heap.size w [v] W) (h2 : rdIntS 0 w.heap.size w [u] X) (hl : W.length ≤ 1048576) (hr : packO W X = r) :
    Calls Try.prog 13 #[v, u] w fun e w' => e = .returned (.int .i64 r) ∧ Below w.heap.size w w' := by
  obtain ⟨vA, vc, rfl, vl, -⟩ := slice_of h
  obtain ⟨uA, uc, rfl, ul, -⟩ := slice_of h2
  have HV := Lib.hid h
  have HU := Lib.hid h2
  have HR := Lib.hid hr
  clear h h2 hr
  by_cases hn : W.length = X.length
  case neg =>
    have hv := (packO_no (fun c => hn c.1)).symm.trans HR.out
    subst hv
    have t1 : ((W.length : Int) == (X.length : Int)) = false := beq_false_of_ne (by omega)
    go_enter Try.func13, Try.ntmps13
    go_wp2
    go_ret
    exact ⟨rfl, by (repeat' (first | assumption | exact Below.refl _ _ | refine bDrewN ?_ _ | refine Below.drew ?_ | refine bAlloc ?_ (Nat.le_refl _) _ | refine bSet ?_ (by first | exact Nat.le_refl _ | omega | (simp <;> omega)) _))⟩
  rw [← hn] at HU ul ⊢
  have HN := Lib.hid hn
  obtain ⟨q, hq⟩ : ∃ q, widB W = q := ⟨_, rfl⟩
  have HQ := Lib.hid hq
  clear hn hq
  go_enter Try.func13, Try.ntmps13
  go_wp2_with fail
  refine (implWid_at W _ _ HV.out hl HQ.out).mono ?_
  rintro e w1 ⟨rfl, hb⟩
  have HB := Lib.hid hb
  clear hb
  cases q with
  | false =>
    have hv := (packO_no (fun c => by rw [HQ.out] at c; cases c.2)).symm.trans HR.out
    subst hv
    go_wp2
    go_ret
    exact ⟨rfl, HB.out⟩
  | true =>
    have HV2 := Lib.hid ((packO_yes HN.out HQ.out).symm.trans HR.out)
    go_wp2
    go_loopw [5, 6, 21] (fun b p i wr => ∃ k : Nat, k ≤ W.length ∧ i = .int .i64 k ∧ b = .int .i64 (packN W X k : Int) ∧ p = .int .i64 (plc W k : Int) ∧ Below w.heap.size w wr) (fun _ _ i _ => W.length - (intOf i).toNat)
    case atStart => exact ⟨0, Nat.zero_le _, rfl, rfl, rfl, HB.out⟩
    case round =>
      obtain ⟨k, hk, rfl, rfl, rfl, hb⟩ := hrel
      obtain ⟨w3, rfl⟩ : ∃ w3, w3 = wr := ⟨_, rfl⟩
      have HB3 := Lib.hid hb
      have hp20 := plc_20 HQ.out hk
      have hN2 := packN_lt W X k
      clear hb
      by_cases hlt : k < W.length
      · obtain ⟨y, hy⟩ : ∃ y, W[k]? = some y := ⟨_, List.getElem?_eq_getElem hlt⟩
        obtain ⟨x, hx⟩ : ∃ x, X[k]? = some x := ⟨_, List.getElem?_eq_getElem (by rw [← HN.out]; exact hlt)⟩
        have hy4 := wd_in (widB_no HQ.out).1 hy
        obtain ⟨yb, yq, rfl, -, y0, -⟩ := at_Int (rdUp good_IntS HV.out HB3.out) hy
        obtain ⟨xb, xq, eX, -, x0, -⟩ := at_Int (rdUp good_IntS HU.out HB3.out) hx
        subst eX
        obtain ⟨d, rfl⟩ := Int.eq_ofNat_of_zero_le (show 0 ≤ y by omega)
        have hd4 : d ≤ 4 := by omega
        obtain ⟨t, ht, ht2, htn⟩ := low_nat x d
        have h16 := p16 d hd4
        obtain ⟨p, hp⟩ : ∃ p, plc W k = p := ⟨_, rfl⟩
        obtain ⟨N, hN⟩ : ∃ N, packN W X k = N := ⟨_, rfl⟩
        obtain ⟨z, hz⟩ : ∃ z, t * 2 ^ p = z := ⟨_, rfl⟩
        rw [hp] at hp20 hN2
        rw [hN] at hN2
        have h20 := p20 p hp20
        have hz20 : z ≤ 16777216 := by
          rw [← hz]
          exact Nat.mul_le_mul (Nat.le_trans (Nat.le_of_lt ht2) h16) h20
        have HO := Lib.hid (show bits .or .i64 (N : Int) (z : Int) = ((N + z : Nat) : Int) by rw [i64_or _ _ (by omega) (by omega), ← hz, or_shift hN2])
        have HS := Lib.hid (show packN W X (k + 1) = N + z by rw [packN_step hy hx, hN, Int.toNat_natCast, htn, hp, hz])
        have HP := Lib.hid (show plc W (k + 1) = p + d by rw [plc_step hy, hp, Int.toNat_natCast])
        have HT := Lib.hid ht
        have HZ := Lib.hid (show (t : Int) * 2 ^ p = (z : Int) by rw [pc, ← Int.natCast_mul, hz])
        have hN20 : N ≤ 1048576 := Nat.le_of_lt (Nat.lt_of_lt_of_le hN2 h20)
        rw [hp, hN]
        have HLK := Lib.hid hlt
        clear hx hy hp hN hz ht htn hN2 h16 h20 hy4
        go_wp2_with fail
        refine (implLow_at x d hd4 _ HT.out).mono ?_
        rintro e w4 ⟨rfl, rfl⟩
        have hm : min p 64 = p := by omega
        have hz0 : wrap64 (z : Int) = (z : Int) := wrap_one hz20
        have HWZ := Lib.hid (And.intro hm hz0)
        clear hm hz0
        go_wp2
        go_roundw
        case rel => exact ⟨k + 1, HLK.out, by go_num, by rw [HS.out]; exact (by rw [HZ.out, HWZ.out.2, HO.out]), by rw [HP.out]; go_num, HB3.out⟩
        case measure => simp [intOf]; omega
      · obtain rfl : k = W.length := by omega
        clear hN2 hp20
        go_wp2
        go_ret
        exact ⟨ret_i64 HV2.out, HB3.out⟩
set_option maxRecDepth 100000 in
set_option maxHeartbeats 6400000 in
theorem specPack_at (W X : List Int) (v u : Value) {r : Int} (w : World) (h : rdIntS 0 w.heap.size w [v] W) (h2 : rdIntS 0 w.heap.size w [u] X) (hr : packO W X = r) :
    Calls Try.prog 12 #[v, u] w fun e w' => e = .returned (.int .i64 r) ∧ Below w.heap.size w w' := by
  obtain ⟨vA, vc, rfl, vl, -⟩ := slice_of h
  obtain ⟨uA, uc, rfl, ul, -⟩ := slice_of h2
  have HV := Lib.hid h
  have HU := Lib.hid h2
  have HR := Lib.hid hr
  clear h h2 hr
  by_cases hn : W.length = X.length
  case neg =>
    have hv := (packO_no (fun c => hn c.1)).symm.trans HR.out
    subst hv
    have t1 : ((W.length : Int) == (X.length : Int)) = false := beq_false_of_ne (by omega)
    go_enter Try.func12, Try.ntmps12
    go_wp2
    go_ret
    exact ⟨rfl, by (repeat' (first | assumption | exact Below.refl _ _ | refine bDrewN ?_ _ | refine Below.drew ?_ | refine bAlloc ?_ (Nat.le_refl _) _ | refine bSet ?_ (by first | exact Nat.le_refl _ | omega | (simp <;> omega)) _))⟩
  rw [← hn] at HU ul ⊢
  have HN := Lib.hid hn
  obtain ⟨q, hq⟩ : ∃ q, widB W = q := ⟨_, rfl⟩
  have HQ := Lib.hid hq
  clear hn hq
  go_enter Try.func12, Try.ntmps12
  go_wp2_with fail
  refine (specWid_at W _ _ HV.out HQ.out).mono ?_
  rintro e w1 ⟨rfl, hb⟩
  have HB := Lib.hid hb
  clear hb
  cases q with
  | false =>
    have hv := (packO_no (fun c => by rw [HQ.out] at c; cases c.2)).symm.trans HR.out
    subst hv
    go_wp2
    go_ret
    exact ⟨rfl, HB.out⟩
  | true =>
    have HV2 := Lib.hid ((packO_yes HN.out HQ.out).symm.trans HR.out)
    go_wp2
    go_loopw [5, 6, 7] (fun b p i wr => ∃ k : Nat, k ≤ W.length ∧ i = .int .i64 k ∧ b = .int .i64 (packN W X k : Int) ∧ p = .int .i64 (plc W k : Int) ∧ Below w.heap.size w wr) (fun _ _ i _ => W.length - (intOf i).toNat)
    case atStart => exact ⟨0, Nat.zero_le _, rfl, rfl, rfl, HB.out⟩
    case round =>
      obtain ⟨k, hk, rfl, rfl, rfl, hb⟩ := hrel
      obtain ⟨w3, rfl⟩ : ∃ w3, w3 = wr := ⟨_, rfl⟩
      have HB3 := Lib.hid hb
      have hp20 := plc_20 HQ.out hk
      have hN2 := packN_lt W X k
      clear hb
      by_cases hlt : k < W.length
      · obtain ⟨y, hy⟩ : ∃ y, W[k]? = some y := ⟨_, List.getElem?_eq_getElem hlt⟩
        obtain ⟨x, hx⟩ : ∃ x, X[k]? = some x := ⟨_, List.getElem?_eq_getElem (by rw [← HN.out]; exact hlt)⟩
        have hy4 := wd_in (widB_no HQ.out).1 hy
        obtain ⟨yb, yq, rfl, -, y0, -⟩ := at_Int (rdUp good_IntS HV.out HB3.out) hy
        obtain ⟨xb, xq, eX, -, x0, -⟩ := at_Int (rdUp good_IntS HU.out HB3.out) hx
        subst eX
        obtain ⟨d, rfl⟩ := Int.eq_ofNat_of_zero_le (show 0 ≤ y by omega)
        have hd4 : d ≤ 4 := by omega
        obtain ⟨t, ht, ht2, htn⟩ := low_nat x d
        have h16 := p16 d hd4
        obtain ⟨p, hp⟩ : ∃ p, plc W k = p := ⟨_, rfl⟩
        obtain ⟨N, hN⟩ : ∃ N, packN W X k = N := ⟨_, rfl⟩
        obtain ⟨z, hz⟩ : ∃ z, t * 2 ^ p = z := ⟨_, rfl⟩
        rw [hp] at hp20 hN2
        rw [hN] at hN2
        have h20 := p20 p hp20
        have hz20 : z ≤ 16777216 := by
          rw [← hz]
          exact Nat.mul_le_mul (Nat.le_trans (Nat.le_of_lt ht2) h16) h20
        have HO := Lib.hid (show bits .or .i64 (N : Int) (z : Int) = ((N + z : Nat) : Int) by rw [i64_or _ _ (by omega) (by omega), ← hz, or_shift hN2])
        have HS := Lib.hid (show packN W X (k + 1) = N + z by rw [packN_step hy hx, hN, Int.toNat_natCast, htn, hp, hz])
        have HP := Lib.hid (show plc W (k + 1) = p + d by rw [plc_step hy, hp, Int.toNat_natCast])
        have HT := Lib.hid ht
        have HZ := Lib.hid (show (t : Int) * 2 ^ p = (z : Int) by rw [pc, ← Int.natCast_mul, hz])
        have hN20 : N ≤ 1048576 := Nat.le_of_lt (Nat.lt_of_lt_of_le hN2 h20)
        rw [hp, hN]
        have HLK := Lib.hid hlt
        clear hx hy hp hN hz ht htn hN2 h16 h20 hy4
        obtain ⟨M, hM⟩ := maskQ d
        have h16 := p16 d hd4
        have e1 := (wrapQ d M hd4 hM).1
        have e3 := (wrapQ d M hd4 hM).2
        have ev := (and_lowI x d M hd4 hM).trans HT.out
        have HEV := Lib.hid ev
        have eS : (t : Int) * 2 ^ min (p : Int).toNat 64 = (z : Int) := by rw [show min (p : Int).toNat 64 = p by omega]; exact HZ.out
        have hM15 : M ≤ 15 := mask15 hd4 hM
        clear hM h16
        go_wp2_with fail
        have hS0 : (fun w' => Below w3.heap.size w3 w' ∧ w'.cell? ⟨yb, yq + k, none⟩ = some (.int .i64 (d : Int)) ∧ w'.cell? ⟨xb, xq + k, none⟩ = some (.int .i64 x)) w3 := ⟨Below.refl _ _, y0, x0⟩
        have hS : ∀ {w0 w' : World}, (fun w' => Below w3.heap.size w3 w' ∧ w'.cell? ⟨yb, yq + k, none⟩ = some (.int .i64 (d : Int)) ∧ w'.cell? ⟨xb, xq + k, none⟩ = some (.int .i64 x)) w0 → Below w0.heap.size w0 w' → (fun w' => Below w3.heap.size w3 w' ∧ w'.cell? ⟨yb, yq + k, none⟩ = some (.int .i64 (d : Int)) ∧ w'.cell? ⟨xb, xq + k, none⟩ = some (.int .i64 x)) w' := fun h hb => ⟨bThen h.1 hb, keep hb h.2.1, keep hb h.2.2⟩
        dsimp only at hS0 hS
        refine wp_region_noPanic ?_
        refine wp_region_kept 14 16 (fun w' => Below w3.heap.size w3 w' ∧ w'.cell? ⟨yb, yq + k, none⟩ = some (.int .i64 (d : Int)) ∧ w'.cell? ⟨xb, xq + k, none⟩ = some (.int .i64 x)) (by kernel_rfl) rfl (hS hS0 (Below.drew (Below.refl _ _))) (fun hK0 => ?_)
        refine Kept.take (v := ?vp0) 0 (by kernel_rfl) rfl (by kernel_rfl) (fun _ _ _ h => h) (Or.inl ⟨by rfl, ?hyp0⟩) hK0 ?restp0
        case hyp0 =>
          intro w0 hSw
          (try dsimp only at hSw)
          go_simp
          all_goals (with_reducible rfl)
        (try simp only [Act.put, List.setIfInBounds_toArray, List.set_cons_zero, List.set_cons_succ])
        refine Kept.take (v := ?vp1) 1 (by kernel_rfl) rfl (by kernel_rfl) (fun _ _ _ h => h) (Or.inl ⟨by rfl, ?hyp1⟩) hK0 ?restp1
        case hyp1 =>
          intro w0 hSw
          (try dsimp only at hSw)
          go_simp
          all_goals (with_reducible rfl)
        (try simp only [Act.put, List.setIfInBounds_toArray, List.set_cons_zero, List.set_cons_succ])
        refine Kept.take (v := ?vp2) 2 (by kernel_rfl) rfl (by kernel_rfl) (fun _ _ _ h => h) (Or.inl ⟨by rfl, ?hyp2⟩) hK0 ?restp2
        case hyp2 =>
          intro w0 hSw
          (try dsimp only at hSw)
          go_simp
          all_goals (with_reducible rfl)
        (try simp only [Act.put, List.setIfInBounds_toArray, List.set_cons_zero, List.set_cons_succ])
        refine Kept.take (v := ?vp3) 3 (by kernel_rfl) rfl (by kernel_rfl) (fun _ _ _ h => h) (Or.inl ⟨by rfl, ?hyp3⟩) hK0 ?restp3
        case hyp3 =>
          intro w0 hSw
          (try dsimp only at hSw)
          go_simp
          all_goals (with_reducible rfl)
        (try simp only [Act.put, List.setIfInBounds_toArray, List.set_cons_zero, List.set_cons_succ])
        refine Kept.take (v := ?vp4) 4 (by kernel_rfl) rfl (by kernel_rfl) (fun _ _ _ h => h) (Or.inl ⟨by rfl, ?hyp4⟩) hK0 ?restp4
        case hyp4 =>
          intro w0 hSw
          (try dsimp only at hSw)
          go_simp
          all_goals (with_reducible rfl)
        (try simp only [Act.put, List.setIfInBounds_toArray, List.set_cons_zero, List.set_cons_succ])
        refine Kept.take (v := ?vp5) 5 (by kernel_rfl) rfl (by kernel_rfl) (fun _ _ _ h => h) (Or.inl ⟨by rfl, ?hyp5⟩) hK0 ?restp5
        case hyp5 =>
          intro w0 hSw
          (try dsimp only at hSw)
          go_simp
          all_goals (with_reducible rfl)
        (try simp only [Act.put, List.setIfInBounds_toArray, List.set_cons_zero, List.set_cons_succ])
        refine Kept.take (v := ?vp6) 6 (by kernel_rfl) rfl (by kernel_rfl) (fun _ _ _ h => h) (Or.inl ⟨by rfl, ?hyp6⟩) hK0 ?restp6
        case hyp6 =>
          intro w0 hSw
          (try dsimp only at hSw)
          go_simp
          all_goals (with_reducible rfl)
        (try simp only [Act.put, List.setIfInBounds_toArray, List.set_cons_zero, List.set_cons_succ])
        refine Kept.take (v := ?vp7) 7 (by kernel_rfl) rfl (by kernel_rfl) (fun _ _ _ h => h) (Or.inl ⟨by rfl, ?hyp7⟩) hK0 ?restp7
        case hyp7 =>
          intro w0 hSw
          (try dsimp only at hSw)
          go_simp
          all_goals (with_reducible rfl)
        (try simp only [Act.put, List.setIfInBounds_toArray, List.set_cons_zero, List.set_cons_succ])
        refine Kept.take (v := ?vp8) 8 (by kernel_rfl) rfl (by kernel_rfl) (fun _ _ _ h => h) (Or.inl ⟨by rfl, ?hyp8⟩) hK0 ?restp8
        case hyp8 =>
          intro w0 hSw
          (try dsimp only at hSw)
          go_simp
          all_goals (with_reducible rfl)
        (try simp only [Act.put, List.setIfInBounds_toArray, List.set_cons_zero, List.set_cons_succ])
        refine Kept.take (v := ?vp9) 9 (by kernel_rfl) rfl (by kernel_rfl) (fun _ _ _ h => h) (Or.inl ⟨by rfl, ?hyp9⟩) hK0 ?restp9
        case hyp9 =>
          intro w0 hSw
          (try dsimp only at hSw)
          go_simp
          all_goals (with_reducible rfl)
        (try simp only [Act.put, List.setIfInBounds_toArray, List.set_cons_zero, List.set_cons_succ])
        refine Kept.take (v := ?vp10) 10 (by kernel_rfl) rfl (by kernel_rfl) (fun _ _ _ h => h) (Or.inl ⟨by rfl, ?hyp10⟩) hK0 ?restp10
        case hyp10 =>
          intro w0 hSw
          (try dsimp only at hSw)
          go_simp
          all_goals (with_reducible rfl)
        (try simp only [Act.put, List.setIfInBounds_toArray, List.set_cons_zero, List.set_cons_succ])
        refine Kept.take (v := ?vp11) 11 (by kernel_rfl) rfl (by kernel_rfl) (fun _ _ _ h => h) (Or.inl ⟨by rfl, ?hyp11⟩) hK0 ?restp11
        case hyp11 =>
          intro w0 hSw
          (try dsimp only at hSw)
          go_simp
          all_goals (with_reducible rfl)
        (try simp only [Act.put, List.setIfInBounds_toArray, List.set_cons_zero, List.set_cons_succ])
        refine Kept.take (v := ?vp12) 12 (by kernel_rfl) rfl (by kernel_rfl) (fun _ _ _ h => h) (Or.inl ⟨by rfl, ?hyp12⟩) hK0 ?restp12
        case hyp12 =>
          intro w0 hSw
          (try dsimp only at hSw)
          go_simp
          all_goals (with_reducible rfl)
        (try simp only [Act.put, List.setIfInBounds_toArray, List.set_cons_zero, List.set_cons_succ])
        refine Kept.take (v := ?vp13) 13 (by kernel_rfl) rfl (by kernel_rfl) (fun _ _ _ h => h) (Or.inl ⟨by rfl, ?hyp13⟩) hK0 ?restp13
        case hyp13 =>
          intro w0 hSw
          (try dsimp only at hSw)
          go_simp
          all_goals (with_reducible rfl)
        (try simp only [Act.put, List.setIfInBounds_toArray, List.set_cons_zero, List.set_cons_succ])
        refine Kept.tail (by rfl) (by kernel_rfl) ?_
        simp only [List.drop_succ_cons, List.drop_zero]
        replace HB3 := Lib.hid (bThen HB3.out hK0.1)
        have y1 := hK0.2.1
        clear hS hS0 hK0 y0 x0 e1 e3 ev eS
        go_wp2
        refine NoPanic.normal ?_
        go_wp2
        go_roundw
        case rel => exact ⟨k + 1, HLK.out, by go_num, by rw [HS.out]; exact (by rw [HEV.out, HZ.out, wrap_two hN20 hz20]), by rw [HP.out]; go_num, HB3.out⟩
        case measure => simp [intOf]; omega
      · obtain rfl : k = W.length := by omega
        clear hN2 hp20
        go_wp2
        go_ret
        exact ⟨ret_i64 HV2.out, HB3.out⟩
end Go.Proofs.Ytedamhkcblemdaa
