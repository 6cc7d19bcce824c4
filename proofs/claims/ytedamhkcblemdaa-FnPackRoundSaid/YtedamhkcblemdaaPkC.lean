/-
  UnpackBits, both sides.
-/
import Derived.Test.YtedamhkcblemdaaPkB
import Derived.Deep.RegionHeld3
namespace Go.Proofs.Ytedamhkcblemdaa
open Go.RowKit
set_option linter.unusedVariables false
set_option linter.unusedSimpArgs false
set_option maxRecDepth 100000 in
set_option maxHeartbeats 6400000 in
theorem implUnp_at (W : List Int) (x : Int) (v : Value) (w : World) (h : rdIntS 0 w.heap.size w [v] W) (hl : W.length ≤ 1048576) {L : List Int} (hL : unpO W x = L) :
    Calls Try.prog 14 #[v, .int .i64 x] w fun e w' => ∃ v', e = .returned v' ∧ OwnsI w' w.heap.size v' L ∧ Below w.heap.size w w' := by
  obtain ⟨i0, hi, hz0, hz1, hz2⟩ := info_parts infoI
  obtain ⟨vA, vc, rfl, vl, -⟩ := slice_of h
  have HV := Lib.hid h
  have HX := Lib.hid hL
  obtain ⟨q, hq⟩ : ∃ q, widB W = q := ⟨_, rfl⟩
  have HQ := Lib.hid hq
  clear h hL hq
  go_enter Try.func14, Try.ntmps14
  go_wp2_with fail
  refine (implWid_at W _ _ HV.out hl HQ.out).mono ?_
  rintro e w1 ⟨rfl, hb⟩
  have HB := Lib.hid hb
  clear hb
  cases q with
  | false =>
    have hv := (show unpO W x = [] by unfold unpO; rw [if_neg (by rw [HQ.out]; decide)]).symm.trans HX.out
    subst hv
    go_wp2
    go_ret
    exact ⟨_, rfl, own_nilI _ _, HB.out⟩
  | true =>
    have HX2 := Lib.hid ((show unpO W x = unpI W x W.length from if_pos HQ.out).symm.trans HX.out)
    have HO := Lib.hid (own_nilI w1 w.heap.size)
    have HD0 := Lib.hid (show x = x / ((2 ^ plc W 0 : Nat) : Int) by unfold plc; simp)
    go_wp2
    go_loopw [1, 5, 13] (fun b s i wr => ∃ (k : Nat) (A : Option Addr) (c : Nat), k ≤ W.length ∧ i = .int .i64 k ∧ s = .slice A (unpI W x k).length c ∧ b = .int .i64 (x / ((2 ^ plc W k : Nat) : Int)) ∧ OwnsI wr w.heap.size (.slice A (unpI W x k).length c) (unpI W x k) ∧ Below w.heap.size w wr) (fun _ _ i _ => W.length - (intOf i).toNat)
    case atStart => exact ⟨0, none, 0, Nat.zero_le _, rfl, rfl, congrArg (Value.int .i64) HD0.out, HO.out, HB.out⟩
    case round =>
      obtain ⟨k, A, c, hk, rfl, rfl, rfl, hown, hb⟩ := hrel
      obtain ⟨w3, rfl⟩ : ∃ w3, w3 = wr := ⟨_, rfl⟩
      clear HO
      have HO := Lib.hid hown
      have HB3 := Lib.hid hb
      have hp20 := plc_20 HQ.out hk
      have hl20 := widB_len HQ.out
      clear hown hb
      by_cases hlt : k < W.length
      · obtain ⟨y, hy⟩ : ∃ y, W[k]? = some y := ⟨_, List.getElem?_eq_getElem hlt⟩
        have hy4 := wd_in (widB_no HQ.out).1 hy
        obtain ⟨yb, yq, rfl, ylt, y0, -⟩ := at_Int (good_IntS.below HV.out (Nat.le_refl _) HB3.out) hy
        have YLT := Lib.hid ylt
        clear ylt
        obtain ⟨d, rfl⟩ := Int.eq_ofNat_of_zero_le (show 0 ≤ y by omega)
        have hd4 : d ≤ 4 := by omega
        obtain ⟨p, hp⟩ : ∃ p, plc W k = p := ⟨_, rfl⟩
        obtain ⟨KL, hK⟩ : ∃ KL, unpI W x k = KL := ⟨_, rfl⟩
        obtain ⟨b, hbx⟩ : ∃ b, x / ((2 ^ p : Nat) : Int) = b := ⟨_, rfl⟩
        obtain ⟨t, ht⟩ : ∃ t, lowI b d = t := ⟨_, rfl⟩
        rw [hp] at hp20
        have HKL := Lib.hid (show KL.length = k by rw [← hK, unpI_len])
        have hkl : KL.length ≤ 20 := by rw [HKL.out]; omega
        have HS := Lib.hid (show unpI W x (k + 1) = KL ++ [t] by rw [unpI_step x hy, hK, hp, hbx, Int.toNat_natCast, ht])
        have HP := Lib.hid (show plc W (k + 1) = p + d by rw [plc_step hy, hp, Int.toNat_natCast])
        have HT := Lib.hid ht
        have HD := Lib.hid (show b / ((2 ^ d : Nat) : Int) = x / ((2 ^ plc W (k + 1) : Nat) : Int) by rw [← hbx, div_step, HP.out])
        have HBX := Lib.hid hbx
        rw [hK] at HO ⊢
        rw [hp, hbx]
        clear hy hp hK ht hbx hy4
        have HLK := Lib.hid hlt
        have tk : (k : Int) < (W.length : Int) := by omega
        go_wp2_with fail
        refine (implLow_at b d hd4 _ HT.out).mono ?_
        rintro e w4 ⟨rfl, rfl⟩
        have HBA := Lib.hid (show Below w3.heap.size w3 (w3.alloc (.cells #[.int .i64 t] 3)) from bAlloc (Below.refl _ _) (Nat.le_refl _) _)
        have HNB := Lib.hid (show (w3.alloc (.cells #[.int .i64 t] 3)).heap[w3.heap.size]? = some (.cells #[.int .i64 t] 3 (0, 0)) from heap_alloc_new _ _)
        have HBX3 := Lib.hid (bThen HB3.out HBA.out)
        have hsz := Lib.hid (show w.heap.size ≤ (w3.alloc (.cells #[.int .i64 t] 3)).heap.size from HBX3.out.size)
        have HOA := Lib.hid (HO.out.below HBA.out)
        have e1 : b / 2 ^ min (d : Int).toNat 64 = b / 2 ^ d := by rw [show min (d : Int).toNat 64 = d by omega]
        have HE := Lib.hid (show b / 2 ^ d = b / ((2 ^ d : Nat) : Int) by rw [pc])
        go_wp2_with (at_builtin; refine wpList_append_all (by rfl) _ _ 24 (by rfl) w.heap.size 3 i0 (.int .i64 0) 1 8 Try.underlying24 hi hz0 hz1 hz2 rfl (by omega) (.slice A KL.length c) KL.length (KL.map vI) (by rfl) HOA.out (some ⟨w3.heap.size, 0, none⟩) 1 1 [.int .i64 t] (by rfl) (by rfl) (.inr ⟨_, rfl, World.news_of_block HNB.out⟩) (by simp [Value.oneCell']) (by unfold maxLen; omega) (by omega) hsz.out ?_; intro A' c' w7 hown7 hgrow7 hkeep7 hat7)
        have HB7 := Lib.hid ((HBX3.out.grown hgrow7 hsz.out (fun g hg => (HO.out.lt g hg).1)))
        have HO7 := Lib.hid (show OwnsI w7 w.heap.size (.slice A' (KL.length + 1) c') (KL ++ [t]) from (by unfold OwnsI; rw [List.length_append, List.map_append]; exact hown7))
        clear hown7 hgrow7 hkeep7 hat7 hsz
        go_roundw
        case rel => exact ⟨k + 1, A', c', HLK.out, by go_num, by rw [HS.out, List.length_append]; rfl, by rw [← HD.out, ← HE.out], by rw [HS.out, List.length_append]; exact HO7.out, HB7.out⟩
        case measure => simp [intOf]; omega
      · obtain rfl : k = W.length := by omega
        rw [HX2.out] at HO ⊢
        go_wp2
        go_ret
        exact ⟨_, rfl, HO.out, HB3.out⟩
set_option maxRecDepth 100000 in
set_option maxHeartbeats 6400000 in
theorem specUnp_at (W : List Int) (x : Int) (v : Value) (w : World) (h : rdIntS 0 w.heap.size w [v] W) {L : List Int} (hL : unpO W x = L) :
    Calls Try.prog 17 #[v, .int .i64 x] w fun e w' => ∃ v', e = .returned v' ∧ OwnsI w' w.heap.size v' L ∧ Below w.heap.size w w' := by
  obtain ⟨i0, hi, hz0, hz1, hz2⟩ := info_parts infoI
  obtain ⟨vA, vc, rfl, vl, -⟩ := slice_of h
  have HV := Lib.hid h
  have HX := Lib.hid hL
  obtain ⟨q, hq⟩ : ∃ q, widB W = q := ⟨_, rfl⟩
  have HQ := Lib.hid hq
  clear h hL hq
  go_enter Try.func17, Try.ntmps17
  go_wp2_with fail
  obtain ⟨W0, hW0⟩ : ∃ x, x = w.alloc (.cells #[] 3) := ⟨_, rfl⟩
  have HO := Lib.hid (show OwnsI W0 w.heap.size (.slice (some ⟨w.heap.size, 0, none⟩) 0 0) [] by rw [hW0]; exact own_newI w w.heap.size (Nat.le_refl _))
  have HB0 := Lib.hid (show Below w.heap.size w W0 by rw [hW0]; exact bAlloc (Below.refl _ _) (Nat.le_refl _) _)
  rw [← hW0]
  clear hW0
  refine (specWid_at W _ _ (rdUp good_IntS HV.out HB0.out) HQ.out).mono ?_
  rintro e w1 ⟨rfl, hb⟩
  have HB := Lib.hid (bThen HB0.out hb)
  replace HO := Lib.hid (HO.out.below hb)
  clear hb
  cases q with
  | false =>
    have hv := (show unpO W x = [] by unfold unpO; rw [if_neg (by rw [HQ.out]; decide)]).symm.trans HX.out
    subst hv
    go_wp2
    go_ret
    exact ⟨_, rfl, HO.out, HB.out⟩
  | true =>
    have HX2 := Lib.hid ((show unpO W x = unpI W x W.length from if_pos HQ.out).symm.trans HX.out)
    go_wp2
    go_loopw [5, 6, 7] (fun s b i wr => ∃ (k : Nat) (A : Option Addr) (c : Nat), k ≤ W.length ∧ i = .int .i64 k ∧ s = .slice A (unpI W x k).length c ∧ b = .int .i64 (plc W k : Int) ∧ OwnsI wr w.heap.size (.slice A (unpI W x k).length c) (unpI W x k) ∧ Below w.heap.size w wr) (fun _ _ i _ => W.length - (intOf i).toNat)
    case atStart => exact ⟨0, _, 0, Nat.zero_le _, rfl, rfl, rfl, HO.out, HB.out⟩
    case round =>
      obtain ⟨k, A, c, hk, rfl, rfl, rfl, hown, hb⟩ := hrel
      obtain ⟨w3, rfl⟩ : ∃ w3, w3 = wr := ⟨_, rfl⟩
      clear HO
      have HO := Lib.hid hown
      have HB3 := Lib.hid hb
      have hp20 := plc_20 HQ.out hk
      have hl20 := widB_len HQ.out
      clear hown hb
      by_cases hlt : k < W.length
      · obtain ⟨y, hy⟩ : ∃ y, W[k]? = some y := ⟨_, List.getElem?_eq_getElem hlt⟩
        have hy4 := wd_in (widB_no HQ.out).1 hy
        obtain ⟨yb, yq, rfl, ylt, y0, -⟩ := at_Int (good_IntS.below HV.out (Nat.le_refl _) HB3.out) hy
        have YLT := Lib.hid ylt
        clear ylt
        obtain ⟨d, rfl⟩ := Int.eq_ofNat_of_zero_le (show 0 ≤ y by omega)
        have hd4 : d ≤ 4 := by omega
        obtain ⟨p, hp⟩ : ∃ p, plc W k = p := ⟨_, rfl⟩
        obtain ⟨KL, hK⟩ : ∃ KL, unpI W x k = KL := ⟨_, rfl⟩
        obtain ⟨b, hbx⟩ : ∃ b, x / ((2 ^ p : Nat) : Int) = b := ⟨_, rfl⟩
        obtain ⟨t, ht⟩ : ∃ t, lowI b d = t := ⟨_, rfl⟩
        rw [hp] at hp20
        have HKL := Lib.hid (show KL.length = k by rw [← hK, unpI_len])
        have hkl : KL.length ≤ 20 := by rw [HKL.out]; omega
        have HS := Lib.hid (show unpI W x (k + 1) = KL ++ [t] by rw [unpI_step x hy, hK, hp, hbx, Int.toNat_natCast, ht])
        have HP := Lib.hid (show plc W (k + 1) = p + d by rw [plc_step hy, hp, Int.toNat_natCast])
        have HT := Lib.hid ht
        have HD := Lib.hid (show b / ((2 ^ d : Nat) : Int) = x / ((2 ^ plc W (k + 1) : Nat) : Int) by rw [← hbx, div_step, HP.out])
        have HBX := Lib.hid hbx
        rw [hK] at HO ⊢
        rw [hp]
        clear hy hp hK ht hbx hy4
        have HLK := Lib.hid hlt
        have tk : (k : Int) < (W.length : Int) := by omega
        obtain ⟨M, hM⟩ := maskQ d
        have h16 := p16 d hd4
        have e1 := (wrapQ d M hd4 hM).1
        have e3 := (wrapQ d M hd4 hM).2
        have ev := (and_lowI b d M hd4 hM).trans HT.out
        have HEV := Lib.hid ev
        have eS : x / 2 ^ p = b := by rw [pc]; exact HBX.out
        have e4 : IntKind.i64.wrap (M : Int) = (M : Int) := wrap64_small M (Nat.lt_of_le_of_lt (mask15 hd4 hM) (by decide))
        have hM15 : M ≤ 15 := mask15 hd4 hM
        clear hM h16
        go_wp2_with fail
        have hS0 : (fun w' => Below w3.heap.size w3 w' ∧ w'.cell? ⟨yb, yq + k, none⟩ = some (.int .i64 (d : Int))) w3 := ⟨Below.refl _ _, y0⟩
        have hS : ∀ {w0 w' : World}, (fun w' => Below w3.heap.size w3 w' ∧ w'.cell? ⟨yb, yq + k, none⟩ = some (.int .i64 (d : Int))) w0 → Below w0.heap.size w0 w' → (fun w' => Below w3.heap.size w3 w' ∧ w'.cell? ⟨yb, yq + k, none⟩ = some (.int .i64 (d : Int))) w' := fun h hb => ⟨bThen h.1 hb, keep hb h.2⟩
        dsimp only at hS0 hS
        refine wp_region_noPanic ?_
        refine wp_region_kept 12 14 (fun w' => Below w3.heap.size w3 w' ∧ w'.cell? ⟨yb, yq + k, none⟩ = some (.int .i64 (d : Int))) (by kernel_rfl) rfl (hS hS0 (Below.drew (Below.refl _ _))) (fun hK0 => ?_)
        refine Kept.take (v := ?vu0) 0 (by kernel_rfl) rfl (by kernel_rfl) (fun _ _ _ h => h) (Or.inl ⟨by rfl, ?hyu0⟩) hK0 ?restu0
        case hyu0 =>
          intro w0 hSw
          (try dsimp only at hSw)
          go_simp
          all_goals (with_reducible rfl)
        (try simp only [Act.put, List.setIfInBounds_toArray, List.set_cons_zero, List.set_cons_succ])
        refine Kept.take (v := ?vu1) 1 (by kernel_rfl) rfl (by kernel_rfl) (fun _ _ _ h => h) (Or.inl ⟨by rfl, ?hyu1⟩) hK0 ?restu1
        case hyu1 =>
          intro w0 hSw
          (try dsimp only at hSw)
          go_simp
          all_goals (with_reducible rfl)
        (try simp only [Act.put, List.setIfInBounds_toArray, List.set_cons_zero, List.set_cons_succ])
        refine Kept.take (v := ?vu2) 2 (by kernel_rfl) rfl (by kernel_rfl) (fun _ _ _ h => h) (Or.inl ⟨by rfl, ?hyu2⟩) hK0 ?restu2
        case hyu2 =>
          intro w0 hSw
          (try dsimp only at hSw)
          go_simp
          all_goals (with_reducible rfl)
        (try simp only [Act.put, List.setIfInBounds_toArray, List.set_cons_zero, List.set_cons_succ])
        refine Kept.take (v := ?vu3) 3 (by kernel_rfl) rfl (by kernel_rfl) (fun _ _ _ h => h) (Or.inl ⟨by rfl, ?hyu3⟩) hK0 ?restu3
        case hyu3 =>
          intro w0 hSw
          (try dsimp only at hSw)
          go_simp
          all_goals (with_reducible rfl)
        (try simp only [Act.put, List.setIfInBounds_toArray, List.set_cons_zero, List.set_cons_succ])
        refine Kept.take (v := ?vu4) 4 (by kernel_rfl) rfl (by kernel_rfl) (fun _ _ _ h => h) (Or.inl ⟨by rfl, ?hyu4⟩) hK0 ?restu4
        case hyu4 =>
          intro w0 hSw
          (try dsimp only at hSw)
          go_simp
          all_goals (with_reducible rfl)
        (try simp only [Act.put, List.setIfInBounds_toArray, List.set_cons_zero, List.set_cons_succ])
        refine Kept.take (v := ?vu5) 5 (by kernel_rfl) rfl (by kernel_rfl) (fun _ _ _ h => h) (Or.inl ⟨by rfl, ?hyu5⟩) hK0 ?restu5
        case hyu5 =>
          intro w0 hSw
          (try dsimp only at hSw)
          go_simp
          all_goals (with_reducible rfl)
        (try simp only [Act.put, List.setIfInBounds_toArray, List.set_cons_zero, List.set_cons_succ])
        refine Kept.take (v := ?vu6) 6 (by kernel_rfl) rfl (by kernel_rfl) (fun _ _ _ h => h) (Or.inl ⟨by rfl, ?hyu6⟩) hK0 ?restu6
        case hyu6 =>
          intro w0 hSw
          (try dsimp only at hSw)
          go_simp
          all_goals (with_reducible rfl)
        (try simp only [Act.put, List.setIfInBounds_toArray, List.set_cons_zero, List.set_cons_succ])
        refine Kept.take (v := ?vu7) 7 (by kernel_rfl) rfl (by kernel_rfl) (fun _ _ _ h => h) (Or.inl ⟨by rfl, ?hyu7⟩) hK0 ?restu7
        case hyu7 =>
          intro w0 hSw
          (try dsimp only at hSw)
          go_simp
          all_goals (with_reducible rfl)
        (try simp only [Act.put, List.setIfInBounds_toArray, List.set_cons_zero, List.set_cons_succ])
        refine Kept.take (v := ?vu8) 8 (by kernel_rfl) rfl (by kernel_rfl) (fun _ _ _ h => h) (Or.inl ⟨by rfl, ?hyu8⟩) hK0 ?restu8
        case hyu8 =>
          intro w0 hSw
          (try dsimp only at hSw)
          go_simp
          all_goals (with_reducible rfl)
        (try simp only [Act.put, List.setIfInBounds_toArray, List.set_cons_zero, List.set_cons_succ])
        refine Kept.take (v := ?vu9) 9 (by kernel_rfl) rfl (by kernel_rfl) (fun _ _ _ h => h) (Or.inl ⟨by rfl, ?hyu9⟩) hK0 ?restu9
        case hyu9 =>
          intro w0 hSw
          (try dsimp only at hSw)
          go_simp
          all_goals (with_reducible rfl)
        (try simp only [Act.put, List.setIfInBounds_toArray, List.set_cons_zero, List.set_cons_succ])
        refine Kept.take (v := ?vu10) 10 (by kernel_rfl) rfl (by kernel_rfl) (fun _ _ _ h => h) (Or.inl ⟨by rfl, ?hyu10⟩) hK0 ?restu10
        case hyu10 =>
          intro w0 hSw
          (try dsimp only at hSw)
          go_simp
          all_goals (with_reducible rfl)
        (try simp only [Act.put, List.setIfInBounds_toArray, List.set_cons_zero, List.set_cons_succ])
        refine Kept.one 11 (by kernel_rfl) rfl (fun K hK => ?_)
        go_simp
        refine hK.out _ _ (hS hK0 (bAlloc (Below.refl _ _) (Nat.le_refl _) _)) (fun hK1 => ?_)
        clear hK K hK0
        (try simp only [Act.put, List.setIfInBounds_toArray, List.set_cons_zero, List.set_cons_succ])
        refine Kept.tail (by rfl) (by kernel_rfl) ?_
        simp only [List.drop_succ_cons, List.drop_zero]
        obtain ⟨WA, hWA⟩ : ∃ WA, WA = (w3.alloc (.cells #[.int .i64 t] 3)).drew := ⟨_, rfl⟩
        have HBA := Lib.hid (show Below w3.heap.size w3 WA by rw [hWA]; exact Below.drew (bAlloc (Below.refl _ _) (Nat.le_refl _) _))
        have HNB := Lib.hid (show WA.heap[w3.heap.size]? = some (.cells #[.int .i64 t] 3 (0, 0)) by rw [hWA]; exact heap_alloc_new _ _)
        rw [← hWA]
        replace y0 := keep HBA.out y0
        clear hWA hK1 hS hS0
        have HBX3 := Lib.hid (bThen HB3.out HBA.out)
        have hsz := Lib.hid (show w.heap.size ≤ WA.heap.size from HBX3.out.size)
        have HOA := Lib.hid (HO.out.below HBA.out)
        have hyA : (Value.slice A KL.length c).ownBlock = some yb → False := fun e => by have := (HO.out.lt yb e).1; have := YLT.out; omega
        go_wp2_with (at_builtin; refine wpList_append_all (by rfl) _ _ 24 (by rfl) w.heap.size 3 i0 (.int .i64 0) 1 8 Try.underlying24 hi hz0 hz1 hz2 rfl (by omega) (.slice A KL.length c) KL.length (KL.map vI) (by rfl) HOA.out (some ⟨w3.heap.size, 0, none⟩) 1 1 [.int .i64 t] (by rfl) (by rfl) (.inr ⟨_, rfl, World.news_of_block HNB.out⟩) (by simp [Value.oneCell']) (by unfold maxLen; omega) (by omega) hsz.out ?_; intro A' c' w7 hown7 hgrow7 hkeep7 hat7)
        refine NoPanic.normal ?_
        have y1 := grownC hgrow7 y0 (fun e => hyA e)
        have HB7 := Lib.hid ((HBX3.out.grown hgrow7 hsz.out (fun g hg => (HO.out.lt g hg).1)))
        have HO7 := Lib.hid (show OwnsI w7 w.heap.size (.slice A' (KL.length + 1) c') (KL ++ [t]) from (by unfold OwnsI; rw [List.length_append, List.map_append]; exact hown7))
        clear hown7 hgrow7 hkeep7 hat7 hsz
        clear y0 e1 e3 e4 ev eS hyA
        go_wp2
        go_roundw
        case rel => exact ⟨k + 1, A', c', HLK.out, by go_num, by rw [HS.out, List.length_append]; rfl, by rw [HP.out]; go_num, by rw [HS.out, List.length_append]; exact HO7.out, HB7.out⟩
        case measure => simp [intOf]; omega
      · obtain rfl : k = W.length := by omega
        rw [HX2.out] at HO ⊢
        go_wp2
        go_ret
        exact ⟨_, rfl, HO.out, HB3.out⟩
end Go.Proofs.Ytedamhkcblemdaa
