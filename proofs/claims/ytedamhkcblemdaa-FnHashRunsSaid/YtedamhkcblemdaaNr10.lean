/-
  NetRun: the specification.
-/
import Derived.Test.YtedamhkcblemdaaNrA
import Derived.Test.YtedamhkcblemdaaNr8
import Derived.Test.YtedamhkcblemdaaNrB
import Derived.Deep.RegionHeld3
namespace Go.Proofs.Ytedamhkcblemdaa
open Go.RowKit
set_option linter.unusedVariables false
set_option linter.unusedSimpArgs false

set_option maxRecDepth 100000 in
set_option maxHeartbeats 12800000 in
theorem specRun_at (n : DNet) (xs : List Int) (us : List Value) (l : Value) (w : World) (h : rdNet 0 w.heap.size w us n) (hl : rdIntS 0 w.heap.size w [l] xs) {L : List Int} (hL : runO n xs = L) :
    Calls Try.prog 25 #[.agg us.toArray, l] w fun e w' => ∃ v', e = .returned v' ∧ OwnsI w' w.heap.size v' L ∧ Below w.heap.size w w' := by
  obtain ⟨i0, hi, hz0, hz1, hz2⟩ := info_parts infoI
  have HD := Lib.hid h
  have HLI := Lib.hid hl
  obtain ⟨f, hf⟩ : ∃ f, netB n = f := ⟨_, rfl⟩
  have HF := Lib.hid hf
  have HX := Lib.hid hL
  obtain ⟨lA, lc, rfl, lm, -⟩ := slice_of hl
  clear hf hL hl
  obtain ⟨mu0, mu1, mu2, mu3, rfl, mh0, mh1, mh2, mh3⟩ := h
  obtain ⟨me0, -⟩ := mh0
  injection me0 with me0
  subst me0
  obtain ⟨mA1, mc1, me1, mm1, -⟩ := slice_of mh1
  subst me1
  have mR1 := Lib.hid mh1
  clear mh1
  obtain ⟨mA2, mc2, me2, mm2, -⟩ := slice_of mh2
  subst me2
  have mR2 := Lib.hid mh2
  clear mh2
  obtain ⟨mA3, mc3, me3, mm3, -⟩ := slice_of mh3
  subst me3
  have mR3 := Lib.hid mh3
  clear mh3
  go_enter Try.func25, Try.ntmps25
  go_wp2_with fail
  obtain ⟨W0, hV⟩ : ∃ W0, W0 = ((w.alloc (.cells #[.int .i64 n.1, .slice mA1 (n.2.1).length mc1, .slice mA2 (n.2.2.1).length mc2, .slice mA3 (n.2.2.2).length mc3] 36)).alloc (.cells #[] 3)) := ⟨_, rfl⟩
  have hO0 : OwnsI ((w.alloc (.cells #[.int .i64 n.1, .slice mA1 (n.2.1).length mc1, .slice mA2 (n.2.2.1).length mc2, .slice mA3 (n.2.2.2).length mc3] 36)).alloc (.cells #[] 3)) (w.heap.size + 1) (.slice (some ⟨w.heap.size + 1, 0, none⟩) 0 0) [] := by have := own_newI (w.alloc (.cells #[.int .i64 n.1, .slice mA1 (n.2.1).length mc1, .slice mA2 (n.2.2.1).length mc2, .slice mA3 (n.2.2.2).length mc3] 36)) (w.heap.size + 1) (by simp); simpa using this
  rw [← hV] at hO0 ⊢
  have gN := eqbox2 hV
  have HO := Lib.hid hO0
  have d0 : W0.cell? ⟨w.heap.size, 0, none⟩ = some (.int .i64 n.1) := box_cell gN.1 0 _ rfl
  have d1 : W0.cell? ⟨w.heap.size, 1, none⟩ = some (.slice mA1 (n.2.1).length mc1) := box_cell gN.1 1 _ rfl
  have d2 : W0.cell? ⟨w.heap.size, 2, none⟩ = some (.slice mA2 (n.2.2.1).length mc2) := box_cell gN.1 2 _ rfl
  have d3 : W0.cell? ⟨w.heap.size, 3, none⟩ = some (.slice mA3 (n.2.2.2).length mc3) := box_cell gN.1 3 _ rfl
  have sW0 : W0.heap.size = w.heap.size + 2 := by rw [hV]; simp
  have HW0 := Lib.hid gN.2.2
  clear hV gN hO0
  have HE0 := Lib.hid d0
  have HE1 := Lib.hid d1
  have HE2 := Lib.hid d2
  have HE3 := Lib.hid d3
  refine (specNetOk_at n _ _ (rdUp good_Net HD.out HW0.out) HF.out).mono ?_
  rintro e w1 ⟨rfl, hb⟩
  replace d0 := keep hb d0
  replace d1 := keep hb d1
  replace d2 := keep hb d2
  replace d3 := keep hb d3
  have HB02 := Lib.hid hb
  replace HO := Lib.hid (HO.out.below hb)
  clear hb
  cases f with
  | false =>
    have HE := Lib.hid ((run_no (xs := xs) (fun c => by have h1 := HF.out; rw [c.1] at h1; cases h1)).symm.trans HX.out)
    go_wp2
    go_ret
    refine ⟨_, rfl, ?_, bThen HW0.out HB02.out⟩
    rw [← HE.out]
    exact HO.out.lower (by omega)
  | true =>
    by_cases h16 : (16 : Int) < (xs.length : Int)
    · have HE := Lib.hid ((run_no (xs := xs) (fun c => by omega)).symm.trans HX.out)
      go_wp2
      go_ret
      refine ⟨_, rfl, ?_, bThen HW0.out HB02.out⟩
      rw [← HE.out]
      exact HO.out.lower (by omega)
    have hx16 : xs.length ≤ 16 := by omega
    have HE := Lib.hid ((run_yes HF.out hx16).symm.trans HX.out)
    go_wp2_with fail
    refine (specStart_at n _ _ (rdUp good_Net HD.out (bThen HW0.out HB02.out)) rfl).mono ?_
    rintro e w2 ⟨v6, rfl, ho, hb⟩
    have HQ := Lib.hid (show OwnsI w2 (w.heap.size + 1) v6 (stAt n xs 0) from ho.lower (by have := HB02.out.size; omega))
    have HNE := Lib.hid (own_apart HO.out ho)
    replace d0 := keep hb d0
    replace d1 := keep hb d1
    replace d2 := keep hb d2
    replace d3 := keep hb d3
    replace HB02 := Lib.hid (bThen HB02.out hb)
    replace HO := Lib.hid (HO.out.below hb)
    clear ho hb
    go_wp2
    clear d0 d1 d2 d3
    go_loopw [5, 6, 7] (fun s q z wr => ∃ (k : Nat) (A : Option Addr) (c : Nat), k ≤ xs.length ∧ z = .int .i64 (k : Int) ∧ s = .slice A (outsK n xs k).length c ∧ OwnsI wr (w.heap.size + 1) (.slice A (outsK n xs k).length c) (outsK n xs k) ∧ OwnsI wr (w.heap.size + 1) q (stAt n xs k) ∧ (q.ownBlock = none ∨ q.ownBlock ≠ (Value.slice A (outsK n xs k).length c).ownBlock) ∧ Below (w.heap.size + 1) W0 wr) (fun _ _ z _ => xs.length - (intOf z).toNat)
    case atStart => exact ⟨0, some ⟨w.heap.size + 1, 0, none⟩, 0, Nat.zero_le _, rfl, rfl, HO.out, HQ.out, HNE.out, HB02.out.mono (by omega)⟩
    case round =>
      obtain ⟨k, A, c, hk, rfl, rfl, hown, hq, hne, hb⟩ := hrel
      obtain ⟨w3, rfl⟩ : ∃ w3, w3 = wr := ⟨_, rfl⟩
      clear HO HB02 HQ HNE
      have HO := Lib.hid hown
      have HQ := Lib.hid hq
      have HNE := Lib.hid hne
      have HB0 := Lib.hid hb
      have HB := Lib.hid (show Below w.heap.size w w3 from HW0.out.trans (hb.mono (by omega)))
      have c0 : w3.cell? ⟨w.heap.size, 0, none⟩ = some (.int .i64 n.1) := (hb.cell (p := ⟨w.heap.size, 0, none⟩) (by dsimp only; omega)).trans HE0.out
      have c1 : w3.cell? ⟨w.heap.size, 1, none⟩ = some (.slice mA1 (n.2.1).length mc1) := (hb.cell (p := ⟨w.heap.size, 1, none⟩) (by dsimp only; omega)).trans HE1.out
      have c2 : w3.cell? ⟨w.heap.size, 2, none⟩ = some (.slice mA2 (n.2.2.1).length mc2) := (hb.cell (p := ⟨w.heap.size, 2, none⟩) (by dsimp only; omega)).trans HE2.out
      have c3 : w3.cell? ⟨w.heap.size, 3, none⟩ = some (.slice mA3 (n.2.2.2).length mc3) := (hb.cell (p := ⟨w.heap.size, 3, none⟩) (by dsimp only; omega)).trans HE3.out
      clear hown hq hne hb
      by_cases hlt : k < xs.length
      · obtain ⟨x, hx⟩ : ∃ x, xs[k]? = some x := ⟨_, List.getElem?_eq_getElem hlt⟩
        obtain ⟨lb, lq, rfl, lb1, xc, -⟩ := at_Int (good_IntS.below HLI.out (Nat.le_refl _) HB.out) hx
        have lb2 := Nat.lt_of_lt_of_le lb1 HB.out.size
        have tk : (k : Int) < (xs.length : Int) := by omega
        obtain ⟨S1, o1, hso⟩ : ∃ S1 o1, stepO n (stAt n xs k) x = (S1, o1) := ⟨_, _, rfl⟩
        have hst := outs_step hx hso
        have HSO := Lib.hid hso
        have HQF := Lib.hid (state_fit (stAt_ok HF.out xs k))
        obtain ⟨KL, hK⟩ : ∃ KL, outsK n xs k = KL := ⟨_, rfl⟩
        have hlen : KL.length ≤ 16 := by rw [← hK, outs_len]; omega
        rw [hK] at hst
        have HKS := Lib.hid hst
        rw [hK] at HO HNE ⊢
        clear hx hK hst hso lb1
        go_wp2_with fail
        have hS0 : (fun w' => Below w3.heap.size w3 w' ∧ w'.cell? ⟨w.heap.size, 0, none⟩ = some (.int .i64 n.1) ∧ w'.cell? ⟨w.heap.size, 1, none⟩ = some (.slice mA1 (n.2.1).length mc1) ∧ w'.cell? ⟨w.heap.size, 2, none⟩ = some (.slice mA2 (n.2.2.1).length mc2) ∧ w'.cell? ⟨w.heap.size, 3, none⟩ = some (.slice mA3 (n.2.2.2).length mc3) ∧ w'.cell? ⟨lb, lq + k, none⟩ = some (.int .i64 x)) w3 := ⟨Below.refl _ _, c0, c1, c2, c3, xc⟩
        have hS : ∀ {w0 w' : World}, (fun w' => Below w3.heap.size w3 w' ∧ w'.cell? ⟨w.heap.size, 0, none⟩ = some (.int .i64 n.1) ∧ w'.cell? ⟨w.heap.size, 1, none⟩ = some (.slice mA1 (n.2.1).length mc1) ∧ w'.cell? ⟨w.heap.size, 2, none⟩ = some (.slice mA2 (n.2.2.1).length mc2) ∧ w'.cell? ⟨w.heap.size, 3, none⟩ = some (.slice mA3 (n.2.2.2).length mc3) ∧ w'.cell? ⟨lb, lq + k, none⟩ = some (.int .i64 x)) w0 → Below w0.heap.size w0 w' → (fun w' => Below w3.heap.size w3 w' ∧ w'.cell? ⟨w.heap.size, 0, none⟩ = some (.int .i64 n.1) ∧ w'.cell? ⟨w.heap.size, 1, none⟩ = some (.slice mA1 (n.2.1).length mc1) ∧ w'.cell? ⟨w.heap.size, 2, none⟩ = some (.slice mA2 (n.2.2.1).length mc2) ∧ w'.cell? ⟨w.heap.size, 3, none⟩ = some (.slice mA3 (n.2.2.2).length mc3) ∧ w'.cell? ⟨lb, lq + k, none⟩ = some (.int .i64 x)) w' := fun h hb => ⟨bThen h.1 hb, keep hb h.2.1, keep hb h.2.2.1, keep hb h.2.2.2.1, keep hb h.2.2.2.2.1, keep hb h.2.2.2.2.2⟩
        dsimp only at hS0 hS
        refine wp_region_noPanic ?_
        refine wp_region_kept 11 12 (fun w' => Below w3.heap.size w3 w' ∧ w'.cell? ⟨w.heap.size, 0, none⟩ = some (.int .i64 n.1) ∧ w'.cell? ⟨w.heap.size, 1, none⟩ = some (.slice mA1 (n.2.1).length mc1) ∧ w'.cell? ⟨w.heap.size, 2, none⟩ = some (.slice mA2 (n.2.2.1).length mc2) ∧ w'.cell? ⟨w.heap.size, 3, none⟩ = some (.slice mA3 (n.2.2.2).length mc3) ∧ w'.cell? ⟨lb, lq + k, none⟩ = some (.int .i64 x)) (by kernel_rfl) rfl (hS hS0 (Below.drew (Below.refl _ _))) (fun hK0 => ?_)
        refine Kept.take (v := ?vc0) 0 (by kernel_rfl) rfl (by kernel_rfl) (fun _ _ _ h => h) (Or.inl ⟨by rfl, ?hyc0⟩) hK0 ?restc0
        case hyc0 =>
          intro w0 hSw
          (try dsimp only at hSw)
          go_simp
          all_goals (with_reducible rfl)
        (try simp only [Act.put, List.setIfInBounds_toArray, List.set_cons_zero, List.set_cons_succ])
        refine Kept.take (v := ?vc1) 1 (by kernel_rfl) rfl (by kernel_rfl) (fun _ _ _ h => h) (Or.inl ⟨by rfl, ?hyc1⟩) hK0 ?restc1
        case hyc1 =>
          intro w0 hSw
          (try dsimp only at hSw)
          go_simp
          all_goals (with_reducible rfl)
        (try simp only [Act.put, List.setIfInBounds_toArray, List.set_cons_zero, List.set_cons_succ])
        refine Kept.take (v := ?vc2) 2 (by kernel_rfl) rfl (by kernel_rfl) (fun _ _ _ h => h) (Or.inl ⟨by rfl, ?hyc2⟩) hK0 ?restc2
        case hyc2 =>
          intro w0 hSw
          (try dsimp only at hSw)
          go_simp
          all_goals (with_reducible rfl)
        (try simp only [Act.put, List.setIfInBounds_toArray, List.set_cons_zero, List.set_cons_succ])
        refine Kept.take (v := ?vc3) 3 (by kernel_rfl) rfl (by kernel_rfl) (fun _ _ _ h => h) (Or.inl ⟨by rfl, ?hyc3⟩) hK0 ?restc3
        case hyc3 =>
          intro w0 hSw
          (try dsimp only at hSw)
          go_simp
          all_goals (with_reducible rfl)
        (try simp only [Act.put, List.setIfInBounds_toArray, List.set_cons_zero, List.set_cons_succ])
        refine Kept.take (v := ?vc4) 4 (by kernel_rfl) rfl (by kernel_rfl) (fun _ _ _ h => h) (Or.inl ⟨by rfl, ?hyc4⟩) hK0 ?restc4
        case hyc4 =>
          intro w0 hSw
          (try dsimp only at hSw)
          go_simp
          all_goals (with_reducible rfl)
        (try simp only [Act.put, List.setIfInBounds_toArray, List.set_cons_zero, List.set_cons_succ])
        refine Kept.take (v := ?vc5) 5 (by kernel_rfl) rfl (by kernel_rfl) (fun _ _ _ h => h) (Or.inl ⟨by rfl, ?hyc5⟩) hK0 ?restc5
        case hyc5 =>
          intro w0 hSw
          (try dsimp only at hSw)
          go_simp
          all_goals (with_reducible rfl)
        (try simp only [Act.put, List.setIfInBounds_toArray, List.set_cons_zero, List.set_cons_succ])
        refine Kept.one 6 (by kernel_rfl) rfl (fun K hK => ?_)
        go_simp
        go_at_call 60
        refine (specStep_at n _ x _ _ _ (rdUp good_Net HD.out (bThen HB.out hK0.1)) (ownI_rd (HQ.out.below hK0.1) HQF.out) HSO.out).mono ?_
        rintro e wr0 ⟨v8, rfl, hoN, hbr0⟩
        have HO8 := Lib.hid (OwnsI.lower hoN hK0.1.size)
        clear hoN
        go_simp
        refine hK.out _ _ (hS hK0 hbr0) (fun hK1 => ?_)
        clear hK K hK0
        (try simp only [Act.put, List.setIfInBounds_toArray, List.set_cons_zero, List.set_cons_succ])
        refine Kept.take (v := ?vc7) 7 (by kernel_rfl) rfl (by kernel_rfl) (fun _ _ _ h => h) (Or.inl ⟨by rfl, ?hyc7⟩) hK1 ?restc7
        case hyc7 =>
          intro w0 hSw
          (try dsimp only at hSw)
          go_simp
          all_goals (with_reducible rfl)
        (try simp only [Act.put, List.setIfInBounds_toArray, List.set_cons_zero, List.set_cons_succ])
        refine Kept.take (v := ?vc8) 8 (by kernel_rfl) rfl (by kernel_rfl) (fun _ _ _ h => h) (Or.inl ⟨by rfl, ?hyc8⟩) hK1 ?restc8
        case hyc8 =>
          intro w0 hSw
          (try dsimp only at hSw)
          go_simp
          all_goals (with_reducible rfl)
        (try simp only [Act.put, List.setIfInBounds_toArray, List.set_cons_zero, List.set_cons_succ])
        refine Kept.take (v := ?vc9) 9 (by kernel_rfl) rfl (by kernel_rfl) (fun _ _ _ h => h) (Or.inl ⟨by rfl, ?hyc9⟩) hK1 ?restc9
        case hyc9 =>
          intro w0 hSw
          (try dsimp only at hSw)
          go_simp
          all_goals (with_reducible rfl)
        (try simp only [Act.put, List.setIfInBounds_toArray, List.set_cons_zero, List.set_cons_succ])
        refine Kept.take (v := ?vc10) 10 (by kernel_rfl) rfl (by kernel_rfl) (fun _ _ _ h => h) (Or.inl ⟨by rfl, ?hyc10⟩) hK1 ?restc10
        case hyc10 =>
          intro w0 hSw
          (try dsimp only at hSw)
          go_simp
          all_goals (with_reducible rfl)
        (try simp only [Act.put, List.setIfInBounds_toArray, List.set_cons_zero, List.set_cons_succ])
        refine Kept.tail (by rfl) (by kernel_rfl) ?_
        simp only [List.drop_succ_cons, List.drop_zero]
        go_wp2
        refine NoPanic.normal ?_
        have HBR := Lib.hid (show Below w3.heap.size w3 wr0 from hK1.1)
        have HBA := Lib.hid (show Below w3.heap.size w3 (wr0.alloc (.cells #[.int .i64 o1] 3)) from bAlloc HBR.out (Nat.le_refl _) _)
        have HBX := Lib.hid (show Below (w.heap.size + 1) W0 (wr0.alloc (.cells #[.int .i64 o1] 3)) from HB0.out.trans (HBA.out.mono (by have := HB0.out.size; omega)))
        have hsz := Lib.hid (show w.heap.size + 1 ≤ (wr0.alloc (.cells #[.int .i64 o1] 3)).heap.size by have := HBX.out.size; omega)
        have HOA := Lib.hid (HO.out.below HBA.out)
        have HNV := Lib.hid (own_apart HO.out HO8.out)
        have HQA := Lib.hid (show OwnsI (wr0.alloc (.cells #[.int .i64 o1] 3)) (w.heap.size + 1) v8 S1 from (HO8.out.below (bAlloc (Below.refl _ _) (Nat.le_refl _) _)).lower (by have := HB0.out.size; omega))
        have hq3 : w.heap.size + 1 ≤ w3.heap.size := by have := HB0.out.size; omega
        clear c0 c1 c2 c3 xc hS0 hS hK1
        go_wp2_with (at_builtin; refine wpList_append_all (by rfl) _ _ 24 (by rfl) (w.heap.size + 1) 3 i0 (.int .i64 0) 1 8 Try.underlying24 hi hz0 hz1 hz2 rfl (by omega) (.slice A KL.length c) KL.length (KL.map vI) (by rfl) HOA.out (some ⟨wr0.heap.size, 0, none⟩) 1 1 [.int .i64 o1] (by rfl) (by rfl) (.inr ⟨_, rfl, World.news_of_block (heap_alloc_new _ _)⟩) (by simp [Value.oneCell']) (by unfold maxLen; omega) (by omega) hsz.out ?_; intro A' c' w7 hown7 hgrow7 hkeep7 hat7)
        have HB7 := Lib.hid ((HBX.out.grown hgrow7 hsz.out (fun g hg => (HO.out.lt g hg).1)))
        have HO7 := Lib.hid (own_int hown7)
        have HQ7 := Lib.hid (ownI_stays HQA.out hgrow7 HNV.out)
        have HN7 := Lib.hid (own_apart2 HQA.out HNV.out hat7 (Nat.le_refl _))
        clear hown7 hgrow7 hkeep7 hat7 hsz
        (try go_wp2)
        go_roundw
        case rel => exact ⟨k + 1, A', c', by omega, by go_num, by rw [HKS.out.1, List.length_append]; rfl, by rw [HKS.out.1, List.length_append]; exact HO7.out, by rw [HKS.out.2]; exact HQ7.out, by rw [HKS.out.1, List.length_append]; exact HN7.out, HB7.out⟩
        case measure => simp [intOf] <;> omega
      · obtain rfl : k = xs.length := by omega
        rw [HE.out] at HO ⊢
        clear hlt c0 c1 c2 c3
        go_wp2
        go_ret
        exact ⟨_, rfl, HO.out.lower (by omega), HB.out⟩
end Go.Proofs.Ytedamhkcblemdaa
