/-
  NetStep: the specification.
-/
import Derived.Test.YtedamhkcblemdaaNrA
import Derived.Test.YtedamhkcblemdaaNrB
import Derived.Deep.RegionHeld3
namespace Go.Proofs.Ytedamhkcblemdaa
open Go.RowKit
set_option linter.unusedVariables false
set_option linter.unusedSimpArgs false

set_option maxRecDepth 100000 in
set_option maxHeartbeats 12800000 in
theorem specStep_at (n : DNet) (st : List Int) (xv : Int) (us : List Value) (v : Value) (w : World) (h : rdNet 0 w.heap.size w us n) (hv : rdIntS 0 w.heap.size w [v] st) {L : List Int} {ov : Int} (hL : stepO n st xv = (L, ov)) :
    Calls Try.prog 60 #[.agg us.toArray, v, .int .i64 xv] w fun e w' => ∃ v', e = .returned (.tuple #[v', .int .i64 ov]) ∧ OwnsI w' w.heap.size v' L ∧ Below w.heap.size w w' := by
  obtain ⟨i0, hi, hz0, hz1, hz2⟩ := info_parts infoI
  have HD := Lib.hid h
  have HV := Lib.hid hv
  obtain ⟨f, hf⟩ : ∃ f, stateB n st = f := ⟨_, rfl⟩
  have HF := Lib.hid hf
  have HX := Lib.hid hL
  obtain ⟨vA, vc, rfl, vm, -⟩ := slice_of hv
  clear hf hL hv
  obtain ⟨mu0, mu1, mu2, mu3, rfl, mh0, mh1, mh2, mh3⟩ := h
  obtain ⟨me0, -⟩ := mh0
  injection me0 with me0
  subst me0
  obtain ⟨mA1, mc1, me1, mm1, -⟩ := slice_of mh1
  subst me1
  have mR1 := Lib.hid mh1
  clear mh1
  obtain ⟨mA2, mc2, me2, mm2, -⟩ := slice_of mh2
  subst me2
  have mR2 := Lib.hid mh2
  clear mh2
  obtain ⟨mA3, mc3, me3, mm3, -⟩ := slice_of mh3
  subst me3
  have mR3 := Lib.hid mh3
  clear mh3
  go_enter Try.func60, Try.ntmps60
  go_wp2_with fail
  obtain ⟨W0, hV⟩ : ∃ W0, W0 = ((w.alloc (.cells #[.int .i64 n.1, .slice mA1 (n.2.1).length mc1, .slice mA2 (n.2.2.1).length mc2, .slice mA3 (n.2.2.2).length mc3] 36)).alloc (.cells #[] 3)) := ⟨_, rfl⟩
  have hO0 : OwnsI ((w.alloc (.cells #[.int .i64 n.1, .slice mA1 (n.2.1).length mc1, .slice mA2 (n.2.2.1).length mc2, .slice mA3 (n.2.2.2).length mc3] 36)).alloc (.cells #[] 3)) (w.heap.size + 1) (.slice (some ⟨w.heap.size + 1, 0, none⟩) 0 0) [] := by have := own_newI (w.alloc (.cells #[.int .i64 n.1, .slice mA1 (n.2.1).length mc1, .slice mA2 (n.2.2.1).length mc2, .slice mA3 (n.2.2.2).length mc3] 36)) (w.heap.size + 1) (by simp); simpa using this
  rw [← hV] at hO0 ⊢
  have gN := eqbox2 hV
  have HO := Lib.hid hO0
  have d0 : W0.cell? ⟨w.heap.size, 0, none⟩ = some (.int .i64 n.1) := box_cell gN.1 0 _ rfl
  have d1 : W0.cell? ⟨w.heap.size, 1, none⟩ = some (.slice mA1 (n.2.1).length mc1) := box_cell gN.1 1 _ rfl
  have d2 : W0.cell? ⟨w.heap.size, 2, none⟩ = some (.slice mA2 (n.2.2.1).length mc2) := box_cell gN.1 2 _ rfl
  have d3 : W0.cell? ⟨w.heap.size, 3, none⟩ = some (.slice mA3 (n.2.2.2).length mc3) := box_cell gN.1 3 _ rfl
  have sW0 : W0.heap.size = w.heap.size + 2 := by rw [hV]; simp
  have HW0 := Lib.hid gN.2.2
  clear hV gN hO0
  have HE0 := Lib.hid d0
  have HE1 := Lib.hid d1
  have HE2 := Lib.hid d2
  have HE3 := Lib.hid d3
  refine (specState_at n st _ _ _ (rdUp good_Net HD.out HW0.out) (rdUp good_IntS HV.out HW0.out) HF.out).mono ?_
  rintro e w1 ⟨rfl, hb⟩
  replace d0 := keep hb d0
  replace d1 := keep hb d1
  replace d2 := keep hb d2
  replace d3 := keep hb d3
  have HB02 := Lib.hid hb
  replace HO := Lib.hid (HO.out.below hb)
  clear hb
  cases f with
  | false =>
    have hE := (step_no (x := xv) HF.out).symm.trans HX.out
    injection hE with hE1 hE2
    subst hE1 hE2
    go_wp2
    go_ret2
    exact ⟨_, rfl, HO.out.lower (by omega), bThen HW0.out HB02.out⟩
  | true =>
    have hE := (step_yes (x := xv) HF.out).symm.trans HX.out
    injection hE with hE1 hE2
    have hT := stateP_of HF.out
    have hP := netP_of hT.net
    have HP := Lib.hid hP
    have HST := Lib.hid hT
    have s12 := hP.sz.s12
    have HVL := Lib.hid (valO_lenN xv hT)
    have H01 := Lib.hid (valO_01 xv hT)
    obtain ⟨V, hV⟩ : ∃ V, valO n st xv = V := ⟨_, rfl⟩
    rw [hV] at hE1 hE2 HVL H01
    have HE1x := Lib.hid hE1
    have HE2x := Lib.hid hE2
    have HVV := Lib.hid hV
    have hN1 := hP.sz.net_le
    clear hE1 hE2 hV hP hT
    go_wp2_with fail
    refine (specVals_at n st xv _ _ _ (rdUp good_Net HD.out (bThen HW0.out HB02.out)) (rdUp good_IntS HV.out (bThen HW0.out HB02.out)) HVV.out).mono ?_
    rintro e w2 ⟨v9, rfl, ho, hb⟩
    obtain ⟨G, gc, rfl, hG1, hG2⟩ := own_blk ho (by rw [HVL.out]; omega)
    have hG0 : w.heap.size + 1 < G := by have := HB02.out.size; omega
    have HVO := Lib.hid (show OwnsI w2 (w.heap.size + 1) (.slice (some ⟨G, 0, none⟩) V.length gc) V from ho.lower (by have := HB02.out.size; omega))
    replace d0 := keep hb d0
    replace d1 := keep hb d1
    replace d2 := keep hb d2
    replace d3 := keep hb d3
    replace HB02 := Lib.hid (bThen HB02.out hb)
    replace HO := Lib.hid (HO.out.below hb)
    clear ho hb hG1 hN1
    go_wp2
    clear d0 d1 d2 d3
    go_loopw [8, 10] (fun s z wr => ∃ (k : Nat) (A : Option Addr) (c : Nat), k ≤ n.2.1.length ∧ z = .int .i64 (k : Int) ∧ s = .slice A (nextL n st V k).length c ∧ OwnsI wr (w.heap.size + 1) (.slice A (nextL n st V k).length c) (nextL n st V k) ∧ OwnsI wr (w.heap.size + 1) (.slice (some ⟨G, 0, none⟩) V.length gc) V ∧ (Value.slice A (nextL n st V k).length c).ownBlock ≠ some G ∧ Below (w.heap.size + 1) W0 wr) (fun _ z _ => n.2.1.length - (intOf z).toNat)
    case atStart => exact ⟨0, some ⟨w.heap.size + 1, 0, none⟩, 0, Nat.zero_le _, rfl, by rw [next_zero]; rfl, by rw [next_zero]; exact HO.out, HVO.out, by rw [next_zero]; simp [Value.ownBlock]; omega, HB02.out.mono (by omega)⟩
    case round =>
      obtain ⟨k, A, c, hk, rfl, rfl, hown, hvo, hne, hb⟩ := hrel
      obtain ⟨w3, rfl⟩ : ∃ w3, w3 = wr := ⟨_, rfl⟩
      clear HO HB02 HVO hG2
      have HO := Lib.hid hown
      have HVO := Lib.hid hvo
      have HNE := Lib.hid hne
      have HB0 := Lib.hid hb
      have HB := Lib.hid (show Below w.heap.size w w3 from HW0.out.trans (hb.mono (by omega)))
      have c1 : w3.cell? ⟨w.heap.size, 1, none⟩ = some (.slice mA1 (n.2.1).length mc1) := (hb.cell (p := ⟨w.heap.size, 1, none⟩) (by dsimp only; omega)).trans HE1.out
      have c3 : w3.cell? ⟨w.heap.size, 3, none⟩ = some (.slice mA3 (n.2.2.2).length mc3) := (hb.cell (p := ⟨w.heap.size, 3, none⟩) (by dsimp only; omega)).trans HE3.out
      have hG2 := (hvo.lt G rfl).2
      clear hown hvo hne hb
      by_cases hlt : k < n.2.1.length
      · obtain ⟨s, hs⟩ : ∃ s, n.2.1[k]? = some s := ⟨_, List.getElem?_eq_getElem hlt⟩
        obtain ⟨x, hx⟩ : ∃ x, st[k]? = some x := ⟨_, List.getElem?_eq_getElem (by have := HST.out.len; omega)⟩
        have HLS := Lib.hid (lits_seq HP.out HVL.out hs)
        have HS4 := Lib.hid (show s.2.2.length ≤ 16 by have := (seq_ins (HP.out.seq s (List.mem_of_getElem? hs))).1; omega)
        have tst : (k : Int) < (st.length : Int) := by have := HST.out.len; omega
        obtain ⟨sb, sq, sA, sc, rfl, sb1, x0, -, x1, -, x2, sR⟩ := at_Seq (good_SeqS.below mR1.out (Nat.le_refl _) HB.out) hs
        obtain ⟨vb, vq, rfl, vb1, xc, -⟩ := at_Int (good_IntS.below HV.out (Nat.le_refl _) HB.out) hx
        have sb2 := Nat.lt_of_lt_of_le sb1 HB.out.size
        have vb2 := Nat.lt_of_lt_of_le vb1 HB.out.size
        have HSR := Lib.hid sR
        have HVR := Lib.hid (ownI_rd HVO.out (fit_01 H01.out))
        have tk : (k : Int) < (n.2.1.length : Int) := by omega
        obtain ⟨KL, hK⟩ : ∃ KL, nextL n st V k = KL := ⟨_, rfl⟩
        have hlen : KL.length ≤ 12 := by rw [← hK, next_len]; omega
        obtain ⟨mq, hmq⟩ : ∃ mq, maskV V s.2.2 = mq := ⟨_, rfl⟩
        obtain ⟨y, hy⟩ : ∃ y, seqI s.1 x mq = y := ⟨_, rfl⟩
        have HM := Lib.hid hmq
        have HQ := Lib.hid hy
        have HKS := Lib.hid (show nextL n st V (k + 1) = KL ++ [y] by rw [next_step hs hx, hK, hmq, hy])
        rw [hK] at HO HNE ⊢
        clear hs hx hK hmq hy sb1 vb1 sR x1
        go_wp2_with fail
        have hS0 : (fun w' => Below w3.heap.size w3 w' ∧ w'.cell? ⟨w.heap.size, 1, none⟩ = some (.slice (some ⟨sb, sq, none⟩) (n.2.1).length mc1) ∧ w'.cell? ⟨sb, sq + k * 3, none⟩ = some (.int .i64 s.1) ∧ w'.cell? ⟨sb, sq + k * 3 + 2, none⟩ = some (.slice sA s.2.2.length sc) ∧ w'.cell? ⟨vb, vq + k, none⟩ = some (.int .i64 x)) w3 := ⟨Below.refl _ _, c1, x0, x2, xc⟩
        have hS : ∀ {w0 w' : World}, (fun w' => Below w3.heap.size w3 w' ∧ w'.cell? ⟨w.heap.size, 1, none⟩ = some (.slice (some ⟨sb, sq, none⟩) (n.2.1).length mc1) ∧ w'.cell? ⟨sb, sq + k * 3, none⟩ = some (.int .i64 s.1) ∧ w'.cell? ⟨sb, sq + k * 3 + 2, none⟩ = some (.slice sA s.2.2.length sc) ∧ w'.cell? ⟨vb, vq + k, none⟩ = some (.int .i64 x)) w0 → Below w0.heap.size w0 w' → (fun w' => Below w3.heap.size w3 w' ∧ w'.cell? ⟨w.heap.size, 1, none⟩ = some (.slice (some ⟨sb, sq, none⟩) (n.2.1).length mc1) ∧ w'.cell? ⟨sb, sq + k * 3, none⟩ = some (.int .i64 s.1) ∧ w'.cell? ⟨sb, sq + k * 3 + 2, none⟩ = some (.slice sA s.2.2.length sc) ∧ w'.cell? ⟨vb, vq + k, none⟩ = some (.int .i64 x)) w' := fun h hb => ⟨bThen h.1 hb, keep hb h.2.1, keep hb h.2.2.1, keep hb h.2.2.2.1, keep hb h.2.2.2.2⟩
        dsimp only at hS0 hS
        refine wp_region_noPanic ?_
        refine wp_region_kept 21 23 (fun w' => Below w3.heap.size w3 w' ∧ w'.cell? ⟨w.heap.size, 1, none⟩ = some (.slice (some ⟨sb, sq, none⟩) (n.2.1).length mc1) ∧ w'.cell? ⟨sb, sq + k * 3, none⟩ = some (.int .i64 s.1) ∧ w'.cell? ⟨sb, sq + k * 3 + 2, none⟩ = some (.slice sA s.2.2.length sc) ∧ w'.cell? ⟨vb, vq + k, none⟩ = some (.int .i64 x)) (by kernel_rfl) rfl (hS hS0 (Below.drew (Below.refl _ _))) (fun hK0 => ?_)
        refine Kept.take (v := ?vc0) 0 (by kernel_rfl) rfl (by kernel_rfl) (fun _ _ _ h => h) (Or.inl ⟨by rfl, ?hyc0⟩) hK0 ?restc0
        case hyc0 =>
          intro w0 hSw
          (try dsimp only at hSw)
          go_simp
          all_goals (with_reducible rfl)
        (try simp only [Act.put, List.setIfInBounds_toArray, List.set_cons_zero, List.set_cons_succ])
        refine Kept.take (v := ?vc1) 1 (by kernel_rfl) rfl (by kernel_rfl) (fun _ _ _ h => h) (Or.inl ⟨by rfl, ?hyc1⟩) hK0 ?restc1
        case hyc1 =>
          intro w0 hSw
          (try dsimp only at hSw)
          go_simp
          all_goals (with_reducible rfl)
        (try simp only [Act.put, List.setIfInBounds_toArray, List.set_cons_zero, List.set_cons_succ])
        refine Kept.take (v := ?vc2) 2 (by kernel_rfl) rfl (by kernel_rfl) (fun _ _ _ h => h) (Or.inl ⟨by rfl, ?hyc2⟩) hK0 ?restc2
        case hyc2 =>
          intro w0 hSw
          (try dsimp only at hSw)
          go_simp
          all_goals (with_reducible rfl)
        (try simp only [Act.put, List.setIfInBounds_toArray, List.set_cons_zero, List.set_cons_succ])
        refine Kept.take (v := ?vc3) 3 (by kernel_rfl) rfl (by kernel_rfl) (fun _ _ _ h => h) (Or.inl ⟨by rfl, ?hyc3⟩) hK0 ?restc3
        case hyc3 =>
          intro w0 hSw
          (try dsimp only at hSw)
          go_simp
          all_goals (with_reducible rfl)
        (try simp only [Act.put, List.setIfInBounds_toArray, List.set_cons_zero, List.set_cons_succ])
        refine Kept.take (v := ?vc4) 4 (by kernel_rfl) rfl (by kernel_rfl) (fun _ _ _ h => h) (Or.inl ⟨by rfl, ?hyc4⟩) hK0 ?restc4
        case hyc4 =>
          intro w0 hSw
          (try dsimp only at hSw)
          go_simp
          all_goals (with_reducible rfl)
        (try simp only [Act.put, List.setIfInBounds_toArray, List.set_cons_zero, List.set_cons_succ])
        refine Kept.take (v := ?vc5) 5 (by kernel_rfl) rfl (by kernel_rfl) (fun _ _ _ h => h) (Or.inl ⟨by rfl, ?hyc5⟩) hK0 ?restc5
        case hyc5 =>
          intro w0 hSw
          (try dsimp only at hSw)
          go_simp
          all_goals (with_reducible rfl)
        (try simp only [Act.put, List.setIfInBounds_toArray, List.set_cons_zero, List.set_cons_succ])
        refine Kept.take (v := ?vc6) 6 (by kernel_rfl) rfl (by kernel_rfl) (fun _ _ _ h => h) (Or.inl ⟨by rfl, ?hyc6⟩) hK0 ?restc6
        case hyc6 =>
          intro w0 hSw
          (try dsimp only at hSw)
          go_simp
          all_goals (with_reducible rfl)
        (try simp only [Act.put, List.setIfInBounds_toArray, List.set_cons_zero, List.set_cons_succ])
        refine Kept.take (v := ?vc7) 7 (by kernel_rfl) rfl (by kernel_rfl) (fun _ _ _ h => h) (Or.inl ⟨by rfl, ?hyc7⟩) hK0 ?restc7
        case hyc7 =>
          intro w0 hSw
          (try dsimp only at hSw)
          go_simp
          all_goals (with_reducible rfl)
        (try simp only [Act.put, List.setIfInBounds_toArray, List.set_cons_zero, List.set_cons_succ])
        refine Kept.take (v := ?vc8) 8 (by kernel_rfl) rfl (by kernel_rfl) (fun _ _ _ h => h) (Or.inl ⟨by rfl, ?hyc8⟩) hK0 ?restc8
        case hyc8 =>
          intro w0 hSw
          (try dsimp only at hSw)
          go_simp
          all_goals (with_reducible rfl)
        (try simp only [Act.put, List.setIfInBounds_toArray, List.set_cons_zero, List.set_cons_succ])
        refine Kept.take (v := ?vc9) 9 (by kernel_rfl) rfl (by kernel_rfl) (fun _ _ _ h => h) (Or.inl ⟨by rfl, ?hyc9⟩) hK0 ?restc9
        case hyc9 =>
          intro w0 hSw
          (try dsimp only at hSw)
          go_simp
          all_goals (with_reducible rfl)
        (try simp only [Act.put, List.setIfInBounds_toArray, List.set_cons_zero, List.set_cons_succ])
        refine Kept.take (v := ?vc10) 10 (by kernel_rfl) rfl (by kernel_rfl) (fun _ _ _ h => h) (Or.inl ⟨by rfl, ?hyc10⟩) hK0 ?restc10
        case hyc10 =>
          intro w0 hSw
          (try dsimp only at hSw)
          go_simp
          all_goals (with_reducible rfl)
        (try simp only [Act.put, List.setIfInBounds_toArray, List.set_cons_zero, List.set_cons_succ])
        refine Kept.take (v := ?vc11) 11 (by kernel_rfl) rfl (by kernel_rfl) (fun _ _ _ h => h) (Or.inl ⟨by rfl, ?hyc11⟩) hK0 ?restc11
        case hyc11 =>
          intro w0 hSw
          (try dsimp only at hSw)
          go_simp
          all_goals (with_reducible rfl)
        (try simp only [Act.put, List.setIfInBounds_toArray, List.set_cons_zero, List.set_cons_succ])
        refine Kept.take (v := ?vc12) 12 (by kernel_rfl) rfl (by kernel_rfl) (fun _ _ _ h => h) (Or.inl ⟨by rfl, ?hyc12⟩) hK0 ?restc12
        case hyc12 =>
          intro w0 hSw
          (try dsimp only at hSw)
          go_simp
          all_goals (with_reducible rfl)
        (try simp only [Act.put, List.setIfInBounds_toArray, List.set_cons_zero, List.set_cons_succ])
        refine Kept.take (v := ?vc13) 13 (by kernel_rfl) rfl (by kernel_rfl) (fun _ _ _ h => h) (Or.inl ⟨by rfl, ?hyc13⟩) hK0 ?restc13
        case hyc13 =>
          intro w0 hSw
          (try dsimp only at hSw)
          go_simp
          all_goals (with_reducible rfl)
        (try simp only [Act.put, List.setIfInBounds_toArray, List.set_cons_zero, List.set_cons_succ])
        refine Kept.take (v := ?vc14) 14 (by kernel_rfl) rfl (by kernel_rfl) (fun _ _ _ h => h) (Or.inl ⟨by rfl, ?hyc14⟩) hK0 ?restc14
        case hyc14 =>
          intro w0 hSw
          (try dsimp only at hSw)
          go_simp
          all_goals (with_reducible rfl)
        (try simp only [Act.put, List.setIfInBounds_toArray, List.set_cons_zero, List.set_cons_succ])
        refine Kept.take (v := ?vc15) 15 (by kernel_rfl) rfl (by kernel_rfl) (fun _ _ _ h => h) (Or.inl ⟨by rfl, ?hyc15⟩) hK0 ?restc15
        case hyc15 =>
          intro w0 hSw
          (try dsimp only at hSw)
          go_simp
          all_goals (with_reducible rfl)
        (try simp only [Act.put, List.setIfInBounds_toArray, List.set_cons_zero, List.set_cons_succ])
        refine Kept.take (v := ?vc16) 16 (by kernel_rfl) rfl (by kernel_rfl) (fun _ _ _ h => h) (Or.inl ⟨by rfl, ?hyc16⟩) hK0 ?restc16
        case hyc16 =>
          intro w0 hSw
          (try dsimp only at hSw)
          go_simp
          all_goals (with_reducible rfl)
        (try simp only [Act.put, List.setIfInBounds_toArray, List.set_cons_zero, List.set_cons_succ])
        refine Kept.take (v := ?vc17) 17 (by kernel_rfl) rfl (by kernel_rfl) (fun _ _ _ h => h) (Or.inl ⟨by rfl, ?hyc17⟩) hK0 ?restc17
        case hyc17 =>
          intro w0 hSw
          (try dsimp only at hSw)
          go_simp
          all_goals (with_reducible rfl)
        (try simp only [Act.put, List.setIfInBounds_toArray, List.set_cons_zero, List.set_cons_succ])
        refine Kept.one 18 (by kernel_rfl) rfl (fun K hK => ?_)
        go_simp
        go_at_call 115
        refine (specMask_at V s.2.2 _ _ _ (good_IntS.below HVR.out (Nat.le_refl _) hK0.1) hK0.1.size (good_IntS.below HSR.out HB.out.size hK0.1) (Nat.le_trans HB.out.size hK0.1.size) H01.out HLS.out HS4.out HM.out).mono ?_
        rintro e wr0 ⟨rfl, hbr0⟩
        go_simp
        refine hK.out _ _ (hS hK0 hbr0) (fun hK1 => ?_)
        clear hK K hK0
        (try simp only [Act.put, List.setIfInBounds_toArray, List.set_cons_zero, List.set_cons_succ])
        refine Kept.one 19 (by kernel_rfl) rfl (fun K hK => ?_)
        go_simp
        go_at_call 114
        refine (specSeq_at s.1 x mq _ HQ.out).mono ?_
        rintro e wr1 ⟨rfl, hbr1⟩
        go_simp
        refine hK.out _ _ (hS hK1 hbr1) (fun hK2 => ?_)
        clear hK K hK1
        (try simp only [Act.put, List.setIfInBounds_toArray, List.set_cons_zero, List.set_cons_succ])
        refine Kept.one 20 (by kernel_rfl) rfl (fun K hK => ?_)
        go_simp
        refine hK.out _ _ (hS hK2 (bAlloc (Below.refl _ _) (Nat.le_refl _) _)) (fun hK3 => ?_)
        clear hK K hK2
        (try simp only [Act.put, List.setIfInBounds_toArray, List.set_cons_zero, List.set_cons_succ])
        refine Kept.tail (by rfl) (by kernel_rfl) ?_
        simp only [List.drop_succ_cons, List.drop_zero]
        have HBA := Lib.hid (show Below w3.heap.size w3 (wr1.alloc (.cells #[.int .i64 y] 3)) from hK3.1)
        have HBX := Lib.hid (show Below (w.heap.size + 1) W0 (wr1.alloc (.cells #[.int .i64 y] 3)) from HB0.out.trans (HBA.out.mono (by have := HB0.out.size; omega)))
        have hsz := Lib.hid (show w.heap.size + 1 ≤ (wr1.alloc (.cells #[.int .i64 y] 3)).heap.size by have := HBX.out.size; omega)
        have HOA := Lib.hid (HO.out.below HBA.out)
        have HVA := Lib.hid (HVO.out.below HBA.out)
        have hsG := Lib.hid (show w3.heap.size ≤ (wr1.alloc (.cells #[.int .i64 y] 3)).heap.size from HBA.out.size)
        clear c1 c3 x0 x2 xc hS0 hS hK3
        go_wp2_with (at_builtin; refine wpList_append_all (by rfl) _ _ 24 (by rfl) (w.heap.size + 1) 3 i0 (.int .i64 0) 1 8 Try.underlying24 hi hz0 hz1 hz2 rfl (by omega) (.slice A KL.length c) KL.length (KL.map vI) (by rfl) HOA.out (some ⟨wr1.heap.size, 0, none⟩) 1 1 [.int .i64 y] (by rfl) (by rfl) (.inr ⟨_, rfl, World.news_of_block (heap_alloc_new _ _)⟩) (by simp [Value.oneCell']) (by unfold maxLen; omega) (by omega) hsz.out ?_; intro A' c' w7 hown7 hgrow7 hkeep7 hat7)
        refine NoPanic.normal ?_
        have HB7 := Lib.hid ((HBX.out.grown hgrow7 hsz.out (fun g hg => (HO.out.lt g hg).1)))
        have HO7 := Lib.hid (own_int hown7)
        have HV7 := Lib.hid (ownI_kept HVA.out hgrow7 HNE.out)
        have HN7 := Lib.hid (show (Value.slice A' (KL.length + 1) c').ownBlock ≠ some G from fun e => by
          rcases hat7 with h | h
          · exact HNE.out (h.symm.trans e)
          · rw [e] at h; injection h with h; have := hsG.out; omega)
        clear hown7 hgrow7 hkeep7 hat7 hsz
        go_wp2
        go_roundw
        case rel => exact ⟨k + 1, A', c', by omega, by go_num, by rw [HKS.out, List.length_append]; rfl, by rw [HKS.out, List.length_append]; exact HO7.out, HV7.out, by rw [HKS.out, List.length_append]; exact HN7.out, HB7.out⟩
        case measure => simp [intOf] <;> omega
      · obtain rfl : k = n.2.1.length := by omega
        have HVR := Lib.hid (ownI_rd HVO.out (fit_01 H01.out))
        have HLS := Lib.hid (lits_out (V := V) HP.out HVL.out)
        have HOL := Lib.hid HP.out.sz.o16
        rw [HE1x.out] at HO ⊢
        clear hlt
        go_wp2_with fail
        refine (specMask_at V n.2.2.2 _ _ _ HVR.out (Nat.le_refl _) (good_IntS.below mR3.out (Nat.le_refl _) HB.out) HB.out.size H01.out HLS.out HOL.out HE2x.out).mono ?_
        rintro e w4 ⟨rfl, hb⟩
        have HB4 := Lib.hid (bThen HB.out hb)
        have HO4 := Lib.hid (HO.out.below hb)
        clear hb c1 c3
        go_wp2
        go_ret2
        exact ⟨_, rfl, HO4.out.lower (by omega), HB4.out⟩
end Go.Proofs.Ytedamhkcblemdaa
