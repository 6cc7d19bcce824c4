/-
  One cycle of a running net; NetStep of the program.
-/
import Derived.Test.YtedamhkcblemdaaNrA
import Derived.Test.YtedamhkcblemdaaNrB
import Derived.Test.YtedamhkcblemdaaDmN
import Derived.Test.YtedamhkcblemdaaDoN
import Derived.Deep.RegionHeld3
namespace Go.Proofs.Ytedamhkcblemdaa
open Go.RowKit
set_option linter.unusedVariables false
set_option linter.unusedSimpArgs false

theorem grown_store {w w1 : World} {rb o : Nat} {u : Value} (h : Below w.heap.size w w1) : w.grownBy (w1.setCell ⟨rb, o, none⟩ u) (some rb) :=
  ⟨h.os, h.tape, h.output, by rw [World.size_setCell]; exact h.size, fun j hj hne => (Below.heap_setCell w1 ⟨rb, o, none⟩ u j (fun e => hne (by rw [e]))).trans (h.block j hj)⟩
theorem grown_below {w w1 w2 : World} {row : Option Nat} (h : w.grownBy w1 row) (hb : Below w1.heap.size w1 w2) : w.grownBy w2 row :=
  ⟨hb.os.trans h.os, hb.tape.trans h.tape, hb.output.trans h.output, Nat.le_trans h.size hb.size, fun j hj hne => (hb.block j (Nat.lt_of_lt_of_le hj h.size)).trans (h.block j hj hne)⟩
theorem froz_below {w w1 : World} {b o : Nat} {u : Value} (hb : Below w.heap.size w w1) (hc : w.cell? ⟨b, o, none⟩ = some u) (hf : w.frozen? ⟨b, o, none⟩ = false) : w1.frozen? ⟨b, o, none⟩ = false := by
  rw [World.frozen?_of_block (hb.block b (World.block_lt_of_cell? _ _ hc))]; exact hf
set_option maxRecDepth 100000 in
set_option maxHeartbeats 12800000 in
theorem implStepR_at (n : DNet) (st : List Int) (xv : Int) (rb : Nat) (us : List Value) (v : Value) (w : World) (h : rdNet 0 rb w us n) (hv : rdIntS 0 w.heap.size w [v] st)
    (hc : ∀ (i : Nat) (u : Value), us[i]? = some u → w.cell? ⟨rb, i, none⟩ = some u) (hc4 : w.cell? ⟨rb, 4, none⟩ = some v) (hz4 : w.frozen? ⟨rb, 4, none⟩ = false) (hT : StateP n st) {L : List Int} {ov : Int} (hL : stepO n st xv = (L, ov)) :
    Calls Try.prog 57 #[.pointer (some ⟨rb, 0, none⟩), .int .i64 xv] w fun e w' => ∃ v', e = .returned (.int .i64 ov) ∧ w'.cell? ⟨rb, 4, none⟩ = some v' ∧ w'.frozen? ⟨rb, 4, none⟩ = false ∧ OwnsI w' w.heap.size v' L ∧ w.grownBy w' (some rb) ∧ ∀ (i : Nat) (u : Value), us[i]? = some u → w'.cell? ⟨rb, i, none⟩ = some u := by
  obtain ⟨i0, hi, hz0, hz1, hz2⟩ := info_parts infoI
  have HD := Lib.hid h
  have HV := Lib.hid hv
  have HCC := Lib.hid hc
  have hrb : rb < w.heap.size := World.block_lt_of_cell? w _ hc4
  have hrbl : rb ≤ w.heap.size := Nat.le_of_lt hrb
  have hE := (step_yes (x := xv) (stateB_of hT)).symm.trans hL
  injection hE with hE1 hE2
  have hP := netP_of hT.net
  have HP := Lib.hid hP
  have HST := Lib.hid hT
  have s12 := hP.sz.s12
  have HVL := Lib.hid (valO_lenN xv hT)
  have H01 := Lib.hid (valO_01 xv hT)
  obtain ⟨V, hV⟩ : ∃ V, valO n st xv = V := ⟨_, rfl⟩
  rw [hV] at hE1 hE2 HVL H01
  have HE1x := Lib.hid hE1
  have HE2x := Lib.hid hE2
  have HVV := Lib.hid hV
  have HZ4 := Lib.hid hz4
  have HC4 := Lib.hid hc4
  have hN1 := hP.sz.net_le
  obtain ⟨vA, vc, rfl, vm, -⟩ := slice_of hv
  have hul : us.length = 4 := by obtain ⟨_, _, _, _, e, _⟩ := h; rw [e]; rfl
  obtain ⟨mu0, mu1, mu2, mu3, rfl, mh0, mh1, mh2, mh3⟩ := h
  obtain ⟨me0, -⟩ := mh0
  injection me0 with me0
  subst me0
  obtain ⟨mA1, mc1, me1, mm1, -⟩ := slice_of mh1
  subst me1
  have mR1 := Lib.hid mh1
  clear mh1
  obtain ⟨mA2, mc2, me2, mm2, -⟩ := slice_of mh2
  subst me2
  have mR2 := Lib.hid mh2
  clear mh2
  obtain ⟨mA3, mc3, me3, mm3, -⟩ := slice_of mh3
  subst me3
  have mR3 := Lib.hid mh3
  clear mh3
  have HE1 := Lib.hid (hc 1 _ rfl)
  have HE3 := Lib.hid (hc 3 _ rfl)
  have HE4 := Lib.hid hc4
  clear hc hc4 hz4 hE1 hE2 hV hP hT hL hv hul
  go_enter Try.func57, Try.ntmps57
  go_wp2_with fail
  refine (implRunVals_at n st xv rb _ _ w (good_Net.wider HD.out (Nat.le_refl _) hrbl) HV.out HCC.out HE4.out HST.out HVV.out).mono ?_
  rintro e w2 ⟨v9, rfl, ho, hb⟩
  obtain ⟨G, gc, rfl, hG1, hG2⟩ := own_blk ho (by rw [HVL.out]; omega)
  have HVO := Lib.hid ho
  have HB02 := Lib.hid hb
  have hrg : rb < G := by omega
  have d1 := keep hb HE1.out
  clear ho hb hN1
  go_wp2
  clear d1
  have HO := Lib.hid (own_nilI w2 w.heap.size)
  go_loopw [6, 18] (fun s z wr => ∃ (k : Nat) (A : Option Addr) (c : Nat), k ≤ n.2.1.length ∧ z = .int .i64 (k : Int) ∧ s = .slice A (nextL n st V k).length c ∧ OwnsI wr w.heap.size (.slice A (nextL n st V k).length c) (nextL n st V k) ∧ OwnsI wr w.heap.size (.slice (some ⟨G, 0, none⟩) V.length gc) V ∧ (Value.slice A (nextL n st V k).length c).ownBlock ≠ some G ∧ Below w.heap.size w wr) (fun _ z _ => n.2.1.length - (intOf z).toNat)
  case atStart => exact ⟨0, none, 0, Nat.zero_le _, rfl, by rw [next_zero]; rfl, by rw [next_zero]; exact HO.out, HVO.out, by simp [Value.ownBlock], HB02.out⟩
  case round =>
    obtain ⟨k, A, c, hk, rfl, rfl, hown, hvo, hne, hb⟩ := hrel
    obtain ⟨w3, rfl⟩ : ∃ w3, w3 = wr := ⟨_, rfl⟩
    clear HO HB02 HVO hG2
    have HO := Lib.hid hown
    have HVO := Lib.hid hvo
    have HNE := Lib.hid hne
    have HB := Lib.hid hb
    have c4 := keep hb HE4.out
    have hG2 := (hvo.lt G rfl).2
    clear hown hvo hne hb
    by_cases hlt : k < n.2.1.length
    · obtain ⟨s, hs⟩ : ∃ s, n.2.1[k]? = some s := ⟨_, List.getElem?_eq_getElem hlt⟩
      obtain ⟨x, hx⟩ : ∃ x, st[k]? = some x := ⟨_, List.getElem?_eq_getElem (by have := HST.out.len; omega)⟩
      have HLS := Lib.hid (lits_seq HP.out HVL.out hs)
      have HS4 := Lib.hid (show s.2.2.length ≤ 16 by have := (seq_ins (HP.out.seq s (List.mem_of_getElem? hs))).1; omega)
      have tst : (k : Int) < (st.length : Int) := by have := HST.out.len; omega
      obtain ⟨sb, sq, sA, sc, rfl, sb1, x0, -, x1, -, x2, sR⟩ := at_Seq (good_SeqS.below mR1.out hrbl HB.out) hs
      obtain ⟨vb, vq, rfl, vb1, xc, -⟩ := at_Int (good_IntS.below HV.out (Nat.le_refl _) HB.out) hx
      have sb2 := Nat.lt_of_lt_of_le sb1 (Nat.le_trans hrbl HB.out.size)
      have vb2 := Nat.lt_of_lt_of_le vb1 HB.out.size
      have tk : (k : Int) < (n.2.1.length : Int) := by omega
      obtain ⟨KL, hK⟩ : ∃ KL, nextL n st V k = KL := ⟨_, rfl⟩
      have hlen : KL.length ≤ 12 := by rw [← hK, next_len]; omega
      obtain ⟨mq, hmq⟩ : ∃ mq, maskV V s.2.2 = mq := ⟨_, rfl⟩
      obtain ⟨y, hy⟩ : ∃ y, seqI s.1 x mq = y := ⟨_, rfl⟩
      have HM := Lib.hid hmq
      have HQ := Lib.hid hy
      have HKS := Lib.hid (show nextL n st V (k + 1) = KL ++ [y] by rw [next_step hs hx, hK, hmq, hy])
      rw [hK] at HO HNE ⊢
      have HSR0 := Lib.hid sR
      clear hs hx hK hmq hy sb1 vb1 sR
      go_wp2_with fail
      obtain ⟨VB, hVB⟩ : ∃ VB, VB = w3.alloc (.cells #[.int .i64 s.1, .int .i64 s.2.1, .slice sA s.2.2.length sc] 103) := ⟨_, rfl⟩
      rw [← hVB]
      have gN := eqbox1 hVB
      have y0 : VB.cell? ⟨w3.heap.size, 0, none⟩ = some (.int .i64 s.1) := box_cell gN.1 0 _ rfl
      have y2 : VB.cell? ⟨w3.heap.size, 2, none⟩ = some (.slice sA s.2.2.length sc) := box_cell gN.1 2 _ rfl
      replace c4 := keep gN.2 c4
      replace xc := keep gN.2 xc
      have HBV := Lib.hid (bThen HB.out gN.2)
      have HOV := Lib.hid (HO.out.below gN.2)
      have HVV2 := Lib.hid (HVO.out.below gN.2)
      have HVR := Lib.hid (ownI_rd HVV2.out (fit_01 H01.out))
      have HSR := Lib.hid (good_IntS.below HSR0.out (Nat.le_trans hrbl HB.out.size) gN.2)
      have hrV : rb ≤ VB.heap.size := Nat.le_trans hrbl HBV.out.size
      have hGV : G < VB.heap.size := (HVV2.out.lt G rfl).2
      clear hVB gN x0 x1 x2
      have hS0 : (fun w' => Below VB.heap.size VB w' ∧ w'.cell? ⟨rb, 4, none⟩ = some (.slice (some ⟨vb, vq, none⟩) st.length vc) ∧ w'.cell? ⟨w3.heap.size, 0, none⟩ = some (.int .i64 s.1) ∧ w'.cell? ⟨w3.heap.size, 2, none⟩ = some (.slice sA s.2.2.length sc) ∧ w'.cell? ⟨vb, vq + k, none⟩ = some (.int .i64 x)) VB := ⟨Below.refl _ _, c4, y0, y2, xc⟩
      have hS : ∀ {w0 w' : World}, (fun w' => Below VB.heap.size VB w' ∧ w'.cell? ⟨rb, 4, none⟩ = some (.slice (some ⟨vb, vq, none⟩) st.length vc) ∧ w'.cell? ⟨w3.heap.size, 0, none⟩ = some (.int .i64 s.1) ∧ w'.cell? ⟨w3.heap.size, 2, none⟩ = some (.slice sA s.2.2.length sc) ∧ w'.cell? ⟨vb, vq + k, none⟩ = some (.int .i64 x)) w0 → Below w0.heap.size w0 w' → (fun w' => Below VB.heap.size VB w' ∧ w'.cell? ⟨rb, 4, none⟩ = some (.slice (some ⟨vb, vq, none⟩) st.length vc) ∧ w'.cell? ⟨w3.heap.size, 0, none⟩ = some (.int .i64 s.1) ∧ w'.cell? ⟨w3.heap.size, 2, none⟩ = some (.slice sA s.2.2.length sc) ∧ w'.cell? ⟨vb, vq + k, none⟩ = some (.int .i64 x)) w' := fun h hb => ⟨bThen h.1 hb, keep hb h.2.1, keep hb h.2.2.1, keep hb h.2.2.2.1, keep hb h.2.2.2.2⟩
      dsimp only at hS0 hS
      refine wp_region_noPanic ?_
      refine wp_region_kept 16 18 (fun w' => Below VB.heap.size VB w' ∧ w'.cell? ⟨rb, 4, none⟩ = some (.slice (some ⟨vb, vq, none⟩) st.length vc) ∧ w'.cell? ⟨w3.heap.size, 0, none⟩ = some (.int .i64 s.1) ∧ w'.cell? ⟨w3.heap.size, 2, none⟩ = some (.slice sA s.2.2.length sc) ∧ w'.cell? ⟨vb, vq + k, none⟩ = some (.int .i64 x)) (by kernel_rfl) rfl (hS hS0 (Below.drew (Below.refl _ _))) (fun hK0 => ?_)
      refine Kept.take (v := ?vc0) 0 (by kernel_rfl) rfl (by kernel_rfl) (fun _ _ _ h => h) (Or.inl ⟨by rfl, ?hyc0⟩) hK0 ?restc0
      case hyc0 =>
        intro w0 hSw
        (try dsimp only at hSw)
        go_simp
        all_goals (with_reducible rfl)
      (try simp only [Act.put, List.setIfInBounds_toArray, List.set_cons_zero, List.set_cons_succ])
      refine Kept.take (v := ?vc1) 1 (by kernel_rfl) rfl (by kernel_rfl) (fun _ _ _ h => h) (Or.inl ⟨by rfl, ?hyc1⟩) hK0 ?restc1
      case hyc1 =>
        intro w0 hSw
        (try dsimp only at hSw)
        go_simp
        all_goals (with_reducible rfl)
      (try simp only [Act.put, List.setIfInBounds_toArray, List.set_cons_zero, List.set_cons_succ])
      refine Kept.take (v := ?vc2) 2 (by kernel_rfl) rfl (by kernel_rfl) (fun _ _ _ h => h) (Or.inl ⟨by rfl, ?hyc2⟩) hK0 ?restc2
      case hyc2 =>
        intro w0 hSw
        (try dsimp only at hSw)
        go_simp
        all_goals (with_reducible rfl)
      (try simp only [Act.put, List.setIfInBounds_toArray, List.set_cons_zero, List.set_cons_succ])
      refine Kept.take (v := ?vc3) 3 (by kernel_rfl) rfl (by kernel_rfl) (fun _ _ _ h => h) (Or.inl ⟨by rfl, ?hyc3⟩) hK0 ?restc3
      case hyc3 =>
        intro w0 hSw
        (try dsimp only at hSw)
        go_simp
        all_goals (with_reducible rfl)
      (try simp only [Act.put, List.setIfInBounds_toArray, List.set_cons_zero, List.set_cons_succ])
      refine Kept.take (v := ?vc4) 4 (by kernel_rfl) rfl (by kernel_rfl) (fun _ _ _ h => h) (Or.inl ⟨by rfl, ?hyc4⟩) hK0 ?restc4
      case hyc4 =>
        intro w0 hSw
        (try dsimp only at hSw)
        go_simp
        all_goals (with_reducible rfl)
      (try simp only [Act.put, List.setIfInBounds_toArray, List.set_cons_zero, List.set_cons_succ])
      refine Kept.take (v := ?vc5) 5 (by kernel_rfl) rfl (by kernel_rfl) (fun _ _ _ h => h) (Or.inl ⟨by rfl, ?hyc5⟩) hK0 ?restc5
      case hyc5 =>
        intro w0 hSw
        (try dsimp only at hSw)
        go_simp
        all_goals (with_reducible rfl)
      (try simp only [Act.put, List.setIfInBounds_toArray, List.set_cons_zero, List.set_cons_succ])
      refine Kept.take (v := ?vc6) 6 (by kernel_rfl) rfl (by kernel_rfl) (fun _ _ _ h => h) (Or.inl ⟨by rfl, ?hyc6⟩) hK0 ?restc6
      case hyc6 =>
        intro w0 hSw
        (try dsimp only at hSw)
        go_simp
        all_goals (with_reducible rfl)
      (try simp only [Act.put, List.setIfInBounds_toArray, List.set_cons_zero, List.set_cons_succ])
      refine Kept.take (v := ?vc7) 7 (by kernel_rfl) rfl (by kernel_rfl) (fun _ _ _ h => h) (Or.inl ⟨by rfl, ?hyc7⟩) hK0 ?restc7
      case hyc7 =>
        intro w0 hSw
        (try dsimp only at hSw)
        go_simp
        all_goals (with_reducible rfl)
      (try simp only [Act.put, List.setIfInBounds_toArray, List.set_cons_zero, List.set_cons_succ])
      refine Kept.take (v := ?vc8) 8 (by kernel_rfl) rfl (by kernel_rfl) (fun _ _ _ h => h) (Or.inl ⟨by rfl, ?hyc8⟩) hK0 ?restc8
      case hyc8 =>
        intro w0 hSw
        (try dsimp only at hSw)
        go_simp
        all_goals (with_reducible rfl)
      (try simp only [Act.put, List.setIfInBounds_toArray, List.set_cons_zero, List.set_cons_succ])
      refine Kept.take (v := ?vc9) 9 (by kernel_rfl) rfl (by kernel_rfl) (fun _ _ _ h => h) (Or.inl ⟨by rfl, ?hyc9⟩) hK0 ?restc9
      case hyc9 =>
        intro w0 hSw
        (try dsimp only at hSw)
        go_simp
        all_goals (with_reducible rfl)
      (try simp only [Act.put, List.setIfInBounds_toArray, List.set_cons_zero, List.set_cons_succ])
      refine Kept.take (v := ?vc10) 10 (by kernel_rfl) rfl (by kernel_rfl) (fun _ _ _ h => h) (Or.inl ⟨by rfl, ?hyc10⟩) hK0 ?restc10
      case hyc10 =>
        intro w0 hSw
        (try dsimp only at hSw)
        go_simp
        all_goals (with_reducible rfl)
      (try simp only [Act.put, List.setIfInBounds_toArray, List.set_cons_zero, List.set_cons_succ])
      refine Kept.take (v := ?vc11) 11 (by kernel_rfl) rfl (by kernel_rfl) (fun _ _ _ h => h) (Or.inl ⟨by rfl, ?hyc11⟩) hK0 ?restc11
      case hyc11 =>
        intro w0 hSw
        (try dsimp only at hSw)
        go_simp
        all_goals (with_reducible rfl)
      (try simp only [Act.put, List.setIfInBounds_toArray, List.set_cons_zero, List.set_cons_succ])
      refine Kept.take (v := ?vc12) 12 (by kernel_rfl) rfl (by kernel_rfl) (fun _ _ _ h => h) (Or.inl ⟨by rfl, ?hyc12⟩) hK0 ?restc12
      case hyc12 =>
        intro w0 hSw
        (try dsimp only at hSw)
        go_simp
        all_goals (with_reducible rfl)
      (try simp only [Act.put, List.setIfInBounds_toArray, List.set_cons_zero, List.set_cons_succ])
      refine Kept.one 13 (by kernel_rfl) rfl (fun K hK => ?_)
      go_simp
      go_at_call 110
      refine (implBits_at V s.2.2 _ _ _ (good_IntS.below HVR.out (Nat.le_refl _) hK0.1) hK0.1.size (good_IntS.below HSR.out hrV hK0.1) (Nat.le_trans hrV hK0.1.size) H01.out HLS.out HS4.out HM.out).mono ?_
      rintro e wr0 ⟨rfl, hbr0⟩
      go_simp
      refine hK.out _ _ (hS hK0 hbr0) (fun hK1 => ?_)
      clear hK K hK0
      (try simp only [Act.put, List.setIfInBounds_toArray, List.set_cons_zero, List.set_cons_succ])
      refine Kept.one 14 (by kernel_rfl) rfl (fun K hK => ?_)
      go_simp
      go_at_call 109
      refine (implSeq_at s.1 x mq _ HQ.out).mono ?_
      rintro e wr1 ⟨rfl, hbr1⟩
      go_simp
      refine hK.out _ _ (hS hK1 hbr1) (fun hK2 => ?_)
      clear hK K hK1
      (try simp only [Act.put, List.setIfInBounds_toArray, List.set_cons_zero, List.set_cons_succ])
      refine Kept.one 15 (by kernel_rfl) rfl (fun K hK => ?_)
      go_simp
      refine hK.out _ _ (hS hK2 (bAlloc (Below.refl _ _) (Nat.le_refl _) _)) (fun hK3 => ?_)
      clear hK K hK2
      (try simp only [Act.put, List.setIfInBounds_toArray, List.set_cons_zero, List.set_cons_succ])
      refine Kept.tail (by rfl) (by kernel_rfl) ?_
      simp only [List.drop_succ_cons, List.drop_zero]
      have HBA := Lib.hid (show Below VB.heap.size VB (wr1.alloc (.cells #[.int .i64 y] 3)) from hK3.1)
      have HBX := Lib.hid (show Below w.heap.size w (wr1.alloc (.cells #[.int .i64 y] 3)) from bThen HBV.out HBA.out)
      have hsz := Lib.hid (show w.heap.size ≤ (wr1.alloc (.cells #[.int .i64 y] 3)).heap.size from HBX.out.size)
      have HOA := Lib.hid (HOV.out.below HBA.out)
      have HVA := Lib.hid (HVV2.out.below HBA.out)
      have hsG := Lib.hid (show VB.heap.size ≤ (wr1.alloc (.cells #[.int .i64 y] 3)).heap.size from HBA.out.size)
      clear c4 y0 y2 xc hS0 hS hK3
      go_wp2_with (at_builtin; refine wpList_append_all (by rfl) _ _ 24 (by rfl) w.heap.size 3 i0 (.int .i64 0) 1 8 Try.underlying24 hi hz0 hz1 hz2 rfl (by omega) (.slice A KL.length c) KL.length (KL.map vI) (by rfl) HOA.out (some ⟨wr1.heap.size, 0, none⟩) 1 1 [.int .i64 y] (by rfl) (by rfl) (.inr ⟨_, rfl, World.news_of_block (heap_alloc_new _ _)⟩) (by simp [Value.oneCell']) (by unfold maxLen; omega) (by omega) hsz.out ?_; intro A' c' w7 hown7 hgrow7 hkeep7 hat7)
      refine NoPanic.normal ?_
      have HB7 := Lib.hid ((HBX.out.grown hgrow7 hsz.out (fun g hg => (HO.out.lt g hg).1)))
      have HO7 := Lib.hid (own_int hown7)
      have HV7 := Lib.hid (ownI_kept HVA.out hgrow7 HNE.out)
      have HN7 := Lib.hid (show (Value.slice A' (KL.length + 1) c').ownBlock ≠ some G from fun e => by
        rcases hat7 with h | h
        · exact HNE.out (h.symm.trans e)
        · rw [e] at h; injection h with h; have := hsG.out; omega)
      clear hown7 hgrow7 hkeep7 hat7 hsz
      go_wp2
      go_roundw
      case rel => exact ⟨k + 1, A', c', by omega, by go_num, by rw [HKS.out, List.length_append]; rfl, by rw [HKS.out, List.length_append]; exact HO7.out, HV7.out, by rw [HKS.out, List.length_append]; exact HN7.out, HB7.out⟩
      case measure => simp [intOf] <;> omega
    · obtain rfl : k = n.2.1.length := by omega
      have HLS := Lib.hid (lits_out (V := V) HP.out HVL.out)
      have HOL := Lib.hid HP.out.sz.o16
      rw [HE1x.out] at HO HNE ⊢
      have c3 := keep HB.out HE3.out
      have z4 : w3.frozen? ⟨rb, 4, none⟩ = false := froz_below HB.out HC4.out HZ4.out
      have hrb3 : rb < w3.heap.size := Nat.lt_of_lt_of_le hrb HB.out.size
      obtain ⟨W5, hW5⟩ : ∃ W5, W5 = w3.setCell ⟨rb, 4, none⟩ (.slice A L.length c) := ⟨_, rfl⟩
      have c3s : (w3.setCell ⟨rb, 4, none⟩ (.slice A L.length c)).cell? ⟨rb, 3, none⟩ = some (.slice mA3 (n.2.2.2).length mc3) := set_far c3 (by decide)
      have c4s : W5.cell? ⟨rb, 4, none⟩ = some (.slice A L.length c) := by rw [hW5]; exact set_same c4
      have z4s : W5.frozen? ⟨rb, 4, none⟩ = false := by rw [hW5]; exact set_froz z4
      have HG5 := Lib.hid (show w.grownBy W5 (some rb) by rw [hW5]; exact grown_store HB.out)
      have HO5 := Lib.hid (show OwnsI W5 w.heap.size (.slice A L.length c) L by rw [hW5]; exact ownI_far HO.out (fun e => by have := (HO.out.lt _ e).1; omega))
      have HV5 := Lib.hid (show OwnsI W5 w.heap.size (.slice (some ⟨G, 0, none⟩) V.length gc) V by rw [hW5]; exact ownI_far HVO.out (fun e => by injection e with e; dsimp only at e; omega))
      have HVR := Lib.hid (ownI_rd HV5.out (fit_01 H01.out))
      have HCU := Lib.hid (show ∀ (i : Nat) (u : Value), [.int .i64 n.1, .slice mA1 (n.2.1).length mc1, .slice mA2 (n.2.2.1).length mc2, .slice mA3 (n.2.2.2).length mc3][i]? = some u → W5.cell? ⟨rb, i, none⟩ = some u from fun i u hu => by
        rw [hW5]
        have hi4 : i < 4 := (List.getElem?_eq_some_iff.1 hu).1
        exact set_far (keep HB.out (HCC.out i u hu)) (by omega))
      have HC4S := Lib.hid c4s
      have HZ4S := Lib.hid z4s
      clear hlt c4s z4s
      go_wp2_with fail
      rw [← hW5]
      clear c3s hW5 c3 c4 z4
      have hB5 := Lib.hid (good_IntS 0 rb 0 rb w W5 _ _ mR3.out (Nat.le_refl _) (Nat.le_refl _) fun b _ hlt => HG5.out.block b (by omega) (fun e => by injection e with e; omega))
      refine (implBits_at V n.2.2.2 _ _ _ HVR.out (Nat.le_refl _) hB5.out (Nat.le_trans hrbl HG5.out.size) H01.out HLS.out HOL.out HE2x.out).mono ?_
      rintro e w6 ⟨rfl, hb⟩
      have HRES := Lib.hid (show w6.cell? ⟨rb, 4, none⟩ = some (.slice A L.length c) ∧ w6.frozen? ⟨rb, 4, none⟩ = false ∧ OwnsI w6 w.heap.size (.slice A L.length c) L ∧ w.grownBy w6 (some rb) ∧ ∀ (i : Nat) (u : Value), [.int .i64 n.1, .slice mA1 (n.2.1).length mc1, .slice mA2 (n.2.2.1).length mc2, .slice mA3 (n.2.2.2).length mc3][i]? = some u → w6.cell? ⟨rb, i, none⟩ = some u from ⟨keep hb HC4S.out, froz_below hb HC4S.out HZ4S.out, HO5.out.below hb, grown_below HG5.out hb, fun i u hu => keep hb (HCU.out i u hu)⟩)
      clear hb hB5
      go_wp2
      go_ret
      exact ⟨_, rfl, HRES.out⟩
end Go.Proofs.Ytedamhkcblemdaa
