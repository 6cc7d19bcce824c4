/-
  StateOk, both sides.
-/
import Derived.Test.YtaebiiopommhdaaNr2
import Derived.Test.YtaebiiopommhdaaNet4
import Derived.Deep.RegionHeld3
namespace Go.Proofs.Ytaebiiopommhdaa
open Go.RowKit
set_option linter.unusedVariables false
set_option linter.unusedSimpArgs false

theorem stK_zero (n : DNet) (st : List Int) : stK n st 0 = true := by simp [stK]
theorem stK_miss {n : DNet} {st : List Int} {k : Nat} {s : DSeq} {x : Int} (hs : n.2.1[k]? = some s) (hx : st[k]? = some x) (hq : valB s.1 x = false) : stateB n st = false := by
  have hk := (List.getElem?_eq_some_iff.1 hs).1
  have : stK n st n.2.1.length = false := by
    unfold stK
    rw [List.all_eq_false]
    exact ⟨k, List.mem_range.2 hk, by simp [hs, hx, hq]⟩
  unfold stateB
  rw [this]
  simp
theorem stK_yes {n : DNet} {st : List Int} {k : Nat} {s : DSeq} {x : Int} (hs : n.2.1[k]? = some s) (hx : st[k]? = some x) (hq : valB s.1 x = true) (h0 : stK n st k = true) : stK n st (k + 1) = true := by
  rw [stK_step (v := x) hs (by rw [List.getD_eq_getElem?_getD, hx]; rfl), h0, hq]; rfl
theorem state_no {n : DNet} {st : List Int} (h : netB n = false) : stateB n st = false := by unfold stateB; rw [h]; rfl
theorem state_len {n : DNet} {st : List Int} (h : ¬ st.length = n.2.1.length) : stateB n st = false := by unfold stateB; rw [decide_eq_false h]; simp
theorem state_end {n : DNet} {st : List Int} (h : netB n = true) (h1 : st.length = n.2.1.length) (h2 : stK n st n.2.1.length = true) : stateB n st = true := by unfold stateB; rw [h, decide_eq_true h1, h2]; rfl
set_option maxRecDepth 100000 in
set_option maxHeartbeats 6400000 in
theorem implState_at (n : DNet) (st : List Int) (us : List Value) (v : Value) (w : World) (h : rdNet 0 w.heap.size w us n) (hv : rdIntS 0 w.heap.size w [v] st) {r : Bool} (hr : stateB n st = r) :
    Calls Try.prog 17 #[.agg us.toArray, v] w fun e w' => e = .returned (.bool r) ∧ Below w.heap.size w w' := by
  have HD := Lib.hid h
  have HV := Lib.hid hv
  obtain ⟨f, hf⟩ : ∃ f, netB n = f := ⟨_, rfl⟩
  have HF := Lib.hid hf
  have HR := Lib.hid hr
  obtain ⟨vA, vc, rfl, vm, -⟩ := slice_of hv
  clear hf hr hv
  obtain ⟨mu0, mu1, mu2, mu3, rfl, mh0, mh1, mh2, mh3⟩ := h
  obtain ⟨me0, -⟩ := mh0
  injection me0 with me0
  subst me0
  obtain ⟨mA1, mc1, me1, mm1, -⟩ := slice_of mh1
  subst me1
  have mR1 := Lib.hid mh1
  clear mh1
  obtain ⟨mA2, mc2, me2, mm2, -⟩ := slice_of mh2
  subst me2
  have mR2 := Lib.hid mh2
  clear mh2
  obtain ⟨mA3, mc3, me3, mm3, -⟩ := slice_of mh3
  subst me3
  have mR3 := Lib.hid mh3
  clear mh3
  go_enter Try.func17, Try.ntmps17
  go_wp2_with fail
  obtain ⟨W0, hV⟩ : ∃ W0, W0 = (w.alloc (.cells #[.int .i64 n.1, .slice mA1 (n.2.1).length mc1, .slice mA2 (n.2.2.1).length mc2, .slice mA3 (n.2.2.2).length mc3] 28)) := ⟨_, rfl⟩
  rw [← hV]
  have gN := eqbox1 hV
  have d0 : W0.cell? ⟨w.heap.size, 0, none⟩ = some (.int .i64 n.1) := box_cell gN.1 0 _ rfl
  have d1 : W0.cell? ⟨w.heap.size, 1, none⟩ = some (.slice mA1 (n.2.1).length mc1) := box_cell gN.1 1 _ rfl
  have d2 : W0.cell? ⟨w.heap.size, 2, none⟩ = some (.slice mA2 (n.2.2.1).length mc2) := box_cell gN.1 2 _ rfl
  have d3 : W0.cell? ⟨w.heap.size, 3, none⟩ = some (.slice mA3 (n.2.2.2).length mc3) := box_cell gN.1 3 _ rfl
  have sW0 : W0.heap.size = w.heap.size + 1 := by rw [hV]; simp
  have HW0 := Lib.hid gN.2
  clear hV gN
  refine (implNetOk_at n _ _ (rdUp good_Net HD.out HW0.out) HF.out).mono ?_
  rintro e w1 ⟨rfl, hb⟩
  replace d0 := keep hb d0
  replace d1 := keep hb d1
  replace d2 := keep hb d2
  replace d3 := keep hb d3
  have HB := Lib.hid (bThen HW0.out hb)
  clear hb
  cases f with
  | false =>
    have HE := Lib.hid ((state_no HF.out).symm.trans HR.out)
    go_wp2
    go_ret
    exact ⟨ret_bool HE.out, HB.out⟩
  | true =>
    have hs12 := (netP_of HF.out).sz.s12
    by_cases hl : st.length = n.2.1.length
    case neg =>
      have HE := Lib.hid ((state_len hl).symm.trans HR.out)
      have hl2 : ((st.length : Int) != (n.2.1.length : Int)) = true := by simp; omega
      go_wp2
      go_ret
      exact ⟨ret_bool HE.out, HB.out⟩
    have hl2 : ((st.length : Int) != (n.2.1.length : Int)) = false := by simp; omega
    have HL := Lib.hid hl
    go_wp2
    go_loopw [21] (fun x wr => ∃ k : Nat, k ≤ n.2.1.length ∧ x = .int .i64 (k : Int) ∧ stK n st k = true ∧ Below w1.heap.size w1 wr) (fun x _ => n.2.1.length - (intOf x).toNat)
    case atStart => exact ⟨0, Nat.zero_le _, rfl, stK_zero _ _, by (repeat' (first | assumption | exact Below.refl _ _ | refine bDrewN ?_ _ | refine Below.drew ?_ | refine bAlloc ?_ (Nat.le_refl _) _ | refine bSet ?_ (by first | exact Nat.le_refl _ | omega | (simp <;> omega)) _))⟩
    case round =>
      obtain ⟨k, hk, rfl, hall, hb⟩ := hrel
      obtain ⟨w2, rfl⟩ : ∃ w2, w2 = wr := ⟨_, rfl⟩
      have HB2 := Lib.hid (bThen HB.out hb)
      have HA := Lib.hid hall
      replace d0 := keep hb d0
      replace d1 := keep hb d1
      replace d2 := keep hb d2
      replace d3 := keep hb d3
      have HB12 := Lib.hid hb
      clear hb hall
      have tl : (st.length : Int) = (n.2.1.length : Int) := by have := HL.out; omega
      by_cases hlt : k < n.2.1.length
      · obtain ⟨s, hs⟩ : ∃ s, n.2.1[k]? = some s := ⟨_, List.getElem?_eq_getElem hlt⟩
        obtain ⟨x, hx⟩ : ∃ x, st[k]? = some x := ⟨_, List.getElem?_eq_getElem (by have := HL.out; omega)⟩
        have HS := Lib.hid hs
        have HX := Lib.hid hx
        obtain ⟨sb, sq, sA, sc, rfl, sb1, x0, -, x1, -, x2, sR⟩ := at_Seq (good_SeqS.below mR1.out (Nat.le_refl _) HB2.out) hs
        obtain ⟨vb, vq, rfl, vb1, xc, -⟩ := at_Int (good_IntS.below HV.out (Nat.le_refl _) HB2.out) hx
        have sb2 := Nat.lt_of_lt_of_le sb1 HB2.out.size
        have vb2 := Nat.lt_of_lt_of_le vb1 HB2.out.size
        have tk : (k : Int) < (n.2.1.length : Int) := by omega
        have tk2 : (k : Int) < (st.length : Int) := by omega
        obtain ⟨q, hq⟩ : ∃ q, valB s.1 x = q := ⟨_, rfl⟩
        have HQ := Lib.hid hq
        clear hs hx sR sb1 vb1 hq
        go_wp2_with fail
        obtain ⟨V, hV⟩ : ∃ V, V = w2.alloc (.cells #[.int .i64 s.1, .int .i64 s.2.1, .slice sA s.2.2.length sc] 67) := ⟨_, rfl⟩
        rw [← hV]
        have gN := eqbox1 hV
        have y0 : V.cell? ⟨w2.heap.size, 0, none⟩ = some (.int .i64 s.1) := box_cell gN.1 0 _ rfl
        replace d0 := keep gN.2 d0
        replace d1 := keep gN.2 d1
        replace d2 := keep gN.2 d2
        replace d3 := keep gN.2 d3
        replace xc := keep gN.2 xc
        have HB3 := Lib.hid (bThen HB2.out gN.2)
        have HBQ := Lib.hid (bThen HB12.out gN.2)
        clear hV gN x0 x1 x2
        have hS0 : (fun w' => Below V.heap.size V w' ∧ w'.cell? ⟨w.heap.size, 0, none⟩ = some (.int .i64 n.1) ∧ w'.cell? ⟨w.heap.size, 1, none⟩ = some (.slice (some ⟨sb, sq, none⟩) (n.2.1).length mc1) ∧ w'.cell? ⟨w.heap.size, 2, none⟩ = some (.slice mA2 (n.2.2.1).length mc2) ∧ w'.cell? ⟨w.heap.size, 3, none⟩ = some (.slice mA3 (n.2.2.2).length mc3) ∧ w'.cell? ⟨w2.heap.size, 0, none⟩ = some (.int .i64 s.1) ∧ w'.cell? ⟨vb, vq + k, none⟩ = some (.int .i64 x)) V := ⟨Below.refl _ _, d0, d1, d2, d3, y0, xc⟩
        have hS : ∀ {w0 w' : World}, (fun w' => Below V.heap.size V w' ∧ w'.cell? ⟨w.heap.size, 0, none⟩ = some (.int .i64 n.1) ∧ w'.cell? ⟨w.heap.size, 1, none⟩ = some (.slice (some ⟨sb, sq, none⟩) (n.2.1).length mc1) ∧ w'.cell? ⟨w.heap.size, 2, none⟩ = some (.slice mA2 (n.2.2.1).length mc2) ∧ w'.cell? ⟨w.heap.size, 3, none⟩ = some (.slice mA3 (n.2.2.2).length mc3) ∧ w'.cell? ⟨w2.heap.size, 0, none⟩ = some (.int .i64 s.1) ∧ w'.cell? ⟨vb, vq + k, none⟩ = some (.int .i64 x)) w0 → Below w0.heap.size w0 w' → (fun w' => Below V.heap.size V w' ∧ w'.cell? ⟨w.heap.size, 0, none⟩ = some (.int .i64 n.1) ∧ w'.cell? ⟨w.heap.size, 1, none⟩ = some (.slice (some ⟨sb, sq, none⟩) (n.2.1).length mc1) ∧ w'.cell? ⟨w.heap.size, 2, none⟩ = some (.slice mA2 (n.2.2.1).length mc2) ∧ w'.cell? ⟨w.heap.size, 3, none⟩ = some (.slice mA3 (n.2.2.2).length mc3) ∧ w'.cell? ⟨w2.heap.size, 0, none⟩ = some (.int .i64 s.1) ∧ w'.cell? ⟨vb, vq + k, none⟩ = some (.int .i64 x)) w' := fun h hb => ⟨bThen h.1 hb, keep hb h.2.1, keep hb h.2.2.1, keep hb h.2.2.2.1, keep hb h.2.2.2.2.1, keep hb h.2.2.2.2.2.1, keep hb h.2.2.2.2.2.2⟩
        dsimp only at hS0 hS
        refine wp_region_noPanic ?_
        refine wp_region_kept 6 8 (fun w' => Below V.heap.size V w' ∧ w'.cell? ⟨w.heap.size, 0, none⟩ = some (.int .i64 n.1) ∧ w'.cell? ⟨w.heap.size, 1, none⟩ = some (.slice (some ⟨sb, sq, none⟩) (n.2.1).length mc1) ∧ w'.cell? ⟨w.heap.size, 2, none⟩ = some (.slice mA2 (n.2.2.1).length mc2) ∧ w'.cell? ⟨w.heap.size, 3, none⟩ = some (.slice mA3 (n.2.2.2).length mc3) ∧ w'.cell? ⟨w2.heap.size, 0, none⟩ = some (.int .i64 s.1) ∧ w'.cell? ⟨vb, vq + k, none⟩ = some (.int .i64 x)) (by kernel_rfl) rfl (hS hS0 (Below.drew (Below.refl _ _))) (fun hK0 => ?_)
        refine Kept.take (v := ?va0) 0 (by kernel_rfl) rfl (by kernel_rfl) (fun _ _ _ h => h) (Or.inl ⟨by rfl, ?hya0⟩) hK0 ?resta0
        case hya0 =>
          intro w0 hSw
          (try dsimp only at hSw)
          go_simp
          all_goals (with_reducible rfl)
        (try simp only [Act.put, List.setIfInBounds_toArray, List.set_cons_zero, List.set_cons_succ])
        refine Kept.take (v := ?va1) 1 (by kernel_rfl) rfl (by kernel_rfl) (fun _ _ _ h => h) (Or.inl ⟨by rfl, ?hya1⟩) hK0 ?resta1
        case hya1 =>
          intro w0 hSw
          (try dsimp only at hSw)
          go_simp
          all_goals (with_reducible rfl)
        (try simp only [Act.put, List.setIfInBounds_toArray, List.set_cons_zero, List.set_cons_succ])
        refine Kept.take (v := ?va2) 2 (by kernel_rfl) rfl (by kernel_rfl) (fun _ _ _ h => h) (Or.inl ⟨by rfl, ?hya2⟩) hK0 ?resta2
        case hya2 =>
          intro w0 hSw
          (try dsimp only at hSw)
          go_simp
          all_goals (with_reducible rfl)
        (try simp only [Act.put, List.setIfInBounds_toArray, List.set_cons_zero, List.set_cons_succ])
        refine Kept.take (v := ?va3) 3 (by kernel_rfl) rfl (by kernel_rfl) (fun _ _ _ h => h) (Or.inl ⟨by rfl, ?hya3⟩) hK0 ?resta3
        case hya3 =>
          intro w0 hSw
          (try dsimp only at hSw)
          go_simp
          all_goals (with_reducible rfl)
        (try simp only [Act.put, List.setIfInBounds_toArray, List.set_cons_zero, List.set_cons_succ])
        refine Kept.take (v := ?va4) 4 (by kernel_rfl) rfl (by kernel_rfl) (fun _ _ _ h => h) (Or.inl ⟨by rfl, ?hya4⟩) hK0 ?resta4
        case hya4 =>
          intro w0 hSw
          (try dsimp only at hSw)
          go_simp
          all_goals (with_reducible rfl)
        (try simp only [Act.put, List.setIfInBounds_toArray, List.set_cons_zero, List.set_cons_succ])
        refine Kept.take (v := ?va5) 5 (by kernel_rfl) rfl (by kernel_rfl) (fun _ _ _ h => h) (Or.inl ⟨by rfl, ?hya5⟩) hK0 ?resta5
        case hya5 =>
          intro w0 hSw
          (try dsimp only at hSw)
          go_simp
          all_goals (with_reducible rfl)
        (try simp only [Act.put, List.setIfInBounds_toArray, List.set_cons_zero, List.set_cons_succ])
        refine Kept.tail (by rfl) (by kernel_rfl) ?_
        simp only [List.drop_succ_cons, List.drop_zero]
        go_wp2_with fail
        refine (seqVal_at s.1 x _ HQ.out).mono ?_
        rintro e w3 ⟨rfl, hb⟩
        have HB4 := Lib.hid (bThen HB3.out (bThen hK0.1 hb))
        have HB5 := Lib.hid (bThen HBQ.out (bThen hK0.1 hb))
        clear hb hK0 hS0 hS y0 xc d0 d1 d2 d3
        go_wp2
        refine NoPanic.normal ?_
        cases q with
        | false =>
          have HE := Lib.hid ((stK_miss HS.out HX.out HQ.out).symm.trans HR.out)
          go_wp2
          go_ret
          exact ⟨ret_bool HE.out, HB4.out⟩
        | true =>
          have HY := Lib.hid (stK_yes HS.out HX.out HQ.out HA.out)
          go_wp2
          go_roundw
          case rel => exact ⟨k + 1, by omega, by go_num, HY.out, HB5.out⟩
          case measure => simp [intOf]; omega
      · obtain rfl : k = n.2.1.length := by omega
        have HE := Lib.hid ((state_end HF.out HL.out HA.out).symm.trans HR.out)
        go_wp2
        go_ret
        exact ⟨ret_bool HE.out, HB2.out⟩
set_option maxRecDepth 100000 in
set_option maxHeartbeats 6400000 in
theorem specState_at (n : DNet) (st : List Int) (us : List Value) (v : Value) (w : World) (h : rdNet 0 w.heap.size w us n) (hv : rdIntS 0 w.heap.size w [v] st) {r : Bool} (hr : stateB n st = r) :
    Calls Try.prog 26 #[.agg us.toArray, v] w fun e w' => e = .returned (.bool r) ∧ Below w.heap.size w w' := by
  have HD := Lib.hid h
  have HV := Lib.hid hv
  obtain ⟨f, hf⟩ : ∃ f, netB n = f := ⟨_, rfl⟩
  have HF := Lib.hid hf
  have HR := Lib.hid hr
  obtain ⟨vA, vc, rfl, vm, -⟩ := slice_of hv
  clear hf hr hv
  obtain ⟨mu0, mu1, mu2, mu3, rfl, mh0, mh1, mh2, mh3⟩ := h
  obtain ⟨me0, -⟩ := mh0
  injection me0 with me0
  subst me0
  obtain ⟨mA1, mc1, me1, mm1, -⟩ := slice_of mh1
  subst me1
  have mR1 := Lib.hid mh1
  clear mh1
  obtain ⟨mA2, mc2, me2, mm2, -⟩ := slice_of mh2
  subst me2
  have mR2 := Lib.hid mh2
  clear mh2
  obtain ⟨mA3, mc3, me3, mm3, -⟩ := slice_of mh3
  subst me3
  have mR3 := Lib.hid mh3
  clear mh3
  go_enter Try.func26, Try.ntmps26
  go_wp2_with fail
  obtain ⟨W0, hV⟩ : ∃ W0, W0 = (w.alloc (.cells #[.int .i64 n.1, .slice mA1 (n.2.1).length mc1, .slice mA2 (n.2.2.1).length mc2, .slice mA3 (n.2.2.2).length mc3] 28)) := ⟨_, rfl⟩
  rw [← hV]
  have gN := eqbox1 hV
  have d0 : W0.cell? ⟨w.heap.size, 0, none⟩ = some (.int .i64 n.1) := box_cell gN.1 0 _ rfl
  have d1 : W0.cell? ⟨w.heap.size, 1, none⟩ = some (.slice mA1 (n.2.1).length mc1) := box_cell gN.1 1 _ rfl
  have d2 : W0.cell? ⟨w.heap.size, 2, none⟩ = some (.slice mA2 (n.2.2.1).length mc2) := box_cell gN.1 2 _ rfl
  have d3 : W0.cell? ⟨w.heap.size, 3, none⟩ = some (.slice mA3 (n.2.2.2).length mc3) := box_cell gN.1 3 _ rfl
  have sW0 : W0.heap.size = w.heap.size + 1 := by rw [hV]; simp
  have HW0 := Lib.hid gN.2
  clear hV gN
  refine (specNetOk_at n _ _ (rdUp good_Net HD.out HW0.out) HF.out).mono ?_
  rintro e w1 ⟨rfl, hb⟩
  replace d0 := keep hb d0
  replace d1 := keep hb d1
  replace d2 := keep hb d2
  replace d3 := keep hb d3
  have HB := Lib.hid (bThen HW0.out hb)
  clear hb
  cases f with
  | false =>
    have HE := Lib.hid ((state_no HF.out).symm.trans HR.out)
    go_wp2
    go_ret
    exact ⟨ret_bool HE.out, HB.out⟩
  | true =>
    have hs12 := (netP_of HF.out).sz.s12
    by_cases hl : st.length = n.2.1.length
    case neg =>
      have HE := Lib.hid ((state_len hl).symm.trans HR.out)
      have hl2 : ((st.length : Int) != (n.2.1.length : Int)) = true := by simp; omega
      go_wp2
      go_ret
      exact ⟨ret_bool HE.out, HB.out⟩
    have hl2 : ((st.length : Int) != (n.2.1.length : Int)) = false := by simp; omega
    have HL := Lib.hid hl
    go_wp2
    go_loopw [5] (fun x wr => ∃ k : Nat, k ≤ n.2.1.length ∧ x = .int .i64 (k : Int) ∧ stK n st k = true ∧ Below w1.heap.size w1 wr) (fun x _ => n.2.1.length - (intOf x).toNat)
    case atStart => exact ⟨0, Nat.zero_le _, rfl, stK_zero _ _, by (repeat' (first | assumption | exact Below.refl _ _ | refine bDrewN ?_ _ | refine Below.drew ?_ | refine bAlloc ?_ (Nat.le_refl _) _ | refine bSet ?_ (by first | exact Nat.le_refl _ | omega | (simp <;> omega)) _))⟩
    case round =>
      obtain ⟨k, hk, rfl, hall, hb⟩ := hrel
      obtain ⟨w2, rfl⟩ : ∃ w2, w2 = wr := ⟨_, rfl⟩
      have HB2 := Lib.hid (bThen HB.out hb)
      have HA := Lib.hid hall
      replace d0 := keep hb d0
      replace d1 := keep hb d1
      replace d2 := keep hb d2
      replace d3 := keep hb d3
      have HB12 := Lib.hid hb
      clear hb hall
      have tl : (st.length : Int) = (n.2.1.length : Int) := by have := HL.out; omega
      by_cases hlt : k < n.2.1.length
      · obtain ⟨s, hs⟩ : ∃ s, n.2.1[k]? = some s := ⟨_, List.getElem?_eq_getElem hlt⟩
        obtain ⟨x, hx⟩ : ∃ x, st[k]? = some x := ⟨_, List.getElem?_eq_getElem (by have := HL.out; omega)⟩
        have HS := Lib.hid hs
        have HX := Lib.hid hx
        obtain ⟨sb, sq, sA, sc, rfl, sb1, x0, -, x1, -, x2, sR⟩ := at_Seq (good_SeqS.below mR1.out (Nat.le_refl _) HB2.out) hs
        obtain ⟨vb, vq, rfl, vb1, xc, -⟩ := at_Int (good_IntS.below HV.out (Nat.le_refl _) HB2.out) hx
        have sb2 := Nat.lt_of_lt_of_le sb1 HB2.out.size
        have vb2 := Nat.lt_of_lt_of_le vb1 HB2.out.size
        have tk : (k : Int) < (n.2.1.length : Int) := by omega
        have tk2 : (k : Int) < (st.length : Int) := by omega
        obtain ⟨q, hq⟩ : ∃ q, valB s.1 x = q := ⟨_, rfl⟩
        have HQ := Lib.hid hq
        clear hs hx sR sb1 vb1 x1 x2
        go_wp2_with fail
        have hS0 : (fun w' => Below w2.heap.size w2 w' ∧ w'.cell? ⟨w.heap.size, 0, none⟩ = some (.int .i64 n.1) ∧ w'.cell? ⟨w.heap.size, 1, none⟩ = some (.slice (some ⟨sb, sq, none⟩) (n.2.1).length mc1) ∧ w'.cell? ⟨w.heap.size, 2, none⟩ = some (.slice mA2 (n.2.2.1).length mc2) ∧ w'.cell? ⟨w.heap.size, 3, none⟩ = some (.slice mA3 (n.2.2.2).length mc3) ∧ w'.cell? ⟨sb, sq + k * 3, none⟩ = some (.int .i64 s.1) ∧ w'.cell? ⟨vb, vq + k, none⟩ = some (.int .i64 x)) w2 := ⟨Below.refl _ _, d0, d1, d2, d3, x0, xc⟩
        have hS : ∀ {w0 w' : World}, (fun w' => Below w2.heap.size w2 w' ∧ w'.cell? ⟨w.heap.size, 0, none⟩ = some (.int .i64 n.1) ∧ w'.cell? ⟨w.heap.size, 1, none⟩ = some (.slice (some ⟨sb, sq, none⟩) (n.2.1).length mc1) ∧ w'.cell? ⟨w.heap.size, 2, none⟩ = some (.slice mA2 (n.2.2.1).length mc2) ∧ w'.cell? ⟨w.heap.size, 3, none⟩ = some (.slice mA3 (n.2.2.2).length mc3) ∧ w'.cell? ⟨sb, sq + k * 3, none⟩ = some (.int .i64 s.1) ∧ w'.cell? ⟨vb, vq + k, none⟩ = some (.int .i64 x)) w0 → Below w0.heap.size w0 w' → (fun w' => Below w2.heap.size w2 w' ∧ w'.cell? ⟨w.heap.size, 0, none⟩ = some (.int .i64 n.1) ∧ w'.cell? ⟨w.heap.size, 1, none⟩ = some (.slice (some ⟨sb, sq, none⟩) (n.2.1).length mc1) ∧ w'.cell? ⟨w.heap.size, 2, none⟩ = some (.slice mA2 (n.2.2.1).length mc2) ∧ w'.cell? ⟨w.heap.size, 3, none⟩ = some (.slice mA3 (n.2.2.2).length mc3) ∧ w'.cell? ⟨sb, sq + k * 3, none⟩ = some (.int .i64 s.1) ∧ w'.cell? ⟨vb, vq + k, none⟩ = some (.int .i64 x)) w' := fun h hb => ⟨bThen h.1 hb, keep hb h.2.1, keep hb h.2.2.1, keep hb h.2.2.2.1, keep hb h.2.2.2.2.1, keep hb h.2.2.2.2.2.1, keep hb h.2.2.2.2.2.2⟩
        dsimp only at hS0 hS
        refine wp_region_noPanic ?_
        refine wp_region_kept 10 12 (fun w' => Below w2.heap.size w2 w' ∧ w'.cell? ⟨w.heap.size, 0, none⟩ = some (.int .i64 n.1) ∧ w'.cell? ⟨w.heap.size, 1, none⟩ = some (.slice (some ⟨sb, sq, none⟩) (n.2.1).length mc1) ∧ w'.cell? ⟨w.heap.size, 2, none⟩ = some (.slice mA2 (n.2.2.1).length mc2) ∧ w'.cell? ⟨w.heap.size, 3, none⟩ = some (.slice mA3 (n.2.2.2).length mc3) ∧ w'.cell? ⟨sb, sq + k * 3, none⟩ = some (.int .i64 s.1) ∧ w'.cell? ⟨vb, vq + k, none⟩ = some (.int .i64 x)) (by kernel_rfl) rfl (hS hS0 (Below.drew (Below.refl _ _))) (fun hK0 => ?_)
        refine Kept.take (v := ?va0) 0 (by kernel_rfl) rfl (by kernel_rfl) (fun _ _ _ h => h) (Or.inl ⟨by rfl, ?hya0⟩) hK0 ?resta0
        case hya0 =>
          intro w0 hSw
          (try dsimp only at hSw)
          go_simp
          all_goals (with_reducible rfl)
        (try simp only [Act.put, List.setIfInBounds_toArray, List.set_cons_zero, List.set_cons_succ])
        refine Kept.take (v := ?va1) 1 (by kernel_rfl) rfl (by kernel_rfl) (fun _ _ _ h => h) (Or.inl ⟨by rfl, ?hya1⟩) hK0 ?resta1
        case hya1 =>
          intro w0 hSw
          (try dsimp only at hSw)
          go_simp
          all_goals (with_reducible rfl)
        (try simp only [Act.put, List.setIfInBounds_toArray, List.set_cons_zero, List.set_cons_succ])
        refine Kept.take (v := ?va2) 2 (by kernel_rfl) rfl (by kernel_rfl) (fun _ _ _ h => h) (Or.inl ⟨by rfl, ?hya2⟩) hK0 ?resta2
        case hya2 =>
          intro w0 hSw
          (try dsimp only at hSw)
          go_simp
          all_goals (with_reducible rfl)
        (try simp only [Act.put, List.setIfInBounds_toArray, List.set_cons_zero, List.set_cons_succ])
        refine Kept.take (v := ?va3) 3 (by kernel_rfl) rfl (by kernel_rfl) (fun _ _ _ h => h) (Or.inl ⟨by rfl, ?hya3⟩) hK0 ?resta3
        case hya3 =>
          intro w0 hSw
          (try dsimp only at hSw)
          go_simp
          all_goals (with_reducible rfl)
        (try simp only [Act.put, List.setIfInBounds_toArray, List.set_cons_zero, List.set_cons_succ])
        refine Kept.take (v := ?va4) 4 (by kernel_rfl) rfl (by kernel_rfl) (fun _ _ _ h => h) (Or.inl ⟨by rfl, ?hya4⟩) hK0 ?resta4
        case hya4 =>
          intro w0 hSw
          (try dsimp only at hSw)
          go_simp
          all_goals (with_reducible rfl)
        (try simp only [Act.put, List.setIfInBounds_toArray, List.set_cons_zero, List.set_cons_succ])
        refine Kept.take (v := ?va5) 5 (by kernel_rfl) rfl (by kernel_rfl) (fun _ _ _ h => h) (Or.inl ⟨by rfl, ?hya5⟩) hK0 ?resta5
        case hya5 =>
          intro w0 hSw
          (try dsimp only at hSw)
          go_simp
          all_goals (with_reducible rfl)
        (try simp only [Act.put, List.setIfInBounds_toArray, List.set_cons_zero, List.set_cons_succ])
        refine Kept.take (v := ?va6) 6 (by kernel_rfl) rfl (by kernel_rfl) (fun _ _ _ h => h) (Or.inl ⟨by rfl, ?hya6⟩) hK0 ?resta6
        case hya6 =>
          intro w0 hSw
          (try dsimp only at hSw)
          go_simp
          all_goals (with_reducible rfl)
        (try simp only [Act.put, List.setIfInBounds_toArray, List.set_cons_zero, List.set_cons_succ])
        refine Kept.take (v := ?va7) 7 (by kernel_rfl) rfl (by kernel_rfl) (fun _ _ _ h => h) (Or.inl ⟨by rfl, ?hya7⟩) hK0 ?resta7
        case hya7 =>
          intro w0 hSw
          (try dsimp only at hSw)
          go_simp
          all_goals (with_reducible rfl)
        (try simp only [Act.put, List.setIfInBounds_toArray, List.set_cons_zero, List.set_cons_succ])
        refine Kept.take (v := ?va8) 8 (by kernel_rfl) rfl (by kernel_rfl) (fun _ _ _ h => h) (Or.inl ⟨by rfl, ?hya8⟩) hK0 ?resta8
        case hya8 =>
          intro w0 hSw
          (try dsimp only at hSw)
          go_simp
          all_goals (with_reducible rfl)
        (try simp only [Act.put, List.setIfInBounds_toArray, List.set_cons_zero, List.set_cons_succ])
        refine Kept.take (v := ?va9) 9 (by kernel_rfl) rfl (by kernel_rfl) (fun _ _ _ h => h) (Or.inl ⟨by rfl, ?hya9⟩) hK0 ?resta9
        case hya9 =>
          intro w0 hSw
          (try dsimp only at hSw)
          go_simp
          all_goals (with_reducible rfl)
        (try simp only [Act.put, List.setIfInBounds_toArray, List.set_cons_zero, List.set_cons_succ])
        refine Kept.tail (by rfl) (by kernel_rfl) ?_
        simp only [List.drop_succ_cons, List.drop_zero]
        obtain ⟨z, hz⟩ : ∃ z, seqI s.1 x 0 = z := ⟨_, rfl⟩
        have HZ := Lib.hid hz
        have hzq : decide (z < 0) = !q := by rw [← hz, seqI_neg, hq]
        clear hz hq
        go_wp2_with fail
        refine (specSeq_at s.1 x 0 _ HZ.out).mono ?_
        rintro e w3 ⟨rfl, hb⟩
        have HB4 := Lib.hid (bThen HB2.out (bThen hK0.1 hb))
        have HB5 := Lib.hid (bThen HB12.out (bThen hK0.1 hb))
        clear hb hK0 hS0 hS x0 xc d0 d1 d2 d3
        go_wp2
        refine NoPanic.normal ?_
        clear hzq
        cases q with
        | false =>
          have HE := Lib.hid ((stK_miss HS.out HX.out HQ.out).symm.trans HR.out)
          go_wp2
          go_ret
          exact ⟨ret_bool HE.out, HB4.out⟩
        | true =>
          have HY := Lib.hid (stK_yes HS.out HX.out HQ.out HA.out)
          go_wp2
          go_roundw
          case rel => exact ⟨k + 1, by omega, by go_num, HY.out, HB5.out⟩
          case measure => simp [intOf]; omega
      · obtain rfl : k = n.2.1.length := by omega
        have HE := Lib.hid ((state_end HF.out HL.out HA.out).symm.trans HR.out)
        go_wp2
        go_ret
        exact ⟨ret_bool HE.out, HB2.out⟩
end Go.Proofs.Ytaebiiopommhdaa
