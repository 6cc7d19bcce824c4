/-
  NodeValues: the specification.
-/
import Derived.Test.YtaebiiopommhdaaNr3
import Derived.Test.YtaebiiopommhdaaNet6
import Derived.Deep.RegionHeld3
namespace Go.Proofs.Ytaebiiopommhdaa
open Go.RowKit
set_option linter.unusedVariables false
set_option linter.unusedSimpArgs false

theorem vals_no {n : DNet} {st : List Int} {x : Int} (h : stateB n st = false) : valO n st x = [] := by unfold valO; rw [h]; rfl
theorem vals_yes {n : DNet} {st : List Int} {x : Int} (h : stateB n st = true) : valO n st x = valK n st x n.2.2.1.length := by unfold valO; rw [if_pos h]
theorem fit_01 {L : List Int} (h : ∀ j, 0 ≤ L.getD j 0 ∧ L.getD j 0 ≤ 1) : ∀ x ∈ L, Fit x := fun x hx => by
  obtain ⟨j, hj, rfl⟩ := List.getElem_of_mem hx
  have := h j
  rw [List.getD_eq_getElem?_getD, List.getElem?_eq_getElem hj] at this
  unfold Fit
  simp only [Option.getD_some] at this
  omega
theorem get_of_len {L : List Int} {j N : Nat} (hl : L.length = N) (h : j < N) : L[j]? = some (L.getD j 0) := by
  rw [List.getD_eq_getElem?_getD, List.getElem?_eq_getElem (by omega)]; rfl
theorem and_bit : ∀ (a b : Fin 2), bits .and .i64 (a.val : Int) (b.val : Int) = ((a.val * b.val : Nat) : Int) := by decide
theorem and_01 {a b : Int} (ha : 0 ≤ a ∧ a ≤ 1) (hb : 0 ≤ b ∧ b ≤ 1) : bits .and .i64 a b = a * b := by
  obtain ⟨p, rfl⟩ := Int.eq_ofNat_of_zero_le ha.1
  obtain ⟨q, rfl⟩ := Int.eq_ofNat_of_zero_le hb.1
  have := and_bit ⟨p, by omega⟩ ⟨q, by omega⟩
  dsimp only at this
  rw [this, Int.natCast_mul]
theorem shr_var (x : Int) {k : Nat} (h : k ≤ 64) : x / 2 ^ min (k : Int).toNat 64 = x / 2 ^ k := by rw [show min (k : Int).toNat 64 = k by omega]
theorem regK_step {n : DNet} {st : List Int} {xv x : Int} {k : Nat} (hx : st[k]? = some x) : regK n st xv (k + 1) = (regK n st xv k).set (1 + n.1.toNat + k) (x % 2) := by
  conv => lhs; unfold regK
  rw [List.getD_eq_getElem?_getD, hx]
  rfl
theorem valK_step {n : DNet} {st : List Int} {x : Int} {k p q : Nat} (ha : n.2.2.1[k]? = some ((p : Int), (q : Int))) : valK n st x (k + 1) = (valK n st x k).set (firN n + k) (bitV (valK n st x k) p * bitV (valK n st x k) q) := by
  conv => lhs; unfold valK
  rw [ha]
  rfl
set_option maxRecDepth 100000 in
set_option maxHeartbeats 12800000 in
theorem specVals_at (n : DNet) (st : List Int) (xv : Int) (us : List Value) (v : Value) (w : World) (h : rdNet 0 w.heap.size w us n) (hv : rdIntS 0 w.heap.size w [v] st) {L : List Int} (hL : valO n st xv = L) :
    Calls Try.prog 31 #[.agg us.toArray, v, .int .i64 xv] w fun e w' => ∃ v', e = .returned v' ∧ OwnsI w' w.heap.size v' L ∧ Below w.heap.size w w' := by
  obtain ⟨i0, hi, hz0, hz1, hz2⟩ := info_parts infoI
  have HD := Lib.hid h
  have HV := Lib.hid hv
  obtain ⟨f, hf⟩ : ∃ f, stateB n st = f := ⟨_, rfl⟩
  have HF := Lib.hid hf
  have HX := Lib.hid hL
  obtain ⟨vA, vc, rfl, vm, -⟩ := slice_of hv
  clear hf hL hv
  obtain ⟨mu0, mu1, mu2, mu3, rfl, mh0, mh1, mh2, mh3⟩ := h
  obtain ⟨me0, -⟩ := mh0
  injection me0 with me0
  subst me0
  obtain ⟨mA1, mc1, me1, mm1, -⟩ := slice_of mh1
  subst me1
  have mR1 := Lib.hid mh1
  clear mh1
  obtain ⟨mA2, mc2, me2, mm2, -⟩ := slice_of mh2
  subst me2
  have mR2 := Lib.hid mh2
  clear mh2
  obtain ⟨mA3, mc3, me3, mm3, -⟩ := slice_of mh3
  subst me3
  have mR3 := Lib.hid mh3
  clear mh3
  go_enter Try.func31, Try.ntmps31
  go_wp2_with fail
  obtain ⟨W0, hV⟩ : ∃ W0, W0 = (w.alloc (.cells #[.int .i64 n.1, .slice mA1 (n.2.1).length mc1, .slice mA2 (n.2.2.1).length mc2, .slice mA3 (n.2.2.2).length mc3] 28)) := ⟨_, rfl⟩
  rw [← hV]
  have gN := eqbox1 hV
  have d0 : W0.cell? ⟨w.heap.size, 0, none⟩ = some (.int .i64 n.1) := box_cell gN.1 0 _ rfl
  have d1 : W0.cell? ⟨w.heap.size, 1, none⟩ = some (.slice mA1 (n.2.1).length mc1) := box_cell gN.1 1 _ rfl
  have d2 : W0.cell? ⟨w.heap.size, 2, none⟩ = some (.slice mA2 (n.2.2.1).length mc2) := box_cell gN.1 2 _ rfl
  have d3 : W0.cell? ⟨w.heap.size, 3, none⟩ = some (.slice mA3 (n.2.2.2).length mc3) := box_cell gN.1 3 _ rfl
  have sW0 : W0.heap.size = w.heap.size + 1 := by rw [hV]; simp
  have HW0 := Lib.hid gN.2
  clear hV gN
  have HE0 := Lib.hid d0
  have HE1 := Lib.hid d1
  have HE2 := Lib.hid d2
  have HE3 := Lib.hid d3
  refine (specState_at n st _ _ _ (rdUp good_Net HD.out HW0.out) (rdUp good_IntS HV.out HW0.out) HF.out).mono ?_
  rintro e w0 ⟨rfl, hb⟩
  replace d0 := keep hb d0
  replace d1 := keep hb d1
  replace d2 := keep hb d2
  replace d3 := keep hb d3
  have HB := Lib.hid (bThen HW0.out hb)
  have HB00 := Lib.hid hb
  clear hb
  cases f with
  | false =>
    have HE := Lib.hid ((vals_no HF.out).symm.trans HX.out)
    go_wp2
    go_ret
    refine ⟨_, rfl, ?_, bAlloc HB.out (Nat.le_refl _) _⟩
    rw [← HE.out]
    exact own_newI _ _ HB.out.size
  | true =>
    have HE := Lib.hid ((vals_yes HF.out).symm.trans HX.out)
    have hT := stateP_of HF.out
    have hP := netP_of hT.net
    have HP := Lib.hid hP
    have HSP := Lib.hid hP.sz
    have a300 := hP.sz.a300
    have s12 := hP.sz.s12
    have hsl := hT.len
    have HST := Lib.hid hT
    obtain ⟨N, hN⟩ : ∃ N : Nat, netN n = N := ⟨_, rfl⟩
    have hN3 : N ≤ 333 := by rw [← hN]; exact hP.sz.net_le.1
    have HNC := Lib.hid (show ncI n = (N : Int) by rw [hP.sz.nc, hN])
    have HN := Lib.hid hN
    obtain ⟨I, hI⟩ : ∃ I : Nat, n.1.toNat = I := ⟨_, rfl⟩
    have hi0 : n.1 = (I : Int) := by rw [← hI]; exact hP.sz.i0
    have i20 : I ≤ 20 := by rw [← hI]; exact hP.sz.i20
    have hfN1 : 1 + I + n.2.1.length + n.2.2.1.length = N := by rw [← hN, ← hI]; unfold netN firN; omega
    have HI := Lib.hid hI
    have HI0 := Lib.hid hi0
    have HFN1 := Lib.hid hfN1
    clear hP hN hT hI hi0 hfN1
    go_wp2_with fail
    refine (specNc_at n _ _ (rdUp good_Net HD.out HB.out) (Nat.le_refl _) HNC.out).mono ?_
    rintro e w1 ⟨rfl, hb⟩
    replace d0 := keep hb d0
    replace d1 := keep hb d1
    replace d2 := keep hb d2
    replace d3 := keep hb d3
    have HB01 := Lib.hid (bThen HB00.out hb)
    clear hb HB00 HB
    go_wp2_with (at_make; refine wpList_make_full _ rfl _ _ 26 rfl w1.heap.size 3 i0 (.int .i64 0) 1 Try.underlying26 hi hz0 hz1 .i64 .i64 (N : Int) (N : Int) N rfl rfl rfl rfl (by rw [hz2]; omega) (by unfold maxLen; omega) (Nat.le_refl _) ?_; intro w2 hown1 hgrow1; replace d0 := grownC hgrow1 d0 (by intro e; cases e); replace d1 := grownC hgrow1 d1 (by intro e; cases e); replace d2 := grownC hgrow1 d2 (by intro e; cases e); replace d3 := grownC hgrow1 d3 (by intro e; cases e))
    have hO := own_makeI hown1
    have hb : Below w1.heap.size w1 w2 := (Below.refl _ _).grown hgrow1 (Nat.le_refl _) (by intro g hg; cases hg)
    obtain ⟨G, hG⟩ : ∃ G, w1.heap.size = G := ⟨_, rfl⟩
    have hGW : W0.heap.size ≤ G := by rw [← hG]; exact HB01.out.size
    have HO := Lib.hid (show OwnsI w2 W0.heap.size (.slice (some ⟨G, 0, none⟩) N N) (List.replicate N 0) by rw [← hG]; exact hO.lower HB01.out.size)
    have HB02 := Lib.hid (bThen HB01.out hb)
    rw [hG]
    clear hown1 hgrow1 hO hb hG
    clear d0 d1 d2 d3
    go_loopw [8] (fun z wr => ∃ k : Nat, k ≤ I ∧ z = .int .i64 (k : Int) ∧ OwnsI wr W0.heap.size (.slice (some ⟨G, 0, none⟩) N N) (insK n xv k) ∧ Below W0.heap.size W0 wr) (fun z _ => I - (intOf z).toNat)
    case atStart => exact ⟨0, Nat.zero_le _, rfl, by unfold insK; rw [HN.out]; exact HO.out, HB02.out⟩
    case round =>
      obtain ⟨k, hk, rfl, hown, hb⟩ := hrel
      obtain ⟨w3, rfl⟩ : ∃ w3, w3 = wr := ⟨_, rfl⟩
      clear HO HB02
      have HO := Lib.hid hown
      have HB0 := Lib.hid hb
      have HB := Lib.hid (bThen HW0.out hb)
      have c0 := keep hb HE0.out
      have c1 := keep hb HE1.out
      have c2 := keep hb HE2.out
      have c3 := keep hb HE3.out
      clear hown hb
      rw [HI0.out] at c0
      by_cases hlt : k < I
      · obtain ⟨f, hf⟩ : ∃ f, 1 + k = f := ⟨_, rfl⟩
        have hfN : f < N := by have := HFN1.out; omega
        have tl : (f : Int) < (N : Int) := by omega
        have tk : (k : Int) < (I : Int) := by omega
        have ef : (1 : Int) + (k : Int) = (f : Int) := by omega
        have ew : IntKind.i64.wrap ((1 : Int) + (k : Int)) = (f : Int) := by rw [wrap64_int _ (by omega) (by omega)]; omega
        obtain ⟨y, hy⟩ : ∃ y, xv / 2 ^ k % 2 = y := ⟨_, rfl⟩
        have e1 := shr_var xv (show k ≤ 64 by omega)
        have e2 := and_one (xv / 2 ^ k)
        rw [hy] at e2
        have HLEN := Lib.hid ((insK_len n xv k).trans HN.out)
        have HNW := Lib.hid (show (insK n xv k).set f y = insK n xv (k + 1) by rw [← hf, ← hy]; rfl)
        have HB4 := Lib.hid (Below.refl w3.heap.size w3)
        clear hf hy
        have HQ3 := Lib.hid (HO.out.below HB4.out)
        have gf := ownI_cell HQ3.out HLEN.out hfN
        have t0 := gf.1
        have t1 := gf.2
        have gB := (HQ3.out.lt G rfl).1
        clear gf
        clear c1 c2 c3
        go_wp2
        go_roundw
        case rel =>
          have h3 := ownI_set HQ3.out HLEN.out hfN (y)
          rw [HNW.out] at h3
          exact ⟨k + 1, by omega, by go_num, h3, bSet (p := ⟨G, f, none⟩) (bThen HB0.out HB4.out) hGW _⟩
        case measure => simp [intOf]; omega
      · obtain rfl : I = k := by omega
        have HOI := Lib.hid (show OwnsI w3 W0.heap.size (.slice (some ⟨G, 0, none⟩) N N) (regK n st xv 0) by unfold regK; rw [HI.out]; exact HO.out)
        have HBI := Lib.hid HB0.out
        clear hlt HB0 HO HB c1 c2 c3
        go_wp2
        clear c0
        have HO := Lib.hid HOI.out
        have HB02 := Lib.hid HBI.out
        clear HOI HBI
        go_loopw [9] (fun z wr => ∃ k : Nat, k ≤ n.2.1.length ∧ z = .int .i64 (k : Int) ∧ OwnsI wr W0.heap.size (.slice (some ⟨G, 0, none⟩) N N) (regK n st xv k) ∧ Below W0.heap.size W0 wr) (fun z _ => n.2.1.length - (intOf z).toNat)
        case atStart => exact ⟨0, Nat.zero_le _, rfl, HO.out, HB02.out⟩
        case round =>
          obtain ⟨k, hk, rfl, hown, hb⟩ := hrel
          obtain ⟨w3, rfl⟩ : ∃ w3, w3 = wr := ⟨_, rfl⟩
          clear HO HB02
          have HO := Lib.hid hown
          have HB0 := Lib.hid hb
          have HB := Lib.hid (bThen HW0.out hb)
          have c0 := keep hb HE0.out
          have c1 := keep hb HE1.out
          have c2 := keep hb HE2.out
          have c3 := keep hb HE3.out
          clear hown hb
          have tl0 : (st.length : Int) = (n.2.1.length : Int) := by have := HST.out.len; omega
          by_cases hlt : k < n.2.1.length
          · rw [HI0.out] at c0
            obtain ⟨x, hx⟩ : ∃ x, st[k]? = some x := ⟨_, List.getElem?_eq_getElem (by have := HST.out.len; omega)⟩
            obtain ⟨vb, vq, rfl, vb1, xc, -⟩ := at_Int (good_IntS.below HV.out (Nat.le_refl _) HB.out) hx
            have vb2 := Nat.lt_of_lt_of_le vb1 HB.out.size
            obtain ⟨f, hf⟩ : ∃ f, 1 + I + k = f := ⟨_, rfl⟩
            have hfN : f < N := by have := HFN1.out; omega
            have tl : (f : Int) < (N : Int) := by omega
            have tk : (k : Int) < (n.2.1.length : Int) := by omega
            have ef : (1 : Int) + (I : Int) + (k : Int) = (f : Int) := by omega
            have ew : IntKind.i64.wrap ((1 : Int) + (I : Int) + (k : Int)) = (f : Int) := by rw [wrap64_int _ (by omega) (by omega)]; omega
            have ew1 : IntKind.i64.wrap ((1 : Int) + (I : Int)) = (1 : Int) + (I : Int) := wrap64_int _ (by omega) (by omega)
            obtain ⟨y, hy⟩ : ∃ y, x % 2 = y := ⟨_, rfl⟩
            have e2 := and_one x
            rw [hy] at e2
            have HLEN := Lib.hid ((regK_len n st xv k).trans HN.out)
            have HNW := Lib.hid (show (regK n st xv k).set f y = regK n st xv (k + 1) by rw [regK_step hx, HI.out, hf, hy])
            clear hf hy hx vb1
            go_wp2_with fail
            have hS0 : (fun w' => Below w3.heap.size w3 w' ∧ w'.cell? ⟨w.heap.size, 0, none⟩ = some (.int .i64 (I : Int)) ∧ w'.cell? ⟨w.heap.size, 1, none⟩ = some (.slice mA1 (n.2.1).length mc1) ∧ w'.cell? ⟨w.heap.size, 2, none⟩ = some (.slice mA2 (n.2.2.1).length mc2) ∧ w'.cell? ⟨w.heap.size, 3, none⟩ = some (.slice mA3 (n.2.2.2).length mc3) ∧ w'.cell? ⟨vb, vq + k, none⟩ = some (.int .i64 x)) w3 := ⟨Below.refl _ _, c0, c1, c2, c3, xc⟩
            have hS : ∀ {w0 w' : World}, (fun w' => Below w3.heap.size w3 w' ∧ w'.cell? ⟨w.heap.size, 0, none⟩ = some (.int .i64 (I : Int)) ∧ w'.cell? ⟨w.heap.size, 1, none⟩ = some (.slice mA1 (n.2.1).length mc1) ∧ w'.cell? ⟨w.heap.size, 2, none⟩ = some (.slice mA2 (n.2.2.1).length mc2) ∧ w'.cell? ⟨w.heap.size, 3, none⟩ = some (.slice mA3 (n.2.2.2).length mc3) ∧ w'.cell? ⟨vb, vq + k, none⟩ = some (.int .i64 x)) w0 → Below w0.heap.size w0 w' → (fun w' => Below w3.heap.size w3 w' ∧ w'.cell? ⟨w.heap.size, 0, none⟩ = some (.int .i64 (I : Int)) ∧ w'.cell? ⟨w.heap.size, 1, none⟩ = some (.slice mA1 (n.2.1).length mc1) ∧ w'.cell? ⟨w.heap.size, 2, none⟩ = some (.slice mA2 (n.2.2.1).length mc2) ∧ w'.cell? ⟨w.heap.size, 3, none⟩ = some (.slice mA3 (n.2.2.2).length mc3) ∧ w'.cell? ⟨vb, vq + k, none⟩ = some (.int .i64 x)) w' := fun h hb => ⟨bThen h.1 hb, keep hb h.2.1, keep hb h.2.2.1, keep hb h.2.2.2.1, keep hb h.2.2.2.2.1, keep hb h.2.2.2.2.2⟩
            dsimp only at hS0 hS
            refine wp_region_noPanic ?_
            refine wp_region_kept 11 13 (fun w' => Below w3.heap.size w3 w' ∧ w'.cell? ⟨w.heap.size, 0, none⟩ = some (.int .i64 (I : Int)) ∧ w'.cell? ⟨w.heap.size, 1, none⟩ = some (.slice mA1 (n.2.1).length mc1) ∧ w'.cell? ⟨w.heap.size, 2, none⟩ = some (.slice mA2 (n.2.2.1).length mc2) ∧ w'.cell? ⟨w.heap.size, 3, none⟩ = some (.slice mA3 (n.2.2.2).length mc3) ∧ w'.cell? ⟨vb, vq + k, none⟩ = some (.int .i64 x)) (by kernel_rfl) rfl (hS hS0 (Below.drew (Below.refl _ _))) (fun hK0 => ?_)
            refine Kept.take (v := ?vb0) 0 (by kernel_rfl) rfl (by kernel_rfl) (fun _ _ _ h => h) (Or.inl ⟨by rfl, ?hyb0⟩) hK0 ?restb0
            case hyb0 =>
              intro w0 hSw
              (try dsimp only at hSw)
              go_simp
              all_goals (with_reducible rfl)
            (try simp only [Act.put, List.setIfInBounds_toArray, List.set_cons_zero, List.set_cons_succ])
            refine Kept.take (v := ?vb1) 1 (by kernel_rfl) rfl (by kernel_rfl) (fun _ _ _ h => h) (Or.inl ⟨by rfl, ?hyb1⟩) hK0 ?restb1
            case hyb1 =>
              intro w0 hSw
              (try dsimp only at hSw)
              go_simp
              all_goals (with_reducible rfl)
            (try simp only [Act.put, List.setIfInBounds_toArray, List.set_cons_zero, List.set_cons_succ])
            refine Kept.take (v := ?vb2) 2 (by kernel_rfl) rfl (by kernel_rfl) (fun _ _ _ h => h) (Or.inl ⟨by rfl, ?hyb2⟩) hK0 ?restb2
            case hyb2 =>
              intro w0 hSw
              (try dsimp only at hSw)
              go_simp
              all_goals (with_reducible rfl)
            (try simp only [Act.put, List.setIfInBounds_toArray, List.set_cons_zero, List.set_cons_succ])
            refine Kept.take (v := ?vb3) 3 (by kernel_rfl) rfl (by kernel_rfl) (fun _ _ _ h => h) (Or.inl ⟨by rfl, ?hyb3⟩) hK0 ?restb3
            case hyb3 =>
              intro w0 hSw
              (try dsimp only at hSw)
              go_simp
              all_goals (with_reducible rfl)
            (try simp only [Act.put, List.setIfInBounds_toArray, List.set_cons_zero, List.set_cons_succ])
            refine Kept.take (v := ?vb4) 4 (by kernel_rfl) rfl (by kernel_rfl) (fun _ _ _ h => h) (Or.inl ⟨by rfl, ?hyb4⟩) hK0 ?restb4
            case hyb4 =>
              intro w0 hSw
              (try dsimp only at hSw)
              go_simp
              all_goals (with_reducible rfl)
            (try simp only [Act.put, List.setIfInBounds_toArray, List.set_cons_zero, List.set_cons_succ])
            refine Kept.take (v := ?vb5) 5 (by kernel_rfl) rfl (by kernel_rfl) (fun _ _ _ h => h) (Or.inl ⟨by rfl, ?hyb5⟩) hK0 ?restb5
            case hyb5 =>
              intro w0 hSw
              (try dsimp only at hSw)
              go_simp
              all_goals (with_reducible rfl)
            (try simp only [Act.put, List.setIfInBounds_toArray, List.set_cons_zero, List.set_cons_succ])
            refine Kept.take (v := ?vb6) 6 (by kernel_rfl) rfl (by kernel_rfl) (fun _ _ _ h => h) (Or.inl ⟨by rfl, ?hyb6⟩) hK0 ?restb6
            case hyb6 =>
              intro w0 hSw
              (try dsimp only at hSw)
              go_simp
              all_goals (with_reducible rfl)
            (try simp only [Act.put, List.setIfInBounds_toArray, List.set_cons_zero, List.set_cons_succ])
            refine Kept.take (v := ?vb7) 7 (by kernel_rfl) rfl (by kernel_rfl) (fun _ _ _ h => h) (Or.inl ⟨by rfl, ?hyb7⟩) hK0 ?restb7
            case hyb7 =>
              intro w0 hSw
              (try dsimp only at hSw)
              go_simp
              all_goals (with_reducible rfl)
            (try simp only [Act.put, List.setIfInBounds_toArray, List.set_cons_zero, List.set_cons_succ])
            refine Kept.take (v := ?vb8) 8 (by kernel_rfl) rfl (by kernel_rfl) (fun _ _ _ h => h) (Or.inl ⟨by rfl, ?hyb8⟩) hK0 ?restb8
            case hyb8 =>
              intro w0 hSw
              (try dsimp only at hSw)
              go_simp
              all_goals (with_reducible rfl)
            (try simp only [Act.put, List.setIfInBounds_toArray, List.set_cons_zero, List.set_cons_succ])
            refine Kept.take (v := ?vb9) 9 (by kernel_rfl) rfl (by kernel_rfl) (fun _ _ _ h => h) (Or.inl ⟨by rfl, ?hyb9⟩) hK0 ?restb9
            case hyb9 =>
              intro w0 hSw
              (try dsimp only at hSw)
              go_simp
              all_goals (with_reducible rfl)
            (try simp only [Act.put, List.setIfInBounds_toArray, List.set_cons_zero, List.set_cons_succ])
            refine Kept.take (v := ?vb10) 10 (by kernel_rfl) rfl (by kernel_rfl) (fun _ _ _ h => h) (Or.inl ⟨by rfl, ?hyb10⟩) hK0 ?restb10
            case hyb10 =>
              intro w0 hSw
              (try dsimp only at hSw)
              go_simp
              all_goals (with_reducible rfl)
            (try simp only [Act.put, List.setIfInBounds_toArray, List.set_cons_zero, List.set_cons_succ])
            refine Kept.tail (by rfl) (by kernel_rfl) ?_
            simp only [List.drop_succ_cons, List.drop_zero]
            have HB4 := Lib.hid hK0.1
            have HQ3 := Lib.hid (HO.out.below HB4.out)
            have gf := ownI_cell HQ3.out HLEN.out hfN
            have t0 := gf.1
            have t1 := gf.2
            have gB := (HQ3.out.lt G rfl).1
            clear gf
            clear c0 c1 c2 c3 xc hS0 hS hK0
            go_wp2
            refine NoPanic.normal ?_
            go_wp2
            go_roundw
            case rel =>
              have h3 := ownI_set HQ3.out HLEN.out hfN (y)
              rw [HNW.out] at h3
              exact ⟨k + 1, by omega, by go_num, h3, bSet (p := ⟨G, f, none⟩) (bThen HB0.out HB4.out) hGW _⟩
            case measure => simp [intOf]; omega
          · obtain rfl : k = n.2.1.length := by omega
            have HOI := Lib.hid (show OwnsI w3 W0.heap.size (.slice (some ⟨G, 0, none⟩) N N) (valK n st xv 0) by unfold valK; exact HO.out)
            have HBI := Lib.hid HB0.out
            clear hlt HB0 HO HB c0 c1 c2 c3
            go_wp2
            have HO := Lib.hid HOI.out
            have HB02 := Lib.hid HBI.out
            clear HOI HBI
            go_loopw [10] (fun z wr => ∃ k : Nat, k ≤ n.2.2.1.length ∧ z = .int .i64 (k : Int) ∧ OwnsI wr W0.heap.size (.slice (some ⟨G, 0, none⟩) N N) (valK n st xv k) ∧ Below W0.heap.size W0 wr) (fun z _ => n.2.2.1.length - (intOf z).toNat)
            case atStart => exact ⟨0, Nat.zero_le _, rfl, HO.out, HB02.out⟩
            case round =>
              obtain ⟨k, hk, rfl, hown, hb⟩ := hrel
              obtain ⟨w3, rfl⟩ : ∃ w3, w3 = wr := ⟨_, rfl⟩
              clear HO HB02
              have HO := Lib.hid hown
              have HB0 := Lib.hid hb
              have HB := Lib.hid (bThen HW0.out hb)
              have c0 := keep hb HE0.out
              have c1 := keep hb HE1.out
              have c2 := keep hb HE2.out
              have c3 := keep hb HE3.out
              clear hown hb
              by_cases hlt : k < n.2.2.1.length
              · obtain ⟨a, ha⟩ : ∃ a, n.2.2.1[k]? = some a := ⟨_, List.getElem?_eq_getElem hlt⟩
                obtain ⟨x, y, rfl, hx, hy⟩ := HP.out.and_ k a ha
                obtain ⟨ab, aq, rfl, ab1, x0, xf, x1, yf⟩ := at_And (good_AndS.below mR2.out (Nat.le_refl _) HB.out) ha
                have ab2 := Nat.lt_of_lt_of_le ab1 HB.out.size
                unfold Fit at xf yf
                dsimp only at x0 x1 xf yf
                have hx63 : x ≤ 9223372036854775807 := by omega
                have hy63 : y ≤ 9223372036854775807 := by omega
                have hf33 := HSP.out.fir_le
                have hfk : firN n + k < N := by rw [← HN.out]; unfold netN; omega
                obtain ⟨f, hf⟩ : ∃ f, firN n + k = f := ⟨_, rfl⟩
                obtain ⟨V3, hV3⟩ : ∃ V3, valK n st xv k = V3 := ⟨_, rfl⟩
                have hlen : V3.length = N := by rw [← hV3, valK_len, HN.out]
                have hin := valK_in n st xv k
                rw [hV3] at hin
                obtain ⟨u, hu⟩ : ∃ u, V3.getD (x / 2) 0 = u := ⟨_, rfl⟩
                obtain ⟨v, hv⟩ : ∃ v, V3.getD (y / 2) 0 = v := ⟨_, rfl⟩
                have hu2 := hin (x / 2)
                have hv2 := hin (y / 2)
                rw [hu] at hu2
                rw [hv] at hv2
                have HXV := Lib.hid (show V3[x / 2]? = some u by rw [← hu]; exact get_of_len hlen (by omega))
                have HYV := Lib.hid (show V3[y / 2]? = some v by rw [← hv]; exact get_of_len hlen (by omega))
                obtain ⟨bx, hbx⟩ : ∃ bx, bitV V3 x = bx := ⟨_, rfl⟩
                obtain ⟨byy, hby⟩ : ∃ byy, bitV V3 y = byy := ⟨_, rfl⟩
                have HBX := Lib.hid hbx
                have HBY := Lib.hid hby
                have bx2 := bitV_in V3 x
                have by2 := bitV_in V3 y
                rw [hbx] at bx2
                rw [hby] at by2
                obtain ⟨y9, hy9⟩ : ∃ y9, bx * byy = y9 := ⟨_, rfl⟩
                have e2 := and_01 bx2 by2
                rw [hy9] at e2
                have HFT := Lib.hid (fit_01 hin)
                rw [hf] at hfk
                have hfN : f < N := hfk
                have tl : (f : Int) < (N : Int) := by omega
                have tk : (k : Int) < (n.2.2.1.length : Int) := by omega
                have hEw : IntKind.i64.wrap ((firN n : Int) + (k : Int)) = (f : Int) := by rw [wrap64_int _ (by omega) (by omega)]; omega
                have HLEN := Lib.hid hlen
                have HNW := Lib.hid (show V3.set f y9 = valK n st xv (k + 1) by rw [valK_step ha, hV3, hf, hbx, hby, hy9])
                rw [hV3] at HO
                clear ha hx hy hf hV3 hlen hin hu hv hbx hby hy9 xf yf ab1 hfk bx2 by2 hf33
                go_wp2_with fail
                have hS0 : (fun w' => Below w3.heap.size w3 w' ∧ w'.cell? ⟨w.heap.size, 0, none⟩ = some (.int .i64 n.1) ∧ w'.cell? ⟨w.heap.size, 1, none⟩ = some (.slice mA1 (n.2.1).length mc1) ∧ w'.cell? ⟨w.heap.size, 2, none⟩ = some (.slice (some ⟨ab, aq, none⟩) (n.2.2.1).length mc2) ∧ w'.cell? ⟨w.heap.size, 3, none⟩ = some (.slice mA3 (n.2.2.2).length mc3) ∧ w'.cell? ⟨ab, aq + k * 2, none⟩ = some (.int .i64 (x : Int)) ∧ w'.cell? ⟨ab, aq + k * 2 + 1, none⟩ = some (.int .i64 (y : Int))) w3 := ⟨Below.refl _ _, c0, c1, c2, c3, x0, x1⟩
                have hS : ∀ {w0 w' : World}, (fun w' => Below w3.heap.size w3 w' ∧ w'.cell? ⟨w.heap.size, 0, none⟩ = some (.int .i64 n.1) ∧ w'.cell? ⟨w.heap.size, 1, none⟩ = some (.slice mA1 (n.2.1).length mc1) ∧ w'.cell? ⟨w.heap.size, 2, none⟩ = some (.slice (some ⟨ab, aq, none⟩) (n.2.2.1).length mc2) ∧ w'.cell? ⟨w.heap.size, 3, none⟩ = some (.slice mA3 (n.2.2.2).length mc3) ∧ w'.cell? ⟨ab, aq + k * 2, none⟩ = some (.int .i64 (x : Int)) ∧ w'.cell? ⟨ab, aq + k * 2 + 1, none⟩ = some (.int .i64 (y : Int))) w0 → Below w0.heap.size w0 w' → (fun w' => Below w3.heap.size w3 w' ∧ w'.cell? ⟨w.heap.size, 0, none⟩ = some (.int .i64 n.1) ∧ w'.cell? ⟨w.heap.size, 1, none⟩ = some (.slice mA1 (n.2.1).length mc1) ∧ w'.cell? ⟨w.heap.size, 2, none⟩ = some (.slice (some ⟨ab, aq, none⟩) (n.2.2.1).length mc2) ∧ w'.cell? ⟨w.heap.size, 3, none⟩ = some (.slice mA3 (n.2.2.2).length mc3) ∧ w'.cell? ⟨ab, aq + k * 2, none⟩ = some (.int .i64 (x : Int)) ∧ w'.cell? ⟨ab, aq + k * 2 + 1, none⟩ = some (.int .i64 (y : Int))) w' := fun h hb => ⟨bThen h.1 hb, keep hb h.2.1, keep hb h.2.2.1, keep hb h.2.2.2.1, keep hb h.2.2.2.2.1, keep hb h.2.2.2.2.2.1, keep hb h.2.2.2.2.2.2⟩
                dsimp only at hS0 hS
                refine wp_region_noPanic ?_
                refine wp_region_kept 22 24 (fun w' => Below w3.heap.size w3 w' ∧ w'.cell? ⟨w.heap.size, 0, none⟩ = some (.int .i64 n.1) ∧ w'.cell? ⟨w.heap.size, 1, none⟩ = some (.slice mA1 (n.2.1).length mc1) ∧ w'.cell? ⟨w.heap.size, 2, none⟩ = some (.slice (some ⟨ab, aq, none⟩) (n.2.2.1).length mc2) ∧ w'.cell? ⟨w.heap.size, 3, none⟩ = some (.slice mA3 (n.2.2.2).length mc3) ∧ w'.cell? ⟨ab, aq + k * 2, none⟩ = some (.int .i64 (x : Int)) ∧ w'.cell? ⟨ab, aq + k * 2 + 1, none⟩ = some (.int .i64 (y : Int))) (by kernel_rfl) rfl (hS hS0 (Below.drew (Below.refl _ _))) (fun hK0 => ?_)
                refine Kept.take (v := ?vc0) 0 (by kernel_rfl) rfl (by kernel_rfl) (fun _ _ _ h => h) (Or.inl ⟨by rfl, ?hyc0⟩) hK0 ?restc0
                case hyc0 =>
                  intro w0 hSw
                  (try dsimp only at hSw)
                  go_simp
                  all_goals (with_reducible rfl)
                (try simp only [Act.put, List.setIfInBounds_toArray, List.set_cons_zero, List.set_cons_succ])
                refine Kept.take (v := ?vc1) 1 (by kernel_rfl) rfl (by kernel_rfl) (fun _ _ _ h => h) (Or.inl ⟨by rfl, ?hyc1⟩) hK0 ?restc1
                case hyc1 =>
                  intro w0 hSw
                  (try dsimp only at hSw)
                  go_simp
                  all_goals (with_reducible rfl)
                (try simp only [Act.put, List.setIfInBounds_toArray, List.set_cons_zero, List.set_cons_succ])
                refine Kept.take (v := ?vc3) 3 (by kernel_rfl) rfl (by kernel_rfl) (fun _ _ _ h => h) (Or.inl ⟨by rfl, ?hyc3⟩) hK0 ?restc3
                case hyc3 =>
                  intro w0 hSw
                  (try dsimp only at hSw)
                  go_simp
                  all_goals (with_reducible rfl)
                (try simp only [Act.put, List.setIfInBounds_toArray, List.set_cons_zero, List.set_cons_succ])
                refine Kept.take (v := ?vc5) 5 (by kernel_rfl) rfl (by kernel_rfl) (fun _ _ _ h => h) (Or.inl ⟨by rfl, ?hyc5⟩) hK0 ?restc5
                case hyc5 =>
                  intro w0 hSw
                  (try dsimp only at hSw)
                  go_simp
                  all_goals (with_reducible rfl)
                (try simp only [Act.put, List.setIfInBounds_toArray, List.set_cons_zero, List.set_cons_succ])
                refine Kept.take (v := ?vc6) 6 (by kernel_rfl) rfl (by kernel_rfl) (fun _ _ _ h => h) (Or.inl ⟨by rfl, ?hyc6⟩) hK0 ?restc6
                case hyc6 =>
                  intro w0 hSw
                  (try dsimp only at hSw)
                  go_simp
                  all_goals (with_reducible rfl)
                (try simp only [Act.put, List.setIfInBounds_toArray, List.set_cons_zero, List.set_cons_succ])
                refine Kept.take (v := ?vc7) 7 (by kernel_rfl) rfl (by kernel_rfl) (fun _ _ _ h => h) (Or.inl ⟨by rfl, ?hyc7⟩) hK0 ?restc7
                case hyc7 =>
                  intro w0 hSw
                  (try dsimp only at hSw)
                  go_simp
                  all_goals (with_reducible rfl)
                (try simp only [Act.put, List.setIfInBounds_toArray, List.set_cons_zero, List.set_cons_succ])
                refine Kept.take (v := ?vc8) 8 (by kernel_rfl) rfl (by kernel_rfl) (fun _ _ _ h => h) (Or.inl ⟨by rfl, ?hyc8⟩) hK0 ?restc8
                case hyc8 =>
                  intro w0 hSw
                  (try dsimp only at hSw)
                  go_simp
                  all_goals (with_reducible rfl)
                (try simp only [Act.put, List.setIfInBounds_toArray, List.set_cons_zero, List.set_cons_succ])
                refine Kept.take (v := ?vc9) 9 (by kernel_rfl) rfl (by kernel_rfl) (fun _ _ _ h => h) (Or.inl ⟨by rfl, ?hyc9⟩) hK0 ?restc9
                case hyc9 =>
                  intro w0 hSw
                  (try dsimp only at hSw)
                  go_simp
                  all_goals (with_reducible rfl)
                (try simp only [Act.put, List.setIfInBounds_toArray, List.set_cons_zero, List.set_cons_succ])
                refine Kept.take (v := ?vc10) 10 (by kernel_rfl) rfl (by kernel_rfl) (fun _ _ _ h => h) (Or.inl ⟨by rfl, ?hyc10⟩) hK0 ?restc10
                case hyc10 =>
                  intro w0 hSw
                  (try dsimp only at hSw)
                  go_simp
                  all_goals (with_reducible rfl)
                (try simp only [Act.put, List.setIfInBounds_toArray, List.set_cons_zero, List.set_cons_succ])
                refine Kept.take (v := ?vc11) 11 (by kernel_rfl) rfl (by kernel_rfl) (fun _ _ _ h => h) (Or.inl ⟨by rfl, ?hyc11⟩) hK0 ?restc11
                case hyc11 =>
                  intro w0 hSw
                  (try dsimp only at hSw)
                  go_simp
                  all_goals (with_reducible rfl)
                (try simp only [Act.put, List.setIfInBounds_toArray, List.set_cons_zero, List.set_cons_succ])
                refine Kept.take (v := ?vc13) 13 (by kernel_rfl) rfl (by kernel_rfl) (fun _ _ _ h => h) (Or.inl ⟨by rfl, ?hyc13⟩) hK0 ?restc13
                case hyc13 =>
                  intro w0 hSw
                  (try dsimp only at hSw)
                  go_simp
                  all_goals (with_reducible rfl)
                (try simp only [Act.put, List.setIfInBounds_toArray, List.set_cons_zero, List.set_cons_succ])
                refine Kept.take (v := ?vc14) 14 (by kernel_rfl) rfl (by kernel_rfl) (fun _ _ _ h => h) (Or.inl ⟨by rfl, ?hyc14⟩) hK0 ?restc14
                case hyc14 =>
                  intro w0 hSw
                  (try dsimp only at hSw)
                  go_simp
                  all_goals (with_reducible rfl)
                (try simp only [Act.put, List.setIfInBounds_toArray, List.set_cons_zero, List.set_cons_succ])
                refine Kept.take (v := ?vc15) 15 (by kernel_rfl) rfl (by kernel_rfl) (fun _ _ _ h => h) (Or.inl ⟨by rfl, ?hyc15⟩) hK0 ?restc15
                case hyc15 =>
                  intro w0 hSw
                  (try dsimp only at hSw)
                  go_simp
                  all_goals (with_reducible rfl)
                (try simp only [Act.put, List.setIfInBounds_toArray, List.set_cons_zero, List.set_cons_succ])
                refine Kept.take (v := ?vc16) 16 (by kernel_rfl) rfl (by kernel_rfl) (fun _ _ _ h => h) (Or.inl ⟨by rfl, ?hyc16⟩) hK0 ?restc16
                case hyc16 =>
                  intro w0 hSw
                  (try dsimp only at hSw)
                  go_simp
                  all_goals (with_reducible rfl)
                (try simp only [Act.put, List.setIfInBounds_toArray, List.set_cons_zero, List.set_cons_succ])
                refine Kept.take (v := ?vc17) 17 (by kernel_rfl) rfl (by kernel_rfl) (fun _ _ _ h => h) (Or.inl ⟨by rfl, ?hyc17⟩) hK0 ?restc17
                case hyc17 =>
                  intro w0 hSw
                  (try dsimp only at hSw)
                  go_simp
                  all_goals (with_reducible rfl)
                (try simp only [Act.put, List.setIfInBounds_toArray, List.set_cons_zero, List.set_cons_succ])
                refine Kept.take (v := ?vc18) 18 (by kernel_rfl) rfl (by kernel_rfl) (fun _ _ _ h => h) (Or.inl ⟨by rfl, ?hyc18⟩) hK0 ?restc18
                case hyc18 =>
                  intro w0 hSw
                  (try dsimp only at hSw)
                  go_simp
                  all_goals (with_reducible rfl)
                (try simp only [Act.put, List.setIfInBounds_toArray, List.set_cons_zero, List.set_cons_succ])
                refine Kept.take (v := ?vc19) 19 (by kernel_rfl) rfl (by kernel_rfl) (fun _ _ _ h => h) (Or.inl ⟨by rfl, ?hyc19⟩) hK0 ?restc19
                case hyc19 =>
                  intro w0 hSw
                  (try dsimp only at hSw)
                  go_simp
                  all_goals (with_reducible rfl)
                (try simp only [Act.put, List.setIfInBounds_toArray, List.set_cons_zero, List.set_cons_succ])
                refine Kept.one 2 (by kernel_rfl) rfl (fun K hK => ?_)
                go_simp
                go_at_call 60
                refine (specFirst_at n _ _ (rdUp good_Net HD.out (bThen HB.out hK0.1)) (Nat.le_refl _) HSP.out).mono ?_
                rintro e wr0 ⟨rfl, hbr0⟩
                go_simp
                refine hK.out _ _ (hS hK0 hbr0) (fun hK1 => ?_)
                clear hK K hK0
                (try simp only [Act.put, List.setIfInBounds_toArray, List.set_cons_zero, List.set_cons_succ])
                refine Kept.take (v := ?vc4) 4 (by kernel_rfl) rfl (by kernel_rfl) (fun _ _ _ h => h) (Or.inl ⟨by rfl, ?hyc4⟩) hK1 ?restc4
                case hyc4 =>
                  intro w0 hSw
                  (try dsimp only at hSw)
                  go_simp
                  all_goals (with_reducible rfl)
                (try simp only [Act.put, List.setIfInBounds_toArray, List.set_cons_zero, List.set_cons_succ])
                refine Kept.one 12 (by kernel_rfl) rfl (fun K hK => ?_)
                go_simp
                go_at_call 59
                refine (specBit_at V3 x hx63 _ _ (good_IntS.below (ownI_rd HO.out HFT.out) (Nat.le_refl _) hK1.1) hK1.1.size HXV.out hu2.1 hu2.2 HBX.out).mono ?_
                rintro e wr1 ⟨rfl, hbr1⟩
                go_simp
                refine hK.out _ _ (hS hK1 hbr1) (fun hK2 => ?_)
                clear hK K hK1
                (try simp only [Act.put, List.setIfInBounds_toArray, List.set_cons_zero, List.set_cons_succ])
                refine Kept.one 20 (by kernel_rfl) rfl (fun K hK => ?_)
                go_simp
                go_at_call 59
                refine (specBit_at V3 y hy63 _ _ (good_IntS.below (ownI_rd HO.out HFT.out) (Nat.le_refl _) hK2.1) hK2.1.size HYV.out hv2.1 hv2.2 HBY.out).mono ?_
                rintro e wr2 ⟨rfl, hbr2⟩
                go_simp
                refine hK.out _ _ (hS hK2 hbr2) (fun hK3 => ?_)
                clear hK K hK2
                (try simp only [Act.put, List.setIfInBounds_toArray, List.set_cons_zero, List.set_cons_succ])
                refine Kept.take (v := ?vc21) 21 (by kernel_rfl) rfl (by kernel_rfl) (fun _ _ _ h => h) (Or.inl ⟨by rfl, ?hyc21⟩) hK3 ?restc21
                case hyc21 =>
                  intro w0 hSw
                  (try dsimp only at hSw)
                  go_simp
                  all_goals (with_reducible rfl)
                (try simp only [Act.put, List.setIfInBounds_toArray, List.set_cons_zero, List.set_cons_succ])
                refine Kept.tail (by rfl) (by kernel_rfl) ?_
                simp only [List.drop_succ_cons, List.drop_zero]
                have HB4 := Lib.hid hK3.1
                have HQ3 := Lib.hid (HO.out.below HB4.out)
                have gf := ownI_cell HQ3.out HLEN.out hfN
                have t0 := gf.1
                have t1 := gf.2
                have gB := (HQ3.out.lt G rfl).1
                clear gf
                clear c0 c1 c2 c3 x0 x1 hS0 hS hK3 hEw
                go_wp2
                refine NoPanic.normal ?_
                go_wp2
                go_roundw
                case rel =>
                  have h3 := ownI_set HQ3.out HLEN.out hfN (y9)
                  rw [HNW.out] at h3
                  exact ⟨k + 1, by omega, by go_num, h3, bSet (p := ⟨G, f, none⟩) (bThen HB0.out HB4.out) hGW _⟩
                case measure => simp [intOf]; omega
              · obtain rfl : k = n.2.2.1.length := by omega
                clear hlt
                go_wp2
                go_ret
                rw [← HE.out]
                exact ⟨_, rfl, HO.out.lower HW0.out.size, HB.out⟩
end Go.Proofs.Ytaebiiopommhdaa
