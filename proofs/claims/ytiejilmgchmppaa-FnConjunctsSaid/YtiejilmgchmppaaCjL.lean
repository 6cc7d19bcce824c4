/-
  The walk of FnConjuncts.
-/
import Derived.Test.YtiejilmgchmppaaOlD
import Derived.Test.YtiejilmgchmppaaHkC
import Derived.Test.YtiejilmgchmppaaAt
import Derived.Test.YtiejilmgchmppaaNrB
import Derived.Deep.RegionHeld3
import Derived.BigQuiet
namespace Go.Proofs.Ytiejilmgchmppaa
open Go.RowKit
set_option linter.unusedVariables false
set_option linter.unusedSimpArgs false

theorem litV_bit {n : DNet} {st : List Int} {x : Int} (hP : NetP n) (hl : st.length = n.2.1.length) {p : Nat} (hp : p / 2 < netN n) : litO (allV n st x) (p : Int) = bitV (allV n st x) p := by
  have hlen := allV_len x hl
  have h01 := allV_01 x hP hl (p / 2)
  rw [List.getD_eq_getElem?_getD, List.getElem?_eq_getElem (by rw [hlen]; exact hp), Option.getD_some] at h01
  exact litO_good (List.getElem?_eq_getElem (by rw [hlen]; exact hp)) h01.1 h01.2
/-- 1 if the first k literals have the value 1. -/
def prodV (V L : List Int) (k : Nat) : Int := if (L.take k).all (fun y => decide (bitV V y.toNat = 1)) = true then 1 else 0
theorem prodV_zero (V L : List Int) : prodV V L 0 = 1 := by unfold prodV; simp
theorem prodV_in (V L : List Int) (k : Nat) : prodV V L k = 0 ∨ prodV V L k = 1 := by unfold prodV; split; exact .inr rfl; exact .inl rfl
theorem prodV_step {V L : List Int} {k l : Nat} (h : L[k]? = some (l : Int)) (h01 : bitV V l = 0 ∨ bitV V l = 1) : bits .and .i64 (prodV V L k) (bitV V l) = prodV V L (k + 1) := by
  have e : L.take (k + 1) = L.take k ++ [(l : Int)] := by rw [List.take_add_one, h]; rfl
  unfold prodV
  rw [e, List.all_append, List.all_cons, List.all_nil, Bool.and_true, Int.toNat_natCast]
  rcases h01 with h1 | h1
  · rw [h1]
    simp
    split <;> decide
  · rw [h1]
    simp
    split <;> decide
theorem prodV_end {n : DNet} (hP : NetP n) {t : Nat} (ht : t < n.2.2.1.length) {st : List Int} (x : Int) (hl : st.length = n.2.1.length) : prodV (allV n st x) (cjL n t) (cjL n t).length = (allV n st x).getD (firN n + t) 0 := by
  have hc := (conj_all hP ht).val st x hl
  have h01 := allV_01 x hP hl (firN n + t)
  unfold prodV
  rw [List.take_length]
  by_cases c : (allV n st x).getD (firN n + t) 0 = 1
  · rw [c, if_pos]
    exact List.all_eq_true.2 fun y hy => decide_eq_true (hc.2 c y hy)
  · rw [if_neg]
    · omega
    · intro h
      exact c (hc.1 fun y hy => of_decide_eq_true (List.all_eq_true.1 h y hy))

set_option maxRecDepth 100000 in
set_option maxHeartbeats 25600000 in
theorem conjuncts_walk (a : Option Addr) (len cap : Nat) (zs : List Int) (w : World) (hw : IsRow .u8 w a len cap zs) :
    Calls Try.prog 3 #[.slice a len cap] w fun e w' => e = .returned (.bool true) ∧ Below w.heap.size w w' := by
  obtain ⟨i0, hi, hz0, hz1, hz2⟩ := info_parts infoI
  have HCD := Lib.hid hw.codeW
  clear hw
  by_cases hbig : 1048576 < (len : Int)
  · go_enter Try.func3, Try.ntmps3
    go_wp2_with fail
    refine (big_any a len cap _).mono ?_
    rw [decide_eq_true (by omega)]
    rintro e w1 ⟨rfl, rfl⟩
    go_wp2
    go_ret
    exact ⟨rfl, Below.refl _ _⟩
  obtain ⟨x0, hx0, hat⟩ := at_ex a len cap 0 w HCD.out (by omega)
  have HAT := Lib.hid hat
  clear hat
  go_enter Try.func3, Try.ntmps3
  go_wp2_with fail
  refine (big_any a len cap _).mono ?_
  rw [decide_eq_false (by omega)]
  rintro e w1 ⟨rfl, rfl⟩
  go_wp2_with fail
  refine (drawDeep_any a len cap _ HCD.out).mono ?_
  rintro e w1 ⟨us, n, rfl, ⟨hrd, hok⟩, hb⟩
  have HBW := Lib.hid hb
  have HOK := Lib.hid hok
  have hP := netP_of hok
  have HP := Lib.hid hP
  have a300 := hP.sz.a300
  have f33 := hP.sz.fir_le
  obtain ⟨N, hN⟩ : ∃ N : Nat, netN n = N := ⟨_, rfl⟩
  have HQ := Lib.hid (show ncI n = (N : Int) by rw [hP.sz.nc, hN])
  obtain ⟨F, hF⟩ : ∃ F, firN n = F := ⟨_, rfl⟩
  have hNF1 : N ≤ F + n.2.2.1.length := by rw [← hN, ← hF]; exact Nat.le_refl _
  have hNF2 : F + n.2.2.1.length ≤ N := by rw [← hN, ← hF]; exact Nat.le_refl _
  have hEF : IntKind.i64.wrap ((N : Int) - (n.2.2.1.length : Int)) = (F : Int) := by rw [wrap64_int _ (by rw [hF] at f33; omega) (by rw [hF] at f33; omega)]; omega
  have HF := Lib.hid hF
  have HN := Lib.hid hN
  rw [hF] at f33
  have HSP := Lib.hid (start_ok hok)
  have HSF := Lib.hid (state_fit (start_ok hok))
  replace hrd := good_Net.wider hrd (Nat.zero_le _) (Nat.le_refl _)
  have HD := Lib.hid hrd
  clear hb hok hP hN hF
  obtain ⟨mu0, mu1, mu2, mu3, rfl, mh0, mh1, mh2, mh3⟩ := hrd
  obtain ⟨me0, -⟩ := mh0
  injection me0 with me0
  subst me0
  obtain ⟨mA1, mc1, me1, mm1, -⟩ := slice_of mh1
  subst me1
  have mR1 := Lib.hid mh1
  clear mh1
  obtain ⟨mA2, mc2, me2, mm2, -⟩ := slice_of mh2
  subst me2
  have mR2 := Lib.hid mh2
  clear mh2
  obtain ⟨mA3, mc3, me3, mm3, -⟩ := slice_of mh3
  subst me3
  have mR3 := Lib.hid mh3
  clear mh3
  go_wp2_with fail
  obtain ⟨W0, hV⟩ : ∃ W0, W0 = (w1.alloc (.cells #[.int .i64 n.1, .slice mA1 (n.2.1).length mc1, .slice mA2 (n.2.2.1).length mc2, .slice mA3 (n.2.2.2).length mc3] 28)) := ⟨_, rfl⟩
  rw [← hV]
  have gN := eqbox1 hV
  have d0 : W0.cell? ⟨w1.heap.size, 0, none⟩ = some (.int .i64 n.1) := box_cell gN.1 0 _ rfl
  have d1 : W0.cell? ⟨w1.heap.size, 1, none⟩ = some (.slice mA1 (n.2.1).length mc1) := box_cell gN.1 1 _ rfl
  have d2 : W0.cell? ⟨w1.heap.size, 2, none⟩ = some (.slice mA2 (n.2.2.1).length mc2) := box_cell gN.1 2 _ rfl
  have d3 : W0.cell? ⟨w1.heap.size, 3, none⟩ = some (.slice mA3 (n.2.2.2).length mc3) := box_cell gN.1 3 _ rfl
  have sW0 : W0.heap.size = w1.heap.size + 1 := by rw [hV]; simp
  have HW0 := Lib.hid gN.2
  clear hV gN
  have HB := Lib.hid HW0.out
  clear HW0
  have hS0 : (fun w' => Below W0.heap.size W0 w' ∧ w'.cell? ⟨w1.heap.size, 0, none⟩ = some (.int .i64 n.1) ∧ w'.cell? ⟨w1.heap.size, 1, none⟩ = some (.slice mA1 (n.2.1).length mc1) ∧ w'.cell? ⟨w1.heap.size, 2, none⟩ = some (.slice mA2 (n.2.2.1).length mc2) ∧ w'.cell? ⟨w1.heap.size, 3, none⟩ = some (.slice mA3 (n.2.2.2).length mc3)) W0 := ⟨Below.refl _ _, d0, d1, d2, d3⟩
  have hS : ∀ {w0 w' : World}, (fun w' => Below W0.heap.size W0 w' ∧ w'.cell? ⟨w1.heap.size, 0, none⟩ = some (.int .i64 n.1) ∧ w'.cell? ⟨w1.heap.size, 1, none⟩ = some (.slice mA1 (n.2.1).length mc1) ∧ w'.cell? ⟨w1.heap.size, 2, none⟩ = some (.slice mA2 (n.2.2.1).length mc2) ∧ w'.cell? ⟨w1.heap.size, 3, none⟩ = some (.slice mA3 (n.2.2.2).length mc3)) w0 → Below w0.heap.size w0 w' → (fun w' => Below W0.heap.size W0 w' ∧ w'.cell? ⟨w1.heap.size, 0, none⟩ = some (.int .i64 n.1) ∧ w'.cell? ⟨w1.heap.size, 1, none⟩ = some (.slice mA1 (n.2.1).length mc1) ∧ w'.cell? ⟨w1.heap.size, 2, none⟩ = some (.slice mA2 (n.2.2.1).length mc2) ∧ w'.cell? ⟨w1.heap.size, 3, none⟩ = some (.slice mA3 (n.2.2.2).length mc3)) w' := fun h hb => ⟨bThen h.1 hb, keep hb h.2.1, keep hb h.2.2.1, keep hb h.2.2.2.1, keep hb h.2.2.2.2⟩
  dsimp only at hS0 hS
  refine wp_region_noPanic ?_
  refine wp_region_kept 5 7 (fun w' => Below W0.heap.size W0 w' ∧ w'.cell? ⟨w1.heap.size, 0, none⟩ = some (.int .i64 n.1) ∧ w'.cell? ⟨w1.heap.size, 1, none⟩ = some (.slice mA1 (n.2.1).length mc1) ∧ w'.cell? ⟨w1.heap.size, 2, none⟩ = some (.slice mA2 (n.2.2.1).length mc2) ∧ w'.cell? ⟨w1.heap.size, 3, none⟩ = some (.slice mA3 (n.2.2.2).length mc3)) (by kernel_rfl) rfl (hS hS0 (Below.drew (Below.refl _ _))) (fun hK0 => ?_)
  refine Kept.take (v := ?va0) 0 (by kernel_rfl) rfl (by kernel_rfl) (fun _ _ _ h => h) (Or.inl ⟨by rfl, ?hya0⟩) hK0 ?resta0
  case hya0 =>
    intro w0 hSw
    (try dsimp only at hSw)
    go_simp
    all_goals (with_reducible rfl)
  (try simp only [Act.put, List.setIfInBounds_toArray, List.set_cons_zero, List.set_cons_succ])
  refine Kept.take (v := ?va2) 2 (by kernel_rfl) rfl (by kernel_rfl) (fun _ _ _ h => h) (Or.inl ⟨by rfl, ?hya2⟩) hK0 ?resta2
  case hya2 =>
    intro w0 hSw
    (try dsimp only at hSw)
    go_simp
    all_goals (with_reducible rfl)
  (try simp only [Act.put, List.setIfInBounds_toArray, List.set_cons_zero, List.set_cons_succ])
  refine Kept.take (v := ?va3) 3 (by kernel_rfl) rfl (by kernel_rfl) (fun _ _ _ h => h) (Or.inl ⟨by rfl, ?hya3⟩) hK0 ?resta3
  case hya3 =>
    intro w0 hSw
    (try dsimp only at hSw)
    go_simp
    all_goals (with_reducible rfl)
  (try simp only [Act.put, List.setIfInBounds_toArray, List.set_cons_zero, List.set_cons_succ])
  refine Kept.take (v := ?va4) 4 (by kernel_rfl) rfl (by kernel_rfl) (fun _ _ _ h => h) (Or.inl ⟨by rfl, ?hya4⟩) hK0 ?resta4
  case hya4 =>
    intro w0 hSw
    (try dsimp only at hSw)
    go_simp
    all_goals (with_reducible rfl)
  (try simp only [Act.put, List.setIfInBounds_toArray, List.set_cons_zero, List.set_cons_succ])
  refine Kept.one 1 (by kernel_rfl) rfl (fun K hK => ?_)
  go_simp
  go_at_call 7
  refine (specNc_at n _ _ (rdUp good_Net HD.out (bThen HB.out hK0.1)) (Nat.le_refl _) HQ.out).mono ?_
  rintro e wa ⟨rfl, hba⟩
  go_simp
  refine hK.out _ _ (hS hK0 hba) (fun hK1 => ?_)
  clear hK K hK0
  (try simp only [Act.put, List.setIfInBounds_toArray, List.set_cons_zero, List.set_cons_succ])
  refine Kept.tail (by rfl) (by kernel_rfl) ?_
  simp only [List.drop_succ_cons, List.drop_zero]
  have HB1 := Lib.hid (bThen HB.out hK1.1)
  obtain ⟨-, d0, d1, d2, d3⟩ := hK1
  clear hS hS0
  go_wp2
  refine NoPanic.normal ?_
  go_wp2_with fail
  have hS0 : (fun w' => Below wa.heap.size wa w' ∧ w'.cell? ⟨w1.heap.size, 0, none⟩ = some (.int .i64 n.1) ∧ w'.cell? ⟨w1.heap.size, 1, none⟩ = some (.slice mA1 (n.2.1).length mc1) ∧ w'.cell? ⟨w1.heap.size, 2, none⟩ = some (.slice mA2 (n.2.2.1).length mc2) ∧ w'.cell? ⟨w1.heap.size, 3, none⟩ = some (.slice mA3 (n.2.2.2).length mc3)) wa := ⟨Below.refl _ _, d0, d1, d2, d3⟩
  have hS : ∀ {w0 w' : World}, (fun w' => Below wa.heap.size wa w' ∧ w'.cell? ⟨w1.heap.size, 0, none⟩ = some (.int .i64 n.1) ∧ w'.cell? ⟨w1.heap.size, 1, none⟩ = some (.slice mA1 (n.2.1).length mc1) ∧ w'.cell? ⟨w1.heap.size, 2, none⟩ = some (.slice mA2 (n.2.2.1).length mc2) ∧ w'.cell? ⟨w1.heap.size, 3, none⟩ = some (.slice mA3 (n.2.2.2).length mc3)) w0 → Below w0.heap.size w0 w' → (fun w' => Below wa.heap.size wa w' ∧ w'.cell? ⟨w1.heap.size, 0, none⟩ = some (.int .i64 n.1) ∧ w'.cell? ⟨w1.heap.size, 1, none⟩ = some (.slice mA1 (n.2.1).length mc1) ∧ w'.cell? ⟨w1.heap.size, 2, none⟩ = some (.slice mA2 (n.2.2.1).length mc2) ∧ w'.cell? ⟨w1.heap.size, 3, none⟩ = some (.slice mA3 (n.2.2.2).length mc3)) w' := fun h hb => ⟨bThen h.1 hb, keep hb h.2.1, keep hb h.2.2.1, keep hb h.2.2.2.1, keep hb h.2.2.2.2⟩
  dsimp only at hS0 hS
  refine wp_region_noPanic ?_
  refine wp_region_kept 5 7 (fun w' => Below wa.heap.size wa w' ∧ w'.cell? ⟨w1.heap.size, 0, none⟩ = some (.int .i64 n.1) ∧ w'.cell? ⟨w1.heap.size, 1, none⟩ = some (.slice mA1 (n.2.1).length mc1) ∧ w'.cell? ⟨w1.heap.size, 2, none⟩ = some (.slice mA2 (n.2.2.1).length mc2) ∧ w'.cell? ⟨w1.heap.size, 3, none⟩ = some (.slice mA3 (n.2.2.2).length mc3)) (by kernel_rfl) rfl (hS hS0 (Below.drew (Below.refl _ _))) (fun hK0 => ?_)
  refine Kept.take (v := ?vb0) 0 (by kernel_rfl) rfl (by kernel_rfl) (fun _ _ _ h => h) (Or.inl ⟨by rfl, ?hyb0⟩) hK0 ?restb0
  case hyb0 =>
    intro w0 hSw
    (try dsimp only at hSw)
    go_simp
    all_goals (with_reducible rfl)
  (try simp only [Act.put, List.setIfInBounds_toArray, List.set_cons_zero, List.set_cons_succ])
  refine Kept.take (v := ?vb1) 1 (by kernel_rfl) rfl (by kernel_rfl) (fun _ _ _ h => h) (Or.inl ⟨by rfl, ?hyb1⟩) hK0 ?restb1
  case hyb1 =>
    intro w0 hSw
    (try dsimp only at hSw)
    go_simp
    all_goals (with_reducible rfl)
  (try simp only [Act.put, List.setIfInBounds_toArray, List.set_cons_zero, List.set_cons_succ])
  refine Kept.take (v := ?vb3) 3 (by kernel_rfl) rfl (by kernel_rfl) (fun _ _ _ h => h) (Or.inl ⟨by rfl, ?hyb3⟩) hK0 ?restb3
  case hyb3 =>
    intro w0 hSw
    (try dsimp only at hSw)
    go_simp
    all_goals (with_reducible rfl)
  (try simp only [Act.put, List.setIfInBounds_toArray, List.set_cons_zero, List.set_cons_succ])
  refine Kept.one 2 (by kernel_rfl) rfl (fun K hK => ?_)
  go_simp
  go_at_call 9
  refine (specStart_at n _ _ (rdUp good_Net HD.out (bThen HB1.out hK0.1)) rfl).mono ?_
  rintro e wb ⟨vs, rfl, hos, hbb⟩
  have HS5 := Lib.hid hos
  clear hos
  go_simp
  refine hK.out _ _ (hS hK0 hbb) (fun hK1 => ?_)
  clear hK K hK0
  (try simp only [Act.put, List.setIfInBounds_toArray, List.set_cons_zero, List.set_cons_succ])
  refine Kept.one 4 (by kernel_rfl) rfl (fun K hK => ?_)
  go_simp
  go_at_call 10
  refine (HAT.out _ (bThen HBW.out (bThen HB1.out hK1.1))).mono ?_
  rintro e wc ⟨rfl, hbc⟩
  replace HS5 := Lib.hid (HS5.out.below hbc)
  go_simp
  refine hK.out _ _ (hS hK1 hbc) (fun hK2 => ?_)
  clear hK K hK1
  (try simp only [Act.put, List.setIfInBounds_toArray, List.set_cons_zero, List.set_cons_succ])
  refine Kept.tail (by rfl) (by kernel_rfl) ?_
  simp only [List.drop_succ_cons, List.drop_zero]
  go_wp2_with fail
  refine (specVals_at n (startO n) (x0 : Int) _ _ _ (rdUp good_Net HD.out (bThen HB1.out hK2.1)) (ownI_rd HS5.out HSF.out) rfl).mono ?_
  rintro e wd ⟨vv, rfl, hov, hbd⟩
  have HV := Lib.hid hov
  have hK3 := hS hK2 hbd
  clear hov hbd hK2
  have HB2 := Lib.hid (bThen HB1.out hK3.1)
  obtain ⟨-, d0, d1, d2, d3⟩ := hK3
  clear hS hS0
  go_wp2
  refine NoPanic.normal ?_
  obtain ⟨V, hV⟩ : ∃ V, allV n (startO n) (x0 : Int) = V := ⟨_, rfl⟩
  have hVA : valO n (startO n) (x0 : Int) = V := by rw [valO_all (x0 : Int) HSP.out, hV]
  rw [hVA] at HV
  have hVl : V.length = N := by rw [← hV, allV_len (x0 : Int) HSP.out.len]; exact HN.out
  obtain ⟨vG, vgc, rfl, -, -⟩ := own_blk HV.out (by omega)
  rw [hVl] at HV ⊢
  have HVF := Lib.hid (show ∀ y ∈ V, Fit y from fun y hy => by
    obtain ⟨j, hj, rfl⟩ := List.getElem_of_mem hy
    have h01 := allV_01 (st := startO n) (x0 : Int) HP.out HSP.out.len j
    rw [hV, List.getD_eq_getElem?_getD, List.getElem?_eq_getElem hj, Option.getD_some] at h01
    unfold Fit; omega)
  have HVV := Lib.hid hV
  have HVL := Lib.hid hVl
  have HC := Lib.hid (And.intro d0 (And.intro d1 (And.intro d2 d3)))
  clear hV hVA hVl HB HB1 d0 d1 d2 d3
  go_wp2
  go_loopw [6] (fun v wr => ∃ i : Nat, i ≤ n.2.2.1.length ∧ v = .int .i64 (i : Int) ∧ Below wd.heap.size wd wr) (fun v _ => n.2.2.1.length - (intOf v).toNat)
  case atStart => exact ⟨0, Nat.zero_le _, rfl, Below.refl _ _⟩
  case round =>
    obtain ⟨i, hi', rfl, hb⟩ := hrel
    obtain ⟨w3, rfl⟩ : ∃ w3, w3 = wr := ⟨_, rfl⟩
    have HBR := Lib.hid hb
    have HB3 := Lib.hid (bThen HB2.out hb)
    have c0 := keep hb HC.out.1
    have c1 := keep hb HC.out.2.1
    have c2 := keep hb HC.out.2.2.1
    have c3 := keep hb HC.out.2.2.2
    clear hb
    by_cases hlt : i < n.2.2.1.length
    · have ti : (i : Int) < (n.2.2.1.length : Int) := by omega
      obtain ⟨f, hf⟩ : ∃ f : Nat, F + i = f := ⟨_, rfl⟩
      have hfi : (F : Int) + (i : Int) = (f : Int) := by omega
      have hfN : f < N := by omega
      have hCJ := conj_all HP.out hlt
      obtain ⟨L, hL⟩ : ∃ L, cjL n i = L := ⟨_, rfl⟩
      have hcj : conjO n (f : Int) = L := by
        have e := conj_yes HOK.out hlt
        rw [HF.out, hf, hL] at e
        exact e
      rw [hL] at hCJ
      have HCJ := Lib.hid hCJ
      have HL := Lib.hid hL
      have HEND := Lib.hid (show prodV V L L.length = V.getD f 0 by
        have e := prodV_end HP.out hlt (x0 : Int) HSP.out.len
        rw [HVV.out, HF.out, hf, hL] at e
        exact e)
      have hLl : L.length ≤ 666 := by rw [← hL]; exact (cjL_in n i (by rw [HN.out]; omega)).1
      have HLF := Lib.hid (show ∀ y ∈ L, Fit y from fun y hy => by
        obtain ⟨l, rfl, h1, _⟩ := hCJ.lit y hy
        rw [HF.out] at h1
        unfold Fit; omega)
      have hL0 : 0 < L.length := by
        have := hCJ.ne
        rcases Nat.eq_zero_or_pos L.length with h | h
        · exact absurd (List.eq_nil_of_length_eq_zero h) this
        · exact h
      clear hCJ hL hf
      go_wp2_with fail
      refine (implConj_at n (f : Int) (by unfold Fit; omega) _ _ (rdUp good_Net HD.out HB3.out) hcj).mono ?_
      rintro e w4 ⟨lv, rfl, hlo, hb⟩
      replace c0 := keep hb c0
      replace c1 := keep hb c1
      replace c2 := keep hb c2
      replace c3 := keep hb c3
      obtain ⟨lG, lc, rfl, -, -⟩ := own_blk hlo hL0
      have HLO := Lib.hid hlo
      have HBR4 := Lib.hid (bThen HBR.out hb)
      clear hlo hb hcj
      go_wp2
      go_loopw [8, 9] (fun x v wr => ∃ k : Nat, k ≤ L.length ∧ v = .int .i64 (k : Int) ∧ x = .int .i64 (prodV V L k) ∧ Below w4.heap.size w4 wr) (fun _ v _ => L.length - (intOf v).toNat)
      case atStart => exact ⟨0, Nat.zero_le _, rfl, by rw [prodV_zero], Below.refl _ _⟩
      case round =>
        obtain ⟨k, hk, rfl, rfl, hb⟩ := hrel
        obtain ⟨w5, rfl⟩ : ∃ w5, w5 = wr := ⟨_, rfl⟩
        have HB5 := Lib.hid hb
        by_cases hkl : k < L.length
        · have tk : (k : Int) < (L.length : Int) := by omega
          obtain ⟨y, hy⟩ : ∃ y, L[k]? = some y := ⟨_, List.getElem?_eq_getElem hkl⟩
          obtain ⟨l, rfl, hl1, hl2⟩ := HCJ.out.lit y (List.mem_of_getElem? hy)
          rw [HF.out] at hl1 hl2
          have HY := Lib.hid hy
          have xc := (ownI_cell (HLO.out.below hb) rfl hkl).1
          rw [List.getD_eq_getElem?_getD, hy] at xc
          replace xc : w5.cell? ⟨lG, k, none⟩ = some (.int .i64 (l : Int)) := xc
          obtain ⟨F2, hF2⟩ : ∃ F2 : Nat, 2 * F = F2 := ⟨_, rfl⟩
          have e2F : IntKind.i64.wrap (2 * (F : Int)) = (F2 : Int) := by rw [wrap64_int _ (by omega) (by omega)]; omega
          have h2F : (2 : Int) * (F : Int) = (F2 : Int) := by omega
          have h2FW : IntKind.i64.wrap (F2 : Int) = (F2 : Int) := wrap64_int _ (by omega) (by omega)
          obtain ⟨pv, hpv⟩ : ∃ pv, prodV V L k = pv := ⟨_, rfl⟩
          have hpin : pv = 0 ∨ pv = 1 := by rw [← hpv]; exact prodV_in V L k
          rw [hpv]
          have HPV := Lib.hid hpv
          have hpos : 0 < k → ∃ l' : Nat, L[k - 1]? = some (l' : Int) ∧ l' < l := fun h0 => by
            obtain ⟨y', hy'⟩ : ∃ y', L[k - 1]? = some y' := ⟨_, List.getElem?_eq_getElem (by omega)⟩
            obtain ⟨l', rfl, -, -⟩ := HCJ.out.lit y' (List.mem_of_getElem? hy')
            have := asc_at HCJ.out.asc (show k - 1 < k by omega) hy' HY.out
            exact ⟨l', hy', by omega⟩
          clear hb hy hpv
          have HLIT := Lib.hid (show litO V (l : Int) = bitV V l by rw [← HVV.out]; exact litV_bit HP.out HSP.out.len (by rw [HN.out]; omega))
          have hbl := bitV_in V l
          have HSTEP := Lib.hid (show bits .and .i64 pv (bitV V l) = prodV V L (k + 1) by rw [← HPV.out]; exact prodV_step HY.out (by have := bitV_in V l; omega))
          have hkk : k = 0 ∨ 0 < k := by omega
          have hll : l < F2 ∨ (F2 ≤ l ∧ l % 2 = 1) := by
            rcases Nat.lt_or_ge l F2 with h | h
            · exact .inl h
            · refine .inr ⟨h, ?_⟩
              by_cases c : l % 2 = 0
              · have := hl2 c; omega
              · omega
          clear hl2
          rcases hll with hla | ⟨hla, hlo2⟩
          · have tA : ¬ F2 ≤ l := by omega
            rcases hkk with rfl | hk0
            · go_wp2_with fail
              go_quiet (fail)
              have HBQ := Lib.hid (show Below w4.heap.size w4 (w5.drewN nq) from HB5.out.trans ⟨rfl, rfl, rfl, Nat.le_refl _, fun _ _ => rfl⟩)
              go_wp2_with fail
              refine (implLitV_at V (l : Int) (by unfold Fit; omega) _ _ (ownI_rd (HV.out.below (bThen HBR4.out HBQ.out)) HVF.out) (Nat.le_refl _) HLIT.out).mono ?_
              rintro e w8 ⟨rfl, hb8⟩
              have HB8 := Lib.hid (bThen HBQ.out hb8)
              clear hb8
              go_wp2
              go_roundw
              case rel => exact ⟨0 + 1, by omega, by go_num, by rw [HSTEP.out], HB8.out⟩
              case measure => simp [intOf] <;> omega
            · obtain ⟨l', hl', hll'⟩ := hpos hk0
              obtain ⟨k1, hk1⟩ : ∃ k1, k - 1 = k1 := ⟨_, rfl⟩
              rw [hk1] at hl'
              have tl : ¬ l ≤ l' := by omega
              have tk1 : IntKind.i64.wrap ((k : Int) - 1) = (k1 : Int) := by rw [wrap64_int _ (by omega) (by omega)]; omega
              have tk2 : (k : Int) - 1 = (k1 : Int) := by omega
              have tkl : k1 < L.length := by omega
              have tkl' : (k1 : Int) < (L.length : Int) := by omega
              have xc1 := (ownI_cell (HLO.out.below HB5.out) rfl tkl).1
              rw [List.getD_eq_getElem?_getD, hl'] at xc1
              replace xc1 : w5.cell? ⟨lG, k1, none⟩ = some (.int .i64 (l' : Int)) := xc1
              clear hpos hl' hk1
              go_wp2_with fail
              go_quiet (fail)
              have HBQ := Lib.hid (show Below w4.heap.size w4 (w5.drewN nq) from HB5.out.trans ⟨rfl, rfl, rfl, Nat.le_refl _, fun _ _ => rfl⟩)
              go_wp2_with fail
              refine (implLitV_at V (l : Int) (by unfold Fit; omega) _ _ (ownI_rd (HV.out.below (bThen HBR4.out HBQ.out)) HVF.out) (Nat.le_refl _) HLIT.out).mono ?_
              rintro e w8 ⟨rfl, hb8⟩
              have HB8 := Lib.hid (bThen HBQ.out hb8)
              clear hb8
              go_wp2
              go_roundw
              case rel => exact ⟨k + 1, by omega, by go_num, by rw [HSTEP.out], HB8.out⟩
              case measure => simp [intOf] <;> omega
          · have tM : l % 2 = 1 := hlo2
            have tM2 : (l : Int) % 2 = 1 := by omega
            have tM3 : (l : Int).tmod 2 = 1 := by rw [Int.tmod_eq_emod_of_nonneg (by omega)]; omega
            rcases hkk with rfl | hk0
            · go_wp2_with fail
              go_quiet (fail)
              have HBQ := Lib.hid (show Below w4.heap.size w4 (w5.drewN nq) from HB5.out.trans ⟨rfl, rfl, rfl, Nat.le_refl _, fun _ _ => rfl⟩)
              go_wp2_with fail
              refine (implLitV_at V (l : Int) (by unfold Fit; omega) _ _ (ownI_rd (HV.out.below (bThen HBR4.out HBQ.out)) HVF.out) (Nat.le_refl _) HLIT.out).mono ?_
              rintro e w8 ⟨rfl, hb8⟩
              have HB8 := Lib.hid (bThen HBQ.out hb8)
              clear hb8
              go_wp2
              go_roundw
              case rel => exact ⟨0 + 1, by omega, by go_num, by rw [HSTEP.out], HB8.out⟩
              case measure => simp [intOf] <;> omega
            · obtain ⟨l', hl', hll'⟩ := hpos hk0
              obtain ⟨k1, hk1⟩ : ∃ k1, k - 1 = k1 := ⟨_, rfl⟩
              rw [hk1] at hl'
              have tl : ¬ l ≤ l' := by omega
              have tk1 : IntKind.i64.wrap ((k : Int) - 1) = (k1 : Int) := by rw [wrap64_int _ (by omega) (by omega)]; omega
              have tk2 : (k : Int) - 1 = (k1 : Int) := by omega
              have tkl : k1 < L.length := by omega
              have tkl' : (k1 : Int) < (L.length : Int) := by omega
              have xc1 := (ownI_cell (HLO.out.below HB5.out) rfl tkl).1
              rw [List.getD_eq_getElem?_getD, hl'] at xc1
              replace xc1 : w5.cell? ⟨lG, k1, none⟩ = some (.int .i64 (l' : Int)) := xc1
              clear hpos hl' hk1
              go_wp2_with fail
              go_quiet (fail)
              have HBQ := Lib.hid (show Below w4.heap.size w4 (w5.drewN nq) from HB5.out.trans ⟨rfl, rfl, rfl, Nat.le_refl _, fun _ _ => rfl⟩)
              go_wp2_with fail
              refine (implLitV_at V (l : Int) (by unfold Fit; omega) _ _ (ownI_rd (HV.out.below (bThen HBR4.out HBQ.out)) HVF.out) (Nat.le_refl _) HLIT.out).mono ?_
              rintro e w8 ⟨rfl, hb8⟩
              have HB8 := Lib.hid (bThen HBQ.out hb8)
              clear hb8
              go_wp2
              go_roundw
              case rel => exact ⟨k + 1, by omega, by go_num, by rw [HSTEP.out], HB8.out⟩
              case measure => simp [intOf] <;> omega
        · obtain rfl : k = L.length := by omega
          have vc := (ownI_cell (HV.out.below (bThen HBR4.out HB5.out)) HVL.out hfN).1
          rw [← HEND.out] at vc
          obtain ⟨pv, hpv⟩ : ∃ pv, prodV V L L.length = pv := ⟨_, rfl⟩
          rw [hpv] at vc ⊢
          have tfN : (f : Int) < (N : Int) := by omega
          have tL0 : ((L.length : Int) == 0) = false := beq_false_of_ne (by omega)
          have HB9 := Lib.hid (bThen HBR4.out HB5.out)
          clear hb hkl
          go_wp2
          go_roundw
          case rel => exact ⟨i + 1, by omega, by go_num, HB9.out⟩
          case measure => simp [intOf] <;> omega
    · obtain rfl : i = n.2.2.1.length := by omega
      clear hlt
      go_wp2_with fail
      refine (implConj_at n 0 (by unfold Fit; omega) _ _ (rdUp good_Net HD.out HB3.out) (conj_no (fun h => by have := HF.out; omega))).mono ?_
      rintro e w4 ⟨lv, rfl, hlo, hb⟩
      have HB4 := Lib.hid (bThen HBR.out hb)
      have HB34 := Lib.hid (bThen HB3.out hb)
      obtain ⟨lA, lc, rfl, -⟩ := hlo.shape
      clear hlo hb c0 c1 c2 c3
      go_wp2_with fail
      refine (implLitV_at V 1 (by unfold Fit; omega) _ _ (ownI_rd (HV.out.below HB4.out) HVF.out) (Nat.le_refl _) (show litO V ((1 : Nat) : Int) = 1 by rw [← HVV.out, litV_bit HP.out HSP.out.len (by rw [HN.out]; omega), bit_one0])).mono ?_
      rintro e w5 ⟨rfl, hb⟩
      have HB5 := Lib.hid (bThen HBW.out (bThen HB34.out hb))
      clear hb
      go_wp2
      go_ret
      exact ⟨rfl, HB5.out⟩
end Go.Proofs.Ytiejilmgchmppaa
