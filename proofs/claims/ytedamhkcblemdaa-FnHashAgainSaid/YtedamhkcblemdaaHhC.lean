/-
  IsHashed: the program.
-/
import Derived.Test.YtedamhkcblemdaaHhB
import Derived.Test.YtedamhkcblemdaaHiK
import Derived.Test.YtedamhkcblemdaaNeC
import Derived.Deep.RegionHeld3
import Derived.Laws.StructEq
namespace Go.Proofs.Ytedamhkcblemdaa
open Go.RowKit
set_option linter.unusedVariables false
set_option linter.unusedSimpArgs false

theorem OwnsR.belowB {w w' : World} {B : Nat} {v : Value} {R : List Bool} (h : OwnsB w B v R) (hb : Below w.heap.size w w') : OwnsB w' B v R := OwnsR.atB h fun g e => hb.block g (by have := OwnsR.blk_lt h e; omega)
set_option maxRecDepth 100000 in
set_option maxHeartbeats 25600000 in
theorem implHashed_at (n : DNet) (us : List Value) (w : World) (h : rdNet 0 w.heap.size w us n) {r : Bool} (hr : hashedB n = r) :
    Calls Try.prog 29 #[.agg us.toArray] w fun e w' => e = .returned (.bool r) ∧ Below w.heap.size w w' := by
  have HD := Lib.hid h
  have HX := Lib.hid hr
  obtain ⟨f, hf⟩ : ∃ f, netB n = f := ⟨_, rfl⟩
  have HF := Lib.hid hf
  clear hr hf
  obtain ⟨mu0, mu1, mu2, mu3, rfl, mh0, mh1, mh2, mh3⟩ := h
  obtain ⟨me0, -⟩ := mh0
  injection me0 with me0
  subst me0
  obtain ⟨mA1, mc1, me1, mm1, -⟩ := slice_of mh1
  subst me1
  have mR1 := Lib.hid mh1
  clear mh1
  obtain ⟨mA2, mc2, me2, mm2, -⟩ := slice_of mh2
  subst me2
  have mR2 := Lib.hid mh2
  clear mh2
  obtain ⟨mA3, mc3, me3, mm3, -⟩ := slice_of mh3
  subst me3
  have mR3 := Lib.hid mh3
  clear mh3
  go_enter Try.func29, Try.ntmps29
  go_wp2_with fail
  obtain ⟨W0, hV⟩ : ∃ W0, W0 = (w.alloc (.cells #[.int .i64 n.1, .slice mA1 (n.2.1).length mc1, .slice mA2 (n.2.2.1).length mc2, .slice mA3 (n.2.2.2).length mc3] 36)) := ⟨_, rfl⟩
  rw [← hV]
  have gN := eqbox1 hV
  have d0 : W0.cell? ⟨w.heap.size, 0, none⟩ = some (.int .i64 n.1) := box_cell gN.1 0 _ rfl
  have d1 : W0.cell? ⟨w.heap.size, 1, none⟩ = some (.slice mA1 (n.2.1).length mc1) := box_cell gN.1 1 _ rfl
  have d2 : W0.cell? ⟨w.heap.size, 2, none⟩ = some (.slice mA2 (n.2.2.1).length mc2) := box_cell gN.1 2 _ rfl
  have d3 : W0.cell? ⟨w.heap.size, 3, none⟩ = some (.slice mA3 (n.2.2.2).length mc3) := box_cell gN.1 3 _ rfl
  have sW0 : W0.heap.size = w.heap.size + 1 := by rw [hV]; simp
  have HW0 := Lib.hid gN.2
  clear hV gN
  have HB := Lib.hid HW0.out
  clear HW0 sW0
  have hS0 : (fun w' => Below W0.heap.size W0 w' ∧ w'.cell? ⟨w.heap.size, 0, none⟩ = some (.int .i64 n.1) ∧ w'.cell? ⟨w.heap.size, 1, none⟩ = some (.slice mA1 (n.2.1).length mc1) ∧ w'.cell? ⟨w.heap.size, 2, none⟩ = some (.slice mA2 (n.2.2.1).length mc2) ∧ w'.cell? ⟨w.heap.size, 3, none⟩ = some (.slice mA3 (n.2.2.2).length mc3)) W0 := ⟨Below.refl _ _, d0, d1, d2, d3⟩
  have hS : ∀ {w0 w' : World}, (fun w' => Below W0.heap.size W0 w' ∧ w'.cell? ⟨w.heap.size, 0, none⟩ = some (.int .i64 n.1) ∧ w'.cell? ⟨w.heap.size, 1, none⟩ = some (.slice mA1 (n.2.1).length mc1) ∧ w'.cell? ⟨w.heap.size, 2, none⟩ = some (.slice mA2 (n.2.2.1).length mc2) ∧ w'.cell? ⟨w.heap.size, 3, none⟩ = some (.slice mA3 (n.2.2.2).length mc3)) w0 → Below w0.heap.size w0 w' → (fun w' => Below W0.heap.size W0 w' ∧ w'.cell? ⟨w.heap.size, 0, none⟩ = some (.int .i64 n.1) ∧ w'.cell? ⟨w.heap.size, 1, none⟩ = some (.slice mA1 (n.2.1).length mc1) ∧ w'.cell? ⟨w.heap.size, 2, none⟩ = some (.slice mA2 (n.2.2.1).length mc2) ∧ w'.cell? ⟨w.heap.size, 3, none⟩ = some (.slice mA3 (n.2.2.2).length mc3)) w' := fun h hb => ⟨bThen h.1 hb, keep hb h.2.1, keep hb h.2.2.1, keep hb h.2.2.2.1, keep hb h.2.2.2.2⟩
  dsimp only at hS0 hS
  cases f with
  | false =>
    obtain rfl : r = false := HX.out.symm.trans (by unfold hashedB; rw [HF.out, Bool.false_and])
    refine wp_region_noPanic ?_
    refine wp_region_kept 7 11 (fun w' => Below W0.heap.size W0 w' ∧ w'.cell? ⟨w.heap.size, 0, none⟩ = some (.int .i64 n.1) ∧ w'.cell? ⟨w.heap.size, 1, none⟩ = some (.slice mA1 (n.2.1).length mc1) ∧ w'.cell? ⟨w.heap.size, 2, none⟩ = some (.slice mA2 (n.2.2.1).length mc2) ∧ w'.cell? ⟨w.heap.size, 3, none⟩ = some (.slice mA3 (n.2.2.2).length mc3)) (by kernel_rfl) rfl (hS hS0 (Below.drew (Below.refl _ _))) (fun hK0 => ?_)
    refine Kept.take (v := ?vn0) 0 (by kernel_rfl) rfl (by kernel_rfl) (fun _ _ _ h => h) (Or.inl ⟨by rfl, ?hyn0⟩) hK0 ?restn0
    case hyn0 =>
      intro w0 hSw
      (try dsimp only at hSw)
      go_simp
      all_goals (with_reducible rfl)
    (try simp only [Act.put, List.setIfInBounds_toArray, List.set_cons_zero, List.set_cons_succ])
    refine Kept.one 1 (by kernel_rfl) rfl (fun K hK => ?_)
    go_simp
    go_at_call 28
    refine (implNetOk_at n _ _ (rdUp good_Net HD.out (bThen HB.out hK0.1)) HF.out).mono ?_
    rintro e w1 ⟨rfl, hb⟩
    go_simp
    refine hK.out _ _ (hS hK0 hb) (fun hK1 => ?_)
    clear hK K hK0
    (try simp only [Act.put, List.setIfInBounds_toArray, List.set_cons_zero, List.set_cons_succ])
    refine Kept.take (v := ?vn2) 2 (by kernel_rfl) rfl (by kernel_rfl) (fun _ _ _ h => h) (Or.inl ⟨by rfl, ?hyn2⟩) hK1 ?restn2
    case hyn2 =>
      intro w0 hSw
      (try dsimp only at hSw)
      go_simp
      all_goals (with_reducible rfl)
    (try simp only [Act.put, List.setIfInBounds_toArray, List.set_cons_zero, List.set_cons_succ])
    refine Kept.take (v := ?vn3) 3 (by kernel_rfl) rfl (by kernel_rfl) (fun _ _ _ h => h) (Or.inl ⟨by rfl, ?hyn3⟩) hK1 ?restn3
    case hyn3 =>
      intro w0 hSw
      (try dsimp only at hSw)
      go_simp
      all_goals (with_reducible rfl)
    (try simp only [Act.put, List.setIfInBounds_toArray, List.set_cons_zero, List.set_cons_succ])
    refine Kept.take (v := undef) 4 (by kernel_rfl) rfl (by kernel_rfl) (fun _ _ _ h => h) (Or.inr ⟨by rfl, rfl⟩) hK1 ?_
    (try simp only [Act.put, List.setIfInBounds_toArray, List.set_cons_zero, List.set_cons_succ])
    refine Kept.take (v := undef) 6 (by kernel_rfl) rfl (by kernel_rfl) (fun _ _ _ h => h) (Or.inr ⟨by rfl, rfl⟩) hK1 ?_
    (try simp only [Act.put, List.setIfInBounds_toArray, List.set_cons_zero, List.set_cons_succ])
    refine Kept.one 5 (by kernel_rfl) rfl (fun K hK => ?_)
    go_simp
    refine hK.out _ _ (hK1) (fun hK2 => ?_)
    clear hK K hK1
    (try simp only [Act.put, List.setIfInBounds_toArray, List.set_cons_zero, List.set_cons_succ])
    refine Kept.tail (by rfl) (by kernel_rfl) ?_
    simp only [List.drop_succ_cons, List.drop_zero]
    have HB4 := Lib.hid (bThen HB.out hK2.1)
    clear hS hS0 hK2
    go_wp2
    refine NoPanic.normal ?_
    go_wp2
    go_ret
    exact ⟨rfl, HB4.out⟩
  | true =>
    have HP := Lib.hid (netP_of HF.out)
    have a300 := HP.out.sz.a300
    have h33 : firN n ≤ 33 ∧ 1 ≤ firN n := by have := HP.out.sz.i20; have := HP.out.sz.s12; unfold firN; omega
    obtain ⟨R, hR⟩ : ∃ R, reachO n = R := ⟨_, rfl⟩
    have HR := Lib.hid hR
    have HRL := Lib.hid (show R.length = firN n + n.2.2.1.length by rw [← hR]; exact reach_lenS HP.out)
    obtain ⟨cq, hcq⟩ : ∃ cq, (R.drop (firN n)).any not = cq := ⟨_, rfl⟩
    have HCQ := Lib.hid hcq
    clear hR hcq
    refine wp_region_noPanic ?_
    refine wp_region_kept 7 11 (fun w' => Below W0.heap.size W0 w' ∧ w'.cell? ⟨w.heap.size, 0, none⟩ = some (.int .i64 n.1) ∧ w'.cell? ⟨w.heap.size, 1, none⟩ = some (.slice mA1 (n.2.1).length mc1) ∧ w'.cell? ⟨w.heap.size, 2, none⟩ = some (.slice mA2 (n.2.2.1).length mc2) ∧ w'.cell? ⟨w.heap.size, 3, none⟩ = some (.slice mA3 (n.2.2.2).length mc3)) (by kernel_rfl) rfl (hS hS0 (Below.drew (Below.refl _ _))) (fun hK0 => ?_)
    refine Kept.take (v := ?vy0) 0 (by kernel_rfl) rfl (by kernel_rfl) (fun _ _ _ h => h) (Or.inl ⟨by rfl, ?hyy0⟩) hK0 ?resty0
    case hyy0 =>
      intro w0 hSw
      (try dsimp only at hSw)
      go_simp
      all_goals (with_reducible rfl)
    (try simp only [Act.put, List.setIfInBounds_toArray, List.set_cons_zero, List.set_cons_succ])
    refine Kept.one 1 (by kernel_rfl) rfl (fun K hK => ?_)
    go_simp
    go_at_call 28
    refine (implNetOk_at n _ _ (rdUp good_Net HD.out (bThen HB.out hK0.1)) HF.out).mono ?_
    rintro e w1 ⟨rfl, hb⟩
    go_simp
    refine hK.out _ _ (hS hK0 hb) (fun hK1 => ?_)
    clear hK K hK0
    (try simp only [Act.put, List.setIfInBounds_toArray, List.set_cons_zero, List.set_cons_succ])
    refine Kept.take (v := ?vy2) 2 (by kernel_rfl) rfl (by kernel_rfl) (fun _ _ _ h => h) (Or.inl ⟨by rfl, ?hyy2⟩) hK1 ?resty2
    case hyy2 =>
      intro w0 hSw
      (try dsimp only at hSw)
      go_simp
      all_goals (with_reducible rfl)
    (try simp only [Act.put, List.setIfInBounds_toArray, List.set_cons_zero, List.set_cons_succ])
    refine Kept.take (v := ?vy3) 3 (by kernel_rfl) rfl (by kernel_rfl) (fun _ _ _ h => h) (Or.inl ⟨by rfl, ?hyy3⟩) hK1 ?resty3
    case hyy3 =>
      intro w0 hSw
      (try dsimp only at hSw)
      go_simp
      all_goals (with_reducible rfl)
    (try simp only [Act.put, List.setIfInBounds_toArray, List.set_cons_zero, List.set_cons_succ])
    refine Kept.take (v := ?vy4) 4 (by kernel_rfl) rfl (by kernel_rfl) (fun _ _ _ h => h) (Or.inl ⟨by rfl, ?hyy4⟩) hK1 ?resty4
    case hyy4 =>
      intro w0 hSw
      (try dsimp only at hSw)
      go_simp
      all_goals (with_reducible rfl)
    (try simp only [Act.put, List.setIfInBounds_toArray, List.set_cons_zero, List.set_cons_succ])
    refine Kept.take (v := ?vy6) 6 (by kernel_rfl) rfl (by kernel_rfl) (fun _ _ _ h => h) (Or.inl ⟨by rfl, ?hyy6⟩) hK1 ?resty6
    case hyy6 =>
      intro w0 hSw
      (try dsimp only at hSw)
      go_simp
      all_goals (with_reducible rfl)
    (try simp only [Act.put, List.setIfInBounds_toArray, List.set_cons_zero, List.set_cons_succ])
    refine Kept.one 5 (by kernel_rfl) rfl (fun K hK => ?_)
    go_simp
    go_at_call 71
    refine (implReach_at n _ _ (rdUp good_Net HD.out (bThen HB.out hK1.1)) HR.out).mono ?_
    rintro e w2 ⟨vr, rfl, hor, hb⟩
    have hor9 := hor
    obtain ⟨rA, rc, rfl, hrs⟩ := OwnsR.shape fB_len hor
    obtain ⟨G, hG, -⟩ := hrs 0 (by rw [HRL.out]; omega)
    subst hG
    rw [HRL.out] at hor9 ⊢
    have HOR := Lib.hid hor9
    clear hor hor9 hrs
    go_simp
    refine hK.out _ _ (hS hK1 hb) (fun hK2 => ?_)
    clear hK K hK1
    (try simp only [Act.put, List.setIfInBounds_toArray, List.set_cons_zero, List.set_cons_succ])
    refine Kept.tail (by rfl) (by kernel_rfl) ?_
    simp only [List.drop_succ_cons, List.drop_zero]
    have HB2 := Lib.hid (bThen HB.out hK2.1)
    replace d0 := hK2.2.1
    replace d1 := hK2.2.2.1
    replace d2 := hK2.2.2.2.1
    replace d3 := hK2.2.2.2.2
    clear hS hS0 hK2 HB
    have HB := Lib.hid HB2.out
    clear HB2
    go_wp2_with fail
    refine (andNode0_at n _ _ (rdUp good_Net HD.out HB.out) (Nat.le_refl _) HP.out.sz).mono ?_
    rintro e w3 ⟨rfl, hb⟩
    replace HOR := Lib.hid (OwnsR.belowB HOR.out hb)
    replace d0 := keep hb d0
    replace d1 := keep hb d1
    replace d2 := keep hb d2
    replace d3 := keep hb d3
    replace HB := Lib.hid (bThen HB.out hb)
    clear hb
    have tf1 : (0 : Int) ≤ (firN n : Int) := by omega
    have tf2 : (firN n : Int) ≤ ((firN n + n.2.2.1.length : Nat) : Int) := by omega
    have HRD := Lib.hid (show rdBoolS 0 w3.heap.size w3 [.slice (some ⟨G, firN n, none⟩) n.2.2.1.length (rc - firN n)] (R.drop (firN n)) by have h := drop_rd HOR.out HRL.out (show firN n ≤ firN n + n.2.2.1.length by omega) (by unfold maxLen; omega); rwa [Nat.add_sub_cancel_left] at h)
    have HCAP := Lib.hid (show firN n + n.2.2.1.length ≤ rc by
      obtain ⟨A', c', e', hm', -⟩ := HOR.out.rd
      injection e' with e'
      injection e' with e1 e2 e3
      subst e3
      rw [← HRL.out]; exact hm'.2)
    have HRD0 := Lib.hid (show ∀ (A : Option Addr) (k c : Nat), rc = firN n → k = n.2.2.1.length → rdBoolS 0 w3.heap.size w3 [.slice A k c] (R.drop (firN n)) from fun A k c e ek => by
      have h0 : n.2.2.1.length = 0 := by have := HCAP.out; omega
      have e0 : R.drop (firN n) = [] := List.drop_eq_nil_of_le (by rw [HRL.out]; omega)
      rw [e0, ek, h0]
      exact ⟨A, c, rfl, ⟨Nat.zero_le _, Nat.zero_le _⟩, fun j hj => absurd hj (Nat.not_lt_zero j)⟩)
    go_wp2_with fail
    all_goals (refine (containsF_at _ _ w3 (by first | exact HRD.out | exact HRD0.out _ _ _ ‹rc = firN n› rfl | exact HRD0.out _ _ _ ‹rc = firN n› (by have := HCAP.out; omega)) HCQ.out).mono ?_)
    · rintro e w4 ⟨rfl, rfl⟩
      clear HRD HRD0 HCAP HOR tf1 tf2 h
      cases cq with
      | true =>
        obtain ⟨i, hi, hb0⟩ := drop_any HCQ.out
        have hil : i < n.2.2.1.length := by have := HRL.out; omega
        obtain rfl : r = false := HX.out.symm.trans (hashed_bad HR.out hil (hashAt_keep (List.getElem?_eq_getElem hil) hb0))
        clear hi hb0 hil
        go_wp2
        refine NoPanic.normal ?_
        go_wp2
        go_ret
        exact ⟨rfl, HB.out⟩
      | false =>
        go_wp2
        refine NoPanic.normal ?_
        go_wp2
        have HE := Lib.hid (And.intro d0 (And.intro d1 (And.intro d2 d3)))
        clear d0 d1 d2 d3
        go_loopw [21] (fun z wr => ∃ i : Nat, i ≤ n.2.2.1.length ∧ z = .int .i64 (i : Int) ∧ (∀ (j : Nat) (a : DAnd), j < i → n.2.2.1[j]? = some a → 2 ≤ a.1 ∧ a.1 < a.2 ∧ ¬ (a.1 % 2 = 0 ∧ a.2 = a.1 + 1)) ∧ Below w3.heap.size w3 wr) (fun z _ => n.2.2.1.length - (intOf z).toNat)
        case atStart => exact ⟨0, Nat.zero_le _, rfl, fun j a hj => absurd hj (Nat.not_lt_zero j), Below.refl _ _⟩
        case round =>
          obtain ⟨i, hi, rfl, hok, hb⟩ := hrel
          obtain ⟨w5, rfl⟩ : ∃ w5, w5 = wr := ⟨_, rfl⟩
          have HOK := Lib.hid hok
          have HBL := Lib.hid hb
          have d0 := keep hb HE.out.1
          have d1 := keep hb HE.out.2.1
          have d2 := keep hb HE.out.2.2.1
          have d3 := keep hb HE.out.2.2.2
          replace HB := Lib.hid (bThen HB.out hb)
          clear hok hb HE
          by_cases hlt : i < n.2.2.1.length
          · obtain ⟨a, ha⟩ : ∃ a, n.2.2.1[i]? = some a := ⟨_, List.getElem?_eq_getElem hlt⟩
            obtain ⟨p, q, rfl, hp, hq⟩ := HP.out.and_ i a ha
            obtain ⟨sb, sq, rfl, sb1, y0, yf0, y1, yf1⟩ := at_And (good_AndS.below mR2.out (Nat.le_refl _) HB.out) ha
            have HAK := Lib.hid ha
            have ti : (i : Int) < (n.2.2.1.length : Int) := by omega
            have hp9 : p ≤ 1000 := by omega
            have hq9 : q ≤ 1000 := by omega
            obtain ⟨tv, tf, htv⟩ : ∃ tv tf, trivO (p : Int) (q : Int) = (tv, tf) := ⟨_, _, rfl⟩
            have HTV := Lib.hid htv
            clear ha hp hq yf0 yf1 sb1 htv
            dsimp only at y0 y1
            have hw0 := World.block_lt_of_cell? w5 _ d0
            dsimp only at hw0
            go_wp2_with fail
            obtain ⟨W7, hW7⟩ : ∃ x, x = w5.alloc (.cells #[.int .i64 (p : Int), .int .i64 (q : Int)] 67) := ⟨_, rfl⟩
            rw [← hW7]
            have hb : Below w5.heap.size w5 W7 := by rw [hW7]; exact bAlloc (Below.refl _ _) (Nat.le_refl _) _
            have HXB := Lib.hid (show W7.heap[w5.heap.size]? = some (.cells #[.int .i64 (p : Int), .int .i64 (q : Int)] 67 (0, 0)) by rw [hW7]; exact heap_alloc_new _ _)
            obtain ⟨X, hX⟩ : ∃ X, w5.heap.size = X := ⟨_, rfl⟩
            have x0 := box_cell HXB.out 0 _ rfl
            have x1 := box_cell HXB.out 1 _ rfl
            replace d0 := keep hb d0
            replace d1 := keep hb d1
            replace d2 := keep hb d2
            replace d3 := keep hb d3
            replace HB := Lib.hid (bThen HB.out hb)
            replace HBL := Lib.hid (bThen HBL.out hb)
            rw [hX] at x0 x1 ⊢
            clear hW7 hX HXB hb y0 y1 hw0
            refine (triv_at (p : Int) (q : Int) (by omega) (by omega) _ HTV.out).mono ?_
            rintro e w8 ⟨rfl, hb⟩
            replace d0 := keep hb d0
            replace d1 := keep hb d1
            replace d2 := keep hb d2
            replace d3 := keep hb d3
            replace x0 := keep hb x0
            replace x1 := keep hb x1
            replace HB := Lib.hid (bThen HB.out hb)
            replace HBL := Lib.hid (bThen HBL.out hb)
            clear hb
            go_wp2_with fail
            cases tf with
            | true =>
              obtain rfl : r = false := HX.out.symm.trans (hashed_bad HR.out hlt (hashAt_shape HAK.out (fun c => by have := (shape_triv.1 c).1; rw [HTV.out] at this; cases this)))
              have hS0 : (fun w' => Below w8.heap.size w8 w' ∧ w'.cell? ⟨X, 0, none⟩ = some (.int .i64 (p : Int)) ∧ w'.cell? ⟨X, 1, none⟩ = some (.int .i64 (q : Int))) w8 := ⟨Below.refl _ _, x0, x1⟩
              have hS : ∀ {w0 w' : World}, (fun w' => Below w8.heap.size w8 w' ∧ w'.cell? ⟨X, 0, none⟩ = some (.int .i64 (p : Int)) ∧ w'.cell? ⟨X, 1, none⟩ = some (.int .i64 (q : Int))) w0 → Below w0.heap.size w0 w' → (fun w' => Below w8.heap.size w8 w' ∧ w'.cell? ⟨X, 0, none⟩ = some (.int .i64 (p : Int)) ∧ w'.cell? ⟨X, 1, none⟩ = some (.int .i64 (q : Int))) w' := fun h hb => ⟨bThen h.1 hb, keep hb h.2.1, keep hb h.2.2⟩
              dsimp only at hS0 hS
              refine wp_region_noPanic ?_
              refine wp_region_kept 8 10 (fun w' => Below w8.heap.size w8 w' ∧ w'.cell? ⟨X, 0, none⟩ = some (.int .i64 (p : Int)) ∧ w'.cell? ⟨X, 1, none⟩ = some (.int .i64 (q : Int))) (by kernel_rfl) rfl (hS hS0 (Below.drew (Below.refl _ _))) (fun hK0 => ?_)
              refine Kept.take (v := ?vf2x0) 0 (by kernel_rfl) rfl (by kernel_rfl) (fun _ _ _ h => h) (Or.inl ⟨by rfl, ?hyf2x0⟩) hK0 ?restf2x0
              case hyf2x0 =>
                intro w0 hSw
                (try dsimp only at hSw)
                go_simp
                all_goals (with_reducible rfl)
              (try simp only [Act.put, List.setIfInBounds_toArray, List.set_cons_zero, List.set_cons_succ])
              refine Kept.take (v := ?vf2x1) 1 (by kernel_rfl) rfl (by kernel_rfl) (fun _ _ _ h => h) (Or.inl ⟨by rfl, ?hyf2x1⟩) hK0 ?restf2x1
              case hyf2x1 =>
                intro w0 hSw
                (try dsimp only at hSw)
                go_simp
                all_goals (with_reducible rfl)
              (try simp only [Act.put, List.setIfInBounds_toArray, List.set_cons_zero, List.set_cons_succ])
              refine Kept.take (v := undef) 2 (by kernel_rfl) rfl (by kernel_rfl) (fun _ _ _ h => h) (Or.inr ⟨by rfl, rfl⟩) hK0 ?_
              (try simp only [Act.put, List.setIfInBounds_toArray, List.set_cons_zero, List.set_cons_succ])
              refine Kept.take (v := undef) 3 (by kernel_rfl) rfl (by kernel_rfl) (fun _ _ _ h => h) (Or.inr ⟨by rfl, rfl⟩) hK0 ?_
              (try simp only [Act.put, List.setIfInBounds_toArray, List.set_cons_zero, List.set_cons_succ])
              refine Kept.take (v := undef) 4 (by kernel_rfl) rfl (by kernel_rfl) (fun _ _ _ h => h) (Or.inr ⟨by rfl, rfl⟩) hK0 ?_
              (try simp only [Act.put, List.setIfInBounds_toArray, List.set_cons_zero, List.set_cons_succ])
              refine Kept.take (v := undef) 5 (by kernel_rfl) rfl (by kernel_rfl) (fun _ _ _ h => h) (Or.inr ⟨by rfl, rfl⟩) hK0 ?_
              (try simp only [Act.put, List.setIfInBounds_toArray, List.set_cons_zero, List.set_cons_succ])
              refine Kept.take (v := undef) 6 (by kernel_rfl) rfl (by kernel_rfl) (fun _ _ _ h => h) (Or.inr ⟨by rfl, rfl⟩) hK0 ?_
              (try simp only [Act.put, List.setIfInBounds_toArray, List.set_cons_zero, List.set_cons_succ])
              refine Kept.one 7 (by kernel_rfl) rfl (fun K hK => ?_)
              go_simp
              refine hK.out _ _ (hK0) (fun hK1 => ?_)
              clear hK K hK0
              (try simp only [Act.put, List.setIfInBounds_toArray, List.set_cons_zero, List.set_cons_succ])
              refine Kept.tail (by rfl) (by kernel_rfl) ?_
              simp only [List.drop_succ_cons, List.drop_zero]
              have HBF := Lib.hid (bThen HB.out hK1.1)
              clear hS hS0 hK1
              go_wp2
              refine NoPanic.normal ?_
              go_wp2
              go_ret
              exact ⟨rfl, HBF.out⟩
            | false =>
              by_cases c1 : p ≤ q
              · have HMN := Lib.hid (show min (p : Int) (q : Int) = (p : Int) ∧ max (p : Int) (q : Int) = (q : Int) by omega)
                have HSH := Lib.hid (shape_triv.2 ⟨by rw [HTV.out], show (p : Int) ≤ (q : Int) by omega⟩)
                have HOKI := Lib.hid (show ∀ (j : Nat) (a : DAnd), j < i + 1 → n.2.2.1[j]? = some a → 2 ≤ a.1 ∧ a.1 < a.2 ∧ ¬ (a.1 % 2 = 0 ∧ a.2 = a.1 + 1) from fun j a hj hja => by
                  by_cases hji : j = i
                  · subst hji
                    rw [HAK.out] at hja
                    injection hja with hja
                    subst hja
                    exact HSH.out
                  · exact HOK.out j a (by omega) hja)
                have hS0 : (fun w' => Below w8.heap.size w8 w' ∧ w'.cell? ⟨X, 0, none⟩ = some (.int .i64 (p : Int)) ∧ w'.cell? ⟨X, 1, none⟩ = some (.int .i64 (q : Int))) w8 := ⟨Below.refl _ _, x0, x1⟩
                have hS : ∀ {w0 w' : World}, (fun w' => Below w8.heap.size w8 w' ∧ w'.cell? ⟨X, 0, none⟩ = some (.int .i64 (p : Int)) ∧ w'.cell? ⟨X, 1, none⟩ = some (.int .i64 (q : Int))) w0 → Below w0.heap.size w0 w' → (fun w' => Below w8.heap.size w8 w' ∧ w'.cell? ⟨X, 0, none⟩ = some (.int .i64 (p : Int)) ∧ w'.cell? ⟨X, 1, none⟩ = some (.int .i64 (q : Int))) w' := fun h hb => ⟨bThen h.1 hb, keep hb h.2.1, keep hb h.2.2⟩
                dsimp only at hS0 hS
                refine wp_region_noPanic ?_
                refine wp_region_kept 8 10 (fun w' => Below w8.heap.size w8 w' ∧ w'.cell? ⟨X, 0, none⟩ = some (.int .i64 (p : Int)) ∧ w'.cell? ⟨X, 1, none⟩ = some (.int .i64 (q : Int))) (by kernel_rfl) rfl (hS hS0 (Below.drew (Below.refl _ _))) (fun hK0 => ?_)
                refine Kept.take (v := ?vo30) 0 (by kernel_rfl) rfl (by kernel_rfl) (fun _ _ _ h => h) (Or.inl ⟨by rfl, ?hyo30⟩) hK0 ?resto30
                case hyo30 =>
                  intro w0 hSw
                  (try dsimp only at hSw)
                  go_simp
                  all_goals (with_reducible rfl)
                (try simp only [Act.put, List.setIfInBounds_toArray, List.set_cons_zero, List.set_cons_succ])
                refine Kept.take (v := ?vo31) 1 (by kernel_rfl) rfl (by kernel_rfl) (fun _ _ _ h => h) (Or.inl ⟨by rfl, ?hyo31⟩) hK0 ?resto31
                case hyo31 =>
                  intro w0 hSw
                  (try dsimp only at hSw)
                  go_simp
                  all_goals (with_reducible rfl)
                (try simp only [Act.put, List.setIfInBounds_toArray, List.set_cons_zero, List.set_cons_succ])
                refine Kept.take (v := ?vo32) 2 (by kernel_rfl) rfl (by kernel_rfl) (fun _ _ _ h => h) (Or.inl ⟨by rfl, ?hyo32⟩) hK0 ?resto32
                case hyo32 =>
                  intro w0 hSw
                  (try dsimp only at hSw)
                  go_simp
                  all_goals (with_reducible rfl)
                (try simp only [Act.put, List.setIfInBounds_toArray, List.set_cons_zero, List.set_cons_succ])
                refine Kept.take (v := ?vo33) 3 (by kernel_rfl) rfl (by kernel_rfl) (fun _ _ _ h => h) (Or.inl ⟨by rfl, ?hyo33⟩) hK0 ?resto33
                case hyo33 =>
                  intro w0 hSw
                  (try dsimp only at hSw)
                  go_simp
                  all_goals (with_reducible rfl)
                (try simp only [Act.put, List.setIfInBounds_toArray, List.set_cons_zero, List.set_cons_succ])
                refine Kept.take (v := ?vo34) 4 (by kernel_rfl) rfl (by kernel_rfl) (fun _ _ _ h => h) (Or.inl ⟨by rfl, ?hyo34⟩) hK0 ?resto34
                case hyo34 =>
                  intro w0 hSw
                  (try dsimp only at hSw)
                  go_simp
                  all_goals (with_reducible rfl)
                (try simp only [Act.put, List.setIfInBounds_toArray, List.set_cons_zero, List.set_cons_succ])
                refine Kept.take (v := ?vo35) 5 (by kernel_rfl) rfl (by kernel_rfl) (fun _ _ _ h => h) (Or.inl ⟨by rfl, ?hyo35⟩) hK0 ?resto35
                case hyo35 =>
                  intro w0 hSw
                  (try dsimp only at hSw)
                  go_simp
                  all_goals (with_reducible rfl)
                (try simp only [Act.put, List.setIfInBounds_toArray, List.set_cons_zero, List.set_cons_succ])
                refine Kept.take (v := ?vo36) 6 (by kernel_rfl) rfl (by kernel_rfl) (fun _ _ _ h => h) (Or.inl ⟨by rfl, ?hyo36⟩) hK0 ?resto36
                case hyo36 =>
                  intro w0 hSw
                  (try dsimp only at hSw)
                  go_simp
                  all_goals (with_reducible rfl)
                (try simp only [Act.put, List.setIfInBounds_toArray, List.set_cons_zero, List.set_cons_succ])
                refine Kept.one 7 (by kernel_rfl) rfl (fun K hK => ?_)
                go_simp
                go_at_call 74
                refine (ord_at (p : Int) (q : Int) _ _ HMN.out.1 HMN.out.2 _).mono ?_
                rintro e w6 ⟨rfl, hb⟩
                go_simp
                refine hK.out _ _ (hS hK0 hb) (fun hK1 => ?_)
                clear hK K hK0
                (try simp only [Act.put, List.setIfInBounds_toArray, List.set_cons_zero, List.set_cons_succ])
                refine Kept.tail (by rfl) (by kernel_rfl) ?_
                simp only [List.drop_succ_cons, List.drop_zero]
                have HBF := Lib.hid (bThen HBL.out hK1.1)
                clear hS hS0 hK1
                go_wp2
                refine NoPanic.normal ?_
                go_wp2
                go_roundw
                case rel => exact ⟨i + 1, by omega, by go_num, HOKI.out, HBF.out⟩
                case measure => simp [intOf] <;> omega
              · have HMN := Lib.hid (show min (p : Int) (q : Int) = (q : Int) ∧ max (p : Int) (q : Int) = (p : Int) by omega)
                have cpq : ((p : Int) == (q : Int)) = false := beq_false_of_ne (by omega)
                obtain rfl : r = false := HX.out.symm.trans (hashed_bad HR.out hlt (hashAt_shape HAK.out (fun c => by have := c.2.1; dsimp only at this; omega)))
                have hS0 : (fun w' => Below w8.heap.size w8 w' ∧ w'.cell? ⟨X, 0, none⟩ = some (.int .i64 (p : Int)) ∧ w'.cell? ⟨X, 1, none⟩ = some (.int .i64 (q : Int))) w8 := ⟨Below.refl _ _, x0, x1⟩
                have hS : ∀ {w0 w' : World}, (fun w' => Below w8.heap.size w8 w' ∧ w'.cell? ⟨X, 0, none⟩ = some (.int .i64 (p : Int)) ∧ w'.cell? ⟨X, 1, none⟩ = some (.int .i64 (q : Int))) w0 → Below w0.heap.size w0 w' → (fun w' => Below w8.heap.size w8 w' ∧ w'.cell? ⟨X, 0, none⟩ = some (.int .i64 (p : Int)) ∧ w'.cell? ⟨X, 1, none⟩ = some (.int .i64 (q : Int))) w' := fun h hb => ⟨bThen h.1 hb, keep hb h.2.1, keep hb h.2.2⟩
                dsimp only at hS0 hS
                refine wp_region_noPanic ?_
                refine wp_region_kept 8 10 (fun w' => Below w8.heap.size w8 w' ∧ w'.cell? ⟨X, 0, none⟩ = some (.int .i64 (p : Int)) ∧ w'.cell? ⟨X, 1, none⟩ = some (.int .i64 (q : Int))) (by kernel_rfl) rfl (hS hS0 (Below.drew (Below.refl _ _))) (fun hK0 => ?_)
                refine Kept.take (v := ?vo40) 0 (by kernel_rfl) rfl (by kernel_rfl) (fun _ _ _ h => h) (Or.inl ⟨by rfl, ?hyo40⟩) hK0 ?resto40
                case hyo40 =>
                  intro w0 hSw
                  (try dsimp only at hSw)
                  go_simp
                  all_goals (with_reducible rfl)
                (try simp only [Act.put, List.setIfInBounds_toArray, List.set_cons_zero, List.set_cons_succ])
                refine Kept.take (v := ?vo41) 1 (by kernel_rfl) rfl (by kernel_rfl) (fun _ _ _ h => h) (Or.inl ⟨by rfl, ?hyo41⟩) hK0 ?resto41
                case hyo41 =>
                  intro w0 hSw
                  (try dsimp only at hSw)
                  go_simp
                  all_goals (with_reducible rfl)
                (try simp only [Act.put, List.setIfInBounds_toArray, List.set_cons_zero, List.set_cons_succ])
                refine Kept.take (v := ?vo42) 2 (by kernel_rfl) rfl (by kernel_rfl) (fun _ _ _ h => h) (Or.inl ⟨by rfl, ?hyo42⟩) hK0 ?resto42
                case hyo42 =>
                  intro w0 hSw
                  (try dsimp only at hSw)
                  go_simp
                  all_goals (with_reducible rfl)
                (try simp only [Act.put, List.setIfInBounds_toArray, List.set_cons_zero, List.set_cons_succ])
                refine Kept.take (v := ?vo43) 3 (by kernel_rfl) rfl (by kernel_rfl) (fun _ _ _ h => h) (Or.inl ⟨by rfl, ?hyo43⟩) hK0 ?resto43
                case hyo43 =>
                  intro w0 hSw
                  (try dsimp only at hSw)
                  go_simp
                  all_goals (with_reducible rfl)
                (try simp only [Act.put, List.setIfInBounds_toArray, List.set_cons_zero, List.set_cons_succ])
                refine Kept.take (v := ?vo44) 4 (by kernel_rfl) rfl (by kernel_rfl) (fun _ _ _ h => h) (Or.inl ⟨by rfl, ?hyo44⟩) hK0 ?resto44
                case hyo44 =>
                  intro w0 hSw
                  (try dsimp only at hSw)
                  go_simp
                  all_goals (with_reducible rfl)
                (try simp only [Act.put, List.setIfInBounds_toArray, List.set_cons_zero, List.set_cons_succ])
                refine Kept.take (v := ?vo45) 5 (by kernel_rfl) rfl (by kernel_rfl) (fun _ _ _ h => h) (Or.inl ⟨by rfl, ?hyo45⟩) hK0 ?resto45
                case hyo45 =>
                  intro w0 hSw
                  (try dsimp only at hSw)
                  go_simp
                  all_goals (with_reducible rfl)
                (try simp only [Act.put, List.setIfInBounds_toArray, List.set_cons_zero, List.set_cons_succ])
                refine Kept.take (v := ?vo46) 6 (by kernel_rfl) rfl (by kernel_rfl) (fun _ _ _ h => h) (Or.inl ⟨by rfl, ?hyo46⟩) hK0 ?resto46
                case hyo46 =>
                  intro w0 hSw
                  (try dsimp only at hSw)
                  go_simp
                  all_goals (with_reducible rfl)
                (try simp only [Act.put, List.setIfInBounds_toArray, List.set_cons_zero, List.set_cons_succ])
                refine Kept.one 7 (by kernel_rfl) rfl (fun K hK => ?_)
                go_simp
                go_at_call 74
                refine (ord_at (p : Int) (q : Int) _ _ HMN.out.1 HMN.out.2 _).mono ?_
                rintro e w6 ⟨rfl, hb⟩
                go_simp
                refine hK.out _ _ (hS hK0 hb) (fun hK1 => ?_)
                clear hK K hK0
                (try simp only [Act.put, List.setIfInBounds_toArray, List.set_cons_zero, List.set_cons_succ])
                refine Kept.tail (by rfl) (by kernel_rfl) ?_
                simp only [List.drop_succ_cons, List.drop_zero]
                have HBF := Lib.hid (bThen HB.out hK1.1)
                clear hS hS0 hK1
                go_wp2
                refine NoPanic.normal ?_
                go_wp2
                go_ret
                exact ⟨rfl, HBF.out⟩
          · obtain rfl : n.2.2.1.length = i := by omega
            obtain ⟨CK, hCK⟩ : ∃ CK, cntK n.2.2.1 n.2.2.1.length = CK := ⟨_, rfl⟩
            have HCK := Lib.hid hCK
            have hv : ((CK : Int) == (n.2.2.1.length : Int)) = r := by
              rw [← HX.out, hashed_cnt HP.out HR.out HRL.out HCQ.out (fun j a ha => HOK.out j a (List.getElem?_eq_some_iff.1 ha).1 ha), hCK]
              by_cases hc : CK = n.2.2.1.length
              · rw [decide_eq_true hc, hc]; simp
              · rw [decide_eq_false hc]; exact beq_false_of_ne (by omega)
            clear hCK hlt
            go_wp2_with fail
            have hS0 : (fun w' => Below w5.heap.size w5 w' ∧ w'.cell? ⟨w.heap.size, 0, none⟩ = some (.int .i64 n.1) ∧ w'.cell? ⟨w.heap.size, 1, none⟩ = some (.slice mA1 (n.2.1).length mc1) ∧ w'.cell? ⟨w.heap.size, 2, none⟩ = some (.slice mA2 (n.2.2.1).length mc2) ∧ w'.cell? ⟨w.heap.size, 3, none⟩ = some (.slice mA3 (n.2.2.2).length mc3)) w5 := ⟨Below.refl _ _, d0, d1, d2, d3⟩
            have hS : ∀ {w0 w' : World}, (fun w' => Below w5.heap.size w5 w' ∧ w'.cell? ⟨w.heap.size, 0, none⟩ = some (.int .i64 n.1) ∧ w'.cell? ⟨w.heap.size, 1, none⟩ = some (.slice mA1 (n.2.1).length mc1) ∧ w'.cell? ⟨w.heap.size, 2, none⟩ = some (.slice mA2 (n.2.2.1).length mc2) ∧ w'.cell? ⟨w.heap.size, 3, none⟩ = some (.slice mA3 (n.2.2.2).length mc3)) w0 → Below w0.heap.size w0 w' → (fun w' => Below w5.heap.size w5 w' ∧ w'.cell? ⟨w.heap.size, 0, none⟩ = some (.int .i64 n.1) ∧ w'.cell? ⟨w.heap.size, 1, none⟩ = some (.slice mA1 (n.2.1).length mc1) ∧ w'.cell? ⟨w.heap.size, 2, none⟩ = some (.slice mA2 (n.2.2.1).length mc2) ∧ w'.cell? ⟨w.heap.size, 3, none⟩ = some (.slice mA3 (n.2.2.2).length mc3)) w' := fun h hb => ⟨bThen h.1 hb, keep hb h.2.1, keep hb h.2.2.1, keep hb h.2.2.2.1, keep hb h.2.2.2.2⟩
            dsimp only at hS0 hS
            refine wp_region_noPanic ?_
            refine wp_region_kept 6 8 (fun w' => Below w5.heap.size w5 w' ∧ w'.cell? ⟨w.heap.size, 0, none⟩ = some (.int .i64 n.1) ∧ w'.cell? ⟨w.heap.size, 1, none⟩ = some (.slice mA1 (n.2.1).length mc1) ∧ w'.cell? ⟨w.heap.size, 2, none⟩ = some (.slice mA2 (n.2.2.1).length mc2) ∧ w'.cell? ⟨w.heap.size, 3, none⟩ = some (.slice mA3 (n.2.2.2).length mc3)) (by kernel_rfl) rfl (hS hS0 (Below.drew (Below.refl _ _))) (fun hK0 => ?_)
            refine Kept.take (v := ?vk20) 0 (by kernel_rfl) rfl (by kernel_rfl) (fun _ _ _ h => h) (Or.inl ⟨by rfl, ?hyk20⟩) hK0 ?restk20
            case hyk20 =>
              intro w0 hSw
              (try dsimp only at hSw)
              go_simp
              all_goals (with_reducible rfl)
            (try simp only [Act.put, List.setIfInBounds_toArray, List.set_cons_zero, List.set_cons_succ])
            refine Kept.take (v := ?vk23) 3 (by kernel_rfl) rfl (by kernel_rfl) (fun _ _ _ h => h) (Or.inl ⟨by rfl, ?hyk23⟩) hK0 ?restk23
            case hyk23 =>
              intro w0 hSw
              (try dsimp only at hSw)
              go_simp
              all_goals (with_reducible rfl)
            (try simp only [Act.put, List.setIfInBounds_toArray, List.set_cons_zero, List.set_cons_succ])
            refine Kept.take (v := ?vk24) 4 (by kernel_rfl) rfl (by kernel_rfl) (fun _ _ _ h => h) (Or.inl ⟨by rfl, ?hyk24⟩) hK0 ?restk24
            case hyk24 =>
              intro w0 hSw
              (try dsimp only at hSw)
              go_simp
              all_goals (with_reducible rfl)
            (try simp only [Act.put, List.setIfInBounds_toArray, List.set_cons_zero, List.set_cons_succ])
            refine Kept.take (v := ?vk25) 5 (by kernel_rfl) rfl (by kernel_rfl) (fun _ _ _ h => h) (Or.inl ⟨by rfl, ?hyk25⟩) hK0 ?restk25
            case hyk25 =>
              intro w0 hSw
              (try dsimp only at hSw)
              go_simp
              all_goals (with_reducible rfl)
            (try simp only [Act.put, List.setIfInBounds_toArray, List.set_cons_zero, List.set_cons_succ])
            refine Kept.one 1 (by kernel_rfl) rfl (fun K hK => ?_)
            go_simp
            go_at_call 75
            refine (known_at n _ _ (rdUp good_Net HD.out (bThen HB.out hK0.1)) HP.out.sz).mono ?_
            rintro e w6 ⟨Mb, Dm, rfl, hMb, hM, hsz, hb⟩
            have HM := Lib.hid hM
            have HSZ := Lib.hid (hsz.trans HCK.out)
            clear hM hsz
            go_simp
            refine hK.out _ _ (hS hK0 hb) (fun hK1 => ?_)
            clear hK K hK0
            (try simp only [Act.put, List.setIfInBounds_toArray, List.set_cons_zero, List.set_cons_succ])
            refine Kept.one 2 (by kernel_rfl) rfl (fun K hK => ?_)
            have hl := fun ty => HM.out.own.len (t := 70) (e := 3) undMap ty
            rw [HSZ.out] at hl
            go_simp
            refine hK.out _ _ (hK1) (fun hK2 => ?_)
            clear hK K hK1
            (try simp only [Act.put, List.setIfInBounds_toArray, List.set_cons_zero, List.set_cons_succ])
            refine Kept.tail (by rfl) (by kernel_rfl) ?_
            simp only [List.drop_succ_cons, List.drop_zero]
            have HBF := Lib.hid (bThen HB.out hK2.1)
            clear hS hS0 hK2
            go_wp2
            refine NoPanic.normal ?_
            go_wp2
            go_ret
            exact ⟨rfl, HBF.out⟩
    · rintro e w4 ⟨rfl, rfl⟩
      clear HRD HRD0 HCAP HOR tf1 tf2 h
      cases cq with
      | true =>
        obtain ⟨i, hi, hb0⟩ := drop_any HCQ.out
        have hil : i < n.2.2.1.length := by have := HRL.out; omega
        obtain rfl : r = false := HX.out.symm.trans (hashed_bad HR.out hil (hashAt_keep (List.getElem?_eq_getElem hil) hb0))
        clear hi hb0 hil
        go_wp2
        refine NoPanic.normal ?_
        go_wp2
        go_ret
        exact ⟨rfl, HB.out⟩
      | false =>
        go_wp2
        refine NoPanic.normal ?_
        go_wp2
        have HE := Lib.hid (And.intro d0 (And.intro d1 (And.intro d2 d3)))
        clear d0 d1 d2 d3
        go_loopw [21] (fun z wr => ∃ i : Nat, i ≤ n.2.2.1.length ∧ z = .int .i64 (i : Int) ∧ (∀ (j : Nat) (a : DAnd), j < i → n.2.2.1[j]? = some a → 2 ≤ a.1 ∧ a.1 < a.2 ∧ ¬ (a.1 % 2 = 0 ∧ a.2 = a.1 + 1)) ∧ Below w3.heap.size w3 wr) (fun z _ => n.2.2.1.length - (intOf z).toNat)
        case atStart => exact ⟨0, Nat.zero_le _, rfl, fun j a hj => absurd hj (Nat.not_lt_zero j), Below.refl _ _⟩
        case round =>
          obtain ⟨i, hi, rfl, hok, hb⟩ := hrel
          obtain ⟨w5, rfl⟩ : ∃ w5, w5 = wr := ⟨_, rfl⟩
          have HOK := Lib.hid hok
          have HBL := Lib.hid hb
          have d0 := keep hb HE.out.1
          have d1 := keep hb HE.out.2.1
          have d2 := keep hb HE.out.2.2.1
          have d3 := keep hb HE.out.2.2.2
          replace HB := Lib.hid (bThen HB.out hb)
          clear hok hb HE
          by_cases hlt : i < n.2.2.1.length
          · obtain ⟨a, ha⟩ : ∃ a, n.2.2.1[i]? = some a := ⟨_, List.getElem?_eq_getElem hlt⟩
            obtain ⟨p, q, rfl, hp, hq⟩ := HP.out.and_ i a ha
            obtain ⟨sb, sq, rfl, sb1, y0, yf0, y1, yf1⟩ := at_And (good_AndS.below mR2.out (Nat.le_refl _) HB.out) ha
            have HAK := Lib.hid ha
            have ti : (i : Int) < (n.2.2.1.length : Int) := by omega
            have hp9 : p ≤ 1000 := by omega
            have hq9 : q ≤ 1000 := by omega
            obtain ⟨tv, tf, htv⟩ : ∃ tv tf, trivO (p : Int) (q : Int) = (tv, tf) := ⟨_, _, rfl⟩
            have HTV := Lib.hid htv
            clear ha hp hq yf0 yf1 sb1 htv
            dsimp only at y0 y1
            have hw0 := World.block_lt_of_cell? w5 _ d0
            dsimp only at hw0
            go_wp2_with fail
            obtain ⟨W7, hW7⟩ : ∃ x, x = w5.alloc (.cells #[.int .i64 (p : Int), .int .i64 (q : Int)] 67) := ⟨_, rfl⟩
            rw [← hW7]
            have hb : Below w5.heap.size w5 W7 := by rw [hW7]; exact bAlloc (Below.refl _ _) (Nat.le_refl _) _
            have HXB := Lib.hid (show W7.heap[w5.heap.size]? = some (.cells #[.int .i64 (p : Int), .int .i64 (q : Int)] 67 (0, 0)) by rw [hW7]; exact heap_alloc_new _ _)
            obtain ⟨X, hX⟩ : ∃ X, w5.heap.size = X := ⟨_, rfl⟩
            have x0 := box_cell HXB.out 0 _ rfl
            have x1 := box_cell HXB.out 1 _ rfl
            replace d0 := keep hb d0
            replace d1 := keep hb d1
            replace d2 := keep hb d2
            replace d3 := keep hb d3
            replace HB := Lib.hid (bThen HB.out hb)
            replace HBL := Lib.hid (bThen HBL.out hb)
            rw [hX] at x0 x1 ⊢
            clear hW7 hX HXB hb y0 y1 hw0
            refine (triv_at (p : Int) (q : Int) (by omega) (by omega) _ HTV.out).mono ?_
            rintro e w8 ⟨rfl, hb⟩
            replace d0 := keep hb d0
            replace d1 := keep hb d1
            replace d2 := keep hb d2
            replace d3 := keep hb d3
            replace x0 := keep hb x0
            replace x1 := keep hb x1
            replace HB := Lib.hid (bThen HB.out hb)
            replace HBL := Lib.hid (bThen HBL.out hb)
            clear hb
            go_wp2_with fail
            cases tf with
            | true =>
              obtain rfl : r = false := HX.out.symm.trans (hashed_bad HR.out hlt (hashAt_shape HAK.out (fun c => by have := (shape_triv.1 c).1; rw [HTV.out] at this; cases this)))
              have hS0 : (fun w' => Below w8.heap.size w8 w' ∧ w'.cell? ⟨X, 0, none⟩ = some (.int .i64 (p : Int)) ∧ w'.cell? ⟨X, 1, none⟩ = some (.int .i64 (q : Int))) w8 := ⟨Below.refl _ _, x0, x1⟩
              have hS : ∀ {w0 w' : World}, (fun w' => Below w8.heap.size w8 w' ∧ w'.cell? ⟨X, 0, none⟩ = some (.int .i64 (p : Int)) ∧ w'.cell? ⟨X, 1, none⟩ = some (.int .i64 (q : Int))) w0 → Below w0.heap.size w0 w' → (fun w' => Below w8.heap.size w8 w' ∧ w'.cell? ⟨X, 0, none⟩ = some (.int .i64 (p : Int)) ∧ w'.cell? ⟨X, 1, none⟩ = some (.int .i64 (q : Int))) w' := fun h hb => ⟨bThen h.1 hb, keep hb h.2.1, keep hb h.2.2⟩
              dsimp only at hS0 hS
              refine wp_region_noPanic ?_
              refine wp_region_kept 8 10 (fun w' => Below w8.heap.size w8 w' ∧ w'.cell? ⟨X, 0, none⟩ = some (.int .i64 (p : Int)) ∧ w'.cell? ⟨X, 1, none⟩ = some (.int .i64 (q : Int))) (by kernel_rfl) rfl (hS hS0 (Below.drew (Below.refl _ _))) (fun hK0 => ?_)
              refine Kept.take (v := ?vf6x0) 0 (by kernel_rfl) rfl (by kernel_rfl) (fun _ _ _ h => h) (Or.inl ⟨by rfl, ?hyf6x0⟩) hK0 ?restf6x0
              case hyf6x0 =>
                intro w0 hSw
                (try dsimp only at hSw)
                go_simp
                all_goals (with_reducible rfl)
              (try simp only [Act.put, List.setIfInBounds_toArray, List.set_cons_zero, List.set_cons_succ])
              refine Kept.take (v := ?vf6x1) 1 (by kernel_rfl) rfl (by kernel_rfl) (fun _ _ _ h => h) (Or.inl ⟨by rfl, ?hyf6x1⟩) hK0 ?restf6x1
              case hyf6x1 =>
                intro w0 hSw
                (try dsimp only at hSw)
                go_simp
                all_goals (with_reducible rfl)
              (try simp only [Act.put, List.setIfInBounds_toArray, List.set_cons_zero, List.set_cons_succ])
              refine Kept.take (v := undef) 2 (by kernel_rfl) rfl (by kernel_rfl) (fun _ _ _ h => h) (Or.inr ⟨by rfl, rfl⟩) hK0 ?_
              (try simp only [Act.put, List.setIfInBounds_toArray, List.set_cons_zero, List.set_cons_succ])
              refine Kept.take (v := undef) 3 (by kernel_rfl) rfl (by kernel_rfl) (fun _ _ _ h => h) (Or.inr ⟨by rfl, rfl⟩) hK0 ?_
              (try simp only [Act.put, List.setIfInBounds_toArray, List.set_cons_zero, List.set_cons_succ])
              refine Kept.take (v := undef) 4 (by kernel_rfl) rfl (by kernel_rfl) (fun _ _ _ h => h) (Or.inr ⟨by rfl, rfl⟩) hK0 ?_
              (try simp only [Act.put, List.setIfInBounds_toArray, List.set_cons_zero, List.set_cons_succ])
              refine Kept.take (v := undef) 5 (by kernel_rfl) rfl (by kernel_rfl) (fun _ _ _ h => h) (Or.inr ⟨by rfl, rfl⟩) hK0 ?_
              (try simp only [Act.put, List.setIfInBounds_toArray, List.set_cons_zero, List.set_cons_succ])
              refine Kept.take (v := undef) 6 (by kernel_rfl) rfl (by kernel_rfl) (fun _ _ _ h => h) (Or.inr ⟨by rfl, rfl⟩) hK0 ?_
              (try simp only [Act.put, List.setIfInBounds_toArray, List.set_cons_zero, List.set_cons_succ])
              refine Kept.one 7 (by kernel_rfl) rfl (fun K hK => ?_)
              go_simp
              refine hK.out _ _ (hK0) (fun hK1 => ?_)
              clear hK K hK0
              (try simp only [Act.put, List.setIfInBounds_toArray, List.set_cons_zero, List.set_cons_succ])
              refine Kept.tail (by rfl) (by kernel_rfl) ?_
              simp only [List.drop_succ_cons, List.drop_zero]
              have HBF := Lib.hid (bThen HB.out hK1.1)
              clear hS hS0 hK1
              go_wp2
              refine NoPanic.normal ?_
              go_wp2
              go_ret
              exact ⟨rfl, HBF.out⟩
            | false =>
              by_cases c1 : p ≤ q
              · have HMN := Lib.hid (show min (p : Int) (q : Int) = (p : Int) ∧ max (p : Int) (q : Int) = (q : Int) by omega)
                have HSH := Lib.hid (shape_triv.2 ⟨by rw [HTV.out], show (p : Int) ≤ (q : Int) by omega⟩)
                have HOKI := Lib.hid (show ∀ (j : Nat) (a : DAnd), j < i + 1 → n.2.2.1[j]? = some a → 2 ≤ a.1 ∧ a.1 < a.2 ∧ ¬ (a.1 % 2 = 0 ∧ a.2 = a.1 + 1) from fun j a hj hja => by
                  by_cases hji : j = i
                  · subst hji
                    rw [HAK.out] at hja
                    injection hja with hja
                    subst hja
                    exact HSH.out
                  · exact HOK.out j a (by omega) hja)
                have hS0 : (fun w' => Below w8.heap.size w8 w' ∧ w'.cell? ⟨X, 0, none⟩ = some (.int .i64 (p : Int)) ∧ w'.cell? ⟨X, 1, none⟩ = some (.int .i64 (q : Int))) w8 := ⟨Below.refl _ _, x0, x1⟩
                have hS : ∀ {w0 w' : World}, (fun w' => Below w8.heap.size w8 w' ∧ w'.cell? ⟨X, 0, none⟩ = some (.int .i64 (p : Int)) ∧ w'.cell? ⟨X, 1, none⟩ = some (.int .i64 (q : Int))) w0 → Below w0.heap.size w0 w' → (fun w' => Below w8.heap.size w8 w' ∧ w'.cell? ⟨X, 0, none⟩ = some (.int .i64 (p : Int)) ∧ w'.cell? ⟨X, 1, none⟩ = some (.int .i64 (q : Int))) w' := fun h hb => ⟨bThen h.1 hb, keep hb h.2.1, keep hb h.2.2⟩
                dsimp only at hS0 hS
                refine wp_region_noPanic ?_
                refine wp_region_kept 8 10 (fun w' => Below w8.heap.size w8 w' ∧ w'.cell? ⟨X, 0, none⟩ = some (.int .i64 (p : Int)) ∧ w'.cell? ⟨X, 1, none⟩ = some (.int .i64 (q : Int))) (by kernel_rfl) rfl (hS hS0 (Below.drew (Below.refl _ _))) (fun hK0 => ?_)
                refine Kept.take (v := ?vo70) 0 (by kernel_rfl) rfl (by kernel_rfl) (fun _ _ _ h => h) (Or.inl ⟨by rfl, ?hyo70⟩) hK0 ?resto70
                case hyo70 =>
                  intro w0 hSw
                  (try dsimp only at hSw)
                  go_simp
                  all_goals (with_reducible rfl)
                (try simp only [Act.put, List.setIfInBounds_toArray, List.set_cons_zero, List.set_cons_succ])
                refine Kept.take (v := ?vo71) 1 (by kernel_rfl) rfl (by kernel_rfl) (fun _ _ _ h => h) (Or.inl ⟨by rfl, ?hyo71⟩) hK0 ?resto71
                case hyo71 =>
                  intro w0 hSw
                  (try dsimp only at hSw)
                  go_simp
                  all_goals (with_reducible rfl)
                (try simp only [Act.put, List.setIfInBounds_toArray, List.set_cons_zero, List.set_cons_succ])
                refine Kept.take (v := ?vo72) 2 (by kernel_rfl) rfl (by kernel_rfl) (fun _ _ _ h => h) (Or.inl ⟨by rfl, ?hyo72⟩) hK0 ?resto72
                case hyo72 =>
                  intro w0 hSw
                  (try dsimp only at hSw)
                  go_simp
                  all_goals (with_reducible rfl)
                (try simp only [Act.put, List.setIfInBounds_toArray, List.set_cons_zero, List.set_cons_succ])
                refine Kept.take (v := ?vo73) 3 (by kernel_rfl) rfl (by kernel_rfl) (fun _ _ _ h => h) (Or.inl ⟨by rfl, ?hyo73⟩) hK0 ?resto73
                case hyo73 =>
                  intro w0 hSw
                  (try dsimp only at hSw)
                  go_simp
                  all_goals (with_reducible rfl)
                (try simp only [Act.put, List.setIfInBounds_toArray, List.set_cons_zero, List.set_cons_succ])
                refine Kept.take (v := ?vo74) 4 (by kernel_rfl) rfl (by kernel_rfl) (fun _ _ _ h => h) (Or.inl ⟨by rfl, ?hyo74⟩) hK0 ?resto74
                case hyo74 =>
                  intro w0 hSw
                  (try dsimp only at hSw)
                  go_simp
                  all_goals (with_reducible rfl)
                (try simp only [Act.put, List.setIfInBounds_toArray, List.set_cons_zero, List.set_cons_succ])
                refine Kept.take (v := ?vo75) 5 (by kernel_rfl) rfl (by kernel_rfl) (fun _ _ _ h => h) (Or.inl ⟨by rfl, ?hyo75⟩) hK0 ?resto75
                case hyo75 =>
                  intro w0 hSw
                  (try dsimp only at hSw)
                  go_simp
                  all_goals (with_reducible rfl)
                (try simp only [Act.put, List.setIfInBounds_toArray, List.set_cons_zero, List.set_cons_succ])
                refine Kept.take (v := ?vo76) 6 (by kernel_rfl) rfl (by kernel_rfl) (fun _ _ _ h => h) (Or.inl ⟨by rfl, ?hyo76⟩) hK0 ?resto76
                case hyo76 =>
                  intro w0 hSw
                  (try dsimp only at hSw)
                  go_simp
                  all_goals (with_reducible rfl)
                (try simp only [Act.put, List.setIfInBounds_toArray, List.set_cons_zero, List.set_cons_succ])
                refine Kept.one 7 (by kernel_rfl) rfl (fun K hK => ?_)
                go_simp
                go_at_call 74
                refine (ord_at (p : Int) (q : Int) _ _ HMN.out.1 HMN.out.2 _).mono ?_
                rintro e w6 ⟨rfl, hb⟩
                go_simp
                refine hK.out _ _ (hS hK0 hb) (fun hK1 => ?_)
                clear hK K hK0
                (try simp only [Act.put, List.setIfInBounds_toArray, List.set_cons_zero, List.set_cons_succ])
                refine Kept.tail (by rfl) (by kernel_rfl) ?_
                simp only [List.drop_succ_cons, List.drop_zero]
                have HBF := Lib.hid (bThen HBL.out hK1.1)
                clear hS hS0 hK1
                go_wp2
                refine NoPanic.normal ?_
                go_wp2
                go_roundw
                case rel => exact ⟨i + 1, by omega, by go_num, HOKI.out, HBF.out⟩
                case measure => simp [intOf] <;> omega
              · have HMN := Lib.hid (show min (p : Int) (q : Int) = (q : Int) ∧ max (p : Int) (q : Int) = (p : Int) by omega)
                have cpq : ((p : Int) == (q : Int)) = false := beq_false_of_ne (by omega)
                obtain rfl : r = false := HX.out.symm.trans (hashed_bad HR.out hlt (hashAt_shape HAK.out (fun c => by have := c.2.1; dsimp only at this; omega)))
                have hS0 : (fun w' => Below w8.heap.size w8 w' ∧ w'.cell? ⟨X, 0, none⟩ = some (.int .i64 (p : Int)) ∧ w'.cell? ⟨X, 1, none⟩ = some (.int .i64 (q : Int))) w8 := ⟨Below.refl _ _, x0, x1⟩
                have hS : ∀ {w0 w' : World}, (fun w' => Below w8.heap.size w8 w' ∧ w'.cell? ⟨X, 0, none⟩ = some (.int .i64 (p : Int)) ∧ w'.cell? ⟨X, 1, none⟩ = some (.int .i64 (q : Int))) w0 → Below w0.heap.size w0 w' → (fun w' => Below w8.heap.size w8 w' ∧ w'.cell? ⟨X, 0, none⟩ = some (.int .i64 (p : Int)) ∧ w'.cell? ⟨X, 1, none⟩ = some (.int .i64 (q : Int))) w' := fun h hb => ⟨bThen h.1 hb, keep hb h.2.1, keep hb h.2.2⟩
                dsimp only at hS0 hS
                refine wp_region_noPanic ?_
                refine wp_region_kept 8 10 (fun w' => Below w8.heap.size w8 w' ∧ w'.cell? ⟨X, 0, none⟩ = some (.int .i64 (p : Int)) ∧ w'.cell? ⟨X, 1, none⟩ = some (.int .i64 (q : Int))) (by kernel_rfl) rfl (hS hS0 (Below.drew (Below.refl _ _))) (fun hK0 => ?_)
                refine Kept.take (v := ?vo80) 0 (by kernel_rfl) rfl (by kernel_rfl) (fun _ _ _ h => h) (Or.inl ⟨by rfl, ?hyo80⟩) hK0 ?resto80
                case hyo80 =>
                  intro w0 hSw
                  (try dsimp only at hSw)
                  go_simp
                  all_goals (with_reducible rfl)
                (try simp only [Act.put, List.setIfInBounds_toArray, List.set_cons_zero, List.set_cons_succ])
                refine Kept.take (v := ?vo81) 1 (by kernel_rfl) rfl (by kernel_rfl) (fun _ _ _ h => h) (Or.inl ⟨by rfl, ?hyo81⟩) hK0 ?resto81
                case hyo81 =>
                  intro w0 hSw
                  (try dsimp only at hSw)
                  go_simp
                  all_goals (with_reducible rfl)
                (try simp only [Act.put, List.setIfInBounds_toArray, List.set_cons_zero, List.set_cons_succ])
                refine Kept.take (v := ?vo82) 2 (by kernel_rfl) rfl (by kernel_rfl) (fun _ _ _ h => h) (Or.inl ⟨by rfl, ?hyo82⟩) hK0 ?resto82
                case hyo82 =>
                  intro w0 hSw
                  (try dsimp only at hSw)
                  go_simp
                  all_goals (with_reducible rfl)
                (try simp only [Act.put, List.setIfInBounds_toArray, List.set_cons_zero, List.set_cons_succ])
                refine Kept.take (v := ?vo83) 3 (by kernel_rfl) rfl (by kernel_rfl) (fun _ _ _ h => h) (Or.inl ⟨by rfl, ?hyo83⟩) hK0 ?resto83
                case hyo83 =>
                  intro w0 hSw
                  (try dsimp only at hSw)
                  go_simp
                  all_goals (with_reducible rfl)
                (try simp only [Act.put, List.setIfInBounds_toArray, List.set_cons_zero, List.set_cons_succ])
                refine Kept.take (v := ?vo84) 4 (by kernel_rfl) rfl (by kernel_rfl) (fun _ _ _ h => h) (Or.inl ⟨by rfl, ?hyo84⟩) hK0 ?resto84
                case hyo84 =>
                  intro w0 hSw
                  (try dsimp only at hSw)
                  go_simp
                  all_goals (with_reducible rfl)
                (try simp only [Act.put, List.setIfInBounds_toArray, List.set_cons_zero, List.set_cons_succ])
                refine Kept.take (v := ?vo85) 5 (by kernel_rfl) rfl (by kernel_rfl) (fun _ _ _ h => h) (Or.inl ⟨by rfl, ?hyo85⟩) hK0 ?resto85
                case hyo85 =>
                  intro w0 hSw
                  (try dsimp only at hSw)
                  go_simp
                  all_goals (with_reducible rfl)
                (try simp only [Act.put, List.setIfInBounds_toArray, List.set_cons_zero, List.set_cons_succ])
                refine Kept.take (v := ?vo86) 6 (by kernel_rfl) rfl (by kernel_rfl) (fun _ _ _ h => h) (Or.inl ⟨by rfl, ?hyo86⟩) hK0 ?resto86
                case hyo86 =>
                  intro w0 hSw
                  (try dsimp only at hSw)
                  go_simp
                  all_goals (with_reducible rfl)
                (try simp only [Act.put, List.setIfInBounds_toArray, List.set_cons_zero, List.set_cons_succ])
                refine Kept.one 7 (by kernel_rfl) rfl (fun K hK => ?_)
                go_simp
                go_at_call 74
                refine (ord_at (p : Int) (q : Int) _ _ HMN.out.1 HMN.out.2 _).mono ?_
                rintro e w6 ⟨rfl, hb⟩
                go_simp
                refine hK.out _ _ (hS hK0 hb) (fun hK1 => ?_)
                clear hK K hK0
                (try simp only [Act.put, List.setIfInBounds_toArray, List.set_cons_zero, List.set_cons_succ])
                refine Kept.tail (by rfl) (by kernel_rfl) ?_
                simp only [List.drop_succ_cons, List.drop_zero]
                have HBF := Lib.hid (bThen HB.out hK1.1)
                clear hS hS0 hK1
                go_wp2
                refine NoPanic.normal ?_
                go_wp2
                go_ret
                exact ⟨rfl, HBF.out⟩
          · obtain rfl : n.2.2.1.length = i := by omega
            obtain ⟨CK, hCK⟩ : ∃ CK, cntK n.2.2.1 n.2.2.1.length = CK := ⟨_, rfl⟩
            have HCK := Lib.hid hCK
            have hv : ((CK : Int) == (n.2.2.1.length : Int)) = r := by
              rw [← HX.out, hashed_cnt HP.out HR.out HRL.out HCQ.out (fun j a ha => HOK.out j a (List.getElem?_eq_some_iff.1 ha).1 ha), hCK]
              by_cases hc : CK = n.2.2.1.length
              · rw [decide_eq_true hc, hc]; simp
              · rw [decide_eq_false hc]; exact beq_false_of_ne (by omega)
            clear hCK hlt
            go_wp2_with fail
            have hS0 : (fun w' => Below w5.heap.size w5 w' ∧ w'.cell? ⟨w.heap.size, 0, none⟩ = some (.int .i64 n.1) ∧ w'.cell? ⟨w.heap.size, 1, none⟩ = some (.slice mA1 (n.2.1).length mc1) ∧ w'.cell? ⟨w.heap.size, 2, none⟩ = some (.slice mA2 (n.2.2.1).length mc2) ∧ w'.cell? ⟨w.heap.size, 3, none⟩ = some (.slice mA3 (n.2.2.2).length mc3)) w5 := ⟨Below.refl _ _, d0, d1, d2, d3⟩
            have hS : ∀ {w0 w' : World}, (fun w' => Below w5.heap.size w5 w' ∧ w'.cell? ⟨w.heap.size, 0, none⟩ = some (.int .i64 n.1) ∧ w'.cell? ⟨w.heap.size, 1, none⟩ = some (.slice mA1 (n.2.1).length mc1) ∧ w'.cell? ⟨w.heap.size, 2, none⟩ = some (.slice mA2 (n.2.2.1).length mc2) ∧ w'.cell? ⟨w.heap.size, 3, none⟩ = some (.slice mA3 (n.2.2.2).length mc3)) w0 → Below w0.heap.size w0 w' → (fun w' => Below w5.heap.size w5 w' ∧ w'.cell? ⟨w.heap.size, 0, none⟩ = some (.int .i64 n.1) ∧ w'.cell? ⟨w.heap.size, 1, none⟩ = some (.slice mA1 (n.2.1).length mc1) ∧ w'.cell? ⟨w.heap.size, 2, none⟩ = some (.slice mA2 (n.2.2.1).length mc2) ∧ w'.cell? ⟨w.heap.size, 3, none⟩ = some (.slice mA3 (n.2.2.2).length mc3)) w' := fun h hb => ⟨bThen h.1 hb, keep hb h.2.1, keep hb h.2.2.1, keep hb h.2.2.2.1, keep hb h.2.2.2.2⟩
            dsimp only at hS0 hS
            refine wp_region_noPanic ?_
            refine wp_region_kept 6 8 (fun w' => Below w5.heap.size w5 w' ∧ w'.cell? ⟨w.heap.size, 0, none⟩ = some (.int .i64 n.1) ∧ w'.cell? ⟨w.heap.size, 1, none⟩ = some (.slice mA1 (n.2.1).length mc1) ∧ w'.cell? ⟨w.heap.size, 2, none⟩ = some (.slice mA2 (n.2.2.1).length mc2) ∧ w'.cell? ⟨w.heap.size, 3, none⟩ = some (.slice mA3 (n.2.2.2).length mc3)) (by kernel_rfl) rfl (hS hS0 (Below.drew (Below.refl _ _))) (fun hK0 => ?_)
            refine Kept.take (v := ?vk60) 0 (by kernel_rfl) rfl (by kernel_rfl) (fun _ _ _ h => h) (Or.inl ⟨by rfl, ?hyk60⟩) hK0 ?restk60
            case hyk60 =>
              intro w0 hSw
              (try dsimp only at hSw)
              go_simp
              all_goals (with_reducible rfl)
            (try simp only [Act.put, List.setIfInBounds_toArray, List.set_cons_zero, List.set_cons_succ])
            refine Kept.take (v := ?vk63) 3 (by kernel_rfl) rfl (by kernel_rfl) (fun _ _ _ h => h) (Or.inl ⟨by rfl, ?hyk63⟩) hK0 ?restk63
            case hyk63 =>
              intro w0 hSw
              (try dsimp only at hSw)
              go_simp
              all_goals (with_reducible rfl)
            (try simp only [Act.put, List.setIfInBounds_toArray, List.set_cons_zero, List.set_cons_succ])
            refine Kept.take (v := ?vk64) 4 (by kernel_rfl) rfl (by kernel_rfl) (fun _ _ _ h => h) (Or.inl ⟨by rfl, ?hyk64⟩) hK0 ?restk64
            case hyk64 =>
              intro w0 hSw
              (try dsimp only at hSw)
              go_simp
              all_goals (with_reducible rfl)
            (try simp only [Act.put, List.setIfInBounds_toArray, List.set_cons_zero, List.set_cons_succ])
            refine Kept.take (v := ?vk65) 5 (by kernel_rfl) rfl (by kernel_rfl) (fun _ _ _ h => h) (Or.inl ⟨by rfl, ?hyk65⟩) hK0 ?restk65
            case hyk65 =>
              intro w0 hSw
              (try dsimp only at hSw)
              go_simp
              all_goals (with_reducible rfl)
            (try simp only [Act.put, List.setIfInBounds_toArray, List.set_cons_zero, List.set_cons_succ])
            refine Kept.one 1 (by kernel_rfl) rfl (fun K hK => ?_)
            go_simp
            go_at_call 75
            refine (known_at n _ _ (rdUp good_Net HD.out (bThen HB.out hK0.1)) HP.out.sz).mono ?_
            rintro e w6 ⟨Mb, Dm, rfl, hMb, hM, hsz, hb⟩
            have HM := Lib.hid hM
            have HSZ := Lib.hid (hsz.trans HCK.out)
            clear hM hsz
            go_simp
            refine hK.out _ _ (hS hK0 hb) (fun hK1 => ?_)
            clear hK K hK0
            (try simp only [Act.put, List.setIfInBounds_toArray, List.set_cons_zero, List.set_cons_succ])
            refine Kept.one 2 (by kernel_rfl) rfl (fun K hK => ?_)
            have hl := fun ty => HM.out.own.len (t := 70) (e := 3) undMap ty
            rw [HSZ.out] at hl
            go_simp
            refine hK.out _ _ (hK1) (fun hK2 => ?_)
            clear hK K hK1
            (try simp only [Act.put, List.setIfInBounds_toArray, List.set_cons_zero, List.set_cons_succ])
            refine Kept.tail (by rfl) (by kernel_rfl) ?_
            simp only [List.drop_succ_cons, List.drop_zero]
            have HBF := Lib.hid (bThen HB.out hK2.1)
            clear hS hS0 hK2
            go_wp2
            refine NoPanic.normal ?_
            go_wp2
            go_ret
            exact ⟨rfl, HBF.out⟩
end Go.Proofs.Ytedamhkcblemdaa
