/-
  IsHashed: the specification.
-/
import Derived.Test.YtfncjgmmiihibaaHc3
import Derived.Test.YtfncjgmmiihibaaHsA
import Derived.Test.YtfncjgmmiihibaaNeC
import Derived.Deep.RegionHeld3
import Derived.Laws.StructEq
namespace Go.Proofs.Ytfncjgmmiihibaa
open Go.RowKit
set_option linter.unusedVariables false
set_option linter.unusedSimpArgs false

theorem reach_lenS {n : DNet} (hP : NetP n) : (reachO n).length = netN n := by
  unfold reachO
  rw [if_pos (netB_of hP)]
  unfold markL
  rw [markK_len, seenL_len]
theorem hashed_bad {n : DNet} {R : List Bool} {i : Nat} (hR : reachO n = R) (hi : i < n.2.2.1.length) (h : hashAt n R i = false) : hashedB n = false := by
  unfold hashedB
  rw [hR]
  cases e : (List.range n.2.2.1.length).all (hashAt n R) with
  | false => rw [Bool.and_false]
  | true => have := List.all_eq_true.1 e i (List.mem_range.2 hi); rw [h] at this; cases this
theorem hashed_good {n : DNet} {R : List Bool} (hP : NetP n) (hR : reachO n = R) (h : ∀ i, i < n.2.2.1.length → hashAt n R i = true) : hashedB n = true := by
  unfold hashedB
  rw [hR, netB_of hP, Bool.true_and]
  exact List.all_eq_true.2 fun i hi => h i (List.mem_range.1 hi)
theorem hashAt_keep {n : DNet} {R : List Bool} {i : Nat} {a : DAnd} (ha : n.2.2.1[i]? = some a) (h : R.getD (firN n + i) false = false) : hashAt n R i = false := by
  unfold hashAt; rw [ha]; dsimp only; rw [h, Bool.false_and]
theorem hashAt_shape {n : DNet} {R : List Bool} {i : Nat} {a : DAnd} (ha : n.2.2.1[i]? = some a) (h : ¬ (2 ≤ a.1 ∧ a.1 < a.2 ∧ ¬ (a.1 % 2 = 0 ∧ a.2 = a.1 + 1))) : hashAt n R i = false := by
  unfold hashAt shapeB; rw [ha]; dsimp only; rw [decide_eq_false h, Bool.false_and, Bool.and_false]
theorem hashAt_dup {n : DNet} {R : List Bool} {i k : Nat} {a : DAnd} (ha : n.2.2.1[i]? = some a) (hk : k < i) (h : n.2.2.1[k]? = some a) : hashAt n R i = false := by
  unfold hashAt; rw [ha]; dsimp only
  have e : freshB n.2.2.1 i a = false := by
    cases e : freshB n.2.2.1 i a with
    | false => rfl
    | true => unfold freshB at e; have := List.all_eq_true.1 e k (List.mem_range.2 hk); rw [h] at this; simp at this
  rw [e, Bool.and_false, Bool.and_false]
theorem hashAt_ok {n : DNet} {R : List Bool} {i : Nat} {a : DAnd} (ha : n.2.2.1[i]? = some a) (h : R.getD (firN n + i) false = true) (hs : 2 ≤ a.1 ∧ a.1 < a.2 ∧ ¬ (a.1 % 2 = 0 ∧ a.2 = a.1 + 1)) (hf : ∀ k : Nat, k < i → n.2.2.1[k]? ≠ some a) : hashAt n R i = true := by
  unfold hashAt shapeB; rw [ha]; dsimp only; rw [decide_eq_true hs, h, Bool.true_and, Bool.true_and]
  unfold freshB
  refine List.all_eq_true.2 fun k hk => ?_
  rw [decide_eq_false (hf k (List.mem_range.1 hk))]; rfl

set_option maxRecDepth 100000 in
set_option maxHeartbeats 25600000 in
theorem specHashed_at (n : DNet) (us : List Value) (w : World) (h : rdNet 0 w.heap.size w us n) {r : Bool} (hr : hashedB n = r) :
    Calls Try.prog 50 #[.agg us.toArray] w fun e w' => e = .returned (.bool r) ∧ Below w.heap.size w w' := by
  have HD := Lib.hid h
  have HX := Lib.hid hr
  obtain ⟨f, hf⟩ : ∃ f, netB n = f := ⟨_, rfl⟩
  have HF := Lib.hid hf
  clear hr hf
  obtain ⟨mu0, mu1, mu2, mu3, rfl, mh0, mh1, mh2, mh3⟩ := h
  obtain ⟨me0, -⟩ := mh0
  injection me0 with me0
  subst me0
  obtain ⟨mA1, mc1, me1, mm1, -⟩ := slice_of mh1
  subst me1
  have mR1 := Lib.hid mh1
  clear mh1
  obtain ⟨mA2, mc2, me2, mm2, -⟩ := slice_of mh2
  subst me2
  have mR2 := Lib.hid mh2
  clear mh2
  obtain ⟨mA3, mc3, me3, mm3, -⟩ := slice_of mh3
  subst me3
  have mR3 := Lib.hid mh3
  clear mh3
  go_enter Try.func50, Try.ntmps50
  go_wp2_with fail
  obtain ⟨W0, hV⟩ : ∃ W0, W0 = (w.alloc (.cells #[.int .i64 n.1, .slice mA1 (n.2.1).length mc1, .slice mA2 (n.2.2.1).length mc2, .slice mA3 (n.2.2.2).length mc3] 28)) := ⟨_, rfl⟩
  rw [← hV]
  have gN := eqbox1 hV
  have d0 : W0.cell? ⟨w.heap.size, 0, none⟩ = some (.int .i64 n.1) := box_cell gN.1 0 _ rfl
  have d1 : W0.cell? ⟨w.heap.size, 1, none⟩ = some (.slice mA1 (n.2.1).length mc1) := box_cell gN.1 1 _ rfl
  have d2 : W0.cell? ⟨w.heap.size, 2, none⟩ = some (.slice mA2 (n.2.2.1).length mc2) := box_cell gN.1 2 _ rfl
  have d3 : W0.cell? ⟨w.heap.size, 3, none⟩ = some (.slice mA3 (n.2.2.2).length mc3) := box_cell gN.1 3 _ rfl
  have sW0 : W0.heap.size = w.heap.size + 1 := by rw [hV]; simp
  have HW0 := Lib.hid gN.2
  clear hV gN
  have HB := Lib.hid HW0.out
  clear HW0 sW0
  refine (specNetOk_at n _ _ (rdUp good_Net HD.out HB.out) HF.out).mono ?_
  rintro e w1 ⟨rfl, hb⟩
  replace d0 := keep hb d0
  replace d1 := keep hb d1
  replace d2 := keep hb d2
  replace d3 := keep hb d3
  replace HB := Lib.hid (bThen HB.out hb)
  clear hb
  cases f with
  | false =>
    obtain rfl : r = false := HX.out.symm.trans (by unfold hashedB; rw [HF.out, Bool.false_and])
    go_wp2
    go_ret
    exact ⟨rfl, HB.out⟩
  | true =>
    have HP := Lib.hid (netP_of HF.out)
    have a300 := HP.out.sz.a300
    have h33 : firN n ≤ 33 := by have := HP.out.sz.i20; have := HP.out.sz.s12; unfold firN; omega
    obtain ⟨R, hR⟩ : ∃ R, reachO n = R := ⟨_, rfl⟩
    have HR := Lib.hid hR
    have HRL := Lib.hid (show R.length = firN n + n.2.2.1.length by rw [← hR]; exact reach_lenS HP.out)
    clear hR
    go_wp2_with fail
    refine (specReach_at n _ _ (rdUp good_Net HD.out HB.out) HR.out).mono ?_
    rintro e w2 ⟨vr, rfl, hor, hb⟩
    replace d0 := keep hb d0
    replace d1 := keep hb d1
    replace d2 := keep hb d2
    replace d3 := keep hb d3
    replace HB := Lib.hid (bThen HB.out hb)
    obtain ⟨rA, rc, rfl, hrs⟩ := OwnsR.shape fB_len hor
    have HRS := Lib.hid hrs
    clear hor hrs
    clear hb
    have HE := Lib.hid (And.intro d0 (And.intro d1 (And.intro d2 d3)))
    clear d0 d1 d2 d3
    go_wp2
    go_loopw [4] (fun z wr => ∃ i : Nat, i ≤ n.2.2.1.length ∧ z = .int .i64 (i : Int) ∧ (∀ j : Nat, j < i → hashAt n R j = true) ∧ Below w2.heap.size w2 wr) (fun z _ => n.2.2.1.length - (intOf z).toNat)
    case atStart => exact ⟨0, Nat.zero_le _, rfl, fun j hj => absurd hj (Nat.not_lt_zero j), Below.refl _ _⟩
    case round =>
      obtain ⟨i, hi, rfl, hok, hb⟩ := hrel
      obtain ⟨w3, rfl⟩ : ∃ w3, w3 = wr := ⟨_, rfl⟩
      have HOK := Lib.hid hok
      have HBL := Lib.hid hb
      have d0 := keep hb HE.out.1
      have d1 := keep hb HE.out.2.1
      have d2 := keep hb HE.out.2.2.1
      have d3 := keep hb HE.out.2.2.2
      have HB2 := HB
      replace HB := Lib.hid (bThen HB.out hb)
      clear hok hb HE
      by_cases hlt : i < n.2.2.1.length
      · obtain ⟨a, ha⟩ : ∃ a, n.2.2.1[i]? = some a := ⟨_, List.getElem?_eq_getElem hlt⟩
        obtain ⟨p, q, rfl, hp, hq⟩ := HP.out.and_ i a ha
        obtain ⟨sb, sq, rfl, sb1, y0, yf0, y1, yf1⟩ := at_And (good_AndS.below mR2.out (Nat.le_refl _) HB.out) ha
        have HAK := Lib.hid ha
        have ti : (i : Int) < (n.2.2.1.length : Int) := by omega
        have hi3 : i ≤ 300 := by omega
        have hp9 : p ≤ 1000 := by omega
        have hq9 : q ≤ 1000 := by omega
        obtain ⟨bq, hbq⟩ : ∃ bq, R.getD (firN n + i) false = bq := ⟨_, rfl⟩
        have HBQ := Lib.hid hbq
        have hrl : firN n + i < R.length := by rw [HRL.out]; omega
        obtain ⟨rb, hrb, hrc⟩ := HRS.out (firN n + i) hrl
        subst hrb
        have xr := hrc 0 _ rfl
        rw [List.getD_eq_getElem?_getD, List.getElem?_eq_getElem hrl] at hbq
        have xr1 := xr.1
        rw [Nat.mul_one, Nat.add_zero, show R[firN n + i] = bq from hbq] at xr1
        have xr2 := keep HBL.out xr1
        have trl : ((firN n + i : Nat) : Int) < (R.length : Int) := by omega
        clear ha hp hq yf0 yf1 sb1 hrc xr xr1 hbq
        dsimp only at y0 y1
        have hw0 := World.block_lt_of_cell? w3 _ d0
        dsimp only at hw0
        go_wp2_with fail
        obtain ⟨W7, hW7⟩ : ∃ x, x = w3.alloc (.cells #[.int .i64 (p : Int), .int .i64 (q : Int)] 62) := ⟨_, rfl⟩
        rw [← hW7]
        have hb : Below w3.heap.size w3 W7 := by rw [hW7]; exact bAlloc (Below.refl _ _) (Nat.le_refl _) _
        have HXB := Lib.hid (show W7.heap[w3.heap.size]? = some (.cells #[.int .i64 (p : Int), .int .i64 (q : Int)] 62 (0, 0)) by rw [hW7]; exact heap_alloc_new _ _)
        obtain ⟨X, hX⟩ : ∃ X, w3.heap.size = X := ⟨_, rfl⟩
        have x0 := box_cell HXB.out 0 _ rfl
        have x1 := box_cell HXB.out 1 _ rfl
        replace d0 := keep hb d0
        replace d1 := keep hb d1
        replace d2 := keep hb d2
        replace d3 := keep hb d3
        replace xr2 := keep hb xr2
        replace HB := Lib.hid (bThen HB.out hb)
        replace HBL := Lib.hid (bThen HBL.out hb)
        rw [hX] at x0 x1 ⊢
        clear hW7 hX HXB hb y0 y1
        refine (specFirst_at n _ _ (rdUp good_Net HD.out HB.out) (Nat.le_refl _) HP.out.sz).mono ?_
        rintro e w5 ⟨rfl, hb⟩
        replace d0 := keep hb d0
        replace d1 := keep hb d1
        replace d2 := keep hb d2
        replace d3 := keep hb d3
        replace HB := Lib.hid (bThen HB.out hb)
        replace x0 := keep hb x0
        replace x1 := keep hb x1
        replace xr2 := keep hb xr2
        have HBL5 := Lib.hid (bThen HBL.out hb)
        clear hb
        have ex : (firN n : Int) + (i : Int) = ((firN n + i : Nat) : Int) := by omega
        obtain ⟨K9, hK9⟩ : ∃ K9, firN n + i = K9 := ⟨_, rfl⟩
        rw [hK9] at ex xr2 trl
        have eK : IntKind.i64.wrap ((firN n : Int) + (i : Int)) = (K9 : Int) := by rw [ex]; exact wrap64_int _ (by omega) (by omega)
        clear hK9 hrl
        cases bq with
        | false =>
          have HBAD := Lib.hid (show hashAt n R i = false from hashAt_keep HAK.out HBQ.out)
          obtain rfl : r = false := HX.out.symm.trans (hashed_bad HR.out hlt HBAD.out)
          go_wp2
          go_ret
          exact ⟨rfl, HB.out⟩
        | true =>
          have HKB := HBQ
          by_cases c1 : q ≤ p
          · have c1' : (q : Int) ≤ (p : Int) := by omega
            have HBAD := Lib.hid (show hashAt n R i = false from hashAt_shape HAK.out (fun c => by have := c.2.1; dsimp only at this; omega))
            obtain rfl : r = false := HX.out.symm.trans (hashed_bad HR.out hlt HBAD.out)
            go_wp2
            go_ret
            exact ⟨rfl, HB.out⟩
          · have c1' : (p : Int) < (q : Int) := by omega
            by_cases c2 : p < 2
            · have c2' : (p : Int) < 2 := by omega
              have HBAD := Lib.hid (show hashAt n R i = false from hashAt_shape HAK.out (fun c => by have := c.1; dsimp only at this; omega))
              obtain rfl : r = false := HX.out.symm.trans (hashed_bad HR.out hlt HBAD.out)
              go_wp2
              go_ret
              exact ⟨rfl, HB.out⟩
            · have c2' : 2 ≤ (p : Int) := by omega
              have c1n : ¬ (q : Int) ≤ (p : Int) := by omega
              have c2n : ¬ (p : Int) < 2 := by omega
              by_cases c3 : p % 2 = 0
              · have c3' : (p : Int) % 2 = 0 := by omega
                by_cases c4 : q = p + 1
                · have c4' : (p : Int) + 1 = (q : Int) := by omega
                  have HBAD := Lib.hid (show hashAt n R i = false from hashAt_shape HAK.out (fun c => c.2.2 ⟨c3', c4'.symm⟩))
                  obtain rfl : r = false := HX.out.symm.trans (hashed_bad HR.out hlt HBAD.out)
                  clear c1 c2 c3 c4 HAK
                  go_wp2
                  go_ret
                  exact ⟨rfl, HB.out⟩
                · have c4' : ((q : Int) == (p : Int) + 1) = false := beq_false_of_ne (by omega)
                  have HSH := Lib.hid (show 2 ≤ (p : Int) ∧ (p : Int) < (q : Int) ∧ ¬ ((p : Int) % 2 = 0 ∧ (q : Int) = (p : Int) + 1) from ⟨c2', c1', fun c => by omega⟩)
                  clear c1 c2 c3 c4
                  go_wp2_with fail
                  clear c1' c1n c2' c2n c3' ex eK
                  (try clear c4')
                  (try (rename p < q => hz1; clear hz1))
                  (try (rename ¬ q ≤ p ∧ 2 ≤ (p : Int) => hz2; clear hz2))
                  (try (rename (¬ q ≤ p ∧ 2 ≤ (p : Int)) ∧ _ => hz3; clear hz3))
                  (try (rename ¬ q ≤ p ∧ _ => hz4; clear hz4))
                  have HQ := Lib.hid (And.intro d0 (And.intro d1 (And.intro d2 (And.intro d3 (And.intro x0 x1)))))
                  clear d0 d1 d2 d3 x0 x1
                  go_loopw [6] (fun z wr => ∃ k : Nat, k ≤ i ∧ z = .int .i64 (k : Int) ∧ (∀ j : Nat, j < k → n.2.2.1[j]? ≠ some ((p : Int), (q : Int))) ∧ Below w5.heap.size w5 wr) (fun z _ => i - (intOf z).toNat)
                  case atStart => exact ⟨0, Nat.zero_le _, rfl, fun j hj => absurd hj (Nat.not_lt_zero j), Below.refl _ _⟩
                  case round =>
                    obtain ⟨k, hk, rfl, hne, hb⟩ := hrel
                    obtain ⟨w6, rfl⟩ : ∃ w6, w6 = wr := ⟨_, rfl⟩
                    have HNE := Lib.hid hne
                    have HB7 := Lib.hid hb
                    have d0 := keep hb HQ.out.1
                    have d1 := keep hb HQ.out.2.1
                    have d2 := keep hb HQ.out.2.2.1
                    have d3 := keep hb HQ.out.2.2.2.1
                    have x0 := keep hb HQ.out.2.2.2.2.1
                    have x1 := keep hb HQ.out.2.2.2.2.2
                    replace HB := Lib.hid (bThen HB.out hb)
                    clear hne hb HQ
                    by_cases hki : k < i
                    · obtain ⟨s, hs⟩ : ∃ s, n.2.2.1[k]? = some s := ⟨_, List.getElem?_eq_getElem (by omega)⟩
                      obtain ⟨p', q', rfl, -, -⟩ := HP.out.and_ k s hs
                      obtain ⟨sb', sq', e', sb1, y0, yf0, y1, yf1⟩ := at_And (good_AndS.below mR2.out (Nat.le_refl _) HB.out) hs
                      injection e' with e'
                      injection e' with e1' e2'
                      subst e1' e2'
                      have HS := Lib.hid hs
                      have tk : (k : Int) < (i : Int) := by omega
                      have tkl : (k : Int) < (n.2.2.1.length : Int) := by omega
                      clear hs yf0 yf1 sb1
                      dsimp only at y0 y1
                      by_cases c1 : p' = p
                      · by_cases c2 : q' = q
                        · subst c1 c2
                          obtain rfl : r = false := HX.out.symm.trans (hashed_bad HR.out hlt (hashAt_dup HAK.out hki HS.out))
                          go_wp2_with fail
                          have hS0 : (fun w' => Below w6.heap.size w6 w' ∧ w'.cell? ⟨w.heap.size, 2, none⟩ = some (.slice (some ⟨sb, sq, none⟩) (n.2.2.1).length mc2) ∧ w'.cell? ⟨X, 0, none⟩ = some (.int .i64 (p' : Int)) ∧ w'.cell? ⟨X, 1, none⟩ = some (.int .i64 (q' : Int)) ∧ w'.cell? ⟨sb, sq + k * 2, none⟩ = some (.int .i64 (p' : Int)) ∧ w'.cell? ⟨sb, sq + k * 2 + 1, none⟩ = some (.int .i64 (q' : Int))) w6 := ⟨Below.refl _ _, d2, x0, x1, y0, y1⟩
                          have hS : ∀ {w0 w' : World}, (fun w' => Below w6.heap.size w6 w' ∧ w'.cell? ⟨w.heap.size, 2, none⟩ = some (.slice (some ⟨sb, sq, none⟩) (n.2.2.1).length mc2) ∧ w'.cell? ⟨X, 0, none⟩ = some (.int .i64 (p' : Int)) ∧ w'.cell? ⟨X, 1, none⟩ = some (.int .i64 (q' : Int)) ∧ w'.cell? ⟨sb, sq + k * 2, none⟩ = some (.int .i64 (p' : Int)) ∧ w'.cell? ⟨sb, sq + k * 2 + 1, none⟩ = some (.int .i64 (q' : Int))) w0 → Below w0.heap.size w0 w' → (fun w' => Below w6.heap.size w6 w' ∧ w'.cell? ⟨w.heap.size, 2, none⟩ = some (.slice (some ⟨sb, sq, none⟩) (n.2.2.1).length mc2) ∧ w'.cell? ⟨X, 0, none⟩ = some (.int .i64 (p' : Int)) ∧ w'.cell? ⟨X, 1, none⟩ = some (.int .i64 (q' : Int)) ∧ w'.cell? ⟨sb, sq + k * 2, none⟩ = some (.int .i64 (p' : Int)) ∧ w'.cell? ⟨sb, sq + k * 2 + 1, none⟩ = some (.int .i64 (q' : Int))) w' := fun h hb => ⟨bThen h.1 hb, keep hb h.2.1, keep hb h.2.2.1, keep hb h.2.2.2.1, keep hb h.2.2.2.2.1, keep hb h.2.2.2.2.2⟩
                          dsimp only at hS0 hS
                          refine wp_region_noPanic ?_
                          refine wp_region_kept 6 7 (fun w' => Below w6.heap.size w6 w' ∧ w'.cell? ⟨w.heap.size, 2, none⟩ = some (.slice (some ⟨sb, sq, none⟩) (n.2.2.1).length mc2) ∧ w'.cell? ⟨X, 0, none⟩ = some (.int .i64 (p' : Int)) ∧ w'.cell? ⟨X, 1, none⟩ = some (.int .i64 (q' : Int)) ∧ w'.cell? ⟨sb, sq + k * 2, none⟩ = some (.int .i64 (p' : Int)) ∧ w'.cell? ⟨sb, sq + k * 2 + 1, none⟩ = some (.int .i64 (q' : Int))) (by kernel_rfl) rfl (hS hS0 (Below.drew (Below.refl _ _))) (fun hK0 => ?_)
                          refine Kept.take (v := ?vh1x0) 0 (by kernel_rfl) rfl (by kernel_rfl) (fun _ _ _ h => h) (Or.inl ⟨by rfl, ?hyh1x0⟩) hK0 ?resth1x0
                          case hyh1x0 =>
                            intro w0 hSw
                            (try dsimp only at hSw)
                            go_simp
                            all_goals (with_reducible rfl)
                          (try simp only [Act.put, List.setIfInBounds_toArray, List.set_cons_zero, List.set_cons_succ])
                          refine Kept.take (v := ?vh1x1) 1 (by kernel_rfl) rfl (by kernel_rfl) (fun _ _ _ h => h) (Or.inl ⟨by rfl, ?hyh1x1⟩) hK0 ?resth1x1
                          case hyh1x1 =>
                            intro w0 hSw
                            (try dsimp only at hSw)
                            go_simp
                            all_goals (with_reducible rfl)
                          (try simp only [Act.put, List.setIfInBounds_toArray, List.set_cons_zero, List.set_cons_succ])
                          refine Kept.take (v := ?vh1x2) 2 (by kernel_rfl) rfl (by kernel_rfl) (fun _ _ _ h => h) (Or.inl ⟨by rfl, ?hyh1x2⟩) hK0 ?resth1x2
                          case hyh1x2 =>
                            intro w0 hSw
                            (try dsimp only at hSw)
                            go_simp
                            all_goals (with_reducible rfl)
                          (try simp only [Act.put, List.setIfInBounds_toArray, List.set_cons_zero, List.set_cons_succ])
                          refine Kept.take (v := ?vh1x3) 3 (by kernel_rfl) rfl (by kernel_rfl) (fun _ _ _ h => h) (Or.inl ⟨by rfl, ?hyh1x3⟩) hK0 ?resth1x3
                          case hyh1x3 =>
                            intro w0 hSw
                            (try dsimp only at hSw)
                            go_simp
                            all_goals (with_reducible rfl)
                          (try simp only [Act.put, List.setIfInBounds_toArray, List.set_cons_zero, List.set_cons_succ])
                          refine Kept.take (v := ?vh1x4) 4 (by kernel_rfl) rfl (by kernel_rfl) (fun _ _ _ h => h) (Or.inl ⟨by rfl, ?hyh1x4⟩) hK0 ?resth1x4
                          case hyh1x4 =>
                            intro w0 hSw
                            (try dsimp only at hSw)
                            go_simp
                            all_goals (with_reducible rfl)
                          (try simp only [Act.put, List.setIfInBounds_toArray, List.set_cons_zero, List.set_cons_succ])
                          refine Kept.take (v := ?vh1x5) 5 (by kernel_rfl) rfl (by kernel_rfl) (fun _ _ _ h => h) (Or.inl ⟨by rfl, ?hyh1x5⟩) hK0 ?resth1x5
                          case hyh1x5 =>
                            intro w0 hSw
                            (try dsimp only at hSw)
                            go_simp
                            all_goals (with_reducible rfl)
                          (try simp only [Act.put, List.setIfInBounds_toArray, List.set_cons_zero, List.set_cons_succ])
                          refine Kept.tail (by rfl) (by kernel_rfl) ?_
                          simp only [List.drop_succ_cons, List.drop_zero]
                          have HB8 := Lib.hid (bThen HB.out hK0.1)
                          clear hS0 hS hK0
                          go_wp2
                          refine NoPanic.normal ?_
                          go_wp2
                          go_ret
                          exact ⟨rfl, HB8.out⟩
                        · have c2' : (((q' : Int) == (q : Int))) = false := beq_false_of_ne (by omega)
                          subst c1
                          have HN2 := Lib.hid (show ∀ j : Nat, j < k + 1 → n.2.2.1[j]? ≠ some ((p' : Int), (q : Int)) from fun j hj => by
                            by_cases hjk : j = k
                            · subst hjk; rw [HS.out]; intro c; injection c with c; injection c with c3 c4; omega
                            · exact HNE.out j (by omega))
                          go_wp2_with fail
                          have hS0 : (fun w' => Below w6.heap.size w6 w' ∧ w'.cell? ⟨w.heap.size, 2, none⟩ = some (.slice (some ⟨sb, sq, none⟩) (n.2.2.1).length mc2) ∧ w'.cell? ⟨X, 0, none⟩ = some (.int .i64 (p' : Int)) ∧ w'.cell? ⟨X, 1, none⟩ = some (.int .i64 (q : Int)) ∧ w'.cell? ⟨sb, sq + k * 2, none⟩ = some (.int .i64 (p' : Int)) ∧ w'.cell? ⟨sb, sq + k * 2 + 1, none⟩ = some (.int .i64 (q' : Int))) w6 := ⟨Below.refl _ _, d2, x0, x1, y0, y1⟩
                          have hS : ∀ {w0 w' : World}, (fun w' => Below w6.heap.size w6 w' ∧ w'.cell? ⟨w.heap.size, 2, none⟩ = some (.slice (some ⟨sb, sq, none⟩) (n.2.2.1).length mc2) ∧ w'.cell? ⟨X, 0, none⟩ = some (.int .i64 (p' : Int)) ∧ w'.cell? ⟨X, 1, none⟩ = some (.int .i64 (q : Int)) ∧ w'.cell? ⟨sb, sq + k * 2, none⟩ = some (.int .i64 (p' : Int)) ∧ w'.cell? ⟨sb, sq + k * 2 + 1, none⟩ = some (.int .i64 (q' : Int))) w0 → Below w0.heap.size w0 w' → (fun w' => Below w6.heap.size w6 w' ∧ w'.cell? ⟨w.heap.size, 2, none⟩ = some (.slice (some ⟨sb, sq, none⟩) (n.2.2.1).length mc2) ∧ w'.cell? ⟨X, 0, none⟩ = some (.int .i64 (p' : Int)) ∧ w'.cell? ⟨X, 1, none⟩ = some (.int .i64 (q : Int)) ∧ w'.cell? ⟨sb, sq + k * 2, none⟩ = some (.int .i64 (p' : Int)) ∧ w'.cell? ⟨sb, sq + k * 2 + 1, none⟩ = some (.int .i64 (q' : Int))) w' := fun h hb => ⟨bThen h.1 hb, keep hb h.2.1, keep hb h.2.2.1, keep hb h.2.2.2.1, keep hb h.2.2.2.2.1, keep hb h.2.2.2.2.2⟩
                          dsimp only at hS0 hS
                          refine wp_region_noPanic ?_
                          refine wp_region_kept 6 7 (fun w' => Below w6.heap.size w6 w' ∧ w'.cell? ⟨w.heap.size, 2, none⟩ = some (.slice (some ⟨sb, sq, none⟩) (n.2.2.1).length mc2) ∧ w'.cell? ⟨X, 0, none⟩ = some (.int .i64 (p' : Int)) ∧ w'.cell? ⟨X, 1, none⟩ = some (.int .i64 (q : Int)) ∧ w'.cell? ⟨sb, sq + k * 2, none⟩ = some (.int .i64 (p' : Int)) ∧ w'.cell? ⟨sb, sq + k * 2 + 1, none⟩ = some (.int .i64 (q' : Int))) (by kernel_rfl) rfl (hS hS0 (Below.drew (Below.refl _ _))) (fun hK0 => ?_)
                          refine Kept.take (v := ?vh2x0) 0 (by kernel_rfl) rfl (by kernel_rfl) (fun _ _ _ h => h) (Or.inl ⟨by rfl, ?hyh2x0⟩) hK0 ?resth2x0
                          case hyh2x0 =>
                            intro w0 hSw
                            (try dsimp only at hSw)
                            go_simp
                            all_goals (with_reducible rfl)
                          (try simp only [Act.put, List.setIfInBounds_toArray, List.set_cons_zero, List.set_cons_succ])
                          refine Kept.take (v := ?vh2x1) 1 (by kernel_rfl) rfl (by kernel_rfl) (fun _ _ _ h => h) (Or.inl ⟨by rfl, ?hyh2x1⟩) hK0 ?resth2x1
                          case hyh2x1 =>
                            intro w0 hSw
                            (try dsimp only at hSw)
                            go_simp
                            all_goals (with_reducible rfl)
                          (try simp only [Act.put, List.setIfInBounds_toArray, List.set_cons_zero, List.set_cons_succ])
                          refine Kept.take (v := ?vh2x2) 2 (by kernel_rfl) rfl (by kernel_rfl) (fun _ _ _ h => h) (Or.inl ⟨by rfl, ?hyh2x2⟩) hK0 ?resth2x2
                          case hyh2x2 =>
                            intro w0 hSw
                            (try dsimp only at hSw)
                            go_simp
                            all_goals (with_reducible rfl)
                          (try simp only [Act.put, List.setIfInBounds_toArray, List.set_cons_zero, List.set_cons_succ])
                          refine Kept.take (v := ?vh2x3) 3 (by kernel_rfl) rfl (by kernel_rfl) (fun _ _ _ h => h) (Or.inl ⟨by rfl, ?hyh2x3⟩) hK0 ?resth2x3
                          case hyh2x3 =>
                            intro w0 hSw
                            (try dsimp only at hSw)
                            go_simp
                            all_goals (with_reducible rfl)
                          (try simp only [Act.put, List.setIfInBounds_toArray, List.set_cons_zero, List.set_cons_succ])
                          refine Kept.take (v := ?vh2x4) 4 (by kernel_rfl) rfl (by kernel_rfl) (fun _ _ _ h => h) (Or.inl ⟨by rfl, ?hyh2x4⟩) hK0 ?resth2x4
                          case hyh2x4 =>
                            intro w0 hSw
                            (try dsimp only at hSw)
                            go_simp
                            all_goals (with_reducible rfl)
                          (try simp only [Act.put, List.setIfInBounds_toArray, List.set_cons_zero, List.set_cons_succ])
                          refine Kept.take (v := ?vh2x5) 5 (by kernel_rfl) rfl (by kernel_rfl) (fun _ _ _ h => h) (Or.inl ⟨by rfl, ?hyh2x5⟩) hK0 ?resth2x5
                          case hyh2x5 =>
                            intro w0 hSw
                            (try dsimp only at hSw)
                            go_simp
                            all_goals (with_reducible rfl)
                          (try simp only [Act.put, List.setIfInBounds_toArray, List.set_cons_zero, List.set_cons_succ])
                          refine Kept.tail (by rfl) (by kernel_rfl) ?_
                          simp only [List.drop_succ_cons, List.drop_zero]
                          have HB8 := Lib.hid (bThen HB7.out hK0.1)
                          clear hS0 hS hK0
                          go_wp2
                          refine NoPanic.normal ?_
                          go_wp2
                          go_roundw
                          case rel => exact ⟨k + 1, by omega, by go_num, HN2.out, HB8.out⟩
                          case measure => simp [intOf] <;> omega
                      · have c1' : (((p' : Int) == (p : Int))) = false := beq_false_of_ne (by omega)
                        have HN2 := Lib.hid (show ∀ j : Nat, j < k + 1 → n.2.2.1[j]? ≠ some ((p : Int), (q : Int)) from fun j hj => by
                          by_cases hjk : j = k
                          · subst hjk; rw [HS.out]; intro c; injection c with c; injection c with c3 c4; omega
                          · exact HNE.out j (by omega))
                        go_wp2_with fail
                        have hS0 : (fun w' => Below w6.heap.size w6 w' ∧ w'.cell? ⟨w.heap.size, 2, none⟩ = some (.slice (some ⟨sb, sq, none⟩) (n.2.2.1).length mc2) ∧ w'.cell? ⟨X, 0, none⟩ = some (.int .i64 (p : Int)) ∧ w'.cell? ⟨X, 1, none⟩ = some (.int .i64 (q : Int)) ∧ w'.cell? ⟨sb, sq + k * 2, none⟩ = some (.int .i64 (p' : Int)) ∧ w'.cell? ⟨sb, sq + k * 2 + 1, none⟩ = some (.int .i64 (q' : Int))) w6 := ⟨Below.refl _ _, d2, x0, x1, y0, y1⟩
                        have hS : ∀ {w0 w' : World}, (fun w' => Below w6.heap.size w6 w' ∧ w'.cell? ⟨w.heap.size, 2, none⟩ = some (.slice (some ⟨sb, sq, none⟩) (n.2.2.1).length mc2) ∧ w'.cell? ⟨X, 0, none⟩ = some (.int .i64 (p : Int)) ∧ w'.cell? ⟨X, 1, none⟩ = some (.int .i64 (q : Int)) ∧ w'.cell? ⟨sb, sq + k * 2, none⟩ = some (.int .i64 (p' : Int)) ∧ w'.cell? ⟨sb, sq + k * 2 + 1, none⟩ = some (.int .i64 (q' : Int))) w0 → Below w0.heap.size w0 w' → (fun w' => Below w6.heap.size w6 w' ∧ w'.cell? ⟨w.heap.size, 2, none⟩ = some (.slice (some ⟨sb, sq, none⟩) (n.2.2.1).length mc2) ∧ w'.cell? ⟨X, 0, none⟩ = some (.int .i64 (p : Int)) ∧ w'.cell? ⟨X, 1, none⟩ = some (.int .i64 (q : Int)) ∧ w'.cell? ⟨sb, sq + k * 2, none⟩ = some (.int .i64 (p' : Int)) ∧ w'.cell? ⟨sb, sq + k * 2 + 1, none⟩ = some (.int .i64 (q' : Int))) w' := fun h hb => ⟨bThen h.1 hb, keep hb h.2.1, keep hb h.2.2.1, keep hb h.2.2.2.1, keep hb h.2.2.2.2.1, keep hb h.2.2.2.2.2⟩
                        dsimp only at hS0 hS
                        refine wp_region_noPanic ?_
                        refine wp_region_kept 6 7 (fun w' => Below w6.heap.size w6 w' ∧ w'.cell? ⟨w.heap.size, 2, none⟩ = some (.slice (some ⟨sb, sq, none⟩) (n.2.2.1).length mc2) ∧ w'.cell? ⟨X, 0, none⟩ = some (.int .i64 (p : Int)) ∧ w'.cell? ⟨X, 1, none⟩ = some (.int .i64 (q : Int)) ∧ w'.cell? ⟨sb, sq + k * 2, none⟩ = some (.int .i64 (p' : Int)) ∧ w'.cell? ⟨sb, sq + k * 2 + 1, none⟩ = some (.int .i64 (q' : Int))) (by kernel_rfl) rfl (hS hS0 (Below.drew (Below.refl _ _))) (fun hK0 => ?_)
                        refine Kept.take (v := ?vh3x0) 0 (by kernel_rfl) rfl (by kernel_rfl) (fun _ _ _ h => h) (Or.inl ⟨by rfl, ?hyh3x0⟩) hK0 ?resth3x0
                        case hyh3x0 =>
                          intro w0 hSw
                          (try dsimp only at hSw)
                          go_simp
                          all_goals (with_reducible rfl)
                        (try simp only [Act.put, List.setIfInBounds_toArray, List.set_cons_zero, List.set_cons_succ])
                        refine Kept.take (v := ?vh3x1) 1 (by kernel_rfl) rfl (by kernel_rfl) (fun _ _ _ h => h) (Or.inl ⟨by rfl, ?hyh3x1⟩) hK0 ?resth3x1
                        case hyh3x1 =>
                          intro w0 hSw
                          (try dsimp only at hSw)
                          go_simp
                          all_goals (with_reducible rfl)
                        (try simp only [Act.put, List.setIfInBounds_toArray, List.set_cons_zero, List.set_cons_succ])
                        refine Kept.take (v := ?vh3x2) 2 (by kernel_rfl) rfl (by kernel_rfl) (fun _ _ _ h => h) (Or.inl ⟨by rfl, ?hyh3x2⟩) hK0 ?resth3x2
                        case hyh3x2 =>
                          intro w0 hSw
                          (try dsimp only at hSw)
                          go_simp
                          all_goals (with_reducible rfl)
                        (try simp only [Act.put, List.setIfInBounds_toArray, List.set_cons_zero, List.set_cons_succ])
                        refine Kept.take (v := ?vh3x3) 3 (by kernel_rfl) rfl (by kernel_rfl) (fun _ _ _ h => h) (Or.inl ⟨by rfl, ?hyh3x3⟩) hK0 ?resth3x3
                        case hyh3x3 =>
                          intro w0 hSw
                          (try dsimp only at hSw)
                          go_simp
                          all_goals (with_reducible rfl)
                        (try simp only [Act.put, List.setIfInBounds_toArray, List.set_cons_zero, List.set_cons_succ])
                        refine Kept.take (v := ?vh3x4) 4 (by kernel_rfl) rfl (by kernel_rfl) (fun _ _ _ h => h) (Or.inl ⟨by rfl, ?hyh3x4⟩) hK0 ?resth3x4
                        case hyh3x4 =>
                          intro w0 hSw
                          (try dsimp only at hSw)
                          go_simp
                          all_goals (with_reducible rfl)
                        (try simp only [Act.put, List.setIfInBounds_toArray, List.set_cons_zero, List.set_cons_succ])
                        refine Kept.take (v := ?vh3x5) 5 (by kernel_rfl) rfl (by kernel_rfl) (fun _ _ _ h => h) (Or.inl ⟨by rfl, ?hyh3x5⟩) hK0 ?resth3x5
                        case hyh3x5 =>
                          intro w0 hSw
                          (try dsimp only at hSw)
                          go_simp
                          all_goals (with_reducible rfl)
                        (try simp only [Act.put, List.setIfInBounds_toArray, List.set_cons_zero, List.set_cons_succ])
                        refine Kept.tail (by rfl) (by kernel_rfl) ?_
                        simp only [List.drop_succ_cons, List.drop_zero]
                        have HB8 := Lib.hid (bThen HB7.out hK0.1)
                        clear hS0 hS hK0
                        go_wp2
                        refine NoPanic.normal ?_
                        go_wp2
                        go_roundw
                        case rel => exact ⟨k + 1, by omega, by go_num, HN2.out, HB8.out⟩
                        case measure => simp [intOf] <;> omega
                    · obtain rfl : k = i := by omega
                      have HOKI := Lib.hid (show ∀ j : Nat, j < k + 1 → hashAt n R j = true from fun j hj => by
                        by_cases hjk : j = k
                        · subst hjk; exact hashAt_ok HAK.out HKB.out HSH.out HNE.out
                        · exact HOK.out j (by omega))
                      have HBL2 := Lib.hid (bThen HBL5.out HB7.out)
                      clear hki d0 d1 d2 d3 x0 x1
                      go_wp2
                      go_roundw
                      case rel => exact ⟨k + 1, by omega, by go_num, HOKI.out, HBL2.out⟩
                      case measure => simp [intOf] <;> omega
              · have c3' : (p : Int) % 2 = 1 := by omega
                have HSH := Lib.hid (show 2 ≤ (p : Int) ∧ (p : Int) < (q : Int) ∧ ¬ ((p : Int) % 2 = 0 ∧ (q : Int) = (p : Int) + 1) from ⟨c2', c1', fun c => by omega⟩)
                clear c1 c2 c3
                go_wp2_with fail
                clear c1' c1n c2' c2n c3' ex eK
                (try clear c4')
                (try (rename p < q => hz1; clear hz1))
                (try (rename ¬ q ≤ p ∧ 2 ≤ (p : Int) => hz2; clear hz2))
                (try (rename (¬ q ≤ p ∧ 2 ≤ (p : Int)) ∧ _ => hz3; clear hz3))
                (try (rename ¬ q ≤ p ∧ _ => hz4; clear hz4))
                have HQ := Lib.hid (And.intro d0 (And.intro d1 (And.intro d2 (And.intro d3 (And.intro x0 x1)))))
                clear d0 d1 d2 d3 x0 x1
                go_loopw [6] (fun z wr => ∃ k : Nat, k ≤ i ∧ z = .int .i64 (k : Int) ∧ (∀ j : Nat, j < k → n.2.2.1[j]? ≠ some ((p : Int), (q : Int))) ∧ Below w5.heap.size w5 wr) (fun z _ => i - (intOf z).toNat)
                case atStart => exact ⟨0, Nat.zero_le _, rfl, fun j hj => absurd hj (Nat.not_lt_zero j), Below.refl _ _⟩
                case round =>
                  obtain ⟨k, hk, rfl, hne, hb⟩ := hrel
                  obtain ⟨w6, rfl⟩ : ∃ w6, w6 = wr := ⟨_, rfl⟩
                  have HNE := Lib.hid hne
                  have HB7 := Lib.hid hb
                  have d0 := keep hb HQ.out.1
                  have d1 := keep hb HQ.out.2.1
                  have d2 := keep hb HQ.out.2.2.1
                  have d3 := keep hb HQ.out.2.2.2.1
                  have x0 := keep hb HQ.out.2.2.2.2.1
                  have x1 := keep hb HQ.out.2.2.2.2.2
                  replace HB := Lib.hid (bThen HB.out hb)
                  clear hne hb HQ
                  by_cases hki : k < i
                  · obtain ⟨s, hs⟩ : ∃ s, n.2.2.1[k]? = some s := ⟨_, List.getElem?_eq_getElem (by omega)⟩
                    obtain ⟨p', q', rfl, -, -⟩ := HP.out.and_ k s hs
                    obtain ⟨sb', sq', e', sb1, y0, yf0, y1, yf1⟩ := at_And (good_AndS.below mR2.out (Nat.le_refl _) HB.out) hs
                    injection e' with e'
                    injection e' with e1' e2'
                    subst e1' e2'
                    have HS := Lib.hid hs
                    have tk : (k : Int) < (i : Int) := by omega
                    have tkl : (k : Int) < (n.2.2.1.length : Int) := by omega
                    clear hs yf0 yf1 sb1
                    dsimp only at y0 y1
                    by_cases c1 : p' = p
                    · by_cases c2 : q' = q
                      · subst c1 c2
                        obtain rfl : r = false := HX.out.symm.trans (hashed_bad HR.out hlt (hashAt_dup HAK.out hki HS.out))
                        go_wp2_with fail
                        have hS0 : (fun w' => Below w6.heap.size w6 w' ∧ w'.cell? ⟨w.heap.size, 2, none⟩ = some (.slice (some ⟨sb, sq, none⟩) (n.2.2.1).length mc2) ∧ w'.cell? ⟨X, 0, none⟩ = some (.int .i64 (p' : Int)) ∧ w'.cell? ⟨X, 1, none⟩ = some (.int .i64 (q' : Int)) ∧ w'.cell? ⟨sb, sq + k * 2, none⟩ = some (.int .i64 (p' : Int)) ∧ w'.cell? ⟨sb, sq + k * 2 + 1, none⟩ = some (.int .i64 (q' : Int))) w6 := ⟨Below.refl _ _, d2, x0, x1, y0, y1⟩
                        have hS : ∀ {w0 w' : World}, (fun w' => Below w6.heap.size w6 w' ∧ w'.cell? ⟨w.heap.size, 2, none⟩ = some (.slice (some ⟨sb, sq, none⟩) (n.2.2.1).length mc2) ∧ w'.cell? ⟨X, 0, none⟩ = some (.int .i64 (p' : Int)) ∧ w'.cell? ⟨X, 1, none⟩ = some (.int .i64 (q' : Int)) ∧ w'.cell? ⟨sb, sq + k * 2, none⟩ = some (.int .i64 (p' : Int)) ∧ w'.cell? ⟨sb, sq + k * 2 + 1, none⟩ = some (.int .i64 (q' : Int))) w0 → Below w0.heap.size w0 w' → (fun w' => Below w6.heap.size w6 w' ∧ w'.cell? ⟨w.heap.size, 2, none⟩ = some (.slice (some ⟨sb, sq, none⟩) (n.2.2.1).length mc2) ∧ w'.cell? ⟨X, 0, none⟩ = some (.int .i64 (p' : Int)) ∧ w'.cell? ⟨X, 1, none⟩ = some (.int .i64 (q' : Int)) ∧ w'.cell? ⟨sb, sq + k * 2, none⟩ = some (.int .i64 (p' : Int)) ∧ w'.cell? ⟨sb, sq + k * 2 + 1, none⟩ = some (.int .i64 (q' : Int))) w' := fun h hb => ⟨bThen h.1 hb, keep hb h.2.1, keep hb h.2.2.1, keep hb h.2.2.2.1, keep hb h.2.2.2.2.1, keep hb h.2.2.2.2.2⟩
                        dsimp only at hS0 hS
                        refine wp_region_noPanic ?_
                        refine wp_region_kept 6 7 (fun w' => Below w6.heap.size w6 w' ∧ w'.cell? ⟨w.heap.size, 2, none⟩ = some (.slice (some ⟨sb, sq, none⟩) (n.2.2.1).length mc2) ∧ w'.cell? ⟨X, 0, none⟩ = some (.int .i64 (p' : Int)) ∧ w'.cell? ⟨X, 1, none⟩ = some (.int .i64 (q' : Int)) ∧ w'.cell? ⟨sb, sq + k * 2, none⟩ = some (.int .i64 (p' : Int)) ∧ w'.cell? ⟨sb, sq + k * 2 + 1, none⟩ = some (.int .i64 (q' : Int))) (by kernel_rfl) rfl (hS hS0 (Below.drew (Below.refl _ _))) (fun hK0 => ?_)
                        refine Kept.take (v := ?vh4x0) 0 (by kernel_rfl) rfl (by kernel_rfl) (fun _ _ _ h => h) (Or.inl ⟨by rfl, ?hyh4x0⟩) hK0 ?resth4x0
                        case hyh4x0 =>
                          intro w0 hSw
                          (try dsimp only at hSw)
                          go_simp
                          all_goals (with_reducible rfl)
                        (try simp only [Act.put, List.setIfInBounds_toArray, List.set_cons_zero, List.set_cons_succ])
                        refine Kept.take (v := ?vh4x1) 1 (by kernel_rfl) rfl (by kernel_rfl) (fun _ _ _ h => h) (Or.inl ⟨by rfl, ?hyh4x1⟩) hK0 ?resth4x1
                        case hyh4x1 =>
                          intro w0 hSw
                          (try dsimp only at hSw)
                          go_simp
                          all_goals (with_reducible rfl)
                        (try simp only [Act.put, List.setIfInBounds_toArray, List.set_cons_zero, List.set_cons_succ])
                        refine Kept.take (v := ?vh4x2) 2 (by kernel_rfl) rfl (by kernel_rfl) (fun _ _ _ h => h) (Or.inl ⟨by rfl, ?hyh4x2⟩) hK0 ?resth4x2
                        case hyh4x2 =>
                          intro w0 hSw
                          (try dsimp only at hSw)
                          go_simp
                          all_goals (with_reducible rfl)
                        (try simp only [Act.put, List.setIfInBounds_toArray, List.set_cons_zero, List.set_cons_succ])
                        refine Kept.take (v := ?vh4x3) 3 (by kernel_rfl) rfl (by kernel_rfl) (fun _ _ _ h => h) (Or.inl ⟨by rfl, ?hyh4x3⟩) hK0 ?resth4x3
                        case hyh4x3 =>
                          intro w0 hSw
                          (try dsimp only at hSw)
                          go_simp
                          all_goals (with_reducible rfl)
                        (try simp only [Act.put, List.setIfInBounds_toArray, List.set_cons_zero, List.set_cons_succ])
                        refine Kept.take (v := ?vh4x4) 4 (by kernel_rfl) rfl (by kernel_rfl) (fun _ _ _ h => h) (Or.inl ⟨by rfl, ?hyh4x4⟩) hK0 ?resth4x4
                        case hyh4x4 =>
                          intro w0 hSw
                          (try dsimp only at hSw)
                          go_simp
                          all_goals (with_reducible rfl)
                        (try simp only [Act.put, List.setIfInBounds_toArray, List.set_cons_zero, List.set_cons_succ])
                        refine Kept.take (v := ?vh4x5) 5 (by kernel_rfl) rfl (by kernel_rfl) (fun _ _ _ h => h) (Or.inl ⟨by rfl, ?hyh4x5⟩) hK0 ?resth4x5
                        case hyh4x5 =>
                          intro w0 hSw
                          (try dsimp only at hSw)
                          go_simp
                          all_goals (with_reducible rfl)
                        (try simp only [Act.put, List.setIfInBounds_toArray, List.set_cons_zero, List.set_cons_succ])
                        refine Kept.tail (by rfl) (by kernel_rfl) ?_
                        simp only [List.drop_succ_cons, List.drop_zero]
                        have HB8 := Lib.hid (bThen HB.out hK0.1)
                        clear hS0 hS hK0
                        go_wp2
                        refine NoPanic.normal ?_
                        go_wp2
                        go_ret
                        exact ⟨rfl, HB8.out⟩
                      · have c2' : (((q' : Int) == (q : Int))) = false := beq_false_of_ne (by omega)
                        subst c1
                        have HN2 := Lib.hid (show ∀ j : Nat, j < k + 1 → n.2.2.1[j]? ≠ some ((p' : Int), (q : Int)) from fun j hj => by
                          by_cases hjk : j = k
                          · subst hjk; rw [HS.out]; intro c; injection c with c; injection c with c3 c4; omega
                          · exact HNE.out j (by omega))
                        go_wp2_with fail
                        have hS0 : (fun w' => Below w6.heap.size w6 w' ∧ w'.cell? ⟨w.heap.size, 2, none⟩ = some (.slice (some ⟨sb, sq, none⟩) (n.2.2.1).length mc2) ∧ w'.cell? ⟨X, 0, none⟩ = some (.int .i64 (p' : Int)) ∧ w'.cell? ⟨X, 1, none⟩ = some (.int .i64 (q : Int)) ∧ w'.cell? ⟨sb, sq + k * 2, none⟩ = some (.int .i64 (p' : Int)) ∧ w'.cell? ⟨sb, sq + k * 2 + 1, none⟩ = some (.int .i64 (q' : Int))) w6 := ⟨Below.refl _ _, d2, x0, x1, y0, y1⟩
                        have hS : ∀ {w0 w' : World}, (fun w' => Below w6.heap.size w6 w' ∧ w'.cell? ⟨w.heap.size, 2, none⟩ = some (.slice (some ⟨sb, sq, none⟩) (n.2.2.1).length mc2) ∧ w'.cell? ⟨X, 0, none⟩ = some (.int .i64 (p' : Int)) ∧ w'.cell? ⟨X, 1, none⟩ = some (.int .i64 (q : Int)) ∧ w'.cell? ⟨sb, sq + k * 2, none⟩ = some (.int .i64 (p' : Int)) ∧ w'.cell? ⟨sb, sq + k * 2 + 1, none⟩ = some (.int .i64 (q' : Int))) w0 → Below w0.heap.size w0 w' → (fun w' => Below w6.heap.size w6 w' ∧ w'.cell? ⟨w.heap.size, 2, none⟩ = some (.slice (some ⟨sb, sq, none⟩) (n.2.2.1).length mc2) ∧ w'.cell? ⟨X, 0, none⟩ = some (.int .i64 (p' : Int)) ∧ w'.cell? ⟨X, 1, none⟩ = some (.int .i64 (q : Int)) ∧ w'.cell? ⟨sb, sq + k * 2, none⟩ = some (.int .i64 (p' : Int)) ∧ w'.cell? ⟨sb, sq + k * 2 + 1, none⟩ = some (.int .i64 (q' : Int))) w' := fun h hb => ⟨bThen h.1 hb, keep hb h.2.1, keep hb h.2.2.1, keep hb h.2.2.2.1, keep hb h.2.2.2.2.1, keep hb h.2.2.2.2.2⟩
                        dsimp only at hS0 hS
                        refine wp_region_noPanic ?_
                        refine wp_region_kept 6 7 (fun w' => Below w6.heap.size w6 w' ∧ w'.cell? ⟨w.heap.size, 2, none⟩ = some (.slice (some ⟨sb, sq, none⟩) (n.2.2.1).length mc2) ∧ w'.cell? ⟨X, 0, none⟩ = some (.int .i64 (p' : Int)) ∧ w'.cell? ⟨X, 1, none⟩ = some (.int .i64 (q : Int)) ∧ w'.cell? ⟨sb, sq + k * 2, none⟩ = some (.int .i64 (p' : Int)) ∧ w'.cell? ⟨sb, sq + k * 2 + 1, none⟩ = some (.int .i64 (q' : Int))) (by kernel_rfl) rfl (hS hS0 (Below.drew (Below.refl _ _))) (fun hK0 => ?_)
                        refine Kept.take (v := ?vh5x0) 0 (by kernel_rfl) rfl (by kernel_rfl) (fun _ _ _ h => h) (Or.inl ⟨by rfl, ?hyh5x0⟩) hK0 ?resth5x0
                        case hyh5x0 =>
                          intro w0 hSw
                          (try dsimp only at hSw)
                          go_simp
                          all_goals (with_reducible rfl)
                        (try simp only [Act.put, List.setIfInBounds_toArray, List.set_cons_zero, List.set_cons_succ])
                        refine Kept.take (v := ?vh5x1) 1 (by kernel_rfl) rfl (by kernel_rfl) (fun _ _ _ h => h) (Or.inl ⟨by rfl, ?hyh5x1⟩) hK0 ?resth5x1
                        case hyh5x1 =>
                          intro w0 hSw
                          (try dsimp only at hSw)
                          go_simp
                          all_goals (with_reducible rfl)
                        (try simp only [Act.put, List.setIfInBounds_toArray, List.set_cons_zero, List.set_cons_succ])
                        refine Kept.take (v := ?vh5x2) 2 (by kernel_rfl) rfl (by kernel_rfl) (fun _ _ _ h => h) (Or.inl ⟨by rfl, ?hyh5x2⟩) hK0 ?resth5x2
                        case hyh5x2 =>
                          intro w0 hSw
                          (try dsimp only at hSw)
                          go_simp
                          all_goals (with_reducible rfl)
                        (try simp only [Act.put, List.setIfInBounds_toArray, List.set_cons_zero, List.set_cons_succ])
                        refine Kept.take (v := ?vh5x3) 3 (by kernel_rfl) rfl (by kernel_rfl) (fun _ _ _ h => h) (Or.inl ⟨by rfl, ?hyh5x3⟩) hK0 ?resth5x3
                        case hyh5x3 =>
                          intro w0 hSw
                          (try dsimp only at hSw)
                          go_simp
                          all_goals (with_reducible rfl)
                        (try simp only [Act.put, List.setIfInBounds_toArray, List.set_cons_zero, List.set_cons_succ])
                        refine Kept.take (v := ?vh5x4) 4 (by kernel_rfl) rfl (by kernel_rfl) (fun _ _ _ h => h) (Or.inl ⟨by rfl, ?hyh5x4⟩) hK0 ?resth5x4
                        case hyh5x4 =>
                          intro w0 hSw
                          (try dsimp only at hSw)
                          go_simp
                          all_goals (with_reducible rfl)
                        (try simp only [Act.put, List.setIfInBounds_toArray, List.set_cons_zero, List.set_cons_succ])
                        refine Kept.take (v := ?vh5x5) 5 (by kernel_rfl) rfl (by kernel_rfl) (fun _ _ _ h => h) (Or.inl ⟨by rfl, ?hyh5x5⟩) hK0 ?resth5x5
                        case hyh5x5 =>
                          intro w0 hSw
                          (try dsimp only at hSw)
                          go_simp
                          all_goals (with_reducible rfl)
                        (try simp only [Act.put, List.setIfInBounds_toArray, List.set_cons_zero, List.set_cons_succ])
                        refine Kept.tail (by rfl) (by kernel_rfl) ?_
                        simp only [List.drop_succ_cons, List.drop_zero]
                        have HB8 := Lib.hid (bThen HB7.out hK0.1)
                        clear hS0 hS hK0
                        go_wp2
                        refine NoPanic.normal ?_
                        go_wp2
                        go_roundw
                        case rel => exact ⟨k + 1, by omega, by go_num, HN2.out, HB8.out⟩
                        case measure => simp [intOf] <;> omega
                    · have c1' : (((p' : Int) == (p : Int))) = false := beq_false_of_ne (by omega)
                      have HN2 := Lib.hid (show ∀ j : Nat, j < k + 1 → n.2.2.1[j]? ≠ some ((p : Int), (q : Int)) from fun j hj => by
                        by_cases hjk : j = k
                        · subst hjk; rw [HS.out]; intro c; injection c with c; injection c with c3 c4; omega
                        · exact HNE.out j (by omega))
                      go_wp2_with fail
                      have hS0 : (fun w' => Below w6.heap.size w6 w' ∧ w'.cell? ⟨w.heap.size, 2, none⟩ = some (.slice (some ⟨sb, sq, none⟩) (n.2.2.1).length mc2) ∧ w'.cell? ⟨X, 0, none⟩ = some (.int .i64 (p : Int)) ∧ w'.cell? ⟨X, 1, none⟩ = some (.int .i64 (q : Int)) ∧ w'.cell? ⟨sb, sq + k * 2, none⟩ = some (.int .i64 (p' : Int)) ∧ w'.cell? ⟨sb, sq + k * 2 + 1, none⟩ = some (.int .i64 (q' : Int))) w6 := ⟨Below.refl _ _, d2, x0, x1, y0, y1⟩
                      have hS : ∀ {w0 w' : World}, (fun w' => Below w6.heap.size w6 w' ∧ w'.cell? ⟨w.heap.size, 2, none⟩ = some (.slice (some ⟨sb, sq, none⟩) (n.2.2.1).length mc2) ∧ w'.cell? ⟨X, 0, none⟩ = some (.int .i64 (p : Int)) ∧ w'.cell? ⟨X, 1, none⟩ = some (.int .i64 (q : Int)) ∧ w'.cell? ⟨sb, sq + k * 2, none⟩ = some (.int .i64 (p' : Int)) ∧ w'.cell? ⟨sb, sq + k * 2 + 1, none⟩ = some (.int .i64 (q' : Int))) w0 → Below w0.heap.size w0 w' → (fun w' => Below w6.heap.size w6 w' ∧ w'.cell? ⟨w.heap.size, 2, none⟩ = some (.slice (some ⟨sb, sq, none⟩) (n.2.2.1).length mc2) ∧ w'.cell? ⟨X, 0, none⟩ = some (.int .i64 (p : Int)) ∧ w'.cell? ⟨X, 1, none⟩ = some (.int .i64 (q : Int)) ∧ w'.cell? ⟨sb, sq + k * 2, none⟩ = some (.int .i64 (p' : Int)) ∧ w'.cell? ⟨sb, sq + k * 2 + 1, none⟩ = some (.int .i64 (q' : Int))) w' := fun h hb => ⟨bThen h.1 hb, keep hb h.2.1, keep hb h.2.2.1, keep hb h.2.2.2.1, keep hb h.2.2.2.2.1, keep hb h.2.2.2.2.2⟩
                      dsimp only at hS0 hS
                      refine wp_region_noPanic ?_
                      refine wp_region_kept 6 7 (fun w' => Below w6.heap.size w6 w' ∧ w'.cell? ⟨w.heap.size, 2, none⟩ = some (.slice (some ⟨sb, sq, none⟩) (n.2.2.1).length mc2) ∧ w'.cell? ⟨X, 0, none⟩ = some (.int .i64 (p : Int)) ∧ w'.cell? ⟨X, 1, none⟩ = some (.int .i64 (q : Int)) ∧ w'.cell? ⟨sb, sq + k * 2, none⟩ = some (.int .i64 (p' : Int)) ∧ w'.cell? ⟨sb, sq + k * 2 + 1, none⟩ = some (.int .i64 (q' : Int))) (by kernel_rfl) rfl (hS hS0 (Below.drew (Below.refl _ _))) (fun hK0 => ?_)
                      refine Kept.take (v := ?vh6x0) 0 (by kernel_rfl) rfl (by kernel_rfl) (fun _ _ _ h => h) (Or.inl ⟨by rfl, ?hyh6x0⟩) hK0 ?resth6x0
                      case hyh6x0 =>
                        intro w0 hSw
                        (try dsimp only at hSw)
                        go_simp
                        all_goals (with_reducible rfl)
                      (try simp only [Act.put, List.setIfInBounds_toArray, List.set_cons_zero, List.set_cons_succ])
                      refine Kept.take (v := ?vh6x1) 1 (by kernel_rfl) rfl (by kernel_rfl) (fun _ _ _ h => h) (Or.inl ⟨by rfl, ?hyh6x1⟩) hK0 ?resth6x1
                      case hyh6x1 =>
                        intro w0 hSw
                        (try dsimp only at hSw)
                        go_simp
                        all_goals (with_reducible rfl)
                      (try simp only [Act.put, List.setIfInBounds_toArray, List.set_cons_zero, List.set_cons_succ])
                      refine Kept.take (v := ?vh6x2) 2 (by kernel_rfl) rfl (by kernel_rfl) (fun _ _ _ h => h) (Or.inl ⟨by rfl, ?hyh6x2⟩) hK0 ?resth6x2
                      case hyh6x2 =>
                        intro w0 hSw
                        (try dsimp only at hSw)
                        go_simp
                        all_goals (with_reducible rfl)
                      (try simp only [Act.put, List.setIfInBounds_toArray, List.set_cons_zero, List.set_cons_succ])
                      refine Kept.take (v := ?vh6x3) 3 (by kernel_rfl) rfl (by kernel_rfl) (fun _ _ _ h => h) (Or.inl ⟨by rfl, ?hyh6x3⟩) hK0 ?resth6x3
                      case hyh6x3 =>
                        intro w0 hSw
                        (try dsimp only at hSw)
                        go_simp
                        all_goals (with_reducible rfl)
                      (try simp only [Act.put, List.setIfInBounds_toArray, List.set_cons_zero, List.set_cons_succ])
                      refine Kept.take (v := ?vh6x4) 4 (by kernel_rfl) rfl (by kernel_rfl) (fun _ _ _ h => h) (Or.inl ⟨by rfl, ?hyh6x4⟩) hK0 ?resth6x4
                      case hyh6x4 =>
                        intro w0 hSw
                        (try dsimp only at hSw)
                        go_simp
                        all_goals (with_reducible rfl)
                      (try simp only [Act.put, List.setIfInBounds_toArray, List.set_cons_zero, List.set_cons_succ])
                      refine Kept.take (v := ?vh6x5) 5 (by kernel_rfl) rfl (by kernel_rfl) (fun _ _ _ h => h) (Or.inl ⟨by rfl, ?hyh6x5⟩) hK0 ?resth6x5
                      case hyh6x5 =>
                        intro w0 hSw
                        (try dsimp only at hSw)
                        go_simp
                        all_goals (with_reducible rfl)
                      (try simp only [Act.put, List.setIfInBounds_toArray, List.set_cons_zero, List.set_cons_succ])
                      refine Kept.tail (by rfl) (by kernel_rfl) ?_
                      simp only [List.drop_succ_cons, List.drop_zero]
                      have HB8 := Lib.hid (bThen HB7.out hK0.1)
                      clear hS0 hS hK0
                      go_wp2
                      refine NoPanic.normal ?_
                      go_wp2
                      go_roundw
                      case rel => exact ⟨k + 1, by omega, by go_num, HN2.out, HB8.out⟩
                      case measure => simp [intOf] <;> omega
                  · obtain rfl : k = i := by omega
                    have HOKI := Lib.hid (show ∀ j : Nat, j < k + 1 → hashAt n R j = true from fun j hj => by
                      by_cases hjk : j = k
                      · subst hjk; exact hashAt_ok HAK.out HKB.out HSH.out HNE.out
                      · exact HOK.out j (by omega))
                    have HBL2 := Lib.hid (bThen HBL5.out HB7.out)
                    clear hki d0 d1 d2 d3 x0 x1
                    go_wp2
                    go_roundw
                    case rel => exact ⟨k + 1, by omega, by go_num, HOKI.out, HBL2.out⟩
                    case measure => simp [intOf] <;> omega
      · obtain rfl : n.2.2.1.length = i := by omega
        obtain rfl : r = true := HX.out.symm.trans (hashed_good HP.out HR.out HOK.out)
        clear hlt
        go_wp2
        go_ret
        exact ⟨rfl, HB.out⟩
end Go.Proofs.Ytfncjgmmiihibaa
