/-
  Nr2, Nr3, Nr4, Nr5, Nr6, Nr7 as one text.
-/
import Derived.Test.YtiejilmgchmppaaNrA
import Derived.Test.YtiejilmgchmppaaNeA
import Derived.Deep.RegionHeld3
import Derived.Test.YtiejilmgchmppaaNeB
/- Nr2: The value of a literal, both sides. -/
namespace Go.Proofs.Ytiejilmgchmppaa
open Go.RowKit
set_option linter.unusedVariables false
set_option linter.unusedSimpArgs false

theorem xor_bit : ∀ (a b : Fin 2), bits .xor .i64 (a.val : Int) (b.val : Int) = (((a.val + b.val) % 2 : Nat) : Int) := by decide
theorem bitV_of {V : List Int} {l x m : Nat} (hx : V[l / 2]? = some (x : Int)) (hm : l % 2 = m) : bitV V l = (((x + m) % 2 : Nat) : Int) := by
  unfold bitV
  rw [List.getD_eq_getElem?_getD, hx]
  simp only [Option.getD_some]
  omega
/-- What LitValue answers. -/
def litO (V : List Int) (l : Int) : Int := if 0 ≤ l ∧ ((l.toNat / 2 : Nat) : Int) < V.length ∧ 0 ≤ V.getD (l.toNat / 2) 0 ∧ V.getD (l.toNat / 2) 0 ≤ 1 then bitV V l.toNat else -1
theorem litO_neg {V : List Int} {l : Int} (h : l < 0) : litO V l = -1 := if_neg (by omega)
theorem litO_out {V : List Int} {l : Nat} (h : V.length ≤ l / 2) : litO V (l : Int) = -1 := if_neg (by rw [Int.toNat_natCast]; omega)
theorem litO_bad {V : List Int} {l : Nat} {x : Int} (hx : V[l / 2]? = some x) (h : ¬ (0 ≤ x ∧ x ≤ 1)) : litO V (l : Int) = -1 := if_neg (by rw [Int.toNat_natCast, List.getD_eq_getElem?_getD, hx, Option.getD_some]; omega)
theorem litO_good {V : List Int} {l : Nat} {x : Int} (hx : V[l / 2]? = some x) (h0 : 0 ≤ x) (h1 : x ≤ 1) : litO V (l : Int) = bitV V l := by
  have := (List.getElem?_eq_some_iff.1 hx).1
  unfold litO
  rw [Int.toNat_natCast]
  refine if_pos ⟨by omega, by omega, ?_⟩
  rw [List.getD_eq_getElem?_getD, hx, Option.getD_some]
  exact ⟨h0, h1⟩
theorem specBit_at (V : List Int) (l : Nat) (hl : l ≤ 9223372036854775807) (v : Value) {B T : Nat} (w : World) (hv : rdIntS B T w [v] V) (hT : T ≤ w.heap.size) {x : Int} (hx : V[l / 2]? = some x) (h0 : 0 ≤ x) (h1 : x ≤ 1) {r : Int} (hr : bitV V l = r) :
    Calls Try.prog 27 #[v, .int .i64 (l : Int)] w fun e w' => e = .returned (.int .i64 r) ∧ Below w.heap.size w w' := by
  obtain ⟨vA, vc, rfl, vm, -⟩ := slice_of hv
  obtain ⟨u, rfl⟩ := Int.eq_ofNat_of_zero_le h0
  have hu : u < 2 := by omega
  obtain ⟨m, hm⟩ : ∃ m, l % 2 = m := ⟨_, rfl⟩
  have hF := (bitV_of hx hm).symm.trans hr
  obtain ⟨p, hp⟩ : ∃ p, l / 2 = p := ⟨_, rfl⟩
  rw [hp] at hx
  have hpV := (List.getElem?_eq_some_iff.1 hx).1
  obtain ⟨b, q, rfl, -, xc, -⟩ := at_Int hv hx
  have e1 := and_one (l : Int)
  rw [show (l : Int) % 2 = (m : Int) by omega] at e1
  have e2 := xor_bit ⟨u, hu⟩ ⟨m, by omega⟩
  dsimp only at e2
  rw [hF] at e2
  have e3 : (l : Int).tdiv 2 = (p : Int) := by rw [tdiv2, hp]
  have e4 : (l : Int) / 2 = (p : Int) := by omega
  clear hv hx hr hF h0 h1 hp hm
  go_enter Try.func27, Try.ntmps27
  go_wp2
  go_ret
  exact ⟨rfl, by (repeat' (first | assumption | exact Below.refl _ _ | refine bDrewN ?_ _ | refine Below.drew ?_ | refine bAlloc ?_ (Nat.le_refl _) _ | refine bSet ?_ (by first | exact Nat.le_refl _ | omega | (simp <;> omega)) _))⟩
theorem rd_lit1 {w : World} {g : Nat} {x : Int} (h : w.heap[g]? = some (.cells #[.int .i64 x] 3 (0, 0))) (hx : Fit x) : rdIntS g (g + 1) w [.slice (some ⟨g, 0, none⟩) 1 1] [x] := by
  refine ⟨_, _, rfl, by simp [maxLen], fun j hj => ⟨g, 0, rfl, Nat.le_refl _, Nat.lt_succ_self _, ?_⟩⟩
  match j, hj with
  | 0, _ => exact ⟨[.int .i64 x], rfl, fun i u hu => (by match i, hu with | 0, hu => (injection hu with hu; subst hu; exact box_cell h 0 _ rfl)), rfl, hx⟩
theorem implLitV_at (V : List Int) (l : Int) (hl : Fit l) (v : Value) {B T : Nat} (w : World) (hv : rdIntS B T w [v] V) (hT : T ≤ w.heap.size) {r : Int} (hr : litO V l = r) :
    Calls Try.prog 12 #[v, .int .i64 l] w fun e w' => e = .returned (.int .i64 r) ∧ Below w.heap.size w w' := by
  have HR := Lib.hid hr
  clear hr
  have HV := Lib.hid hv
  have hl' := hl
  unfold Fit at hl'
  obtain ⟨vA, vc, rfl, vm, -⟩ := slice_of hv
  obtain ⟨c, hc⟩ : ∃ c, [l].all (litB (V.length : Int)) = c := ⟨_, rfl⟩
  have HC := Lib.hid hc
  have HL := Lib.hid hl
  clear hc hv hl
  go_enter Try.func12, Try.ntmps12
  go_wp2_with fail
  obtain ⟨W0, hV⟩ : ∃ W0, W0 = w.alloc (.cells #[.int .i64 l] 3) := ⟨_, rfl⟩
  rw [← hV]
  have gN := eqbox1 hV
  have HG := Lib.hid (good_IntS.wider (rd_lit1 gN.1 HL.out) (Nat.zero_le _) (show w.heap.size + 1 ≤ W0.heap.size by rw [hV]; simp))
  have HB0 := Lib.hid gN.2
  clear hV gN
  refine (litsOk_at [l] _ _ _ HG.out (Nat.le_refl _) HC.out).mono ?_
  rintro e w1 ⟨rfl, hb⟩
  have HB := Lib.hid (bThen HB0.out hb)
  clear hb
  cases c with
  | false =>
    have HE : r = -1 := by
      rw [← HR.out]
      have hc := HC.out
      simp only [List.all_cons, List.all_nil, Bool.and_true] at hc
      by_cases h0 : l < 0
      · exact litO_neg h0
      · obtain ⟨k, rfl⟩ := Int.eq_ofNat_of_zero_le (show 0 ≤ l by omega)
        have := of_decide_eq_false hc
        rw [tdiv2] at this
        exact litO_out (by omega)
    subst HE
    go_wp2
    go_ret
    exact ⟨rfl, HB.out⟩
  | true =>
    have hc := HC.out
    simp only [List.all_cons, List.all_nil, Bool.and_true] at hc
    have hc := of_decide_eq_true hc
    obtain ⟨k, rfl⟩ := Int.eq_ofNat_of_zero_le hc.1
    have hk := hc.2
    rw [tdiv2] at hk
    obtain ⟨p, hp⟩ : ∃ p, k / 2 = p := ⟨_, rfl⟩
    have HP := Lib.hid hp
    have hpV : p < V.length := by omega
    obtain ⟨x, hx⟩ : ∃ x, V[p]? = some x := ⟨_, List.getElem?_eq_getElem hpV⟩
    have HX := Lib.hid (show V[k / 2]? = some x by rw [hp]; exact hx)
    obtain ⟨b, q, rfl, hbT, xc, xf⟩ := at_Int HV.out hx
    replace xc := keep HB.out xc
    clear hc hk hx
    go_wp2_with fail
    refine (nodeOf_at k _ (by omega)).mono ?_
    rintro e w2 ⟨rfl, hb⟩
    rw [hp]
    replace xc := keep hb xc
    replace HB := Lib.hid (bThen HB.out hb)
    clear hb hp
    have hpi : (p : Int) < (V.length : Int) := by omega
    go_wp2_with fail
    obtain ⟨y, hy⟩ : ∃ y, x / 2 ^ 0 % 2 = y := ⟨_, rfl⟩
    have HY := Lib.hid hy
    have hy2 : x % 2 = y := by rw [← hy]; simp
    refine (bitOf_at x 0 (by omega) _ HY.out).mono ?_
    rintro e w3 ⟨rfl, rfl⟩
    clear hy
    by_cases hxy : x = y
    · have h0 : 0 ≤ x ∧ x ≤ 1 := by omega
      have HF := Lib.hid ((litO_good HX.out h0.1 h0.2).symm.trans HR.out)
      subst hxy
      clear hy2 HY
      obtain ⟨u, rfl⟩ := Int.eq_ofNat_of_zero_le h0.1
      obtain ⟨m, hm⟩ : ∃ m, k % 2 = m := ⟨_, rfl⟩
      have hF := (bitV_of HX.out hm).symm.trans HF.out
      have HM := Lib.hid (show (k : Int) / 2 ^ 0 % 2 = (m : Int) by rw [show (k : Int) / 2 ^ 0 = k by simp]; omega)
      have e2 := xor_bit ⟨u, by omega⟩ ⟨m, by omega⟩
      dsimp only at e2
      rw [hF] at e2
      clear hF hm
      go_wp2_with fail
      refine (bitOf_at k 0 (by omega) _ HM.out).mono ?_
      rintro e w3 ⟨rfl, rfl⟩
      go_wp2
      go_ret
      exact ⟨rfl, HB.out⟩
    · have HF : r = -1 := (HR.out).symm.trans (litO_bad HX.out (by omega))
      subst HF
      go_wp2
      go_ret
      exact ⟨rfl, HB.out⟩
end Go.Proofs.Ytiejilmgchmppaa
/- Nr3: StateOk, both sides. -/
namespace Go.Proofs.Ytiejilmgchmppaa
open Go.RowKit
set_option linter.unusedVariables false
set_option linter.unusedSimpArgs false

theorem stK_zero (n : DNet) (st : List Int) : stK n st 0 = true := by simp [stK]
theorem stK_miss {n : DNet} {st : List Int} {k : Nat} {s : DSeq} {x : Int} (hs : n.2.1[k]? = some s) (hx : st[k]? = some x) (hq : valB s.1 x = false) : stateB n st = false := by
  have hk := (List.getElem?_eq_some_iff.1 hs).1
  have : stK n st n.2.1.length = false := by
    unfold stK
    rw [List.all_eq_false]
    exact ⟨k, List.mem_range.2 hk, by simp [hs, hx, hq]⟩
  unfold stateB
  rw [this]
  simp
theorem stK_yes {n : DNet} {st : List Int} {k : Nat} {s : DSeq} {x : Int} (hs : n.2.1[k]? = some s) (hx : st[k]? = some x) (hq : valB s.1 x = true) (h0 : stK n st k = true) : stK n st (k + 1) = true := by
  rw [stK_step (v := x) hs (by rw [List.getD_eq_getElem?_getD, hx]; rfl), h0, hq]; rfl
theorem state_no {n : DNet} {st : List Int} (h : netB n = false) : stateB n st = false := by unfold stateB; rw [h]; rfl
theorem state_len {n : DNet} {st : List Int} (h : ¬ st.length = n.2.1.length) : stateB n st = false := by unfold stateB; rw [decide_eq_false h]; simp
theorem state_end {n : DNet} {st : List Int} (h : netB n = true) (h1 : st.length = n.2.1.length) (h2 : stK n st n.2.1.length = true) : stateB n st = true := by unfold stateB; rw [h, decide_eq_true h1, h2]; rfl
set_option maxRecDepth 100000 in
set_option maxHeartbeats 6400000 in
theorem specState_at (n : DNet) (st : List Int) (us : List Value) (v : Value) (w : World) (h : rdNet 0 w.heap.size w us n) (hv : rdIntS 0 w.heap.size w [v] st) {r : Bool} (hr : stateB n st = r) :
    Calls Try.prog 26 #[.agg us.toArray, v] w fun e w' => e = .returned (.bool r) ∧ Below w.heap.size w w' := by
  have HD := Lib.hid h
  have HV := Lib.hid hv
  obtain ⟨f, hf⟩ : ∃ f, netB n = f := ⟨_, rfl⟩
  have HF := Lib.hid hf
  have HR := Lib.hid hr
  obtain ⟨vA, vc, rfl, vm, -⟩ := slice_of hv
  clear hf hr hv
  obtain ⟨mu0, mu1, mu2, mu3, rfl, mh0, mh1, mh2, mh3⟩ := h
  obtain ⟨me0, -⟩ := mh0
  injection me0 with me0
  subst me0
  obtain ⟨mA1, mc1, me1, mm1, -⟩ := slice_of mh1
  subst me1
  have mR1 := Lib.hid mh1
  clear mh1
  obtain ⟨mA2, mc2, me2, mm2, -⟩ := slice_of mh2
  subst me2
  have mR2 := Lib.hid mh2
  clear mh2
  obtain ⟨mA3, mc3, me3, mm3, -⟩ := slice_of mh3
  subst me3
  have mR3 := Lib.hid mh3
  clear mh3
  go_enter Try.func26, Try.ntmps26
  go_wp2_with fail
  obtain ⟨W0, hV⟩ : ∃ W0, W0 = (w.alloc (.cells #[.int .i64 n.1, .slice mA1 (n.2.1).length mc1, .slice mA2 (n.2.2.1).length mc2, .slice mA3 (n.2.2.2).length mc3] 28)) := ⟨_, rfl⟩
  rw [← hV]
  have gN := eqbox1 hV
  have d0 : W0.cell? ⟨w.heap.size, 0, none⟩ = some (.int .i64 n.1) := box_cell gN.1 0 _ rfl
  have d1 : W0.cell? ⟨w.heap.size, 1, none⟩ = some (.slice mA1 (n.2.1).length mc1) := box_cell gN.1 1 _ rfl
  have d2 : W0.cell? ⟨w.heap.size, 2, none⟩ = some (.slice mA2 (n.2.2.1).length mc2) := box_cell gN.1 2 _ rfl
  have d3 : W0.cell? ⟨w.heap.size, 3, none⟩ = some (.slice mA3 (n.2.2.2).length mc3) := box_cell gN.1 3 _ rfl
  have sW0 : W0.heap.size = w.heap.size + 1 := by rw [hV]; simp
  have HW0 := Lib.hid gN.2
  clear hV gN
  refine (specNetOk_at n _ _ (rdUp good_Net HD.out HW0.out) HF.out).mono ?_
  rintro e w1 ⟨rfl, hb⟩
  replace d0 := keep hb d0
  replace d1 := keep hb d1
  replace d2 := keep hb d2
  replace d3 := keep hb d3
  have HB := Lib.hid (bThen HW0.out hb)
  clear hb
  cases f with
  | false =>
    have HE := Lib.hid ((state_no HF.out).symm.trans HR.out)
    go_wp2
    go_ret
    exact ⟨ret_bool HE.out, HB.out⟩
  | true =>
    have hs12 := (netP_of HF.out).sz.s12
    by_cases hl : st.length = n.2.1.length
    case neg =>
      have HE := Lib.hid ((state_len hl).symm.trans HR.out)
      have hl2 : ((st.length : Int) != (n.2.1.length : Int)) = true := by simp; omega
      go_wp2
      go_ret
      exact ⟨ret_bool HE.out, HB.out⟩
    have hl2 : ((st.length : Int) != (n.2.1.length : Int)) = false := by simp; omega
    have HL := Lib.hid hl
    go_wp2
    go_loopw [5] (fun x wr => ∃ k : Nat, k ≤ n.2.1.length ∧ x = .int .i64 (k : Int) ∧ stK n st k = true ∧ Below w1.heap.size w1 wr) (fun x _ => n.2.1.length - (intOf x).toNat)
    case atStart => exact ⟨0, Nat.zero_le _, rfl, stK_zero _ _, by (repeat' (first | assumption | exact Below.refl _ _ | refine bDrewN ?_ _ | refine Below.drew ?_ | refine bAlloc ?_ (Nat.le_refl _) _ | refine bSet ?_ (by first | exact Nat.le_refl _ | omega | (simp <;> omega)) _))⟩
    case round =>
      obtain ⟨k, hk, rfl, hall, hb⟩ := hrel
      obtain ⟨w2, rfl⟩ : ∃ w2, w2 = wr := ⟨_, rfl⟩
      have HB2 := Lib.hid (bThen HB.out hb)
      have HA := Lib.hid hall
      replace d0 := keep hb d0
      replace d1 := keep hb d1
      replace d2 := keep hb d2
      replace d3 := keep hb d3
      have HB12 := Lib.hid hb
      clear hb hall
      have tl : (st.length : Int) = (n.2.1.length : Int) := by have := HL.out; omega
      by_cases hlt : k < n.2.1.length
      · obtain ⟨s, hs⟩ : ∃ s, n.2.1[k]? = some s := ⟨_, List.getElem?_eq_getElem hlt⟩
        obtain ⟨x, hx⟩ : ∃ x, st[k]? = some x := ⟨_, List.getElem?_eq_getElem (by have := HL.out; omega)⟩
        have HS := Lib.hid hs
        have HX := Lib.hid hx
        obtain ⟨sb, sq, sA, sc, rfl, sb1, x0, -, x1, -, x2, sR⟩ := at_Seq (good_SeqS.below mR1.out (Nat.le_refl _) HB2.out) hs
        obtain ⟨vb, vq, rfl, vb1, xc, -⟩ := at_Int (good_IntS.below HV.out (Nat.le_refl _) HB2.out) hx
        have sb2 := Nat.lt_of_lt_of_le sb1 HB2.out.size
        have vb2 := Nat.lt_of_lt_of_le vb1 HB2.out.size
        have tk : (k : Int) < (n.2.1.length : Int) := by omega
        have tk2 : (k : Int) < (st.length : Int) := by omega
        obtain ⟨q, hq⟩ : ∃ q, valB s.1 x = q := ⟨_, rfl⟩
        have HQ := Lib.hid hq
        clear hs hx sR sb1 vb1 x1 x2
        go_wp2_with fail
        have hS0 : (fun w' => Below w2.heap.size w2 w' ∧ w'.cell? ⟨w.heap.size, 0, none⟩ = some (.int .i64 n.1) ∧ w'.cell? ⟨w.heap.size, 1, none⟩ = some (.slice (some ⟨sb, sq, none⟩) (n.2.1).length mc1) ∧ w'.cell? ⟨w.heap.size, 2, none⟩ = some (.slice mA2 (n.2.2.1).length mc2) ∧ w'.cell? ⟨w.heap.size, 3, none⟩ = some (.slice mA3 (n.2.2.2).length mc3) ∧ w'.cell? ⟨sb, sq + k * 3, none⟩ = some (.int .i64 s.1) ∧ w'.cell? ⟨vb, vq + k, none⟩ = some (.int .i64 x)) w2 := ⟨Below.refl _ _, d0, d1, d2, d3, x0, xc⟩
        have hS : ∀ {w0 w' : World}, (fun w' => Below w2.heap.size w2 w' ∧ w'.cell? ⟨w.heap.size, 0, none⟩ = some (.int .i64 n.1) ∧ w'.cell? ⟨w.heap.size, 1, none⟩ = some (.slice (some ⟨sb, sq, none⟩) (n.2.1).length mc1) ∧ w'.cell? ⟨w.heap.size, 2, none⟩ = some (.slice mA2 (n.2.2.1).length mc2) ∧ w'.cell? ⟨w.heap.size, 3, none⟩ = some (.slice mA3 (n.2.2.2).length mc3) ∧ w'.cell? ⟨sb, sq + k * 3, none⟩ = some (.int .i64 s.1) ∧ w'.cell? ⟨vb, vq + k, none⟩ = some (.int .i64 x)) w0 → Below w0.heap.size w0 w' → (fun w' => Below w2.heap.size w2 w' ∧ w'.cell? ⟨w.heap.size, 0, none⟩ = some (.int .i64 n.1) ∧ w'.cell? ⟨w.heap.size, 1, none⟩ = some (.slice (some ⟨sb, sq, none⟩) (n.2.1).length mc1) ∧ w'.cell? ⟨w.heap.size, 2, none⟩ = some (.slice mA2 (n.2.2.1).length mc2) ∧ w'.cell? ⟨w.heap.size, 3, none⟩ = some (.slice mA3 (n.2.2.2).length mc3) ∧ w'.cell? ⟨sb, sq + k * 3, none⟩ = some (.int .i64 s.1) ∧ w'.cell? ⟨vb, vq + k, none⟩ = some (.int .i64 x)) w' := fun h hb => ⟨bThen h.1 hb, keep hb h.2.1, keep hb h.2.2.1, keep hb h.2.2.2.1, keep hb h.2.2.2.2.1, keep hb h.2.2.2.2.2.1, keep hb h.2.2.2.2.2.2⟩
        dsimp only at hS0 hS
        refine wp_region_noPanic ?_
        refine wp_region_kept 10 12 (fun w' => Below w2.heap.size w2 w' ∧ w'.cell? ⟨w.heap.size, 0, none⟩ = some (.int .i64 n.1) ∧ w'.cell? ⟨w.heap.size, 1, none⟩ = some (.slice (some ⟨sb, sq, none⟩) (n.2.1).length mc1) ∧ w'.cell? ⟨w.heap.size, 2, none⟩ = some (.slice mA2 (n.2.2.1).length mc2) ∧ w'.cell? ⟨w.heap.size, 3, none⟩ = some (.slice mA3 (n.2.2.2).length mc3) ∧ w'.cell? ⟨sb, sq + k * 3, none⟩ = some (.int .i64 s.1) ∧ w'.cell? ⟨vb, vq + k, none⟩ = some (.int .i64 x)) (by kernel_rfl) rfl (hS hS0 (Below.drew (Below.refl _ _))) (fun hK0 => ?_)
        refine Kept.take (v := ?va0) 0 (by kernel_rfl) rfl (by kernel_rfl) (fun _ _ _ h => h) (Or.inl ⟨by rfl, ?hya0⟩) hK0 ?resta0
        case hya0 =>
          intro w0 hSw
          (try dsimp only at hSw)
          go_simp
          all_goals (with_reducible rfl)
        (try simp only [Act.put, List.setIfInBounds_toArray, List.set_cons_zero, List.set_cons_succ])
        refine Kept.take (v := ?va1) 1 (by kernel_rfl) rfl (by kernel_rfl) (fun _ _ _ h => h) (Or.inl ⟨by rfl, ?hya1⟩) hK0 ?resta1
        case hya1 =>
          intro w0 hSw
          (try dsimp only at hSw)
          go_simp
          all_goals (with_reducible rfl)
        (try simp only [Act.put, List.setIfInBounds_toArray, List.set_cons_zero, List.set_cons_succ])
        refine Kept.take (v := ?va2) 2 (by kernel_rfl) rfl (by kernel_rfl) (fun _ _ _ h => h) (Or.inl ⟨by rfl, ?hya2⟩) hK0 ?resta2
        case hya2 =>
          intro w0 hSw
          (try dsimp only at hSw)
          go_simp
          all_goals (with_reducible rfl)
        (try simp only [Act.put, List.setIfInBounds_toArray, List.set_cons_zero, List.set_cons_succ])
        refine Kept.take (v := ?va3) 3 (by kernel_rfl) rfl (by kernel_rfl) (fun _ _ _ h => h) (Or.inl ⟨by rfl, ?hya3⟩) hK0 ?resta3
        case hya3 =>
          intro w0 hSw
          (try dsimp only at hSw)
          go_simp
          all_goals (with_reducible rfl)
        (try simp only [Act.put, List.setIfInBounds_toArray, List.set_cons_zero, List.set_cons_succ])
        refine Kept.take (v := ?va4) 4 (by kernel_rfl) rfl (by kernel_rfl) (fun _ _ _ h => h) (Or.inl ⟨by rfl, ?hya4⟩) hK0 ?resta4
        case hya4 =>
          intro w0 hSw
          (try dsimp only at hSw)
          go_simp
          all_goals (with_reducible rfl)
        (try simp only [Act.put, List.setIfInBounds_toArray, List.set_cons_zero, List.set_cons_succ])
        refine Kept.take (v := ?va5) 5 (by kernel_rfl) rfl (by kernel_rfl) (fun _ _ _ h => h) (Or.inl ⟨by rfl, ?hya5⟩) hK0 ?resta5
        case hya5 =>
          intro w0 hSw
          (try dsimp only at hSw)
          go_simp
          all_goals (with_reducible rfl)
        (try simp only [Act.put, List.setIfInBounds_toArray, List.set_cons_zero, List.set_cons_succ])
        refine Kept.take (v := ?va6) 6 (by kernel_rfl) rfl (by kernel_rfl) (fun _ _ _ h => h) (Or.inl ⟨by rfl, ?hya6⟩) hK0 ?resta6
        case hya6 =>
          intro w0 hSw
          (try dsimp only at hSw)
          go_simp
          all_goals (with_reducible rfl)
        (try simp only [Act.put, List.setIfInBounds_toArray, List.set_cons_zero, List.set_cons_succ])
        refine Kept.take (v := ?va7) 7 (by kernel_rfl) rfl (by kernel_rfl) (fun _ _ _ h => h) (Or.inl ⟨by rfl, ?hya7⟩) hK0 ?resta7
        case hya7 =>
          intro w0 hSw
          (try dsimp only at hSw)
          go_simp
          all_goals (with_reducible rfl)
        (try simp only [Act.put, List.setIfInBounds_toArray, List.set_cons_zero, List.set_cons_succ])
        refine Kept.take (v := ?va8) 8 (by kernel_rfl) rfl (by kernel_rfl) (fun _ _ _ h => h) (Or.inl ⟨by rfl, ?hya8⟩) hK0 ?resta8
        case hya8 =>
          intro w0 hSw
          (try dsimp only at hSw)
          go_simp
          all_goals (with_reducible rfl)
        (try simp only [Act.put, List.setIfInBounds_toArray, List.set_cons_zero, List.set_cons_succ])
        refine Kept.take (v := ?va9) 9 (by kernel_rfl) rfl (by kernel_rfl) (fun _ _ _ h => h) (Or.inl ⟨by rfl, ?hya9⟩) hK0 ?resta9
        case hya9 =>
          intro w0 hSw
          (try dsimp only at hSw)
          go_simp
          all_goals (with_reducible rfl)
        (try simp only [Act.put, List.setIfInBounds_toArray, List.set_cons_zero, List.set_cons_succ])
        refine Kept.tail (by rfl) (by kernel_rfl) ?_
        simp only [List.drop_succ_cons, List.drop_zero]
        obtain ⟨z, hz⟩ : ∃ z, seqI s.1 x 0 = z := ⟨_, rfl⟩
        have HZ := Lib.hid hz
        have hzq : decide (z < 0) = !q := by rw [← hz, seqI_neg, hq]
        clear hz hq
        go_wp2_with fail
        refine (specSeq_at s.1 x 0 _ HZ.out).mono ?_
        rintro e w3 ⟨rfl, hb⟩
        have HB4 := Lib.hid (bThen HB2.out (bThen hK0.1 hb))
        have HB5 := Lib.hid (bThen HB12.out (bThen hK0.1 hb))
        clear hb hK0 hS0 hS x0 xc d0 d1 d2 d3
        go_wp2
        refine NoPanic.normal ?_
        clear hzq
        cases q with
        | false =>
          have HE := Lib.hid ((stK_miss HS.out HX.out HQ.out).symm.trans HR.out)
          go_wp2
          go_ret
          exact ⟨ret_bool HE.out, HB4.out⟩
        | true =>
          have HY := Lib.hid (stK_yes HS.out HX.out HQ.out HA.out)
          go_wp2
          go_roundw
          case rel => exact ⟨k + 1, by omega, by go_num, HY.out, HB5.out⟩
          case measure => simp [intOf]; omega
      · obtain rfl : k = n.2.1.length := by omega
        have HE := Lib.hid ((state_end HF.out HL.out HA.out).symm.trans HR.out)
        go_wp2
        go_ret
        exact ⟨ret_bool HE.out, HB2.out⟩
end Go.Proofs.Ytiejilmgchmppaa
/- Nr4: NodeValues: the specification. -/
namespace Go.Proofs.Ytiejilmgchmppaa
open Go.RowKit
set_option linter.unusedVariables false
set_option linter.unusedSimpArgs false

set_option maxRecDepth 100000 in
set_option maxHeartbeats 12800000 in
theorem specVals_at (n : DNet) (st : List Int) (xv : Int) (us : List Value) (v : Value) (w : World) (h : rdNet 0 w.heap.size w us n) (hv : rdIntS 0 w.heap.size w [v] st) {L : List Int} (hL : valO n st xv = L) :
    Calls Try.prog 8 #[.agg us.toArray, v, .int .i64 xv] w fun e w' => ∃ v', e = .returned v' ∧ OwnsI w' w.heap.size v' L ∧ Below w.heap.size w w' := by
  obtain ⟨i0, hi, hz0, hz1, hz2⟩ := info_parts infoI
  have HD := Lib.hid h
  have HV := Lib.hid hv
  obtain ⟨f, hf⟩ : ∃ f, stateB n st = f := ⟨_, rfl⟩
  have HF := Lib.hid hf
  have HX := Lib.hid hL
  obtain ⟨vA, vc, rfl, vm, -⟩ := slice_of hv
  clear hf hL hv
  obtain ⟨mu0, mu1, mu2, mu3, rfl, mh0, mh1, mh2, mh3⟩ := h
  obtain ⟨me0, -⟩ := mh0
  injection me0 with me0
  subst me0
  obtain ⟨mA1, mc1, me1, mm1, -⟩ := slice_of mh1
  subst me1
  have mR1 := Lib.hid mh1
  clear mh1
  obtain ⟨mA2, mc2, me2, mm2, -⟩ := slice_of mh2
  subst me2
  have mR2 := Lib.hid mh2
  clear mh2
  obtain ⟨mA3, mc3, me3, mm3, -⟩ := slice_of mh3
  subst me3
  have mR3 := Lib.hid mh3
  clear mh3
  go_enter Try.func8, Try.ntmps8
  go_wp2_with fail
  obtain ⟨W0, hV⟩ : ∃ W0, W0 = (w.alloc (.cells #[.int .i64 n.1, .slice mA1 (n.2.1).length mc1, .slice mA2 (n.2.2.1).length mc2, .slice mA3 (n.2.2.2).length mc3] 28)) := ⟨_, rfl⟩
  rw [← hV]
  have gN := eqbox1 hV
  have d0 : W0.cell? ⟨w.heap.size, 0, none⟩ = some (.int .i64 n.1) := box_cell gN.1 0 _ rfl
  have d1 : W0.cell? ⟨w.heap.size, 1, none⟩ = some (.slice mA1 (n.2.1).length mc1) := box_cell gN.1 1 _ rfl
  have d2 : W0.cell? ⟨w.heap.size, 2, none⟩ = some (.slice mA2 (n.2.2.1).length mc2) := box_cell gN.1 2 _ rfl
  have d3 : W0.cell? ⟨w.heap.size, 3, none⟩ = some (.slice mA3 (n.2.2.2).length mc3) := box_cell gN.1 3 _ rfl
  have sW0 : W0.heap.size = w.heap.size + 1 := by rw [hV]; simp
  have HW0 := Lib.hid gN.2
  clear hV gN
  have HE0 := Lib.hid d0
  have HE1 := Lib.hid d1
  have HE2 := Lib.hid d2
  have HE3 := Lib.hid d3
  refine (specState_at n st _ _ _ (rdUp good_Net HD.out HW0.out) (rdUp good_IntS HV.out HW0.out) HF.out).mono ?_
  rintro e w0 ⟨rfl, hb⟩
  replace d0 := keep hb d0
  replace d1 := keep hb d1
  replace d2 := keep hb d2
  replace d3 := keep hb d3
  have HB := Lib.hid (bThen HW0.out hb)
  have HB00 := Lib.hid hb
  clear hb
  cases f with
  | false =>
    have HE := Lib.hid ((vals_no HF.out).symm.trans HX.out)
    go_wp2
    go_ret
    refine ⟨_, rfl, ?_, bAlloc HB.out (Nat.le_refl _) _⟩
    rw [← HE.out]
    exact own_newI _ _ HB.out.size
  | true =>
    have HE := Lib.hid ((vals_yes HF.out).symm.trans HX.out)
    have hT := stateP_of HF.out
    have hP := netP_of hT.net
    have HP := Lib.hid hP
    have HSP := Lib.hid hP.sz
    have a300 := hP.sz.a300
    have s12 := hP.sz.s12
    have hsl := hT.len
    have HST := Lib.hid hT
    obtain ⟨N, hN⟩ : ∃ N : Nat, netN n = N := ⟨_, rfl⟩
    have hN3 : N ≤ 333 := by rw [← hN]; exact hP.sz.net_le.1
    have HNC := Lib.hid (show ncI n = (N : Int) by rw [hP.sz.nc, hN])
    have HN := Lib.hid hN
    obtain ⟨I, hI⟩ : ∃ I : Nat, n.1.toNat = I := ⟨_, rfl⟩
    have hi0 : n.1 = (I : Int) := by rw [← hI]; exact hP.sz.i0
    have i20 : I ≤ 20 := by rw [← hI]; exact hP.sz.i20
    have hfN1 : 1 + I + n.2.1.length + n.2.2.1.length = N := by rw [← hN, ← hI]; unfold netN firN; omega
    have HI := Lib.hid hI
    have HI0 := Lib.hid hi0
    have HFN1 := Lib.hid hfN1
    clear hP hN hT hI hi0 hfN1
    go_wp2_with fail
    refine (specNc_at n _ _ (rdUp good_Net HD.out HB.out) (Nat.le_refl _) HNC.out).mono ?_
    rintro e w1 ⟨rfl, hb⟩
    replace d0 := keep hb d0
    replace d1 := keep hb d1
    replace d2 := keep hb d2
    replace d3 := keep hb d3
    have HB01 := Lib.hid (bThen HB00.out hb)
    clear hb HB00 HB
    go_wp2_with (at_make; refine wpList_make_full _ rfl _ _ 26 rfl w1.heap.size 3 i0 (.int .i64 0) 1 Try.underlying26 hi hz0 hz1 .i64 .i64 (N : Int) (N : Int) N rfl rfl rfl rfl (by rw [hz2]; omega) (by unfold maxLen; omega) (Nat.le_refl _) ?_; intro w2 hown1 hgrow1; replace d0 := grownC hgrow1 d0 (by intro e; cases e); replace d1 := grownC hgrow1 d1 (by intro e; cases e); replace d2 := grownC hgrow1 d2 (by intro e; cases e); replace d3 := grownC hgrow1 d3 (by intro e; cases e))
    have hO := own_makeI hown1
    have hb : Below w1.heap.size w1 w2 := (Below.refl _ _).grown hgrow1 (Nat.le_refl _) (by intro g hg; cases hg)
    obtain ⟨G, hG⟩ : ∃ G, w1.heap.size = G := ⟨_, rfl⟩
    have hGW : W0.heap.size ≤ G := by rw [← hG]; exact HB01.out.size
    have HO := Lib.hid (show OwnsI w2 W0.heap.size (.slice (some ⟨G, 0, none⟩) N N) (List.replicate N 0) by rw [← hG]; exact hO.lower HB01.out.size)
    have HB02 := Lib.hid (bThen HB01.out hb)
    rw [hG]
    clear hown1 hgrow1 hO hb hG
    clear d0 d1 d2 d3
    go_loopw [8] (fun z wr => ∃ k : Nat, k ≤ I ∧ z = .int .i64 (k : Int) ∧ OwnsI wr W0.heap.size (.slice (some ⟨G, 0, none⟩) N N) (insK n xv k) ∧ Below W0.heap.size W0 wr) (fun z _ => I - (intOf z).toNat)
    case atStart => exact ⟨0, Nat.zero_le _, rfl, by unfold insK; rw [HN.out]; exact HO.out, HB02.out⟩
    case round =>
      obtain ⟨k, hk, rfl, hown, hb⟩ := hrel
      obtain ⟨w3, rfl⟩ : ∃ w3, w3 = wr := ⟨_, rfl⟩
      clear HO HB02
      have HO := Lib.hid hown
      have HB0 := Lib.hid hb
      have HB := Lib.hid (bThen HW0.out hb)
      have c0 := keep hb HE0.out
      have c1 := keep hb HE1.out
      have c2 := keep hb HE2.out
      have c3 := keep hb HE3.out
      clear hown hb
      rw [HI0.out] at c0
      by_cases hlt : k < I
      · obtain ⟨f, hf⟩ : ∃ f, 1 + k = f := ⟨_, rfl⟩
        have hfN : f < N := by have := HFN1.out; omega
        have tl : (f : Int) < (N : Int) := by omega
        have tk : (k : Int) < (I : Int) := by omega
        have ef : (1 : Int) + (k : Int) = (f : Int) := by omega
        have ew : IntKind.i64.wrap ((1 : Int) + (k : Int)) = (f : Int) := by rw [wrap64_int _ (by omega) (by omega)]; omega
        obtain ⟨y, hy⟩ : ∃ y, xv / 2 ^ k % 2 = y := ⟨_, rfl⟩
        have e1 := shr_var xv (show k ≤ 64 by omega)
        have e2 := and_one (xv / 2 ^ k)
        rw [hy] at e2
        have HLEN := Lib.hid ((insK_len n xv k).trans HN.out)
        have HNW := Lib.hid (show (insK n xv k).set f y = insK n xv (k + 1) by rw [← hf, ← hy]; rfl)
        have HB4 := Lib.hid (Below.refl w3.heap.size w3)
        clear hf hy
        have HQ3 := Lib.hid (HO.out.below HB4.out)
        have gf := ownI_cell HQ3.out HLEN.out hfN
        have t0 := gf.1
        have t1 := gf.2
        have gB := (HQ3.out.lt G rfl).1
        clear gf
        clear c1 c2 c3
        go_wp2
        go_roundw
        case rel =>
          have h3 := ownI_set HQ3.out HLEN.out hfN (y)
          rw [HNW.out] at h3
          exact ⟨k + 1, by omega, by go_num, h3, bSet (p := ⟨G, f, none⟩) (bThen HB0.out HB4.out) hGW _⟩
        case measure => simp [intOf]; omega
      · obtain rfl : I = k := by omega
        have HOI := Lib.hid (show OwnsI w3 W0.heap.size (.slice (some ⟨G, 0, none⟩) N N) (regK n st xv 0) by unfold regK; rw [HI.out]; exact HO.out)
        have HBI := Lib.hid HB0.out
        clear hlt HB0 HO HB c1 c2 c3
        go_wp2
        clear c0
        have HO := Lib.hid HOI.out
        have HB02 := Lib.hid HBI.out
        clear HOI HBI
        go_loopw [9] (fun z wr => ∃ k : Nat, k ≤ n.2.1.length ∧ z = .int .i64 (k : Int) ∧ OwnsI wr W0.heap.size (.slice (some ⟨G, 0, none⟩) N N) (regK n st xv k) ∧ Below W0.heap.size W0 wr) (fun z _ => n.2.1.length - (intOf z).toNat)
        case atStart => exact ⟨0, Nat.zero_le _, rfl, HO.out, HB02.out⟩
        case round =>
          obtain ⟨k, hk, rfl, hown, hb⟩ := hrel
          obtain ⟨w3, rfl⟩ : ∃ w3, w3 = wr := ⟨_, rfl⟩
          clear HO HB02
          have HO := Lib.hid hown
          have HB0 := Lib.hid hb
          have HB := Lib.hid (bThen HW0.out hb)
          have c0 := keep hb HE0.out
          have c1 := keep hb HE1.out
          have c2 := keep hb HE2.out
          have c3 := keep hb HE3.out
          clear hown hb
          have tl0 : (st.length : Int) = (n.2.1.length : Int) := by have := HST.out.len; omega
          by_cases hlt : k < n.2.1.length
          · rw [HI0.out] at c0
            obtain ⟨x, hx⟩ : ∃ x, st[k]? = some x := ⟨_, List.getElem?_eq_getElem (by have := HST.out.len; omega)⟩
            obtain ⟨vb, vq, rfl, vb1, xc, -⟩ := at_Int (good_IntS.below HV.out (Nat.le_refl _) HB.out) hx
            have vb2 := Nat.lt_of_lt_of_le vb1 HB.out.size
            obtain ⟨f, hf⟩ : ∃ f, 1 + I + k = f := ⟨_, rfl⟩
            have hfN : f < N := by have := HFN1.out; omega
            have tl : (f : Int) < (N : Int) := by omega
            have tk : (k : Int) < (n.2.1.length : Int) := by omega
            have ef : (1 : Int) + (I : Int) + (k : Int) = (f : Int) := by omega
            have ew : IntKind.i64.wrap ((1 : Int) + (I : Int) + (k : Int)) = (f : Int) := by rw [wrap64_int _ (by omega) (by omega)]; omega
            have ew1 : IntKind.i64.wrap ((1 : Int) + (I : Int)) = (1 : Int) + (I : Int) := wrap64_int _ (by omega) (by omega)
            obtain ⟨y, hy⟩ : ∃ y, x % 2 = y := ⟨_, rfl⟩
            have e2 := and_one x
            rw [hy] at e2
            have HLEN := Lib.hid ((regK_len n st xv k).trans HN.out)
            have HNW := Lib.hid (show (regK n st xv k).set f y = regK n st xv (k + 1) by rw [regK_step hx, HI.out, hf, hy])
            clear hf hy hx vb1
            go_wp2_with fail
            have hS0 : (fun w' => Below w3.heap.size w3 w' ∧ w'.cell? ⟨w.heap.size, 0, none⟩ = some (.int .i64 (I : Int)) ∧ w'.cell? ⟨w.heap.size, 1, none⟩ = some (.slice mA1 (n.2.1).length mc1) ∧ w'.cell? ⟨w.heap.size, 2, none⟩ = some (.slice mA2 (n.2.2.1).length mc2) ∧ w'.cell? ⟨w.heap.size, 3, none⟩ = some (.slice mA3 (n.2.2.2).length mc3) ∧ w'.cell? ⟨vb, vq + k, none⟩ = some (.int .i64 x)) w3 := ⟨Below.refl _ _, c0, c1, c2, c3, xc⟩
            have hS : ∀ {w0 w' : World}, (fun w' => Below w3.heap.size w3 w' ∧ w'.cell? ⟨w.heap.size, 0, none⟩ = some (.int .i64 (I : Int)) ∧ w'.cell? ⟨w.heap.size, 1, none⟩ = some (.slice mA1 (n.2.1).length mc1) ∧ w'.cell? ⟨w.heap.size, 2, none⟩ = some (.slice mA2 (n.2.2.1).length mc2) ∧ w'.cell? ⟨w.heap.size, 3, none⟩ = some (.slice mA3 (n.2.2.2).length mc3) ∧ w'.cell? ⟨vb, vq + k, none⟩ = some (.int .i64 x)) w0 → Below w0.heap.size w0 w' → (fun w' => Below w3.heap.size w3 w' ∧ w'.cell? ⟨w.heap.size, 0, none⟩ = some (.int .i64 (I : Int)) ∧ w'.cell? ⟨w.heap.size, 1, none⟩ = some (.slice mA1 (n.2.1).length mc1) ∧ w'.cell? ⟨w.heap.size, 2, none⟩ = some (.slice mA2 (n.2.2.1).length mc2) ∧ w'.cell? ⟨w.heap.size, 3, none⟩ = some (.slice mA3 (n.2.2.2).length mc3) ∧ w'.cell? ⟨vb, vq + k, none⟩ = some (.int .i64 x)) w' := fun h hb => ⟨bThen h.1 hb, keep hb h.2.1, keep hb h.2.2.1, keep hb h.2.2.2.1, keep hb h.2.2.2.2.1, keep hb h.2.2.2.2.2⟩
            dsimp only at hS0 hS
            refine wp_region_noPanic ?_
            refine wp_region_kept 11 13 (fun w' => Below w3.heap.size w3 w' ∧ w'.cell? ⟨w.heap.size, 0, none⟩ = some (.int .i64 (I : Int)) ∧ w'.cell? ⟨w.heap.size, 1, none⟩ = some (.slice mA1 (n.2.1).length mc1) ∧ w'.cell? ⟨w.heap.size, 2, none⟩ = some (.slice mA2 (n.2.2.1).length mc2) ∧ w'.cell? ⟨w.heap.size, 3, none⟩ = some (.slice mA3 (n.2.2.2).length mc3) ∧ w'.cell? ⟨vb, vq + k, none⟩ = some (.int .i64 x)) (by kernel_rfl) rfl (hS hS0 (Below.drew (Below.refl _ _))) (fun hK0 => ?_)
            refine Kept.take (v := ?vb0) 0 (by kernel_rfl) rfl (by kernel_rfl) (fun _ _ _ h => h) (Or.inl ⟨by rfl, ?hyb0⟩) hK0 ?restb0
            case hyb0 =>
              intro w0 hSw
              (try dsimp only at hSw)
              go_simp
              all_goals (with_reducible rfl)
            (try simp only [Act.put, List.setIfInBounds_toArray, List.set_cons_zero, List.set_cons_succ])
            refine Kept.take (v := ?vb1) 1 (by kernel_rfl) rfl (by kernel_rfl) (fun _ _ _ h => h) (Or.inl ⟨by rfl, ?hyb1⟩) hK0 ?restb1
            case hyb1 =>
              intro w0 hSw
              (try dsimp only at hSw)
              go_simp
              all_goals (with_reducible rfl)
            (try simp only [Act.put, List.setIfInBounds_toArray, List.set_cons_zero, List.set_cons_succ])
            refine Kept.take (v := ?vb2) 2 (by kernel_rfl) rfl (by kernel_rfl) (fun _ _ _ h => h) (Or.inl ⟨by rfl, ?hyb2⟩) hK0 ?restb2
            case hyb2 =>
              intro w0 hSw
              (try dsimp only at hSw)
              go_simp
              all_goals (with_reducible rfl)
            (try simp only [Act.put, List.setIfInBounds_toArray, List.set_cons_zero, List.set_cons_succ])
            refine Kept.take (v := ?vb3) 3 (by kernel_rfl) rfl (by kernel_rfl) (fun _ _ _ h => h) (Or.inl ⟨by rfl, ?hyb3⟩) hK0 ?restb3
            case hyb3 =>
              intro w0 hSw
              (try dsimp only at hSw)
              go_simp
              all_goals (with_reducible rfl)
            (try simp only [Act.put, List.setIfInBounds_toArray, List.set_cons_zero, List.set_cons_succ])
            refine Kept.take (v := ?vb4) 4 (by kernel_rfl) rfl (by kernel_rfl) (fun _ _ _ h => h) (Or.inl ⟨by rfl, ?hyb4⟩) hK0 ?restb4
            case hyb4 =>
              intro w0 hSw
              (try dsimp only at hSw)
              go_simp
              all_goals (with_reducible rfl)
            (try simp only [Act.put, List.setIfInBounds_toArray, List.set_cons_zero, List.set_cons_succ])
            refine Kept.take (v := ?vb5) 5 (by kernel_rfl) rfl (by kernel_rfl) (fun _ _ _ h => h) (Or.inl ⟨by rfl, ?hyb5⟩) hK0 ?restb5
            case hyb5 =>
              intro w0 hSw
              (try dsimp only at hSw)
              go_simp
              all_goals (with_reducible rfl)
            (try simp only [Act.put, List.setIfInBounds_toArray, List.set_cons_zero, List.set_cons_succ])
            refine Kept.take (v := ?vb6) 6 (by kernel_rfl) rfl (by kernel_rfl) (fun _ _ _ h => h) (Or.inl ⟨by rfl, ?hyb6⟩) hK0 ?restb6
            case hyb6 =>
              intro w0 hSw
              (try dsimp only at hSw)
              go_simp
              all_goals (with_reducible rfl)
            (try simp only [Act.put, List.setIfInBounds_toArray, List.set_cons_zero, List.set_cons_succ])
            refine Kept.take (v := ?vb7) 7 (by kernel_rfl) rfl (by kernel_rfl) (fun _ _ _ h => h) (Or.inl ⟨by rfl, ?hyb7⟩) hK0 ?restb7
            case hyb7 =>
              intro w0 hSw
              (try dsimp only at hSw)
              go_simp
              all_goals (with_reducible rfl)
            (try simp only [Act.put, List.setIfInBounds_toArray, List.set_cons_zero, List.set_cons_succ])
            refine Kept.take (v := ?vb8) 8 (by kernel_rfl) rfl (by kernel_rfl) (fun _ _ _ h => h) (Or.inl ⟨by rfl, ?hyb8⟩) hK0 ?restb8
            case hyb8 =>
              intro w0 hSw
              (try dsimp only at hSw)
              go_simp
              all_goals (with_reducible rfl)
            (try simp only [Act.put, List.setIfInBounds_toArray, List.set_cons_zero, List.set_cons_succ])
            refine Kept.take (v := ?vb9) 9 (by kernel_rfl) rfl (by kernel_rfl) (fun _ _ _ h => h) (Or.inl ⟨by rfl, ?hyb9⟩) hK0 ?restb9
            case hyb9 =>
              intro w0 hSw
              (try dsimp only at hSw)
              go_simp
              all_goals (with_reducible rfl)
            (try simp only [Act.put, List.setIfInBounds_toArray, List.set_cons_zero, List.set_cons_succ])
            refine Kept.take (v := ?vb10) 10 (by kernel_rfl) rfl (by kernel_rfl) (fun _ _ _ h => h) (Or.inl ⟨by rfl, ?hyb10⟩) hK0 ?restb10
            case hyb10 =>
              intro w0 hSw
              (try dsimp only at hSw)
              go_simp
              all_goals (with_reducible rfl)
            (try simp only [Act.put, List.setIfInBounds_toArray, List.set_cons_zero, List.set_cons_succ])
            refine Kept.tail (by rfl) (by kernel_rfl) ?_
            simp only [List.drop_succ_cons, List.drop_zero]
            have HB4 := Lib.hid hK0.1
            have HQ3 := Lib.hid (HO.out.below HB4.out)
            have gf := ownI_cell HQ3.out HLEN.out hfN
            have t0 := gf.1
            have t1 := gf.2
            have gB := (HQ3.out.lt G rfl).1
            clear gf
            clear c0 c1 c2 c3 xc hS0 hS hK0
            go_wp2
            refine NoPanic.normal ?_
            go_wp2
            go_roundw
            case rel =>
              have h3 := ownI_set HQ3.out HLEN.out hfN (y)
              rw [HNW.out] at h3
              exact ⟨k + 1, by omega, by go_num, h3, bSet (p := ⟨G, f, none⟩) (bThen HB0.out HB4.out) hGW _⟩
            case measure => simp [intOf]; omega
          · obtain rfl : k = n.2.1.length := by omega
            have HOI := Lib.hid (show OwnsI w3 W0.heap.size (.slice (some ⟨G, 0, none⟩) N N) (valK n st xv 0) by unfold valK; exact HO.out)
            have HBI := Lib.hid HB0.out
            clear hlt HB0 HO HB c0 c1 c2 c3
            go_wp2
            have HO := Lib.hid HOI.out
            have HB02 := Lib.hid HBI.out
            clear HOI HBI
            go_loopw [10] (fun z wr => ∃ k : Nat, k ≤ n.2.2.1.length ∧ z = .int .i64 (k : Int) ∧ OwnsI wr W0.heap.size (.slice (some ⟨G, 0, none⟩) N N) (valK n st xv k) ∧ Below W0.heap.size W0 wr) (fun z _ => n.2.2.1.length - (intOf z).toNat)
            case atStart => exact ⟨0, Nat.zero_le _, rfl, HO.out, HB02.out⟩
            case round =>
              obtain ⟨k, hk, rfl, hown, hb⟩ := hrel
              obtain ⟨w3, rfl⟩ : ∃ w3, w3 = wr := ⟨_, rfl⟩
              clear HO HB02
              have HO := Lib.hid hown
              have HB0 := Lib.hid hb
              have HB := Lib.hid (bThen HW0.out hb)
              have c0 := keep hb HE0.out
              have c1 := keep hb HE1.out
              have c2 := keep hb HE2.out
              have c3 := keep hb HE3.out
              clear hown hb
              by_cases hlt : k < n.2.2.1.length
              · obtain ⟨a, ha⟩ : ∃ a, n.2.2.1[k]? = some a := ⟨_, List.getElem?_eq_getElem hlt⟩
                obtain ⟨x, y, rfl, hx, hy⟩ := HP.out.and_ k a ha
                obtain ⟨ab, aq, rfl, ab1, x0, xf, x1, yf⟩ := at_And (good_AndS.below mR2.out (Nat.le_refl _) HB.out) ha
                have ab2 := Nat.lt_of_lt_of_le ab1 HB.out.size
                unfold Fit at xf yf
                dsimp only at x0 x1 xf yf
                have hx63 : x ≤ 9223372036854775807 := by omega
                have hy63 : y ≤ 9223372036854775807 := by omega
                have hf33 := HSP.out.fir_le
                have hfk : firN n + k < N := by rw [← HN.out]; unfold netN; omega
                obtain ⟨f, hf⟩ : ∃ f, firN n + k = f := ⟨_, rfl⟩
                obtain ⟨V3, hV3⟩ : ∃ V3, valK n st xv k = V3 := ⟨_, rfl⟩
                have hlen : V3.length = N := by rw [← hV3, valK_len, HN.out]
                have hin := valK_in n st xv k
                rw [hV3] at hin
                obtain ⟨u, hu⟩ : ∃ u, V3.getD (x / 2) 0 = u := ⟨_, rfl⟩
                obtain ⟨v, hv⟩ : ∃ v, V3.getD (y / 2) 0 = v := ⟨_, rfl⟩
                have hu2 := hin (x / 2)
                have hv2 := hin (y / 2)
                rw [hu] at hu2
                rw [hv] at hv2
                have HXV := Lib.hid (show V3[x / 2]? = some u by rw [← hu]; exact get_of_len hlen (by omega))
                have HYV := Lib.hid (show V3[y / 2]? = some v by rw [← hv]; exact get_of_len hlen (by omega))
                obtain ⟨bx, hbx⟩ : ∃ bx, bitV V3 x = bx := ⟨_, rfl⟩
                obtain ⟨byy, hby⟩ : ∃ byy, bitV V3 y = byy := ⟨_, rfl⟩
                have HBX := Lib.hid hbx
                have HBY := Lib.hid hby
                have bx2 := bitV_in V3 x
                have by2 := bitV_in V3 y
                rw [hbx] at bx2
                rw [hby] at by2
                obtain ⟨y9, hy9⟩ : ∃ y9, bx * byy = y9 := ⟨_, rfl⟩
                have e2 := and_01 bx2 by2
                rw [hy9] at e2
                have HFT := Lib.hid (fit_01 hin)
                rw [hf] at hfk
                have hfN : f < N := hfk
                have tl : (f : Int) < (N : Int) := by omega
                have tk : (k : Int) < (n.2.2.1.length : Int) := by omega
                have hEw : IntKind.i64.wrap ((firN n : Int) + (k : Int)) = (f : Int) := by rw [wrap64_int _ (by omega) (by omega)]; omega
                have HLEN := Lib.hid hlen
                have HNW := Lib.hid (show V3.set f y9 = valK n st xv (k + 1) by rw [valK_step ha, hV3, hf, hbx, hby, hy9])
                rw [hV3] at HO
                clear ha hx hy hf hV3 hlen hin hu hv hbx hby hy9 xf yf ab1 hfk bx2 by2 hf33
                go_wp2_with fail
                have hS0 : (fun w' => Below w3.heap.size w3 w' ∧ w'.cell? ⟨w.heap.size, 0, none⟩ = some (.int .i64 n.1) ∧ w'.cell? ⟨w.heap.size, 1, none⟩ = some (.slice mA1 (n.2.1).length mc1) ∧ w'.cell? ⟨w.heap.size, 2, none⟩ = some (.slice (some ⟨ab, aq, none⟩) (n.2.2.1).length mc2) ∧ w'.cell? ⟨w.heap.size, 3, none⟩ = some (.slice mA3 (n.2.2.2).length mc3) ∧ w'.cell? ⟨ab, aq + k * 2, none⟩ = some (.int .i64 (x : Int)) ∧ w'.cell? ⟨ab, aq + k * 2 + 1, none⟩ = some (.int .i64 (y : Int))) w3 := ⟨Below.refl _ _, c0, c1, c2, c3, x0, x1⟩
                have hS : ∀ {w0 w' : World}, (fun w' => Below w3.heap.size w3 w' ∧ w'.cell? ⟨w.heap.size, 0, none⟩ = some (.int .i64 n.1) ∧ w'.cell? ⟨w.heap.size, 1, none⟩ = some (.slice mA1 (n.2.1).length mc1) ∧ w'.cell? ⟨w.heap.size, 2, none⟩ = some (.slice (some ⟨ab, aq, none⟩) (n.2.2.1).length mc2) ∧ w'.cell? ⟨w.heap.size, 3, none⟩ = some (.slice mA3 (n.2.2.2).length mc3) ∧ w'.cell? ⟨ab, aq + k * 2, none⟩ = some (.int .i64 (x : Int)) ∧ w'.cell? ⟨ab, aq + k * 2 + 1, none⟩ = some (.int .i64 (y : Int))) w0 → Below w0.heap.size w0 w' → (fun w' => Below w3.heap.size w3 w' ∧ w'.cell? ⟨w.heap.size, 0, none⟩ = some (.int .i64 n.1) ∧ w'.cell? ⟨w.heap.size, 1, none⟩ = some (.slice mA1 (n.2.1).length mc1) ∧ w'.cell? ⟨w.heap.size, 2, none⟩ = some (.slice (some ⟨ab, aq, none⟩) (n.2.2.1).length mc2) ∧ w'.cell? ⟨w.heap.size, 3, none⟩ = some (.slice mA3 (n.2.2.2).length mc3) ∧ w'.cell? ⟨ab, aq + k * 2, none⟩ = some (.int .i64 (x : Int)) ∧ w'.cell? ⟨ab, aq + k * 2 + 1, none⟩ = some (.int .i64 (y : Int))) w' := fun h hb => ⟨bThen h.1 hb, keep hb h.2.1, keep hb h.2.2.1, keep hb h.2.2.2.1, keep hb h.2.2.2.2.1, keep hb h.2.2.2.2.2.1, keep hb h.2.2.2.2.2.2⟩
                dsimp only at hS0 hS
                refine wp_region_noPanic ?_
                refine wp_region_kept 22 24 (fun w' => Below w3.heap.size w3 w' ∧ w'.cell? ⟨w.heap.size, 0, none⟩ = some (.int .i64 n.1) ∧ w'.cell? ⟨w.heap.size, 1, none⟩ = some (.slice mA1 (n.2.1).length mc1) ∧ w'.cell? ⟨w.heap.size, 2, none⟩ = some (.slice (some ⟨ab, aq, none⟩) (n.2.2.1).length mc2) ∧ w'.cell? ⟨w.heap.size, 3, none⟩ = some (.slice mA3 (n.2.2.2).length mc3) ∧ w'.cell? ⟨ab, aq + k * 2, none⟩ = some (.int .i64 (x : Int)) ∧ w'.cell? ⟨ab, aq + k * 2 + 1, none⟩ = some (.int .i64 (y : Int))) (by kernel_rfl) rfl (hS hS0 (Below.drew (Below.refl _ _))) (fun hK0 => ?_)
                refine Kept.take (v := ?vc0) 0 (by kernel_rfl) rfl (by kernel_rfl) (fun _ _ _ h => h) (Or.inl ⟨by rfl, ?hyc0⟩) hK0 ?restc0
                case hyc0 =>
                  intro w0 hSw
                  (try dsimp only at hSw)
                  go_simp
                  all_goals (with_reducible rfl)
                (try simp only [Act.put, List.setIfInBounds_toArray, List.set_cons_zero, List.set_cons_succ])
                refine Kept.take (v := ?vc1) 1 (by kernel_rfl) rfl (by kernel_rfl) (fun _ _ _ h => h) (Or.inl ⟨by rfl, ?hyc1⟩) hK0 ?restc1
                case hyc1 =>
                  intro w0 hSw
                  (try dsimp only at hSw)
                  go_simp
                  all_goals (with_reducible rfl)
                (try simp only [Act.put, List.setIfInBounds_toArray, List.set_cons_zero, List.set_cons_succ])
                refine Kept.take (v := ?vc3) 3 (by kernel_rfl) rfl (by kernel_rfl) (fun _ _ _ h => h) (Or.inl ⟨by rfl, ?hyc3⟩) hK0 ?restc3
                case hyc3 =>
                  intro w0 hSw
                  (try dsimp only at hSw)
                  go_simp
                  all_goals (with_reducible rfl)
                (try simp only [Act.put, List.setIfInBounds_toArray, List.set_cons_zero, List.set_cons_succ])
                refine Kept.take (v := ?vc5) 5 (by kernel_rfl) rfl (by kernel_rfl) (fun _ _ _ h => h) (Or.inl ⟨by rfl, ?hyc5⟩) hK0 ?restc5
                case hyc5 =>
                  intro w0 hSw
                  (try dsimp only at hSw)
                  go_simp
                  all_goals (with_reducible rfl)
                (try simp only [Act.put, List.setIfInBounds_toArray, List.set_cons_zero, List.set_cons_succ])
                refine Kept.take (v := ?vc6) 6 (by kernel_rfl) rfl (by kernel_rfl) (fun _ _ _ h => h) (Or.inl ⟨by rfl, ?hyc6⟩) hK0 ?restc6
                case hyc6 =>
                  intro w0 hSw
                  (try dsimp only at hSw)
                  go_simp
                  all_goals (with_reducible rfl)
                (try simp only [Act.put, List.setIfInBounds_toArray, List.set_cons_zero, List.set_cons_succ])
                refine Kept.take (v := ?vc7) 7 (by kernel_rfl) rfl (by kernel_rfl) (fun _ _ _ h => h) (Or.inl ⟨by rfl, ?hyc7⟩) hK0 ?restc7
                case hyc7 =>
                  intro w0 hSw
                  (try dsimp only at hSw)
                  go_simp
                  all_goals (with_reducible rfl)
                (try simp only [Act.put, List.setIfInBounds_toArray, List.set_cons_zero, List.set_cons_succ])
                refine Kept.take (v := ?vc8) 8 (by kernel_rfl) rfl (by kernel_rfl) (fun _ _ _ h => h) (Or.inl ⟨by rfl, ?hyc8⟩) hK0 ?restc8
                case hyc8 =>
                  intro w0 hSw
                  (try dsimp only at hSw)
                  go_simp
                  all_goals (with_reducible rfl)
                (try simp only [Act.put, List.setIfInBounds_toArray, List.set_cons_zero, List.set_cons_succ])
                refine Kept.take (v := ?vc9) 9 (by kernel_rfl) rfl (by kernel_rfl) (fun _ _ _ h => h) (Or.inl ⟨by rfl, ?hyc9⟩) hK0 ?restc9
                case hyc9 =>
                  intro w0 hSw
                  (try dsimp only at hSw)
                  go_simp
                  all_goals (with_reducible rfl)
                (try simp only [Act.put, List.setIfInBounds_toArray, List.set_cons_zero, List.set_cons_succ])
                refine Kept.take (v := ?vc10) 10 (by kernel_rfl) rfl (by kernel_rfl) (fun _ _ _ h => h) (Or.inl ⟨by rfl, ?hyc10⟩) hK0 ?restc10
                case hyc10 =>
                  intro w0 hSw
                  (try dsimp only at hSw)
                  go_simp
                  all_goals (with_reducible rfl)
                (try simp only [Act.put, List.setIfInBounds_toArray, List.set_cons_zero, List.set_cons_succ])
                refine Kept.take (v := ?vc11) 11 (by kernel_rfl) rfl (by kernel_rfl) (fun _ _ _ h => h) (Or.inl ⟨by rfl, ?hyc11⟩) hK0 ?restc11
                case hyc11 =>
                  intro w0 hSw
                  (try dsimp only at hSw)
                  go_simp
                  all_goals (with_reducible rfl)
                (try simp only [Act.put, List.setIfInBounds_toArray, List.set_cons_zero, List.set_cons_succ])
                refine Kept.take (v := ?vc13) 13 (by kernel_rfl) rfl (by kernel_rfl) (fun _ _ _ h => h) (Or.inl ⟨by rfl, ?hyc13⟩) hK0 ?restc13
                case hyc13 =>
                  intro w0 hSw
                  (try dsimp only at hSw)
                  go_simp
                  all_goals (with_reducible rfl)
                (try simp only [Act.put, List.setIfInBounds_toArray, List.set_cons_zero, List.set_cons_succ])
                refine Kept.take (v := ?vc14) 14 (by kernel_rfl) rfl (by kernel_rfl) (fun _ _ _ h => h) (Or.inl ⟨by rfl, ?hyc14⟩) hK0 ?restc14
                case hyc14 =>
                  intro w0 hSw
                  (try dsimp only at hSw)
                  go_simp
                  all_goals (with_reducible rfl)
                (try simp only [Act.put, List.setIfInBounds_toArray, List.set_cons_zero, List.set_cons_succ])
                refine Kept.take (v := ?vc15) 15 (by kernel_rfl) rfl (by kernel_rfl) (fun _ _ _ h => h) (Or.inl ⟨by rfl, ?hyc15⟩) hK0 ?restc15
                case hyc15 =>
                  intro w0 hSw
                  (try dsimp only at hSw)
                  go_simp
                  all_goals (with_reducible rfl)
                (try simp only [Act.put, List.setIfInBounds_toArray, List.set_cons_zero, List.set_cons_succ])
                refine Kept.take (v := ?vc16) 16 (by kernel_rfl) rfl (by kernel_rfl) (fun _ _ _ h => h) (Or.inl ⟨by rfl, ?hyc16⟩) hK0 ?restc16
                case hyc16 =>
                  intro w0 hSw
                  (try dsimp only at hSw)
                  go_simp
                  all_goals (with_reducible rfl)
                (try simp only [Act.put, List.setIfInBounds_toArray, List.set_cons_zero, List.set_cons_succ])
                refine Kept.take (v := ?vc17) 17 (by kernel_rfl) rfl (by kernel_rfl) (fun _ _ _ h => h) (Or.inl ⟨by rfl, ?hyc17⟩) hK0 ?restc17
                case hyc17 =>
                  intro w0 hSw
                  (try dsimp only at hSw)
                  go_simp
                  all_goals (with_reducible rfl)
                (try simp only [Act.put, List.setIfInBounds_toArray, List.set_cons_zero, List.set_cons_succ])
                refine Kept.take (v := ?vc18) 18 (by kernel_rfl) rfl (by kernel_rfl) (fun _ _ _ h => h) (Or.inl ⟨by rfl, ?hyc18⟩) hK0 ?restc18
                case hyc18 =>
                  intro w0 hSw
                  (try dsimp only at hSw)
                  go_simp
                  all_goals (with_reducible rfl)
                (try simp only [Act.put, List.setIfInBounds_toArray, List.set_cons_zero, List.set_cons_succ])
                refine Kept.take (v := ?vc19) 19 (by kernel_rfl) rfl (by kernel_rfl) (fun _ _ _ h => h) (Or.inl ⟨by rfl, ?hyc19⟩) hK0 ?restc19
                case hyc19 =>
                  intro w0 hSw
                  (try dsimp only at hSw)
                  go_simp
                  all_goals (with_reducible rfl)
                (try simp only [Act.put, List.setIfInBounds_toArray, List.set_cons_zero, List.set_cons_succ])
                refine Kept.one 2 (by kernel_rfl) rfl (fun K hK => ?_)
                go_simp
                go_at_call 28
                refine (specFirst_at n _ _ (rdUp good_Net HD.out (bThen HB.out hK0.1)) (Nat.le_refl _) HSP.out).mono ?_
                rintro e wr0 ⟨rfl, hbr0⟩
                go_simp
                refine hK.out _ _ (hS hK0 hbr0) (fun hK1 => ?_)
                clear hK K hK0
                (try simp only [Act.put, List.setIfInBounds_toArray, List.set_cons_zero, List.set_cons_succ])
                refine Kept.take (v := ?vc4) 4 (by kernel_rfl) rfl (by kernel_rfl) (fun _ _ _ h => h) (Or.inl ⟨by rfl, ?hyc4⟩) hK1 ?restc4
                case hyc4 =>
                  intro w0 hSw
                  (try dsimp only at hSw)
                  go_simp
                  all_goals (with_reducible rfl)
                (try simp only [Act.put, List.setIfInBounds_toArray, List.set_cons_zero, List.set_cons_succ])
                refine Kept.one 12 (by kernel_rfl) rfl (fun K hK => ?_)
                go_simp
                go_at_call 27
                refine (specBit_at V3 x hx63 _ _ (good_IntS.below (ownI_rd HO.out HFT.out) (Nat.le_refl _) hK1.1) hK1.1.size HXV.out hu2.1 hu2.2 HBX.out).mono ?_
                rintro e wr1 ⟨rfl, hbr1⟩
                go_simp
                refine hK.out _ _ (hS hK1 hbr1) (fun hK2 => ?_)
                clear hK K hK1
                (try simp only [Act.put, List.setIfInBounds_toArray, List.set_cons_zero, List.set_cons_succ])
                refine Kept.one 20 (by kernel_rfl) rfl (fun K hK => ?_)
                go_simp
                go_at_call 27
                refine (specBit_at V3 y hy63 _ _ (good_IntS.below (ownI_rd HO.out HFT.out) (Nat.le_refl _) hK2.1) hK2.1.size HYV.out hv2.1 hv2.2 HBY.out).mono ?_
                rintro e wr2 ⟨rfl, hbr2⟩
                go_simp
                refine hK.out _ _ (hS hK2 hbr2) (fun hK3 => ?_)
                clear hK K hK2
                (try simp only [Act.put, List.setIfInBounds_toArray, List.set_cons_zero, List.set_cons_succ])
                refine Kept.take (v := ?vc21) 21 (by kernel_rfl) rfl (by kernel_rfl) (fun _ _ _ h => h) (Or.inl ⟨by rfl, ?hyc21⟩) hK3 ?restc21
                case hyc21 =>
                  intro w0 hSw
                  (try dsimp only at hSw)
                  go_simp
                  all_goals (with_reducible rfl)
                (try simp only [Act.put, List.setIfInBounds_toArray, List.set_cons_zero, List.set_cons_succ])
                refine Kept.tail (by rfl) (by kernel_rfl) ?_
                simp only [List.drop_succ_cons, List.drop_zero]
                have HB4 := Lib.hid hK3.1
                have HQ3 := Lib.hid (HO.out.below HB4.out)
                have gf := ownI_cell HQ3.out HLEN.out hfN
                have t0 := gf.1
                have t1 := gf.2
                have gB := (HQ3.out.lt G rfl).1
                clear gf
                clear c0 c1 c2 c3 x0 x1 hS0 hS hK3 hEw
                go_wp2
                refine NoPanic.normal ?_
                go_wp2
                go_roundw
                case rel =>
                  have h3 := ownI_set HQ3.out HLEN.out hfN (y9)
                  rw [HNW.out] at h3
                  exact ⟨k + 1, by omega, by go_num, h3, bSet (p := ⟨G, f, none⟩) (bThen HB0.out HB4.out) hGW _⟩
                case measure => simp [intOf]; omega
              · obtain rfl : k = n.2.2.1.length := by omega
                clear hlt
                go_wp2
                go_ret
                rw [← HE.out]
                exact ⟨_, rfl, HO.out.lower HW0.out.size, HB.out⟩
end Go.Proofs.Ytiejilmgchmppaa
/- Nr5: NodeValues: the program. -/
namespace Go.Proofs.Ytiejilmgchmppaa
open Go.RowKit
set_option linter.unusedVariables false
set_option linter.unusedSimpArgs false

theorem litO_nat {V : List Int} {l : Nat} {x : Int} (hx : V[l / 2]? = some x) (h : 0 ≤ x ∧ x ≤ 1) : litO V (l : Int) = bitV V l := litO_good hx h.1 h.2
end Go.Proofs.Ytiejilmgchmppaa
/- Nr6: NodeValues of the program; literals packed to a number, both sides. -/
namespace Go.Proofs.Ytiejilmgchmppaa
open Go.RowKit
set_option linter.unusedVariables false
set_option linter.unusedSimpArgs false

/-- Literals of nodes that there are. -/
theorem or_low {a b k : Nat} (ha : a < 2 ^ k) (hb : b < 2) (hk : k ≤ 16) : bits .or .i64 (a : Int) ((b * 2 ^ k : Nat) : Int) = ((a + b * 2 ^ k : Nat) : Int) := by
  have h16 : 2 ^ k ≤ 2 ^ 16 := Nat.pow_le_pow_right (by omega) hk
  have hb1 : b * 2 ^ k ≤ 2 ^ 16 := by
    have : b * 2 ^ k ≤ 1 * 2 ^ k := Nat.mul_le_mul_right _ (by omega)
    omega
  rw [i64_or a (b * 2 ^ k) (by omega) (by omega), ← Nat.shiftLeft_eq, Nat.or_comm, ← Nat.shiftLeft_add_eq_or_of_lt ha, Nat.add_comm]
/-- One more bit. -/
theorem mask_parts {V L : List Int} {k x : Nat} (h : L[k]? = some (x : Int)) (hk : k < 16) : ∃ a b c d : Nat, maskS V L k = (a : Int) ∧ bitV V x = (b : Int) ∧ b < 2 ∧ (b : Int) * 2 ^ k = (c : Int) ∧ bits .or .i64 (a : Int) (c : Int) = (d : Int) ∧ a + c = d ∧ d ≤ 65536 ∧ maskS V L (k + 1) = (d : Int) := by
  have h1 := maskS_in V L k
  have h2 := maskS_in V L (k + 1)
  have h3 := bitV_in V x
  obtain ⟨a, ha⟩ := Int.eq_ofNat_of_zero_le h1.1
  obtain ⟨b, hb⟩ := Int.eq_ofNat_of_zero_le h3.1
  have hs := mask_step (V := V) h
  rw [ha, hb] at hs
  have e : (b : Int) * 2 ^ k = ((b * 2 ^ k : Nat) : Int) := by rw [Int.natCast_mul, Int.natCast_pow]; rfl
  have hlt : a < 2 ^ k := by
    have := h1.2
    rw [ha] at this
    have e2 : ((2 : Int) ^ k) = ((2 ^ k : Nat) : Int) := by rw [Int.natCast_pow]; rfl
    omega
  have h16 : (2 : Nat) ^ (k + 1) ≤ 2 ^ 16 := Nat.pow_le_pow_right (by omega) (by omega)
  have hd : maskS V L (k + 1) = ((a + b * 2 ^ k : Nat) : Int) := by rw [hs, e]; omega
  have hd2 : a + b * 2 ^ k ≤ 65536 := by
    have := h2.2
    rw [hd] at this
    have e2 : ((2 : Int) ^ (k + 1)) = ((2 ^ (k + 1) : Nat) : Int) := by rw [Int.natCast_pow]; rfl
    omega
  refine ⟨a, b, b * 2 ^ k, a + b * 2 ^ k, ha, hb, by omega, e, or_low hlt (by omega) (by omega), rfl, hd2, hd⟩

end Go.Proofs.Ytiejilmgchmppaa
/- Nr7: NetStart, both sides. -/
namespace Go.Proofs.Ytiejilmgchmppaa
open Go.RowKit
set_option linter.unusedVariables false
set_option linter.unusedSimpArgs false

def stL (n : DNet) (k : Nat) : List Int := (n.2.1.take k).map (·.2.1)
theorem stL_step {n : DNet} {k : Nat} {s : DSeq} (h : n.2.1[k]? = some s) : stL n (k + 1) = stL n k ++ [s.2.1] := by
  unfold stL; rw [List.take_add_one, h]; simp
theorem stL_all (n : DNet) : stL n n.2.1.length = n.2.1.map (·.2.1) := by unfold stL; rw [List.take_length]
set_option maxRecDepth 100000 in
set_option maxHeartbeats 6400000 in
theorem specStart_at (n : DNet) (us : List Value) (w : World) (h : rdNet 0 w.heap.size w us n) {L : List Int} (hL : startO n = L) :
    Calls Try.prog 9 #[.agg us.toArray] w fun e w' => ∃ v', e = .returned v' ∧ OwnsI w' w.heap.size v' L ∧ Below w.heap.size w w' := by
  obtain ⟨i0, hi, hz0, hz1, hz2⟩ := info_parts infoI
  have HD := Lib.hid h
  obtain ⟨f, hf⟩ : ∃ f, netB n = f := ⟨_, rfl⟩
  have HF := Lib.hid hf
  have HX := Lib.hid hL
  clear hf hL
  obtain ⟨mu0, mu1, mu2, mu3, rfl, mh0, mh1, mh2, mh3⟩ := h
  obtain ⟨me0, -⟩ := mh0
  injection me0 with me0
  subst me0
  obtain ⟨mA1, mc1, me1, mm1, -⟩ := slice_of mh1
  subst me1
  have mR1 := Lib.hid mh1
  clear mh1
  obtain ⟨mA2, mc2, me2, mm2, -⟩ := slice_of mh2
  subst me2
  have mR2 := Lib.hid mh2
  clear mh2
  obtain ⟨mA3, mc3, me3, mm3, -⟩ := slice_of mh3
  subst me3
  have mR3 := Lib.hid mh3
  clear mh3
  go_enter Try.func9, Try.ntmps9
  go_wp2_with fail
  obtain ⟨W0, hV⟩ : ∃ W0, W0 = ((w.alloc (.cells #[.int .i64 n.1, .slice mA1 (n.2.1).length mc1, .slice mA2 (n.2.2.1).length mc2, .slice mA3 (n.2.2.2).length mc3] 28)).alloc (.cells #[] 3)) := ⟨_, rfl⟩
  have hO0 : OwnsI ((w.alloc (.cells #[.int .i64 n.1, .slice mA1 (n.2.1).length mc1, .slice mA2 (n.2.2.1).length mc2, .slice mA3 (n.2.2.2).length mc3] 28)).alloc (.cells #[] 3)) (w.heap.size + 1) (.slice (some ⟨w.heap.size + 1, 0, none⟩) 0 0) [] := by have := own_newI (w.alloc (.cells #[.int .i64 n.1, .slice mA1 (n.2.1).length mc1, .slice mA2 (n.2.2.1).length mc2, .slice mA3 (n.2.2.2).length mc3] 28)) (w.heap.size + 1) (by simp); simpa using this
  rw [← hV] at hO0 ⊢
  have gN := eqbox2 hV
  have HO := Lib.hid hO0
  have d0 : W0.cell? ⟨w.heap.size, 0, none⟩ = some (.int .i64 n.1) := box_cell gN.1 0 _ rfl
  have d1 : W0.cell? ⟨w.heap.size, 1, none⟩ = some (.slice mA1 (n.2.1).length mc1) := box_cell gN.1 1 _ rfl
  have d2 : W0.cell? ⟨w.heap.size, 2, none⟩ = some (.slice mA2 (n.2.2.1).length mc2) := box_cell gN.1 2 _ rfl
  have d3 : W0.cell? ⟨w.heap.size, 3, none⟩ = some (.slice mA3 (n.2.2.2).length mc3) := box_cell gN.1 3 _ rfl
  have sW0 : W0.heap.size = w.heap.size + 2 := by rw [hV]; simp
  have HW0 := Lib.hid gN.2.2
  clear hV gN hO0
  have HE0 := Lib.hid d0
  have HE1 := Lib.hid d1
  have HE2 := Lib.hid d2
  have HE3 := Lib.hid d3
  refine (specNetOk_at n _ _ (rdUp good_Net HD.out HW0.out) HF.out).mono ?_
  rintro e w1 ⟨rfl, hb⟩
  replace d0 := keep hb d0
  replace d1 := keep hb d1
  replace d2 := keep hb d2
  replace d3 := keep hb d3
  have HB02 := Lib.hid hb
  replace HO := Lib.hid (HO.out.below hb)
  clear hb
  cases f with
  | false =>
    have HE := Lib.hid ((start_no HF.out).symm.trans HX.out)
    go_wp2
    go_ret
    refine ⟨_, rfl, ?_, bThen HW0.out HB02.out⟩
    rw [← HE.out]
    exact HO.out.lower (by omega)
  | true =>
    have HE := Lib.hid ((start_yes HF.out).symm.trans HX.out)
    have hs12 := (netP_of HF.out).sz.s12
    go_wp2
    clear d0 d1 d2 d3
    go_loopw [3, 4] (fun s z wr => ∃ (k : Nat) (A : Option Addr) (c : Nat), k ≤ n.2.1.length ∧ z = .int .i64 (k : Int) ∧ s = .slice A (stL n k).length c ∧ OwnsI wr (w.heap.size + 1) (.slice A (stL n k).length c) (stL n k) ∧ Below (w.heap.size + 1) W0 wr) (fun _ z _ => n.2.1.length - (intOf z).toNat)
    case atStart => exact ⟨0, some ⟨w.heap.size + 1, 0, none⟩, 0, Nat.zero_le _, rfl, rfl, HO.out, HB02.out.mono (by omega)⟩
    case round =>
      obtain ⟨k, A, c, hk, rfl, rfl, hown, hb⟩ := hrel
      obtain ⟨w3, rfl⟩ : ∃ w3, w3 = wr := ⟨_, rfl⟩
      clear HO HB02
      have HO := Lib.hid hown
      have HB0 := Lib.hid hb
      have HB := Lib.hid (show Below w.heap.size w w3 from HW0.out.trans (hb.mono (by omega)))
      have c1 : w3.cell? ⟨w.heap.size, 1, none⟩ = some (.slice mA1 (n.2.1).length mc1) := (hb.cell (p := ⟨w.heap.size, 1, none⟩) (by dsimp only; omega)).trans HE1.out
      have c0 := True.intro
      have c2 := True.intro
      have c3 := True.intro
      clear hown hb
      by_cases hlt : k < n.2.1.length
      · obtain ⟨s, hs⟩ : ∃ s, n.2.1[k]? = some s := ⟨_, List.getElem?_eq_getElem hlt⟩
        obtain ⟨sb, sq, sA, sc, rfl, sb1, x0, -, x1, -, x2, sR⟩ := at_Seq (good_SeqS.below mR1.out (Nat.le_refl _) HB.out) hs
        have sb2 := Nat.lt_of_lt_of_le sb1 HB.out.size
        have tk : (k : Int) < (n.2.1.length : Int) := by omega
        obtain ⟨KL, hK⟩ : ∃ KL, stL n k = KL := ⟨_, rfl⟩
        have hlen : KL.length ≤ 12 := by rw [← hK]; unfold stL; rw [List.length_map, List.length_take]; omega
        obtain ⟨y, hy⟩ : ∃ y, s.2.1 = y := ⟨_, rfl⟩
        have HKS := Lib.hid (show stL n (k + 1) = KL ++ [y] by rw [stL_step hs, hK, hy])
        rw [hy] at x1
        rw [hK] at HO ⊢
        obtain ⟨it, hit⟩ : ∃ it : Int, s.1 = it := ⟨_, rfl⟩
        rw [hit] at x0
        clear hs hK hy sb1 sR hit
        have HBA := Lib.hid (show Below w3.heap.size w3 (w3.alloc (.cells #[.int .i64 y] 3)) from bAlloc (Below.refl _ _) (Nat.le_refl _) _)
        have HBX := Lib.hid (show Below (w.heap.size + 1) W0 (w3.alloc (.cells #[.int .i64 y] 3)) from HB0.out.trans (HBA.out.mono (by have := HB0.out.size; omega)))
        have hsz := Lib.hid (show w.heap.size + 1 ≤ (w3.alloc (.cells #[.int .i64 y] 3)).heap.size by have := HBX.out.size; omega)
        have HOA := Lib.hid (HO.out.below HBA.out)
        clear c0 c2 c3
        go_wp2_with (at_builtin; refine wpList_append_all (by rfl) _ _ 26 (by rfl) (w.heap.size + 1) 3 i0 (.int .i64 0) 1 8 Try.underlying26 hi hz0 hz1 hz2 rfl (by omega) (.slice A KL.length c) KL.length (KL.map vI) (by rfl) HOA.out (some ⟨w3.heap.size, 0, none⟩) 1 1 [.int .i64 y] (by rfl) (by rfl) (.inr ⟨_, rfl, World.news_of_block (heap_alloc_new _ _)⟩) (by simp [Value.oneCell']) (by unfold maxLen; omega) (by omega) hsz.out ?_; intro A' c' w7 hown7 hgrow7 hkeep7 hat7)
        have HB7 := Lib.hid ((HBX.out.grown hgrow7 hsz.out (fun g hg => (HO.out.lt g hg).1)))
        have HO7 := Lib.hid (show OwnsI w7 (w.heap.size + 1) (.slice A' (KL.length + 1) c') (KL ++ [y]) from (by unfold OwnsI; rw [List.length_append, List.map_append]; exact hown7))
        clear hown7 hgrow7 hkeep7 hat7 hsz
        go_roundw
        case rel => exact ⟨k + 1, A', c', by omega, by go_num, by rw [HKS.out, List.length_append]; rfl, by rw [HKS.out, List.length_append]; exact HO7.out, HB7.out⟩
        case measure => simp [intOf] <;> omega
      · obtain rfl : k = n.2.1.length := by omega
        clear hlt c0 c2 c3
        rw [stL_all, HE.out] at HO ⊢
        go_wp2
        go_ret
        exact ⟨_, rfl, HO.out.lower (by omega), HB.out⟩
end Go.Proofs.Ytiejilmgchmppaa
