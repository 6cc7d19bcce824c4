/-
  NodeValues of the program; literals packed to a number, both sides.
-/
import Derived.Test.YtaebiiopommhdaaNr5
import Derived.Deep.RegionHeld3
namespace Go.Proofs.Ytaebiiopommhdaa
open Go.RowKit
set_option linter.unusedVariables false
set_option linter.unusedSimpArgs false

/-- The cells of a running net that has just been made. -/
theorem cells5 {W : World} {b : Nat} {x0 x1 x2 x3 x4 : Value} (h : W.heap[b]? = some (.cells #[x0, x1, x2, x3, x4] 64 (0, 0))) : ∀ (i : Nat) (u : Value), [x0, x1, x2, x3][i]? = some u → W.cell? ⟨b, i, none⟩ = some u := by
  intro i u hu
  match i, hu with
  | 0, hu => injection hu with hu; subst hu; exact box_cell h 0 _ rfl
  | 1, hu => injection hu with hu; subst hu; exact box_cell h 1 _ rfl
  | 2, hu => injection hu with hu; subst hu; exact box_cell h 2 _ rfl
  | 3, hu => injection hu with hu; subst hu; exact box_cell h 3 _ rfl
set_option maxRecDepth 100000 in
set_option maxHeartbeats 6400000 in
theorem implVals_at (n : DNet) (st : List Int) (xv : Int) (us : List Value) (v : Value) (w : World) (h : rdNet 0 w.heap.size w us n) (hv : rdIntS 0 w.heap.size w [v] st) {L : List Int} (hL : valO n st xv = L) :
    Calls Try.prog 19 #[.agg us.toArray, v, .int .i64 xv] w fun e w' => ∃ v', e = .returned v' ∧ OwnsI w' w.heap.size v' L ∧ Below w.heap.size w w' := by
  have HD := Lib.hid h
  have HV := Lib.hid hv
  obtain ⟨f, hf⟩ : ∃ f, stateB n st = f := ⟨_, rfl⟩
  have HF := Lib.hid hf
  have HX := Lib.hid hL
  obtain ⟨vA, vc, rfl, vm, -⟩ := slice_of hv
  clear hf hL hv
  obtain ⟨mu0, mu1, mu2, mu3, rfl, mh0, mh1, mh2, mh3⟩ := h
  obtain ⟨me0, -⟩ := mh0
  injection me0 with me0
  subst me0
  obtain ⟨mA1, mc1, me1, mm1, -⟩ := slice_of mh1
  subst me1
  have mR1 := Lib.hid mh1
  clear mh1
  obtain ⟨mA2, mc2, me2, mm2, -⟩ := slice_of mh2
  subst me2
  have mR2 := Lib.hid mh2
  clear mh2
  obtain ⟨mA3, mc3, me3, mm3, -⟩ := slice_of mh3
  subst me3
  have mR3 := Lib.hid mh3
  clear mh3
  go_enter Try.func19, Try.ntmps19
  go_wp2_with fail
  obtain ⟨W0, hV⟩ : ∃ W0, W0 = (w.alloc (.cells #[.int .i64 n.1, .slice mA1 (n.2.1).length mc1, .slice mA2 (n.2.2.1).length mc2, .slice mA3 (n.2.2.2).length mc3] 28)) := ⟨_, rfl⟩
  rw [← hV]
  have gN := eqbox1 hV
  have d0 : W0.cell? ⟨w.heap.size, 0, none⟩ = some (.int .i64 n.1) := box_cell gN.1 0 _ rfl
  have d1 : W0.cell? ⟨w.heap.size, 1, none⟩ = some (.slice mA1 (n.2.1).length mc1) := box_cell gN.1 1 _ rfl
  have d2 : W0.cell? ⟨w.heap.size, 2, none⟩ = some (.slice mA2 (n.2.2.1).length mc2) := box_cell gN.1 2 _ rfl
  have d3 : W0.cell? ⟨w.heap.size, 3, none⟩ = some (.slice mA3 (n.2.2.2).length mc3) := box_cell gN.1 3 _ rfl
  have sW0 : W0.heap.size = w.heap.size + 1 := by rw [hV]; simp
  have HW0 := Lib.hid gN.2
  clear hV gN
  refine (implState_at n st _ _ _ (rdUp good_Net HD.out HW0.out) (rdUp good_IntS HV.out HW0.out) HF.out).mono ?_
  rintro e w1 ⟨rfl, hb⟩
  replace d0 := keep hb d0
  replace d1 := keep hb d1
  replace d2 := keep hb d2
  replace d3 := keep hb d3
  have HB := Lib.hid (bThen HW0.out hb)
  clear hb
  cases f with
  | false =>
    have HE := Lib.hid ((vals_no HF.out).symm.trans HX.out)
    go_wp2
    go_ret
    refine ⟨_, rfl, ?_, HB.out⟩
    rw [← HE.out]
    exact own_nilI _ _
  | true =>
    go_wp2_with fail
    obtain ⟨V, hV⟩ : ∃ V, V = w1.alloc (.cells #[.int .i64 n.1, .slice mA1 (n.2.1).length mc1, .slice mA2 (n.2.2.1).length mc2, .slice mA3 (n.2.2.2).length mc3, .slice vA st.length vc] 64) := ⟨_, rfl⟩
    rw [← hV]
    have gN := eqbox1 hV
    have HBV := Lib.hid (bThen HB.out gN.2)
    have HG := Lib.hid gN.1
    clear hV gN d0 d1 d2 d3
    refine (implRunVals_at n st xv w1.heap.size _ _ V (rdUp good_Net HD.out HBV.out) (rdUp good_IntS HV.out HBV.out) (cells5 HG.out) (box_cell HG.out 4 _ rfl) (stateP_of HF.out) HX.out).mono ?_
    rintro e w2 ⟨v2, rfl, ho, hb⟩
    have HO := Lib.hid (OwnsI.lower ho HBV.out.size)
    have HB2 := Lib.hid (bThen HBV.out hb)
    clear ho hb
    go_wp2
    go_ret
    exact ⟨_, rfl, HO.out, HB2.out⟩
/-- Literals of nodes that there are. -/
def LitsIn (V L : List Int) : Prop := ∀ r ∈ L, ∃ x : Nat, r = (x : Int) ∧ x / 2 < V.length
theorem mask_step {V L : List Int} {k x : Nat} (h : L[k]? = some (x : Int)) : maskS V L (k + 1) = maskS V L k + bitV V x * 2 ^ k := by
  conv => lhs; unfold maskS
  rw [List.getD_eq_getElem?_getD, h]
  simp
theorem or_low {a b k : Nat} (ha : a < 2 ^ k) (hb : b < 2) (hk : k ≤ 16) : bits .or .i64 (a : Int) ((b * 2 ^ k : Nat) : Int) = ((a + b * 2 ^ k : Nat) : Int) := by
  have h16 : 2 ^ k ≤ 2 ^ 16 := Nat.pow_le_pow_right (by omega) hk
  have hb1 : b * 2 ^ k ≤ 2 ^ 16 := by
    have : b * 2 ^ k ≤ 1 * 2 ^ k := Nat.mul_le_mul_right _ (by omega)
    omega
  rw [i64_or a (b * 2 ^ k) (by omega) (by omega), ← Nat.shiftLeft_eq, Nat.or_comm, ← Nat.shiftLeft_add_eq_or_of_lt ha, Nat.add_comm]
/-- One more bit. -/
theorem mask_parts {V L : List Int} {k x : Nat} (h : L[k]? = some (x : Int)) (hk : k < 16) : ∃ a b c d : Nat, maskS V L k = (a : Int) ∧ bitV V x = (b : Int) ∧ b < 2 ∧ (b : Int) * 2 ^ k = (c : Int) ∧ bits .or .i64 (a : Int) (c : Int) = (d : Int) ∧ a + c = d ∧ d ≤ 65536 ∧ maskS V L (k + 1) = (d : Int) := by
  have h1 := maskS_in V L k
  have h2 := maskS_in V L (k + 1)
  have h3 := bitV_in V x
  obtain ⟨a, ha⟩ := Int.eq_ofNat_of_zero_le h1.1
  obtain ⟨b, hb⟩ := Int.eq_ofNat_of_zero_le h3.1
  have hs := mask_step (V := V) h
  rw [ha, hb] at hs
  have e : (b : Int) * 2 ^ k = ((b * 2 ^ k : Nat) : Int) := by rw [Int.natCast_mul, Int.natCast_pow]; rfl
  have hlt : a < 2 ^ k := by
    have := h1.2
    rw [ha] at this
    have e2 : ((2 : Int) ^ k) = ((2 ^ k : Nat) : Int) := by rw [Int.natCast_pow]; rfl
    omega
  have h16 : (2 : Nat) ^ (k + 1) ≤ 2 ^ 16 := Nat.pow_le_pow_right (by omega) (by omega)
  have hd : maskS V L (k + 1) = ((a + b * 2 ^ k : Nat) : Int) := by rw [hs, e]; omega
  have hd2 : a + b * 2 ^ k ≤ 65536 := by
    have := h2.2
    rw [hd] at this
    have e2 : ((2 : Int) ^ (k + 1)) = ((2 ^ (k + 1) : Nat) : Int) := by rw [Int.natCast_pow]; rfl
    omega
  refine ⟨a, b, b * 2 ^ k, a + b * 2 ^ k, ha, hb, by omega, e, or_low hlt (by omega) (by omega), rfl, hd2, hd⟩

set_option maxRecDepth 100000 in
set_option maxHeartbeats 6400000 in
theorem implBits_at (V L : List Int) (v l : Value) {B T B' T' : Nat} (w : World) (hv : rdIntS B T w [v] V) (hT : T ≤ w.heap.size) (hl : rdIntS B' T' w [l] L) (hT' : T' ≤ w.heap.size) (h01 : ∀ j, 0 ≤ V.getD j 0 ∧ V.getD j 0 ≤ 1) (hlit : LitsIn V L) (hln : L.length ≤ 16) {r : Int} (hr : maskV V L = r) :
    Calls Try.prog 74 #[v, l] w fun e w' => e = .returned (.int .i64 r) ∧ Below w.heap.size w w' := by
  have HV := Lib.hid hv
  have HL := Lib.hid hl
  have HR := Lib.hid hr
  have H01 := Lib.hid h01
  have HLT := Lib.hid hlit
  obtain ⟨vA, vc, rfl, vm, -⟩ := slice_of hv
  obtain ⟨lA, lc, rfl, lm, -⟩ := slice_of hl
  clear hv hl hr h01 hlit
  go_enter Try.func74, Try.ntmps74
  go_wp2
  go_loopw [5, 10] (fun s z wr => ∃ k : Nat, k ≤ L.length ∧ z = .int .i64 (k : Int) ∧ s = .int .i64 (maskS V L k) ∧ Below w.heap.size w wr) (fun _ z _ => L.length - (intOf z).toNat)
  case atStart => exact ⟨0, Nat.zero_le _, rfl, rfl, Below.refl _ _⟩
  case round =>
    obtain ⟨k, hk, rfl, rfl, hb⟩ := hrel
    obtain ⟨w3, rfl⟩ : ∃ w3, w3 = wr := ⟨_, rfl⟩
    have HB := Lib.hid hb
    clear hb
    by_cases hlt : k < L.length
    · obtain ⟨x0, hx0⟩ : ∃ x0, L[k]? = some x0 := ⟨_, List.getElem?_eq_getElem hlt⟩
      obtain ⟨x, rfl, hxV⟩ := HLT.out x0 (List.mem_of_getElem? hx0)
      obtain ⟨lb, lq, rfl, lb1, xc, xf⟩ := at_Int (good_IntS.below HL.out hT' HB.out) hx0
      have lb2 := Nat.lt_of_lt_of_le lb1 (Nat.le_trans hT' HB.out.size)
      obtain ⟨a, b, c, d, ha, hbv, hb2, e1, e2, hacd, hd, hst⟩ := mask_parts (V := V) hx0 (by omega)
      have e0 : (b : Int) * 2 ^ min (k : Int).toNat 64 = (c : Int) := by rw [show min (k : Int).toNat 64 = k by omega]; exact e1
      have HST := Lib.hid hst
      have HBV := Lib.hid hbv
      have hx63 : x ≤ 9223372036854775807 := by unfold Fit at xf; omega
      have hu := H01.out (x / 2)
      have HG := Lib.hid (get_of_len (L := V) rfl hxV)
      have HF := Lib.hid xf
      have tk : (k : Int) < (L.length : Int) := by omega
      rw [ha]
      clear hx0 ha hbv hst lb1 xf
      go_wp2_with fail
      refine (implLitV_at V (x : Int) HF.out _ _ (good_IntS.below HV.out hT HB.out) (Nat.le_trans hT HB.out.size) ((litO_nat HG.out hu).trans HBV.out)).mono ?_
      rintro e w4 ⟨rfl, hb⟩
      have HB4 := Lib.hid (bThen HB.out hb)
      clear hb xc
      have hc : (c : Int) ≤ 65536 := by omega
      go_wp2
      go_roundw
      case rel => exact ⟨k + 1, by omega, by go_num, by rw [HST.out] <;> go_num, HB4.out⟩
      case measure => simp [intOf] <;> omega
    · obtain rfl : k = L.length := by omega
      have HE := Lib.hid (show maskS V L L.length = r from HR.out)
      go_wp2
      go_ret
      exact ⟨ret_i64 HE.out, HB.out⟩

set_option maxRecDepth 100000 in
set_option maxHeartbeats 6400000 in
theorem specMask_at (V L : List Int) (v l : Value) {B T B' T' : Nat} (w : World) (hv : rdIntS B T w [v] V) (hT : T ≤ w.heap.size) (hl : rdIntS B' T' w [l] L) (hT' : T' ≤ w.heap.size) (h01 : ∀ j, 0 ≤ V.getD j 0 ∧ V.getD j 0 ≤ 1) (hlit : LitsIn V L) (hln : L.length ≤ 16) {r : Int} (hr : maskV V L = r) :
    Calls Try.prog 65 #[v, l] w fun e w' => e = .returned (.int .i64 r) ∧ Below w.heap.size w w' := by
  have HV := Lib.hid hv
  have HL := Lib.hid hl
  have HR := Lib.hid hr
  have H01 := Lib.hid h01
  have HLT := Lib.hid hlit
  obtain ⟨vA, vc, rfl, vm, -⟩ := slice_of hv
  obtain ⟨lA, lc, rfl, lm, -⟩ := slice_of hl
  clear hv hl hr h01 hlit
  go_enter Try.func65, Try.ntmps65
  go_wp2
  go_loopw [5, 6] (fun s z wr => ∃ k : Nat, k ≤ L.length ∧ z = .int .i64 (k : Int) ∧ s = .int .i64 (maskS V L k) ∧ Below w.heap.size w wr) (fun _ z _ => L.length - (intOf z).toNat)
  case atStart => exact ⟨0, Nat.zero_le _, rfl, rfl, Below.refl _ _⟩
  case round =>
    obtain ⟨k, hk, rfl, rfl, hb⟩ := hrel
    obtain ⟨w3, rfl⟩ : ∃ w3, w3 = wr := ⟨_, rfl⟩
    have HB := Lib.hid hb
    clear hb
    by_cases hlt : k < L.length
    · obtain ⟨x0, hx0⟩ : ∃ x0, L[k]? = some x0 := ⟨_, List.getElem?_eq_getElem hlt⟩
      obtain ⟨x, rfl, hxV⟩ := HLT.out x0 (List.mem_of_getElem? hx0)
      obtain ⟨lb, lq, rfl, lb1, xc, xf⟩ := at_Int (good_IntS.below HL.out hT' HB.out) hx0
      have lb2 := Nat.lt_of_lt_of_le lb1 (Nat.le_trans hT' HB.out.size)
      obtain ⟨a, b, c, d, ha, hbv, hb2, e1, e2, hacd, hd, hst⟩ := mask_parts (V := V) hx0 (by omega)
      have e0 : (b : Int) * 2 ^ min (k : Int).toNat 64 = (c : Int) := by rw [show min (k : Int).toNat 64 = k by omega]; exact e1
      have HST := Lib.hid hst
      have HBV := Lib.hid hbv
      have hx63 : x ≤ 9223372036854775807 := by unfold Fit at xf; omega
      have hu := H01.out (x / 2)
      have HG := Lib.hid (get_of_len (L := V) rfl hxV)
      have HF := Lib.hid xf
      have tk : (k : Int) < (L.length : Int) := by omega
      rw [ha]
      clear hx0 ha hbv hst lb1 xf
      go_wp2_with fail
      refine (specBit_at V x hx63 _ _ (good_IntS.below HV.out hT HB.out) (Nat.le_trans hT HB.out.size) HG.out hu.1 hu.2 HBV.out).mono ?_
      rintro e w4 ⟨rfl, hb⟩
      have HB4 := Lib.hid (bThen HB.out hb)
      clear hb xc
      have hc : (c : Int) ≤ 65536 := by omega
      go_wp2
      go_roundw
      case rel => exact ⟨k + 1, by omega, by go_num, by rw [HST.out] <;> go_num, HB4.out⟩
      case measure => simp [intOf] <;> omega
    · obtain rfl : k = L.length := by omega
      have HE := Lib.hid (show maskS V L L.length = r from HR.out)
      go_wp2
      go_ret
      exact ⟨ret_i64 HE.out, HB.out⟩
end Go.Proofs.Ytaebiiopommhdaa
