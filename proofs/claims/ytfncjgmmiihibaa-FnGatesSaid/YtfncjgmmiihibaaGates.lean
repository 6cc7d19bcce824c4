/-
  The walk of FnGates.
-/
import Derived.Test.YtfncjgmmiihibaaHiQ
import Derived.Test.YtfncjgmmiihibaaHiJ2
import Derived.Test.YtfncjgmmiihibaaHiJ3
import Derived.Test.YtfncjgmmiihibaaHiJ4
import Derived.Test.YtfncjgmmiihibaaAt
import Derived.Test.YtfncjgmmiihibaaNet15
import Derived.Deep.RegionHeld3
namespace Go.Proofs.Ytfncjgmmiihibaa
open Go.RowKit
set_option linter.unusedVariables false
set_option linter.unusedSimpArgs false

theorem get_at (L : List Int) (k : Nat) (v : Value) {B T : Nat} (w : World) (hv : rdIntS B T w [v] L) (hT : T ≤ w.heap.size) {x : Int} (hx : L[k]? = some x) :
    Calls Try.prog 25 #[v, .int .i64 (k : Int)] w fun e w' => e = .returned (.int .i64 x) ∧ Below w.heap.size w w' := by
  have hk := (List.getElem?_eq_some_iff.1 hx).1
  obtain ⟨vA, vc, rfl, vm, -⟩ := slice_of hv
  obtain ⟨vb, vq, rfl, vb1, xc, -⟩ := at_Int hv hx
  have vb2 := Nat.lt_of_lt_of_le vb1 hT
  have t1 : ¬ (k : Int) < 0 := by omega
  have t2 : ¬ (L.length : Int) ≤ (k : Int) := by omega
  have t3 : (k : Int) < (L.length : Int) := by omega
  clear hv hx
  go_enter Try.func25, Try.ntmps25
  go_wp2
  go_ret
  exact ⟨rfl, Below.refl _ _⟩
theorem orO_room {n : DNet} {p q : Nat} (hP : NetP n) (hp : p / 2 < netN n) (hq : q / 2 < netN n) (h : n.2.2.1.length < 300) : 0 ≤ (orO n p q).2 := by
  obtain ⟨p', ep, hp', -⟩ := notI_lit hp
  obtain ⟨q', eq, hq', -⟩ := notI_lit hq
  have h0 := andO_room hP hp' hq' h
  obtain ⟨z, ez, -, -⟩ := (andO_gate hP hp' hq' h0).lit
  unfold orO
  rw [ep, eq, if_neg (by omega), ez]
  obtain ⟨r, er, -⟩ := notI_nat z
  rw [er]; dsimp only; omega
theorem joinO_room {n m : DNet} {p q : Nat} (hP : NetP m) (hp : p / 2 < netN m) (hq : q / 2 < netN m) (h : m.2.2.1.length < 300) : 0 ≤ (joinO n m p q).2 := by
  have h0 := orO_room hP hp hq h
  unfold joinO
  rw [if_neg (by omega)]; exact h0
theorem two_room {n : DNet} {a b c d : Nat} (hP : NetP n) (ha : a / 2 < netN n) (hb : b / 2 < netN n) (hc : c / 2 < netN n) (hd : d / 2 < netN n) (h : n.2.2.1.length + 2 < 300) :
    0 ≤ (joinO n (andO (andO n a b).1 c d).1 (andO n a b).2 (andO (andO n a b).1 c d).2).2 := by
  have g1 := andO_gate hP ha hb (andO_room hP ha hb (by omega))
  obtain ⟨u, eu, hu, -⟩ := g1.lit
  have N1 := g1.ext.netN
  have L1 := @andO_len n a b
  have P1 := g1.ext.net hP
  have g2 := andO_gate P1 (p := c) (q := d) (by omega) (by omega) (andO_room P1 (by omega) (by omega) (by omega))
  obtain ⟨v, ev, hv, -⟩ := g2.lit
  have N2 := g2.ext.netN
  have L2 := @andO_len (andO n a b).1 c d
  rw [eu, ev]
  exact joinO_room (g2.ext.net P1) (by omega) hv (by omega)
theorem xorO_room {n : DNet} {p q : Nat} (hP : NetP n) (hp : p / 2 < netN n) (hq : q / 2 < netN n) (h : n.2.2.1.length + 2 < 300) : 0 ≤ (xorO n p q).2 := by
  obtain ⟨p', ep, hp', -⟩ := notI_lit hp
  obtain ⟨q', eq, hq', -⟩ := notI_lit hq
  unfold xorO
  rw [ep, eq]
  exact two_room hP hp hq' hp' hq h
theorem muxO_room {n : DNet} {s p q : Nat} (hP : NetP n) (hs : s / 2 < netN n) (hp : p / 2 < netN n) (hq : q / 2 < netN n) (h : n.2.2.1.length + 2 < 300) : 0 ≤ (muxO n s p q).2 := by
  obtain ⟨s', es, hs', -⟩ := notI_lit hs
  unfold muxO
  rw [if_neg (fun c => c ⟨netB_of hP, by rw [hP.sz.nc]; exact lit_nat hs, by rw [hP.sz.nc]; exact lit_nat hp, by rw [hP.sz.nc]; exact lit_nat hq⟩), es]
  exact two_room hP hs hp hs' hq h
theorem state_ext {n m : DNet} {st : List Int} (h : Ext n m) (hP : NetP n) (hS : StateP n st) : StateP m st :=
  ⟨netB_of (h.net hP), by rw [h.s]; exact hS.len, fun k s hs => hS.val k s (by rw [← h.s]; exact hs)⟩
theorem lit_litO {n : DNet} {st : List Int} {x : Int} (hP : NetP n) (hl : st.length = n.2.1.length) {p : Nat} (hp : p / 2 < netN n) : litO (allV n st x) (p : Int) = bitV (allV n st x) p := by
  have hlen := allV_len x hl
  have h01 := allV_01 x hP hl (p / 2)
  rw [List.getD_eq_getElem?_getD, List.getElem?_eq_getElem (by rw [hlen]; exact hp), Option.getD_some] at h01
  exact litO_good (List.getElem?_eq_getElem (by rw [hlen]; exact hp)) h01.1 h01.2
theorem orO_lenM {n : DNet} {a b : Int} : (orO n a b).1.2.2.1.length ≤ n.2.2.1.length + 1 := by
  unfold orO
  split
  · dsimp only; omega
  · exact andO_len
theorem joinO_lenM {n m : DNet} {p q : Int} {k : Nat} (h : m.2.2.1.length ≤ n.2.2.1.length + k) : (joinO n m p q).1.2.2.1.length ≤ n.2.2.1.length + (k + 1) := by
  unfold joinO
  split
  · dsimp only; omega
  · have h2 := @orO_lenM m p q; omega
theorem two_lenM {n : DNet} {a b c d : Int} : (andO (andO n a b).1 c d).1.2.2.1.length ≤ n.2.2.1.length + 2 := by
  have h1 := @andO_len n a b
  have h2 := @andO_len (andO n a b).1 c d
  omega
theorem xorO_lenM {n : DNet} {a b : Int} : (xorO n a b).1.2.2.1.length ≤ n.2.2.1.length + 3 := joinO_lenM two_lenM
theorem muxO_lenM {n : DNet} {s a b : Int} : (muxO n s a b).1.2.2.1.length ≤ n.2.2.1.length + 3 := by
  unfold muxO
  split
  · dsimp only; omega
  · exact joinO_lenM two_lenM
/-- What the law asks of the four gates. -/
structure GatesP (n m : DNet) (st : List Int) (x : Int) (y1 y2 y3 y4 va vb vs : Int) : Prop where
  sp : StateP m st
  old : ∃ L, allV m st x = allV n st x ++ L
  f : Fit y1 ∧ Fit y2 ∧ Fit y3 ∧ Fit y4
  l1 : litO (allV m st x) y1 = va * vb
  l2 : litO (allV m st x) y2 = 1 - (1 - va) * (1 - vb)
  l3 : litO (allV m st x) y3 = 1 - (1 - va * (1 - vb)) * (1 - (1 - va) * vb)
  l4 : litO (allV m st x) y4 = 1 - (1 - vs * va) * (1 - (1 - vs) * vb)
theorem gates_all {n m1 m2 m3 m4 : DNet} {st : List Int} {x y1 y2 y3 y4 : Int} {p1 p2 p3 : Nat} (hP : NetP n) (hS : StateP n st) (n1 : p1 / 2 < netN n) (n2 : p2 / 2 < netN n) (n3 : p3 / 2 < netN n)
    (G1 : Gate n (m1, y1) fun V => bitV V p1 * bitV V p2) (G2 : Gate m1 (m2, y2) fun V => 1 - (1 - bitV V p1) * (1 - bitV V p2)) (G3 : Gate m2 (m3, y3) fun V => 1 - (1 - bitV V p1 * (1 - bitV V p2)) * (1 - (1 - bitV V p1) * bitV V p2)) (G4 : Gate m3 (m4, y4) fun V => 1 - (1 - bitV V p3 * bitV V p1) * (1 - (1 - bitV V p3) * bitV V p2)) :
    GatesP n m4 st x y1 y2 y3 y4 (bitV (allV n st x) p1) (bitV (allV n st x) p2) (bitV (allV n st x) p3) := by
  have hl := hS.len
  obtain ⟨z1, e1, q1, v1⟩ := G1.lit
  obtain ⟨z2, e2, q2, v2⟩ := G2.lit
  obtain ⟨z3, e3, q3, v3⟩ := G3.lit
  obtain ⟨z4, e4, q4, v4⟩ := G4.lit
  dsimp only at e1 e2 e3 e4 q1 q2 q3 q4 v1 v2 v3 v4
  have E1 : Ext n m1 := G1.ext
  have E2 : Ext m1 m2 := G2.ext
  have E3 : Ext m2 m3 := G3.ext
  have E4 : Ext m3 m4 := G4.ext
  have E12 := E1.trans E2
  have E13 := E12.trans E3
  have E14 := E13.trans E4
  have E24 := E3.trans E4
  have E1_4 := E2.trans E24
  have S4 := state_ext E14 hP hS
  have P4 := E14.net hP
  have h1l : st.length = m1.2.1.length := by rw [E1.s]; exact hl
  have h2l : st.length = m2.2.1.length := by rw [E12.s]; exact hl
  have h3l : st.length = m3.2.1.length := by rw [E13.s]; exact hl
  have h4l : st.length = m4.2.1.length := by rw [E14.s]; exact hl
  have N1 := E1.netN
  have N2 := E2.netN
  have N3 := E3.netN
  have N4 := E4.netN
  have hN4 := P4.sz.net_le
  have fit : ∀ z : Nat, z / 2 < netN m4 → Fit (z : Int) := fun z hz => by unfold Fit; omega
  subst e1 e2 e3 e4
  refine ⟨S4, allV_ext E14 st x, ⟨fit z1 (by omega), fit z2 (by omega), fit z3 (by omega), fit z4 (by omega)⟩, ?_, ?_, ?_, ?_⟩
  · rw [lit_litO P4 h4l (by omega), bit_ext E1_4 x h1l q1, v1 st x hl]
  · rw [lit_litO P4 h4l (by omega), bit_ext E24 x h2l q2, v2 st x h1l, bit_ext E1 x hl n1, bit_ext E1 x hl n2]
  · rw [lit_litO P4 h4l (by omega), bit_ext E4 x h3l q3, v3 st x h2l, bit_ext E12 x hl n1, bit_ext E12 x hl n2]
  · rw [lit_litO P4 h4l q4, v4 st x h3l, bit_ext E13 x hl n1, bit_ext E13 x hl n2, bit_ext E13 x hl n3]
theorem bits01 (a b : Int) (ha : a = 0 ∨ a = 1) (hb : b = 0 ∨ b = 1) : bits .and .i64 a b = a * b ∧ bits .or .i64 a b = 1 - (1 - a) * (1 - b) ∧ bits .xor .i64 a b = 1 - (1 - a * (1 - b)) * (1 - (1 - a) * b) := by
  rcases ha with rfl | rfl <;> rcases hb with rfl | rfl <;> decide

set_option maxRecDepth 100000 in
set_option maxHeartbeats 25600000 in
theorem gates_walk (a : Option Addr) (len cap : Nat) (zs : List Int) (w : World) (hw : IsRow .u8 w a len cap zs) :
    Calls Try.prog 3 #[.slice a len cap] w fun e w' => e = .returned (.bool true) ∧ Below w.heap.size w w' := by
  have HCD := Lib.hid hw.codeW
  clear hw
  by_cases hbig : 1048576 < (len : Int)
  · go_enter Try.func3, Try.ntmps3
    go_wp2_with fail
    refine (big_any a len cap _).mono ?_
    rw [decide_eq_true (by omega)]
    rintro e w1 ⟨rfl, rfl⟩
    go_wp2
    go_ret
    exact ⟨rfl, Below.refl _ _⟩
  obtain ⟨x0, hx0, hat0⟩ := at_ex a len cap 0 w HCD.out (by omega)
  obtain ⟨x1, hx1, hat1⟩ := at_ex a len cap 1 w HCD.out (by omega)
  obtain ⟨x2, hx2, hat2⟩ := at_ex a len cap 2 w HCD.out (by omega)
  obtain ⟨x3, hx3, hat3⟩ := at_ex a len cap 3 w HCD.out (by omega)
  have HAT0 := Lib.hid hat0
  have HAT1 := Lib.hid hat1
  have HAT2 := Lib.hid hat2
  have HAT3 := Lib.hid hat3
  clear hat0 hat1 hat2 hat3
  go_enter Try.func3, Try.ntmps3
  go_wp2_with fail
  refine (big_any a len cap _).mono ?_
  rw [decide_eq_false (by omega)]
  rintro e w1 ⟨rfl, rfl⟩
  go_wp2_with fail
  refine (drawNetM_any a len cap _ HCD.out).mono ?_
  rintro e w1 ⟨us, n, rfl, ⟨hrd, hok, h14⟩, hb⟩
  have HBW := Lib.hid hb
  have HP := Lib.hid (netP_of hok)
  replace hrd := good_Net.wider hrd (Nat.zero_le _) (Nat.le_refl _)
  have HD := Lib.hid hrd
  obtain ⟨N, hN⟩ : ∃ N, netN n = N := ⟨_, rfl⟩
  have hN1 := (netP_of hok).sz.net_le
  rw [hN] at hN1
  have HN := Lib.hid hN
  have HNC := Lib.hid (show ncI n = (N : Int) by rw [(netP_of hok).sz.nc, hN])
  have HST := Lib.hid (start_ok hok)
  clear hb hok hN
  obtain ⟨mu0, mu1, mu2, mu3, rfl, mh0, mh1, mh2, mh3⟩ := hrd
  obtain ⟨me0, -⟩ := mh0
  injection me0 with me0
  subst me0
  obtain ⟨mA1, mc1, me1, mm1, -⟩ := slice_of mh1
  subst me1
  have mR1 := Lib.hid mh1
  clear mh1
  obtain ⟨mA2, mc2, me2, mm2, -⟩ := slice_of mh2
  subst me2
  have mR2 := Lib.hid mh2
  clear mh2
  obtain ⟨mA3, mc3, me3, mm3, -⟩ := slice_of mh3
  subst me3
  have mR3 := Lib.hid mh3
  clear mh3
  go_wp2_with fail
  obtain ⟨W0, hV⟩ : ∃ W0, W0 = (w1.alloc (.cells #[.int .i64 n.1, .slice mA1 (n.2.1).length mc1, .slice mA2 (n.2.2.1).length mc2, .slice mA3 (n.2.2.2).length mc3] 28)) := ⟨_, rfl⟩
  rw [← hV]
  have gN := eqbox1 hV
  have d0 : W0.cell? ⟨w1.heap.size, 0, none⟩ = some (.int .i64 n.1) := box_cell gN.1 0 _ rfl
  have d1 : W0.cell? ⟨w1.heap.size, 1, none⟩ = some (.slice mA1 (n.2.1).length mc1) := box_cell gN.1 1 _ rfl
  have d2 : W0.cell? ⟨w1.heap.size, 2, none⟩ = some (.slice mA2 (n.2.2.1).length mc2) := box_cell gN.1 2 _ rfl
  have d3 : W0.cell? ⟨w1.heap.size, 3, none⟩ = some (.slice mA3 (n.2.2.2).length mc3) := box_cell gN.1 3 _ rfl
  have sW0 : W0.heap.size = w1.heap.size + 1 := by rw [hV]; simp
  have HW0 := Lib.hid gN.2
  clear hV gN
  have HB := Lib.hid HW0.out
  clear HW0 sW0
  refine (HAT0.out _ (bThen HBW.out HB.out)).mono ?_
  rintro e w2 ⟨rfl, hb⟩
  replace d0 := keep hb d0
  replace d1 := keep hb d1
  replace d2 := keep hb d2
  replace d3 := keep hb d3
  replace HB := Lib.hid (bThen HB.out hb)
  clear hb
  go_wp2_with fail
  refine (specNc_at n _ _ (rdUp good_Net HD.out HB.out) (Nat.le_refl _) HNC.out).mono ?_
  rintro e w3 ⟨rfl, hb⟩
  replace d0 := keep hb d0
  replace d1 := keep hb d1
  replace d2 := keep hb d2
  replace d3 := keep hb d3
  replace HB := Lib.hid (bThen HB.out hb)
  clear hb
  go_wp2_with fail
  refine (HAT1.out _ (bThen HBW.out HB.out)).mono ?_
  rintro e w4 ⟨rfl, hb⟩
  replace d0 := keep hb d0
  replace d1 := keep hb d1
  replace d2 := keep hb d2
  replace d3 := keep hb d3
  replace HB := Lib.hid (bThen HB.out hb)
  clear hb
  obtain ⟨p1, hp1⟩ : ∃ p : Nat, x1 % (2 * N) = p := ⟨_, rfl⟩
  have hq1 : p1 / 2 < N := by have := Nat.mod_lt x1 (show 0 < 2 * N by omega); omega
  have es1 : (x1 : Int) % (2 * (N : Int)) = (p1 : Int) := by rw [← hp1, Int.natCast_emod]; push_cast; rfl
  clear hp1
  go_wp2_with fail
  rw [es1]
  clear es1
  refine (HAT2.out _ (bThen HBW.out HB.out)).mono ?_
  rintro e w5 ⟨rfl, hb⟩
  replace d0 := keep hb d0
  replace d1 := keep hb d1
  replace d2 := keep hb d2
  replace d3 := keep hb d3
  replace HB := Lib.hid (bThen HB.out hb)
  clear hb
  obtain ⟨p2, hp2⟩ : ∃ p : Nat, x2 % (2 * N) = p := ⟨_, rfl⟩
  have hq2 : p2 / 2 < N := by have := Nat.mod_lt x2 (show 0 < 2 * N by omega); omega
  have es2 : (x2 : Int) % (2 * (N : Int)) = (p2 : Int) := by rw [← hp2, Int.natCast_emod]; push_cast; rfl
  clear hp2
  go_wp2_with fail
  rw [es2]
  clear es2
  refine (HAT3.out _ (bThen HBW.out HB.out)).mono ?_
  rintro e w6 ⟨rfl, hb⟩
  replace d0 := keep hb d0
  replace d1 := keep hb d1
  replace d2 := keep hb d2
  replace d3 := keep hb d3
  replace HB := Lib.hid (bThen HB.out hb)
  clear hb
  obtain ⟨p3, hp3⟩ : ∃ p : Nat, x3 % (2 * N) = p := ⟨_, rfl⟩
  have hq3 : p3 / 2 < N := by have := Nat.mod_lt x3 (show 0 < 2 * N by omega); omega
  have es3 : (x3 : Int) % (2 * (N : Int)) = (p3 : Int) := by rw [← hp3, Int.natCast_emod]; push_cast; rfl
  clear hp3
  go_wp2_with fail
  rw [es3]
  clear es3
  refine (specStart_at n _ _ (rdUp good_Net HD.out HB.out) rfl).mono ?_
  rintro e w7 ⟨vst, rfl, ho, hb⟩
  replace d0 := keep hb d0
  replace d1 := keep hb d1
  replace d2 := keep hb d2
  replace d3 := keep hb d3
  replace HB := Lib.hid (bThen HB.out hb)
  have HSO := Lib.hid ho
  have HSB := Lib.hid (show ∀ b, vst.ownBlock = some b → b < w7.heap.size from fun b e => (ho.lt b e).2)
  have hs7 := hb.size
  clear ho
  clear hb
  have HSF := Lib.hid (state_fit HST.out)
  obtain ⟨V0, hV0⟩ : ∃ V, valO n (startO n) (x0 : Int) = V := ⟨_, rfl⟩
  have HV0 := Lib.hid hV0
  have HVA := Lib.hid (show allV n (startO n) (x0 : Int) = V0 by rw [← valO_all _ HST.out]; exact hV0)
  clear hV0
  go_wp2_with fail
  refine (specVals_at n (startO n) (x0 : Int) _ _ _ (rdUp good_Net HD.out HB.out) (ownI_rd HSO.out HSF.out) HV0.out).mono ?_
  rintro e w8 ⟨vold, rfl, ho, hb⟩
  replace d0 := keep hb d0
  replace d1 := keep hb d1
  replace d2 := keep hb d2
  replace d3 := keep hb d3
  replace HB := Lib.hid (bThen HB.out hb)
  replace HSO := Lib.hid (HSO.out.below hb)
  have HVO := Lib.hid ho
  have HVB0 := Lib.hid (show ∀ b, vold.ownBlock = some b → b < w8.heap.size from fun b e => (ho.lt b e).2)
  have hs8 := hb.size
  clear ho
  clear hb
  have HVF := Lib.hid (show ∀ x ∈ V0, Fit x from by rw [← HV0.out, valO_all _ HST.out]; exact fit_01 (fun j => allV_01 _ HP.out HST.out.len j))
  have HV01 := Lib.hid (fun l => bitV_in V0 l)
  obtain ⟨va, hva⟩ : ∃ v, bitV V0 p1 = v := ⟨_, rfl⟩
  have HL1 := Lib.hid (show litO V0 (p1 : Int) = va by rw [← hva, ← HVA.out]; exact lit_litO HP.out HST.out.len (by rw [HN.out]; exact hq1))
  have Hva := Lib.hid hva
  have Hva01 := Lib.hid (show va = 0 ∨ va = 1 by have := HV01.out p1; rw [hva] at this; omega)
  clear hva
  go_wp2_with fail
  refine (specLitV_at V0 (p1 : Int) (by unfold Fit; omega) _ _ (ownI_rd HVO.out HVF.out) (Nat.le_refl _) HL1.out).mono ?_
  rintro e u1 ⟨rfl, hb⟩
  replace d0 := keep hb d0
  replace d1 := keep hb d1
  replace d2 := keep hb d2
  replace d3 := keep hb d3
  replace HB := Lib.hid (bThen HB.out hb)
  replace HSO := Lib.hid (HSO.out.below hb)
  replace HVO := Lib.hid (HVO.out.below hb)
  have hu1 := hb.size
  clear hb
  obtain ⟨vb, hvb⟩ : ∃ v, bitV V0 p2 = v := ⟨_, rfl⟩
  have HL2 := Lib.hid (show litO V0 (p2 : Int) = vb by rw [← hvb, ← HVA.out]; exact lit_litO HP.out HST.out.len (by rw [HN.out]; exact hq2))
  have Hvb := Lib.hid hvb
  have Hvb01 := Lib.hid (show vb = 0 ∨ vb = 1 by have := HV01.out p2; rw [hvb] at this; omega)
  clear hvb
  go_wp2_with fail
  refine (specLitV_at V0 (p2 : Int) (by unfold Fit; omega) _ _ (ownI_rd HVO.out HVF.out) (Nat.le_refl _) HL2.out).mono ?_
  rintro e u2 ⟨rfl, hb⟩
  replace d0 := keep hb d0
  replace d1 := keep hb d1
  replace d2 := keep hb d2
  replace d3 := keep hb d3
  replace HB := Lib.hid (bThen HB.out hb)
  replace HSO := Lib.hid (HSO.out.below hb)
  replace HVO := Lib.hid (HVO.out.below hb)
  have hu2 := hb.size
  clear hb
  obtain ⟨vs, hvs⟩ : ∃ v, bitV V0 p3 = v := ⟨_, rfl⟩
  have HL3 := Lib.hid (show litO V0 (p3 : Int) = vs by rw [← hvs, ← HVA.out]; exact lit_litO HP.out HST.out.len (by rw [HN.out]; exact hq3))
  have Hvs := Lib.hid hvs
  have Hvs01 := Lib.hid (show vs = 0 ∨ vs = 1 by have := HV01.out p3; rw [hvs] at this; omega)
  clear hvs
  go_wp2_with fail
  refine (specLitV_at V0 (p3 : Int) (by unfold Fit; omega) _ _ (ownI_rd HVO.out HVF.out) (Nat.le_refl _) HL3.out).mono ?_
  rintro e u3 ⟨rfl, hb⟩
  replace d0 := keep hb d0
  replace d1 := keep hb d1
  replace d2 := keep hb d2
  replace d3 := keep hb d3
  replace HB := Lib.hid (bThen HB.out hb)
  replace HSO := Lib.hid (HSO.out.below hb)
  replace HVO := Lib.hid (HVO.out.below hb)
  have hu3 := hb.size
  clear hb
  have HVB := Lib.hid (show ∀ b, vold.ownBlock = some b → b < u3.heap.size from fun b e => by have := HVB0.out b e; omega)
  have HSB2 := Lib.hid (show ∀ b, vst.ownBlock = some b → b < u3.heap.size from fun b e => by have := HSB.out b e; omega)
  clear HSB HVB0
  have HSB := Lib.hid HSB2.out
  clear HSB2
  -- the gates as pure functions
  have n1 : p1 / 2 < netN n := by rw [HN.out]; exact hq1
  have n2 : p2 / 2 < netN n := by rw [HN.out]; exact hq2
  have n3 : p3 / 2 < netN n := by rw [HN.out]; exact hq3
  have G1 := andO_gate HP.out n1 n2 (andO_room HP.out n1 n2 (by omega))
  have L1 := (@andO_len n p1 p2)
  obtain ⟨r1, hr1⟩ : ∃ r, andO n (p1 : Int) (p2 : Int) = r := ⟨_, rfl⟩
  rw [hr1] at G1 L1
  obtain ⟨m1, y1⟩ := r1
  replace L1 : m1.2.2.1.length ≤ n.2.2.1.length + 1 := L1
  have HR1 := Lib.hid hr1
  have P1 : NetP m1 := G1.ext.net HP.out
  have k1 : netN n ≤ netN m1 := G1.ext.netN
  have G2 := orO_gate P1 (p := p1) (q := p2) (by omega) (by omega) (orO_room P1 (by omega) (by omega) (by omega))
  have L2 := (@orO_lenM m1 p1 p2)
  obtain ⟨r2, hr2⟩ : ∃ r, orO m1 (p1 : Int) (p2 : Int) = r := ⟨_, rfl⟩
  rw [hr2] at G2 L2
  obtain ⟨m2, y2⟩ := r2
  replace L2 : m2.2.2.1.length ≤ m1.2.2.1.length + 1 := L2
  have HR2 := Lib.hid hr2
  have P2 : NetP m2 := G2.ext.net P1
  have k2 : netN m1 ≤ netN m2 := G2.ext.netN
  have G3 := xorO_gate P2 (p := p1) (q := p2) (by omega) (by omega) (xorO_room P2 (by omega) (by omega) (by omega))
  have L3 := (@xorO_lenM m2 p1 p2)
  obtain ⟨r3, hr3⟩ : ∃ r, xorO m2 (p1 : Int) (p2 : Int) = r := ⟨_, rfl⟩
  rw [hr3] at G3 L3
  obtain ⟨m3, y3⟩ := r3
  replace L3 : m3.2.2.1.length ≤ m2.2.2.1.length + 3 := L3
  have HR3 := Lib.hid hr3
  have P3 : NetP m3 := G3.ext.net P2
  have k3 : netN m2 ≤ netN m3 := G3.ext.netN
  have G4 := muxO_gate P3 (s := p3) (p := p1) (q := p2) (by omega) (by omega) (by omega) (muxO_room P3 (by omega) (by omega) (by omega) (by omega))
  have L4 := (@muxO_lenM m3 p3 p1 p2)
  obtain ⟨r4, hr4⟩ : ∃ r, muxO m3 (p3 : Int) (p1 : Int) (p2 : Int) = r := ⟨_, rfl⟩
  rw [hr4] at G4 L4
  obtain ⟨m4, y4⟩ := r4
  replace L4 : m4.2.2.1.length ≤ m3.2.2.1.length + 3 := L4
  have HR4 := Lib.hid hr4
  have P4 : NetP m4 := G4.ext.net P3
  have GALL := Lib.hid (gates_all HP.out HST.out (x := (x0 : Int)) n1 n2 n3 G1 G2 G3 G4)
  have HPP := Lib.hid (And.intro P1 (And.intro P2 (And.intro P3 P4)))
  have HLEN := Lib.hid (show m4.2.2.1.length ≤ n.2.2.1.length + 8 by omega)
  clear G1 G2 G3 G4 L1 L2 L3 L4 P1 P2 P3 P4 hr1 hr2 hr3 hr4 n1 n2 n3 k1 k2 k3
  have HD0x := Lib.hid d0
  go_wp2_with fail
  refine (implAddAnd_at n (p1 : Int) (p2 : Int) _ _ (rdUp good_Net HD.out HB.out) (by have := HP.out.sz.s12; omega) (fun s hs => by have := (seq_ins (HP.out.seq s hs)).1; omega) (by have := HP.out.sz.a300; omega) (by have := HP.out.sz.o16; omega) (by unfold Fit; omega) (by unfold Fit; omega) HR1.out).mono ?_
  rintro e v1 ⟨v1, vA, v3, rows, bs, rfl, hnet, hb⟩
  replace d0 := keep hb d0
  replace d1 := keep hb d1
  replace d2 := keep hb d2
  replace d3 := keep hb d3
  replace HB := Lib.hid (bThen HB.out hb)
  replace HSO := Lib.hid (HSO.out.below hb)
  replace HVO := Lib.hid (HVO.out.below hb)
  obtain ⟨A1, a1, rfl⟩ := hnet.s.cap fV3_len
  obtain ⟨B1, b1, rfl⟩ := hnet.a.cap fAnd_len
  obtain ⟨C1, c1, rfl⟩ := hnet.o.cap fInt_len
  have hbs := hb.size
  replace HD0x := Lib.hid (keep hb HD0x.out)
  have HM1 := Lib.hid hnet
  clear hnet
  clear hb
  obtain ⟨b14, hb14⟩ : ∃ b, b = v1.heap.size := ⟨_, rfl⟩
  have HBX := Lib.hid (show Below v1.heap.size v1 (v1.alloc (.cells #[.int .i64 m1.1, .slice A1 m1.2.1.length a1, .slice B1 m1.2.2.1.length b1, .slice C1 m1.2.2.2.length c1] 28)) from bAlloc (Below.refl _ _) (Nat.le_refl _) _)
  have HE14 := Lib.hid (show BoxN (v1.alloc (.cells #[.int .i64 m1.1, .slice A1 m1.2.1.length a1, .slice B1 m1.2.2.1.length b1, .slice C1 m1.2.2.2.length c1] 28)) b14 (.int .i64 m1.1) (.slice A1 m1.2.1.length a1) (.slice B1 m1.2.2.1.length b1) (.slice C1 m1.2.2.2.length c1) by rw [hb14]; exact heap_alloc_new _ _)
  go_wp2_with fail
  obtain ⟨W1, hW⟩ : ∃ W, W = v1.alloc (.cells #[.int .i64 m1.1, .slice A1 m1.2.1.length a1, .slice B1 m1.2.2.1.length b1, .slice C1 m1.2.2.2.length c1] 28) := ⟨_, rfl⟩
  rw [← hW] at HBX HE14 ⊢
  rw [← hb14]
  replace d0 := keep HBX.out d0
  replace d1 := keep HBX.out d1
  replace d2 := keep HBX.out d2
  replace d3 := keep HBX.out d3
  replace HB := Lib.hid (bThen HB.out HBX.out)
  replace HM1 := Lib.hid (HM1.out.below HBX.out)
  replace HSO := Lib.hid (HSO.out.below HBX.out)
  replace HVO := Lib.hid (HVO.out.below HBX.out)
  have hl14 := HE14.out.lt
  have hw14 : w1.heap.size ≠ b14 := by have := World.block_lt_of_cell? v1 _ HD0x.out; dsimp only at this; omega
  have hwl14 : w1.heap.size ≤ b14 := by have := World.block_lt_of_cell? v1 _ HD0x.out; dsimp only at this; omega
  have HSN := Lib.hid (show ∀ b, vst.ownBlock = some b → b ≠ b14 from fun b e => by have := HSB.out b e; omega)
  have HVN := Lib.hid (show ∀ b, vold.ownBlock = some b → b ≠ b14 from fun b e => by have := HVB.out b e; omega)
  clear hW hb14 HBX
  go_wp2_with fail
  refine (implAddOr_at m1 (p1 : Int) (p2 : Int) _ _ HM1.out.rd0 (by have := HPP.out.1.sz.s12; omega) (fun s hs => by have := (seq_ins (HPP.out.1.seq s hs)).1; omega) (by have := HPP.out.1.sz.a300; omega) (by have := HPP.out.1.sz.o16; omega) (by unfold Fit; omega) (by unfold Fit; omega) HR2.out).mono ?_
  rintro e v2 ⟨v1, vA, v3, rows, bs, rfl, hnet, hb⟩
  replace d0 := keep hb d0
  replace d1 := keep hb d1
  replace d2 := keep hb d2
  replace d3 := keep hb d3
  replace HB := Lib.hid (bThen HB.out hb)
  replace HSO := Lib.hid (HSO.out.below hb)
  replace HVO := Lib.hid (HVO.out.below hb)
  obtain ⟨A2, a2, rfl⟩ := hnet.s.cap fV3_len
  obtain ⟨B2, b2, rfl⟩ := hnet.a.cap fAnd_len
  obtain ⟨C2, c2, rfl⟩ := hnet.o.cap fInt_len
  have hbs := hb.size
  replace HE14 := Lib.hid (HE14.out.at (hb.block _ HE14.out.lt))
  have hl14 := HE14.out.lt
  have HM2 := Lib.hid hnet
  clear hnet
  clear hb
  have e0 := HE14.out.cells.1.1
  have e1 := HE14.out.cells.1.2.1
  have e2 := HE14.out.cells.1.2.2.1
  have e3 := HE14.out.cells.1.2.2.2
  have ez := HE14.out.cells.2
  have HLO := Lib.hid (fun (b : Nat) hbm => (HM2.out.lt (b := b) hbm).2)
  go_wp2_with fail
  clear e0 e1 e2 e3 ez
  obtain ⟨W2, hW⟩ : ∃ W, W = ((((v2.setCell ⟨b14, 0, none⟩ (.int .i64 m2.1)).setCell ⟨b14, 1, none⟩ (.slice A2 m2.2.1.length a2)).setCell ⟨b14, 2, none⟩ (.slice B2 m2.2.2.1.length b2)).setCell ⟨b14, 3, none⟩ (.slice C2 m2.2.2.2.length c2)) := ⟨_, rfl⟩
  rw [← hW]
  have hfar : ∀ g, g ≠ b14 → W2.heap[g]? = v2.heap[g]? := fun g hg => by rw [hW]; exact far4 hg
  replace HE14 := Lib.hid (show BoxN W2 b14 (.int .i64 m2.1) (.slice A2 m2.2.1.length a2) (.slice B2 m2.2.2.1.length b2) (.slice C2 m2.2.2.2.length c2) by rw [hW]; exact ((((HE14.out.set0 _).set1 _).set2 _).set3 _))
  replace HB := Lib.hid (show Below w1.heap.size w1 W2 by rw [hW]; exact bSet (bSet (bSet (bSet HB.out (p := ⟨b14, 0, none⟩) hwl14 (.int .i64 m2.1)) (p := ⟨b14, 1, none⟩) hwl14 (.slice A2 m2.2.1.length a2)) (p := ⟨b14, 2, none⟩) hwl14 (.slice B2 m2.2.2.1.length b2)) (p := ⟨b14, 3, none⟩) hwl14 (.slice C2 m2.2.2.2.length c2))
  replace HM2 := Lib.hid (HM2.out.at (w' := W2) fun b _ h2 _ => hfar b (by omega))
  replace HSO := Lib.hid (HSO.out.atI (w' := W2) fun b e => hfar b (HSN.out b e))
  replace HVO := Lib.hid (HVO.out.atI (w' := W2) fun b e => hfar b (HVN.out b e))
  replace hl14 := HE14.out.lt
  replace d0 : W2.cell? ⟨w1.heap.size, 0, none⟩ = some (.int .i64 n.1) := (World.cell?_of_block (hfar _ hw14)).trans d0
  replace d1 : W2.cell? ⟨w1.heap.size, 1, none⟩ = some (.slice mA1 (n.2.1).length mc1) := (World.cell?_of_block (hfar _ hw14)).trans d1
  replace d2 : W2.cell? ⟨w1.heap.size, 2, none⟩ = some (.slice mA2 (n.2.2.1).length mc2) := (World.cell?_of_block (hfar _ hw14)).trans d2
  replace d3 : W2.cell? ⟨w1.heap.size, 3, none⟩ = some (.slice mA3 (n.2.2.2).length mc3) := (World.cell?_of_block (hfar _ hw14)).trans d3
  clear hW hfar HLO HM1
  go_wp2_with fail
  refine (implAddXor_at m2 (p1 : Int) (p2 : Int) _ _ HM2.out.rd0 (by have := HPP.out.2.1.sz.s12; omega) (fun s hs => by have := (seq_ins (HPP.out.2.1.seq s hs)).1; omega) (by have := HPP.out.2.1.sz.a300; omega) (by have := HPP.out.2.1.sz.o16; omega) (by unfold Fit; omega) (by unfold Fit; omega) HR3.out).mono ?_
  rintro e v3 ⟨v1, vA, v3, rows, bs, rfl, hnet, hb⟩
  replace d0 := keep hb d0
  replace d1 := keep hb d1
  replace d2 := keep hb d2
  replace d3 := keep hb d3
  replace HB := Lib.hid (bThen HB.out hb)
  replace HSO := Lib.hid (HSO.out.below hb)
  replace HVO := Lib.hid (HVO.out.below hb)
  obtain ⟨A3, a3, rfl⟩ := hnet.s.cap fV3_len
  obtain ⟨B3, b3, rfl⟩ := hnet.a.cap fAnd_len
  obtain ⟨C3, c3, rfl⟩ := hnet.o.cap fInt_len
  have hbs := hb.size
  replace HE14 := Lib.hid (HE14.out.at (hb.block _ HE14.out.lt))
  have hl14 := HE14.out.lt
  have HM3 := Lib.hid hnet
  clear hnet
  clear hb
  have e0 := HE14.out.cells.1.1
  have e1 := HE14.out.cells.1.2.1
  have e2 := HE14.out.cells.1.2.2.1
  have e3 := HE14.out.cells.1.2.2.2
  have ez := HE14.out.cells.2
  have HLO := Lib.hid (fun (b : Nat) hbm => (HM3.out.lt (b := b) hbm).2)
  go_wp2_with fail
  clear e0 e1 e2 e3 ez
  obtain ⟨W3, hW⟩ : ∃ W, W = ((((v3.setCell ⟨b14, 0, none⟩ (.int .i64 m3.1)).setCell ⟨b14, 1, none⟩ (.slice A3 m3.2.1.length a3)).setCell ⟨b14, 2, none⟩ (.slice B3 m3.2.2.1.length b3)).setCell ⟨b14, 3, none⟩ (.slice C3 m3.2.2.2.length c3)) := ⟨_, rfl⟩
  rw [← hW]
  have hfar : ∀ g, g ≠ b14 → W3.heap[g]? = v3.heap[g]? := fun g hg => by rw [hW]; exact far4 hg
  replace HE14 := Lib.hid (show BoxN W3 b14 (.int .i64 m3.1) (.slice A3 m3.2.1.length a3) (.slice B3 m3.2.2.1.length b3) (.slice C3 m3.2.2.2.length c3) by rw [hW]; exact ((((HE14.out.set0 _).set1 _).set2 _).set3 _))
  replace HB := Lib.hid (show Below w1.heap.size w1 W3 by rw [hW]; exact bSet (bSet (bSet (bSet HB.out (p := ⟨b14, 0, none⟩) hwl14 (.int .i64 m3.1)) (p := ⟨b14, 1, none⟩) hwl14 (.slice A3 m3.2.1.length a3)) (p := ⟨b14, 2, none⟩) hwl14 (.slice B3 m3.2.2.1.length b3)) (p := ⟨b14, 3, none⟩) hwl14 (.slice C3 m3.2.2.2.length c3))
  replace HM3 := Lib.hid (HM3.out.at (w' := W3) fun b _ h2 _ => hfar b (by omega))
  replace HSO := Lib.hid (HSO.out.atI (w' := W3) fun b e => hfar b (HSN.out b e))
  replace HVO := Lib.hid (HVO.out.atI (w' := W3) fun b e => hfar b (HVN.out b e))
  replace hl14 := HE14.out.lt
  replace d0 : W3.cell? ⟨w1.heap.size, 0, none⟩ = some (.int .i64 n.1) := (World.cell?_of_block (hfar _ hw14)).trans d0
  replace d1 : W3.cell? ⟨w1.heap.size, 1, none⟩ = some (.slice mA1 (n.2.1).length mc1) := (World.cell?_of_block (hfar _ hw14)).trans d1
  replace d2 : W3.cell? ⟨w1.heap.size, 2, none⟩ = some (.slice mA2 (n.2.2.1).length mc2) := (World.cell?_of_block (hfar _ hw14)).trans d2
  replace d3 : W3.cell? ⟨w1.heap.size, 3, none⟩ = some (.slice mA3 (n.2.2.2).length mc3) := (World.cell?_of_block (hfar _ hw14)).trans d3
  clear hW hfar HLO HM2
  go_wp2_with fail
  refine (implAddMux_at m3 (p3 : Int) (p1 : Int) (p2 : Int) _ _ HM3.out.rd0 (by have := HPP.out.2.2.1.sz.s12; omega) (fun s hs => by have := (seq_ins (HPP.out.2.2.1.seq s hs)).1; omega) (by have := HPP.out.2.2.1.sz.a300; omega) (by have := HPP.out.2.2.1.sz.o16; omega) (by unfold Fit; omega) (by unfold Fit; omega) (by unfold Fit; omega) HR4.out).mono ?_
  rintro e v4 ⟨v1, vA, v3, rows, bs, rfl, hnet, hb⟩
  replace d0 := keep hb d0
  replace d1 := keep hb d1
  replace d2 := keep hb d2
  replace d3 := keep hb d3
  replace HB := Lib.hid (bThen HB.out hb)
  replace HSO := Lib.hid (HSO.out.below hb)
  replace HVO := Lib.hid (HVO.out.below hb)
  obtain ⟨A4, a4, rfl⟩ := hnet.s.cap fV3_len
  obtain ⟨B4, b4, rfl⟩ := hnet.a.cap fAnd_len
  obtain ⟨C4, c4, rfl⟩ := hnet.o.cap fInt_len
  have hbs := hb.size
  replace HE14 := Lib.hid (HE14.out.at (hb.block _ HE14.out.lt))
  have hl14 := HE14.out.lt
  have HM4 := Lib.hid hnet
  clear hnet
  clear hb
  have e0 := HE14.out.cells.1.1
  have e1 := HE14.out.cells.1.2.1
  have e2 := HE14.out.cells.1.2.2.1
  have e3 := HE14.out.cells.1.2.2.2
  have ez := HE14.out.cells.2
  have HLO := Lib.hid (fun (b : Nat) hbm => (HM4.out.lt (b := b) hbm).2)
  go_wp2_with fail
  clear e0 e1 e2 e3 ez
  obtain ⟨W4, hW⟩ : ∃ W, W = ((((v4.setCell ⟨b14, 0, none⟩ (.int .i64 m4.1)).setCell ⟨b14, 1, none⟩ (.slice A4 m4.2.1.length a4)).setCell ⟨b14, 2, none⟩ (.slice B4 m4.2.2.1.length b4)).setCell ⟨b14, 3, none⟩ (.slice C4 m4.2.2.2.length c4)) := ⟨_, rfl⟩
  rw [← hW]
  have hfar : ∀ g, g ≠ b14 → W4.heap[g]? = v4.heap[g]? := fun g hg => by rw [hW]; exact far4 hg
  replace HE14 := Lib.hid (show BoxN W4 b14 (.int .i64 m4.1) (.slice A4 m4.2.1.length a4) (.slice B4 m4.2.2.1.length b4) (.slice C4 m4.2.2.2.length c4) by rw [hW]; exact ((((HE14.out.set0 _).set1 _).set2 _).set3 _))
  replace HB := Lib.hid (show Below w1.heap.size w1 W4 by rw [hW]; exact bSet (bSet (bSet (bSet HB.out (p := ⟨b14, 0, none⟩) hwl14 (.int .i64 m4.1)) (p := ⟨b14, 1, none⟩) hwl14 (.slice A4 m4.2.1.length a4)) (p := ⟨b14, 2, none⟩) hwl14 (.slice B4 m4.2.2.1.length b4)) (p := ⟨b14, 3, none⟩) hwl14 (.slice C4 m4.2.2.2.length c4))
  replace HM4 := Lib.hid (HM4.out.at (w' := W4) fun b _ h2 _ => hfar b (by omega))
  replace HSO := Lib.hid (HSO.out.atI (w' := W4) fun b e => hfar b (HSN.out b e))
  replace HVO := Lib.hid (HVO.out.atI (w' := W4) fun b e => hfar b (HVN.out b e))
  replace hl14 := HE14.out.lt
  replace d0 : W4.cell? ⟨w1.heap.size, 0, none⟩ = some (.int .i64 n.1) := (World.cell?_of_block (hfar _ hw14)).trans d0
  replace d1 : W4.cell? ⟨w1.heap.size, 1, none⟩ = some (.slice mA1 (n.2.1).length mc1) := (World.cell?_of_block (hfar _ hw14)).trans d1
  replace d2 : W4.cell? ⟨w1.heap.size, 2, none⟩ = some (.slice mA2 (n.2.2.1).length mc2) := (World.cell?_of_block (hfar _ hw14)).trans d2
  replace d3 : W4.cell? ⟨w1.heap.size, 3, none⟩ = some (.slice mA3 (n.2.2.2).length mc3) := (World.cell?_of_block (hfar _ hw14)).trans d3
  clear hW hfar HLO HM3
  have HW4S := Lib.hid HM4.out
  obtain ⟨V4, hV4⟩ : ∃ V, valO m4 (startO n) (x0 : Int) = V := ⟨_, rfl⟩
  have HV4 := Lib.hid hV4
  have HVA4 := Lib.hid (show allV m4 (startO n) (x0 : Int) = V4 by rw [← valO_all _ GALL.out.sp]; exact hV4)
  clear hV4
  have HVF4 := Lib.hid (show ∀ x ∈ V4, Fit x from by rw [← HVA4.out]; exact fit_01 (fun j => allV_01 _ HPP.out.2.2.2 GALL.out.sp.len j))
  have HOLD := Lib.hid (show ∃ L, V4 = V0 ++ L by obtain ⟨L, hL⟩ := GALL.out.old; exact ⟨L, by rw [← HVA4.out, ← HVA.out]; exact hL⟩)
  have HG1 := Lib.hid (show litO V4 y1 = va * vb by rw [← HVA4.out, ← Hva.out, ← Hvb.out, ← HVA.out]; exact GALL.out.l1)
  have HG2 := Lib.hid (show litO V4 y2 = 1 - (1 - va) * (1 - vb) by rw [← HVA4.out, ← Hva.out, ← Hvb.out, ← HVA.out]; exact GALL.out.l2)
  have HG3 := Lib.hid (show litO V4 y3 = 1 - (1 - va * (1 - vb)) * (1 - (1 - va) * vb) by rw [← HVA4.out, ← Hva.out, ← Hvb.out, ← HVA.out]; exact GALL.out.l3)
  have HG4 := Lib.hid (show litO V4 y4 = 1 - (1 - vs * va) * (1 - (1 - vs) * vb) by rw [← HVA4.out, ← Hva.out, ← Hvb.out, ← Hvs.out, ← HVA.out]; exact GALL.out.l4)
  have HB01 := Lib.hid (bits01 va vb Hva01.out Hvb01.out)
  have HT1 := Lib.hid (show litO V4 y1 = bits .and .i64 va vb by rw [HB01.out.1]; exact HG1.out)
  have HT2 := Lib.hid (show litO V4 y2 = bits .or .i64 va vb by rw [HB01.out.2.1]; exact HG2.out)
  have HT3 := Lib.hid (show litO V4 y3 = bits .xor .i64 va vb by rw [HB01.out.2.2]; exact HG3.out)
  have HFT := Lib.hid GALL.out.f
  go_wp2_with fail
  refine (implVals_at m4 (startO n) (x0 : Int) _ _ _ HM4.out.rd0 (ownI_rd HSO.out HSF.out) HV4.out).mono ?_
  rintro e w9 ⟨v4, rfl, ho, hb⟩
  replace d0 := keep hb d0
  replace d1 := keep hb d1
  replace d2 := keep hb d2
  replace d3 := keep hb d3
  replace HB := Lib.hid (bThen HB.out hb)
  replace HVO := Lib.hid (HVO.out.below hb)
  replace HE14 := Lib.hid (HE14.out.at (hb.block _ HE14.out.lt))
  have HV4O := Lib.hid ho
  clear ho
  clear hb
  have c2 := HE14.out.cells.1.2.2.1
  obtain ⟨vA, vc, rfl, hcell⟩ := HVO.out.shape
  have HCELL := Lib.hid hcell
  have hv0 : V0.length ≤ 1000 := by rw [← HVA.out, allV_len _ HST.out.len, HN.out]; omega
  have HD0 := Lib.hid (And.intro d0 (And.intro d1 (And.intro d2 (And.intro d3 c2))))
  clear hcell HVN HSN HVB HSB HM4 HW4S HE14 HSO d0 d1 d2 d3 c2
  go_wp2_with fail
  go_loopw [20] (fun z wr => ∃ k : Nat, k ≤ V0.length ∧ z = .int .i64 (k : Int) ∧ Below w9.heap.size w9 wr) (fun z _ => V0.length - (intOf z).toNat)
  case atStart => exact ⟨0, Nat.zero_le _, rfl, Below.refl _ _⟩
  case round =>
    obtain ⟨k, hk, rfl, hbel⟩ := hrel
    obtain ⟨w10, rfl⟩ : ∃ w10, w10 = wr := ⟨_, rfl⟩
    have HB9 := Lib.hid hbel
    replace HV4O := Lib.hid (HV4O.out.below hbel)
    by_cases hlt : k < V0.length
    · obtain ⟨gO, rfl, h1, -⟩ := HCELL.out k hlt
      obtain ⟨y, hy⟩ : ∃ y, V0[k]? = some y := ⟨_, List.getElem?_eq_getElem hlt⟩
      have ey : V0.getD k 0 = y := by rw [List.getD_eq_getElem?_getD, hy]; rfl
      have HX4 := Lib.hid (show V4[k]? = some y by obtain ⟨L, hL⟩ := HOLD.out; rw [hL, List.getElem?_append_left hlt]; exact hy)
      rw [ey] at h1
      have x2 := keep hbel h1
      have tk : (k : Int) < (V0.length : Int) := by omega
      clear h1 ey hy hbel HCELL HVO
      go_wp2_with fail
      have hS0 : (fun w' => Below w10.heap.size w10 w' ∧ w'.cell? ⟨gO, k, none⟩ = some (.int .i64 y)) w10 := ⟨Below.refl _ _, x2⟩
      have hS : ∀ {w0 w' : World}, (fun w' => Below w10.heap.size w10 w' ∧ w'.cell? ⟨gO, k, none⟩ = some (.int .i64 y)) w0 → Below w0.heap.size w0 w' → (fun w' => Below w10.heap.size w10 w' ∧ w'.cell? ⟨gO, k, none⟩ = some (.int .i64 y)) w' := fun h hb => ⟨bThen h.1 hb, keep hb h.2⟩
      dsimp only at hS0 hS
      refine wp_region_noPanic ?_
      refine wp_region_kept 7 8 (fun w' => Below w10.heap.size w10 w' ∧ w'.cell? ⟨gO, k, none⟩ = some (.int .i64 y)) (by kernel_rfl) rfl (hS hS0 (Below.drew (Below.refl _ _))) (fun hK0 => ?_)
      refine Kept.take (v := ?vl0) 0 (by kernel_rfl) rfl (by kernel_rfl) (fun _ _ _ h => h) (Or.inl ⟨by rfl, ?hyl0⟩) hK0 ?restl0
      case hyl0 =>
        intro w0 hSw
        (try dsimp only at hSw)
        go_simp
        all_goals (with_reducible rfl)
      (try simp only [Act.put, List.setIfInBounds_toArray, List.set_cons_zero, List.set_cons_succ])
      refine Kept.take (v := ?vl1) 1 (by kernel_rfl) rfl (by kernel_rfl) (fun _ _ _ h => h) (Or.inl ⟨by rfl, ?hyl1⟩) hK0 ?restl1
      case hyl1 =>
        intro w0 hSw
        (try dsimp only at hSw)
        go_simp
        all_goals (with_reducible rfl)
      (try simp only [Act.put, List.setIfInBounds_toArray, List.set_cons_zero, List.set_cons_succ])
      refine Kept.take (v := ?vl3) 3 (by kernel_rfl) rfl (by kernel_rfl) (fun _ _ _ h => h) (Or.inl ⟨by rfl, ?hyl3⟩) hK0 ?restl3
      case hyl3 =>
        intro w0 hSw
        (try dsimp only at hSw)
        go_simp
        all_goals (with_reducible rfl)
      (try simp only [Act.put, List.setIfInBounds_toArray, List.set_cons_zero, List.set_cons_succ])
      refine Kept.take (v := ?vl4) 4 (by kernel_rfl) rfl (by kernel_rfl) (fun _ _ _ h => h) (Or.inl ⟨by rfl, ?hyl4⟩) hK0 ?restl4
      case hyl4 =>
        intro w0 hSw
        (try dsimp only at hSw)
        go_simp
        all_goals (with_reducible rfl)
      (try simp only [Act.put, List.setIfInBounds_toArray, List.set_cons_zero, List.set_cons_succ])
      refine Kept.take (v := ?vl5) 5 (by kernel_rfl) rfl (by kernel_rfl) (fun _ _ _ h => h) (Or.inl ⟨by rfl, ?hyl5⟩) hK0 ?restl5
      case hyl5 =>
        intro w0 hSw
        (try dsimp only at hSw)
        go_simp
        all_goals (with_reducible rfl)
      (try simp only [Act.put, List.setIfInBounds_toArray, List.set_cons_zero, List.set_cons_succ])
      refine Kept.take (v := ?vl6) 6 (by kernel_rfl) rfl (by kernel_rfl) (fun _ _ _ h => h) (Or.inl ⟨by rfl, ?hyl6⟩) hK0 ?restl6
      case hyl6 =>
        intro w0 hSw
        (try dsimp only at hSw)
        go_simp
        all_goals (with_reducible rfl)
      (try simp only [Act.put, List.setIfInBounds_toArray, List.set_cons_zero, List.set_cons_succ])
      refine Kept.one 2 (by kernel_rfl) rfl (fun K hK => ?_)
      go_simp
      go_at_call 25
      refine (get_at V4 k v4 _ (ownI_rd (HV4O.out.below hK0.1) HVF4.out) (Nat.le_refl _) HX4.out).mono ?_
      rintro e w11 ⟨rfl, hb4⟩
      go_simp
      refine hK.out _ _ (hS hK0 hb4) (fun hK1 => ?_)
      clear hK K hK0
      (try simp only [Act.put, List.setIfInBounds_toArray, List.set_cons_zero, List.set_cons_succ])
      refine Kept.tail (by rfl) (by kernel_rfl) ?_
      simp only [List.drop_succ_cons, List.drop_zero]
      have HBL := Lib.hid (bThen HB9.out hK1.1)
      clear hK1 hS hS0 x2
      go_wp2
      refine NoPanic.normal ?_
      go_wp2
      go_roundw
      case rel => exact ⟨k + 1, by omega, by go_num, HBL.out⟩
      case measure => simp [intOf] <;> omega
    · obtain rfl : V0.length = k := by omega
      clear hlt hbel
      have HBF := Lib.hid (bThen HB.out HB9.out)
      have d0 := keep HB9.out HD0.out.1
      have d1 := keep HB9.out HD0.out.2.1
      have d2 := keep HB9.out HD0.out.2.2.1
      have d3 := keep HB9.out HD0.out.2.2.2.1
      have c2 := keep HB9.out HD0.out.2.2.2.2
      clear HD0 HB9 HB
      have HB := Lib.hid HBF.out
      clear HBF
      have tl : (m4.2.2.1.length : Int) ≤ (n.2.2.1.length : Int) + 8 := by have := HLEN.out; omega
      rcases Hvs01.out with e | e
      · have HT4 := Lib.hid (show litO V4 y4 = vb by rw [HG4.out, e]; simp; omega)
        have tv : (0 : Int) = 1 ∨ True := Or.inr trivial
        subst e
        clear tv HG4
        go_wp2_with fail
        refine (implLitV_at V4 y1 HFT.out.1 v4 _ (ownI_rd HV4O.out HVF4.out) (Nat.le_refl _) HT1.out).mono ?_
        rintro e z1 ⟨rfl, hb⟩
        replace d0 := keep hb d0
        replace d1 := keep hb d1
        replace d2 := keep hb d2
        replace d3 := keep hb d3
        replace c2 := keep hb c2
        replace HB := Lib.hid (bThen HB.out hb)
        replace HV4O := Lib.hid (HV4O.out.below hb)
        clear hb
        go_wp2_with fail
        refine (implLitV_at V4 y2 HFT.out.2.1 v4 _ (ownI_rd HV4O.out HVF4.out) (Nat.le_refl _) HT2.out).mono ?_
        rintro e z2 ⟨rfl, hb⟩
        replace d0 := keep hb d0
        replace d1 := keep hb d1
        replace d2 := keep hb d2
        replace d3 := keep hb d3
        replace c2 := keep hb c2
        replace HB := Lib.hid (bThen HB.out hb)
        replace HV4O := Lib.hid (HV4O.out.below hb)
        clear hb
        go_wp2_with fail
        refine (implLitV_at V4 y3 HFT.out.2.2.1 v4 _ (ownI_rd HV4O.out HVF4.out) (Nat.le_refl _) HT3.out).mono ?_
        rintro e z3 ⟨rfl, hb⟩
        replace d0 := keep hb d0
        replace d1 := keep hb d1
        replace d2 := keep hb d2
        replace d3 := keep hb d3
        replace c2 := keep hb c2
        replace HB := Lib.hid (bThen HB.out hb)
        replace HV4O := Lib.hid (HV4O.out.below hb)
        clear hb
        go_wp2_with fail
        refine (implLitV_at V4 y4 HFT.out.2.2.2 v4 _ (ownI_rd HV4O.out HVF4.out) (Nat.le_refl _) HT4.out).mono ?_
        rintro e z4 ⟨rfl, hb⟩
        replace d0 := keep hb d0
        replace d1 := keep hb d1
        replace d2 := keep hb d2
        replace d3 := keep hb d3
        replace c2 := keep hb c2
        replace HB := Lib.hid (bThen HB.out hb)
        replace HV4O := Lib.hid (HV4O.out.below hb)
        clear hb
        go_wp2
        go_ret
        exact ⟨rfl, bThen HBW.out HB.out⟩
      · have HT4 := Lib.hid (show litO V4 y4 = va by rw [HG4.out, e]; simp; omega)
        have tv : (1 : Int) = 1 ∨ True := Or.inr trivial
        subst e
        clear tv HG4
        go_wp2_with fail
        refine (implLitV_at V4 y1 HFT.out.1 v4 _ (ownI_rd HV4O.out HVF4.out) (Nat.le_refl _) HT1.out).mono ?_
        rintro e z1 ⟨rfl, hb⟩
        replace d0 := keep hb d0
        replace d1 := keep hb d1
        replace d2 := keep hb d2
        replace d3 := keep hb d3
        replace c2 := keep hb c2
        replace HB := Lib.hid (bThen HB.out hb)
        replace HV4O := Lib.hid (HV4O.out.below hb)
        clear hb
        go_wp2_with fail
        refine (implLitV_at V4 y2 HFT.out.2.1 v4 _ (ownI_rd HV4O.out HVF4.out) (Nat.le_refl _) HT2.out).mono ?_
        rintro e z2 ⟨rfl, hb⟩
        replace d0 := keep hb d0
        replace d1 := keep hb d1
        replace d2 := keep hb d2
        replace d3 := keep hb d3
        replace c2 := keep hb c2
        replace HB := Lib.hid (bThen HB.out hb)
        replace HV4O := Lib.hid (HV4O.out.below hb)
        clear hb
        go_wp2_with fail
        refine (implLitV_at V4 y3 HFT.out.2.2.1 v4 _ (ownI_rd HV4O.out HVF4.out) (Nat.le_refl _) HT3.out).mono ?_
        rintro e z3 ⟨rfl, hb⟩
        replace d0 := keep hb d0
        replace d1 := keep hb d1
        replace d2 := keep hb d2
        replace d3 := keep hb d3
        replace c2 := keep hb c2
        replace HB := Lib.hid (bThen HB.out hb)
        replace HV4O := Lib.hid (HV4O.out.below hb)
        clear hb
        go_wp2_with fail
        refine (implLitV_at V4 y4 HFT.out.2.2.2 v4 _ (ownI_rd HV4O.out HVF4.out) (Nat.le_refl _) HT4.out).mono ?_
        rintro e z4 ⟨rfl, hb⟩
        replace d0 := keep hb d0
        replace d1 := keep hb d1
        replace d2 := keep hb d2
        replace d3 := keep hb d3
        replace c2 := keep hb c2
        replace HB := Lib.hid (bThen HB.out hb)
        replace HV4O := Lib.hid (HV4O.out.below hb)
        clear hb
        go_wp2
        go_ret
        exact ⟨rfl, bThen HBW.out HB.out⟩
end Go.Proofs.Ytfncjgmmiihibaa
