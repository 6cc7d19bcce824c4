/-
  Net5, Net6, Net7, Net8 as one text.
-/
import Derived.Test.YtedamhkcblemdaaNeA
import Derived.Deep.RegionHeld3
/- Net5: Roots, both sides; the nodes of the roots. -/
namespace Go.Proofs.Ytedamhkcblemdaa
open Go.RowKit
set_option linter.unusedVariables false
set_option linter.unusedSimpArgs false

def rootsO (n : DNet) : List Int := if netB n then rootsL n else []
theorem net_parts {n : DNet} (h : netB n = true) : sizesB n = true ∧ n.2.1.all seqB = true := by
  unfold netB at h
  simp only [Bool.and_eq_true] at h
  exact ⟨h.1, h.2.1⟩
theorem rootsO_in {n : DNet} {us : List Value} {B T : Nat} {w : World} (h : rdNet B T w us n) : ∀ x ∈ rootsO n, Fit x := by
  unfold rootsO
  split
  · exact roots_fit h
  · simp
theorem rootsO_len (n : DNet) : (rootsO n).length ≤ 64 := by
  unfold rootsO
  split
  · rename_i h; exact (netP_of h).roots_le
  · simp
/-- The nodes of literals. -/
def nodesL (R : List Int) : List Int := R.map fun r => ((r.toNat / 2 : Nat) : Int)
theorem nodes_step {R : List Int} {k x : Nat} (h : R[k]? = some (x : Int)) : nodesL (R.take (k + 1)) = nodesL (R.take k) ++ [((x / 2 : Nat) : Int)] := by
  unfold nodesL; rw [List.take_add_one, h, List.map_append]; simp
theorem nodes_len (R : List Int) : (nodesL R).length = R.length := by unfold nodesL; simp

set_option maxRecDepth 100000 in
set_option maxHeartbeats 6400000 in
theorem rootNodes_at (n : DNet) (us : List Value) (w : World) (h : rdNet 0 w.heap.size w us n) (hP : NetP n) (hb : sizesB n = true ∧ n.2.1.all seqB = true) :
    Calls Try.prog 62 #[.agg us.toArray] w fun e w' => ∃ v, e = .returned v ∧ OwnsI w' w.heap.size v (nodesL (rootsL n)) ∧ Below w.heap.size w w' := by
  obtain ⟨i0, hi, hz0, hz1, hz2⟩ := info_parts infoI
  have HD := Lib.hid h
  have HP := Lib.hid hP
  have H2 := Lib.hid hb
  have hr64 := hP.roots_le
  clear hP hb
  obtain ⟨mu0, mu1, mu2, mu3, rfl, mh0, mh1, mh2, mh3⟩ := h
  obtain ⟨me0, -⟩ := mh0
  injection me0 with me0
  subst me0
  obtain ⟨mA1, mc1, me1, mm1, -⟩ := slice_of mh1
  subst me1
  have mR1 := Lib.hid mh1
  clear mh1
  obtain ⟨mA2, mc2, me2, mm2, -⟩ := slice_of mh2
  subst me2
  have mR2 := Lib.hid mh2
  clear mh2
  obtain ⟨mA3, mc3, me3, mm3, -⟩ := slice_of mh3
  subst me3
  have mR3 := Lib.hid mh3
  clear mh3
  go_enter Try.func62, Try.ntmps62
  go_wp2_with fail
  obtain ⟨W0, hV⟩ : ∃ W0, W0 = (w.alloc (.cells #[.int .i64 n.1, .slice mA1 (n.2.1).length mc1, .slice mA2 (n.2.2.1).length mc2, .slice mA3 (n.2.2.2).length mc3] 36)) := ⟨_, rfl⟩
  rw [← hV]
  have gN := eqbox1 hV
  have d0 : W0.cell? ⟨w.heap.size, 0, none⟩ = some (.int .i64 n.1) := box_cell gN.1 0 _ rfl
  have d1 : W0.cell? ⟨w.heap.size, 1, none⟩ = some (.slice mA1 (n.2.1).length mc1) := box_cell gN.1 1 _ rfl
  have d2 : W0.cell? ⟨w.heap.size, 2, none⟩ = some (.slice mA2 (n.2.2.1).length mc2) := box_cell gN.1 2 _ rfl
  have d3 : W0.cell? ⟨w.heap.size, 3, none⟩ = some (.slice mA3 (n.2.2.2).length mc3) := box_cell gN.1 3 _ rfl
  have sW0 : W0.heap.size = w.heap.size + 1 := by rw [hV]; simp
  have HW0 := Lib.hid gN.2
  clear hV gN
  refine (implRoots_at n _ _ (rdUp good_Net HD.out HW0.out) H2.out.1 H2.out.2).mono ?_
  rintro e w1 ⟨v, rfl, ho, hb⟩
  obtain ⟨rA, rc, rfl, -⟩ := ho.shape
  have HO := Lib.hid ho
  have HB1 := Lib.hid (bThen HW0.out hb)
  clear hb ho d0 d1 d2 d3
  obtain ⟨R, hR⟩ : ∃ R, rootsL n = R := ⟨_, rfl⟩
  have HRR := Lib.hid hR
  have HRP := Lib.hid (show ∀ k x, R[k]? = some x → ∃ l : Nat, x = (l : Int) ∧ l / 2 < netN n from fun k x h => HP.out.root x (by rw [hR]; exact List.mem_of_getElem? h))
  rw [hR] at HO hr64 ⊢
  have HRF := Lib.hid (show ∀ x ∈ R, Fit x by rw [← hR]; exact roots_fit HD.out)
  clear hR
  go_wp2
  go_loopw [3, 9] (fun v x wr => ∃ (k : Nat) (A : Option Addr) (c : Nat), k ≤ R.length ∧ x = .int .i64 (k : Int) ∧ v = .slice A k c ∧ OwnsI wr w1.heap.size (.slice A k c) (nodesL (R.take k)) ∧ Below w1.heap.size w1 wr) (fun _ x _ => R.length - (intOf x).toNat)
  case atStart => exact ⟨0, none, 0, Nat.zero_le _, rfl, rfl, own_nilI _ _, Below.refl _ _⟩
  case round =>
    obtain ⟨k, A, c, hk, rfl, rfl, hown, hb⟩ := hrel
    obtain ⟨w2, rfl⟩ : ∃ w2, w2 = wr := ⟨_, rfl⟩
    have HN := Lib.hid hown
    have HB0 := Lib.hid hb
    have HB := Lib.hid (bThen HB1.out hb)
    clear hown hb
    by_cases hlt : k < R.length
    · obtain ⟨x, hx⟩ : ∃ x, R[k]? = some x := ⟨_, List.getElem?_eq_getElem hlt⟩
      obtain ⟨l, rfl, hl⟩ := HRP.out k x hx
      have hr0 := ownI_rd (HO.out.below HB0.out) HRF.out
      obtain ⟨xb, xq, rfl, xlt, xc, xf⟩ := at_Int hr0 hx
      have HS := Lib.hid (nodes_step hx)
      have hlen : (nodesL (R.take k)).length = k := by rw [nodes_len, List.length_take]; omega
      have HLEN := Lib.hid hlen
      unfold Fit at xf
      have l63 : l ≤ 9223372036854775807 := by omega
      clear hx xf hr0 hl hlen
      go_wp2_with fail
      refine (nodeOf_at l _ l63).mono ?_
      rintro e w3 ⟨rfl, hb3⟩
      obtain ⟨q, hq⟩ : ∃ q : Int, ((l / 2 : Nat) : Int) = q := ⟨_, rfl⟩
      rw [hq] at HS ⊢
      have HQ := Lib.hid hq
      have HB3 := Lib.hid (bThen HB0.out hb3)
      have HBA := Lib.hid (show Below w3.heap.size w3 (w3.alloc (.cells #[.int .i64 q] 3)) from bAlloc (Below.refl _ _) (Nat.le_refl _) _)
      have HN3 := Lib.hid (HN.out.below (bThen hb3 HBA.out))
      have HBB := Lib.hid (bThen HB3.out HBA.out)
      have hsz := HBB.out.size
      have hrow := HN3.out
      unfold OwnsI at hrow
      rw [HLEN.out] at hrow
      have HROW := Lib.hid hrow
      clear hq hb3 xc hrow
      go_wp2_with (at_builtin; refine wpList_append_all (by rfl) _ _ 24 (by rfl) w1.heap.size 3 i0 (.int .i64 0) 1 8 Try.underlying24 hi hz0 hz1 hz2 rfl (by omega) (.slice A k c) k ((nodesL (R.take k)).map vI) (by rfl) HROW.out (some ⟨w3.heap.size, 0, none⟩) 1 1 [.int .i64 q] (by rfl) (by rfl) (.inr ⟨_, rfl, World.news_of_block (heap_alloc_new _ _)⟩) (by simp [Value.oneCell']) (by unfold maxLen; omega) (by omega) hsz ?_; intro A' c' w4 hown hgrow hkeep hat)
      have HB4 := Lib.hid (HBB.out.grown hgrow HBB.out.size (fun g hg => (HN.out.lt g hg).1))
      have HO4 := Lib.hid (show OwnsI w4 w1.heap.size (.slice A' (k + 1) c') (nodesL (R.take k) ++ [q]) from (by unfold OwnsI; rw [List.length_append, HLEN.out, List.map_append]; exact hown))
      clear hown hgrow hkeep hat hsz
      go_roundw
      case rel => exact ⟨k + 1, A', c', by omega, by go_num, by go_num, by rw [HS.out]; exact HO4.out, HB4.out⟩
      case measure => simp [intOf]; omega
    · obtain rfl : k = R.length := by omega
      have HE := HN
      rw [List.take_length] at HE
      clear hlt
      go_wp2
      go_ret
      exact ⟨_, rfl, by rw [HRR.out]; exact HE.out.lower HB1.out.size, HB.out⟩
end Go.Proofs.Ytedamhkcblemdaa
/- Net6: levels: the program. -/
namespace Go.Proofs.Ytedamhkcblemdaa
open Go.RowKit
set_option linter.unusedVariables false
set_option linter.unusedSimpArgs false

theorem andNode_to (n : DNet) (k : Nat) (us : List Value) {B T : Nat} (w : World) (h : rdNet B T w us n) (hT : T ≤ w.heap.size) (hS : SizeP n) (hk : k ≤ 300) {f : Nat} (hf : firN n + k = f) :
    Calls Try.prog 72 #[.agg us.toArray, .int .i64 (k : Int)] w fun e w' => e = .returned (.int .i64 (f : Int)) ∧ Below w.heap.size w w' := by
  subst hf; exact andNode_at n k us w h hT hS hk
theorem nodeOf_to (l : Nat) (w : World) (hl : l ≤ 9223372036854775807) {p : Nat} (hp : l / 2 = p) :
    Calls Try.prog 105 #[.int .i64 (l : Int)] w fun e w' => e = .returned (.int .i64 (p : Int)) ∧ Below w.heap.size w w' := by
  subst hp; exact nodeOf_at l w hl
set_option maxRecDepth 100000 in
set_option maxHeartbeats 12800000 in
theorem levels_at (n : DNet) (us : List Value) (w : World) (h : rdNet 0 w.heap.size w us n) (hP : NetP n) :
    Calls Try.prog 61 #[.agg us.toArray] w fun e w' => ∃ g, e = .returned (.slice (some ⟨g, 0, none⟩) (netN n) (netN n)) ∧ OwnsI w' w.heap.size (.slice (some ⟨g, 0, none⟩) (netN n) (netN n)) (levK n n.2.2.1.length) ∧ Below w.heap.size w w' := by
  obtain ⟨i0, hi, hz0, hz1, hz2⟩ := info_parts infoI
  have HD := Lib.hid h
  have HP := Lib.hid hP
  have HSP := Lib.hid hP.sz
  have a300 := hP.sz.a300
  obtain ⟨N, hN⟩ : ∃ N : Nat, netN n = N := ⟨_, rfl⟩
  have hN3 : N ≤ 333 := by rw [← hN]; exact hP.sz.net_le.1
  have HNC := Lib.hid (show ncI n = (N : Int) by rw [hP.sz.nc, hN])
  have HN := Lib.hid hN
  rw [hN]
  clear hP hN
  obtain ⟨mu0, mu1, mu2, mu3, rfl, mh0, mh1, mh2, mh3⟩ := h
  obtain ⟨me0, -⟩ := mh0
  injection me0 with me0
  subst me0
  obtain ⟨mA1, mc1, me1, mm1, -⟩ := slice_of mh1
  subst me1
  have mR1 := Lib.hid mh1
  clear mh1
  obtain ⟨mA2, mc2, me2, mm2, -⟩ := slice_of mh2
  subst me2
  have mR2 := Lib.hid mh2
  clear mh2
  obtain ⟨mA3, mc3, me3, mm3, -⟩ := slice_of mh3
  subst me3
  have mR3 := Lib.hid mh3
  clear mh3
  go_enter Try.func61, Try.ntmps61
  go_wp2_with fail
  obtain ⟨W0, hV⟩ : ∃ W0, W0 = (w.alloc (.cells #[.int .i64 n.1, .slice mA1 (n.2.1).length mc1, .slice mA2 (n.2.2.1).length mc2, .slice mA3 (n.2.2.2).length mc3] 36)) := ⟨_, rfl⟩
  rw [← hV]
  have gN := eqbox1 hV
  have d0 : W0.cell? ⟨w.heap.size, 0, none⟩ = some (.int .i64 n.1) := box_cell gN.1 0 _ rfl
  have d1 : W0.cell? ⟨w.heap.size, 1, none⟩ = some (.slice mA1 (n.2.1).length mc1) := box_cell gN.1 1 _ rfl
  have d2 : W0.cell? ⟨w.heap.size, 2, none⟩ = some (.slice mA2 (n.2.2.1).length mc2) := box_cell gN.1 2 _ rfl
  have d3 : W0.cell? ⟨w.heap.size, 3, none⟩ = some (.slice mA3 (n.2.2.2).length mc3) := box_cell gN.1 3 _ rfl
  have sW0 : W0.heap.size = w.heap.size + 1 := by rw [hV]; simp
  have HW0 := Lib.hid gN.2
  clear hV gN
  refine (implNc_at n _ _ (rdUp good_Net HD.out HW0.out) (Nat.le_refl _) HNC.out).mono ?_
  rintro e w1 ⟨rfl, hb⟩
  have HE0 := Lib.hid d0
  have HE1 := Lib.hid d1
  have HE2 := Lib.hid d2
  have HE3 := Lib.hid d3
  replace d0 := keep hb d0
  replace d1 := keep hb d1
  replace d2 := keep hb d2
  replace d3 := keep hb d3
  have HB1 := Lib.hid (bThen HW0.out hb)
  have HB01 := Lib.hid hb
  clear hb
  go_wp2_with (at_make; refine wpList_make_full _ rfl _ _ 24 rfl w1.heap.size 3 i0 (.int .i64 0) 1 Try.underlying24 hi hz0 hz1 .i64 .i64 (N : Int) (N : Int) N rfl rfl rfl rfl (by rw [hz2]; omega) (by unfold maxLen; omega) (Nat.le_refl _) ?_; intro w2 hown1 hgrow1; replace d0 := grownC hgrow1 d0 (by intro e; cases e); replace d1 := grownC hgrow1 d1 (by intro e; cases e); replace d2 := grownC hgrow1 d2 (by intro e; cases e); replace d3 := grownC hgrow1 d3 (by intro e; cases e))
  have hO := own_makeI hown1
  have hb : Below w1.heap.size w1 w2 := (Below.refl _ _).grown hgrow1 (Nat.le_refl _) (by intro g hg; cases hg)
  obtain ⟨G, hG⟩ : ∃ G, w1.heap.size = G := ⟨_, rfl⟩
  have hGW : W0.heap.size ≤ G := by rw [← hG]; exact HB01.out.size
  have HO := Lib.hid (show OwnsI w2 W0.heap.size (.slice (some ⟨G, 0, none⟩) N N) (List.replicate N 0) by rw [← hG]; exact hO.lower HB01.out.size)
  have HB02 := Lib.hid (bThen HB01.out hb)
  rw [hG]
  clear hown1 hgrow1 hO hb hG
  clear d0 d1 d2 d3
  go_loopw [12] (fun v wr => ∃ k : Nat, k ≤ n.2.2.1.length ∧ v = .int .i64 (k : Int) ∧ OwnsI wr W0.heap.size (.slice (some ⟨G, 0, none⟩) N N) (levK n k) ∧ Below W0.heap.size W0 wr) (fun v _ => n.2.2.1.length - (intOf v).toNat)
  case atStart => exact ⟨0, Nat.zero_le _, rfl, by rw [← HN.out] at HO ⊢; exact HO.out, HB02.out⟩
  case round =>
    obtain ⟨k, hk, rfl, hown, hb⟩ := hrel
    obtain ⟨w3, rfl⟩ : ∃ w3, w3 = wr := ⟨_, rfl⟩
    clear HO HB02
    have HO := Lib.hid hown
    have HB0 := Lib.hid hb
    have HB := Lib.hid (bThen HW0.out hb)
    clear hown hb
    by_cases hlt : k < n.2.2.1.length
    · obtain ⟨a, ha⟩ : ∃ a, n.2.2.1[k]? = some a := ⟨_, List.getElem?_eq_getElem hlt⟩
      obtain ⟨x, y, rfl, hx, hy⟩ := HP.out.and_ k a ha
      have hfk : firN n + k < N := by rw [← HN.out]; unfold netN; omega
      have hlen : (levK n k).length = N := by rw [levK_len, HN.out]
      obtain ⟨f, hf⟩ : ∃ f, firN n + k = f := ⟨_, rfl⟩
      obtain ⟨p, hp⟩ : ∃ p, x / 2 = p := ⟨_, rfl⟩
      obtain ⟨q, hq⟩ : ∃ q, y / 2 = q := ⟨_, rfl⟩
      rw [hf] at hfk hx hy
      rw [hp] at hx
      rw [hq] at hy
      obtain ⟨u, hu⟩ : ∃ u, (levK n k).getD p 0 = u := ⟨_, rfl⟩
      obtain ⟨v, hv⟩ : ∃ v, (levK n k).getD q 0 = v := ⟨_, rfl⟩
      have hui := levK_in n k p
      have hvi := levK_in n k q
      rw [hu] at hui
      rw [hv] at hvi
      have HST := Lib.hid (levK_step ha (show (levK n k).getD (x / 2) 0 = u by rw [hp]; exact hu) (show (levK n k).getD (y / 2) 0 = v by rw [hq]; exact hv))
      obtain ⟨ab, aq, rfl, ab1, x0, xf, x1, yf⟩ := at_And (good_AndS.below mR2.out (Nat.le_refl _) HB.out) ha
      have ab2 := Nat.lt_of_lt_of_le ab1 HB.out.size
      unfold Fit at xf yf
      dsimp only at x0 x1 xf yf
      have hx63 : x ≤ 9223372036854775807 := by omega
      have hy63 : y ≤ 9223372036854775807 := by omega
      have hk3 : k ≤ 300 := by omega
      have c0 := keep HB0.out HE0.out
      have c1 := keep HB0.out HE1.out
      have c2 := keep HB0.out HE2.out
      have c3 := keep HB0.out HE3.out
      go_wp2_with fail
      obtain ⟨V, hV⟩ : ∃ V, V = w3.alloc (.cells #[.int .i64 (x : Int), .int .i64 (y : Int)] 67) := ⟨_, rfl⟩
      rw [← hV]
      have gN := eqbox1 hV
      have y0 : V.cell? ⟨w3.heap.size, 0, none⟩ = some (.int .i64 (x : Int)) := box_cell gN.1 0 _ rfl
      have y1 : V.cell? ⟨w3.heap.size, 1, none⟩ = some (.int .i64 (y : Int)) := box_cell gN.1 1 _ rfl
      replace c0 := keep gN.2 c0
      replace c1 := keep gN.2 c1
      replace c2 := keep gN.2 c2
      replace c3 := keep gN.2 c3
      have u0 := keep gN.2 (ownI_cell HO.out hlen (show p < N by omega)).1
      have v0 := keep gN.2 (ownI_cell HO.out hlen (show q < N by omega)).1
      rw [hu] at u0
      rw [hv] at v0
      have HV0 := Lib.hid (bThen HB0.out gN.2)
      have HBV := Lib.hid (bThen HB.out gN.2)
      have HOV := Lib.hid (HO.out.below gN.2)
      have HLEN := Lib.hid hlen
      have HF := Lib.hid hf
      have HPQ := Lib.hid (And.intro hp hq)
      clear ha hV gN x0 x1 xf yf hu hv hlen hf hp hq ab1
      have hpN : p < N := by omega
      have hqN : q < N := by omega
      have mx : max u v = if u < v then v else u := by split <;> omega
      have fs : IntKind.i64.wrap (1 + if u < v then v else u) = 1 + if u < v then v else u := by rw [← mx]; exact wrap64_int _ (by omega) (by omega)
      have HMX := Lib.hid mx
      clear mx
      have hS0 : (fun w' => Below V.heap.size V w' ∧ w'.cell? ⟨w.heap.size, 0, none⟩ = some (.int .i64 n.1) ∧ w'.cell? ⟨w.heap.size, 1, none⟩ = some (.slice mA1 (n.2.1).length mc1) ∧ w'.cell? ⟨w.heap.size, 2, none⟩ = some (.slice (some ⟨ab, aq, none⟩) (n.2.2.1).length mc2) ∧ w'.cell? ⟨w.heap.size, 3, none⟩ = some (.slice mA3 (n.2.2.2).length mc3) ∧ w'.cell? ⟨w3.heap.size, 0, none⟩ = some (.int .i64 (x : Int)) ∧ w'.cell? ⟨w3.heap.size, 1, none⟩ = some (.int .i64 (y : Int)) ∧ w'.cell? ⟨G, p, none⟩ = some (.int .i64 u) ∧ w'.cell? ⟨G, q, none⟩ = some (.int .i64 v)) V := ⟨Below.refl _ _, c0, c1, c2, c3, y0, y1, u0, v0⟩
      have hS : ∀ {w0 w' : World}, (fun w' => Below V.heap.size V w' ∧ w'.cell? ⟨w.heap.size, 0, none⟩ = some (.int .i64 n.1) ∧ w'.cell? ⟨w.heap.size, 1, none⟩ = some (.slice mA1 (n.2.1).length mc1) ∧ w'.cell? ⟨w.heap.size, 2, none⟩ = some (.slice (some ⟨ab, aq, none⟩) (n.2.2.1).length mc2) ∧ w'.cell? ⟨w.heap.size, 3, none⟩ = some (.slice mA3 (n.2.2.2).length mc3) ∧ w'.cell? ⟨w3.heap.size, 0, none⟩ = some (.int .i64 (x : Int)) ∧ w'.cell? ⟨w3.heap.size, 1, none⟩ = some (.int .i64 (y : Int)) ∧ w'.cell? ⟨G, p, none⟩ = some (.int .i64 u) ∧ w'.cell? ⟨G, q, none⟩ = some (.int .i64 v)) w0 → Below w0.heap.size w0 w' → (fun w' => Below V.heap.size V w' ∧ w'.cell? ⟨w.heap.size, 0, none⟩ = some (.int .i64 n.1) ∧ w'.cell? ⟨w.heap.size, 1, none⟩ = some (.slice mA1 (n.2.1).length mc1) ∧ w'.cell? ⟨w.heap.size, 2, none⟩ = some (.slice (some ⟨ab, aq, none⟩) (n.2.2.1).length mc2) ∧ w'.cell? ⟨w.heap.size, 3, none⟩ = some (.slice mA3 (n.2.2.2).length mc3) ∧ w'.cell? ⟨w3.heap.size, 0, none⟩ = some (.int .i64 (x : Int)) ∧ w'.cell? ⟨w3.heap.size, 1, none⟩ = some (.int .i64 (y : Int)) ∧ w'.cell? ⟨G, p, none⟩ = some (.int .i64 u) ∧ w'.cell? ⟨G, q, none⟩ = some (.int .i64 v)) w' := fun h hb => ⟨bThen h.1 hb, keep hb h.2.1, keep hb h.2.2.1, keep hb h.2.2.2.1, keep hb h.2.2.2.2.1, keep hb h.2.2.2.2.2.1, keep hb h.2.2.2.2.2.2.1, keep hb h.2.2.2.2.2.2.2.1, keep hb h.2.2.2.2.2.2.2.2⟩
      dsimp only at hS0 hS
      refine wp_region_noPanic ?_
      refine wp_region_kept 18 20 (fun w' => Below V.heap.size V w' ∧ w'.cell? ⟨w.heap.size, 0, none⟩ = some (.int .i64 n.1) ∧ w'.cell? ⟨w.heap.size, 1, none⟩ = some (.slice mA1 (n.2.1).length mc1) ∧ w'.cell? ⟨w.heap.size, 2, none⟩ = some (.slice (some ⟨ab, aq, none⟩) (n.2.2.1).length mc2) ∧ w'.cell? ⟨w.heap.size, 3, none⟩ = some (.slice mA3 (n.2.2.2).length mc3) ∧ w'.cell? ⟨w3.heap.size, 0, none⟩ = some (.int .i64 (x : Int)) ∧ w'.cell? ⟨w3.heap.size, 1, none⟩ = some (.int .i64 (y : Int)) ∧ w'.cell? ⟨G, p, none⟩ = some (.int .i64 u) ∧ w'.cell? ⟨G, q, none⟩ = some (.int .i64 v)) (by kernel_rfl) rfl (hS hS0 (Below.drew (Below.refl _ _))) (fun hK0 => ?_)
      refine Kept.take (v := ?vr0) 0 (by kernel_rfl) rfl (by kernel_rfl) (fun _ _ _ h => h) (Or.inl ⟨by rfl, ?hyr0⟩) hK0 ?restr0
      case hyr0 =>
        intro w0 hSw
        (try dsimp only at hSw)
        go_simp
        all_goals (with_reducible rfl)
      (try simp only [Act.put, List.setIfInBounds_toArray, List.set_cons_zero, List.set_cons_succ])
      refine Kept.take (v := ?vr1) 1 (by kernel_rfl) rfl (by kernel_rfl) (fun _ _ _ h => h) (Or.inl ⟨by rfl, ?hyr1⟩) hK0 ?restr1
      case hyr1 =>
        intro w0 hSw
        (try dsimp only at hSw)
        go_simp
        all_goals (with_reducible rfl)
      (try simp only [Act.put, List.setIfInBounds_toArray, List.set_cons_zero, List.set_cons_succ])
      refine Kept.take (v := ?vr2) 2 (by kernel_rfl) rfl (by kernel_rfl) (fun _ _ _ h => h) (Or.inl ⟨by rfl, ?hyr2⟩) hK0 ?restr2
      case hyr2 =>
        intro w0 hSw
        (try dsimp only at hSw)
        go_simp
        all_goals (with_reducible rfl)
      (try simp only [Act.put, List.setIfInBounds_toArray, List.set_cons_zero, List.set_cons_succ])
      refine Kept.take (v := ?vr4) 4 (by kernel_rfl) rfl (by kernel_rfl) (fun _ _ _ h => h) (Or.inl ⟨by rfl, ?hyr4⟩) hK0 ?restr4
      case hyr4 =>
        intro w0 hSw
        (try dsimp only at hSw)
        go_simp
        all_goals (with_reducible rfl)
      (try simp only [Act.put, List.setIfInBounds_toArray, List.set_cons_zero, List.set_cons_succ])
      refine Kept.take (v := ?vr5) 5 (by kernel_rfl) rfl (by kernel_rfl) (fun _ _ _ h => h) (Or.inl ⟨by rfl, ?hyr5⟩) hK0 ?restr5
      case hyr5 =>
        intro w0 hSw
        (try dsimp only at hSw)
        go_simp
        all_goals (with_reducible rfl)
      (try simp only [Act.put, List.setIfInBounds_toArray, List.set_cons_zero, List.set_cons_succ])
      refine Kept.take (v := ?vr6) 6 (by kernel_rfl) rfl (by kernel_rfl) (fun _ _ _ h => h) (Or.inl ⟨by rfl, ?hyr6⟩) hK0 ?restr6
      case hyr6 =>
        intro w0 hSw
        (try dsimp only at hSw)
        go_simp
        all_goals (with_reducible rfl)
      (try simp only [Act.put, List.setIfInBounds_toArray, List.set_cons_zero, List.set_cons_succ])
      refine Kept.take (v := ?vr10) 10 (by kernel_rfl) rfl (by kernel_rfl) (fun _ _ _ h => h) (Or.inl ⟨by rfl, ?hyr10⟩) hK0 ?restr10
      case hyr10 =>
        intro w0 hSw
        (try dsimp only at hSw)
        go_simp
        all_goals (with_reducible rfl)
      (try simp only [Act.put, List.setIfInBounds_toArray, List.set_cons_zero, List.set_cons_succ])
      refine Kept.take (v := ?vr11) 11 (by kernel_rfl) rfl (by kernel_rfl) (fun _ _ _ h => h) (Or.inl ⟨by rfl, ?hyr11⟩) hK0 ?restr11
      case hyr11 =>
        intro w0 hSw
        (try dsimp only at hSw)
        go_simp
        all_goals (with_reducible rfl)
      (try simp only [Act.put, List.setIfInBounds_toArray, List.set_cons_zero, List.set_cons_succ])
      refine Kept.take (v := ?vr12) 12 (by kernel_rfl) rfl (by kernel_rfl) (fun _ _ _ h => h) (Or.inl ⟨by rfl, ?hyr12⟩) hK0 ?restr12
      case hyr12 =>
        intro w0 hSw
        (try dsimp only at hSw)
        go_simp
        all_goals (with_reducible rfl)
      (try simp only [Act.put, List.setIfInBounds_toArray, List.set_cons_zero, List.set_cons_succ])
      refine Kept.rg (sz := 38) (g := 2) [(3, 20), (7, 24), (8, 25), (9, 26), (13, 30), (14, 31), (15, 32), (16, 33), (17, 34)] [] (fun kO vals w' => match kO with
        | 3 => vals 3 = .int .i64 (f : Int)
        | 7 => vals 7 = .int .i64 (p : Int)
        | 8 => vals 8 = .pointer (some ⟨G, p, none⟩)
        | 9 => vals 9 = .int .i64 u
        | 13 => vals 13 = .int .i64 (q : Int)
        | 14 => vals 14 = .pointer (some ⟨G, q, none⟩)
        | 15 => vals 15 = .int .i64 v
        | 16 => vals 16 = .int .i64 (if u < v then v else u)
        | 17 => vals 17 = .int .i64 (1 + if u < v then v else u)
        | _ => True) (by kernel_rfl) (by kernel_rfl) hK0 (fun _ _ _ h => h) ?hSRr ?hlocr ?hstepr ?hendr
      case hSRr =>
        intro k hk vals w1 w2 h hb
        simp only [List.map_cons, List.map_nil, List.mem_cons, List.not_mem_nil, or_false] at hk
        rcases hk with rfl | rfl | rfl | rfl | rfl | rfl | rfl | rfl | rfl
        · exact h
        · exact h
        · exact h
        · exact h
        · exact h
        · exact h
        · exact h
        · exact h
        · exact h
      case hlocr =>
        intro k j hk hj hne hw vals v w1 h
        simp only [List.map_cons, List.map_nil, List.mem_cons, List.not_mem_nil, or_false] at hk hj
        rcases hk with rfl | rfl | rfl | rfl | rfl | rfl | rfl | rfl | rfl <;> rcases hj with rfl | rfl | rfl | rfl | rfl | rfl | rfl | rfl | rfl <;> first | exact absurd rfl hne | exact h | exact absurd (hw.symm.trans (by kernel_rfl : _ = true)) (by decide)
      case hstepr =>
        intro k t o hm ho vals wA hSA hpre
        simp only [List.mem_cons, List.not_mem_nil, or_false, Prod.mk.injEq] at hm
        rcases hm with ⟨rfl, rfl⟩ | ⟨rfl, rfl⟩ | ⟨rfl, rfl⟩ | ⟨rfl, rfl⟩ | ⟨rfl, rfl⟩ | ⟨rfl, rfl⟩ | ⟨rfl, rfl⟩ | ⟨rfl, rfl⟩ | ⟨rfl, rfl⟩
        · have ho' := Option.some.inj ho
          subst ho'
          unfold RgStep
          rw [if_pos (by rfl)]
          intro K hK
          have hSw := hSA
          (try dsimp only at hSw)
          clear hpre
          simp only [fillA, Act.put, List.setIfInBounds_toArray, List.set_cons_zero, List.set_cons_succ]
          go_simp
          go_at_call 72
          refine (andNode_to n k _ _ (rdUp good_Net HD.out (bThen HBV.out hSA.1)) (Nat.le_refl _) HSP.out hk3 HF.out).mono ?_
          rintro e wB ⟨rfl, hb⟩
          have hK' := hK (.int .i64 (f : Int)) wB (hS hSA hb) hb (upd_self _ _ _) (fun h => absurd h (by decide))
          clear hK
          simp only [fillA, Act.put, List.setIfInBounds_toArray, List.set_cons_zero, List.set_cons_succ] at hK'
          go_simp
          all_goals exact hK'
        · have ho' := Option.some.inj ho
          subst ho'
          unfold RgStep
          rw [if_pos (by rfl)]
          intro K hK
          have hSw := hSA
          (try dsimp only at hSw)
          clear hpre
          simp only [fillA, Act.put, List.setIfInBounds_toArray, List.set_cons_zero, List.set_cons_succ]
          go_simp
          go_at_call 105
          refine (nodeOf_to x _ hx63 HPQ.out.1).mono ?_
          rintro e wB ⟨rfl, hb⟩
          have hK' := hK (.int .i64 (p : Int)) wB (hS hSA hb) hb (upd_self _ _ _) (fun h => absurd h (by decide))
          clear hK
          simp only [fillA, Act.put, List.setIfInBounds_toArray, List.set_cons_zero, List.set_cons_succ] at hK'
          go_simp
          all_goals exact hK'
        · have ho' := Option.some.inj ho
          subst ho'
          have e7 : vals 7 = .int .i64 (p : Int) := hpre 7 (by kernel_rfl) (by decide)
          unfold RgStep
          rw [if_pos (by rfl)]
          intro K hK
          have hSw := hSA
          (try dsimp only at hSw)
          clear hpre
          have hK' := hK (.pointer (some ⟨G, p, none⟩)) wA hSA (Below.refl _ _) (upd_self _ _ _) (fun h => absurd h (by decide))
          clear hK
          simp only [fillA, Act.put, List.setIfInBounds_toArray, List.set_cons_zero, List.set_cons_succ] at hK' ⊢
          (try simp only [e7])
          (try simp only [e7] at hK')
          go_simp
          all_goals exact hK'
        · have ho' := Option.some.inj ho
          subst ho'
          have e8 : vals 8 = .pointer (some ⟨G, p, none⟩) := hpre 8 (by kernel_rfl) (by decide)
          unfold RgStep
          rw [if_pos (by rfl)]
          intro K hK
          have hSw := hSA
          (try dsimp only at hSw)
          clear hpre
          have hK' := hK (.int .i64 u) wA hSA (Below.refl _ _) (upd_self _ _ _) (fun h => absurd h (by decide))
          clear hK
          simp only [fillA, Act.put, List.setIfInBounds_toArray, List.set_cons_zero, List.set_cons_succ] at hK' ⊢
          (try simp only [e8])
          (try simp only [e8] at hK')
          go_simp
          all_goals exact hK'
        · have ho' := Option.some.inj ho
          subst ho'
          unfold RgStep
          rw [if_pos (by rfl)]
          intro K hK
          have hSw := hSA
          (try dsimp only at hSw)
          clear hpre
          simp only [fillA, Act.put, List.setIfInBounds_toArray, List.set_cons_zero, List.set_cons_succ]
          go_simp
          go_at_call 105
          refine (nodeOf_to y _ hy63 HPQ.out.2).mono ?_
          rintro e wB ⟨rfl, hb⟩
          have hK' := hK (.int .i64 (q : Int)) wB (hS hSA hb) hb (upd_self _ _ _) (fun h => absurd h (by decide))
          clear hK
          simp only [fillA, Act.put, List.setIfInBounds_toArray, List.set_cons_zero, List.set_cons_succ] at hK'
          go_simp
          all_goals exact hK'
        · have ho' := Option.some.inj ho
          subst ho'
          have e13 : vals 13 = .int .i64 (q : Int) := hpre 13 (by kernel_rfl) (by decide)
          unfold RgStep
          rw [if_pos (by rfl)]
          intro K hK
          have hSw := hSA
          (try dsimp only at hSw)
          clear hpre
          have hK' := hK (.pointer (some ⟨G, q, none⟩)) wA hSA (Below.refl _ _) (upd_self _ _ _) (fun h => absurd h (by decide))
          clear hK
          simp only [fillA, Act.put, List.setIfInBounds_toArray, List.set_cons_zero, List.set_cons_succ] at hK' ⊢
          (try simp only [e13])
          (try simp only [e13] at hK')
          go_simp
          all_goals exact hK'
        · have ho' := Option.some.inj ho
          subst ho'
          have e14 : vals 14 = .pointer (some ⟨G, q, none⟩) := hpre 14 (by kernel_rfl) (by decide)
          unfold RgStep
          rw [if_pos (by rfl)]
          intro K hK
          have hSw := hSA
          (try dsimp only at hSw)
          clear hpre
          have hK' := hK (.int .i64 v) wA hSA (Below.refl _ _) (upd_self _ _ _) (fun h => absurd h (by decide))
          clear hK
          simp only [fillA, Act.put, List.setIfInBounds_toArray, List.set_cons_zero, List.set_cons_succ] at hK' ⊢
          (try simp only [e14])
          (try simp only [e14] at hK')
          go_simp
          all_goals exact hK'
        · have ho' := Option.some.inj ho
          subst ho'
          have e9 : vals 9 = .int .i64 u := hpre 9 (by kernel_rfl) (by decide)
          have e15 : vals 15 = .int .i64 v := hpre 15 (by kernel_rfl) (by decide)
          unfold RgStep
          rw [if_pos (by rfl)]
          intro K hK
          have hSw := hSA
          (try dsimp only at hSw)
          clear hpre
          have hK' := hK (.int .i64 (if u < v then v else u)) wA hSA (Below.refl _ _) (upd_self _ _ _) (fun h => absurd h (by decide))
          clear hK
          simp only [fillA, Act.put, List.setIfInBounds_toArray, List.set_cons_zero, List.set_cons_succ] at hK' ⊢
          (try simp only [e9, e15])
          (try simp only [e9, e15] at hK')
          go_simp
          all_goals exact hK'
        · have ho' := Option.some.inj ho
          subst ho'
          have e16 : vals 16 = .int .i64 (if u < v then v else u) := hpre 16 (by kernel_rfl) (by decide)
          unfold RgStep
          rw [if_pos (by rfl)]
          intro K hK
          have hSw := hSA
          (try dsimp only at hSw)
          clear hpre
          have hK' := hK (.int .i64 (1 + if u < v then v else u)) wA hSA (Below.refl _ _) (upd_self _ _ _) (fun h => absurd h (by decide))
          clear hK
          simp only [fillA, Act.put, List.setIfInBounds_toArray, List.set_cons_zero, List.set_cons_succ] at hK' ⊢
          (try simp only [e16])
          (try simp only [e16] at hK')
          go_simp
          all_goals exact hK'
      intro vals wB hSB hR hap
      have e3 : vals 3 = .int .i64 (f : Int) := hR 3 (by decide)
      have e7 : vals 7 = .int .i64 (p : Int) := hR 7 (by decide)
      have e8 : vals 8 = .pointer (some ⟨G, p, none⟩) := hR 8 (by decide)
      have e9 : vals 9 = .int .i64 u := hR 9 (by decide)
      have e13 : vals 13 = .int .i64 (q : Int) := hR 13 (by decide)
      have e14 : vals 14 = .pointer (some ⟨G, q, none⟩) := hR 14 (by decide)
      have e15 : vals 15 = .int .i64 v := hR 15 (by decide)
      have e16 : vals 16 = .int .i64 (if u < v then v else u) := hR 16 (by decide)
      have e17 : vals 17 = .int .i64 (1 + if u < v then v else u) := hR 17 (by decide)
      simp only [fillA, Act.put, List.setIfInBounds_toArray, List.set_cons_zero, List.set_cons_succ]
      simp only [e3, e7, e8, e9, e13, e14, e15, e16, e17]
      clear hap hR e3 e7 e8 e9 e13 e14 e15 e16 e17
      refine Kept.tail (by rfl) (by kernel_rfl) ?_
      simp only [List.drop_succ_cons, List.drop_zero]
      obtain ⟨mm, hm⟩ : ∃ m : Int, (if u < v then v else u) = m := ⟨_, rfl⟩
      rw [hm]
      have HM2 := Lib.hid hm
      clear hm fs
      have HB4 := Lib.hid hSB.1
      have Q3 := HOV.out.below HB4.out
      have HQ3 := Lib.hid Q3
      have gf := ownI_cell Q3 HLEN.out hfk
      have t0 := gf.1
      have t1 := gf.2
      have gB := (Q3.lt G rfl).1
      have tl : (f : Int) < (N : Int) := by omega
      clear gf Q3 hSB hS0 hS y0 y1 c0 c1 c2 c3 u0 v0
      go_wp2
      refine NoPanic.normal ?_
      go_wp2
      go_roundw
      case rel =>
        have h3 := ownI_set HQ3.out HLEN.out hfk (1 + mm)
        have hst := HST.out
        rw [HF.out, HMX.out, HM2.out] at hst
        rw [hst] at h3
        exact ⟨k + 1, by omega, by go_num, h3, bSet (p := ⟨G, f, none⟩) (bThen HV0.out HB4.out) hGW _⟩
      case measure => simp [intOf]; omega
    · obtain rfl : k = n.2.2.1.length := by omega
      clear hlt
      go_wp2
      go_ret
      exact ⟨G, rfl, HO.out.lower HW0.out.size, HB.out⟩
end Go.Proofs.Ytedamhkcblemdaa
/- Net7: Levels, both sides. -/
namespace Go.Proofs.Ytedamhkcblemdaa
open Go.RowKit
set_option linter.unusedVariables false
set_option linter.unusedSimpArgs false

theorem lev_no {n : DNet} (h : netB n = false) : levO n = [] := by unfold levO; rw [h]; rfl
theorem lev_yes {n : DNet} (h : netB n = true) : levO n = levK n n.2.2.1.length := by unfold levO; rw [if_pos h]
set_option maxRecDepth 100000 in
set_option maxHeartbeats 12800000 in
theorem specLev_at (n : DNet) (us : List Value) (w : World) (h : rdNet 0 w.heap.size w us n) {L : List Int} (hL : levO n = L) :
    Calls Try.prog 63 #[.agg us.toArray] w fun e w' => ∃ v, e = .returned v ∧ OwnsI w' w.heap.size v L ∧ Below w.heap.size w w' := by
  obtain ⟨i0, hi, hz0, hz1, hz2⟩ := info_parts infoI
  have HD := Lib.hid h
  obtain ⟨f, hf⟩ : ∃ f, netB n = f := ⟨_, rfl⟩
  have HF := Lib.hid hf
  have HX := Lib.hid hL
  clear hf hL
  obtain ⟨mu0, mu1, mu2, mu3, rfl, mh0, mh1, mh2, mh3⟩ := h
  obtain ⟨me0, -⟩ := mh0
  injection me0 with me0
  subst me0
  obtain ⟨mA1, mc1, me1, mm1, -⟩ := slice_of mh1
  subst me1
  have mR1 := Lib.hid mh1
  clear mh1
  obtain ⟨mA2, mc2, me2, mm2, -⟩ := slice_of mh2
  subst me2
  have mR2 := Lib.hid mh2
  clear mh2
  obtain ⟨mA3, mc3, me3, mm3, -⟩ := slice_of mh3
  subst me3
  have mR3 := Lib.hid mh3
  clear mh3
  go_enter Try.func63, Try.ntmps63
  go_wp2_with fail
  obtain ⟨W0, hV⟩ : ∃ W0, W0 = (w.alloc (.cells #[.int .i64 n.1, .slice mA1 (n.2.1).length mc1, .slice mA2 (n.2.2.1).length mc2, .slice mA3 (n.2.2.2).length mc3] 36)) := ⟨_, rfl⟩
  rw [← hV]
  have gN := eqbox1 hV
  have d0 : W0.cell? ⟨w.heap.size, 0, none⟩ = some (.int .i64 n.1) := box_cell gN.1 0 _ rfl
  have d1 : W0.cell? ⟨w.heap.size, 1, none⟩ = some (.slice mA1 (n.2.1).length mc1) := box_cell gN.1 1 _ rfl
  have d2 : W0.cell? ⟨w.heap.size, 2, none⟩ = some (.slice mA2 (n.2.2.1).length mc2) := box_cell gN.1 2 _ rfl
  have d3 : W0.cell? ⟨w.heap.size, 3, none⟩ = some (.slice mA3 (n.2.2.2).length mc3) := box_cell gN.1 3 _ rfl
  have sW0 : W0.heap.size = w.heap.size + 1 := by rw [hV]; simp
  have HW0 := Lib.hid gN.2
  clear hV gN
  have HE0 := Lib.hid d0
  have HE1 := Lib.hid d1
  have HE2 := Lib.hid d2
  have HE3 := Lib.hid d3
  refine (specNetOk_at n _ _ (rdUp good_Net HD.out HW0.out) HF.out).mono ?_
  rintro e w0 ⟨rfl, hb⟩
  replace d0 := keep hb d0
  replace d1 := keep hb d1
  replace d2 := keep hb d2
  replace d3 := keep hb d3
  have HB := Lib.hid (bThen HW0.out hb)
  have HB00 := Lib.hid hb
  clear hb
  cases f with
  | false =>
    have HE := Lib.hid ((lev_no HF.out).symm.trans HX.out)
    go_wp2
    go_ret
    refine ⟨_, rfl, ?_, bAlloc HB.out (Nat.le_refl _) _⟩
    rw [← HE.out]
    exact own_newI _ _ HB.out.size
  | true =>
    have HE := Lib.hid ((lev_yes HF.out).symm.trans HX.out)
    have hP := netP_of HF.out
    have HP := Lib.hid hP
    have HSP := Lib.hid hP.sz
    have a300 := hP.sz.a300
    obtain ⟨N, hN⟩ : ∃ N : Nat, netN n = N := ⟨_, rfl⟩
    have hN3 : N ≤ 333 := by rw [← hN]; exact hP.sz.net_le.1
    have HNC := Lib.hid (show ncI n = (N : Int) by rw [hP.sz.nc, hN])
    have HN := Lib.hid hN
    clear hP hN
    go_wp2_with fail
    refine (specNc_at n _ _ (rdUp good_Net HD.out HB.out) (Nat.le_refl _) HNC.out).mono ?_
    rintro e w1 ⟨rfl, hb⟩
    replace d0 := keep hb d0
    replace d1 := keep hb d1
    replace d2 := keep hb d2
    replace d3 := keep hb d3
    have HB01 := Lib.hid (bThen HB00.out hb)
    clear hb HB00 HB
    go_wp2_with (at_make; refine wpList_make_full _ rfl _ _ 24 rfl w1.heap.size 3 i0 (.int .i64 0) 1 Try.underlying24 hi hz0 hz1 .i64 .i64 (N : Int) (N : Int) N rfl rfl rfl rfl (by rw [hz2]; omega) (by unfold maxLen; omega) (Nat.le_refl _) ?_; intro w2 hown1 hgrow1; replace d0 := grownC hgrow1 d0 (by intro e; cases e); replace d1 := grownC hgrow1 d1 (by intro e; cases e); replace d2 := grownC hgrow1 d2 (by intro e; cases e); replace d3 := grownC hgrow1 d3 (by intro e; cases e))
    have hO := own_makeI hown1
    have hb : Below w1.heap.size w1 w2 := (Below.refl _ _).grown hgrow1 (Nat.le_refl _) (by intro g hg; cases hg)
    obtain ⟨G, hG⟩ : ∃ G, w1.heap.size = G := ⟨_, rfl⟩
    have hGW : W0.heap.size ≤ G := by rw [← hG]; exact HB01.out.size
    have HO := Lib.hid (show OwnsI w2 W0.heap.size (.slice (some ⟨G, 0, none⟩) N N) (List.replicate N 0) by rw [← hG]; exact hO.lower HB01.out.size)
    have HB02 := Lib.hid (bThen HB01.out hb)
    rw [hG]
    clear hown1 hgrow1 hO hb hG
    clear d0 d1 d2 d3
    go_loopw [4] (fun v wr => ∃ k : Nat, k ≤ n.2.2.1.length ∧ v = .int .i64 (k : Int) ∧ OwnsI wr W0.heap.size (.slice (some ⟨G, 0, none⟩) N N) (levK n k) ∧ Below W0.heap.size W0 wr) (fun v _ => n.2.2.1.length - (intOf v).toNat)
    case atStart => exact ⟨0, Nat.zero_le _, rfl, by rw [← HN.out] at HO ⊢; exact HO.out, HB02.out⟩
    case round =>
      obtain ⟨k, hk, rfl, hown, hb⟩ := hrel
      obtain ⟨w3, rfl⟩ : ∃ w3, w3 = wr := ⟨_, rfl⟩
      clear HO HB02
      have HO := Lib.hid hown
      have HB0 := Lib.hid hb
      have HB := Lib.hid (bThen HW0.out hb)
      have c0 := keep hb HE0.out
      have c1 := keep hb HE1.out
      have c2 := keep hb HE2.out
      have c3 := keep hb HE3.out
      clear hown hb
      by_cases hlt : k < n.2.2.1.length
      · obtain ⟨a, ha⟩ : ∃ a, n.2.2.1[k]? = some a := ⟨_, List.getElem?_eq_getElem hlt⟩
        obtain ⟨x, y, rfl, hx, hy⟩ := HP.out.and_ k a ha
        have hfk : firN n + k < N := by rw [← HN.out]; unfold netN; omega
        have hlen : (levK n k).length = N := by rw [levK_len, HN.out]
        have hf33 := HSP.out.fir_le
        obtain ⟨f, hf⟩ : ∃ f, firN n + k = f := ⟨_, rfl⟩
        have hEw : IntKind.i64.wrap ((firN n : Int) + (k : Int)) = (f : Int) := by rw [wrap64_int _ (by omega) (by omega)]; omega
        obtain ⟨p, hp⟩ : ∃ p, x / 2 = p := ⟨_, rfl⟩
        obtain ⟨q, hq⟩ : ∃ q, y / 2 = q := ⟨_, rfl⟩
        rw [hf] at hfk hx hy
        rw [hp] at hx
        rw [hq] at hy
        obtain ⟨u, hu⟩ : ∃ u, (levK n k).getD p 0 = u := ⟨_, rfl⟩
        obtain ⟨v, hv⟩ : ∃ v, (levK n k).getD q 0 = v := ⟨_, rfl⟩
        have hui := levK_in n k p
        have hvi := levK_in n k q
        rw [hu] at hui
        rw [hv] at hvi
        have HST := Lib.hid (levK_step ha (show (levK n k).getD (x / 2) 0 = u by rw [hp]; exact hu) (show (levK n k).getD (y / 2) 0 = v by rw [hq]; exact hv))
        obtain ⟨ab, aq, rfl, ab1, x0, xf, x1, yf⟩ := at_And (good_AndS.below mR2.out (Nat.le_refl _) HB.out) ha
        have ab2 := Nat.lt_of_lt_of_le ab1 HB.out.size
        unfold Fit at xf yf
        dsimp only at x0 x1 xf yf
        have hk3 : k ≤ 300 := by omega
        have u0 := (ownI_cell HO.out hlen (show p < N by omega)).1
        have v0 := (ownI_cell HO.out hlen (show q < N by omega)).1
        rw [hu] at u0
        rw [hv] at v0
        have tk : (k : Int) < (n.2.2.1.length : Int) := by omega
        have hpx : ((x : Int) / 2) = (p : Int) := by omega
        have hqy : ((y : Int) / 2) = (q : Int) := by omega
        have hpt : ((x : Int).tdiv 2) = (p : Int) := by rw [tdiv2, hp]
        have hqt : ((y : Int).tdiv 2) = (q : Int) := by rw [tdiv2, hq]
        have hpw : IntKind.i64.wrap (p : Int) = (p : Int) := wrap64_int _ (by omega) (by omega)
        have hqw : IntKind.i64.wrap (q : Int) = (q : Int) := wrap64_int _ (by omega) (by omega)
        have HLEN := Lib.hid hlen
        have HFF := Lib.hid hf
        have hpN : p < N := by omega
        have hqN : q < N := by omega
        have tpN : (p : Int) < (N : Int) := by omega
        have tqN : (q : Int) < (N : Int) := by omega
        have mx : max u v = if u < v then v else u := by split <;> omega
        have fs : IntKind.i64.wrap (1 + if u < v then v else u) = 1 + if u < v then v else u := by rw [← mx]; exact wrap64_int _ (by omega) (by omega)
        have HMX := Lib.hid mx
        clear ha xf yf hu hv hlen hf hp hq ab1 mx hx hy hf33
        have hS0 : (fun w' => Below w3.heap.size w3 w' ∧ w'.cell? ⟨w.heap.size, 0, none⟩ = some (.int .i64 n.1) ∧ w'.cell? ⟨w.heap.size, 1, none⟩ = some (.slice mA1 (n.2.1).length mc1) ∧ w'.cell? ⟨w.heap.size, 2, none⟩ = some (.slice (some ⟨ab, aq, none⟩) (n.2.2.1).length mc2) ∧ w'.cell? ⟨w.heap.size, 3, none⟩ = some (.slice mA3 (n.2.2.2).length mc3) ∧ w'.cell? ⟨ab, aq + k * 2, none⟩ = some (.int .i64 (x : Int)) ∧ w'.cell? ⟨ab, aq + k * 2 + 1, none⟩ = some (.int .i64 (y : Int)) ∧ w'.cell? ⟨G, p, none⟩ = some (.int .i64 u) ∧ w'.cell? ⟨G, q, none⟩ = some (.int .i64 v)) w3 := ⟨Below.refl _ _, c0, c1, c2, c3, x0, x1, u0, v0⟩
        have hS : ∀ {w0 w' : World}, (fun w' => Below w3.heap.size w3 w' ∧ w'.cell? ⟨w.heap.size, 0, none⟩ = some (.int .i64 n.1) ∧ w'.cell? ⟨w.heap.size, 1, none⟩ = some (.slice mA1 (n.2.1).length mc1) ∧ w'.cell? ⟨w.heap.size, 2, none⟩ = some (.slice (some ⟨ab, aq, none⟩) (n.2.2.1).length mc2) ∧ w'.cell? ⟨w.heap.size, 3, none⟩ = some (.slice mA3 (n.2.2.2).length mc3) ∧ w'.cell? ⟨ab, aq + k * 2, none⟩ = some (.int .i64 (x : Int)) ∧ w'.cell? ⟨ab, aq + k * 2 + 1, none⟩ = some (.int .i64 (y : Int)) ∧ w'.cell? ⟨G, p, none⟩ = some (.int .i64 u) ∧ w'.cell? ⟨G, q, none⟩ = some (.int .i64 v)) w0 → Below w0.heap.size w0 w' → (fun w' => Below w3.heap.size w3 w' ∧ w'.cell? ⟨w.heap.size, 0, none⟩ = some (.int .i64 n.1) ∧ w'.cell? ⟨w.heap.size, 1, none⟩ = some (.slice mA1 (n.2.1).length mc1) ∧ w'.cell? ⟨w.heap.size, 2, none⟩ = some (.slice (some ⟨ab, aq, none⟩) (n.2.2.1).length mc2) ∧ w'.cell? ⟨w.heap.size, 3, none⟩ = some (.slice mA3 (n.2.2.2).length mc3) ∧ w'.cell? ⟨ab, aq + k * 2, none⟩ = some (.int .i64 (x : Int)) ∧ w'.cell? ⟨ab, aq + k * 2 + 1, none⟩ = some (.int .i64 (y : Int)) ∧ w'.cell? ⟨G, p, none⟩ = some (.int .i64 u) ∧ w'.cell? ⟨G, q, none⟩ = some (.int .i64 v)) w' := fun h hb => ⟨bThen h.1 hb, keep hb h.2.1, keep hb h.2.2.1, keep hb h.2.2.2.1, keep hb h.2.2.2.2.1, keep hb h.2.2.2.2.2.1, keep hb h.2.2.2.2.2.2.1, keep hb h.2.2.2.2.2.2.2.1, keep hb h.2.2.2.2.2.2.2.2⟩
        dsimp only at hS0 hS
        go_wp2_with fail
        refine wp_region_noPanic ?_
        refine wp_region_kept 27 29 (fun w' => Below w3.heap.size w3 w' ∧ w'.cell? ⟨w.heap.size, 0, none⟩ = some (.int .i64 n.1) ∧ w'.cell? ⟨w.heap.size, 1, none⟩ = some (.slice mA1 (n.2.1).length mc1) ∧ w'.cell? ⟨w.heap.size, 2, none⟩ = some (.slice (some ⟨ab, aq, none⟩) (n.2.2.1).length mc2) ∧ w'.cell? ⟨w.heap.size, 3, none⟩ = some (.slice mA3 (n.2.2.2).length mc3) ∧ w'.cell? ⟨ab, aq + k * 2, none⟩ = some (.int .i64 (x : Int)) ∧ w'.cell? ⟨ab, aq + k * 2 + 1, none⟩ = some (.int .i64 (y : Int)) ∧ w'.cell? ⟨G, p, none⟩ = some (.int .i64 u) ∧ w'.cell? ⟨G, q, none⟩ = some (.int .i64 v)) (by kernel_rfl) rfl (hS hS0 (Below.drew (Below.refl _ _))) (fun hK0 => ?_)
        refine Kept.take (v := ?vr0) 0 (by kernel_rfl) rfl (by kernel_rfl) (fun _ _ _ h => h) (Or.inl ⟨by rfl, ?hyr0⟩) hK0 ?restr0
        case hyr0 =>
          intro w0 hSw
          (try dsimp only at hSw)
          go_simp
          all_goals (with_reducible rfl)
        (try simp only [Act.put, List.setIfInBounds_toArray, List.set_cons_zero, List.set_cons_succ])
        refine Kept.take (v := ?vr1) 1 (by kernel_rfl) rfl (by kernel_rfl) (fun _ _ _ h => h) (Or.inl ⟨by rfl, ?hyr1⟩) hK0 ?restr1
        case hyr1 =>
          intro w0 hSw
          (try dsimp only at hSw)
          go_simp
          all_goals (with_reducible rfl)
        (try simp only [Act.put, List.setIfInBounds_toArray, List.set_cons_zero, List.set_cons_succ])
        refine Kept.take (v := ?vr3) 3 (by kernel_rfl) rfl (by kernel_rfl) (fun _ _ _ h => h) (Or.inl ⟨by rfl, ?hyr3⟩) hK0 ?restr3
        case hyr3 =>
          intro w0 hSw
          (try dsimp only at hSw)
          go_simp
          all_goals (with_reducible rfl)
        (try simp only [Act.put, List.setIfInBounds_toArray, List.set_cons_zero, List.set_cons_succ])
        refine Kept.take (v := ?vr5) 5 (by kernel_rfl) rfl (by kernel_rfl) (fun _ _ _ h => h) (Or.inl ⟨by rfl, ?hyr5⟩) hK0 ?restr5
        case hyr5 =>
          intro w0 hSw
          (try dsimp only at hSw)
          go_simp
          all_goals (with_reducible rfl)
        (try simp only [Act.put, List.setIfInBounds_toArray, List.set_cons_zero, List.set_cons_succ])
        refine Kept.take (v := ?vr6) 6 (by kernel_rfl) rfl (by kernel_rfl) (fun _ _ _ h => h) (Or.inl ⟨by rfl, ?hyr6⟩) hK0 ?restr6
        case hyr6 =>
          intro w0 hSw
          (try dsimp only at hSw)
          go_simp
          all_goals (with_reducible rfl)
        (try simp only [Act.put, List.setIfInBounds_toArray, List.set_cons_zero, List.set_cons_succ])
        refine Kept.take (v := ?vr7) 7 (by kernel_rfl) rfl (by kernel_rfl) (fun _ _ _ h => h) (Or.inl ⟨by rfl, ?hyr7⟩) hK0 ?restr7
        case hyr7 =>
          intro w0 hSw
          (try dsimp only at hSw)
          go_simp
          all_goals (with_reducible rfl)
        (try simp only [Act.put, List.setIfInBounds_toArray, List.set_cons_zero, List.set_cons_succ])
        refine Kept.take (v := ?vr8) 8 (by kernel_rfl) rfl (by kernel_rfl) (fun _ _ _ h => h) (Or.inl ⟨by rfl, ?hyr8⟩) hK0 ?restr8
        case hyr8 =>
          intro w0 hSw
          (try dsimp only at hSw)
          go_simp
          all_goals (with_reducible rfl)
        (try simp only [Act.put, List.setIfInBounds_toArray, List.set_cons_zero, List.set_cons_succ])
        refine Kept.take (v := ?vr9) 9 (by kernel_rfl) rfl (by kernel_rfl) (fun _ _ _ h => h) (Or.inl ⟨by rfl, ?hyr9⟩) hK0 ?restr9
        case hyr9 =>
          intro w0 hSw
          (try dsimp only at hSw)
          go_simp
          all_goals (with_reducible rfl)
        (try simp only [Act.put, List.setIfInBounds_toArray, List.set_cons_zero, List.set_cons_succ])
        refine Kept.take (v := ?vr10) 10 (by kernel_rfl) rfl (by kernel_rfl) (fun _ _ _ h => h) (Or.inl ⟨by rfl, ?hyr10⟩) hK0 ?restr10
        case hyr10 =>
          intro w0 hSw
          (try dsimp only at hSw)
          go_simp
          all_goals (with_reducible rfl)
        (try simp only [Act.put, List.setIfInBounds_toArray, List.set_cons_zero, List.set_cons_succ])
        refine Kept.take (v := ?vr11) 11 (by kernel_rfl) rfl (by kernel_rfl) (fun _ _ _ h => h) (Or.inl ⟨by rfl, ?hyr11⟩) hK0 ?restr11
        case hyr11 =>
          intro w0 hSw
          (try dsimp only at hSw)
          go_simp
          all_goals (with_reducible rfl)
        (try simp only [Act.put, List.setIfInBounds_toArray, List.set_cons_zero, List.set_cons_succ])
        refine Kept.take (v := ?vr12) 12 (by kernel_rfl) rfl (by kernel_rfl) (fun _ _ _ h => h) (Or.inl ⟨by rfl, ?hyr12⟩) hK0 ?restr12
        case hyr12 =>
          intro w0 hSw
          (try dsimp only at hSw)
          go_simp
          all_goals (with_reducible rfl)
        (try simp only [Act.put, List.setIfInBounds_toArray, List.set_cons_zero, List.set_cons_succ])
        refine Kept.take (v := ?vr13) 13 (by kernel_rfl) rfl (by kernel_rfl) (fun _ _ _ h => h) (Or.inl ⟨by rfl, ?hyr13⟩) hK0 ?restr13
        case hyr13 =>
          intro w0 hSw
          (try dsimp only at hSw)
          go_simp
          all_goals (with_reducible rfl)
        (try simp only [Act.put, List.setIfInBounds_toArray, List.set_cons_zero, List.set_cons_succ])
        refine Kept.take (v := ?vr14) 14 (by kernel_rfl) rfl (by kernel_rfl) (fun _ _ _ h => h) (Or.inl ⟨by rfl, ?hyr14⟩) hK0 ?restr14
        case hyr14 =>
          intro w0 hSw
          (try dsimp only at hSw)
          go_simp
          all_goals (with_reducible rfl)
        (try simp only [Act.put, List.setIfInBounds_toArray, List.set_cons_zero, List.set_cons_succ])
        refine Kept.take (v := ?vr15) 15 (by kernel_rfl) rfl (by kernel_rfl) (fun _ _ _ h => h) (Or.inl ⟨by rfl, ?hyr15⟩) hK0 ?restr15
        case hyr15 =>
          intro w0 hSw
          (try dsimp only at hSw)
          go_simp
          all_goals (with_reducible rfl)
        (try simp only [Act.put, List.setIfInBounds_toArray, List.set_cons_zero, List.set_cons_succ])
        refine Kept.take (v := ?vr16) 16 (by kernel_rfl) rfl (by kernel_rfl) (fun _ _ _ h => h) (Or.inl ⟨by rfl, ?hyr16⟩) hK0 ?restr16
        case hyr16 =>
          intro w0 hSw
          (try dsimp only at hSw)
          go_simp
          all_goals (with_reducible rfl)
        (try simp only [Act.put, List.setIfInBounds_toArray, List.set_cons_zero, List.set_cons_succ])
        refine Kept.take (v := ?vr17) 17 (by kernel_rfl) rfl (by kernel_rfl) (fun _ _ _ h => h) (Or.inl ⟨by rfl, ?hyr17⟩) hK0 ?restr17
        case hyr17 =>
          intro w0 hSw
          (try dsimp only at hSw)
          go_simp
          all_goals (with_reducible rfl)
        (try simp only [Act.put, List.setIfInBounds_toArray, List.set_cons_zero, List.set_cons_succ])
        refine Kept.take (v := ?vr18) 18 (by kernel_rfl) rfl (by kernel_rfl) (fun _ _ _ h => h) (Or.inl ⟨by rfl, ?hyr18⟩) hK0 ?restr18
        case hyr18 =>
          intro w0 hSw
          (try dsimp only at hSw)
          go_simp
          all_goals (with_reducible rfl)
        (try simp only [Act.put, List.setIfInBounds_toArray, List.set_cons_zero, List.set_cons_succ])
        refine Kept.take (v := ?vr19) 19 (by kernel_rfl) rfl (by kernel_rfl) (fun _ _ _ h => h) (Or.inl ⟨by rfl, ?hyr19⟩) hK0 ?restr19
        case hyr19 =>
          intro w0 hSw
          (try dsimp only at hSw)
          go_simp
          all_goals (with_reducible rfl)
        (try simp only [Act.put, List.setIfInBounds_toArray, List.set_cons_zero, List.set_cons_succ])
        refine Kept.take (v := ?vr20) 20 (by kernel_rfl) rfl (by kernel_rfl) (fun _ _ _ h => h) (Or.inl ⟨by rfl, ?hyr20⟩) hK0 ?restr20
        case hyr20 =>
          intro w0 hSw
          (try dsimp only at hSw)
          go_simp
          all_goals (with_reducible rfl)
        (try simp only [Act.put, List.setIfInBounds_toArray, List.set_cons_zero, List.set_cons_succ])
        refine Kept.take (v := ?vr21) 21 (by kernel_rfl) rfl (by kernel_rfl) (fun _ _ _ h => h) (Or.inl ⟨by rfl, ?hyr21⟩) hK0 ?restr21
        case hyr21 =>
          intro w0 hSw
          (try dsimp only at hSw)
          go_simp
          all_goals (with_reducible rfl)
        (try simp only [Act.put, List.setIfInBounds_toArray, List.set_cons_zero, List.set_cons_succ])
        refine Kept.take (v := ?vr22) 22 (by kernel_rfl) rfl (by kernel_rfl) (fun _ _ _ h => h) (Or.inl ⟨by rfl, ?hyr22⟩) hK0 ?restr22
        case hyr22 =>
          intro w0 hSw
          (try dsimp only at hSw)
          go_simp
          all_goals (with_reducible rfl)
        (try simp only [Act.put, List.setIfInBounds_toArray, List.set_cons_zero, List.set_cons_succ])
        refine Kept.take (v := ?vr23) 23 (by kernel_rfl) rfl (by kernel_rfl) (fun _ _ _ h => h) (Or.inl ⟨by rfl, ?hyr23⟩) hK0 ?restr23
        case hyr23 =>
          intro w0 hSw
          (try dsimp only at hSw)
          go_simp
          all_goals (with_reducible rfl)
        (try simp only [Act.put, List.setIfInBounds_toArray, List.set_cons_zero, List.set_cons_succ])
        refine Kept.take (v := ?vr24) 24 (by kernel_rfl) rfl (by kernel_rfl) (fun _ _ _ h => h) (Or.inl ⟨by rfl, ?hyr24⟩) hK0 ?restr24
        case hyr24 =>
          intro w0 hSw
          (try dsimp only at hSw)
          go_simp
          all_goals (with_reducible rfl)
        (try simp only [Act.put, List.setIfInBounds_toArray, List.set_cons_zero, List.set_cons_succ])
        refine Kept.take (v := ?vr25) 25 (by kernel_rfl) rfl (by kernel_rfl) (fun _ _ _ h => h) (Or.inl ⟨by rfl, ?hyr25⟩) hK0 ?restr25
        case hyr25 =>
          intro w0 hSw
          (try dsimp only at hSw)
          go_simp
          all_goals (with_reducible rfl)
        (try simp only [Act.put, List.setIfInBounds_toArray, List.set_cons_zero, List.set_cons_succ])
        refine Kept.take (v := ?vr26) 26 (by kernel_rfl) rfl (by kernel_rfl) (fun _ _ _ h => h) (Or.inl ⟨by rfl, ?hyr26⟩) hK0 ?restr26
        case hyr26 =>
          intro w0 hSw
          (try dsimp only at hSw)
          go_simp
          all_goals (with_reducible rfl)
        (try simp only [Act.put, List.setIfInBounds_toArray, List.set_cons_zero, List.set_cons_succ])
        refine Kept.rg (sz := 48) (g := 2) [(2, 21), (4, 23)] [] (fun kO vals w' => match kO with
          | 2 => vals 2 = .int .i64 (firN n : Int)
          | 4 => vals 4 = .int .i64 (f : Int)
          | _ => True) (by kernel_rfl) (by kernel_rfl) hK0 (fun _ _ _ h => h) ?hSR ?hloc ?hstep ?hend
        case hSR =>
          intro k hk vals w1 w2 h hb
          simp only [List.map_cons, List.map_nil, List.mem_cons, List.not_mem_nil, or_false] at hk
          rcases hk with rfl | rfl
          · exact h
          · exact h
        case hloc =>
          intro k j hk hj hne hw vals v w1 h
          simp only [List.map_cons, List.map_nil, List.mem_cons, List.not_mem_nil, or_false] at hk hj
          rcases hk with rfl | rfl <;> rcases hj with rfl | rfl <;> first | exact absurd rfl hne | exact h | exact absurd (hw.symm.trans (by kernel_rfl : _ = true)) (by decide)
        case hstep =>
          intro k t o hm ho vals wA hSA hpre
          simp only [List.mem_cons, List.not_mem_nil, or_false, Prod.mk.injEq] at hm
          rcases hm with ⟨rfl, rfl⟩ | ⟨rfl, rfl⟩
          · have ho' := Option.some.inj ho
            subst ho'
            unfold RgStep
            rw [if_pos (by rfl)]
            intro K hK
            have hSw := hSA
            (try dsimp only at hSw)
            clear hpre
            simp only [fillA, Act.put, List.setIfInBounds_toArray, List.set_cons_zero, List.set_cons_succ]
            go_simp
            go_at_call 94
            refine (specFirst_at n _ _ (rdUp good_Net HD.out (bThen HB.out hSA.1)) (Nat.le_refl _) HSP.out).mono ?_
            rintro e wB ⟨rfl, hb⟩
            have hK' := hK (.int .i64 (firN n : Int)) wB (hS hSA hb) hb (upd_self _ _ _) (fun h => absurd h (by decide))
            clear hK
            simp only [fillA, Act.put, List.setIfInBounds_toArray, List.set_cons_zero, List.set_cons_succ] at hK'
            go_simp
            all_goals exact hK'
          · have ho' := Option.some.inj ho
            subst ho'
            have e2 : vals 2 = .int .i64 (firN n : Int) := hpre 2 (by kernel_rfl) (by decide)
            unfold RgStep
            rw [if_pos (by rfl)]
            intro K hK
            have hSw := hSA
            (try dsimp only at hSw)
            clear hpre
            have hK' := hK (.int .i64 (f : Int)) wA hSA (Below.refl _ _) (upd_self _ _ _) (fun h => absurd h (by decide))
            clear hK
            simp only [fillA, Act.put, List.setIfInBounds_toArray, List.set_cons_zero, List.set_cons_succ] at hK' ⊢
            (try simp only [e2])
            (try simp only [e2] at hK')
            go_simp
            all_goals exact hK'
        intro vals wB hSB hR hap
        have e2 : vals 2 = .int .i64 (firN n : Int) := hR 2 (by decide)
        have e4 : vals 4 = .int .i64 (f : Int) := hR 4 (by decide)
        simp only [fillA, Act.put, List.setIfInBounds_toArray, List.set_cons_zero, List.set_cons_succ]
        simp only [e2, e4]
        clear hap hR e2 e4
        refine Kept.tail (by rfl) (by kernel_rfl) ?_
        simp only [List.drop_succ_cons, List.drop_zero]
        obtain ⟨mm, hm⟩ : ∃ m : Int, (if u < v then v else u) = m := ⟨_, rfl⟩
        rw [hm]
        have HM2 := Lib.hid hm
        have HB4 := Lib.hid hSB.1
        have Q3 := HO.out.below HB4.out
        have HQ3 := Lib.hid Q3
        have gf := ownI_cell Q3 HLEN.out hfk
        have t0 := gf.1
        have t1 := gf.2
        have gB := (Q3.lt G rfl).1
        have tl : (f : Int) < (N : Int) := by omega
        clear gf Q3 hSB hS0 hS x0 x1 c0 c1 c2 c3 u0 v0 hm fs hpx hqy hpt hqt hpw hqw hEw
        go_wp2
        refine NoPanic.normal ?_
        go_wp2
        go_roundw
        case rel =>
          have h3 := ownI_set HQ3.out HLEN.out hfk (1 + mm)
          have hst := HST.out
          rw [HFF.out, HMX.out, HM2.out] at hst
          rw [hst] at h3
          exact ⟨k + 1, by omega, by go_num, h3, bSet (p := ⟨G, f, none⟩) (bThen HB0.out HB4.out) hGW _⟩
        case measure => simp [intOf]; omega
      · obtain rfl : k = n.2.2.1.length := by omega
        clear hlt
        go_wp2
        go_ret
        rw [← HE.out]
        exact ⟨_, rfl, HO.out.lower HW0.out.size, HB.out⟩
end Go.Proofs.Ytedamhkcblemdaa
/- Net8: Depth, both sides. -/
namespace Go.Proofs.Ytedamhkcblemdaa
open Go.RowKit
set_option linter.unusedVariables false
set_option linter.unusedSimpArgs false

set_option maxRecDepth 100000 in
set_option maxHeartbeats 6400000 in
theorem implDep_at (n : DNet) (us : List Value) (w : World) (h : rdNet 0 w.heap.size w us n) {r : Int} (hr : depO n = r) :
    Calls Try.prog 26 #[.agg us.toArray] w fun e w' => e = .returned (.int .i64 r) ∧ Below w.heap.size w w' := by
  have HD := Lib.hid h
  obtain ⟨f, hf⟩ : ∃ f, netB n = f := ⟨_, rfl⟩
  have HF := Lib.hid hf
  have HE := Lib.hid hr
  clear hf hr
  obtain ⟨mu0, mu1, mu2, mu3, rfl, mh0, mh1, mh2, mh3⟩ := h
  obtain ⟨me0, -⟩ := mh0
  injection me0 with me0
  subst me0
  obtain ⟨mA1, mc1, me1, mm1, -⟩ := slice_of mh1
  subst me1
  have mR1 := Lib.hid mh1
  clear mh1
  obtain ⟨mA2, mc2, me2, mm2, -⟩ := slice_of mh2
  subst me2
  have mR2 := Lib.hid mh2
  clear mh2
  obtain ⟨mA3, mc3, me3, mm3, -⟩ := slice_of mh3
  subst me3
  have mR3 := Lib.hid mh3
  clear mh3
  go_enter Try.func26, Try.ntmps26
  go_wp2_with fail
  obtain ⟨W0, hV⟩ : ∃ W0, W0 = (w.alloc (.cells #[.int .i64 n.1, .slice mA1 (n.2.1).length mc1, .slice mA2 (n.2.2.1).length mc2, .slice mA3 (n.2.2.2).length mc3] 36)) := ⟨_, rfl⟩
  rw [← hV]
  have gN := eqbox1 hV
  have d0 : W0.cell? ⟨w.heap.size, 0, none⟩ = some (.int .i64 n.1) := box_cell gN.1 0 _ rfl
  have d1 : W0.cell? ⟨w.heap.size, 1, none⟩ = some (.slice mA1 (n.2.1).length mc1) := box_cell gN.1 1 _ rfl
  have d2 : W0.cell? ⟨w.heap.size, 2, none⟩ = some (.slice mA2 (n.2.2.1).length mc2) := box_cell gN.1 2 _ rfl
  have d3 : W0.cell? ⟨w.heap.size, 3, none⟩ = some (.slice mA3 (n.2.2.2).length mc3) := box_cell gN.1 3 _ rfl
  have sW0 : W0.heap.size = w.heap.size + 1 := by rw [hV]; simp
  have HW0 := Lib.hid gN.2
  clear hV gN
  refine (implNetOk_at n _ _ (rdUp good_Net HD.out HW0.out) HF.out).mono ?_
  rintro e w1 ⟨rfl, hb⟩
  replace d0 := keep hb d0
  replace d1 := keep hb d1
  replace d2 := keep hb d2
  replace d3 := keep hb d3
  have HB1 := Lib.hid (bThen HW0.out hb)
  clear hb
  cases f with
  | false =>
    have HE2 := Lib.hid (show (-1 : Int) = r by rw [← HE.out]; unfold depO; rw [HF.out]; rfl)
    go_wp2
    go_ret
    exact ⟨ret_i64 HE2.out, HB1.out⟩
  | true =>
  have HP := Lib.hid (netP_of HF.out)
  obtain ⟨L, hL⟩ : ∃ L, levO n = L := ⟨_, rfl⟩
  have HLL := Lib.hid hL
  have HLEN := Lib.hid (show L.length = netN n by rw [← hL, lev_yes HF.out, levK_len])
  have HLI := Lib.hid (show ∀ j, 0 ≤ L.getD j 0 ∧ L.getD j 0 ≤ 300 from fun j => by have h1 := levK_in n n.2.2.1.length j; have h2 := HP.out.sz.a300; rw [← hL, lev_yes HF.out]; omega)
  clear hL
  go_wp2_with fail
  refine (levels_at n _ _ (rdUp good_Net HD.out HB1.out) HP.out).mono ?_
  rintro e w2 ⟨G0, rfl, ho, hb⟩
  replace d0 := keep hb d0
  replace d1 := keep hb d1
  replace d2 := keep hb d2
  replace d3 := keep hb d3
  have HB2 := Lib.hid (bThen HB1.out hb)
  rw [← lev_yes HF.out, HLL.out] at ho
  have HL := Lib.hid ho
  clear hb ho
  go_wp2_with fail
  refine (rootNodes_at n _ _ (rdUp good_Net HD.out HB2.out) HP.out (net_parts HF.out)).mono ?_
  rintro e w3 ⟨v, rfl, ho, hb⟩
  have HB3 := Lib.hid (bThen HB2.out hb)
  have HBL := Lib.hid hb
  obtain ⟨R, hR⟩ : ∃ R, nodesL (rootsL n) = R := ⟨_, rfl⟩
  rw [hR] at ho
  obtain ⟨rA, rc, rfl, -⟩ := ho.shape
  have HR := Lib.hid ho
  have hr64 : R.length ≤ 64 := by rw [← hR, nodes_len]; exact HP.out.roots_le
  have HNL := Lib.hid (show R.length = (rootsL n).length by rw [← hR, nodes_len])
  have HNP := Lib.hid (show ∀ k x, R[k]? = some x → ∃ l : Nat, x = ((l / 2 : Nat) : Int) ∧ l / 2 < netN n ∧ (rootsL n)[k]? = some (l : Int) from fun k x h => by
    rw [← hR] at h
    unfold nodesL at h
    rw [List.getElem?_map] at h
    cases hg : (rootsL n)[k]? with
    | none => rw [hg] at h; cases h
    | some y =>
      rw [hg] at h
      obtain ⟨l, rfl, hl⟩ := HP.out.root y (List.mem_of_getElem? hg)
      refine ⟨l, ?_, hl, hg⟩
      simpa using h.symm)
  have HRF := Lib.hid (show ∀ x ∈ R, Fit x from fun x hx => by
    obtain ⟨k, hk, e⟩ := List.getElem_of_mem hx
    obtain ⟨l, h1, h2, _⟩ := HNP.out k x (by rw [List.getElem?_eq_getElem hk, e])
    have := HP.out.sz.net_le
    unfold Fit; omega)
  clear hb ho hR d0 d1 d2 d3
  have hLl : netN n = L.length := HLEN.out.symm
  rw [hLl] at HL ⊢
  clear hLl
  go_wp2
  go_loopw [4, 15] (fun dv v wr => ∃ k : Nat, k ≤ R.length ∧ v = .int .i64 (k : Int) ∧ dv = .int .i64 (depL L (rootsL n |>.take k)) ∧ Below w3.heap.size w3 wr) (fun _ v _ => R.length - (intOf v).toNat)
  case atStart => exact ⟨0, Nat.zero_le _, rfl, rfl, Below.refl _ _⟩
  case round =>
    obtain ⟨k, hk, rfl, rfl, hb⟩ := hrel
    obtain ⟨w4, rfl⟩ : ∃ w4, w4 = wr := ⟨_, rfl⟩
    have HB0 := Lib.hid hb
    have HB := Lib.hid (bThen HB3.out hb)
    clear hb
    obtain ⟨d, hd⟩ : ∃ d, depL L ((rootsL n).take k) = d := ⟨_, rfl⟩
    have HD0 := Lib.hid hd
    have hdi : 0 ≤ d ∧ d ≤ 300 := by rw [← hd]; exact depL_in (by omega) HLI.out _
    rw [hd]
    clear hd
    by_cases hlt : k < R.length
    · obtain ⟨x, hx⟩ : ∃ x, R[k]? = some x := ⟨_, List.getElem?_eq_getElem hlt⟩
      obtain ⟨l, hxl, hl, hnl⟩ := HNP.out k x hx
      subst hxl
      obtain ⟨p, hp⟩ : ∃ p, l / 2 = p := ⟨_, rfl⟩
      rw [hp] at hl
      obtain ⟨u, hu⟩ : ∃ u, L.getD p 0 = u := ⟨_, rfl⟩
      have hui := HLI.out p
      rw [hu] at hui
      have HST := Lib.hid (depL_step (L := L) hnl (show L.getD (l / 2) 0 = u by rw [hp]; exact hu))
      obtain ⟨xb, xq, rfl, xlt, xc, xf⟩ := at_Int (ownI_rd (HR.out.below HB0.out) HRF.out) hx
      unfold Fit at xf
      rw [hp] at xc
      obtain ⟨gA, gc, ge, gsh⟩ := (HL.out.below (bThen HBL.out HB0.out)).shape
      injection ge with ge1 ge2 ge3
      obtain ⟨G, hG, u0, -⟩ := gsh p (by rw [HLEN.out]; exact hl)
      rw [← ge1] at hG
      (first | subst hG | (injection hG with hG; injection hG with hG; subst hG))
      rw [hu] at u0
      have hpN : p < L.length := by rw [HLEN.out]; exact hl
      have tpN : (p : Int) < (L.length : Int) := by omega
      clear hx hu hnl gsh ge1 ge2 ge3
      have hl63 : netN n ≤ 333 := HP.out.sz.net_le.1
      by_cases hdu : d < u
      · have HEQ := Lib.hid (show max d u = u by omega)
        go_wp2
        go_roundw
        case rel => exact ⟨k + 1, by omega, by go_num, by rw [HST.out, HD0.out, HEQ.out], HB0.out⟩
        case measure => simp [intOf]; omega
      · have HEQ := Lib.hid (show max d u = d by omega)
        go_wp2
        go_roundw
        case rel => exact ⟨k + 1, by omega, by go_num, by rw [HST.out, HD0.out, HEQ.out], HB0.out⟩
        case measure => simp [intOf]; omega
    · obtain rfl : k = R.length := by omega
      have HE2 := Lib.hid (show d = r by rw [← HE.out, ← HD0.out]; unfold depO; rw [HF.out, if_pos rfl, HLL.out, List.take_of_length_le (by rw [← HNL.out]; exact Nat.le_refl _)])
      clear hlt
      go_wp2
      go_ret
      exact ⟨ret_i64 HE2.out, HB.out⟩

set_option maxRecDepth 100000 in
set_option maxHeartbeats 6400000 in
theorem specDep_at (n : DNet) (us : List Value) (w : World) (h : rdNet 0 w.heap.size w us n) {r : Int} (hr : depO n = r) :
    Calls Try.prog 27 #[.agg us.toArray] w fun e w' => e = .returned (.int .i64 r) ∧ Below w.heap.size w w' := by
  have HD := Lib.hid h
  obtain ⟨f, hf⟩ : ∃ f, netB n = f := ⟨_, rfl⟩
  have HF := Lib.hid hf
  have HE := Lib.hid hr
  clear hf hr
  obtain ⟨mu0, mu1, mu2, mu3, rfl, mh0, mh1, mh2, mh3⟩ := h
  obtain ⟨me0, -⟩ := mh0
  injection me0 with me0
  subst me0
  obtain ⟨mA1, mc1, me1, mm1, -⟩ := slice_of mh1
  subst me1
  have mR1 := Lib.hid mh1
  clear mh1
  obtain ⟨mA2, mc2, me2, mm2, -⟩ := slice_of mh2
  subst me2
  have mR2 := Lib.hid mh2
  clear mh2
  obtain ⟨mA3, mc3, me3, mm3, -⟩ := slice_of mh3
  subst me3
  have mR3 := Lib.hid mh3
  clear mh3
  go_enter Try.func27, Try.ntmps27
  go_wp2_with fail
  obtain ⟨W0, hV⟩ : ∃ W0, W0 = (w.alloc (.cells #[.int .i64 n.1, .slice mA1 (n.2.1).length mc1, .slice mA2 (n.2.2.1).length mc2, .slice mA3 (n.2.2.2).length mc3] 36)) := ⟨_, rfl⟩
  rw [← hV]
  have gN := eqbox1 hV
  have d0 : W0.cell? ⟨w.heap.size, 0, none⟩ = some (.int .i64 n.1) := box_cell gN.1 0 _ rfl
  have d1 : W0.cell? ⟨w.heap.size, 1, none⟩ = some (.slice mA1 (n.2.1).length mc1) := box_cell gN.1 1 _ rfl
  have d2 : W0.cell? ⟨w.heap.size, 2, none⟩ = some (.slice mA2 (n.2.2.1).length mc2) := box_cell gN.1 2 _ rfl
  have d3 : W0.cell? ⟨w.heap.size, 3, none⟩ = some (.slice mA3 (n.2.2.2).length mc3) := box_cell gN.1 3 _ rfl
  have sW0 : W0.heap.size = w.heap.size + 1 := by rw [hV]; simp
  have HW0 := Lib.hid gN.2
  clear hV gN
  refine (specNetOk_at n _ _ (rdUp good_Net HD.out HW0.out) HF.out).mono ?_
  rintro e w1 ⟨rfl, hb⟩
  replace d0 := keep hb d0
  replace d1 := keep hb d1
  replace d2 := keep hb d2
  replace d3 := keep hb d3
  have HB1 := Lib.hid (bThen HW0.out hb)
  clear hb
  cases f with
  | false =>
    have HE2 := Lib.hid (show (-1 : Int) = r by rw [← HE.out]; unfold depO; rw [HF.out]; rfl)
    go_wp2
    go_ret
    exact ⟨ret_i64 HE2.out, HB1.out⟩
  | true =>
  have HP := Lib.hid (netP_of HF.out)
  obtain ⟨L, hL⟩ : ∃ L, levO n = L := ⟨_, rfl⟩
  have HLL := Lib.hid hL
  have HLEN := Lib.hid (show L.length = netN n by rw [← hL, lev_yes HF.out, levK_len])
  have HLI := Lib.hid (show ∀ j, 0 ≤ L.getD j 0 ∧ L.getD j 0 ≤ 300 from fun j => by have h1 := levK_in n n.2.2.1.length j; have h2 := HP.out.sz.a300; rw [← hL, lev_yes HF.out]; omega)
  clear hL
  go_wp2_with fail
  refine (specLev_at n _ _ (rdUp good_Net HD.out HB1.out) HLL.out).mono ?_
  rintro e w2 ⟨gv, rfl, ho, hb⟩
  replace d0 := keep hb d0
  replace d1 := keep hb d1
  replace d2 := keep hb d2
  replace d3 := keep hb d3
  have HB2 := Lib.hid (bThen HB1.out hb)
  obtain ⟨gA, gc, rfl, -⟩ := ho.shape
  have HL := Lib.hid ho
  clear hb ho
  go_wp2_with fail
  refine (specRoots_at n _ _ (rdUp good_Net HD.out HB2.out) (net_parts HF.out).1 (net_parts HF.out).2).mono ?_
  rintro e w3 ⟨v, rfl, ho, hb⟩
  have HB3 := Lib.hid (bThen HB2.out hb)
  have HBL := Lib.hid hb
  obtain ⟨R, hR⟩ : ∃ R, rootsL n = R := ⟨_, rfl⟩
  rw [hR] at ho
  obtain ⟨rA, rc, rfl, -⟩ := ho.shape
  have HR := Lib.hid ho
  have HRR := Lib.hid hR
  have hr64 : R.length ≤ 64 := by rw [← hR]; exact HP.out.roots_le
  have HRP := Lib.hid (show ∀ k x, R[k]? = some x → ∃ l : Nat, x = (l : Int) ∧ l / 2 < netN n from fun k x h => HP.out.root x (by rw [hR]; exact List.mem_of_getElem? h))
  have HRF := Lib.hid (show ∀ x ∈ R, Fit x by rw [← hR]; exact roots_fit HD.out)
  clear hb ho hR d0 d1 d2 d3
  go_wp2
  go_loopw [5, 6] (fun dv v wr => ∃ k : Nat, k ≤ R.length ∧ v = .int .i64 (k : Int) ∧ dv = .int .i64 (depL L (rootsL n |>.take k)) ∧ Below w3.heap.size w3 wr) (fun _ v _ => R.length - (intOf v).toNat)
  case atStart => exact ⟨0, Nat.zero_le _, rfl, rfl, Below.refl _ _⟩
  case round =>
    obtain ⟨k, hk, rfl, rfl, hb⟩ := hrel
    obtain ⟨w4, rfl⟩ : ∃ w4, w4 = wr := ⟨_, rfl⟩
    have HB0 := Lib.hid hb
    have HB := Lib.hid (bThen HB3.out hb)
    clear hb
    obtain ⟨d, hd⟩ : ∃ d, depL L ((rootsL n).take k) = d := ⟨_, rfl⟩
    have HD0 := Lib.hid hd
    have hdi : 0 ≤ d ∧ d ≤ 300 := by rw [← hd]; exact depL_in (by omega) HLI.out _
    rw [hd]
    clear hd
    by_cases hlt : k < R.length
    · obtain ⟨x, hx⟩ : ∃ x, R[k]? = some x := ⟨_, List.getElem?_eq_getElem hlt⟩
      obtain ⟨l, rfl, hl⟩ := HRP.out k x hx
      obtain ⟨p, hp⟩ : ∃ p, l / 2 = p := ⟨_, rfl⟩
      rw [hp] at hl
      obtain ⟨u, hu⟩ : ∃ u, L.getD p 0 = u := ⟨_, rfl⟩
      have hui := HLI.out p
      rw [hu] at hui
      have HST := Lib.hid (depL_step (L := L) (show (rootsL n)[k]? = some (l : Int) by rw [HRR.out]; exact hx) (show L.getD (l / 2) 0 = u by rw [hp]; exact hu))
      obtain ⟨xb, xq, rfl, xlt, xc, xf⟩ := at_Int (ownI_rd (HR.out.below HB0.out) HRF.out) hx
      unfold Fit at xf
      obtain ⟨gA, gc, ge, gsh⟩ := (HL.out.below (bThen HBL.out HB0.out)).shape
      injection ge with ge1 ge2 ge3
      obtain ⟨G, hG, u0, -⟩ := gsh p (by rw [HLEN.out]; exact hl)
      rw [← ge1] at hG
      (first | subst hG | (injection hG with hG; injection hG with hG; subst hG))
      rw [hu] at u0
      have hpx : ((l : Int) / 2) = (p : Int) := by omega
      have hpt : ((l : Int).tdiv 2) = (p : Int) := by rw [tdiv2, hp]
      have hpw : IntKind.i64.wrap (p : Int) = (p : Int) := wrap64_int _ (by omega) (by omega)
      have hpN : p < L.length := by rw [HLEN.out]; exact hl
      have tpN : (p : Int) < (L.length : Int) := by omega
      clear hx hu gsh ge1 ge2 ge3
      have hl63 : netN n ≤ 333 := HP.out.sz.net_le.1
      by_cases hdu : d < u
      · have HEQ := Lib.hid (show max d u = u by omega)
        go_wp2
        go_roundw
        case rel => exact ⟨k + 1, by omega, by go_num, by rw [HST.out, HD0.out, HEQ.out], HB0.out⟩
        case measure => simp [intOf]; omega
      · have HEQ := Lib.hid (show max d u = d by omega)
        go_wp2
        go_roundw
        case rel => exact ⟨k + 1, by omega, by go_num, by rw [HST.out, HD0.out, HEQ.out], HB0.out⟩
        case measure => simp [intOf]; omega
    · obtain rfl : k = R.length := by omega
      have HE2 := Lib.hid (show d = r by rw [← HE.out, ← HD0.out]; unfold depO; rw [HF.out, if_pos rfl, HLL.out, List.take_of_length_le (by rw [HRR.out]; exact Nat.le_refl _)])
      clear hlt
      go_wp2
      go_ret
      exact ⟨ret_i64 HE2.out, HB.out⟩
end Go.Proofs.Ytedamhkcblemdaa
