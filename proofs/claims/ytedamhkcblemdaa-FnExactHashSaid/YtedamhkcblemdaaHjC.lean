/-
  Hash: the specification.
-/
import Derived.Test.YtedamhkcblemdaaHjB
import Derived.Test.YtedamhkcblemdaaHc3
import Derived.Test.YtedamhkcblemdaaHcD
import Derived.Test.YtedamhkcblemdaaFork
import Derived.Deep.RegionHeld3
namespace Go.Proofs.Ytedamhkcblemdaa
open Go.RowKit
set_option linter.unusedVariables false
set_option linter.unusedSimpArgs false

set_option maxRecDepth 100000 in
set_option maxHeartbeats 25600000 in
theorem specHash_at (n : DNet) (us : List Value) (w : World) (h : rdNet 0 w.heap.size w us n) {m : DNet} (hL : hashO n = m) :
    Calls Try.prog 33 #[.agg us.toArray] w fun e w' => ∃ v1 vA v3 rows bs, e = .returned (.agg #[.int .i64 m.1, v1, vA, v3]) ∧ NetG w.heap.size w' v1 vA v3 rows bs m ∧ Below w.heap.size w w' := by
  obtain ⟨i0, hi, hz0, hz1, hz2⟩ := info_parts infoI
  have HD := Lib.hid h
  have HX := Lib.hid hL
  obtain ⟨f, hf⟩ : ∃ f, netB n = f := ⟨_, rfl⟩
  have HF := Lib.hid hf
  clear hL hf
  obtain ⟨mu0, mu1, mu2, mu3, rfl, mh0, mh1, mh2, mh3⟩ := h
  obtain ⟨me0, -⟩ := mh0
  injection me0 with me0
  subst me0
  obtain ⟨mA1, mc1, me1, mm1, -⟩ := slice_of mh1
  subst me1
  have mR1 := Lib.hid mh1
  clear mh1
  obtain ⟨mA2, mc2, me2, mm2, -⟩ := slice_of mh2
  subst me2
  have mR2 := Lib.hid mh2
  clear mh2
  obtain ⟨mA3, mc3, me3, mm3, -⟩ := slice_of mh3
  subst me3
  have mR3 := Lib.hid mh3
  clear mh3
  go_enter Try.func33, Try.ntmps33
  go_wp2_with fail
  obtain ⟨W0, hV⟩ : ∃ W0, W0 = ((w.alloc (.cells #[.int .i64 n.1, .slice mA1 (n.2.1).length mc1, .slice mA2 (n.2.2.1).length mc2, .slice mA3 (n.2.2.2).length mc3] 36)).alloc (.cells #[.int .i64 0, .slice none 0 0, .slice none 0 0, .slice none 0 0] 36)) := ⟨_, rfl⟩
  rw [← hV]
  have gN := eqbox2 hV
  have d0 : W0.cell? ⟨w.heap.size, 0, none⟩ = some (.int .i64 n.1) := box_cell gN.1 0 _ rfl
  have d1 : W0.cell? ⟨w.heap.size, 1, none⟩ = some (.slice mA1 (n.2.1).length mc1) := box_cell gN.1 1 _ rfl
  have d2 : W0.cell? ⟨w.heap.size, 2, none⟩ = some (.slice mA2 (n.2.2.1).length mc2) := box_cell gN.1 2 _ rfl
  have d3 : W0.cell? ⟨w.heap.size, 3, none⟩ = some (.slice mA3 (n.2.2.2).length mc3) := box_cell gN.1 3 _ rfl
  have HB := Lib.hid gN.2.2
  have HRES := Lib.hid (show BoxN W0 (w.heap.size + 1) (.int .i64 0) vNil vNil vNil from gN.2.1)
  clear hV gN
  refine (specNetOk_at n _ _ (rdUp good_Net HD.out HB.out) HF.out).mono ?_
  rintro e w2 ⟨rfl, hb⟩
  replace d0 := keep hb d0
  replace d1 := keep hb d1
  replace d2 := keep hb d2
  replace d3 := keep hb d3
  replace HB := Lib.hid (bThen HB.out hb)
  replace HRES := Lib.hid (HRES.out.at (hb.block _ HRES.out.lt))
  clear hb
  cases f with
  | false =>
    obtain rfl : zeroN = m := (show hashO n = zeroN by unfold hashO; rw [if_neg (by rw [HF.out]; decide)]).symm.trans HX.out
    have f0 := HRES.out.cells.1.1
    have f1 := HRES.out.cells.1.2.1
    have f2 := HRES.out.cells.1.2.2.1
    have f3 := HRES.out.cells.1.2.2.2
    have fz := HRES.out.cells.2
    go_wp2
    ((try simp only [Exit.inBlock, Exit.then]); refine bodyPost_ret (v := (.agg #[.int .i64 0, .slice none 0 0, .slice none 0 0, .slice none 0 0])) (by rw [results_cell1 rfl]; go_simp) rfl ?_)
    have P2 := bSet (bSet (bSet (bSet HB.out (p := ⟨w.heap.size + 1, 0, none⟩) (Nat.le_succ _) (.int .i64 0)) (p := ⟨w.heap.size + 1, 1, none⟩) (Nat.le_succ _) (.slice none 0 0)) (p := ⟨w.heap.size + 1, 2, none⟩) (Nat.le_succ _) (.slice none 0 0)) (p := ⟨w.heap.size + 1, 3, none⟩) (Nat.le_succ _) (.slice none 0 0)
    exact ⟨_, _, _, [], [], rfl, zeroG _ _, P2⟩
  | true =>
    have hP := netP_of HF.out
    have HP := Lib.hid hP
    have a300 := hP.sz.a300
    have s12 := hP.sz.s12
    have h33 : firN n ≤ 33 := by have := hP.sz.i20; unfold firN; omega
    have hw2 : w.heap.size + 2 ≤ w2.heap.size := by have := HRES.out.lt; omega
    clear hP
    have HE2 := Lib.hid (And.intro d0 (And.intro d1 (And.intro d2 d3)))
    have HBW2 := Lib.hid HB.out
    go_wp2_with fail
    refine (specEmpty_at n _ _ (rdUp good_Net HD.out HB.out) HP.out).mono ?_
    rintro e w3 ⟨v1, rows, bs, vt, rfl, hnet, hto, hdj, hb⟩
    replace d0 := keep hb d0
    replace d1 := keep hb d1
    replace d2 := keep hb d2
    replace d3 := keep hb d3
    replace HB := Lib.hid (bThen HB.out hb)
    replace HRES := Lib.hid (HRES.out.at (hb.block _ HRES.out.lt))
    have hw3 := hb.size
    obtain ⟨A1, c1, rfl⟩ := hnet.s.cap fV3_len
    obtain ⟨tA, tc, rfl, -⟩ := hto.shape
    have HTO := Lib.hid hto
    have HTO3 := Lib.hid hto
    have HB26 := Lib.hid hb
    have HDJ := Lib.hid hdj
    have HNET := Lib.hid (hnet.lower hw2)
    clear hto hdj hnet
    clear hb
    have hlt0 : w.heap.size < w3.heap.size := by omega
    go_wp2_with fail
    obtain ⟨w5, hW5⟩ : ∃ x, x = w3.alloc (.cells #[.int .i64 n.1, .slice A1 (emptyN n).2.1.length c1, .slice none 0 0, .slice none 0 0] 36) := ⟨_, rfl⟩
    rw [← hW5]
    have hb5 : Below w3.heap.size w3 w5 := by rw [hW5]; exact bAlloc (Below.refl _ _) (Nat.le_refl _) _
    have HC := Lib.hid (CopyAt.init (w0 := w) (n := emptyN n) hW5 HRES.out HNET.out HB.out (Nat.le_succ _) (by omega) (by omega))
    obtain ⟨G, hG⟩ : ∃ G, w3.heap.size = G := ⟨_, rfl⟩
    rw [hG] at HC ⊢
    replace d0 := keep hb5 d0
    replace d1 := keep hb5 d1
    replace d2 := keep hb5 d2
    replace d3 := keep hb5 d3
    replace HB := Lib.hid (bThen HB.out hb5)
    replace HTO := Lib.hid (HTO.out.below hb5)
    replace HB26 := Lib.hid (bThen HB26.out hb5)
    have hG3 := Nat.le_of_eq hG
    have hGw2 : w2.heap.size ≤ G := Nat.le_trans hw3 hG3
    clear hW5 hb5 HNET HRES hG
    have HE := Lib.hid (show w2.cell? ⟨w.heap.size, 0, none⟩ = some (.int .i64 n.1) ∧ w2.cell? ⟨w.heap.size, 1, none⟩ = some (.slice mA1 (n.2.1).length mc1) ∧ w2.cell? ⟨w.heap.size, 2, none⟩ = some (.slice mA2 (n.2.2.1).length mc2) ∧ w2.cell? ⟨w.heap.size, 3, none⟩ = some (.slice mA3 (n.2.2.2).length mc3) from HE2.out)
    have HB2 := Lib.hid HBW2.out
    have HBA := Lib.hid HB26.out
    have HAP := Lib.hid (show ∀ b, (Value.slice tA (toK0 n).length tc).ownBlock = some b → b ≠ G ∧ b ∉ blkL (.slice A1 (emptyN n).2.1.length c1) ++ (bs ++ (blkL (.slice none 0 0) ++ blkL (.slice none 0 0))) from fun b e => ⟨fun eG => by
      have h1 := (HTO3.out.lt b e).2
      omega, fun hm => by simp only [blkL_nil, List.append_nil] at hm; exact HDJ.out b e hm⟩)
    have HCS := Lib.hid (show CopyAt w w5 (w.heap.size + 1) G (.slice A1 (emptyN n).2.1.length c1) (.slice none 0 0) (.slice none 0 0) rows bs (hashK n 0).1 from HC.out)
    clear d0 d1 d2 d3 HB HE2 HBW2 HB26 HC
    go_loopw [4, 5] (fun t z wr => ∃ (k : Nat) (B : Option Addr) (d : Nat) (v1 vA v3 : Value) (rows : List V3) (bs : List Nat), k ≤ n.2.2.1.length ∧ z = .int .i64 (k : Int) ∧ t = .slice B (hashK n k).2.length d ∧ OwnsI wr w2.heap.size (.slice B (hashK n k).2.length d) (hashK n k).2 ∧ CopyAt w wr (w.heap.size + 1) G v1 vA v3 rows bs (hashK n k).1 ∧ (∀ b, (Value.slice B (hashK n k).2.length d).ownBlock = some b → b ≠ G ∧ b ∉ blkL v1 ++ (bs ++ (blkL vA ++ blkL v3))) ∧ Below w2.heap.size w2 wr) (fun _ z _ => n.2.2.1.length - (intOf z).toNat)
    case atStart => exact ⟨0, tA, tc, _, _, _, rows, bs, Nat.zero_le _, rfl, rfl, HTO.out, HCS.out, HAP.out, HBA.out⟩
    case round =>
      obtain ⟨k, B, d, v1, vA, v3, rows, bs, hk, rfl, rfl, hA, hC, hne, hb⟩ := hrel
      obtain ⟨w3, rfl⟩ : ∃ w3, w3 = wr := ⟨_, rfl⟩
      clear HCS HTO HAP HBA
      have HA := Lib.hid hA
      have HC := Lib.hid hC
      have HNE := Lib.hid hne
      have HBL := Lib.hid hb
      have HB := Lib.hid (bThen HB2.out hb)
      have hwl := hb.size
      have hw0 : w.heap.size < w3.heap.size := by omega
      have d2 := keep hb HE.out.2.2.1
      clear hA hC hne hb
      by_cases hlt : k < n.2.2.1.length
      · obtain ⟨a, ha⟩ : ∃ a, n.2.2.1[k]? = some a := ⟨_, List.getElem?_eq_getElem hlt⟩
        obtain ⟨p, q, rfl, hp, hq⟩ := HP.out.and_ k a ha
        obtain ⟨ab, aq, rfl, ab1, x0, xf0, x1, xf1⟩ := at_And (good_AndS.below mR2.out (Nat.le_refl _) HB.out) ha
        have ab2 := Nat.lt_of_lt_of_le ab1 HB.out.size
        have tk : (k : Int) < (n.2.2.1.length : Int) := by omega
        have HSTEP := Lib.hid (hash_step HP.out ha)
        have hlen := hash_len HP.out (k := k) (by omega)
        have hbd := hashK_bd HP.out (k := k) (by omega)
        obtain ⟨tp, htp⟩ := hash_lit HP.out (k := k) (by omega) hp
        obtain ⟨tr, htr⟩ := hash_lit HP.out (k := k) (by omega) hq
        have HOP := Lib.hid (hinv_all HP.out k (by omega)).net
        have hpf : (p : Int) ≤ 9223372036854775807 := by unfold Fit at xf0; omega
        have hqf : (q : Int) ≤ 9223372036854775807 := by unfold Fit at xf1; omega
        obtain ⟨ON, hON⟩ : ∃ ON, (hashK n k).1 = ON := ⟨_, rfl⟩
        obtain ⟨OM, hOM⟩ : ∃ OM, (hashK n (k + 1)).1 = OM := ⟨_, rfl⟩
        obtain ⟨KL, hKL⟩ : ∃ KL, (hashK n k).2 = KL := ⟨_, rfl⟩
        rw [hON] at HC HSTEP HOP
        rw [hKL] at HA HNE HSTEP htp htr hlen hbd
        rw [hOM] at HSTEP
        rw [hKL]
        obtain ⟨px, hpx⟩ : ∃ px, mapI KL (p : Int) = px := ⟨_, rfl⟩
        obtain ⟨qx, hqx⟩ : ∃ qx, mapI KL (q : Int) = qx := ⟨_, rfl⟩
        rw [hpx, hqx] at HSTEP
        obtain ⟨y, -, hst1, hst2, hy0, hy1⟩ := HSTEP.out
        have HAND := Lib.hid hst1
        have HST := Lib.hid (And.intro hst2 hOM)
        have HPX := Lib.hid (show Fit px by rw [← hpx]; have := mapI_bd (l := (p : Int)) (fun x hx => ⟨by have := (hbd x hx).1; omega, by have := (hbd x hx).2; omega⟩); unfold Fit; omega)
        have HQX := Lib.hid (show Fit qx by rw [← hqx]; have := mapI_bd (l := (q : Int)) (fun x hx => ⟨by have := (hbd x hx).1; omega, by have := (hbd x hx).2; omega⟩); unfold Fit; omega)
        have hll : KL.length ≤ 400 := by omega
        have hKF : ∀ x ∈ KL, Fit x := fun x hx => by have := hbd x hx; unfold Fit; omega
        obtain ⟨tb, tq, rfl, tb1, z0, -⟩ := at_Int (ownI_rd HA.out hKF) htp
        obtain ⟨tb', tq', eT, -, z1, -⟩ := at_Int (ownI_rd HA.out hKF) htr
        cases eT
        have htp9 := (hbd _ (List.mem_of_getElem? htp)).2
        have htr9 := (hbd _ (List.mem_of_getElem? htr)).2
        have tlp := (List.getElem?_eq_some_iff.1 htp).1
        have tlq := (List.getElem?_eq_some_iff.1 htr).1
        have e3 := map_bits htp (by omega)
        have e6 := map_bits htr (by omega)
        rw [hpx] at e3
        rw [hqx] at e6
        obtain ⟨f1, hf1⟩ : ∃ f, p / 2 = f := ⟨_, rfl⟩
        obtain ⟨f2, hf2⟩ : ∃ f, q / 2 = f := ⟨_, rfl⟩
        rw [hf1] at z0 tlp
        rw [hf2] at z1 tlq
        have ty1 : (f1 : Int) < (KL.length : Int) := by omega
        have ty2 : (f2 : Int) < (KL.length : Int) := by omega
        have e1 : IntKind.i64.wrap ((p : Int) / 2) = (f1 : Int) := by rw [wrap64_int _ (by omega) (by omega)]; omega
        have e4 : IntKind.i64.wrap ((q : Int) / 2) = (f2 : Int) := by rw [wrap64_int _ (by omega) (by omega)]; omega
        have e2 := and_one (p : Int)
        have e5 := and_one (q : Int)
        obtain ⟨r1, hr1⟩ : ∃ u, (p : Int) % 2 = u := ⟨_, rfl⟩
        obtain ⟨r2, hr2⟩ : ∃ u, (q : Int) % 2 = u := ⟨_, rfl⟩
        rw [hr1] at e2 e3
        rw [hr2] at e5 e6
        have g0 := HC.out.box.cells.1.1
        have g1 := HC.out.box.cells.1.2.1
        have g2 := HC.out.box.cells.1.2.2.1
        have g3 := HC.out.box.cells.1.2.2.2
        clear ha hp hq xf0 xf1 ab1 hON hOM hKL hst1 hst2 htp htr hlen hbd hpx hqx hf1 hf2 hr1 hr2 HSTEP tlp tlq hKF
        go_wp2_with fail
        have hS0 : (fun w' => Below w3.heap.size w3 w' ∧ w'.cell? ⟨G, 0, none⟩ = some (.int .i64 ON.1) ∧ w'.cell? ⟨G, 1, none⟩ = some (v1) ∧ w'.cell? ⟨G, 2, none⟩ = some (vA) ∧ w'.cell? ⟨G, 3, none⟩ = some (v3) ∧ w'.cell? ⟨w.heap.size, 2, none⟩ = some (.slice (some ⟨ab, aq, none⟩) (n.2.2.1).length mc2) ∧ w'.cell? ⟨ab, aq + k * 2, none⟩ = some (.int .i64 (p : Int)) ∧ w'.cell? ⟨ab, aq + k * 2 + 1, none⟩ = some (.int .i64 (q : Int)) ∧ w'.cell? ⟨tb, tq + f1, none⟩ = some (.int .i64 (tp : Int)) ∧ w'.cell? ⟨tb, tq + f2, none⟩ = some (.int .i64 (tr : Int))) w3 := ⟨Below.refl _ _, g0, g1, g2, g3, d2, x0, x1, z0, z1⟩
        have hS : ∀ {w0 w' : World}, (fun w' => Below w3.heap.size w3 w' ∧ w'.cell? ⟨G, 0, none⟩ = some (.int .i64 ON.1) ∧ w'.cell? ⟨G, 1, none⟩ = some (v1) ∧ w'.cell? ⟨G, 2, none⟩ = some (vA) ∧ w'.cell? ⟨G, 3, none⟩ = some (v3) ∧ w'.cell? ⟨w.heap.size, 2, none⟩ = some (.slice (some ⟨ab, aq, none⟩) (n.2.2.1).length mc2) ∧ w'.cell? ⟨ab, aq + k * 2, none⟩ = some (.int .i64 (p : Int)) ∧ w'.cell? ⟨ab, aq + k * 2 + 1, none⟩ = some (.int .i64 (q : Int)) ∧ w'.cell? ⟨tb, tq + f1, none⟩ = some (.int .i64 (tp : Int)) ∧ w'.cell? ⟨tb, tq + f2, none⟩ = some (.int .i64 (tr : Int))) w0 → Below w0.heap.size w0 w' → (fun w' => Below w3.heap.size w3 w' ∧ w'.cell? ⟨G, 0, none⟩ = some (.int .i64 ON.1) ∧ w'.cell? ⟨G, 1, none⟩ = some (v1) ∧ w'.cell? ⟨G, 2, none⟩ = some (vA) ∧ w'.cell? ⟨G, 3, none⟩ = some (v3) ∧ w'.cell? ⟨w.heap.size, 2, none⟩ = some (.slice (some ⟨ab, aq, none⟩) (n.2.2.1).length mc2) ∧ w'.cell? ⟨ab, aq + k * 2, none⟩ = some (.int .i64 (p : Int)) ∧ w'.cell? ⟨ab, aq + k * 2 + 1, none⟩ = some (.int .i64 (q : Int)) ∧ w'.cell? ⟨tb, tq + f1, none⟩ = some (.int .i64 (tp : Int)) ∧ w'.cell? ⟨tb, tq + f2, none⟩ = some (.int .i64 (tr : Int))) w' := fun h hb => ⟨bThen h.1 hb, keep hb h.2.1, keep hb h.2.2.1, keep hb h.2.2.2.1, keep hb h.2.2.2.2.1, keep hb h.2.2.2.2.2.1, keep hb h.2.2.2.2.2.2.1, keep hb h.2.2.2.2.2.2.2.1, keep hb h.2.2.2.2.2.2.2.2.1, keep hb h.2.2.2.2.2.2.2.2.2⟩
        dsimp only at hS0 hS
        refine wp_region_noPanic ?_
        refine wp_region_kept 43 44 (fun w' => Below w3.heap.size w3 w' ∧ w'.cell? ⟨G, 0, none⟩ = some (.int .i64 ON.1) ∧ w'.cell? ⟨G, 1, none⟩ = some (v1) ∧ w'.cell? ⟨G, 2, none⟩ = some (vA) ∧ w'.cell? ⟨G, 3, none⟩ = some (v3) ∧ w'.cell? ⟨w.heap.size, 2, none⟩ = some (.slice (some ⟨ab, aq, none⟩) (n.2.2.1).length mc2) ∧ w'.cell? ⟨ab, aq + k * 2, none⟩ = some (.int .i64 (p : Int)) ∧ w'.cell? ⟨ab, aq + k * 2 + 1, none⟩ = some (.int .i64 (q : Int)) ∧ w'.cell? ⟨tb, tq + f1, none⟩ = some (.int .i64 (tp : Int)) ∧ w'.cell? ⟨tb, tq + f2, none⟩ = some (.int .i64 (tr : Int))) (by kernel_rfl) rfl (hS hS0 (Below.drew (Below.refl _ _))) (fun hK0 => ?_)
        obtain ⟨Wd, hWd⟩ : ∃ x, x = w3.drew := ⟨_, rfl⟩
        have hbd : Below w3.heap.size w3 Wd := by rw [hWd]; exact Below.drew (Below.refl _ _)
        have hszWd : w3.heap.size ≤ Wd.heap.size := hbd.size
        have HCWd := Lib.hid (HC.out.below hbd)
        have HBWd := Lib.hid hbd
        rw [← hWd] at hK0 ⊢
        clear hWd hbd
        refine Kept.take (v := ?vr0) 0 (by kernel_rfl) rfl (by kernel_rfl) (fun _ _ _ h => h) (Or.inl ⟨by rfl, ?hyr0⟩) hK0 ?restr0
        case hyr0 =>
          intro w0 hSw
          (try dsimp only at hSw)
          go_simp
          all_goals (with_reducible rfl)
        (try simp only [Act.put, List.setIfInBounds_toArray, List.set_cons_zero, List.set_cons_succ])
        refine Kept.take (v := ?vr1) 1 (by kernel_rfl) rfl (by kernel_rfl) (fun _ _ _ h => h) (Or.inl ⟨by rfl, ?hyr1⟩) hK0 ?restr1
        case hyr1 =>
          intro w0 hSw
          (try dsimp only at hSw)
          go_simp
          all_goals (with_reducible rfl)
        (try simp only [Act.put, List.setIfInBounds_toArray, List.set_cons_zero, List.set_cons_succ])
        refine Kept.take (v := ?vr2) 2 (by kernel_rfl) rfl (by kernel_rfl) (fun _ _ _ h => h) (Or.inl ⟨by rfl, ?hyr2⟩) hK0 ?restr2
        case hyr2 =>
          intro w0 hSw
          (try dsimp only at hSw)
          go_simp
          all_goals (with_reducible rfl)
        (try simp only [Act.put, List.setIfInBounds_toArray, List.set_cons_zero, List.set_cons_succ])
        refine Kept.take (v := ?vr3) 3 (by kernel_rfl) rfl (by kernel_rfl) (fun _ _ _ h => h) (Or.inl ⟨by rfl, ?hyr3⟩) hK0 ?restr3
        case hyr3 =>
          intro w0 hSw
          (try dsimp only at hSw)
          go_simp
          all_goals (with_reducible rfl)
        (try simp only [Act.put, List.setIfInBounds_toArray, List.set_cons_zero, List.set_cons_succ])
        refine Kept.take (v := ?vr4) 4 (by kernel_rfl) rfl (by kernel_rfl) (fun _ _ _ h => h) (Or.inl ⟨by rfl, ?hyr4⟩) hK0 ?restr4
        case hyr4 =>
          intro w0 hSw
          (try dsimp only at hSw)
          go_simp
          all_goals (with_reducible rfl)
        (try simp only [Act.put, List.setIfInBounds_toArray, List.set_cons_zero, List.set_cons_succ])
        refine Kept.take (v := ?vr5) 5 (by kernel_rfl) rfl (by kernel_rfl) (fun _ _ _ h => h) (Or.inl ⟨by rfl, ?hyr5⟩) hK0 ?restr5
        case hyr5 =>
          intro w0 hSw
          (try dsimp only at hSw)
          go_simp
          all_goals (with_reducible rfl)
        (try simp only [Act.put, List.setIfInBounds_toArray, List.set_cons_zero, List.set_cons_succ])
        refine Kept.take (v := ?vr6) 6 (by kernel_rfl) rfl (by kernel_rfl) (fun _ _ _ h => h) (Or.inl ⟨by rfl, ?hyr6⟩) hK0 ?restr6
        case hyr6 =>
          intro w0 hSw
          (try dsimp only at hSw)
          go_simp
          all_goals (with_reducible rfl)
        (try simp only [Act.put, List.setIfInBounds_toArray, List.set_cons_zero, List.set_cons_succ])
        refine Kept.take (v := ?vr7) 7 (by kernel_rfl) rfl (by kernel_rfl) (fun _ _ _ h => h) (Or.inl ⟨by rfl, ?hyr7⟩) hK0 ?restr7
        case hyr7 =>
          intro w0 hSw
          (try dsimp only at hSw)
          go_simp
          all_goals (with_reducible rfl)
        (try simp only [Act.put, List.setIfInBounds_toArray, List.set_cons_zero, List.set_cons_succ])
        refine Kept.take (v := ?vr8) 8 (by kernel_rfl) rfl (by kernel_rfl) (fun _ _ _ h => h) (Or.inl ⟨by rfl, ?hyr8⟩) hK0 ?restr8
        case hyr8 =>
          intro w0 hSw
          (try dsimp only at hSw)
          go_simp
          all_goals (with_reducible rfl)
        (try simp only [Act.put, List.setIfInBounds_toArray, List.set_cons_zero, List.set_cons_succ])
        refine Kept.take (v := ?vr9) 9 (by kernel_rfl) rfl (by kernel_rfl) (fun _ _ _ h => h) (Or.inl ⟨by rfl, ?hyr9⟩) hK0 ?restr9
        case hyr9 =>
          intro w0 hSw
          (try dsimp only at hSw)
          go_simp
          all_goals (with_reducible rfl)
        (try simp only [Act.put, List.setIfInBounds_toArray, List.set_cons_zero, List.set_cons_succ])
        refine Kept.take (v := ?vr10) 10 (by kernel_rfl) rfl (by kernel_rfl) (fun _ _ _ h => h) (Or.inl ⟨by rfl, ?hyr10⟩) hK0 ?restr10
        case hyr10 =>
          intro w0 hSw
          (try dsimp only at hSw)
          go_simp
          all_goals (with_reducible rfl)
        (try simp only [Act.put, List.setIfInBounds_toArray, List.set_cons_zero, List.set_cons_succ])
        refine Kept.take (v := ?vr11) 11 (by kernel_rfl) rfl (by kernel_rfl) (fun _ _ _ h => h) (Or.inl ⟨by rfl, ?hyr11⟩) hK0 ?restr11
        case hyr11 =>
          intro w0 hSw
          (try dsimp only at hSw)
          go_simp
          all_goals (with_reducible rfl)
        (try simp only [Act.put, List.setIfInBounds_toArray, List.set_cons_zero, List.set_cons_succ])
        refine Kept.take (v := ?vr12) 12 (by kernel_rfl) rfl (by kernel_rfl) (fun _ _ _ h => h) (Or.inl ⟨by rfl, ?hyr12⟩) hK0 ?restr12
        case hyr12 =>
          intro w0 hSw
          (try dsimp only at hSw)
          go_simp
          all_goals (with_reducible rfl)
        (try simp only [Act.put, List.setIfInBounds_toArray, List.set_cons_zero, List.set_cons_succ])
        refine Kept.take (v := ?vr13) 13 (by kernel_rfl) rfl (by kernel_rfl) (fun _ _ _ h => h) (Or.inl ⟨by rfl, ?hyr13⟩) hK0 ?restr13
        case hyr13 =>
          intro w0 hSw
          (try dsimp only at hSw)
          go_simp
          all_goals (with_reducible rfl)
        (try simp only [Act.put, List.setIfInBounds_toArray, List.set_cons_zero, List.set_cons_succ])
        refine Kept.take (v := ?vr14) 14 (by kernel_rfl) rfl (by kernel_rfl) (fun _ _ _ h => h) (Or.inl ⟨by rfl, ?hyr14⟩) hK0 ?restr14
        case hyr14 =>
          intro w0 hSw
          (try dsimp only at hSw)
          go_simp
          all_goals (with_reducible rfl)
        (try simp only [Act.put, List.setIfInBounds_toArray, List.set_cons_zero, List.set_cons_succ])
        refine Kept.take (v := ?vr15) 15 (by kernel_rfl) rfl (by kernel_rfl) (fun _ _ _ h => h) (Or.inl ⟨by rfl, ?hyr15⟩) hK0 ?restr15
        case hyr15 =>
          intro w0 hSw
          (try dsimp only at hSw)
          go_simp
          all_goals (with_reducible rfl)
        (try simp only [Act.put, List.setIfInBounds_toArray, List.set_cons_zero, List.set_cons_succ])
        refine Kept.take (v := ?vr16) 16 (by kernel_rfl) rfl (by kernel_rfl) (fun _ _ _ h => h) (Or.inl ⟨by rfl, ?hyr16⟩) hK0 ?restr16
        case hyr16 =>
          intro w0 hSw
          (try dsimp only at hSw)
          go_simp
          all_goals (with_reducible rfl)
        (try simp only [Act.put, List.setIfInBounds_toArray, List.set_cons_zero, List.set_cons_succ])
        refine Kept.take (v := ?vr17) 17 (by kernel_rfl) rfl (by kernel_rfl) (fun _ _ _ h => h) (Or.inl ⟨by rfl, ?hyr17⟩) hK0 ?restr17
        case hyr17 =>
          intro w0 hSw
          (try dsimp only at hSw)
          go_simp
          all_goals (with_reducible rfl)
        (try simp only [Act.put, List.setIfInBounds_toArray, List.set_cons_zero, List.set_cons_succ])
        refine Kept.take (v := ?vr18) 18 (by kernel_rfl) rfl (by kernel_rfl) (fun _ _ _ h => h) (Or.inl ⟨by rfl, ?hyr18⟩) hK0 ?restr18
        case hyr18 =>
          intro w0 hSw
          (try dsimp only at hSw)
          go_simp
          all_goals (with_reducible rfl)
        (try simp only [Act.put, List.setIfInBounds_toArray, List.set_cons_zero, List.set_cons_succ])
        refine Kept.take (v := ?vr19) 19 (by kernel_rfl) rfl (by kernel_rfl) (fun _ _ _ h => h) (Or.inl ⟨by rfl, ?hyr19⟩) hK0 ?restr19
        case hyr19 =>
          intro w0 hSw
          (try dsimp only at hSw)
          go_simp
          all_goals (with_reducible rfl)
        (try simp only [Act.put, List.setIfInBounds_toArray, List.set_cons_zero, List.set_cons_succ])
        refine Kept.take (v := ?vr20) 20 (by kernel_rfl) rfl (by kernel_rfl) (fun _ _ _ h => h) (Or.inl ⟨by rfl, ?hyr20⟩) hK0 ?restr20
        case hyr20 =>
          intro w0 hSw
          (try dsimp only at hSw)
          go_simp
          all_goals (with_reducible rfl)
        (try simp only [Act.put, List.setIfInBounds_toArray, List.set_cons_zero, List.set_cons_succ])
        refine Kept.take (v := ?vr21) 21 (by kernel_rfl) rfl (by kernel_rfl) (fun _ _ _ h => h) (Or.inl ⟨by rfl, ?hyr21⟩) hK0 ?restr21
        case hyr21 =>
          intro w0 hSw
          (try dsimp only at hSw)
          go_simp
          all_goals (with_reducible rfl)
        (try simp only [Act.put, List.setIfInBounds_toArray, List.set_cons_zero, List.set_cons_succ])
        refine Kept.take (v := ?vr22) 22 (by kernel_rfl) rfl (by kernel_rfl) (fun _ _ _ h => h) (Or.inl ⟨by rfl, ?hyr22⟩) hK0 ?restr22
        case hyr22 =>
          intro w0 hSw
          (try dsimp only at hSw)
          go_simp
          all_goals (with_reducible rfl)
        (try simp only [Act.put, List.setIfInBounds_toArray, List.set_cons_zero, List.set_cons_succ])
        refine Kept.take (v := ?vr23) 23 (by kernel_rfl) rfl (by kernel_rfl) (fun _ _ _ h => h) (Or.inl ⟨by rfl, ?hyr23⟩) hK0 ?restr23
        case hyr23 =>
          intro w0 hSw
          (try dsimp only at hSw)
          go_simp
          all_goals (with_reducible rfl)
        (try simp only [Act.put, List.setIfInBounds_toArray, List.set_cons_zero, List.set_cons_succ])
        refine Kept.take (v := ?vr24) 24 (by kernel_rfl) rfl (by kernel_rfl) (fun _ _ _ h => h) (Or.inl ⟨by rfl, ?hyr24⟩) hK0 ?restr24
        case hyr24 =>
          intro w0 hSw
          (try dsimp only at hSw)
          go_simp
          all_goals (with_reducible rfl)
        (try simp only [Act.put, List.setIfInBounds_toArray, List.set_cons_zero, List.set_cons_succ])
        refine Kept.take (v := ?vr25) 25 (by kernel_rfl) rfl (by kernel_rfl) (fun _ _ _ h => h) (Or.inl ⟨by rfl, ?hyr25⟩) hK0 ?restr25
        case hyr25 =>
          intro w0 hSw
          (try dsimp only at hSw)
          go_simp
          all_goals (with_reducible rfl)
        (try simp only [Act.put, List.setIfInBounds_toArray, List.set_cons_zero, List.set_cons_succ])
        refine Kept.take (v := ?vr26) 26 (by kernel_rfl) rfl (by kernel_rfl) (fun _ _ _ h => h) (Or.inl ⟨by rfl, ?hyr26⟩) hK0 ?restr26
        case hyr26 =>
          intro w0 hSw
          (try dsimp only at hSw)
          go_simp
          all_goals (with_reducible rfl)
        (try simp only [Act.put, List.setIfInBounds_toArray, List.set_cons_zero, List.set_cons_succ])
        refine Kept.take (v := ?vr27) 27 (by kernel_rfl) rfl (by kernel_rfl) (fun _ _ _ h => h) (Or.inl ⟨by rfl, ?hyr27⟩) hK0 ?restr27
        case hyr27 =>
          intro w0 hSw
          (try dsimp only at hSw)
          go_simp
          all_goals (with_reducible rfl)
        (try simp only [Act.put, List.setIfInBounds_toArray, List.set_cons_zero, List.set_cons_succ])
        refine Kept.take (v := ?vr28) 28 (by kernel_rfl) rfl (by kernel_rfl) (fun _ _ _ h => h) (Or.inl ⟨by rfl, ?hyr28⟩) hK0 ?restr28
        case hyr28 =>
          intro w0 hSw
          (try dsimp only at hSw)
          go_simp
          all_goals (with_reducible rfl)
        (try simp only [Act.put, List.setIfInBounds_toArray, List.set_cons_zero, List.set_cons_succ])
        refine Kept.take (v := ?vr29) 29 (by kernel_rfl) rfl (by kernel_rfl) (fun _ _ _ h => h) (Or.inl ⟨by rfl, ?hyr29⟩) hK0 ?restr29
        case hyr29 =>
          intro w0 hSw
          (try dsimp only at hSw)
          go_simp
          all_goals (with_reducible rfl)
        (try simp only [Act.put, List.setIfInBounds_toArray, List.set_cons_zero, List.set_cons_succ])
        refine Kept.take (v := ?vr30) 30 (by kernel_rfl) rfl (by kernel_rfl) (fun _ _ _ h => h) (Or.inl ⟨by rfl, ?hyr30⟩) hK0 ?restr30
        case hyr30 =>
          intro w0 hSw
          (try dsimp only at hSw)
          go_simp
          all_goals (with_reducible rfl)
        (try simp only [Act.put, List.setIfInBounds_toArray, List.set_cons_zero, List.set_cons_succ])
        refine Kept.take (v := ?vr31) 31 (by kernel_rfl) rfl (by kernel_rfl) (fun _ _ _ h => h) (Or.inl ⟨by rfl, ?hyr31⟩) hK0 ?restr31
        case hyr31 =>
          intro w0 hSw
          (try dsimp only at hSw)
          go_simp
          all_goals (with_reducible rfl)
        (try simp only [Act.put, List.setIfInBounds_toArray, List.set_cons_zero, List.set_cons_succ])
        refine Kept.take (v := ?vr32) 32 (by kernel_rfl) rfl (by kernel_rfl) (fun _ _ _ h => h) (Or.inl ⟨by rfl, ?hyr32⟩) hK0 ?restr32
        case hyr32 =>
          intro w0 hSw
          (try dsimp only at hSw)
          go_simp
          all_goals (with_reducible rfl)
        (try simp only [Act.put, List.setIfInBounds_toArray, List.set_cons_zero, List.set_cons_succ])
        refine Kept.take (v := ?vr33) 33 (by kernel_rfl) rfl (by kernel_rfl) (fun _ _ _ h => h) (Or.inl ⟨by rfl, ?hyr33⟩) hK0 ?restr33
        case hyr33 =>
          intro w0 hSw
          (try dsimp only at hSw)
          go_simp
          all_goals (with_reducible rfl)
        (try simp only [Act.put, List.setIfInBounds_toArray, List.set_cons_zero, List.set_cons_succ])
        refine Kept.take (v := ?vr34) 34 (by kernel_rfl) rfl (by kernel_rfl) (fun _ _ _ h => h) (Or.inl ⟨by rfl, ?hyr34⟩) hK0 ?restr34
        case hyr34 =>
          intro w0 hSw
          (try dsimp only at hSw)
          go_simp
          all_goals (with_reducible rfl)
        (try simp only [Act.put, List.setIfInBounds_toArray, List.set_cons_zero, List.set_cons_succ])
        refine Kept.take (v := ?vr35) 35 (by kernel_rfl) rfl (by kernel_rfl) (fun _ _ _ h => h) (Or.inl ⟨by rfl, ?hyr35⟩) hK0 ?restr35
        case hyr35 =>
          intro w0 hSw
          (try dsimp only at hSw)
          go_simp
          all_goals (with_reducible rfl)
        (try simp only [Act.put, List.setIfInBounds_toArray, List.set_cons_zero, List.set_cons_succ])
        refine Kept.take (v := ?vr36) 36 (by kernel_rfl) rfl (by kernel_rfl) (fun _ _ _ h => h) (Or.inl ⟨by rfl, ?hyr36⟩) hK0 ?restr36
        case hyr36 =>
          intro w0 hSw
          (try dsimp only at hSw)
          go_simp
          all_goals (with_reducible rfl)
        (try simp only [Act.put, List.setIfInBounds_toArray, List.set_cons_zero, List.set_cons_succ])
        refine Kept.fork [37, 41] (by kernel_rfl) (by decide) (fun iF hi o ho K hK => ?_)
        simp only [List.mem_cons, List.not_mem_nil, or_false] at hi
        rcases hi with rfl | rfl
        · have ho' := Option.some.inj ho
          subst ho'
          go_simp
          go_at_call 83
          refine (specAnd_at ON px qx [.int .i64 ON.1, v1, vA, v3] _ HCWd.out.net.rd0 (by have := HOP.out.sz.s12; omega) (fun s hs => by have := (seq_ins (HOP.out.seq s hs)).1; omega) (by have := HOP.out.sz.a300; omega) (by have := HOP.out.sz.o16; omega) HPX.out HQX.out HAND.out).mono ?_
          rintro e p37 ⟨u1, uA, u3, rows', bs', rfl, hnm, hbN⟩
          obtain ⟨B1, q1, rfl⟩ := hnm.s.cap fV3_len
          obtain ⟨B2, q2, rfl⟩ := hnm.a.cap fAnd_len
          obtain ⟨B3, q3, rfl⟩ := hnm.o.cap fInt_len
          have HNM := Lib.hid (show NetG Wd.heap.size p37 (.slice B1 OM.2.1.length q1) (.slice B2 OM.2.2.1.length q2) (.slice B3 OM.2.2.2.length q3) rows' bs' OM from hnm)
          have HNL := Lib.hid (show ∀ b ∈ blkL (.slice B1 OM.2.1.length q1) ++ (bs' ++ (blkL (.slice B2 OM.2.2.1.length q2) ++ blkL (.slice B3 OM.2.2.2.length q3))), Wd.heap.size ≤ b ∧ b < p37.heap.size from fun b hb => by have := hnm.lt (b := b) hb; omega)
          have hNW : w3.heap.size ≤ Wd.heap.size := hszWd
          clear hnm
          have hsp37 : Wd.heap.size ≤ p37.heap.size := hbN.size
          have hszp37 : w3.heap.size ≤ p37.heap.size := Nat.le_trans hszWd hsp37
          have HCp37 := Lib.hid (HCWd.out.below hbN)
          have HBp37 := Lib.hid (bThen HBWd.out hbN)
          go_simp
          refine hK.out _ _ (hS hK0 hbN) (fun hK1 => ?_)
          clear hK K hK0 hbN
          (try simp only [Act.put, List.setIfInBounds_toArray, List.set_cons_zero, List.set_cons_succ])
          refine Kept.take (v := ?vb38) 38 (by kernel_rfl) rfl (by kernel_rfl) (fun _ _ _ h => h) (Or.inl ⟨by rfl, ?hyb38⟩) hK1 ?restb38
          case hyb38 =>
            intro w0 hSw
            (try dsimp only at hSw)
            go_simp
            all_goals (with_reducible rfl)
          (try simp only [Act.put, List.setIfInBounds_toArray, List.set_cons_zero, List.set_cons_succ])
          refine Kept.take (v := ?vb39) 39 (by kernel_rfl) rfl (by kernel_rfl) (fun _ _ _ h => h) (Or.inl ⟨by rfl, ?hyb39⟩) hK1 ?restb39
          case hyb39 =>
            intro w0 hSw
            (try dsimp only at hSw)
            go_simp
            all_goals (with_reducible rfl)
          (try simp only [Act.put, List.setIfInBounds_toArray, List.set_cons_zero, List.set_cons_succ])
          refine Kept.take (v := ?vb40) 40 (by kernel_rfl) rfl (by kernel_rfl) (fun _ _ _ h => h) (Or.inl ⟨by rfl, ?hyb40⟩) hK1 ?restb40
          case hyb40 =>
            intro w0 hSw
            (try dsimp only at hSw)
            go_simp
            all_goals (with_reducible rfl)
          (try simp only [Act.put, List.setIfInBounds_toArray, List.set_cons_zero, List.set_cons_succ])
          refine Kept.one 41 (by kernel_rfl) rfl (fun K hK => ?_)
          go_simp
          obtain ⟨p3741, hw2⟩ : ∃ x, x = (p37.alloc (.cells #[.int .i64 0, .slice none 0 0, .slice none 0 0, .slice none 0 0] 36)) := ⟨_, rfl⟩
          rw [← hw2]
          have hbN : Below p37.heap.size p37 p3741 := by rw [hw2]; exact bAlloc (Below.refl _ _) (Nat.le_refl _) _
          have HGz0 := Lib.hid (show BoxN p3741 p37.heap.size (.int .i64 0) vNil vNil vNil by rw [hw2]; exact heap_alloc_new _ _)
          have hltp3741 : p37.heap.size + 1 ≤ p3741.heap.size := by rw [hw2]; simp
          obtain ⟨g6, hG⟩ : ∃ G, G = p37.heap.size := ⟨_, rfl⟩
          rw [← hG] at HGz0 ⊢
          have HGz := HGz0
          have hg61 := Nat.le_of_eq hG
          have hg62 := Nat.le_of_eq hG.symm
          clear HGz0 hw2 hG
          have hsp3741 : p37.heap.size ≤ p3741.heap.size := hbN.size
          have hszp3741 : w3.heap.size ≤ p3741.heap.size := Nat.le_trans hszp37 hsp3741
          have HCp3741 := Lib.hid (HCp37.out.below hbN)
          have HBp3741 := Lib.hid (bThen HBp37.out hbN)
          replace HNM := Lib.hid (HNM.out.below hbN)
          refine hK.out _ _ (hS hK1 hbN) (fun hK2 => ?_)
          clear hK K hK1 hbN
          (try simp only [Act.put, List.setIfInBounds_toArray, List.set_cons_zero, List.set_cons_succ])
          have hGg6 : G ≠ g6 := by have := HC.out.box.lt; omega
          have hwg6 : w.heap.size ≠ g6 := by omega
          have habg6 : ab ≠ g6 := by omega
          have htbg6 : tb ≠ g6 := by omega
          have hg63 : w3.heap.size ≤ g6 := by omega
          have hF : ∀ {w0 : World} {a b c d : Value}, (fun w' => Below w3.heap.size w3 w' ∧ w'.cell? ⟨G, 0, none⟩ = some (.int .i64 ON.1) ∧ w'.cell? ⟨G, 1, none⟩ = some (v1) ∧ w'.cell? ⟨G, 2, none⟩ = some (vA) ∧ w'.cell? ⟨G, 3, none⟩ = some (v3) ∧ w'.cell? ⟨w.heap.size, 2, none⟩ = some (.slice (some ⟨ab, aq, none⟩) (n.2.2.1).length mc2) ∧ w'.cell? ⟨ab, aq + k * 2, none⟩ = some (.int .i64 (p : Int)) ∧ w'.cell? ⟨ab, aq + k * 2 + 1, none⟩ = some (.int .i64 (q : Int)) ∧ w'.cell? ⟨tb, tq + f1, none⟩ = some (.int .i64 (tp : Int)) ∧ w'.cell? ⟨tb, tq + f2, none⟩ = some (.int .i64 (tr : Int))) w0 → (fun w' => Below w3.heap.size w3 w' ∧ w'.cell? ⟨G, 0, none⟩ = some (.int .i64 ON.1) ∧ w'.cell? ⟨G, 1, none⟩ = some (v1) ∧ w'.cell? ⟨G, 2, none⟩ = some (vA) ∧ w'.cell? ⟨G, 3, none⟩ = some (v3) ∧ w'.cell? ⟨w.heap.size, 2, none⟩ = some (.slice (some ⟨ab, aq, none⟩) (n.2.2.1).length mc2) ∧ w'.cell? ⟨ab, aq + k * 2, none⟩ = some (.int .i64 (p : Int)) ∧ w'.cell? ⟨ab, aq + k * 2 + 1, none⟩ = some (.int .i64 (q : Int)) ∧ w'.cell? ⟨tb, tq + f1, none⟩ = some (.int .i64 (tp : Int)) ∧ w'.cell? ⟨tb, tq + f2, none⟩ = some (.int .i64 (tr : Int))) ((((w0.setCell ⟨g6, 0, none⟩ a).setCell ⟨g6, 1, none⟩ b).setCell ⟨g6, 2, none⟩ c).setCell ⟨g6, 3, none⟩ d) := fun h => ⟨bSet (bSet (bSet (bSet h.1 (p := ⟨g6, 0, none⟩) hg63 _) (p := ⟨g6, 1, none⟩) hg63 _) (p := ⟨g6, 2, none⟩) hg63 _) (p := ⟨g6, 3, none⟩) hg63 _, (World.cell?_of_block (far4 hGg6)).trans h.2.1, (World.cell?_of_block (far4 hGg6)).trans h.2.2.1, (World.cell?_of_block (far4 hGg6)).trans h.2.2.2.1, (World.cell?_of_block (far4 hGg6)).trans h.2.2.2.2.1, (World.cell?_of_block (far4 hwg6)).trans h.2.2.2.2.2.1, (World.cell?_of_block (far4 habg6)).trans h.2.2.2.2.2.2.1, (World.cell?_of_block (far4 habg6)).trans h.2.2.2.2.2.2.2.1, (World.cell?_of_block (far4 htbg6)).trans h.2.2.2.2.2.2.2.2.1, (World.cell?_of_block (far4 htbg6)).trans h.2.2.2.2.2.2.2.2.2⟩
          dsimp only at hF
          have y0 := HGz.out.cells.1.1
          have y1 := HGz.out.cells.1.2.1
          have y2 := HGz.out.cells.1.2.2.1
          have y3 := HGz.out.cells.1.2.2.2
          have yz := HGz.out.cells.2
          refine Kept.one 42 (by kernel_rfl) rfl (fun K hK => ?_)
          go_simp
          refine hK.out _ _ (hF hK2) (fun hK3 => ?_)
          clear hK K hK2
          (try simp only [Act.put, List.setIfInBounds_toArray, List.set_cons_zero, List.set_cons_succ])
          refine Kept.tail (by rfl) (by kernel_rfl) ?_
          simp only [List.drop_succ_cons, List.drop_zero]
          clear hK3 hF y0 y1 y2 y3 yz hS hS0
          obtain ⟨pC, hpC⟩ : ∃ x, x = ((((p3741.setCell ⟨g6, 0, none⟩ (.int .i64 OM.1)).setCell ⟨g6, 1, none⟩ (.slice B1 OM.2.1.length q1)).setCell ⟨g6, 2, none⟩ (.slice B2 OM.2.2.1.length q2)).setCell ⟨g6, 3, none⟩ (.slice B3 OM.2.2.2.length q3)) := ⟨_, rfl⟩
          rw [← hpC]
          have HM6 := Lib.hid (show BoxN pC g6 (.int .i64 OM.1) (.slice B1 OM.2.1.length q1) (.slice B2 OM.2.2.1.length q2) (.slice B3 OM.2.2.2.length q3) by rw [hpC]; exact (((HGz.out.set0 _).set1 _).set2 _).set3 _)
          have hfar : ∀ b, b ≠ g6 → pC.heap[b]? = p3741.heap[b]? := fun b hb => by rw [hpC]; exact far4 hb
          have HN6 := Lib.hid (show NetG (w.heap.size + 2) pC (.slice B1 OM.2.1.length q1) (.slice B2 OM.2.2.1.length q2) (.slice B3 OM.2.2.2.length q3) rows' bs' OM from (HNM.out.at (w' := pC) fun b h1 h2 h3 => hfar b (by have := HNL.out b h3; omega)).lower (by omega))
          have HN7 := Lib.hid (show ∀ b ∈ blkL (Value.slice B1 OM.2.1.length q1) ++ (bs' ++ (blkL (Value.slice B2 OM.2.2.1.length q2) ++ blkL (Value.slice B3 OM.2.2.2.length q3))), w3.heap.size ≤ b ∧ b ≠ g6 from fun b hb => by have := HNL.out b hb; omega)
          have HG6 := Lib.hid (HCp3741.out.box.at (hfar G hGg6))
          have HR6 := Lib.hid (HCp3741.out.res.at (hfar (w.heap.size + 1) (by omega)))
          have hspC : p3741.heap.size ≤ pC.heap.size := by rw [hpC]; simp [World.size_setCell]
          have HB6 := Lib.hid (show Below w3.heap.size w3 pC by rw [hpC]; exact bSet (bSet (bSet (bSet HBp3741.out (p := ⟨g6, 0, none⟩) hg63 _) (p := ⟨g6, 1, none⟩) hg63 _) (p := ⟨g6, 2, none⟩) hg63 _) (p := ⟨g6, 3, none⟩) hg63 _)
          clear hpC hfar
          have HC6 := Lib.hid (HC.out.below HB6.out)
          have HA6 := Lib.hid (HA.out.below HB6.out)
          have hGlt := HC.out.box.lt
          have hs3C := HB6.out.size
          have hgG : g6 ≠ G := fun e => hGg6 e.symm
          have HC8 := Lib.hid (show CopyAt w ((((pC.setCell ⟨G, 0, none⟩ (.int .i64 OM.1)).setCell ⟨G, 1, none⟩ (.slice B1 OM.2.1.length q1)).setCell ⟨G, 2, none⟩ (.slice B2 OM.2.2.1.length q2)).setCell ⟨G, 3, none⟩ (.slice B3 OM.2.2.2.length q3)) (w.heap.size + 1) G (.slice B1 OM.2.1.length q1) (.slice B2 OM.2.2.1.length q2) (.slice B3 OM.2.2.2.length q3) rows' bs' OM from CopyAt.over HC6.out.box HC6.out.res HN6.out (fun b hb => by have := (HN7.out b hb).1; omega) HC6.out.chg HC6.out.hF HC6.out.hF2 HC6.out.hG)
          have HA8 := Lib.hid (show OwnsI ((((pC.setCell ⟨G, 0, none⟩ (.int .i64 OM.1)).setCell ⟨G, 1, none⟩ (.slice B1 OM.2.1.length q1)).setCell ⟨G, 2, none⟩ (.slice B2 OM.2.2.1.length q2)).setCell ⟨G, 3, none⟩ (.slice B3 OM.2.2.2.length q3)) w2.heap.size (.slice (some ⟨tb, tq, none⟩) KL.length d) KL from HA6.out.atI fun j hj => far4 (HNE.out j hj).1)
          have HBL8 := Lib.hid (show Below w2.heap.size w2 ((((pC.setCell ⟨G, 0, none⟩ (.int .i64 OM.1)).setCell ⟨G, 1, none⟩ (.slice B1 OM.2.1.length q1)).setCell ⟨G, 2, none⟩ (.slice B2 OM.2.2.1.length q2)).setCell ⟨G, 3, none⟩ (.slice B3 OM.2.2.2.length q3)) from bSet (bSet (bSet (bSet (bThen HBL.out HB6.out) (p := ⟨G, 0, none⟩) hGw2 _) (p := ⟨G, 1, none⟩) hGw2 _) (p := ⟨G, 2, none⟩) hGw2 _) (p := ⟨G, 3, none⟩) hGw2 _)
          have HBA := Lib.hid (show Below (((((pC.setCell ⟨G, 0, none⟩ (.int .i64 OM.1)).setCell ⟨G, 1, none⟩ (.slice B1 OM.2.1.length q1)).setCell ⟨G, 2, none⟩ (.slice B2 OM.2.2.1.length q2)).setCell ⟨G, 3, none⟩ (.slice B3 OM.2.2.2.length q3))).heap.size ((((pC.setCell ⟨G, 0, none⟩ (.int .i64 OM.1)).setCell ⟨G, 1, none⟩ (.slice B1 OM.2.1.length q1)).setCell ⟨G, 2, none⟩ (.slice B2 OM.2.2.1.length q2)).setCell ⟨G, 3, none⟩ (.slice B3 OM.2.2.2.length q3)) (((((pC.setCell ⟨G, 0, none⟩ (.int .i64 OM.1)).setCell ⟨G, 1, none⟩ (.slice B1 OM.2.1.length q1)).setCell ⟨G, 2, none⟩ (.slice B2 OM.2.2.1.length q2)).setCell ⟨G, 3, none⟩ (.slice B3 OM.2.2.2.length q3)).alloc (.cells #[.int .i64 y] 3)) from bAlloc (Below.refl _ _) (Nat.le_refl _) _)
          have HNBk := Lib.hid (show (((((pC.setCell ⟨G, 0, none⟩ (.int .i64 OM.1)).setCell ⟨G, 1, none⟩ (.slice B1 OM.2.1.length q1)).setCell ⟨G, 2, none⟩ (.slice B2 OM.2.2.1.length q2)).setCell ⟨G, 3, none⟩ (.slice B3 OM.2.2.2.length q3)).alloc (.cells #[.int .i64 y] 3)).heap[pC.heap.size]? = some (.cells #[.int .i64 y] 3 (0, 0)) by have h := heap_alloc_new ((((pC.setCell ⟨G, 0, none⟩ (.int .i64 OM.1)).setCell ⟨G, 1, none⟩ (.slice B1 OM.2.1.length q1)).setCell ⟨G, 2, none⟩ (.slice B2 OM.2.2.1.length q2)).setCell ⟨G, 3, none⟩ (.slice B3 OM.2.2.2.length q3)) (.cells #[.int .i64 y] 3); simpa [World.size_setCell] using h)
          have hsz := Lib.hid (show w2.heap.size ≤ (((((pC.setCell ⟨G, 0, none⟩ (.int .i64 OM.1)).setCell ⟨G, 1, none⟩ (.slice B1 OM.2.1.length q1)).setCell ⟨G, 2, none⟩ (.slice B2 OM.2.2.1.length q2)).setCell ⟨G, 3, none⟩ (.slice B3 OM.2.2.2.length q3)).alloc (.cells #[.int .i64 y] 3)).heap.size from Nat.le_trans HBL8.out.size HBA.out.size)
          have hsD := Lib.hid (show (((((pC.setCell ⟨G, 0, none⟩ (.int .i64 OM.1)).setCell ⟨G, 1, none⟩ (.slice B1 OM.2.1.length q1)).setCell ⟨G, 2, none⟩ (.slice B2 OM.2.2.1.length q2)).setCell ⟨G, 3, none⟩ (.slice B3 OM.2.2.2.length q3))).heap.size = pC.heap.size by simp [World.size_setCell])
          have HOA := Lib.hid (HA8.out.below HBA.out)
          have m0 := HM6.out.cells.1.1
          have m1 := HM6.out.cells.1.2.1
          have m2 := HM6.out.cells.1.2.2.1
          have m3 := HM6.out.cells.1.2.2.2
          have k0 := HC6.out.box.cells.1.1
          have k1 := HC6.out.box.cells.1.2.1
          have k2 := HC6.out.box.cells.1.2.2.1
          have k3 := HC6.out.box.cells.1.2.2.2
          have kz := HC6.out.box.cells.2
          clear d2 g0 g1 g2 g3 x0 x1 z0 z1 e1 e2 e3 e4 e5 e6
          go_wp2
          refine NoPanic.normal ?_
          go_wp2_with (at_builtin; refine wpList_append_all (by rfl) _ _ 24 (by rfl) w2.heap.size 3 i0 (.int .i64 0) 1 8 Try.underlying24 hi hz0 hz1 hz2 rfl (by omega) (.slice (some ⟨tb, tq, none⟩) KL.length d) KL.length (KL.map vI) (by rfl) HOA.out (some ⟨pC.heap.size, 0, none⟩) 1 1 [.int .i64 y] (by rfl) (by rfl) (.inr ⟨_, rfl, World.news_of_block HNBk.out⟩) (by simp [Value.oneCell']) (by unfold maxLen; omega) (by omega) hsz.out ?_; intro A' c' w7 hown7 hgrow7 hkeep7 hat7)
          have HNE8 := Lib.hid (show ∀ b, (Value.slice (some ⟨tb, tq, none⟩) KL.length d).ownBlock = some b → b ≠ G ∧ b ∉ blkL (Value.slice B1 OM.2.1.length q1) ++ (bs' ++ (blkL (Value.slice B2 OM.2.2.1.length q2) ++ blkL (Value.slice B3 OM.2.2.2.length q3))) from fun b e => ⟨(HNE.out b e).1, fun hm => by have h1 := (HN7.out b hm).1; have h2 := (HA.out.lt b e).2; omega⟩)
          have HB7 := Lib.hid ((bThen HBL8.out HBA.out).grown hgrow7 hsz.out (fun g hg => (HA8.out.lt g hg).1))
          have HO7 := Lib.hid (own_int hown7)
          have HC7 := Lib.hid ((HC8.out.below HBA.out).grownT hgrow7 (by have := hsz.out; omega) (fun b e => ⟨by have := (HA.out.lt b e).1; omega, (HNE8.out b e).1, (HNE8.out b e).2⟩))
          have HN9 := Lib.hid (show ∀ b, (Value.slice A' (KL.length + 1) c').ownBlock = some b → b ≠ G ∧ b ∉ blkL (Value.slice B1 OM.2.1.length q1) ++ (bs' ++ (blkL (Value.slice B2 OM.2.2.1.length q2) ++ blkL (Value.slice B3 OM.2.2.2.length q3))) from fun b e => by
            rcases hat7 with h | h
            · exact HNE8.out b (h.symm.trans e)
            · have e9 : b = (((((pC.setCell ⟨G, 0, none⟩ (.int .i64 OM.1)).setCell ⟨G, 1, none⟩ (.slice B1 OM.2.1.length q1)).setCell ⟨G, 2, none⟩ (.slice B2 OM.2.2.1.length q2)).setCell ⟨G, 3, none⟩ (.slice B3 OM.2.2.2.length q3)).alloc (.cells #[.int .i64 y] 3)).heap.size := by rw [h] at e; injection e with e; exact e.symm
              have hl := HBA.out.size
              have h9 := hsD.out
              exact ⟨by omega, fun hm => by have := (HC8.out.net.lt hm).1; omega⟩)
          clear hown7 hgrow7 hkeep7 hat7 hsz
          go_roundw
          case rel =>
            refine ⟨k + 1, A', c', (.slice B1 OM.2.1.length q1), (.slice B2 OM.2.2.1.length q2), (.slice B3 OM.2.2.2.length q3), rows', bs', by omega, by go_num, ?_, ?_, ?_, ?_, HB7.out⟩
            · rw [HST.out.1, List.length_append]; rfl
            · rw [HST.out.1, List.length_append]; exact HO7.out
            · rw [HST.out.2]; exact HC7.out
            · rw [HST.out.1, List.length_append]; exact HN9.out
          case measure => simp [intOf] <;> omega
        · have ho' := Option.some.inj ho
          subst ho'
          go_simp
          obtain ⟨p41, hw2⟩ : ∃ x, x = (Wd.alloc (.cells #[.int .i64 0, .slice none 0 0, .slice none 0 0, .slice none 0 0] 36)) := ⟨_, rfl⟩
          rw [← hw2]
          have hbN : Below Wd.heap.size Wd p41 := by rw [hw2]; exact bAlloc (Below.refl _ _) (Nat.le_refl _) _
          have HGz0 := Lib.hid (show BoxN p41 Wd.heap.size (.int .i64 0) vNil vNil vNil by rw [hw2]; exact heap_alloc_new _ _)
          have hltp41 : Wd.heap.size + 1 ≤ p41.heap.size := by rw [hw2]; simp
          obtain ⟨g6, hG⟩ : ∃ G, G = Wd.heap.size := ⟨_, rfl⟩
          rw [← hG] at HGz0 ⊢
          have HGz := HGz0
          have hg61 := Nat.le_of_eq hG
          have hg62 := Nat.le_of_eq hG.symm
          clear HGz0 hw2 hG
          have hsp41 : Wd.heap.size ≤ p41.heap.size := hbN.size
          have hszp41 : w3.heap.size ≤ p41.heap.size := Nat.le_trans hszWd hsp41
          have HCp41 := Lib.hid (HCWd.out.below hbN)
          have HBp41 := Lib.hid (bThen HBWd.out hbN)
          refine hK.out _ _ (hS hK0 hbN) (fun hK1 => ?_)
          clear hK K hK0 hbN
          (try simp only [Act.put, List.setIfInBounds_toArray, List.set_cons_zero, List.set_cons_succ])
          refine Kept.one 37 (by kernel_rfl) rfl (fun K hK => ?_)
          go_simp
          go_at_call 83
          refine (specAnd_at ON px qx [.int .i64 ON.1, v1, vA, v3] _ HCp41.out.net.rd0 (by have := HOP.out.sz.s12; omega) (fun s hs => by have := (seq_ins (HOP.out.seq s hs)).1; omega) (by have := HOP.out.sz.a300; omega) (by have := HOP.out.sz.o16; omega) HPX.out HQX.out HAND.out).mono ?_
          rintro e p4137 ⟨u1, uA, u3, rows', bs', rfl, hnm, hbN⟩
          obtain ⟨B1, q1, rfl⟩ := hnm.s.cap fV3_len
          obtain ⟨B2, q2, rfl⟩ := hnm.a.cap fAnd_len
          obtain ⟨B3, q3, rfl⟩ := hnm.o.cap fInt_len
          have HNM := Lib.hid (show NetG p41.heap.size p4137 (.slice B1 OM.2.1.length q1) (.slice B2 OM.2.2.1.length q2) (.slice B3 OM.2.2.2.length q3) rows' bs' OM from hnm)
          have HNL := Lib.hid (show ∀ b ∈ blkL (.slice B1 OM.2.1.length q1) ++ (bs' ++ (blkL (.slice B2 OM.2.2.1.length q2) ++ blkL (.slice B3 OM.2.2.2.length q3))), p41.heap.size ≤ b ∧ b < p4137.heap.size from fun b hb => by have := hnm.lt (b := b) hb; omega)
          have hNW : w3.heap.size ≤ p41.heap.size := hszp41
          clear hnm
          have hsp4137 : p41.heap.size ≤ p4137.heap.size := hbN.size
          have hszp4137 : w3.heap.size ≤ p4137.heap.size := Nat.le_trans hszp41 hsp4137
          have HCp4137 := Lib.hid (HCp41.out.below hbN)
          have HBp4137 := Lib.hid (bThen HBp41.out hbN)
          replace HGz := Lib.hid (HGz.out.at (hbN.block _ HGz.out.lt))
          go_simp
          refine hK.out _ _ (hS hK1 hbN) (fun hK2 => ?_)
          clear hK K hK1 hbN
          (try simp only [Act.put, List.setIfInBounds_toArray, List.set_cons_zero, List.set_cons_succ])
          refine Kept.take (v := ?vc38) 38 (by kernel_rfl) rfl (by kernel_rfl) (fun _ _ _ h => h) (Or.inl ⟨by rfl, ?hyc38⟩) hK2 ?restc38
          case hyc38 =>
            intro w0 hSw
            (try dsimp only at hSw)
            go_simp
            all_goals (with_reducible rfl)
          (try simp only [Act.put, List.setIfInBounds_toArray, List.set_cons_zero, List.set_cons_succ])
          refine Kept.take (v := ?vc39) 39 (by kernel_rfl) rfl (by kernel_rfl) (fun _ _ _ h => h) (Or.inl ⟨by rfl, ?hyc39⟩) hK2 ?restc39
          case hyc39 =>
            intro w0 hSw
            (try dsimp only at hSw)
            go_simp
            all_goals (with_reducible rfl)
          (try simp only [Act.put, List.setIfInBounds_toArray, List.set_cons_zero, List.set_cons_succ])
          refine Kept.take (v := ?vc40) 40 (by kernel_rfl) rfl (by kernel_rfl) (fun _ _ _ h => h) (Or.inl ⟨by rfl, ?hyc40⟩) hK2 ?restc40
          case hyc40 =>
            intro w0 hSw
            (try dsimp only at hSw)
            go_simp
            all_goals (with_reducible rfl)
          (try simp only [Act.put, List.setIfInBounds_toArray, List.set_cons_zero, List.set_cons_succ])
          have hGg6 : G ≠ g6 := by have := HC.out.box.lt; omega
          have hwg6 : w.heap.size ≠ g6 := by omega
          have habg6 : ab ≠ g6 := by omega
          have htbg6 : tb ≠ g6 := by omega
          have hg63 : w3.heap.size ≤ g6 := by omega
          have hF : ∀ {w0 : World} {a b c d : Value}, (fun w' => Below w3.heap.size w3 w' ∧ w'.cell? ⟨G, 0, none⟩ = some (.int .i64 ON.1) ∧ w'.cell? ⟨G, 1, none⟩ = some (v1) ∧ w'.cell? ⟨G, 2, none⟩ = some (vA) ∧ w'.cell? ⟨G, 3, none⟩ = some (v3) ∧ w'.cell? ⟨w.heap.size, 2, none⟩ = some (.slice (some ⟨ab, aq, none⟩) (n.2.2.1).length mc2) ∧ w'.cell? ⟨ab, aq + k * 2, none⟩ = some (.int .i64 (p : Int)) ∧ w'.cell? ⟨ab, aq + k * 2 + 1, none⟩ = some (.int .i64 (q : Int)) ∧ w'.cell? ⟨tb, tq + f1, none⟩ = some (.int .i64 (tp : Int)) ∧ w'.cell? ⟨tb, tq + f2, none⟩ = some (.int .i64 (tr : Int))) w0 → (fun w' => Below w3.heap.size w3 w' ∧ w'.cell? ⟨G, 0, none⟩ = some (.int .i64 ON.1) ∧ w'.cell? ⟨G, 1, none⟩ = some (v1) ∧ w'.cell? ⟨G, 2, none⟩ = some (vA) ∧ w'.cell? ⟨G, 3, none⟩ = some (v3) ∧ w'.cell? ⟨w.heap.size, 2, none⟩ = some (.slice (some ⟨ab, aq, none⟩) (n.2.2.1).length mc2) ∧ w'.cell? ⟨ab, aq + k * 2, none⟩ = some (.int .i64 (p : Int)) ∧ w'.cell? ⟨ab, aq + k * 2 + 1, none⟩ = some (.int .i64 (q : Int)) ∧ w'.cell? ⟨tb, tq + f1, none⟩ = some (.int .i64 (tp : Int)) ∧ w'.cell? ⟨tb, tq + f2, none⟩ = some (.int .i64 (tr : Int))) ((((w0.setCell ⟨g6, 0, none⟩ a).setCell ⟨g6, 1, none⟩ b).setCell ⟨g6, 2, none⟩ c).setCell ⟨g6, 3, none⟩ d) := fun h => ⟨bSet (bSet (bSet (bSet h.1 (p := ⟨g6, 0, none⟩) hg63 _) (p := ⟨g6, 1, none⟩) hg63 _) (p := ⟨g6, 2, none⟩) hg63 _) (p := ⟨g6, 3, none⟩) hg63 _, (World.cell?_of_block (far4 hGg6)).trans h.2.1, (World.cell?_of_block (far4 hGg6)).trans h.2.2.1, (World.cell?_of_block (far4 hGg6)).trans h.2.2.2.1, (World.cell?_of_block (far4 hGg6)).trans h.2.2.2.2.1, (World.cell?_of_block (far4 hwg6)).trans h.2.2.2.2.2.1, (World.cell?_of_block (far4 habg6)).trans h.2.2.2.2.2.2.1, (World.cell?_of_block (far4 habg6)).trans h.2.2.2.2.2.2.2.1, (World.cell?_of_block (far4 htbg6)).trans h.2.2.2.2.2.2.2.2.1, (World.cell?_of_block (far4 htbg6)).trans h.2.2.2.2.2.2.2.2.2⟩
          dsimp only at hF
          have y0 := HGz.out.cells.1.1
          have y1 := HGz.out.cells.1.2.1
          have y2 := HGz.out.cells.1.2.2.1
          have y3 := HGz.out.cells.1.2.2.2
          have yz := HGz.out.cells.2
          refine Kept.one 42 (by kernel_rfl) rfl (fun K hK => ?_)
          go_simp
          refine hK.out _ _ (hF hK2) (fun hK3 => ?_)
          clear hK K hK2
          (try simp only [Act.put, List.setIfInBounds_toArray, List.set_cons_zero, List.set_cons_succ])
          refine Kept.tail (by rfl) (by kernel_rfl) ?_
          simp only [List.drop_succ_cons, List.drop_zero]
          clear hK3 hF y0 y1 y2 y3 yz hS hS0
          obtain ⟨pC, hpC⟩ : ∃ x, x = ((((p4137.setCell ⟨g6, 0, none⟩ (.int .i64 OM.1)).setCell ⟨g6, 1, none⟩ (.slice B1 OM.2.1.length q1)).setCell ⟨g6, 2, none⟩ (.slice B2 OM.2.2.1.length q2)).setCell ⟨g6, 3, none⟩ (.slice B3 OM.2.2.2.length q3)) := ⟨_, rfl⟩
          rw [← hpC]
          have HM6 := Lib.hid (show BoxN pC g6 (.int .i64 OM.1) (.slice B1 OM.2.1.length q1) (.slice B2 OM.2.2.1.length q2) (.slice B3 OM.2.2.2.length q3) by rw [hpC]; exact (((HGz.out.set0 _).set1 _).set2 _).set3 _)
          have hfar : ∀ b, b ≠ g6 → pC.heap[b]? = p4137.heap[b]? := fun b hb => by rw [hpC]; exact far4 hb
          have HN6 := Lib.hid (show NetG (w.heap.size + 2) pC (.slice B1 OM.2.1.length q1) (.slice B2 OM.2.2.1.length q2) (.slice B3 OM.2.2.2.length q3) rows' bs' OM from (HNM.out.at (w' := pC) fun b h1 h2 h3 => hfar b (by have := HNL.out b h3; omega)).lower (by omega))
          have HN7 := Lib.hid (show ∀ b ∈ blkL (Value.slice B1 OM.2.1.length q1) ++ (bs' ++ (blkL (Value.slice B2 OM.2.2.1.length q2) ++ blkL (Value.slice B3 OM.2.2.2.length q3))), w3.heap.size ≤ b ∧ b ≠ g6 from fun b hb => by have := HNL.out b hb; omega)
          have HG6 := Lib.hid (HCp4137.out.box.at (hfar G hGg6))
          have HR6 := Lib.hid (HCp4137.out.res.at (hfar (w.heap.size + 1) (by omega)))
          have hspC : p4137.heap.size ≤ pC.heap.size := by rw [hpC]; simp [World.size_setCell]
          have HB6 := Lib.hid (show Below w3.heap.size w3 pC by rw [hpC]; exact bSet (bSet (bSet (bSet HBp4137.out (p := ⟨g6, 0, none⟩) hg63 _) (p := ⟨g6, 1, none⟩) hg63 _) (p := ⟨g6, 2, none⟩) hg63 _) (p := ⟨g6, 3, none⟩) hg63 _)
          clear hpC hfar
          have HC6 := Lib.hid (HC.out.below HB6.out)
          have HA6 := Lib.hid (HA.out.below HB6.out)
          have hGlt := HC.out.box.lt
          have hs3C := HB6.out.size
          have hgG : g6 ≠ G := fun e => hGg6 e.symm
          have HC8 := Lib.hid (show CopyAt w ((((pC.setCell ⟨G, 0, none⟩ (.int .i64 OM.1)).setCell ⟨G, 1, none⟩ (.slice B1 OM.2.1.length q1)).setCell ⟨G, 2, none⟩ (.slice B2 OM.2.2.1.length q2)).setCell ⟨G, 3, none⟩ (.slice B3 OM.2.2.2.length q3)) (w.heap.size + 1) G (.slice B1 OM.2.1.length q1) (.slice B2 OM.2.2.1.length q2) (.slice B3 OM.2.2.2.length q3) rows' bs' OM from CopyAt.over HC6.out.box HC6.out.res HN6.out (fun b hb => by have := (HN7.out b hb).1; omega) HC6.out.chg HC6.out.hF HC6.out.hF2 HC6.out.hG)
          have HA8 := Lib.hid (show OwnsI ((((pC.setCell ⟨G, 0, none⟩ (.int .i64 OM.1)).setCell ⟨G, 1, none⟩ (.slice B1 OM.2.1.length q1)).setCell ⟨G, 2, none⟩ (.slice B2 OM.2.2.1.length q2)).setCell ⟨G, 3, none⟩ (.slice B3 OM.2.2.2.length q3)) w2.heap.size (.slice (some ⟨tb, tq, none⟩) KL.length d) KL from HA6.out.atI fun j hj => far4 (HNE.out j hj).1)
          have HBL8 := Lib.hid (show Below w2.heap.size w2 ((((pC.setCell ⟨G, 0, none⟩ (.int .i64 OM.1)).setCell ⟨G, 1, none⟩ (.slice B1 OM.2.1.length q1)).setCell ⟨G, 2, none⟩ (.slice B2 OM.2.2.1.length q2)).setCell ⟨G, 3, none⟩ (.slice B3 OM.2.2.2.length q3)) from bSet (bSet (bSet (bSet (bThen HBL.out HB6.out) (p := ⟨G, 0, none⟩) hGw2 _) (p := ⟨G, 1, none⟩) hGw2 _) (p := ⟨G, 2, none⟩) hGw2 _) (p := ⟨G, 3, none⟩) hGw2 _)
          have HBA := Lib.hid (show Below (((((pC.setCell ⟨G, 0, none⟩ (.int .i64 OM.1)).setCell ⟨G, 1, none⟩ (.slice B1 OM.2.1.length q1)).setCell ⟨G, 2, none⟩ (.slice B2 OM.2.2.1.length q2)).setCell ⟨G, 3, none⟩ (.slice B3 OM.2.2.2.length q3))).heap.size ((((pC.setCell ⟨G, 0, none⟩ (.int .i64 OM.1)).setCell ⟨G, 1, none⟩ (.slice B1 OM.2.1.length q1)).setCell ⟨G, 2, none⟩ (.slice B2 OM.2.2.1.length q2)).setCell ⟨G, 3, none⟩ (.slice B3 OM.2.2.2.length q3)) (((((pC.setCell ⟨G, 0, none⟩ (.int .i64 OM.1)).setCell ⟨G, 1, none⟩ (.slice B1 OM.2.1.length q1)).setCell ⟨G, 2, none⟩ (.slice B2 OM.2.2.1.length q2)).setCell ⟨G, 3, none⟩ (.slice B3 OM.2.2.2.length q3)).alloc (.cells #[.int .i64 y] 3)) from bAlloc (Below.refl _ _) (Nat.le_refl _) _)
          have HNBk := Lib.hid (show (((((pC.setCell ⟨G, 0, none⟩ (.int .i64 OM.1)).setCell ⟨G, 1, none⟩ (.slice B1 OM.2.1.length q1)).setCell ⟨G, 2, none⟩ (.slice B2 OM.2.2.1.length q2)).setCell ⟨G, 3, none⟩ (.slice B3 OM.2.2.2.length q3)).alloc (.cells #[.int .i64 y] 3)).heap[pC.heap.size]? = some (.cells #[.int .i64 y] 3 (0, 0)) by have h := heap_alloc_new ((((pC.setCell ⟨G, 0, none⟩ (.int .i64 OM.1)).setCell ⟨G, 1, none⟩ (.slice B1 OM.2.1.length q1)).setCell ⟨G, 2, none⟩ (.slice B2 OM.2.2.1.length q2)).setCell ⟨G, 3, none⟩ (.slice B3 OM.2.2.2.length q3)) (.cells #[.int .i64 y] 3); simpa [World.size_setCell] using h)
          have hsz := Lib.hid (show w2.heap.size ≤ (((((pC.setCell ⟨G, 0, none⟩ (.int .i64 OM.1)).setCell ⟨G, 1, none⟩ (.slice B1 OM.2.1.length q1)).setCell ⟨G, 2, none⟩ (.slice B2 OM.2.2.1.length q2)).setCell ⟨G, 3, none⟩ (.slice B3 OM.2.2.2.length q3)).alloc (.cells #[.int .i64 y] 3)).heap.size from Nat.le_trans HBL8.out.size HBA.out.size)
          have hsD := Lib.hid (show (((((pC.setCell ⟨G, 0, none⟩ (.int .i64 OM.1)).setCell ⟨G, 1, none⟩ (.slice B1 OM.2.1.length q1)).setCell ⟨G, 2, none⟩ (.slice B2 OM.2.2.1.length q2)).setCell ⟨G, 3, none⟩ (.slice B3 OM.2.2.2.length q3))).heap.size = pC.heap.size by simp [World.size_setCell])
          have HOA := Lib.hid (HA8.out.below HBA.out)
          have m0 := HM6.out.cells.1.1
          have m1 := HM6.out.cells.1.2.1
          have m2 := HM6.out.cells.1.2.2.1
          have m3 := HM6.out.cells.1.2.2.2
          have k0 := HC6.out.box.cells.1.1
          have k1 := HC6.out.box.cells.1.2.1
          have k2 := HC6.out.box.cells.1.2.2.1
          have k3 := HC6.out.box.cells.1.2.2.2
          have kz := HC6.out.box.cells.2
          clear d2 g0 g1 g2 g3 x0 x1 z0 z1 e1 e2 e3 e4 e5 e6
          go_wp2
          refine NoPanic.normal ?_
          go_wp2_with (at_builtin; refine wpList_append_all (by rfl) _ _ 24 (by rfl) w2.heap.size 3 i0 (.int .i64 0) 1 8 Try.underlying24 hi hz0 hz1 hz2 rfl (by omega) (.slice (some ⟨tb, tq, none⟩) KL.length d) KL.length (KL.map vI) (by rfl) HOA.out (some ⟨pC.heap.size, 0, none⟩) 1 1 [.int .i64 y] (by rfl) (by rfl) (.inr ⟨_, rfl, World.news_of_block HNBk.out⟩) (by simp [Value.oneCell']) (by unfold maxLen; omega) (by omega) hsz.out ?_; intro A' c' w7 hown7 hgrow7 hkeep7 hat7)
          have HNE8 := Lib.hid (show ∀ b, (Value.slice (some ⟨tb, tq, none⟩) KL.length d).ownBlock = some b → b ≠ G ∧ b ∉ blkL (Value.slice B1 OM.2.1.length q1) ++ (bs' ++ (blkL (Value.slice B2 OM.2.2.1.length q2) ++ blkL (Value.slice B3 OM.2.2.2.length q3))) from fun b e => ⟨(HNE.out b e).1, fun hm => by have h1 := (HN7.out b hm).1; have h2 := (HA.out.lt b e).2; omega⟩)
          have HB7 := Lib.hid ((bThen HBL8.out HBA.out).grown hgrow7 hsz.out (fun g hg => (HA8.out.lt g hg).1))
          have HO7 := Lib.hid (own_int hown7)
          have HC7 := Lib.hid ((HC8.out.below HBA.out).grownT hgrow7 (by have := hsz.out; omega) (fun b e => ⟨by have := (HA.out.lt b e).1; omega, (HNE8.out b e).1, (HNE8.out b e).2⟩))
          have HN9 := Lib.hid (show ∀ b, (Value.slice A' (KL.length + 1) c').ownBlock = some b → b ≠ G ∧ b ∉ blkL (Value.slice B1 OM.2.1.length q1) ++ (bs' ++ (blkL (Value.slice B2 OM.2.2.1.length q2) ++ blkL (Value.slice B3 OM.2.2.2.length q3))) from fun b e => by
            rcases hat7 with h | h
            · exact HNE8.out b (h.symm.trans e)
            · have e9 : b = (((((pC.setCell ⟨G, 0, none⟩ (.int .i64 OM.1)).setCell ⟨G, 1, none⟩ (.slice B1 OM.2.1.length q1)).setCell ⟨G, 2, none⟩ (.slice B2 OM.2.2.1.length q2)).setCell ⟨G, 3, none⟩ (.slice B3 OM.2.2.2.length q3)).alloc (.cells #[.int .i64 y] 3)).heap.size := by rw [h] at e; injection e with e; exact e.symm
              have hl := HBA.out.size
              have h9 := hsD.out
              exact ⟨by omega, fun hm => by have := (HC8.out.net.lt hm).1; omega⟩)
          clear hown7 hgrow7 hkeep7 hat7 hsz
          go_roundw
          case rel =>
            refine ⟨k + 1, A', c', (.slice B1 OM.2.1.length q1), (.slice B2 OM.2.2.1.length q2), (.slice B3 OM.2.2.2.length q3), rows', bs', by omega, by go_num, ?_, ?_, ?_, ?_, HB7.out⟩
            · rw [HST.out.1, List.length_append]; rfl
            · rw [HST.out.1, List.length_append]; exact HO7.out
            · rw [HST.out.2]; exact HC7.out
            · rw [HST.out.1, List.length_append]; exact HN9.out
          case measure => simp [intOf] <;> omega
      · obtain rfl : k = n.2.2.1.length := by omega
        have hi9 := hinv_all HP.out n.2.2.1.length (Nat.le_refl _)
        have hbd := hashK_bd HP.out (k := n.2.2.1.length) (Nat.le_refl _)
        have hlen := (hash_len HP.out (k := n.2.2.1.length) (Nat.le_refl _)).1
        obtain ⟨KA, hKA⟩ : ∃ KA, (hashK n n.2.2.1.length).1.2.2.1 = KA := ⟨_, rfl⟩
        obtain ⟨KL, hKL⟩ : ∃ KL, (hashK n n.2.2.1.length).2 = KL := ⟨_, rfl⟩
        have hm : sweepO (rootsTo n KA KL) = m := by rw [← HX.out]; unfold hashO; rw [if_pos HF.out, hKA, hKL]
        have hout : (hashK n n.2.2.1.length).1 = (n.1, (emptyN n).2.1, KA, []) := Prod.ext hi9.i (Prod.ext hi9.s (Prod.ext hKA hi9.o))
        rw [hout] at HC
        rw [hKL] at HA HNE hbd hlen
        rw [hKL]
        have HXR := Lib.hid hm
        have HBD := Lib.hid hbd
        have HROOT := Lib.hid (show ∀ r ∈ rootsL n, ∃ p : Nat, r = (p : Int) ∧ p / 2 < KL.length from fun r hr => by obtain ⟨l, e, hl⟩ := HP.out.root r hr; exact ⟨l, e, by rw [hlen]; exact hl⟩)
        have d0 := keep HBL.out HE.out.1
        have d1 := keep HBL.out HE.out.2.1
        have d3 := keep HBL.out HE.out.2.2.2
        have g0 : w3.cell? ⟨G, 0, none⟩ = some (.int .i64 n.1) := HC.out.box.cells.1.1
        have g1 := HC.out.box.cells.1.2.1
        have g2 := HC.out.box.cells.1.2.2.1
        have g3 := HC.out.box.cells.1.2.2.2
        clear hlt hi9 hbd hlen hKA hKL hm hout
        go_wp2_with fail
        refine (specFin_at n KA KL [.int .i64 n.1, .slice mA1 (n.2.1).length mc1, .slice mA2 (n.2.2.1).length mc2, .slice mA3 (n.2.2.2).length mc3] v1 vA v3 _ rows bs (w.heap.size + 2) _ (by omega) HC.out.net (good_Net.wider (rdLow good_Net HD.out HB.out) (Nat.zero_le _) (by omega)) (HA.out.lower hw2) (fun b e hm => (HNE.out b e).2 (by rcases List.mem_append.1 hm with hm | hm <;> simp [hm])) HP.out HBD.out HROOT.out HXR.out).mono ?_
        rintro e w6 ⟨u1, uA, u3, rows6, bs6, rfl, hnet, hb6⟩
        obtain ⟨B1, q1, rfl⟩ := hnet.s.cap fV3_len
        obtain ⟨B2, q2, rfl⟩ := hnet.a.cap fAnd_len
        obtain ⟨B3, q3, rfl⟩ := hnet.o.cap fInt_len
        have HNF := Lib.hid hnet
        have hs56 := hb6.size
        have HB6 := Lib.hid (HC.out.chg.trans (hb6.mono (by omega)))
        have hres := HC.out.res.at (hb6.block _ (by omega))
        have f0 := hres.cells.1.1
        have f1 := hres.cells.1.2.1
        have f2 := hres.cells.1.2.2.1
        have f3 := hres.cells.1.2.2.2
        have fz := hres.cells.2
        clear hnet hb6 hres d0 d1 d2 d3 g0 g1 g2 g3
        go_wp2
        ((try simp only [Exit.inBlock, Exit.then]); refine bodyPost_ret (v := (.agg #[.int .i64 m.1, .slice B1 m.2.1.length q1, .slice B2 m.2.2.1.length q2, .slice B3 m.2.2.2.length q3])) (by rw [results_cell1 rfl]; go_simp) rfl ?_)
        have P1 := (HNF.out.at (w' := ((((w6.setCell ⟨w.heap.size + 1, 0, none⟩ (.int .i64 m.1)).setCell ⟨w.heap.size + 1, 1, none⟩ (.slice B1 m.2.1.length q1)).setCell ⟨w.heap.size + 1, 2, none⟩ (.slice B2 m.2.2.1.length q2)).setCell ⟨w.heap.size + 1, 3, none⟩ (.slice B3 m.2.2.2.length q3))) fun b h1 h2 h3 => far4 (by omega)).lower (B' := w.heap.size) (by omega)
        have P2 := bSet (bSet (bSet (bSet HB6.out (p := ⟨w.heap.size + 1, 0, none⟩) (Nat.le_succ _) (.int .i64 m.1)) (p := ⟨w.heap.size + 1, 1, none⟩) (Nat.le_succ _) (.slice B1 m.2.1.length q1)) (p := ⟨w.heap.size + 1, 2, none⟩) (Nat.le_succ _) (.slice B2 m.2.2.1.length q2)) (p := ⟨w.heap.size + 1, 3, none⟩) (Nat.le_succ _) (.slice B3 m.2.2.2.length q3)
        first | exact ⟨_, _, _, rows6, bs6, rfl, P1, P2⟩ | exact ⟨_, _, _, rfl, rows6, bs6, P1, P2⟩ | exact ⟨_, _, _, rfl, ⟨rows6, bs6, P1⟩, P2⟩
end Go.Proofs.Ytedamhkcblemdaa
