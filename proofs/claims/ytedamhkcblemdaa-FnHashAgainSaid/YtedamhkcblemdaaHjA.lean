/-
  Hash: the program.
-/
import Derived.Test.YtedamhkcblemdaaHjM
import Derived.Test.YtedamhkcblemdaaHiL
import Derived.Test.YtedamhkcblemdaaHiP
import Derived.Test.YtedamhkcblemdaaOwnB
import Derived.Deep.RegionHeld3
namespace Go.Proofs.Ytedamhkcblemdaa
open Go.RowKit
set_option linter.unusedVariables false
set_option linter.unusedSimpArgs false

theorem rd_bare {n : DNet} {T : Nat} {w : World} {u0 u1 u2 u3 : Value} (h : rdNet 0 T w [u0, u1, u2, u3] n) : rdNet 0 T w [u0, u1, .slice none 0 0, .slice none 0 0] (bareN n []) := by
  obtain ⟨v0, v1, v2, v3, e, h0, h1, h2, h3⟩ := h
  injection e with e0 e
  injection e with e1 e
  subst e0 e1
  exact ⟨_, _, _, _, rfl, h0, h1, ⟨_, _, rfl, ⟨Nat.zero_le _, Nat.zero_le _⟩, fun j hj => absurd hj (Nat.not_lt_zero _)⟩, ⟨_, _, rfl, ⟨Nat.zero_le _, Nat.zero_le _⟩, fun j hj => absurd hj (Nat.not_lt_zero _)⟩⟩
set_option maxRecDepth 100000 in
set_option maxHeartbeats 25600000 in
theorem implHash_at (n : DNet) (us : List Value) (w : World) (h : rdNet 0 w.heap.size w us n) {m : DNet} (hL : hashO n = m) :
    Calls Try.prog 22 #[.agg us.toArray] w fun e w' => ∃ v1 vA v3 rows bs, e = .returned (.agg #[.int .i64 m.1, v1, vA, v3]) ∧ NetG w.heap.size w' v1 vA v3 rows bs m ∧ Below w.heap.size w w' := by
  obtain ⟨i0, hi, hz0, hz1, hz2⟩ := info_parts infoI
  have HD := Lib.hid h
  have HX := Lib.hid hL
  obtain ⟨f, hf⟩ : ∃ f, netB n = f := ⟨_, rfl⟩
  have HF := Lib.hid hf
  clear hL hf
  obtain ⟨mu0, mu1, mu2, mu3, rfl, mh0, mh1, mh2, mh3⟩ := h
  obtain ⟨me0, -⟩ := mh0
  injection me0 with me0
  subst me0
  obtain ⟨mA1, mc1, me1, mm1, -⟩ := slice_of mh1
  subst me1
  have mR1 := Lib.hid mh1
  clear mh1
  obtain ⟨mA2, mc2, me2, mm2, -⟩ := slice_of mh2
  subst me2
  have mR2 := Lib.hid mh2
  clear mh2
  obtain ⟨mA3, mc3, me3, mm3, -⟩ := slice_of mh3
  subst me3
  have mR3 := Lib.hid mh3
  clear mh3
  go_enter Try.func22, Try.ntmps22
  go_wp2_with fail
  obtain ⟨W0, hV⟩ : ∃ W0, W0 = ((w.alloc (.cells #[.int .i64 n.1, .slice mA1 (n.2.1).length mc1, .slice mA2 (n.2.2.1).length mc2, .slice mA3 (n.2.2.2).length mc3] 36)).alloc (.cells #[.int .i64 0, .slice none 0 0, .slice none 0 0, .slice none 0 0] 36)) := ⟨_, rfl⟩
  rw [← hV]
  have gN := eqbox2 hV
  have d0 : W0.cell? ⟨w.heap.size, 0, none⟩ = some (.int .i64 n.1) := box_cell gN.1 0 _ rfl
  have d1 : W0.cell? ⟨w.heap.size, 1, none⟩ = some (.slice mA1 (n.2.1).length mc1) := box_cell gN.1 1 _ rfl
  have d2 : W0.cell? ⟨w.heap.size, 2, none⟩ = some (.slice mA2 (n.2.2.1).length mc2) := box_cell gN.1 2 _ rfl
  have d3 : W0.cell? ⟨w.heap.size, 3, none⟩ = some (.slice mA3 (n.2.2.2).length mc3) := box_cell gN.1 3 _ rfl
  have HB := Lib.hid gN.2.2
  have HRES := Lib.hid (show BoxN W0 (w.heap.size + 1) (.int .i64 0) vNil vNil vNil from gN.2.1)
  clear hV gN
  refine (implNetOk_at n _ _ (rdUp good_Net HD.out HB.out) HF.out).mono ?_
  rintro e w1 ⟨rfl, hb⟩
  replace d0 := keep hb d0
  replace d1 := keep hb d1
  replace d2 := keep hb d2
  replace d3 := keep hb d3
  replace HB := Lib.hid (bThen HB.out hb)
  replace HRES := Lib.hid (HRES.out.at (hb.block _ HRES.out.lt))
  clear hb
  cases f with
  | false =>
    obtain rfl : zeroN = m := (show hashO n = zeroN by unfold hashO; rw [if_neg (by rw [HF.out]; decide)]).symm.trans HX.out
    have f0 := HRES.out.cells.1.1
    have f1 := HRES.out.cells.1.2.1
    have f2 := HRES.out.cells.1.2.2.1
    have f3 := HRES.out.cells.1.2.2.2
    have fz := HRES.out.cells.2
    go_wp2
    ((try simp only [Exit.inBlock, Exit.then]); refine bodyPost_ret (v := (.agg #[.int .i64 0, .slice none 0 0, .slice none 0 0, .slice none 0 0])) (by rw [results_cell1 rfl]; go_simp) rfl ?_)
    have P2 := bSet (bSet (bSet (bSet HB.out (p := ⟨w.heap.size + 1, 0, none⟩) (Nat.le_succ _) (.int .i64 0)) (p := ⟨w.heap.size + 1, 1, none⟩) (Nat.le_succ _) (.slice none 0 0)) (p := ⟨w.heap.size + 1, 2, none⟩) (Nat.le_succ _) (.slice none 0 0)) (p := ⟨w.heap.size + 1, 3, none⟩) (Nat.le_succ _) (.slice none 0 0)
    exact ⟨_, _, _, [], [], rfl, zeroG _ _, P2⟩
  | true =>
    have hP := netP_of HF.out
    have HP := Lib.hid hP
    have a300 := hP.sz.a300
    have s12 := hP.sz.s12
    have o16 := hP.sz.o16
    have h33 : firN n ≤ 33 := by have := hP.sz.i20; unfold firN; omega
    have HIN := Lib.hid (fun (s : DSeq) (hs : s ∈ n.2.1) => (show s.2.2.length ≤ 1048576 by have := (seq_ins (hP.seq s hs)).1; omega))
    clear hP
    go_wp2_with fail
    refine (grow_at (bareN n []) _ _ (rd_bare (rdUp good_Net HD.out HB.out)) (bare_size HP.out.sz (by simp)) HIN.out).mono ?_
    rintro e w2 ⟨g, Mb, v1, vA0, v3, rows, bs, rfl, hgr, hb⟩
    have HE := Lib.hid (And.intro d0 (And.intro d1 (And.intro d2 d3)))
    have HW1 := Lib.hid HB.out
    have HG := Lib.hid hgr
    have HBL := Lib.hid hb
    have HRES1 := HRES
    have hw12 := hb.size
    replace d0 := keep hb d0
    replace d1 := keep hb d1
    replace d2 := keep hb d2
    replace d3 := keep hb d3
    replace HB := Lib.hid (bThen HB.out hb)
    replace HRES := Lib.hid (HRES.out.at (hb.block _ HRES.out.lt))
    have hFw := HRES.out.lt
    clear hb hgr
    go_wp2_with fail
    refine (leaf_at n _ _ (rdUp good_Net HD.out HB.out) HP.out.sz).mono ?_
    rintro e w3 ⟨vc, rfl, hoc, hb⟩
    replace d0 := keep hb d0
    replace d1 := keep hb d1
    replace d2 := keep hb d2
    replace d3 := keep hb d3
    have HC := Lib.hid (show OwnsI w3 w2.heap.size vc (hashK n 0).2 from hoc)
    have HNE := Lib.hid (show ∀ b, vc.ownBlock = some b → ¬ (b = g ∨ b = Mb ∨ b ∈ blkL v1 ++ (bs ++ (blkL vA0 ++ blkL v3))) from fun b e hm => by have h1 := (hoc.lt b e).1; have h2 := (HG.out.lt hm).1; omega)
    replace HG := Lib.hid (show GrowAt w1.heap.size w3 g Mb v1 vA0 v3 rows bs (bareN n (hashK n 0).1.2.2.1) from HG.out.below hb)
    replace HBL := Lib.hid (bThen HBL.out hb)
    obtain ⟨cA, cc, rfl, -⟩ := hoc.shape
    have hw1 := HW1.out.size
    have hw23 := hb.size
    clear hb hoc
    go_wp2
    clear d0 d1 d2 d3
    go_loopw [4, 22] (fun s z wr => ∃ (k : Nat) (vA : Value) (B : Option Addr) (d : Nat), k ≤ n.2.2.1.length ∧ z = .int .i64 (k : Int) ∧ s = .slice B (hashK n k).2.length d ∧ OwnsI wr w2.heap.size (.slice B (hashK n k).2.length d) (hashK n k).2 ∧ GrowAt w1.heap.size wr g Mb v1 vA v3 rows bs (bareN n (hashK n k).1.2.2.1) ∧ (∀ b, (Value.slice B (hashK n k).2.length d).ownBlock = some b → ¬ (b = g ∨ b = Mb ∨ b ∈ blkL v1 ++ (bs ++ (blkL vA ++ blkL v3)))) ∧ w2.heap.size ≤ wr.heap.size ∧ Below w1.heap.size w1 wr) (fun _ z _ => n.2.2.1.length - (intOf z).toNat)
    case atStart => exact ⟨0, vA0, cA, cc, Nat.zero_le _, rfl, rfl, HC.out, HG.out, HNE.out, hw23, HBL.out⟩
    case round =>
      obtain ⟨k, vA, B, d, hk, rfl, rfl, hC, hG, hne, hw2r, hb⟩ := hrel
      obtain ⟨w3, rfl⟩ : ∃ w3, w3 = wr := ⟨_, rfl⟩
      clear HG HC HNE HBL
      have HC := Lib.hid hC
      have HG := Lib.hid hG
      have HNE := Lib.hid hne
      have HBL := Lib.hid hb
      have HBW := Lib.hid (bThen HW1.out hb)
      have hwl := hb.size
      have hw0 : w.heap.size < w3.heap.size := by omega
      have c0 := keep hb HE.out.1
      have c1 := keep hb HE.out.2.1
      have c2 := keep hb HE.out.2.2.1
      have c3 := keep hb HE.out.2.2.2
      clear hC hG hne hb
      by_cases hlt : k < n.2.2.1.length
      · obtain ⟨a, ha⟩ : ∃ a, n.2.2.1[k]? = some a := ⟨_, List.getElem?_eq_getElem hlt⟩
        obtain ⟨p, q, rfl, hp, hq⟩ := HP.out.and_ k a ha
        obtain ⟨ab, aq, rfl, ab1, x0, xf0, x1, xf1⟩ := at_And (good_AndS.below mR2.out (Nat.le_refl _) HBW.out) ha
        have ab2 := Nat.lt_of_lt_of_le ab1 HBW.out.size
        have tk : (k : Int) < (n.2.2.1.length : Int) := by omega
        have HPF := Lib.hid (show Fit (p : Int) from xf0)
        have HQF := Lib.hid (show Fit (q : Int) from xf1)
        obtain ⟨y, hst1, -, hst2, hy0, hy1⟩ := hash_step HP.out ha
        obtain ⟨tp, htp⟩ := hash_lit HP.out (k := k) (by omega) hp
        obtain ⟨tq, htq⟩ := hash_lit HP.out (k := k) (by omega) hq
        have hlen := hash_len HP.out (k := k) (by omega)
        have hbd := hashK_bd HP.out (k := k) (by omega)
        obtain ⟨KA, hKA⟩ : ∃ KA, (hashK n k).1.2.2.1 = KA := ⟨_, rfl⟩
        obtain ⟨KL, hKL⟩ : ∃ KL, (hashK n k).2 = KL := ⟨_, rfl⟩
        obtain ⟨KB, hKB⟩ : ∃ KB, (hashK n (k + 1)).1.2.2.1 = KB := ⟨_, rfl⟩
        rw [hKA] at HG hst1 hlen
        rw [hKL] at HC HNE hst1 hst2 htp htq hlen hbd
        rw [hKB] at hst1
        rw [hKL]
        obtain ⟨px, hpx⟩ : ∃ px, mapI KL (p : Int) = px := ⟨_, rfl⟩
        obtain ⟨qx, hqx⟩ : ∃ qx, mapI KL (q : Int) = qx := ⟨_, rfl⟩
        have HMP := Lib.hid hpx
        have HMQ := Lib.hid hqx
        have HPX := Lib.hid (show Fit px by rw [← hpx]; have := mapI_bd (l := (p : Int)) (fun x hx => ⟨by have := (hbd x hx).1; omega, by have := (hbd x hx).2; omega⟩); unfold Fit; omega)
        have HQX := Lib.hid (show Fit qx by rw [← hqx]; have := mapI_bd (l := (q : Int)) (fun x hx => ⟨by have := (hbd x hx).1; omega, by have := (hbd x hx).2; omega⟩); unfold Fit; omega)
        have HKF := Lib.hid (show ∀ x ∈ KL, Fit x from fun x hx => by have := hbd x hx; unfold Fit; omega)
        rw [hpx, hqx] at hst1
        have HST := Lib.hid (And.intro (show andG (firN (bareN n KA)) (bareN n KA).2.2.1 px qx = (KB, y) from hst1) (And.intro hst2 hKB))
        have HTP := Lib.hid htp
        have HTQ := Lib.hid htq
        have hla : KA.length ≤ 300 := by omega
        have hll : KL.length ≤ 400 := by omega
        clear ha hp hq xf0 xf1 ab1 hKA hKL hKB hst1 hst2 htp htq hlen hbd hpx hqx
        go_wp2_with fail
        obtain ⟨V, hV⟩ : ∃ V, V = w3.alloc (.cells #[.int .i64 (p : Int), .int .i64 (q : Int)] 67) := ⟨_, rfl⟩
        rw [← hV]
        have gN := eqbox1 hV
        obtain ⟨q0, hq0⟩ : ∃ q0, q0 = w3.heap.size := ⟨_, rfl⟩
        rw [← hq0] at gN ⊢
        have y0 : V.cell? ⟨q0, 0, none⟩ = some (.int .i64 (p : Int)) := box_cell gN.1 0 _ rfl
        have y1 : V.cell? ⟨q0, 1, none⟩ = some (.int .i64 (q : Int)) := box_cell gN.1 1 _ rfl
        have HBV := Lib.hid (show Below w3.heap.size w3 V by rw [hV]; exact bAlloc (Below.refl _ _) (Nat.le_refl _) _)
        have hqq : w3.heap.size ≤ q0 := Nat.le_of_eq hq0.symm
        have HQO := Lib.hid (show q0 ∉ g :: Mb :: blkL vA from fun hm => by
          have hm2 : q0 = g ∨ q0 = Mb ∨ q0 ∈ blkL v1 ++ (bs ++ (blkL vA ++ blkL v3)) := by
            rcases List.mem_cons.1 hm with hm | hm
            · exact .inl hm
            rcases List.mem_cons.1 hm with hm | hm
            · exact .inr (.inl hm)
            · exact .inr (.inr (by simp [hm]))
          have := (HG.out.lt hm2).1; omega)
        have HCV := Lib.hid (HC.out.below HBV.out)
        have HGV := Lib.hid (HG.out.below HBV.out)
        have HBLV := Lib.hid (bThen HBL.out HBV.out)
        clear hV gN hq0 x0 x1 c0 c1 c2 c3
        have hS0 : (fun w' => w'.cell? ⟨q0, 0, none⟩ = some (.int .i64 (p : Int)) ∧ w'.cell? ⟨q0, 1, none⟩ = some (.int .i64 (q : Int))) V := ⟨y0, y1⟩
        have hS : ∀ {w0 w' : World}, (fun w' => w'.cell? ⟨q0, 0, none⟩ = some (.int .i64 (p : Int)) ∧ w'.cell? ⟨q0, 1, none⟩ = some (.int .i64 (q : Int))) w0 → Below w0.heap.size w0 w' → (fun w' => w'.cell? ⟨q0, 0, none⟩ = some (.int .i64 (p : Int)) ∧ w'.cell? ⟨q0, 1, none⟩ = some (.int .i64 (q : Int))) w' := fun h hb => ⟨keep hb h.1, keep hb h.2⟩
        dsimp only at hS0 hS
        refine wp_region_noPanic ?_
        refine wp_region_kept 12 14 (fun w' => w'.cell? ⟨q0, 0, none⟩ = some (.int .i64 (p : Int)) ∧ w'.cell? ⟨q0, 1, none⟩ = some (.int .i64 (q : Int))) (by kernel_rfl) rfl (hS hS0 (Below.drew (Below.refl _ _))) (fun hK0 => ?_)
        refine Kept.take (v := ?vc0) 0 (by kernel_rfl) rfl (by kernel_rfl) (fun _ _ _ h => h) (Or.inl ⟨by rfl, ?hyc0⟩) hK0 ?restc0
        case hyc0 =>
          intro w0 hSw
          (try dsimp only at hSw)
          go_simp
          all_goals (with_reducible rfl)
        (try simp only [Act.put, List.setIfInBounds_toArray, List.set_cons_zero, List.set_cons_succ])
        refine Kept.take (v := ?vc1) 1 (by kernel_rfl) rfl (by kernel_rfl) (fun _ _ _ h => h) (Or.inl ⟨by rfl, ?hyc1⟩) hK0 ?restc1
        case hyc1 =>
          intro w0 hSw
          (try dsimp only at hSw)
          go_simp
          all_goals (with_reducible rfl)
        (try simp only [Act.put, List.setIfInBounds_toArray, List.set_cons_zero, List.set_cons_succ])
        refine Kept.take (v := ?vc2) 2 (by kernel_rfl) rfl (by kernel_rfl) (fun _ _ _ h => h) (Or.inl ⟨by rfl, ?hyc2⟩) hK0 ?restc2
        case hyc2 =>
          intro w0 hSw
          (try dsimp only at hSw)
          go_simp
          all_goals (with_reducible rfl)
        (try simp only [Act.put, List.setIfInBounds_toArray, List.set_cons_zero, List.set_cons_succ])
        refine Kept.take (v := ?vc3) 3 (by kernel_rfl) rfl (by kernel_rfl) (fun _ _ _ h => h) (Or.inl ⟨by rfl, ?hyc3⟩) hK0 ?restc3
        case hyc3 =>
          intro w0 hSw
          (try dsimp only at hSw)
          go_simp
          all_goals (with_reducible rfl)
        (try simp only [Act.put, List.setIfInBounds_toArray, List.set_cons_zero, List.set_cons_succ])
        refine Kept.take (v := ?vc4) 4 (by kernel_rfl) rfl (by kernel_rfl) (fun _ _ _ h => h) (Or.inl ⟨by rfl, ?hyc4⟩) hK0 ?restc4
        case hyc4 =>
          intro w0 hSw
          (try dsimp only at hSw)
          go_simp
          all_goals (with_reducible rfl)
        (try simp only [Act.put, List.setIfInBounds_toArray, List.set_cons_zero, List.set_cons_succ])
        refine Kept.take (v := ?vc6) 6 (by kernel_rfl) rfl (by kernel_rfl) (fun _ _ _ h => h) (Or.inl ⟨by rfl, ?hyc6⟩) hK0 ?restc6
        case hyc6 =>
          intro w0 hSw
          (try dsimp only at hSw)
          go_simp
          all_goals (with_reducible rfl)
        (try simp only [Act.put, List.setIfInBounds_toArray, List.set_cons_zero, List.set_cons_succ])
        refine Kept.take (v := ?vc7) 7 (by kernel_rfl) rfl (by kernel_rfl) (fun _ _ _ h => h) (Or.inl ⟨by rfl, ?hyc7⟩) hK0 ?restc7
        case hyc7 =>
          intro w0 hSw
          (try dsimp only at hSw)
          go_simp
          all_goals (with_reducible rfl)
        (try simp only [Act.put, List.setIfInBounds_toArray, List.set_cons_zero, List.set_cons_succ])
        refine Kept.take (v := ?vc8) 8 (by kernel_rfl) rfl (by kernel_rfl) (fun _ _ _ h => h) (Or.inl ⟨by rfl, ?hyc8⟩) hK0 ?restc8
        case hyc8 =>
          intro w0 hSw
          (try dsimp only at hSw)
          go_simp
          all_goals (with_reducible rfl)
        (try simp only [Act.put, List.setIfInBounds_toArray, List.set_cons_zero, List.set_cons_succ])
        refine Kept.one 5 (by kernel_rfl) rfl (fun K hK => ?_)
        go_simp
        go_at_call 53
        refine (of_at KL p tp HTP.out _ _ (ownI_rd (HCV.out.below (Below.drew (Below.refl _ _))) HKF.out) HPF.out HMP.out).mono ?_
        rintro e wr0 ⟨rfl, hbr0⟩
        have HBR0 := Lib.hid (bThen (Below.drew (Below.refl V.heap.size V)) hbr0)
        go_simp
        refine hK.out _ _ (hS hK0 hbr0) (fun hK1 => ?_)
        clear hK K hK0
        (try simp only [Act.put, List.setIfInBounds_toArray, List.set_cons_zero, List.set_cons_succ])
        refine Kept.one 9 (by kernel_rfl) rfl (fun K hK => ?_)
        go_simp
        go_at_call 53
        refine (of_at KL q tq HTQ.out _ _ (ownI_rd (HCV.out.below HBR0.out) HKF.out) HQF.out HMQ.out).mono ?_
        rintro e wr1 ⟨rfl, hbr1⟩
        have HBR1 := Lib.hid (bThen HBR0.out hbr1)
        go_simp
        refine hK.out _ _ (hS hK1 hbr1) (fun hK2 => ?_)
        clear hK K hK1
        (try simp only [Act.put, List.setIfInBounds_toArray, List.set_cons_zero, List.set_cons_succ])
        refine Kept.one 10 (by kernel_rfl) rfl (fun K hK => ?_)
        go_simp
        go_at_call 52
        refine (gAnd_at (bareN n KA) px qx w1.heap.size g Mb v1 vA v3 rows bs _ (HGV.out.below HBR1.out) (Nat.le_trans HBLV.out.size HBR1.out.size) (bare_size HP.out.sz hla) HPX.out HQX.out HST.out.1).mono ?_
        rintro e wr2 ⟨rfl, hgt⟩
        have HGT := Lib.hid hgt
        obtain ⟨vA2, -, hch2, -⟩ := hgt
        have hS2 : wr2.cell? ⟨q0, 0, none⟩ = some (.int .i64 (p : Int)) ∧ wr2.cell? ⟨q0, 1, none⟩ = some (.int .i64 (q : Int)) := ⟨chg_cell hch2 HQO.out hK2.1, chg_cell hch2 HQO.out hK2.2⟩
        go_simp
        refine hK.out _ _ (hS2) (fun hK3 => ?_)
        clear hK K hK2
        (try simp only [Act.put, List.setIfInBounds_toArray, List.set_cons_zero, List.set_cons_succ])
        refine Kept.one 11 (by kernel_rfl) rfl (fun K hK => ?_)
        go_simp
        refine hK.out _ _ (hS hK3 (bAlloc (Below.refl _ _) (Nat.le_refl _) _)) (fun hK4 => ?_)
        clear hK K hK3
        (try simp only [Act.put, List.setIfInBounds_toArray, List.set_cons_zero, List.set_cons_succ])
        refine Kept.tail (by rfl) (by kernel_rfl) ?_
        simp only [List.drop_succ_cons, List.drop_zero]
        obtain ⟨vA3, hg2, hch3, hnew2⟩ := HGT.out
        have hs1 := HBR1.out.size
        have hs0 := HBV.out.size
        have hs2 := hch3.size
        have HG2 := Lib.hid (show GrowAt w1.heap.size wr2 g Mb v1 vA3 v3 rows bs (bareN n KB) from hg2)
        have HNM := Lib.hid (show ∀ b, (Value.slice B KL.length d).ownBlock = some b → b ∉ g :: Mb :: blkL vA from fun b e hm => HNE.out b e (by
          rcases List.mem_cons.1 hm with hm | hm
          · exact .inl hm
          rcases List.mem_cons.1 hm with hm | hm
          · exact .inr (.inl hm)
          · exact .inr (.inr (by simp [hm]))))
        have HC2 := Lib.hid ((HCV.out.below HBR1.out).atI (w' := wr2) fun j hj => hch3.block j (Nat.lt_of_lt_of_le (HC.out.lt j hj).2 (by omega)) (HNM.out j hj))
        have HN2 := Lib.hid (show ∀ b, (Value.slice B KL.length d).ownBlock = some b → ¬ (b = g ∨ b = Mb ∨ b ∈ blkL v1 ++ (bs ++ (blkL vA3 ++ blkL v3))) from fun b e hm => by
          have hbl := (HC.out.lt b e).2
          rcases hm with hm | hm | hm
          · exact HNE.out b e (.inl hm)
          · exact HNE.out b e (.inr (.inl hm))
          · simp only [List.mem_append] at hm
            rcases hm with hm | hm | hm | hm
            · exact HNE.out b e (.inr (.inr (by simp [hm])))
            · exact HNE.out b e (.inr (.inr (by simp [hm])))
            · rcases hnew2 b hm with hm | hm
              · exact HNE.out b e (.inr (.inr (by simp [hm])))
              · omega
            · exact HNE.out b e (.inr (.inr (by simp [hm]))))
        have HB2 := Lib.hid ((HGV.out.below HBR1.out).chg (bThen HBLV.out HBR1.out) (Nat.le_refl _) hch3 (bThen HBLV.out HBR1.out).size)
        have HBA := Lib.hid (show Below wr2.heap.size wr2 (wr2.alloc (.cells #[.int .i64 y] 3)) from bAlloc (Below.refl _ _) (Nat.le_refl _) _)
        have HNBk := Lib.hid (show (wr2.alloc (.cells #[.int .i64 y] 3)).heap[wr2.heap.size]? = some (.cells #[.int .i64 y] 3 (0, 0)) from heap_alloc_new _ _)
        have hsz := Lib.hid (show w2.heap.size ≤ (wr2.alloc (.cells #[.int .i64 y] 3)).heap.size from Nat.le_trans (by omega) HBA.out.size)
        have HOA := Lib.hid (HC2.out.below HBA.out)
        clear hK4 hS2 hS0 hS hg2 hch2 hch3 hnew2 y0 y1
        go_wp2_with (at_builtin; refine wpList_append_all (by rfl) _ _ 64 (by rfl) w2.heap.size 3 i0 (.int .i64 0) 1 8 Try.underlying64 hi hz0 hz1 hz2 rfl (by omega) (.slice B KL.length d) KL.length (KL.map vI) (by rfl) HOA.out (some ⟨wr2.heap.size, 0, none⟩) 1 1 [.int .i64 y] (by rfl) (by rfl) (.inr ⟨_, rfl, World.news_of_block HNBk.out⟩) (by simp [Value.oneCell']) (by unfold maxLen; omega) (by omega) hsz.out ?_; intro A' c' w7 hown7 hgrow7 hkeep7 hat7)
        refine NoPanic.normal ?_
        have HB7 := Lib.hid ((bThen HB2.out HBA.out).grown hgrow7 (bThen HB2.out HBA.out).size (fun g hg => Nat.le_trans hw12 (HC2.out.lt g hg).1))
        have HO7 := Lib.hid (own_int hown7)
        have HG7 := Lib.hid (GrowAt.at (w' := w7) (HG2.out.below HBA.out) fun b hm => hgrow7.block b (Nat.lt_of_lt_of_le (HG2.out.lt hm).1 HBA.out.size) (fun e => HN2.out b e.symm hm))
        have HN7 := Lib.hid (show ∀ b, (Value.slice A' (KL.length + 1) c').ownBlock = some b → ¬ (b = g ∨ b = Mb ∨ b ∈ blkL v1 ++ (bs ++ (blkL vA3 ++ blkL v3))) from fun b e hm => by
          rcases hat7 with h | h
          · exact HN2.out b (h.symm.trans e) hm
          · rw [e] at h; injection h with h; have := (HG2.out.lt hm).1; have := HBA.out.size; omega)
        have HW7 := Lib.hid (show w2.heap.size ≤ w7.heap.size from Nat.le_trans hsz.out hgrow7.size)
        clear hown7 hgrow7 hkeep7 hat7 hsz
        go_wp2
        go_roundw
        case rel =>
          refine ⟨k + 1, vA3, A', c', by omega, by go_num, ?_, ?_, ?_, ?_, HW7.out, HB7.out⟩
          · rw [HST.out.2.1, List.length_append]; rfl
          · rw [HST.out.2.1, List.length_append]; exact HO7.out
          · rw [HST.out.2.2]; exact HG7.out
          · rw [HST.out.2.1, List.length_append]; exact HN7.out
        case measure => simp [intOf] <;> omega
      · obtain rfl : k = n.2.2.1.length := by omega
        have hbd := hashK_bd HP.out (k := n.2.2.1.length) (Nat.le_refl _)
        have hmr := hash_root HP.out
        have hlen := hash_len HP.out (k := n.2.2.1.length) (Nat.le_refl _)
        obtain ⟨KA, hKA⟩ : ∃ KA, (hashK n n.2.2.1.length).1.2.2.1 = KA := ⟨_, rfl⟩
        obtain ⟨KL, hKL⟩ : ∃ KL, (hashK n n.2.2.1.length).2 = KL := ⟨_, rfl⟩
        have hm : sweepO (rootsTo n KA KL) = m := by rw [← HX.out]; unfold hashO; rw [if_pos HF.out, hKA, hKL]
        have HXR := Lib.hid hm
        rw [hKA] at HG hlen
        rw [hKL] at HC hbd hmr
        rw [hKL]
        have HM := Lib.hid hmr
        have HBD := Lib.hid (show ∀ x ∈ KL, -1 ≤ x ∧ x ≤ 10000 from fun x hx => ⟨by have := (hbd x hx).1; omega, by have := (hbd x hx).2; omega⟩)
        have HKF := Lib.hid (show ∀ x ∈ KL, Fit x from fun x hx => by have := hbd x hx; unfold Fit; omega)
        obtain ⟨A2, k2, rfl⟩ := HG.out.net.a.cap fAnd_len
        have h2 : w3.cell? ⟨g, 2, none⟩ = some (.slice A2 KA.length k2) := HG.out.box.cells.1.2.2.1
        have hla : KA.length ≤ 300 := by omega
        have HRES3 := Lib.hid (HRES1.out.at (HBL.out.block _ HRES1.out.lt))
        clear hlt hmr hbd hlen hm hKA hKL
        go_wp2_with fail
        have hS0 : (fun w' => Below w3.heap.size w3 w' ∧ w'.cell? ⟨w.heap.size, 0, none⟩ = some (.int .i64 n.1) ∧ w'.cell? ⟨w.heap.size, 1, none⟩ = some (.slice mA1 (n.2.1).length mc1) ∧ w'.cell? ⟨w.heap.size, 2, none⟩ = some (.slice mA2 (n.2.2.1).length mc2) ∧ w'.cell? ⟨w.heap.size, 3, none⟩ = some (.slice mA3 (n.2.2.2).length mc3) ∧ w'.cell? ⟨g, 2, none⟩ = some (.slice A2 KA.length k2)) w3 := ⟨Below.refl _ _, c0, c1, c2, c3, h2⟩
        have hS : ∀ {w0 w' : World}, (fun w' => Below w3.heap.size w3 w' ∧ w'.cell? ⟨w.heap.size, 0, none⟩ = some (.int .i64 n.1) ∧ w'.cell? ⟨w.heap.size, 1, none⟩ = some (.slice mA1 (n.2.1).length mc1) ∧ w'.cell? ⟨w.heap.size, 2, none⟩ = some (.slice mA2 (n.2.2.1).length mc2) ∧ w'.cell? ⟨w.heap.size, 3, none⟩ = some (.slice mA3 (n.2.2.2).length mc3) ∧ w'.cell? ⟨g, 2, none⟩ = some (.slice A2 KA.length k2)) w0 → Below w0.heap.size w0 w' → (fun w' => Below w3.heap.size w3 w' ∧ w'.cell? ⟨w.heap.size, 0, none⟩ = some (.int .i64 n.1) ∧ w'.cell? ⟨w.heap.size, 1, none⟩ = some (.slice mA1 (n.2.1).length mc1) ∧ w'.cell? ⟨w.heap.size, 2, none⟩ = some (.slice mA2 (n.2.2.1).length mc2) ∧ w'.cell? ⟨w.heap.size, 3, none⟩ = some (.slice mA3 (n.2.2.2).length mc3) ∧ w'.cell? ⟨g, 2, none⟩ = some (.slice A2 KA.length k2)) w' := fun h hb => ⟨bThen h.1 hb, keep hb h.2.1, keep hb h.2.2.1, keep hb h.2.2.2.1, keep hb h.2.2.2.2.1, keep hb h.2.2.2.2.2⟩
        dsimp only at hS0 hS
        refine wp_region_noPanic ?_
        refine wp_region_kept 8 11 (fun w' => Below w3.heap.size w3 w' ∧ w'.cell? ⟨w.heap.size, 0, none⟩ = some (.int .i64 n.1) ∧ w'.cell? ⟨w.heap.size, 1, none⟩ = some (.slice mA1 (n.2.1).length mc1) ∧ w'.cell? ⟨w.heap.size, 2, none⟩ = some (.slice mA2 (n.2.2.1).length mc2) ∧ w'.cell? ⟨w.heap.size, 3, none⟩ = some (.slice mA3 (n.2.2.2).length mc3) ∧ w'.cell? ⟨g, 2, none⟩ = some (.slice A2 KA.length k2)) (by kernel_rfl) rfl (hS hS0 (Below.drew (Below.refl _ _))) (fun hK0 => ?_)
        refine Kept.take (v := ?ve0) 0 (by kernel_rfl) rfl (by kernel_rfl) (fun _ _ _ h => h) (Or.inl ⟨by rfl, ?hye0⟩) hK0 ?reste0
        case hye0 =>
          intro w0 hSw
          (try dsimp only at hSw)
          go_simp
          all_goals (with_reducible rfl)
        (try simp only [Act.put, List.setIfInBounds_toArray, List.set_cons_zero, List.set_cons_succ])
        refine Kept.take (v := ?ve1) 1 (by kernel_rfl) rfl (by kernel_rfl) (fun _ _ _ h => h) (Or.inl ⟨by rfl, ?hye1⟩) hK0 ?reste1
        case hye1 =>
          intro w0 hSw
          (try dsimp only at hSw)
          go_simp
          all_goals (with_reducible rfl)
        (try simp only [Act.put, List.setIfInBounds_toArray, List.set_cons_zero, List.set_cons_succ])
        refine Kept.take (v := ?ve2) 2 (by kernel_rfl) rfl (by kernel_rfl) (fun _ _ _ h => h) (Or.inl ⟨by rfl, ?hye2⟩) hK0 ?reste2
        case hye2 =>
          intro w0 hSw
          (try dsimp only at hSw)
          go_simp
          all_goals (with_reducible rfl)
        (try simp only [Act.put, List.setIfInBounds_toArray, List.set_cons_zero, List.set_cons_succ])
        refine Kept.take (v := ?ve3) 3 (by kernel_rfl) rfl (by kernel_rfl) (fun _ _ _ h => h) (Or.inl ⟨by rfl, ?hye3⟩) hK0 ?reste3
        case hye3 =>
          intro w0 hSw
          (try dsimp only at hSw)
          go_simp
          all_goals (with_reducible rfl)
        (try simp only [Act.put, List.setIfInBounds_toArray, List.set_cons_zero, List.set_cons_succ])
        refine Kept.take (v := ?ve4) 4 (by kernel_rfl) rfl (by kernel_rfl) (fun _ _ _ h => h) (Or.inl ⟨by rfl, ?hye4⟩) hK0 ?reste4
        case hye4 =>
          intro w0 hSw
          (try dsimp only at hSw)
          go_simp
          all_goals (with_reducible rfl)
        (try simp only [Act.put, List.setIfInBounds_toArray, List.set_cons_zero, List.set_cons_succ])
        refine Kept.take (v := ?ve5) 5 (by kernel_rfl) rfl (by kernel_rfl) (fun _ _ _ h => h) (Or.inl ⟨by rfl, ?hye5⟩) hK0 ?reste5
        case hye5 =>
          intro w0 hSw
          (try dsimp only at hSw)
          go_simp
          all_goals (with_reducible rfl)
        (try simp only [Act.put, List.setIfInBounds_toArray, List.set_cons_zero, List.set_cons_succ])
        refine Kept.take (v := ?ve6) 6 (by kernel_rfl) rfl (by kernel_rfl) (fun _ _ _ h => h) (Or.inl ⟨by rfl, ?hye6⟩) hK0 ?reste6
        case hye6 =>
          intro w0 hSw
          (try dsimp only at hSw)
          go_simp
          all_goals (with_reducible rfl)
        (try simp only [Act.put, List.setIfInBounds_toArray, List.set_cons_zero, List.set_cons_succ])
        refine Kept.take (v := ?ve7) 7 (by kernel_rfl) rfl (by kernel_rfl) (fun _ _ _ h => h) (Or.inl ⟨by rfl, ?hye7⟩) hK0 ?reste7
        case hye7 =>
          intro w0 hSw
          (try dsimp only at hSw)
          go_simp
          all_goals (with_reducible rfl)
        (try simp only [Act.put, List.setIfInBounds_toArray, List.set_cons_zero, List.set_cons_succ])
        refine Kept.tail (by rfl) (by kernel_rfl) ?_
        simp only [List.drop_succ_cons, List.drop_zero]
        obtain ⟨w4, hw4⟩ : ∃ x, x = w3.drew := ⟨_, rfl⟩
        have hb4 : Below w3.heap.size w3 w4 := by rw [hw4]; exact Below.drew (Below.refl _ _)
        rw [← hw4]
        have HBW4 := Lib.hid (bThen HBW.out hb4)
        have HG4 := Lib.hid (HG.out.below hb4)
        have HC4 := Lib.hid (HC.out.below hb4)
        have HRES4 := Lib.hid (HRES3.out.at (hb4.block _ HRES3.out.lt))
        have hs34 := hb4.size
        clear hw4 hb4 hK0 hS hS0 c0 c1 c2 c3 h2
        go_wp2_with fail
        refine (rebM_at n KA _ _ w4 (rdUp good_Net HD.out HBW4.out) (good_AndS.wider (HG4.out.net.a.rd fAnd_len rds_And gow_And) (Nat.zero_le _) (Nat.le_refl _)) KL _ (ownI_rd HC4.out HKF.out) (fun s hs x hx => HM.out x (mem_rootsS hs hx)) (fun x hx => HM.out x (mem_rootsO hx)) (fun x hx => by have := mapI_bd (l := x) HBD.out; unfold Fit; omega) (by omega) HIN.out (by omega) (by omega)).mono ?_
        rintro e w5 ⟨q1, qA, q3, rows5, bs5, rfl, hnet, hb5⟩
        have HN5 := Lib.hid (show NetG w4.heap.size w5 q1 qA q3 rows5 bs5 (rootsTo n KA KL) from hnet)
        have HB5 := Lib.hid (bThen HBW4.out hb5)
        have HRES5 := Lib.hid (HRES4.out.at (hb5.block _ HRES4.out.lt))
        have hs45 := hb5.size
        clear hnet hb5
        go_wp2_with fail
        refine (implSweep_at (rootsTo n KA KL) [.int .i64 n.1, q1, qA, q3] _ HN5.out.rd0 HXR.out).mono ?_
        rintro e w6 ⟨u1, uA, u3, rows6, bs6, rfl, hnet, hb6⟩
        obtain ⟨B1, e1, rfl⟩ := hnet.s.cap fV3_len
        obtain ⟨B2, e2, rfl⟩ := hnet.a.cap fAnd_len
        obtain ⟨B3, e3, rfl⟩ := hnet.o.cap fInt_len
        have HN := Lib.hid hnet
        have HB6 := Lib.hid (bThen HB5.out hb6)
        have hs56 := hb6.size
        have hres := HRES5.out.at (hb6.block _ HRES5.out.lt)
        have f0 := hres.cells.1.1
        have f1 := hres.cells.1.2.1
        have f2 := hres.cells.1.2.2.1
        have f3 := hres.cells.1.2.2.2
        have fz := hres.cells.2
        clear hnet hb6 hres
        go_wp2
        refine NoPanic.normal ?_
        go_wp2
        ((try simp only [Exit.inBlock, Exit.then]); refine bodyPost_ret (v := (.agg #[.int .i64 m.1, .slice B1 m.2.1.length e1, .slice B2 m.2.2.1.length e2, .slice B3 m.2.2.2.length e3])) (by rw [results_cell1 rfl]; go_simp) rfl ?_)
        have P1 := (HN.out.at (w' := ((((w6.setCell ⟨w.heap.size + 1, 0, none⟩ (.int .i64 m.1)).setCell ⟨w.heap.size + 1, 1, none⟩ (.slice B1 m.2.1.length e1)).setCell ⟨w.heap.size + 1, 2, none⟩ (.slice B2 m.2.2.1.length e2)).setCell ⟨w.heap.size + 1, 3, none⟩ (.slice B3 m.2.2.2.length e3))) fun b h1 h2 h3 => far4 (by omega)).lower (B' := w.heap.size) (by omega)
        have P2 := bSet (bSet (bSet (bSet HB6.out (p := ⟨w.heap.size + 1, 0, none⟩) (Nat.le_succ _) (.int .i64 m.1)) (p := ⟨w.heap.size + 1, 1, none⟩) (Nat.le_succ _) (.slice B1 m.2.1.length e1)) (p := ⟨w.heap.size + 1, 2, none⟩) (Nat.le_succ _) (.slice B2 m.2.2.1.length e2)) (p := ⟨w.heap.size + 1, 3, none⟩) (Nat.le_succ _) (.slice B3 m.2.2.2.length e3)
        first | exact ⟨_, _, _, rows6, bs6, rfl, P1, P2⟩ | exact ⟨_, _, _, rfl, rows6, bs6, P1, P2⟩ | exact ⟨_, _, _, rfl, ⟨rows6, bs6, P1⟩, P2⟩
end Go.Proofs.Ytedamhkcblemdaa
